/- RawBits, walked. -/
import Derived.Test.YtahnioenoecfeaaRawBack
import Derived.Test.YtahnioenoecfeaaStr
import Derived.Deep.RegionWith
set_option linter.unusedVariables false
namespace Go.Proofs.Ytahnioenoecfeaa
open Go.RowKit

/-- The writer's state when of a byte x behind the bytes l the first j bits were written. -/
def bst (l : List Int) (x : Int) (j : Nat) : List Int × Nat := if j = 0 then (l, 0) else (l ++ [x / 2 ^ (8 - j) * 2 ^ (8 - j)], 8 - j)
theorem Wr.drew {w : World} {lo p : Nat} {it : List Int} {fr : Nat} (h : Wr w lo p it fr) (n : Nat) : Wr (w.drewN n) lo p it fr := h
theorem bst_num : ∀ (x : Fin 256) (j : Fin 7), ((x.val : Int) / 2 ^ (7 - j.val) * 2 ^ (7 - j.val) + ((x.val : Int) / 2 ^ (6 - j.val)) % 2 * 2 ^ (6 - j.val)) = (x.val : Int) / 2 ^ (6 - j.val) * 2 ^ (6 - j.val) := by decide +kernel
theorem bst_num0 : ∀ (x : Fin 256), ((x.val : Int) / 128 % 2 * 128) = (x.val : Int) / 128 * 128 := by decide +kernel
theorem bst_step {l : List Int} {x : Int} (hl : l.getLastD 0 ≠ 255) (hx : 0 ≤ x ∧ x ≤ 255) {j : Nat} (hj : j < 8) : wstep (bst l x j) (x / 2 ^ (7 - j)) = bst l x (j + 1) := by
  obtain ⟨y, rfl⟩ := Int.eq_ofNat_of_zero_le hx.1
  have hy : y < 256 := by omega
  rcases j with _ | j
  · have e : wnew l = 8 := if_neg hl
    have := bst_num0 ⟨y, hy⟩
    simp only at this
    unfold bst wstep
    rw [if_pos rfl, if_pos rfl, if_neg (by omega), e]
    show (l ++ [(y : Int) / 128 % 2 * 128], 7) = (l ++ [(y : Int) / 128 * 128], 7)
    rw [this]
  · have := bst_num ⟨y, hy⟩ ⟨j, by omega⟩
    simp only at this
    have e1 : bst l (y : Int) (j + 1) = (l ++ [(y : Int) / 2 ^ (8 - (j + 1)) * 2 ^ (8 - (j + 1))], 8 - (j + 1)) := if_neg (by omega)
    have e2 : bst l (y : Int) (j + 1 + 1) = (l ++ [(y : Int) / 2 ^ (8 - (j + 1 + 1)) * 2 ^ (8 - (j + 1 + 1))], 8 - (j + 1 + 1)) := if_neg (by omega)
    rw [e1, e2]
    unfold wstep
    rw [if_neg (by show ¬ 8 - (j + 1) = 0; omega)]
    rw [List.dropLast_concat, lastD_snoc]
    show (l ++ [(y : Int) / 2 ^ (8 - (j + 1)) * 2 ^ (8 - (j + 1)) + (y : Int) / 2 ^ (7 - (j + 1)) % 2 * 2 ^ (8 - (j + 1) - 1)], 8 - (j + 1) - 1) = _
    rw [show 8 - (j + 1) = 7 - j from by omega, show 7 - (j + 1) = 6 - j from by omega, show 7 - j - 1 = 6 - j from by omega, show 8 - (j + 1 + 1) = 6 - j from by omega, this]
theorem bst_eight (l : List Int) (x : Int) : bst l x 8 = (l ++ [x], 0) := by
  unfold bst
  simp

set_option maxHeartbeats 8000000 in
theorem walk_rawBits (a0 : Option Addr) (len0 cap0 : Nat) (z0 : List Int) (w : World) (w0 : IsRow .u8 w a0 len0 cap0 z0) :
    Calls Try.prog 8 #[.slice a0 len0 cap0] w fun e w' => e = .returned (.bool true) ∧ Below w.heap.size w w' := by
  have hl := lst_of_row w0
  obtain ⟨hlen, hlc, hcm, hnil⟩ := row_len w0
  have hb8 := row_u8 w0
  clear w0
  generalize hz : z0.take len0 = l at *
  clear hz
  have HL := Lib.hid hl
  have HLen := Lib.hid hlen
  have HB8 := Lib.hid hb8
  unfold maxLen at hcm
  clear hl hlen hnil hb8
  by_cases c : len0 ≤ 100
  · have cI : ¬ (100 : Int) < (len0 : Int) := by omega
    go_enter Try.func8, Try.ntmps8
    go_wp2_with fail
    refine (known5 _).mono ?_
    rintro e w1 ⟨rfl, b1⟩
    go_wp2_with fail
    refine (wnew_any _).mono ?_
    rintro e w2 ⟨p, rfl, h2, b2⟩
    have s1 := b1.size
    have b2 := b1.trans (b2.mono s1)
    have H2 := Lib.hid h2
    clear b1 h2 cI
    go_wp2
    go_loopw [4] (fun i wr => ∃ k : Nat, k ≤ len0 ∧ i = .int .i64 (k : Int) ∧ Wr wr w1.heap.size p (l.take k) 0 ∧ WOk (l.take k, 0) ∧ (l.take k).getLastD 0 ≠ 255 ∧ Below w.heap.size w wr ∧ w1.heap.size ≤ wr.heap.size) (fun i _ => len0 - (intOf i).toNat)
    case atStart => exact ⟨0, by omega, rfl, by simpa using H2.out, by simpa [wrun] using wrun_ok [], by simp, b2, by have := H2.out.lt; have := H2.out.1; omega⟩
    case round =>
      obtain ⟨k, kn, rfl, hw, ok, hne, hb, hs⟩ := hrel
      clear H2 b2
      by_cases c1 : k < len0
      · obtain ⟨b, o, rfl, hbb, f1⟩ := lst_at (HL.out.below hb) (k := k) (by rw [HLen.out]; omega)
        have c3 : (k : Int) < (len0 : Int) := by omega
        have htk : l.take (k + 1) = l.take k ++ [l.getD k 0] := by
          rw [List.take_add_one, List.getD_eq_getElem?_getD, List.getElem?_eq_getElem (by rw [HLen.out]; exact c1)]; rfl
        have hx := HB8.out (l.getD k 0) (by rw [List.getD_eq_getElem?_getD, List.getElem?_eq_getElem (by rw [HLen.out]; exact c1)]; exact List.getElem_mem _)
        have hlk : (l.take k).length ≤ 100 := by rw [List.length_take]; omega
        obtain ⟨x, hxe⟩ : ∃ x, l.getD k 0 = x := ⟨_, rfl⟩
        rw [hxe] at f1 htk hx
        have HX := Lib.hid hxe
        clear hxe
        have HW := Lib.hid hw
        have HT := Lib.hid htk
        have HK := Lib.hid (And.intro ok hne)
        clear hw htk ok hne
        by_cases h255 : x = 255
        · subst h255
          go_wp2
          go_ret
          exact ⟨rfl, hb⟩
        · have hxb : (x == 255) = false := by simpa using h255
          generalize l.take k = q at *
          go_wp2
          go_loopw [5] (fun i wr2 => ∃ t : Nat, t ≤ 8 ∧ i = .int .i64 ((t : Int) - 1) ∧ Wr wr2 w1.heap.size p (bst q x (8 - t)).1 (bst q x (8 - t)).2 ∧ WOk (bst q x (8 - t)) ∧ Below w.heap.size w wr2 ∧ w1.heap.size ≤ wr2.heap.size) (fun i _ => (intOf i + 1).toNat)
          case atStart => exact ⟨8, by omega, rfl, HW.out, HK.out.1, hb, hs⟩
          case round =>
            obtain ⟨t, ht, rfl, hw2, ok2, hb2, hs2⟩ := hrel
            clear HW hb hs f1
            obtain ⟨b', o', e', hbb', f2⟩ := lst_at (HL.out.below hb2) (k := k) (by rw [HLen.out]; omega)
            injection e' with e'
            injection e' with e1 e2
            subst e1 e2
            rw [HX.out] at f2
            rcases t with _ | t
            · rw [show (8 : Nat) - 0 = 8 from rfl, bst_eight] at hw2 ok2
              have hw3 := hw2
              rw [← HT.out] at hw2 ok2
              have HW2 := Lib.hid hw2
              have HO2 := Lib.hid ok2
              have hlast : (l.take (k + 1)).getLastD 0 ≠ 255 := by rw [HT.out, lastD_snoc]; exact h255
              clear hw2 hw3 ok2 f2
              go_wp2
              go_roundw
              case rel => exact ⟨k + 1, by omega, by go_num, HW2.out, HO2.out, hlast, hb2, hs2⟩
              case measure => simp [intOf] <;> omega
            · have ht7 : t ≤ 7 := by omega
              have hst := bst_step (l := q) (x := x) HK.out.2 hx (j := 7 - t) (by omega)
              rw [show 7 - (7 - t) = t from by omega, show 7 - t + 1 = 8 - t from by omega] at hst
              rw [show 8 - (t + 1) = 7 - t from by omega] at hw2 ok2
              have hlb : (bst q x (7 - t)).1.length ≤ 200 := by
                unfold bst; split
                · show q.length ≤ 200; omega
                · show (q ++ [_]).length ≤ 200
                  rw [List.length_append]
                  show q.length + 1 ≤ 200
                  omega
              rw [show (((t + 1 : Nat) : Int) - 1) = (t : Int) from by omega]
              have HW2 := Lib.hid hw2
              have HST := Lib.hid hst
              have ht0 : (0 : Int) ≤ (t : Int) := by omega
              clear hw2 hst
              go_wp2_with fail
              refine (bit_any HW2.out ok2 (by omega) hs2).mono ?_
              rintro e w3 ⟨rfl, h3, b3⟩
              have ok3 := ok2.step (x / 2 ^ t)
              rw [HST.out] at h3 ok3
              have hb3 := hb2.trans (b3.mono s1)
              have hs3 : w1.heap.size ≤ w3.heap.size := by have := h3.1; have := h3.lt; omega
              have H3 := Lib.hid h3
              have OK3 := Lib.hid ok3
              clear HW2 h3 b3 hb2 HST ok2 ok3 f2
              go_wp2
              go_roundw
              case rel => exact ⟨t, by omega, by go_num, H3.out, OK3.out, hb3, hs3⟩
              case measure => simp [intOf] <;> omega
      · obtain rfl : k = len0 := by omega
        rw [List.take_of_length_le (by rw [HLen.out]; exact Nat.le_refl _)] at hw
        have HW := Lib.hid hw
        have OC : Hid (∀ nq, Calls Try.prog 15 #[.pointer (some ⟨p, 0, none⟩)] (wr.drewN nq) fun e w'' => e = .returned (.int .i64 (k : Int)) ∧ w'' = wr.drewN nq) := fun nq => by
          refine (out_any (w := wr.drewN nq) (hw.drew nq)).mono fun e w'' ⟨he, hw''⟩ => ⟨?_, hw''.symm⟩
          rw [he, HLen.out]
        have hff : flushF l = l := if_neg (by rw [List.take_of_length_le (by rw [HLen.out]; exact Nat.le_refl _)] at hne; exact hne)
        have FC : Hid (∀ nq, Calls Try.prog 17 #[.pointer (some ⟨p, 0, none⟩)] (wr.drewN nq) fun e w'' => ∃ v, e = .returned v ∧ w''.ownsRow w1.heap.size 5 1 v k (l.map (Value.int .u8)) ∧ Below w.heap.size w w'') := fun nq => by
          refine (flush_any (w := wr.drewN nq) (hw.drew nq) (by rw [HLen.out]; omega) hs).mono ?_
          rintro e w'' ⟨v, he, hv, b⟩
          rw [hff, HLen.out] at hv
          exact ⟨v, he, hv, (below_drewN hb nq).trans (b.mono s1)⟩
        have CS : Hid (∀ (u : World), Below w.heap.size w u → (convert 30 9 (.slice a0 k cap0)).run Try.prog u = .ok (.string (strOf l)) u) := fun u hu =>
          conv_str HLen.out (HL.out.below hu)
        have hs1 : ∀ nq, (convert 30 9 (.slice a0 k cap0)).run Try.prog (wr.drewN nq) = .ok (.string (strOf l)) (wr.drewN nq) := fun nq => CS.out _ (below_drewN hb nq)
        have CV : Hid (∀ (u : World) (A : Option Addr) (c : Nat), u.ownsRow w1.heap.size 5 1 (.slice A k c) k (l.map (Value.int .u8)) → (convert 30 9 (.slice A k c)).run Try.prog u = .ok (.string (strOf l)) u) := fun u A c hu =>
          conv_str HLen.out (Lst.own hu)
        generalize strOf l = S at *
        clear hw hne ok HW hff
        go_wp2
        go_region_with (first | (go_at_call 15; refine (OC.out 1).mono ?_; rintro e w' ⟨rfl, rfl⟩) | (go_at_call 17; refine (FC.out 1).mono ?_; rintro e w' ⟨v, rfl, hv, b5⟩; obtain ⟨A, c, rfl, hA, hcc, hcx⟩ := own_any hv; have hs5 := CS.out _ b5; have hs6 := CV.out _ _ _ hv))
        all_goals
          clear hs1 OC FC CS CV
          go_wp2
          go_ret
          exact ⟨rfl, b5⟩
  · have cI : (100 : Int) < (len0 : Int) := by omega
    go_enter Try.func8, Try.ntmps8
    go_wp2_with fail
    refine (known5 _).mono ?_
    rintro e w1 ⟨rfl, b1⟩
    go_wp2
    go_ret
    exact ⟨rfl, b1⟩
end Go.Proofs.Ytahnioenoecfeaa
