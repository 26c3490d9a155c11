/- MqClean, walked. -/
import Derived.Test.YtdgkeghgfibolaaDoorMqW
set_option linter.unusedVariables false
set_option linter.unusedSimpArgs false
namespace Go.Proofs.YtdgkeghgfibolaaDoor
open Go.RowKit

set_option maxRecDepth 100000 in
set_option maxHeartbeats 8000000 in
theorem walk_mqClean (a0 : Option Addr) (len0 cap0 : Nat) (z0 : List Int) (W : World) (hT : Tab W) (w0 : IsRow .i64 W a0 len0 cap0 z0) : Calls Tryd.prog 6 #[.slice a0 len0 cap0] W fun e w' => e = .returned (.bool true) ∧ Below W.heap.size W w' := by
  have KN := Lib.hid (known_any W)
  have L0 := Lib.hid (lst_of_row w0)
  have hrl := row_len w0
  have HRL := Lib.hid hrl.1
  have hlen : len0 ≤ maxLen := Nat.le_trans hrl.2.1 hrl.2.2.1
  unfold maxLen at hlen
  have HWF := Lib.hid (fun v (hv : v ∈ z0.take len0) => bd_i64 (row_wf w0 v (List.mem_of_mem_take hv)))
  have FR := Lib.hid (fun u : World => fresh_any u)
  have NW := Lib.hid (fun u : World => new_any u)
  have HT := Lib.hid hT
  obtain ⟨l, hl⟩ : ∃ l : List Int, z0.take len0 = l := ⟨_, rfl⟩
  rw [hl] at L0 HRL HWF
  obtain ⟨n, hn⟩ : ∃ n : Nat, min len0 400 = n := ⟨_, rfl⟩
  have hn2 : n ≤ 400 := by omega
  have HN := Lib.hid hn
  clear hl hT w0 hrl hn
  go_enter Tryd.func6, Tryd.ntmps6
  go_wp2_with fail
  refine KN.out.mono ?_
  rintro x w1 ⟨rfl, b1⟩
  have B1 := Lib.hid b1
  have BT := Lib.hid (bits_any a0 len0 cap0 l W.heap.size w1 b1.size (L0.out.below b1) HRL.out (by omega) HWF.out)
  clear b1 KN
  go_wp2_with fail
  refine BT.out.mono ?_
  rintro x w2 ⟨VK, VB, ks, bs, rfl, hbk⟩
  rw [HN.out] at hbk
  have B2 := Lib.hid (B1.out.trans (hbk.gr.bel.mono B1.out.size))
  obtain ⟨AK, cK, AB, cB, rfl, rfl, hlk, hlb⟩ := Grow.lst hbk
  have HK := Lib.hid (And.intro hlk hlb)
  have HKB := Lib.hid (And.intro (And.intro hbk.lk hbk.lb) (And.intro hbk.hk hbk.hb))
  clear hbk hlk hlb BT B1
  go_wp2_with fail
  refine (FR.out _).mono ?_
  rintro x w2' ⟨rfl, b2⟩
  have B2' := Lib.hid (B2.out.trans (b2.mono B2.out.size))
  have HK2 := Lib.hid (And.intro (HK.out.1.below b2) (HK.out.2.below b2))
  have s22 := b2.size
  clear b2 B2 HK
  go_wp2_with (refine wpList_fresh rfl _ _ rfl rfl rfl ?_)
  intro w3 hc3 b3
  have B3 := Lib.hid (B2'.out.trans (b3.mono B2'.out.size))
  have HC3 := Lib.hid hc3
  have HK3 := Lib.hid (And.intro ((HK2.out.1.more s22).below b3) ((HK2.out.2.more s22).below b3))
  have hq0 : W.heap.size ≤ w2'.heap.size := B2'.out.size
  have hqs : w2'.heap.size < w3.heap.size := hc3.lt
  clear b3 hc3 B2' HK2
  go_wp2_with fail
  refine (NW.out _).mono ?_
  rintro x w4 ⟨p, rfl, he4, b4⟩
  have B4 := Lib.hid (B3.out.trans (b4.mono B3.out.size))
  have HC4 := Lib.hid (HC3.out.below b4)
  have HE4 : Hid (EW (fun i => w3.heap.size ≤ i) w4 p mNew) := Lib.hid (he4.imp fun i _ h => h.1)
  have hpos := HT.out.pos
  have H0 : Hid (En (fun i => w3.heap.size ≤ i) W w4 p w2'.heap.size 0 mNew (cxF 19)) := Lib.hid
    ⟨HE4.out, HC4.out, f19_ok, mNew_fine, Nat.le_refl _, B4.out⟩
  have HK4 := Lib.hid (And.intro (HK3.out.1.below (b4.mono (Nat.le_of_lt hqs))) (HK3.out.2.below (b4.mono (Nat.le_of_lt hqs))))
  have O4 : Hid (Below w2'.heap.size w4 w4) := Lib.hid (Below.refl _ _)
  have s34 : w3.heap.size ≤ w4.heap.size := b4.size
  clear b4 he4 B3 HC3 HE4 HC4 HK3
  go_wp2
  go_loopw [7] (fun i wr => ∃ j e cx, j ≤ n ∧ i = .int .i64 (j : Int) ∧ w3.heap.size ≤ wr.heap.size ∧ Below w2'.heap.size w4 wr ∧ En (fun i => w3.heap.size ≤ i) W wr p w2'.heap.size j e cx) (fun i _ => n - (intOf i).toNat)
  case atStart => exact ⟨0, _, _, by omega, rfl, s34, O4.out, H0.out⟩
  case round =>
    obtain ⟨j, e, cx, hj, rfl, hsz, hO, hS⟩ := hrel
    have HS := Lib.hid hS
    have HO := Lib.hid hO
    clear hS H0 hO O4
    by_cases hlt : j < n
    · obtain ⟨k, hk1, hk2⟩ := nat_of HKB.out.2.1 (j := j) (by rw [HKB.out.1.1]; exact hlt)
      obtain ⟨b, hb1, hb2⟩ := nat_of (n := 2) (fun x hx => by have := HKB.out.2.2 x hx; omega) (j := j) (by rw [HKB.out.1.2]; exact hlt)
      obtain ⟨bk, ok, rfl, hbk, mk⟩ := ((HK4.out.1.below HO.out) j (.int .i64 (k : Int)) (by rw [List.getElem?_map, hk1]; rfl))
      obtain ⟨bb, ob, rfl, hbb, mb⟩ := ((HK4.out.2.below HO.out) j (.int .i64 (b : Int)) (by rw [List.getElem?_map, hb1]; rfl))
      have h2 : (j : Int) < (n : Int) := by omega
      have h4 : (0 : Int) ≤ (j : Int) := by omega
      have hd := HS.out.drew
      have hle := HS.out.len
      have EN := Lib.hid (encode_any (bit := (b : Int)) (b := b) hd.ew hd.cb (by show ¬ w3.heap.size ≤ w2'.heap.size; omega) (HT.out.below hpos hd.bel) (by show ¬ w3.heap.size ≤ 0; omega) (by omega) hd.ok hd.fine (k := k) (by omega) (by omega) (by omega) (fun i hi => Nat.le_trans hsz hi))
      clear hk1 hb1 hd
      go_wp2
      refine wp_region_still_tail 9 (by kernel_rfl) (by kernel_rfl) ?_
      simp only [List.take_succ_cons, List.take_zero, List.drop_succ_cons, List.drop_zero]
      repeat still_step
      refine wpStill_nil ?_
      change wpList _ _ _ _ _ wr.drew
      go_wp2_with fail
      refine EN.out.mono ?_
      rintro x w5 ⟨rfl, he5, hc5, o5⟩
      have HS5 := Lib.hid (HS.out.drew.next (by omega) (fun i hi => by
        rcases hi with hi | hi
        · exact Nat.le_trans (Nat.le_of_lt (Nat.lt_of_le_of_lt hq0 hqs)) hi
        · omega) he5 hc5 o5)
      have s5 : w3.heap.size ≤ w5.heap.size := Nat.le_trans hsz o5.size
      have O5 : Hid (Below w2'.heap.size w4 w5) := Lib.hid (((below_drewN HO.out 1 : Below w2'.heap.size w4 wr.drew)).trans (Only.below (w := wr.drew) o5 fun i hi => by
        rcases hi with hi | hi
        · exact Nat.le_trans (Nat.le_of_lt hqs) hi
        · omega))
      clear he5 hc5 o5 EN HS mk mb hle
      go_wp2
      exact ⟨⟨j + 1, _, _, by omega, by go_num, s5, O5.out, HS5.out⟩, by simp [intOf]; omega⟩
    · obtain rfl : j = n := by omega
      have h2 : ¬ (j : Int) < (j : Int) := by omega
      have hle := HS.out.len
      have FL := Lib.hid (flush_any HS.out.ew HS.out.fine (by omega) (fun i hi => Nat.le_trans hsz hi))
      have hcl := mCode_clean HS.out.fine
      have hml := mCode_len e
      obtain ⟨C, hC⟩ : ∃ C, mCode e = C := ⟨_, rfl⟩
      rw [hC] at hcl hml FL
      have HCL := Lib.hid hcl
      have HML := Lib.hid (show C.length ≤ 10000 by omega)
      clear hcl hC hml hle
      go_wp2_with fail
      refine FL.out.mono ?_
      rintro x w5 ⟨V, rfl, ho5, o5⟩
      have B5 := Lib.hid (HS.out.bel.trans (Only.below o5 (lo := W.heap.size) fun i hi => Nat.le_trans (Nat.le_of_lt (Nat.lt_of_le_of_lt hq0 hqs)) hi))
      obtain ⟨A5, c5, rfl, _⟩ := own_any ho5
      have HL5 := Lib.hid (Lst.own ho5)
      obtain ⟨m, hm⟩ : ∃ m, C.length = m := ⟨_, rfl⟩
      rw [hm]
      have HM := Lib.hid hm
      have hmb := HML.out
      rw [hm] at hmb
      clear ho5 o5 FL HS hm
      go_wp2
      go_loopw [9] (fun i wr => ∃ t : Nat, t ≤ m ∧ i = .int .i64 (t : Int) ∧ w5 = wr) (fun i _ => m - (intOf i).toNat)
      case atStart => exact ⟨0, by omega, rfl, rfl⟩
      case round =>
        obtain ⟨t, ht, rfl, rfl⟩ := hrel
        by_cases hlt2 : t + 1 < m
        · have e1 : (t : Int) + 1 < (m : Int) := by omega
          obtain ⟨x, hx⟩ : ∃ x, C[t]? = some x := ⟨_, List.getElem?_eq_getElem (by rw [HM.out]; omega)⟩
          obtain ⟨y, hy⟩ : ∃ y, C[t + 1]? = some y := ⟨_, List.getElem?_eq_getElem (by rw [HM.out]; omega)⟩
          have hxy := HCL.out.1.at hx hy
          obtain ⟨b, o, rfl, hb, mx⟩ := HL5.out t (bv x) (by rw [List.getElem?_map, hx]; rfl)
          obtain ⟨b', o', hbo, hb', my⟩ := HL5.out (t + 1) (bv y) (by rw [List.getElem?_map, hy]; rfl)
          injection hbo with hbo
          injection hbo with e2 e3
          subst e2 e3
          unfold bv at mx my
          have e4 : (t : Int) < (m : Int) := by omega
          have e5 : (0 : Int) ≤ (t : Int) := by omega
          have e6 : (0 : Int) ≤ (t : Int) + 1 := by omega
          have HXY := Lib.hid hxy
          clear hx hy hxy
          by_cases h255 : x = 255
          · have e7 : ((x : Int) == 255) = true := by simp; omega
            have e8 : ¬ (143 : Int) < (y : Int) := by have := HXY.out h255; omega
            clear h255
            go_wp2
            exact ⟨⟨t + 1, by omega, by go_num, trivial⟩, by simp [intOf]; omega⟩
          · have e7 : ((x : Int) == 255) = false := by simp; omega
            clear h255
            go_wp2
            exact ⟨⟨t + 1, by omega, by go_num, trivial⟩, by simp [intOf]; omega⟩
        · have e1 : ¬ (t : Int) + 1 < (m : Int) := by omega
          by_cases hm0 : m = 0
          · have e2 : ((m : Int) == 0) = true := by simp; omega
            go_wp2
            go_ret
            exact ⟨rfl, B5.out⟩
          · have e2 : ((m : Int) == 0) = false := by simp; omega
            obtain ⟨m', rfl⟩ : ∃ m', m = m' + 1 := ⟨m - 1, by omega⟩
            obtain ⟨x, hx⟩ : ∃ x, C[m']? = some x := ⟨_, List.getElem?_eq_getElem (by rw [HM.out]; omega)⟩
            have hx255 : x ≠ 255 := fun h => HCL.out.2.2 (by rw [List.getLast?_eq_getElem?, HM.out, show m' + 1 - 1 = m' by omega, hx, h])
            obtain ⟨b, o, rfl, hb, mx⟩ := HL5.out m' (bv x) (by rw [List.getElem?_map, hx]; rfl)
            unfold bv at mx
            have e7 : ((x : Int) != 255) = true := by simp; omega
            have e4 : (m' : Int) < (m' : Int) + 1 := by omega
            have e5 : (0 : Int) ≤ (m' : Int) := by omega
            clear hx hx255
            go_wp2
            go_ret
            exact ⟨rfl, B5.out⟩
end Go.Proofs.YtdgkeghgfibolaaDoor
