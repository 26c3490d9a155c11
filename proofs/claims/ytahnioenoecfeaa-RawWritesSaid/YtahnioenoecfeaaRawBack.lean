/- RawBack, walked. -/
import Derived.Test.YtahnioenoecfeaaRawLock
import Derived.Deep.RegionWith
set_option linter.unusedVariables false
namespace Go.Proofs.Ytahnioenoecfeaa
open Go.RowKit

theorem take_step {bs : List Int} {k : Nat} (hk : k < bs.length) : wstep (wrun (bs.take k)) (bs.getD k 0) = wrun (bs.take (k + 1)) := by
  rw [show bs.take (k + 1) = bs.take k ++ [bs.getD k 0] from by rw [List.take_add_one, List.getD_eq_getElem?_getD, List.getElem?_eq_getElem hk]; rfl, wrun_snoc]
theorem lst_at {w : World} {B : Nat} {A : Option Addr} {q : IntKind} {l : List Int} (h : Lst w B A (l.map (Value.int q))) {k : Nat} (hk : k < l.length) :
    ∃ b o, A = some ⟨b, o, none⟩ ∧ b < B ∧ w.cell? ⟨b, o + k, none⟩ = some (.int q (l.getD k 0)) :=
  h k _ (by rw [List.getElem?_map, List.getElem?_eq_getElem hk, List.getD_eq_getElem?_getD, List.getElem?_eq_getElem hk]; rfl)
theorem flush_rng {bs : List Int} : ∀ x ∈ flushF (wrun bs).1, 0 ≤ x ∧ x ≤ 255 := fun x hx => by
  obtain ⟨i, hi⟩ := List.getElem?_of_mem hx
  exact (wrun_ok bs).rng x (List.mem_of_getElem? (flush_sub hi))

set_option maxHeartbeats 4000000 in
theorem walk_rawBack (a0 : Option Addr) (len0 cap0 : Nat) (z0 : List Int) (w : World) (w0 : IsRow .i64 w a0 len0 cap0 z0) :
    Calls Try.prog 5 #[.slice a0 len0 cap0] w fun e w' => e = .returned (.bool true) ∧ Below w.heap.size w w' := by
  have hl := lst_of_row w0
  obtain ⟨hlen, hlc, hcm, hnil⟩ := row_len w0
  clear w0
  generalize hz : z0.take len0 = l at *
  clear hz
  obtain ⟨n, hn, hn4, hm⟩ : ∃ n : Nat, n ≤ len0 ∧ n ≤ 400 ∧ (if (400 : Int) < (len0 : Int) then (400 : Int) else (len0 : Int)) = (n : Int) := by
    by_cases c : len0 ≤ 400
    · exact ⟨len0, by omega, c, by rw [if_neg (by omega)]⟩
    · exact ⟨400, by omega, by omega, by rw [if_pos (by omega)]; rfl⟩
  obtain ⟨bs, hbs⟩ : ∃ bs, l.take n = bs := ⟨_, rfl⟩
  have hbl : bs.length = n := by rw [← hbs, List.length_take]; omega
  have hbg : ∀ k, k < n → l.getD k 0 = bs.getD k 0 := fun k hk => by
    rw [← hbs, List.getD_eq_getElem?_getD, List.getD_eq_getElem?_getD, List.getElem?_take, if_pos hk]
  have HL := Lib.hid (And.intro hl (And.intro hlen hbg))
  have HBL := Lib.hid hbl
  unfold maxLen at hcm
  clear hl hlen hbg hbs hnil hbl
  go_enter Try.func5, Try.ntmps5
  go_wp2_with fail
  refine (known5 _).mono ?_
  rintro e w1 ⟨rfl, b1⟩
  go_wp2_with fail
  refine (wnew_any _).mono ?_
  rintro e w2 ⟨p, rfl, h2, b2⟩
  have s1 := b1.size
  have b2 := b1.trans (b2.mono s1)
  have H2 := Lib.hid h2
  clear b1 h2
  go_wp2
  go_loopw [5] (fun i wr => ∃ k : Nat, k ≤ n ∧ i = .int .i64 (k : Int) ∧ Wr wr w1.heap.size p (wrun (bs.take k)).1 (wrun (bs.take k)).2 ∧ Below w.heap.size w wr ∧ w1.heap.size ≤ wr.heap.size) (fun i _ => n - (intOf i).toNat)
  case atStart => exact ⟨0, by omega, rfl, by simpa [wrun] using H2.out, b2, by have := H2.out.lt; have := H2.out.1; omega⟩
  case round =>
    obtain ⟨k, kn, rfl, hw, hb, hs⟩ := hrel
    clear H2 b2
    by_cases c1 : k < n
    · have hst := take_step (bs := bs) (k := k) (by rw [HBL.out]; exact c1)
      have hgk := HL.out.2.2 k c1
      obtain ⟨b, o, rfl, hbb, f1⟩ := lst_at (HL.out.1.below hb) (k := k) (by rw [HL.out.2.1]; omega)
      rw [hgk] at f1
      have ok := wrun_ok (bs.take k)
      have hlk := wrun_len (bs.take k)
      rw [List.length_take] at hlk
      have HW := Lib.hid hw
      have c2 : (k : Int) < (n : Int) := by omega
      have c3 : (k : Int) < (len0 : Int) := by omega
      generalize bs.getD k 0 = x at *
      have HST := Lib.hid hst
      clear hw hgk hst
      go_wp2_with fail
      refine (bit_any HW.out ok (by omega) hs).mono ?_
      rintro e w3 ⟨rfl, h3, b3⟩
      rw [HST.out] at h3
      have hb3 := hb.trans (b3.mono s1)
      have hs3 : w1.heap.size ≤ w3.heap.size := by have := h3.1; have := h3.lt; omega
      have H3 := Lib.hid h3
      clear HW h3 b3 hb HST
      go_wp2
      go_roundw
      case rel => exact ⟨k + 1, by omega, by go_num, H3.out, hb3, hs3⟩
      case measure => simp [intOf] <;> omega
    · obtain rfl : k = n := by omega
      rw [List.take_of_length_le (by rw [HBL.out]; exact Nat.le_refl _)] at hw
      have hlr := wrun_len bs
      rw [HBL.out] at hlr
      have HW := Lib.hid hw
      clear hw
      go_wp2_with fail
      refine (flush_any HW.out (by omega) hs).mono ?_
      rintro e w3 ⟨v, rfl, hv, b3⟩
      obtain ⟨A, c, rfl, hA, hcc, hcx⟩ := own_any hv
      have hb3 := hb.trans (b3.mono s1)
      have hfl := flush_len (wrun bs).1
      obtain ⟨F, hF⟩ : ∃ F, flushF (wrun bs).1 = F := ⟨_, rfl⟩
      have hFr := flush_rng (bs := bs)
      have hFa : ∀ i, byteAt F i = byteAt (wrun bs).1 i := fun i => by rw [← hF]; exact flush_at _ i
      have hFs : ∀ i x, F[i]? = some x → (wrun bs).1[i]? = some x := fun i x hx => by rw [← hF] at hx; exact flush_sub hx
      have hFl : F ≠ [] → F.getLastD 0 ≠ 255 := fun hx => by rw [← hF] at hx ⊢; exact flush_last (wrun_ok bs) hx
      rw [hF] at hv hA hcc hfl hFr
      have hLv := Lst.own hv
      have HV := Lib.hid hLv
      have HF := Lib.hid (And.intro hFa (And.intro hFs hFl))
      have HFB := Lib.hid (byteAt_rng hFr)
      have HA := Lib.hid hA
      have s3 := hb3.size
      rw [hF]
      clear HW hv b3 hb hFa hFs hFl hF hFr hLv hA
      go_wp2_with fail
      refine (rnew_any rfl HA.out HV.out (by omega)).mono ?_
      rintro e w4 ⟨q, rfl, h4, b4⟩
      have H4 := Lib.hid h4
      clear h4
      go_wp2
      go_loopw [8] (fun i wr => ∃ j : Nat, j ≤ k ∧ i = .int .i64 (j : Int) ∧ Rr wr w3.heap.size q F (rat bs j) ∧ Below w3.heap.size w3 wr) (fun i _ => k - (intOf i).toNat)
      case atStart => exact ⟨0, by omega, rfl, H4.out, b4⟩
      case round =>
        obtain ⟨j, jk, rfl, hr, hbr⟩ := hrel
        clear H4 b4
        by_cases c2 : j < k
        · have hlock := lock (bs := bs) (F := F) (k := j) (by rw [HBL.out]; exact c2) (fun i _ => HF.out.1 i)
          have hrr := rat_rng bs j
          have hgk := HL.out.2.2 j c2
          obtain ⟨b, o, rfl, hbb, f1⟩ := lst_at (HL.out.1.below hb3) (k := j) (by rw [HL.out.2.1]; omega)
          rw [hgk] at f1
          have f2 := (hbr.cell (p := ⟨b, o + j, none⟩) (by show b < _; omega)).trans f1
          have hand := and_bit (bs.getD j 0)
          generalize bs.getD j 0 = x at *
          have HR := Lib.hid hr
          have HLK := Lib.hid hlock
          have hb2 : (x % 2 == x % 2) = true := beq_self_eq_true _
          have c3 : (j : Int) < (len0 : Int) := by omega
          have c4 : (0 : Int) ≤ (j : Int) := by omega
          clear hr hlock hgk f1
          go_wp2
          go_region_with (go_at_call 21; refine (rbit_any (HR.out.drew 1) (by omega) (by have := hrr.2; omega) hrr.1 HFB.out).mono ?_; rintro e w5 ⟨rfl, h5, b5⟩; rw [HLK.out.1, HLK.out.2]; have f5 := (b5.cell (p := ⟨b, o + j, none⟩) (by show b < _; omega)).trans f2)
          all_goals
            have hbr5 := (below_drewN hbr 1).trans b5
            rw [HLK.out.1] at h5
            have H5 := Lib.hid h5
            clear h5 b5 HR hbr HLK
            go_wp2
            go_roundw
            case rel => exact ⟨j + 1, by omega, by go_num, H5.out, hbr5⟩
            case measure => simp [intOf] <;> omega
        · have HV2 := Lib.hid (HV.out.below hbr)
          have hb5 := hb3.trans (hbr.mono s3)
          clear hr hbr HV
          go_wp2
          go_loopw [9] (fun i wr2 => ∃ m : Nat, i = .int .i64 (m : Int) ∧ m ≤ F.length ∧ wr = wr2) (fun i _ => F.length - (intOf i).toNat)
          case atStart => exact ⟨0, rfl, by omega, rfl⟩
          case round =>
            obtain ⟨m, rfl, hm0, rfl⟩ := hrel
            have hFl4 : F.length ≤ 400 := by omega
            by_cases c5 : m + 1 < F.length
            · obtain ⟨g, og, hAg, _, f6⟩ := lst_at HV2.out (k := m) (by omega)
              obtain ⟨g', og', hAg', _, f7⟩ := lst_at HV2.out (k := m + 1) (by omega)
              rw [hAg] at hAg'
              injection hAg' with hAg'
              injection hAg' with e1 e2
              subst e1 e2
              subst hAg
              have c6 : (m : Int) + 1 < (F.length : Int) := by omega
              have c7 : (m : Int) < (F.length : Int) := by omega
              have f7' := f7
              rw [show og + (m + 1) = og + m + 1 from by omega] at f7'
              by_cases h255 : F.getD m 0 = 255
              · have hx : F[m]? = some 255 := by
                  rw [List.getD_eq_getElem?_getD, List.getElem?_eq_getElem (by omega)] at h255
                  rw [List.getElem?_eq_getElem (by omega)]
                  exact congrArg some h255
                have hy := (wrun_ok bs).behind m (HF.out.2.1 m 255 hx) (F.getD (m + 1) 0) (HF.out.2.1 (m + 1) _ (by rw [List.getD_eq_getElem?_getD, List.getElem?_eq_getElem (by omega)]; rfl))
                rw [h255] at f6
                generalize F.getD (m + 1) 0 = y at *
                have hy2 : ¬ (127 : Int) < y := by omega
                go_wp2
                go_roundw
                case rel => exact ⟨m + 1, by go_num, by omega, by simp⟩
                case measure => simp [intOf] <;> omega
              · have hbx : (F.getD m 0 == 255) = false := by simpa using h255
                generalize F.getD m 0 = x at *
                go_wp2
                go_roundw
                case rel => exact ⟨m + 1, by go_num, by omega, by simp⟩
                case measure => simp [intOf] <;> omega
            · have c6 : ¬ (m : Int) + 1 < (F.length : Int) := by omega
              by_cases h0 : F = []
              · have hF0 : F.length = 0 := by rw [h0]; rfl
                rw [hF0] at c6 ⊢
                go_wp2
                go_ret
                exact ⟨rfl, hb5⟩
              · have hp := List.length_pos_iff.2 h0
                obtain ⟨g, og, rfl, _, f6⟩ := lst_at HV2.out (k := F.length - 1) (by omega)
                have hne := HF.out.2.2 h0
                have hg : F.getD (F.length - 1) 0 = F.getLastD 0 := by
                  rw [List.getD_eq_getElem?_getD, last_get h0]; rfl
                rw [hg] at f6
                have hbx : (F.getLastD 0 == 255) = false := by simpa using hne
                generalize F.getLastD 0 = y at *
                obtain ⟨u, hu⟩ : ∃ u, F.length = u + 1 := ⟨F.length - 1, by omega⟩
                rw [hu] at f6 c6 ⊢
                rw [show u + 1 - 1 = u from rfl] at f6
                have hub : u ≤ 400 := by omega
                have hu0 : ((u : Int) + 1 == 0) = false := by simp; omega
                go_wp2
                go_ret
                exact ⟨ret_bool (bne_iff_ne.2 hne), hb5⟩
end Go.Proofs.Ytahnioenoecfeaa
