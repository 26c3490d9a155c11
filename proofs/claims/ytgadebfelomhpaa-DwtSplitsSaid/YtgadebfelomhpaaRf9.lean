/- Split of waveletref9, by its contract. -/
import Derived.Test.YtgadebfelomhpaaDwG
import Derived.Outline
set_option linter.unusedVariables false
set_option linter.unusedSimpArgs false
namespace Go.Proofs.Ytgadebfelomhpaa
open Go.RowKit

set_option maxHeartbeats 2000000 in
theorem near9 (i n j : Int) (w : World) (h1 : -1 ≤ i) (h2 : i ≤ n) (h3 : 2 ≤ n) (h4 : n ≤ 1000) (hj : (i < 0 → j = - i) ∧ (n ≤ i → j = 2 * (n - 1) - i) ∧ (0 ≤ i → i < n → j = i)) :
    Calls Try.prog 32 #[.int .i64 i, .int .i64 n] w fun e w' => e = .returned (.int .i64 j) ∧ w' = w := by
  have HJ := Lib.hid hj
  clear hj
  by_cases c1 : i < 0
  · go_enter Try.func32, Try.ntmps32
    go_wp2
    go_ret
    exact ⟨ret_i64 (by have := HJ.out; omega), rfl⟩
  · by_cases c2 : n ≤ i
    · go_enter Try.func32, Try.ntmps32
      go_wp2
      go_ret
      exact ⟨ret_i64 (by have := HJ.out; omega), rfl⟩
    · go_enter Try.func32, Try.ntmps32
      go_wp2
      go_ret
      exact ⟨ret_i64 (by have := HJ.out; omega), rfl⟩
theorem near_lo (m n : Nat) (hn : 2 ≤ n) (hn2 : n ≤ 1000) (hm : m < n) (w : World) : Calls Try.prog 32 #[.int .i64 ((m : Int) - 1), .int .i64 (n : Int)] w fun e w' => e = .returned (.int .i64 ((loI m : Nat) : Int)) ∧ w' = w :=
  near9 _ _ _ w (by omega) (by omega) (by omega) (by omega) (by unfold loI; split <;> omega)
theorem near_hi (m n : Nat) (hn : 2 ≤ n) (hn2 : n ≤ 1000) (hm : m < n) (w : World) : Calls Try.prog 32 #[.int .i64 ((m : Int) + 1), .int .i64 (n : Int)] w fun e w' => e = .returned (.int .i64 ((hiI n m : Nat) : Int)) ∧ w' = w :=
  near9 _ _ _ w (by omega) (by omega) (by omega) (by omega) (by unfold hiI; split <;> omega)

theorem pass_step (h : Int → Int → Int) (r : Nat → Int) {n s m : Nat} (hm : m % 2 = s) (hs1 : s ≤ 1) (i : Nat) :
    (if i % 2 = s ∧ i < m + 2 then h (r i) (r (loI i) + r (hiI n i)) else r i) = if i = m then h (r m) (r (loI m) + r (hiI n m)) else if i % 2 = s ∧ i < m then h (r i) (r (loI i) + r (hiI n i)) else r i := by
  by_cases e : i = m
  · subst e; rw [if_pos ⟨hm, by omega⟩, if_pos rfl]
  · rw [if_neg e]
    by_cases c1 : i % 2 = s ∧ i < m
    · rw [if_pos c1, if_pos ⟨c1.1, by omega⟩]
    · rw [if_neg c1, if_neg (by omega)]

attribute [local go_sem ↓] appSem_eq in
set_option maxHeartbeats 8000000 in
set_option maxRecDepth 100000 in
theorem rs9_any {A : Option Addr} {n c : Nat} {l : List Int} {w : World} (a : Int) (e : Nat) (h : RowI w A n c l) (ha : 0 ≤ a) (he : a % 2 = e) (hn : 2 ≤ n) (hn2 : n ≤ 1000) (hr : ∀ i, i < n → -1073741824 ≤ l.getD i 0 ∧ l.getD i 0 ≤ 1073741824) :
    Calls Try.prog 19 #[.int .i64 a, .slice A n c] w fun r w' => ∃ A' c', r = .returned (.slice A' n c') ∧ RowO w.heap.size w' A' n c' (splitL e n fun i => l.getD i 0) ∧ Below w.heap.size w w' := by
  obtain ⟨i0, hi, hz0, hz1, hz2⟩ := info_parts Try.info3
  have e1 : e ≤ 1 := by omega
  obtain ⟨s, hs⟩ : ∃ o, o + e = 1 := ⟨1 - e, by omega⟩
  have s1 : s ≤ 1 := by omega
  obtain ⟨b, o, rfl, hbb, _⟩ := h.cell (k := 0) (by omega)
  obtain ⟨r, hrr⟩ : ∃ r : Nat → Int, (fun i => l.getD i 0) = r := ⟨_, rfl⟩
  have hrv : ∀ i, l.getD i 0 = r i := fun i => by rw [← hrr]
  have hlr : l = ranged r n := by rw [← hrr]; exact (ranged_of l n h.1).symm
  have hr' : ∀ i, i < n → -1073741824 ≤ r i ∧ r i ≤ 1073741824 := fun i hi => by rw [← hrr]; exact hr i hi
  rw [hrr]
  clear hrr hr
  have R0 := Lib.hid hr'
  have b1 := pass_bd (s := s) (K' := 2147483649) hn hr' (by omega) (h := hP) (fun x a b hx ha hb => by unfold hP; omega)
  have R1 := Lib.hid b1
  have hcm := h.2.2.1
  unfold maxLen at hcm
  have H := Lib.hid h
  have HLV := Lib.hid hrv
  have hand : bits .and .i64 a 1 = e := by rw [and_one a ha, he]
  have hn1 : ((n : Int) == 1) = false := by simp; omega
  have HA0 : Hid (Below w.heap.size w (w.alloc (Obj.cells #[] 3))) := Lib.hid ((Below.refl _ w).alloc (Nat.le_refl _) _)
  obtain ⟨v1, w1, hrun, hown, hg1, _⟩ := app_row (w := w.alloc (Obj.cells #[] 3)) (base := w.heap.size) (v := .slice (some ⟨w.heap.size, 0, none⟩) 0 0) (n := 0) (X := []) (World.ownsRow_made w #[] 0 (Nat.le_refl _) (by unfold maxLen; omega) rfl) (H.out.keep HA0.out (Nat.le_refl _)) (by simp) (by omega)
  rw [Nat.zero_add, List.nil_append, hlr] at hown
  obtain ⟨g, cap, rfl, hg, hgl, _⟩ := own_form hown (by omega)
  have HB1 : Hid (Below w.heap.size w w1) := Lib.hid (HA0.out.grown hg1 (by simp) (by simp [Value.ownBlock]))
  have HO1 := Lib.hid hown
  clear h hr' b1 hrv hg1 hown HA0 he
  go_enter Try.func19, Try.ntmps19
  go_wp2
  go_loopw [8] (fun iv wr => ∃ m : Nat, Hid (m % 2 = s) ∧ iv = .int .i64 (m : Int) ∧ m ≤ n + 1 ∧ Hid (wr.ownsRow w.heap.size 3 1 (.slice (some ⟨g, 0, none⟩) n cap) n ((ranged (fun i => if i % 2 = s ∧ i < m then hP (r i) (r (loI i) + r (hiI n i)) else r i) n).map (Value.int .i64)) ∧ Below w.heap.size w wr)) (fun iv _ => n + 1 - (intOf iv).toNat)
  case atStart => exact ⟨s, Lib.hid (by omega), by first | rfl | (congr 1; omega), by omega, Lib.hid ⟨own_map HO1.out (fun i _ => by rw [if_neg (by omega)]), HB1.out⟩⟩
  case round =>
    obtain ⟨m, hm, rfl, hmn, S⟩ := hrel
    clear HO1 HB1
    by_cases cm : m < n
    · have cm' : (m : Int) < (n : Int) := by omega
      have hlo := lo_par hn hm.out cm
      have hhi := hi_par hn hm.out cm
      obtain ⟨b', o', hA', _, f1⟩ := (H.out.keep S.out.2 (Nat.le_refl _)).cell hlo.1
      cases hA'
      obtain ⟨b', o', hA', _, f2⟩ := (H.out.keep S.out.2 (Nat.le_refl _)).cell hhi.1
      cases hA'
      rw [HLV.out] at f1 f2
      have f0 := own_cell S.out.1 cm
      rw [if_neg (by omega)] at f0
      have nl := near_lo m n hn hn2 cm
      have nh := near_hi m n hn hn2 cm
      have fz := S.out.1.frozenAt m
      obtain ⟨y, hy⟩ : ∃ y, hP (r m) (r (loI m) + r (hiI n m)) = y := ⟨_, rfl⟩
      have hst := own_set (s := fun i => if i % 2 = s ∧ i < m + 2 then hP (r i) (r (loI i) + r (hiI n i)) else r i) S.out.1 y cm (fun i _ => by rw [← hy]; exact pass_step hP r hm.out s1 i)
      have S2 : Hid ((wr.setCell ⟨g, m, none⟩ (.int .i64 y)).ownsRow w.heap.size 3 1 (.slice (some ⟨g, 0, none⟩) n cap) n ((ranged (fun i => if i % 2 = s ∧ i < m + 2 then hP (r i) (r (loI i) + r (hiI n i)) else r i) n).map (Value.int .i64)) ∧ Below w.heap.size w (wr.setCell ⟨g, m, none⟩ (.int .i64 y))) := Lib.hid ⟨hst.1, S.out.2.setCell (p := ⟨g, m, none⟩) hg _⟩
      have rm := R0.out m cm
      have rp := R0.out _ hlo.1
      have rq := R0.out _ hhi.1
      clear hst S
      generalize loI m = p at *
      generalize hiI n m = q at *
      generalize r m = x at *
      generalize r p = u at *
      generalize r q = v at *
      have p1 := hlo.1
      have q1 := hhi.1
      have p1' : (p : Int) < (n : Int) := by omega
      have q1' : (q : Int) < (n : Int) := by omega
      have k1 : IntKind.i64.wrap ((m : Int) - 1) = (m : Int) - 1 := IntWalk.i64_in _ (by omega)
      have k2 : IntKind.i64.wrap ((m : Int) + 1) = (m : Int) + 1 := IntWalk.i64_in _ (by omega)
      have k3 : IntKind.i64.wrap (u + v) = u + v := IntWalk.i64_in _ (by omega)
      have k4 : IntKind.i64.wrap (x - (u + v) / 2) = y := by rw [← hy]; unfold hP; exact IntWalk.i64_in _ (by omega)
      clear hlo hhi rm rp rq hy
      go_wp2
      refine wp_region_still_tail 23 (by kernel_rfl) (by kernel_rfl) ?_
      simp only [List.take_succ_cons, List.take_zero, List.drop_succ_cons, List.drop_zero]
      repeat still_step
      still_call (nl wr.drew)
      repeat still_step
      still_call (nh wr.drew)
      repeat still_step
      refine wpStill_nil ?_
      change wpList _ _ _ _ _ wr.drew
      clear nl nh
      go_wp2
      go_roundw
      case rel => exact ⟨m + 2, Lib.hid (by have := hm.out; omega), by go_num, by omega, Lib.hid ⟨S2.out.1, below_drewN S2.out.2 1⟩⟩
      case measure => simp [intOf]; omega
    · have HB2 := Lib.hid S.out.2
      have HO2 : Hid (wr.ownsRow w.heap.size 3 1 (.slice (some ⟨g, 0, none⟩) n cap) n ((ranged (passF hP s n r) n).map (Value.int .i64))) := Lib.hid (own_map S.out.1 (fun i hi => by
        unfold passF
        by_cases c1 : i % 2 = s
        · rw [if_pos c1, if_pos ⟨c1, by omega⟩]
        · rw [if_neg c1, if_neg (fun h => c1 h.1)]))
      clear S
      go_wp2
      obtain ⟨r2, hr2⟩ : ∃ r2, passF hP s n r = r2 := ⟨_, rfl⟩
      rw [hr2] at HO2 R1
      have HR2 := Lib.hid hr2
      clear hr2
      go_loopw [9] (fun iv wr => ∃ m : Nat, Hid (m % 2 = e) ∧ iv = .int .i64 (m : Int) ∧ m ≤ n + 1 ∧ Hid (wr.ownsRow w.heap.size 3 1 (.slice (some ⟨g, 0, none⟩) n cap) n ((ranged (fun i => if i % 2 = e ∧ i < m then hU (r2 i) (r2 (loI i) + r2 (hiI n i)) else r2 i) n).map (Value.int .i64)) ∧ Below w.heap.size w wr)) (fun iv _ => n + 1 - (intOf iv).toNat)
      case atStart => exact ⟨e, Lib.hid (by omega), by first | rfl | (congr 1; omega), by omega, Lib.hid ⟨own_map HO2.out (fun i _ => by rw [if_neg (by omega)]), HB2.out⟩⟩
      case round =>
        obtain ⟨m, hm, rfl, hmn, S⟩ := hrel
        clear HO2 HB2
        by_cases cm : m < n
        · have cm' : (m : Int) < (n : Int) := by omega
          have hlo := lo_par hn hm.out cm
          have hhi := hi_par hn hm.out cm
          have f1 := own_cell S.out.1 hlo.1
          have f2 := own_cell S.out.1 hhi.1
          have f0 := own_cell S.out.1 cm
          rw [if_neg (by omega)] at f0 f1 f2
          have nl := near_lo m n hn hn2 cm
          have nh := near_hi m n hn hn2 cm
          have fz := S.out.1.frozenAt m
          obtain ⟨y, hy⟩ : ∃ y, hU (r2 m) (r2 (loI m) + r2 (hiI n m)) = y := ⟨_, rfl⟩
          have hst := own_set (s := fun i => if i % 2 = e ∧ i < m + 2 then hU (r2 i) (r2 (loI i) + r2 (hiI n i)) else r2 i) S.out.1 y cm (fun i _ => by rw [← hy]; exact pass_step hU r2 hm.out e1 i)
          have S2 : Hid ((wr.setCell ⟨g, m, none⟩ (.int .i64 y)).ownsRow w.heap.size 3 1 (.slice (some ⟨g, 0, none⟩) n cap) n ((ranged (fun i => if i % 2 = e ∧ i < m + 2 then hU (r2 i) (r2 (loI i) + r2 (hiI n i)) else r2 i) n).map (Value.int .i64)) ∧ Below w.heap.size w (wr.setCell ⟨g, m, none⟩ (.int .i64 y))) := Lib.hid ⟨hst.1, S.out.2.setCell (p := ⟨g, m, none⟩) hg _⟩
          have rm := R1.out m cm
          have rp := R1.out _ hlo.1
          have rq := R1.out _ hhi.1
          clear hst S
          generalize loI m = p at *
          generalize hiI n m = q at *
          generalize r2 m = x at *
          generalize r2 p = u at *
          generalize r2 q = v at *
          have p1 := hlo.1
          have q1 := hhi.1
          have p1' : (p : Int) < (n : Int) := by omega
          have q1' : (q : Int) < (n : Int) := by omega
          have k1 : IntKind.i64.wrap ((m : Int) - 1) = (m : Int) - 1 := IntWalk.i64_in _ (by omega)
          have k2 : IntKind.i64.wrap ((m : Int) + 1) = (m : Int) + 1 := IntWalk.i64_in _ (by omega)
          have k3 : IntKind.i64.wrap (u + v) = u + v := IntWalk.i64_in _ (by omega)
          have k5 : IntKind.i64.wrap (u + v + 2) = u + v + 2 := IntWalk.i64_in _ (by omega)
          have k4 : IntKind.i64.wrap (x + (u + v + 2) / 4) = y := by rw [← hy]; unfold hU; exact IntWalk.i64_in _ (by omega)
          clear hlo hhi rm rp rq hy
          go_wp2
          refine wp_region_still_tail 24 (by kernel_rfl) (by kernel_rfl) ?_
          simp only [List.take_succ_cons, List.take_zero, List.drop_succ_cons, List.drop_zero]
          repeat still_step
          still_call (nl wr.drew)
          repeat still_step
          still_call (nh wr.drew)
          repeat still_step
          refine wpStill_nil ?_
          change wpList _ _ _ _ _ wr.drew
          clear nl nh
          go_wp2
          go_roundw
          case rel => exact ⟨m + 2, Lib.hid (by have := hm.out; omega), by go_num, by omega, Lib.hid ⟨S2.out.1, below_drewN S2.out.2 1⟩⟩
          case measure => simp [intOf]; omega
        · have HB3 := Lib.hid S.out.2
          have HO3 : Hid (wr.ownsRow w.heap.size 3 1 (.slice (some ⟨g, 0, none⟩) n cap) n ((ranged (passF hU e n r2) n).map (Value.int .i64))) := Lib.hid (own_map S.out.1 (fun i hi => by
            unfold passF
            by_cases c1 : i % 2 = e
            · rw [if_pos c1, if_pos ⟨c1, by omega⟩]
            · rw [if_neg c1, if_neg (fun h => c1 h.1)]))
          clear S
          go_wp2
          obtain ⟨R, hR⟩ : ∃ R, passF hU e n r2 = R := ⟨_, rfl⟩
          rw [hR] at HO3
          have HR3 := Lib.hid hR
          clear hR R0 R1
          go_loopw [10, 11] (fun vv iv wr => ∃ (j m : Nat) (A1 : Option Addr) (c1 : Nat), Hid (m = e + 2 * j) ∧ vv = .slice A1 (j) c1 ∧ iv = .int .i64 (m : Int) ∧ m ≤ n + 1 ∧ (j = 0 ∨ m < n + 2) ∧ Hid (wr.ownsRow w.heap.size 3 1 (.slice A1 (j) c1) (j) ((ranged (fun t => R (e + 2 * t)) j).map (Value.int .i64)) ∧ (Value.slice A1 (j) c1).ownBlock ≠ some g ∧ wr.ownsRow w.heap.size 3 1 (.slice (some ⟨g, 0, none⟩) n cap) n ((ranged R n).map (Value.int .i64)) ∧ Below w.heap.size w wr)) (fun _ iv _ => n + 1 - (intOf iv).toNat)
          case atStart => exact ⟨0, e, _, _, Lib.hid (by omega), rfl, by first | rfl | (congr 1; omega), by omega, Or.inl rfl, Lib.hid ⟨by simpa [ranged] using World.ownsRow_nil _ _ _ _, by simp [Value.ownBlock], HO3.out, HB3.out⟩⟩
          case round =>
            obtain ⟨j, m, A1, c1, hmj, rfl, rfl, hmn, hjm, S⟩ := hrel
            clear HO3 HB3 
            by_cases cm : m < n
            · have cm' : (m : Int) < (n : Int) := by omega
              have f0 := own_cell S.out.2.2.1 cm
              have hj3 : j ≤ 3000 := by have := hmj.out; omega
              obtain ⟨_, _, hV, hA1, hc1, hc1m⟩ := own_any S.out.1
              cases hV
              have h1 := S.out.1
              have hlast : ranged (fun t => R (e + 2 * t)) (j + 1) = (ranged (fun t => R (e + 2 * t)) j) ++ [R m] := by
                unfold ranged
                rw [List.range_succ, List.map_append, hmj.out]
                rfl
              have HL := Lib.hid hlast
              have hxl := h1.1
              clear hlast
              generalize R m = x at *
              have HS := Lib.hid (S.out.2)
              have hsz := S.out.2.2.2.size
              clear S hA1 hc1m
              go_wp2_with (at_builtin; refine wpList_append_own_at _ rfl _ _ 24 rfl w.heap.size 3 i0 (.int .i64 0) 1 8 Try.underlying24 hi hz0 hz1 hz2 rfl (by decide) _ _ _ rfl (h1.alloc _) ⟨wr.heap.size, 0, none⟩ 1 1 [.int .i64 x] rfl rfl (cell_one_new _ _ _) ?k2 ?k3 ?k4 ?k5 ?_)
              case k2 => intro u hu; simp at hu; subst hu; rfl
              case k3 => unfold maxLen; omega
              case k4 => omega
              case k5 => simp; omega
              intro v2 w2 hown2 hg2 _ hat
              have hgl' : g < wr.heap.size := (HS.out.2.1.lt g rfl).2
              obtain ⟨A2, c2, rfl, _, _, _⟩ := own_any hown2
              have S2 : Hid (w2.ownsRow w.heap.size 3 1 (.slice A2 ((j + 1)) c2) ((j + 1)) ((ranged (fun t => R (e + 2 * t)) (j + 1)).map (Value.int .i64)) ∧ (Value.slice A2 ((j + 1)) c2).ownBlock ≠ some g ∧ w2.ownsRow w.heap.size 3 1 (.slice (some ⟨g, 0, none⟩) n cap) n ((ranged R n).map (Value.int .i64)) ∧ Below w.heap.size w w2) := Lib.hid (by
                refine ⟨?_, ?_, ?_, ?_⟩
                · rw [HL.out]
                  simpa [Nat.add_assoc] using hown2
                · rcases hat with e | e
                  · show _ ≠ _
                    intro h; exact HS.out.1 (by rw [← h]; exact e.symm)
                  · intro h
                    have h2 := e.symm.trans h
                    simp at h2; omega
                · exact (HS.out.2.1.alloc _).kept hg2 (Or.inr (by
                    intro h; exact HS.out.1 (by rw [← h]; rfl)))
                · exact (HS.out.2.2.alloc hsz _).grown hg2 (by simp; omega) (fun k hk => (h1.lt k hk).1))
              clear hg2 hown2 hat h1 HS HL
              go_wp2
              go_roundw
              case rel => exact ⟨j + 1, m + 2, A2, c2, Lib.hid (by have := hmj.out; omega), by first | rfl | (congr 1; omega), by go_num, by omega, by omega, S2⟩
              case measure => simp [intOf]; omega
            · have ej : (n + 1 - e) / 2 = j := by have := hmj.out; omega
              obtain ⟨N0, hN0⟩ : ∃ N0, j = N0 := ⟨_, rfl⟩
              obtain ⟨acc, hacc⟩ : ∃ acc, ranged (fun t => R (e + 2 * t)) j = acc := ⟨_, rfl⟩
              have HO4 := Lib.hid S.out.2.2.1
              have HB4 := Lib.hid S.out.2.2.2
              have P4 := Lib.hid (And.intro S.out.1 S.out.2.1)
              rw [hacc] at P4
              have HACC := Lib.hid hacc
              have hN0l : acc.length = j ∧ j ≤ 1000 := by rw [← hacc, ranged_len]; omega
              clear S hacc hN0
              go_wp2
              go_loopw [10, 12] (fun vv iv wr => ∃ (j2 m2 : Nat) (A1 : Option Addr) (c1 : Nat), Hid (m2 = s + 2 * j2) ∧ vv = .slice A1 (j + j2) c1 ∧ iv = .int .i64 (m2 : Int) ∧ m2 ≤ n + 1 ∧ (j2 = 0 ∨ m2 < n + 2) ∧ Hid (wr.ownsRow w.heap.size 3 1 (.slice A1 (j + j2) c1) (j + j2) ((acc ++ ranged (fun t => R (s + 2 * t)) j2).map (Value.int .i64)) ∧ (Value.slice A1 (j + j2) c1).ownBlock ≠ some g ∧ wr.ownsRow w.heap.size 3 1 (.slice (some ⟨g, 0, none⟩) n cap) n ((ranged R n).map (Value.int .i64)) ∧ Below w.heap.size w wr)) (fun _ iv _ => n + 1 - (intOf iv).toNat)
              case atStart => exact ⟨0, s, _, _, Lib.hid (by omega), rfl, by first | rfl | (congr 1; omega), by omega, Or.inl rfl, Lib.hid ⟨by simpa [ranged] using P4.out.1, P4.out.2, HO4.out, HB4.out⟩⟩
              case round =>
                obtain ⟨j2, m2, A1, c1, hmj, rfl, rfl, hmn, hjm, S⟩ := hrel
                clear HO4 HB4 P4
                by_cases cm : m2 < n
                · have cm' : (m2 : Int) < (n : Int) := by omega
                  have f0 := own_cell S.out.2.2.1 cm
                  have hj3 : j + j2 ≤ 3000 := by have := hmj.out; omega
                  obtain ⟨_, _, hV, hA1, hc1, hc1m⟩ := own_any S.out.1
                  cases hV
                  have h1 := S.out.1
                  have hlast : acc ++ ranged (fun t => R (s + 2 * t)) (j2 + 1) = (acc ++ ranged (fun t => R (s + 2 * t)) j2) ++ [R m2] := by
                    unfold ranged
                    rw [List.range_succ, List.map_append, ← List.append_assoc, hmj.out]
                    rfl
                  have HL := Lib.hid hlast
                  have hxl := h1.1
                  clear hlast
                  generalize R m2 = x at *
                  have HS := Lib.hid (S.out.2)
                  have hsz := S.out.2.2.2.size
                  clear S hA1 hc1m
                  go_wp2_with (at_builtin; refine wpList_append_own_at _ rfl _ _ 24 rfl w.heap.size 3 i0 (.int .i64 0) 1 8 Try.underlying24 hi hz0 hz1 hz2 rfl (by decide) _ _ _ rfl (h1.alloc _) ⟨wr.heap.size, 0, none⟩ 1 1 [.int .i64 x] rfl rfl (cell_one_new _ _ _) ?k2 ?k3 ?k4 ?k5 ?_)
                  case k2 => intro u hu; simp at hu; subst hu; rfl
                  case k3 => unfold maxLen; omega
                  case k4 => omega
                  case k5 => simp; omega
                  intro v2 w2 hown2 hg2 _ hat
                  have hgl' : g < wr.heap.size := (HS.out.2.1.lt g rfl).2
                  obtain ⟨A2, c2, rfl, _, _, _⟩ := own_any hown2
                  have S2 : Hid (w2.ownsRow w.heap.size 3 1 (.slice A2 (j + (j2 + 1)) c2) (j + (j2 + 1)) ((acc ++ ranged (fun t => R (s + 2 * t)) (j2 + 1)).map (Value.int .i64)) ∧ (Value.slice A2 (j + (j2 + 1)) c2).ownBlock ≠ some g ∧ w2.ownsRow w.heap.size 3 1 (.slice (some ⟨g, 0, none⟩) n cap) n ((ranged R n).map (Value.int .i64)) ∧ Below w.heap.size w w2) := Lib.hid (by
                    refine ⟨?_, ?_, ?_, ?_⟩
                    · rw [HL.out]
                      simpa [Nat.add_assoc] using hown2
                    · rcases hat with e | e
                      · show _ ≠ _
                        intro h; exact HS.out.1 (by rw [← h]; exact e.symm)
                      · intro h
                        have h2 := e.symm.trans h
                        simp at h2; omega
                    · exact (HS.out.2.1.alloc _).kept hg2 (Or.inr (by
                        intro h; exact HS.out.1 (by rw [← h]; rfl)))
                    · exact (HS.out.2.2.alloc hsz _).grown hg2 (by simp; omega) (fun k hk => (h1.lt k hk).1))
                  clear hg2 hown2 hat h1 HS HL
                  go_wp2
                  go_roundw
                  case rel => exact ⟨j2 + 1, m2 + 2, A2, c2, Lib.hid (by have := hmj.out; omega), by first | rfl | (congr 1; omega), by go_num, by omega, by omega, S2⟩
                  case measure => simp [intOf]; omega
                · have ej2 : (n + 1 - s) / 2 = j2 := by have := hmj.out; omega
                  have hsl : acc ++ ranged (fun t => R (s + 2 * t)) j2 = splitL e n r := by
                    rw [← HACC.out, ← ej2, ← ej]
                    unfold splitL lowF
                    rw [show 1 - e = s from by omega, HR2.out, HR3.out]
                  have hrow : RowO w.heap.size wr A1 n c1 (splitL e n r) := by
                    have h := S.out.1
                    rw [hsl, show j + j2 = n from by omega] at h
                    exact h
                  have hB := S.out.2.2.2
                  obtain ⟨V1, hV1⟩ : ∃ V1, V1 = j + j2 := ⟨_, rfl⟩
                  have hVn : V1 = n := by omega
                  rw [← hV1]
                  clear S hsl hV1
                  subst hVn
                  go_wp2
                  go_ret
                  exact ⟨_, _, rfl, hrow, hB⟩

end Go.Proofs.Ytgadebfelomhpaa
