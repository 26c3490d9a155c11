/- Packets in order: ranks, and how they are compared; what may be. -/
import Derived.Test.YtejoedanhonpkaaOrM
import Derived.Test.YtejoedanhonpkaaCvM0
import Derived.Test.YtejoedanhonpkaaReg4
import Derived.Sort.Grow
import Derived.Deep.LoopGhost
import Derived.Laws.Rows
set_option linter.unusedVariables false
set_option linter.unusedSimpArgs false
namespace Go.Proofs.Ytejoedanhonpkaa
open Go.RowKit
set_option maxRecDepth 100000
@[reducible] def Pk.val (x : Pk) : Value := .agg #[.int .i64 x.ly, .int .i64 x.rs, .int .i64 x.cp, .int .i64 x.pc, .int .i64 x.dn, .int .i64 x.ac]
def rkA (l : List Int) : Array Value := (l.map (Value.int .i64)).toArray
def rankF (o : Nat) : Nat := if o = 0 then 35 else if o = 1 then 36 else if o = 2 then 37 else if o = 3 then 38 else 39
theorem rk_six (o : Nat) (x : Pk) : ∃ a0 a1 a2 a3 a4 a5, x.rk o = [a0, a1, a2, a3, a4, a5] := by
  unfold Pk.rk; (repeat' split) <;> exact ⟨_, _, _, _, _, _, rfl⟩
theorem cells_list {w : World} {b : Nat} {l : List Int} {t : TypeId} (h : w.heap[b]? = some (.cells (rkA l) t (0, 0))) : ∀ i a, l[i]? = some a → w.cell? ⟨b, i, none⟩ = some (.int .i64 a) := by
  intro i a ha
  simp [World.cell?, h, rkA, ha]
theorem new2 (w : World) (o o' : Obj) : ((w.alloc o).alloc o').heap[w.heap.size + 1]? = some o' := by
  have := World.alloc_heap_new (w.alloc o) o'; rwa [World.size_alloc] at this
theorem rank1_any (x : Pk) (w : World) : Calls Try.prog 35 #[x.val] w fun e w' => e = .returned (.agg #[.int .i64 x.ly, .int .i64 x.rs, .int .i64 x.cp, .int .i64 x.pc, .int .i64 0, .int .i64 0]) ∧ Below w.heap.size w w' := by
  obtain ⟨ly, rs, cp, pc, dn, ac⟩ := x
  simp only [Pk.val]
  go_enter Try.func35, Try.ntmps35
  go_wp2
  exact bodyPost_ret (v := .agg #[.int .i64 ly, .int .i64 rs, .int .i64 cp, .int .i64 pc, .int .i64 0, .int .i64 0]) (results_cell_row rfl _ _ (w.heap.size + 1) 69 _ (0, 0) _ rfl (new2 w _ _) Try.underlying69 rfl (by kernel_rfl)) rfl ⟨rfl, ((Below.refl _ w).alloc (Nat.le_refl _) _).alloc (by simp) _⟩
theorem rank2_any (x : Pk) (w : World) : Calls Try.prog 36 #[x.val] w fun e w' => e = .returned (.agg #[.int .i64 x.rs, .int .i64 x.ly, .int .i64 x.cp, .int .i64 x.pc, .int .i64 0, .int .i64 0]) ∧ Below w.heap.size w w' := by
  obtain ⟨ly, rs, cp, pc, dn, ac⟩ := x
  simp only [Pk.val]
  go_enter Try.func36, Try.ntmps36
  go_wp2
  exact bodyPost_ret (v := .agg #[.int .i64 rs, .int .i64 ly, .int .i64 cp, .int .i64 pc, .int .i64 0, .int .i64 0]) (results_cell_row rfl _ _ (w.heap.size + 1) 69 _ (0, 0) _ rfl (new2 w _ _) Try.underlying69 rfl (by kernel_rfl)) rfl ⟨rfl, ((Below.refl _ w).alloc (Nat.le_refl _) _).alloc (by simp) _⟩
theorem rank3_any (x : Pk) (w : World) : Calls Try.prog 37 #[x.val] w fun e w' => e = .returned (.agg #[.int .i64 x.rs, .int .i64 x.dn, .int .i64 x.ac, .int .i64 x.cp, .int .i64 x.pc, .int .i64 x.ly]) ∧ Below w.heap.size w w' := by
  obtain ⟨ly, rs, cp, pc, dn, ac⟩ := x
  simp only [Pk.val]
  go_enter Try.func37, Try.ntmps37
  go_wp2
  exact bodyPost_ret (v := .agg #[.int .i64 rs, .int .i64 dn, .int .i64 ac, .int .i64 cp, .int .i64 pc, .int .i64 ly]) (results_cell_row rfl _ _ (w.heap.size + 1) 69 _ (0, 0) _ rfl (new2 w _ _) Try.underlying69 rfl (by kernel_rfl)) rfl ⟨rfl, ((Below.refl _ w).alloc (Nat.le_refl _) _).alloc (by simp) _⟩
theorem rank4_any (x : Pk) (w : World) : Calls Try.prog 38 #[x.val] w fun e w' => e = .returned (.agg #[.int .i64 x.dn, .int .i64 x.ac, .int .i64 x.cp, .int .i64 x.rs, .int .i64 x.pc, .int .i64 x.ly]) ∧ Below w.heap.size w w' := by
  obtain ⟨ly, rs, cp, pc, dn, ac⟩ := x
  simp only [Pk.val]
  go_enter Try.func38, Try.ntmps38
  go_wp2
  exact bodyPost_ret (v := .agg #[.int .i64 dn, .int .i64 ac, .int .i64 cp, .int .i64 rs, .int .i64 pc, .int .i64 ly]) (results_cell_row rfl _ _ (w.heap.size + 1) 69 _ (0, 0) _ rfl (new2 w _ _) Try.underlying69 rfl (by kernel_rfl)) rfl ⟨rfl, ((Below.refl _ w).alloc (Nat.le_refl _) _).alloc (by simp) _⟩
theorem rank5_any (x : Pk) (w : World) : Calls Try.prog 39 #[x.val] w fun e w' => e = .returned (.agg #[.int .i64 x.cp, .int .i64 x.dn, .int .i64 x.ac, .int .i64 x.rs, .int .i64 x.pc, .int .i64 x.ly]) ∧ Below w.heap.size w w' := by
  obtain ⟨ly, rs, cp, pc, dn, ac⟩ := x
  simp only [Pk.val]
  go_enter Try.func39, Try.ntmps39
  go_wp2
  exact bodyPost_ret (v := .agg #[.int .i64 cp, .int .i64 dn, .int .i64 ac, .int .i64 rs, .int .i64 pc, .int .i64 ly]) (results_cell_row rfl _ _ (w.heap.size + 1) 69 _ (0, 0) _ rfl (new2 w _ _) Try.underlying69 rfl (by kernel_rfl)) rfl ⟨rfl, ((Below.refl _ w).alloc (Nat.le_refl _) _).alloc (by simp) _⟩
theorem rankF_any (o : Nat) (ho : o < 5) (x : Pk) (w : World) : Calls Try.prog (rankF o) #[x.val] w fun e w' => e = .returned (.agg (rkA (x.rk o))) ∧ Below w.heap.size w w' := by
  obtain rfl | rfl | rfl | rfl | rfl := (by omega : o = 0 ∨ o = 1 ∨ o = 2 ∨ o = 3 ∨ o = 4)
  · exact rank1_any x w
  · exact rank2_any x w
  · exact rank3_any x w
  · exact rank4_any x w
  · exact rank5_any x w
theorem ranking_any (o : Nat) (ho : o < 5) (w : World) : Calls Try.prog 25 #[.int .i64 (o : Int)] w fun e w' => e = .returned (.func (.func (rankF o)) #[] #[]) ∧ w = w' := by
  obtain rfl | rfl | rfl | rfl | rfl := (by omega : o = 0 ∨ o = 1 ∨ o = 2 ∨ o = 3 ∨ o = 4) <;>
  · show Calls Try.prog 25 #[.int .i64 _] w _
    go_enter Try.func25, Try.ntmps25
    go_wp2
    go_ret
    exact ⟨rfl, rfl⟩
theorem isnan_any (x : Int) (w : World) : Calls Try.prog 72 #[.int .i64 x] w fun e w' => e = .returned (.bool false) ∧ w = w' := by
  go_enter Try.func72, Try.ntmps72
  go_wp2
  go_ret
  exact ⟨rfl, rfl⟩
theorem cmpI_any (x y : Int) (w : World) : Calls Try.prog 57 #[.int .i64 x, .int .i64 y] w fun e w' => e = .returned (.int .i64 (if x < y then -1 else if y < x then 1 else 0)) ∧ w = w' := by
  have NN := Lib.hid (fun a u => isnan_any a u)
  by_cases h1 : x < y
  · rw [if_pos h1]
    go_enter Try.func57, Try.ntmps57
    go_wp2_with (go_at_call 72; refine (NN.out _ _).mono ?_; rintro e w1 ⟨rfl, rfl⟩)
    go_ret
    exact ⟨rfl, rfl⟩
  · rw [if_neg h1]
    by_cases h2 : y < x
    · rw [if_pos h2]
      go_enter Try.func57, Try.ntmps57
      go_wp2_with (go_at_call 72; refine (NN.out _ _).mono ?_; rintro e w1 ⟨rfl, rfl⟩)
      go_ret
      exact ⟨rfl, rfl⟩
    · rw [if_neg h2]
      go_enter Try.func57, Try.ntmps57
      go_wp2_with (go_at_call 72; refine (NN.out _ _).mono ?_; rintro e w1 ⟨rfl, rfl⟩)
      go_ret
      exact ⟨rfl, rfl⟩
theorem cmpL_drop {l m : List Int} {i : Nat} {a b : Int} (ha : l[i]? = some a) (hb : m[i]? = some b) : cmpL (l.drop i) (m.drop i) = if a < b then -1 else if b < a then 1 else cmpL (l.drop (i + 1)) (m.drop (i + 1)) := by
  obtain ⟨hi, rfl⟩ := List.getElem?_eq_some_iff.1 ha
  obtain ⟨hj, rfl⟩ := List.getElem?_eq_some_iff.1 hb
  rw [List.drop_eq_getElem_cons hi, List.drop_eq_getElem_cons hj, cmpL]
/-- slices.Compare of two rows of one length. -/
theorem compareS_any {w : World} {b1 b2 n c1 c2 : Nat} {l m : List Int} (h1 : ∀ i a, l[i]? = some a → w.cell? ⟨b1, i, none⟩ = some (.int .i64 a)) (h2 : ∀ i a, m[i]? = some a → w.cell? ⟨b2, i, none⟩ = some (.int .i64 a)) (hl : l.length = n) (hm : m.length = n) (hn : n ≤ 1000) :
    Calls Try.prog 46 #[.slice (some ⟨b1, 0, none⟩) n c1, .slice (some ⟨b2, 0, none⟩) n c2] w fun e w' => e = .returned (.int .i64 (cmpL l m)) ∧ w = w' := by
  have HL := Lib.hid hl
  have HM := Lib.hid hm
  have H1 := Lib.hid h1
  have H2 := Lib.hid h2
  clear hl hm h1 h2
  go_enter Try.func46, Try.ntmps46
  go_wp2_with fail
  go_loopg [5, 6, 7, 8, 11] n (fun g v5 v6 v7 v8 v11 wr => ∃ i : Nat, i + g = n ∧ v11 = .int .i64 (i : Int) ∧ Hid (cmpL l m = cmpL (l.drop i) (m.drop i)) ∧ w = wr)
  case atStart => exact ⟨0, by omega, rfl, Lib.hid rfl, rfl⟩
  case round =>
    obtain ⟨i, hig, rfl, HC, rfl⟩ := hrel
    by_cases hlt : i < n
    · obtain ⟨g1, rfl⟩ : ∃ g1, gk = g1 + 1 := ⟨gk - 1, by omega⟩
      obtain ⟨a, ha⟩ : ∃ a, l[i]? = some a := ⟨_, List.getElem?_eq_getElem (by rw [HL.out]; exact hlt)⟩
      obtain ⟨b, hb⟩ : ∃ b, m[i]? = some b := ⟨_, List.getElem?_eq_getElem (by rw [HM.out]; exact hlt)⟩
      have p0 := H1.out i a ha
      have s0 := H2.out i b hb
      have HD := Lib.hid (cmpL_drop ha hb)
      have hI : (i : Int) < (n : Int) ∧ (0 : Int) ≤ (i : Int) := by omega
      have CC := Lib.hid (fun u => cmpI_any a b u)
      clear ha hb
      by_cases h1 : a < b
      · have HX : Hid (cmpL l m = -1) := Lib.hid (by rw [HC.out, HD.out, if_pos h1])
        simp only [if_pos h1] at CC
        go_wp2_with (go_at_call 57; refine (CC.out _).mono ?_; rintro e w1 ⟨rfl, rfl⟩)
        go_ret
        exact ⟨by rw [HX.out]; rfl, rfl⟩
      · by_cases h2 : b < a
        · have HX : Hid (cmpL l m = 1) := Lib.hid (by rw [HC.out, HD.out, if_neg h1, if_pos h2])
          simp only [if_neg h1, if_pos h2] at CC
          go_wp2_with (go_at_call 57; refine (CC.out _).mono ?_; rintro e w1 ⟨rfl, rfl⟩)
          go_ret
          exact ⟨by rw [HX.out]; rfl, rfl⟩
        · have HX : Hid (cmpL l m = cmpL (l.drop (i + 1)) (m.drop (i + 1))) := Lib.hid (by rw [HC.out, HD.out, if_neg h1, if_neg h2])
          simp only [if_neg h1, if_neg h2] at CC
          go_wp2_with (go_at_call 57; refine (CC.out _).mono ?_; rintro e w1 ⟨rfl, rfl⟩)
          go_roundg g1
          case rel => exact ⟨i + 1, by omega, by go_num, HX, rfl⟩
          case measure => omega
    · obtain rfl : i = n := by omega
      have hnlt : ¬ (i : Int) < (i : Int) := by omega
      have HX : Hid (cmpL l m = 0) := Lib.hid (by rw [HC.out, List.drop_eq_nil_of_le (by rw [HL.out]; exact Nat.le_refl _)]; rfl)
      go_wp2
      go_ret
      exact ⟨by rw [HX.out]; rfl, rfl⟩
/-- order.compare: two boxes, a draw. -/
theorem compare_any {x y : Pk} (o : Nat) (w : World) : Calls Try.prog 29 #[.agg (rkA (x.rk o)), .agg (rkA (y.rk o))] w fun e w' => e = .returned (.int .i64 (cmpL (x.rk o) (y.rk o))) ∧ ∃ q os, w' = Go.Sort.grow (w.drewN q) os := by
  obtain ⟨a0, a1, a2, a3, a4, a5, ha⟩ : ∃ a0 a1 a2 a3 a4 a5, x.rk o = [a0, a1, a2, a3, a4, a5] := rk_six o x
  obtain ⟨b0, b1, b2, b3, b4, b5, hb⟩ : ∃ a0 a1 a2 a3 a4 a5, y.rk o = [a0, a1, a2, a3, a4, a5] := rk_six o y
  rw [ha, hb]
  clear ha hb
  have CC := Lib.hid (fun (u : World) h1 h2 => compareS_any (w := u) (b1 := w.heap.size) (b2 := w.heap.size + 1) (n := 6) (c1 := 6) (c2 := 6) (l := [a0, a1, a2, a3, a4, a5]) (m := [b0, b1, b2, b3, b4, b5]) h1 h2 rfl rfl (by omega))
  obtain ⟨r, hr⟩ : ∃ r, cmpL [a0, a1, a2, a3, a4, a5] [b0, b1, b2, b3, b4, b5] = r := ⟨_, rfl⟩
  rw [hr] at CC ⊢
  clear hr
  show Calls Try.prog 29 #[.agg #[.int .i64 a0, .int .i64 a1, .int .i64 a2, .int .i64 a3, .int .i64 a4, .int .i64 a5], .agg #[.int .i64 b0, .int .i64 b1, .int .i64 b2, .int .i64 b3, .int .i64 b4, .int .i64 b5]] w _
  go_enter Try.func29, Try.ntmps29
  go_wp2_with fail
  obtain ⟨X, hX⟩ : ∃ X, (w.alloc (.cells (rkA [a0, a1, a2, a3, a4, a5]) 69)).alloc (.cells (rkA [b0, b1, b2, b3, b4, b5]) 69) = X := ⟨_, rfl⟩
  have g1 : X.heap[w.heap.size]? = some (.cells (rkA [a0, a1, a2, a3, a4, a5]) 69 (0, 0)) := by rw [← hX]; exact (Below.heap_alloc _ _ _ (by simp)).trans (World.alloc_heap_new w _)
  have g2 : X.heap[w.heap.size + 1]? = some (.cells (rkA [b0, b1, b2, b3, b4, b5]) 69 (0, 0)) := by rw [← hX]; exact new2 w _ _
  have hgr : Hid (X = Go.Sort.grow w #[.cells (rkA [a0, a1, a2, a3, a4, a5]) 69 (0, 0), .cells (rkA [b0, b1, b2, b3, b4, b5]) 69 (0, 0)]) := Lib.hid (by rw [← hX]; rfl)
  have CX : Hid (Calls Try.prog 46 #[.slice (some ⟨w.heap.size, 0, none⟩) 6 6, .slice (some ⟨w.heap.size + 1, 0, none⟩) 6 6] X.drew fun e w' => e = .returned (.int .i64 r) ∧ w' = X.drew) := Lib.hid ((CC.out X.drew (cells_list g1) (cells_list g2)).mono fun _ _ h => ⟨h.1, h.2.symm⟩)
  change Code.wp _ _ _ _ ((w.alloc (.cells (rkA [a0, a1, a2, a3, a4, a5]) 69)).alloc (.cells (rkA [b0, b1, b2, b3, b4, b5]) 69))
  rw [hX]
  clear hX CC
  refine wp_region_still_lit (by kernel_rfl) (by kernel_rfl) ?_
  repeat still_step
  still_call CX.out
  repeat still_step
  refine wpStill_nil ?_
  change Exit.then _ _ _ _ X.drew
  go_wp2
  go_ret
  exact ⟨rfl, 1, _, by rw [hgr.out]; rfl⟩
theorem allowed_any (x0 y0 x1 y1 tx ty lv bw bh pr st od ly : Int) (rc sp ep : Bool) (w : World) (hx : 0 ≤ x0 ∧ x1 ≤ 255) (hy : 0 ≤ y0 ∧ y1 ≤ 255) (hlv : 0 ≤ lv ∧ lv ≤ 5) (hpr : 1 ≤ pr ∧ pr ≤ 15) (hly : ly ≤ 8) :
    Calls Try.prog 26 #[.agg #[.int .i64 x0, .int .i64 y0, .int .i64 x1, .int .i64 y1], .agg #[.int .i64 tx, .int .i64 ty, .int .i64 lv, .int .i64 bw, .int .i64 bh, .int .i64 pr, .int .i64 st, .int .i64 od, .int .i64 ly, .bool rc, .bool sp, .bool ep]] w fun e w' => e = .returned (.bool true) ∧ Below w.heap.size w w' := by
  have t1 : decide (x0 < 0) = false := decide_eq_false (by omega)
  have t2 : decide (y0 < 0) = false := decide_eq_false (by omega)
  have t3 : decide (255 < x1) = false := decide_eq_false (by omega)
  have t4 : decide (255 < y1) = false := decide_eq_false (by omega)
  have t5 : decide (0 ≤ lv) = true := decide_eq_true (by omega)
  have t6 : decide (lv ≤ 5) = true := decide_eq_true (by omega)
  have t7 : decide (1 ≤ pr) = true := decide_eq_true (by omega)
  have t8 : decide (pr ≤ 15) = true := decide_eq_true (by omega)
  have t9 : decide (ly ≤ 8) = true := decide_eq_true (by omega)
  clear hx hy hlv hpr hly
  go_enter Try.func26, Try.ntmps26
  go_wp2
  go_ret
  exact ⟨rfl, ((Below.refl _ w).alloc (Nat.le_refl _) _).alloc (by simp) _⟩
theorem packets_any (T M P : Array Value) (w : World) : Calls Try.prog 27 #[.agg T, .agg M, .agg P] w fun e w' =>
    e = .returned (.func (.func 40) #[] #[.pointer (some ⟨w.heap.size + 1, 0, none⟩), .pointer (some ⟨w.heap.size, 0, none⟩), .pointer (some ⟨w.heap.size + 2, 0, none⟩)]) ∧
      w' = ((w.alloc (.cells T 38)).alloc (.cells M 28)).alloc (.cells P 30) := by
  go_enter Try.func27, Try.ntmps27
  go_wp2
  go_ret
  exact ⟨rfl, rfl⟩
end Go.Proofs.Ytejoedanhonpkaa
