/- canvas: Frame's parts, by their contracts. -/
import Derived.Test.YthcpmonahmogaaaOnly
import Derived.BigQuiet
import Derived.StillTailTactics
import Derived.RangeFuncRecord
import Derived.Deep.QuietTactic
import Derived.IntWalk
import Derived.Outline
set_option linter.unusedVariables false
set_option linter.unusedSimpArgs false
namespace Go.Proofs.Ythcpmonahmogaaa
open Go.RowKit
set_option maxRecDepth 100000
/-- Rounding up. -/
def ceilF (a b : Int) : Int := if 0 < a % b then a / b + 1 else a / b
theorem ceil_bd (a b : Int) (ha : 0 ≤ a) (hb : 1 ≤ b) : 0 ≤ ceilF a b ∧ ceilF a b ≤ a := by
  unfold ceilF
  have e1 := Int.mul_ediv_add_emod a b
  have hr0 := Int.emod_nonneg a (show b ≠ 0 by omega)
  have hq : 0 ≤ a / b := Int.ediv_nonneg ha (by omega)
  have hm : a / b ≤ b * (a / b) := by
    have : 1 * (a / b) ≤ b * (a / b) := Int.mul_le_mul_of_nonneg_right hb hq
    omega
  split <;> omega
def inB (n a b : Int) : Bool := decide (a ≤ n) && decide (n ≤ b)
set_option maxHeartbeats 1000000 in
theorem within_any (n a b : Int) (w : World) : Calls Try.prog 38 #[.int .i64 n, .int .i64 a, .int .i64 b] w fun e w' => e = .returned (.bool (inB n a b)) ∧ w = w' := by
  by_cases h : a ≤ n
  · by_cases h2 : n ≤ b
    · have e : inB n a b = true := by simp [inB, h, h2]
      have E := Lib.hid e
      clear e
      go_enter Try.func38, Try.ntmps38
      go_wp2
      go_ret
      exact ⟨ret_bool E.out.symm, rfl⟩
    · have e : inB n a b = false := by simp [inB, h, h2]
      have E := Lib.hid e
      clear e
      go_enter Try.func38, Try.ntmps38
      go_wp2
      go_ret
      exact ⟨ret_bool (by rw [E.out]), rfl⟩
  · have e : inB n a b = false := by simp [inB, h]
    have E := Lib.hid e
    clear e
    go_enter Try.func38, Try.ntmps38
    go_wp2
    go_ret
    exact ⟨ret_bool E.out.symm, rfl⟩
set_option maxHeartbeats 1000000 in
theorem ceil_any (a b : Int) (w : World) (ha : 0 ≤ a ∧ a ≤ 1000000) (hb : 1 ≤ b ∧ b ≤ 1000000) :
    Calls Try.prog 46 #[.int .i64 a, .int .i64 b] w fun e w' => e = .returned (.int .i64 (ceilF a b)) ∧ w' = w := by
  have hb0 : ¬ b = 0 := by omega
  have h3 := ceil_bd a b ha.1 hb.1
  have hq := Int.ediv_nonneg ha.1 (show 0 ≤ b by omega)
  have hq2 : a / b ≤ a := Int.ediv_le_self b ha.1
  by_cases c : 0 < a % b
  · have E : Hid (ceilF a b = a / b + 1) := Lib.hid (if_pos c)
    go_enter Try.func46, Try.ntmps46
    go_wp2
    go_ret
    exact ⟨ret_i64 E.out.symm, rfl⟩
  · have E : Hid (ceilF a b = a / b) := Lib.hid (if_neg c)
    go_enter Try.func46, Try.ntmps46
    go_wp2
    go_ret
    exact ⟨ret_i64 E.out.symm, rfl⟩
def gridF (x y ox oy : Int) : Int := if ox < 0 ∨ oy < 0 ∨ x ≤ ox ∨ y ≤ oy then 1 else if 64 < x ∨ 64 < y then 14 else 0
set_option maxHeartbeats 4000000 in
theorem grid_any (x y ox oy : Int) (AC : Option Addr) (n cC : Nat) (w : World) :
    Calls Try.prog 37 #[.agg #[.int .i64 x, .int .i64 y, .int .i64 ox, .int .i64 oy, .slice AC n cC]] w fun e w' => e = .returned (.int .i64 (gridF x y ox oy)) ∧ Below w.heap.size w w' := by
  have hB := Lib.hid ((Below.refl w.heap.size w).alloc (Nat.le_refl _) (Obj.cells #[.int .i64 x, .int .i64 y, .int .i64 ox, .int .i64 oy, .slice AC n cC] 24))
  go_enter Try.func37, Try.ntmps37
  go_wp2
  all_goals
    go_ret
    exact ⟨ret_i64 (by unfold gridF; repeat (first | omega | split)), hB.out⟩
def cutsB (bw bh pr : Int) : Bool := inB bw 2 6 && inB bh 2 6 && inB pr 1 15
set_option maxHeartbeats 4000000 in
theorem cuts_any (tx ty lv bw bh pr st od ly : Int) (rct sop eph : Bool) (w : World) :
    Calls Try.prog 58 #[.agg #[.int .i64 tx, .int .i64 ty, .int .i64 lv, .int .i64 bw, .int .i64 bh, .int .i64 pr, .int .i64 st, .int .i64 od, .int .i64 ly, .bool rct, .bool sop, .bool eph]] w fun e w' => e = .returned (.bool (cutsB bw bh pr)) ∧ Below w.heap.size w w' := by
  have hB := Lib.hid ((Below.refl w.heap.size w).alloc (Nat.le_refl _) (Obj.cells #[.int .i64 tx, .int .i64 ty, .int .i64 lv, .int .i64 bw, .int .i64 bh, .int .i64 pr, .int .i64 st, .int .i64 od, .int .i64 ly, .bool rct, .bool sop, .bool eph] 26))
  have C := Lib.hid (fun (n a b : Int) (u : World) => within_any n a b u)
  obtain ⟨r, hr⟩ : ∃ r, cutsB bw bh pr = r := ⟨_, rfl⟩
  rw [hr]
  unfold cutsB at hr
  have HR := Lib.hid hr
  clear hr
  cases h1 : inB bw 2 6 <;> cases h2 : inB bh 2 6 <;> cases h3 : inB pr 1 15
  all_goals
    have hr := HR.out
    rw [h1, h2, h3] at hr
    simp at hr
    subst hr
    have H1 := Lib.hid h1
    have H2 := Lib.hid h2
    have H3 := Lib.hid h3
    clear h1 h2 h3 HR
    go_enter Try.func58, Try.ntmps58
    go_wp2_with ((with_reducible refine (C.out _ _ _ _).mono ?_); rintro e w' ⟨rfl, rfl⟩; (try rw [H1.out]); (try rw [H2.out]); (try rw [H3.out]))
    go_ret
    exact ⟨rfl, hB.out⟩
def codingF (lv bw bh pr st od ly : Int) : Int := if inB lv 0 5 = true ∧ cutsB bw bh pr = true ∧ inB st 0 63 = true ∧ inB od 0 4 = true ∧ inB ly 1 8 = true then 0 else 1
/-- Facts of params that lie in a block. -/
theorem par_cells {w : World} {b : Nat} {tx ty lv bw bh pr st od ly : Int} {rct sop eph : Bool} (h : w.heap[b]? = some (.cells #[.int .i64 tx, .int .i64 ty, .int .i64 lv, .int .i64 bw, .int .i64 bh, .int .i64 pr, .int .i64 st, .int .i64 od, .int .i64 ly, .bool rct, .bool sop, .bool eph] 26 (0, 0))) :
    w.cell? ⟨b, 0, none⟩ = some (.int .i64 tx) ∧ w.cell? ⟨b, 1, none⟩ = some (.int .i64 ty) ∧ w.cell? ⟨b, 2, none⟩ = some (.int .i64 lv) ∧ w.cell? ⟨b, 3, none⟩ = some (.int .i64 bw) ∧ w.cell? ⟨b, 4, none⟩ = some (.int .i64 bh) ∧ w.cell? ⟨b, 5, none⟩ = some (.int .i64 pr) ∧ w.cell? ⟨b, 6, none⟩ = some (.int .i64 st) ∧ w.cell? ⟨b, 7, none⟩ = some (.int .i64 od) ∧ w.cell? ⟨b, 8, none⟩ = some (.int .i64 ly) ∧ w.cell? ⟨b, 9, none⟩ = some (.bool rct) ∧ w.cell? ⟨b, 10, none⟩ = some (.bool sop) ∧ w.cell? ⟨b, 11, none⟩ = some (.bool eph) := by
  simp [World.cell?, h]
theorem img_cells {w : World} {b : Nat} {x y ox oy : Int} {C : Value} (h : w.heap[b]? = some (.cells #[.int .i64 x, .int .i64 y, .int .i64 ox, .int .i64 oy, C] 24 (0, 0))) :
    w.cell? ⟨b, 0, none⟩ = some (.int .i64 x) ∧ w.cell? ⟨b, 1, none⟩ = some (.int .i64 y) ∧ w.cell? ⟨b, 2, none⟩ = some (.int .i64 ox) ∧ w.cell? ⟨b, 3, none⟩ = some (.int .i64 oy) ∧ w.cell? ⟨b, 4, none⟩ = some C := by
  simp [World.cell?, h]
set_option maxHeartbeats 4000000 in
theorem coding_any (tx ty lv bw bh pr st od ly : Int) (rct sop eph : Bool) (w : World) :
    Calls Try.prog 40 #[.agg #[.int .i64 tx, .int .i64 ty, .int .i64 lv, .int .i64 bw, .int .i64 bh, .int .i64 pr, .int .i64 st, .int .i64 od, .int .i64 ly, .bool rct, .bool sop, .bool eph]] w fun e w' => e = .returned (.int .i64 (codingF lv bw bh pr st od ly)) ∧ Below w.heap.size w w' := by
  have C := Lib.hid (fun (n a b : Int) (u : World) => within_any n a b u)
  have CC := Lib.hid (fun (u : World) => cuts_any tx ty lv bw bh pr st od ly rct sop eph u)
  cases h0 : inB lv 0 5
  case false =>
    have H0 := Lib.hid h0
    have hr : codingF lv bw bh pr st od ly = 1 := by simp [codingF, h0]
    rw [hr]
    clear hr h0
    go_enter Try.func40, Try.ntmps40
    go_wp2_with fail
    obtain ⟨W1, hW1⟩ : ∃ W1, w.alloc (Obj.cells #[.int .i64 tx, .int .i64 ty, .int .i64 lv, .int .i64 bw, .int .i64 bh, .int .i64 pr, .int .i64 st, .int .i64 od, .int .i64 ly, .bool rct, .bool sop, .bool eph] 26) = W1 := ⟨_, rfl⟩
    have hb1 : W1.heap[w.heap.size]? = some (.cells #[.int .i64 tx, .int .i64 ty, .int .i64 lv, .int .i64 bw, .int .i64 bh, .int .i64 pr, .int .i64 st, .int .i64 od, .int .i64 ly, .bool rct, .bool sop, .bool eph] 26 (0, 0)) := by rw [← hW1]; exact World.alloc_heap_new w _
    have hB1 : Below w.heap.size w W1 := by rw [← hW1]; exact (Below.refl _ w).alloc (Nat.le_refl _) _
    rw [hW1]
    obtain ⟨c0, c1, c2, c3, c4, c5, c6, c7, c8, c9, c10, c11⟩ := par_cells hb1
    have HB1 := Lib.hid (And.intro hb1 hB1)
    clear hW1 hb1 hB1
    refine (C.out _ _ _ _).mono ?_
    rintro e w' ⟨rfl, rfl⟩
    rw [H0.out]
    go_wp2
    go_ret
    exact ⟨rfl, HB1.out.2⟩
  case true =>
    cases h1 : cutsB bw bh pr
    case false =>
      have H0 := Lib.hid h0
      have H1 := Lib.hid h1
      have hr : codingF lv bw bh pr st od ly = 1 := by simp [codingF, h0, h1]
      rw [hr]
      clear hr h0 h1
      go_enter Try.func40, Try.ntmps40
      go_wp2_with fail
      obtain ⟨W1, hW1⟩ : ∃ W1, w.alloc (Obj.cells #[.int .i64 tx, .int .i64 ty, .int .i64 lv, .int .i64 bw, .int .i64 bh, .int .i64 pr, .int .i64 st, .int .i64 od, .int .i64 ly, .bool rct, .bool sop, .bool eph] 26) = W1 := ⟨_, rfl⟩
      have hb1 : W1.heap[w.heap.size]? = some (.cells #[.int .i64 tx, .int .i64 ty, .int .i64 lv, .int .i64 bw, .int .i64 bh, .int .i64 pr, .int .i64 st, .int .i64 od, .int .i64 ly, .bool rct, .bool sop, .bool eph] 26 (0, 0)) := by rw [← hW1]; exact World.alloc_heap_new w _
      have hB1 : Below w.heap.size w W1 := by rw [← hW1]; exact (Below.refl _ w).alloc (Nat.le_refl _) _
      rw [hW1]
      obtain ⟨c0, c1, c2, c3, c4, c5, c6, c7, c8, c9, c10, c11⟩ := par_cells hb1
      have HB1 := Lib.hid (And.intro hb1 hB1)
      clear hW1 hb1 hB1
      refine (C.out _ _ _ _).mono ?_
      rintro e w' ⟨rfl, rfl⟩
      rw [H0.out]
      go_wp2_with fail
      refine (CC.out _).mono ?_
      rintro e W2 ⟨rfl, hb2⟩
      rw [H1.out]
      have hq := (hb2.block _ (Array.getElem?_eq_some_iff.1 HB1.out.1).1).trans HB1.out.1
      have HB2 : Hid (Below w.heap.size w W2) := Lib.hid (HB1.out.2.trans (hb2.mono HB1.out.2.size))
      clear c0 c1 c2 c3 c4 c5 c6 c7 c8 c9 c10 c11
      obtain ⟨c0, c1, c2, c3, c4, c5, c6, c7, c8, c9, c10, c11⟩ := par_cells hq
      clear hq hb2
      go_wp2
      go_ret
      exact ⟨rfl, HB2.out⟩
    case true =>
      cases h2 : inB st 0 63
      case false =>
        have H0 := Lib.hid h0
        have H1 := Lib.hid h1
        have H2 := Lib.hid h2
        have hr : codingF lv bw bh pr st od ly = 1 := by simp [codingF, h0, h1, h2]
        rw [hr]
        clear hr h0 h1 h2
        go_enter Try.func40, Try.ntmps40
        go_wp2_with fail
        obtain ⟨W1, hW1⟩ : ∃ W1, w.alloc (Obj.cells #[.int .i64 tx, .int .i64 ty, .int .i64 lv, .int .i64 bw, .int .i64 bh, .int .i64 pr, .int .i64 st, .int .i64 od, .int .i64 ly, .bool rct, .bool sop, .bool eph] 26) = W1 := ⟨_, rfl⟩
        have hb1 : W1.heap[w.heap.size]? = some (.cells #[.int .i64 tx, .int .i64 ty, .int .i64 lv, .int .i64 bw, .int .i64 bh, .int .i64 pr, .int .i64 st, .int .i64 od, .int .i64 ly, .bool rct, .bool sop, .bool eph] 26 (0, 0)) := by rw [← hW1]; exact World.alloc_heap_new w _
        have hB1 : Below w.heap.size w W1 := by rw [← hW1]; exact (Below.refl _ w).alloc (Nat.le_refl _) _
        rw [hW1]
        obtain ⟨c0, c1, c2, c3, c4, c5, c6, c7, c8, c9, c10, c11⟩ := par_cells hb1
        have HB1 := Lib.hid (And.intro hb1 hB1)
        clear hW1 hb1 hB1
        refine (C.out _ _ _ _).mono ?_
        rintro e w' ⟨rfl, rfl⟩
        rw [H0.out]
        go_wp2_with fail
        refine (CC.out _).mono ?_
        rintro e W2 ⟨rfl, hb2⟩
        rw [H1.out]
        have hq := (hb2.block _ (Array.getElem?_eq_some_iff.1 HB1.out.1).1).trans HB1.out.1
        have HB2 : Hid (Below w.heap.size w W2) := Lib.hid (HB1.out.2.trans (hb2.mono HB1.out.2.size))
        clear c0 c1 c2 c3 c4 c5 c6 c7 c8 c9 c10 c11
        obtain ⟨c0, c1, c2, c3, c4, c5, c6, c7, c8, c9, c10, c11⟩ := par_cells hq
        clear hq hb2
        go_wp2_with fail
        refine (C.out _ _ _ _).mono ?_
        rintro e w' ⟨rfl, rfl⟩
        rw [H2.out]
        go_wp2
        go_ret
        exact ⟨rfl, HB2.out⟩
      case true =>
        cases h3 : inB od 0 4
        case false =>
          have H0 := Lib.hid h0
          have H1 := Lib.hid h1
          have H2 := Lib.hid h2
          have H3 := Lib.hid h3
          have hr : codingF lv bw bh pr st od ly = 1 := by simp [codingF, h0, h1, h2, h3]
          rw [hr]
          clear hr h0 h1 h2 h3
          go_enter Try.func40, Try.ntmps40
          go_wp2_with fail
          obtain ⟨W1, hW1⟩ : ∃ W1, w.alloc (Obj.cells #[.int .i64 tx, .int .i64 ty, .int .i64 lv, .int .i64 bw, .int .i64 bh, .int .i64 pr, .int .i64 st, .int .i64 od, .int .i64 ly, .bool rct, .bool sop, .bool eph] 26) = W1 := ⟨_, rfl⟩
          have hb1 : W1.heap[w.heap.size]? = some (.cells #[.int .i64 tx, .int .i64 ty, .int .i64 lv, .int .i64 bw, .int .i64 bh, .int .i64 pr, .int .i64 st, .int .i64 od, .int .i64 ly, .bool rct, .bool sop, .bool eph] 26 (0, 0)) := by rw [← hW1]; exact World.alloc_heap_new w _
          have hB1 : Below w.heap.size w W1 := by rw [← hW1]; exact (Below.refl _ w).alloc (Nat.le_refl _) _
          rw [hW1]
          obtain ⟨c0, c1, c2, c3, c4, c5, c6, c7, c8, c9, c10, c11⟩ := par_cells hb1
          have HB1 := Lib.hid (And.intro hb1 hB1)
          clear hW1 hb1 hB1
          refine (C.out _ _ _ _).mono ?_
          rintro e w' ⟨rfl, rfl⟩
          rw [H0.out]
          go_wp2_with fail
          refine (CC.out _).mono ?_
          rintro e W2 ⟨rfl, hb2⟩
          rw [H1.out]
          have hq := (hb2.block _ (Array.getElem?_eq_some_iff.1 HB1.out.1).1).trans HB1.out.1
          have HB2 : Hid (Below w.heap.size w W2) := Lib.hid (HB1.out.2.trans (hb2.mono HB1.out.2.size))
          clear c0 c1 c2 c3 c4 c5 c6 c7 c8 c9 c10 c11
          obtain ⟨c0, c1, c2, c3, c4, c5, c6, c7, c8, c9, c10, c11⟩ := par_cells hq
          clear hq hb2
          go_wp2_with fail
          refine (C.out _ _ _ _).mono ?_
          rintro e w' ⟨rfl, rfl⟩
          rw [H2.out]
          go_wp2_with fail
          refine (C.out _ _ _ _).mono ?_
          rintro e w' ⟨rfl, rfl⟩
          rw [H3.out]
          go_wp2
          go_ret
          exact ⟨rfl, HB2.out⟩
        case true =>
          cases h4 : inB ly 1 8
          case false =>
            have H0 := Lib.hid h0
            have H1 := Lib.hid h1
            have H2 := Lib.hid h2
            have H3 := Lib.hid h3
            have H4 := Lib.hid h4
            have hr : codingF lv bw bh pr st od ly = 1 := by simp [codingF, h0, h1, h2, h3, h4]
            rw [hr]
            clear hr h0 h1 h2 h3 h4
            go_enter Try.func40, Try.ntmps40
            go_wp2_with fail
            obtain ⟨W1, hW1⟩ : ∃ W1, w.alloc (Obj.cells #[.int .i64 tx, .int .i64 ty, .int .i64 lv, .int .i64 bw, .int .i64 bh, .int .i64 pr, .int .i64 st, .int .i64 od, .int .i64 ly, .bool rct, .bool sop, .bool eph] 26) = W1 := ⟨_, rfl⟩
            have hb1 : W1.heap[w.heap.size]? = some (.cells #[.int .i64 tx, .int .i64 ty, .int .i64 lv, .int .i64 bw, .int .i64 bh, .int .i64 pr, .int .i64 st, .int .i64 od, .int .i64 ly, .bool rct, .bool sop, .bool eph] 26 (0, 0)) := by rw [← hW1]; exact World.alloc_heap_new w _
            have hB1 : Below w.heap.size w W1 := by rw [← hW1]; exact (Below.refl _ w).alloc (Nat.le_refl _) _
            rw [hW1]
            obtain ⟨c0, c1, c2, c3, c4, c5, c6, c7, c8, c9, c10, c11⟩ := par_cells hb1
            have HB1 := Lib.hid (And.intro hb1 hB1)
            clear hW1 hb1 hB1
            refine (C.out _ _ _ _).mono ?_
            rintro e w' ⟨rfl, rfl⟩
            rw [H0.out]
            go_wp2_with fail
            refine (CC.out _).mono ?_
            rintro e W2 ⟨rfl, hb2⟩
            rw [H1.out]
            have hq := (hb2.block _ (Array.getElem?_eq_some_iff.1 HB1.out.1).1).trans HB1.out.1
            have HB2 : Hid (Below w.heap.size w W2) := Lib.hid (HB1.out.2.trans (hb2.mono HB1.out.2.size))
            clear c0 c1 c2 c3 c4 c5 c6 c7 c8 c9 c10 c11
            obtain ⟨c0, c1, c2, c3, c4, c5, c6, c7, c8, c9, c10, c11⟩ := par_cells hq
            clear hq hb2
            go_wp2_with fail
            refine (C.out _ _ _ _).mono ?_
            rintro e w' ⟨rfl, rfl⟩
            rw [H2.out]
            go_wp2_with fail
            refine (C.out _ _ _ _).mono ?_
            rintro e w' ⟨rfl, rfl⟩
            rw [H3.out]
            go_wp2_with fail
            refine (C.out _ _ _ _).mono ?_
            rintro e w' ⟨rfl, rfl⟩
            rw [H4.out]
            go_wp2
            go_ret
            exact ⟨rfl, HB2.out⟩
          case true =>
            have H0 := Lib.hid h0
            have H1 := Lib.hid h1
            have H2 := Lib.hid h2
            have H3 := Lib.hid h3
            have H4 := Lib.hid h4
            have hr : codingF lv bw bh pr st od ly = 0 := by simp [codingF, h0, h1, h2, h3, h4]
            rw [hr]
            clear hr h0 h1 h2 h3 h4
            go_enter Try.func40, Try.ntmps40
            go_wp2_with fail
            obtain ⟨W1, hW1⟩ : ∃ W1, w.alloc (Obj.cells #[.int .i64 tx, .int .i64 ty, .int .i64 lv, .int .i64 bw, .int .i64 bh, .int .i64 pr, .int .i64 st, .int .i64 od, .int .i64 ly, .bool rct, .bool sop, .bool eph] 26) = W1 := ⟨_, rfl⟩
            have hb1 : W1.heap[w.heap.size]? = some (.cells #[.int .i64 tx, .int .i64 ty, .int .i64 lv, .int .i64 bw, .int .i64 bh, .int .i64 pr, .int .i64 st, .int .i64 od, .int .i64 ly, .bool rct, .bool sop, .bool eph] 26 (0, 0)) := by rw [← hW1]; exact World.alloc_heap_new w _
            have hB1 : Below w.heap.size w W1 := by rw [← hW1]; exact (Below.refl _ w).alloc (Nat.le_refl _) _
            rw [hW1]
            obtain ⟨c0, c1, c2, c3, c4, c5, c6, c7, c8, c9, c10, c11⟩ := par_cells hb1
            have HB1 := Lib.hid (And.intro hb1 hB1)
            clear hW1 hb1 hB1
            refine (C.out _ _ _ _).mono ?_
            rintro e w' ⟨rfl, rfl⟩
            rw [H0.out]
            go_wp2_with fail
            refine (CC.out _).mono ?_
            rintro e W2 ⟨rfl, hb2⟩
            rw [H1.out]
            have hq := (hb2.block _ (Array.getElem?_eq_some_iff.1 HB1.out.1).1).trans HB1.out.1
            have HB2 : Hid (Below w.heap.size w W2) := Lib.hid (HB1.out.2.trans (hb2.mono HB1.out.2.size))
            clear c0 c1 c2 c3 c4 c5 c6 c7 c8 c9 c10 c11
            obtain ⟨c0, c1, c2, c3, c4, c5, c6, c7, c8, c9, c10, c11⟩ := par_cells hq
            clear hq hb2
            go_wp2_with fail
            refine (C.out _ _ _ _).mono ?_
            rintro e w' ⟨rfl, rfl⟩
            rw [H2.out]
            go_wp2_with fail
            refine (C.out _ _ _ _).mono ?_
            rintro e w' ⟨rfl, rfl⟩
            rw [H3.out]
            go_wp2_with fail
            refine (C.out _ _ _ _).mono ?_
            rintro e w' ⟨rfl, rfl⟩
            rw [H4.out]
            go_wp2
            go_ret
            exact ⟨rfl, HB2.out⟩
def tilesF (x y ox oy tx ty : Int) : Int := if tx ≤ ox ∨ 65536 < tx ∨ ty ≤ oy ∨ 65536 < ty then 1 else if 16 < ceilF x tx * ceilF y ty then 14 else 0
set_option maxHeartbeats 4000000 in
theorem tiles_any (x y ox oy : Int) (AC : Option Addr) (n cC : Nat) (tx ty lv bw bh pr st od ly : Int) (rct sop eph : Bool) (w : World) (hx : 0 ≤ ox ∧ ox < x ∧ x ≤ 64) (hy : 0 ≤ oy ∧ oy < y ∧ y ≤ 64) :
    Calls Try.prog 39 #[.agg #[.int .i64 x, .int .i64 y, .int .i64 ox, .int .i64 oy, .slice AC n cC], .agg #[.int .i64 tx, .int .i64 ty, .int .i64 lv, .int .i64 bw, .int .i64 bh, .int .i64 pr, .int .i64 st, .int .i64 od, .int .i64 ly, .bool rct, .bool sop, .bool eph]] w fun e w' => e = .returned (.int .i64 (tilesF x y ox oy tx ty)) ∧ Below w.heap.size w w' := by
  by_cases hc : tx ≤ ox ∨ 65536 < tx ∨ ty ≤ oy ∨ 65536 < ty
  · have hr : tilesF x y ox oy tx ty = 1 := if_pos hc
    have HR := Lib.hid hr
    have hB := Lib.hid (((Below.refl w.heap.size w).alloc (Nat.le_refl _) (Obj.cells #[.int .i64 x, .int .i64 y, .int .i64 ox, .int .i64 oy, .slice AC n cC] 24)).alloc (by simp) (Obj.cells #[.int .i64 tx, .int .i64 ty, .int .i64 lv, .int .i64 bw, .int .i64 bh, .int .i64 pr, .int .i64 st, .int .i64 od, .int .i64 ly, .bool rct, .bool sop, .bool eph] 26))
    rw [hr]
    clear hr
    rcases (by omega : tx ≤ ox ∨ (ox < tx ∧ 65536 < tx) ∨ (ox < tx ∧ tx ≤ 65536 ∧ ty ≤ oy) ∨ (ox < tx ∧ tx ≤ 65536 ∧ oy < ty ∧ 65536 < ty)) with h | ⟨g1, h⟩ | ⟨g1, g2, h⟩ | ⟨g1, g2, g3, h⟩
    all_goals
      clear hc
      go_enter Try.func39, Try.ntmps39
      go_wp2
      go_ret
      exact ⟨rfl, hB.out⟩
  · have h1 : ox < tx ∧ tx ≤ 65536 ∧ oy < ty ∧ ty ≤ 65536 := by omega
    have hr : tilesF x y ox oy tx ty = if 16 < ceilF x tx * ceilF y ty then 14 else 0 := if_neg hc
    rw [hr]
    clear hr hc
    obtain ⟨g1, g2, g3, g4⟩ := h1
    have b1 := ceil_bd x tx (by omega) (by omega)
    have b2 := ceil_bd y ty (by omega) (by omega)
    have p0 : 0 ≤ ceilF x tx * ceilF y ty := Int.mul_nonneg b1.1 b2.1
    have p1 : ceilF x tx * ceilF y ty ≤ 64 * 64 := Int.mul_le_mul (by omega) (by omega) b2.1 (by omega)
    have CX := Lib.hid (fun u => ceil_any x tx u (by omega) (by omega))
    have CY := Lib.hid (fun u => ceil_any y ty u (by omega) (by omega))
    obtain ⟨P, hP⟩ : ∃ P, ceilF x tx * ceilF y ty = P := ⟨_, rfl⟩
    rw [hP] at p0 p1 ⊢
    have q1 : IntKind.i64.wrap (ceilF x tx * ceilF y ty) = P := by rw [hP]; exact IntWalk.i64_in _ (by omega)
    have HQ := Lib.hid q1
    clear q1
    generalize ceilF x tx = u1 at *
    generalize ceilF y ty = u2 at *
    clear hP
    by_cases c : 16 < P
    all_goals
      first | rw [if_pos c] | rw [if_neg c]
      go_enter Try.func39, Try.ntmps39
      go_wp2
      obtain ⟨X, hX⟩ : ∃ X, (w.alloc (Obj.cells #[.int .i64 x, .int .i64 y, .int .i64 ox, .int .i64 oy, .slice AC n cC] 24)).alloc (Obj.cells #[.int .i64 tx, .int .i64 ty, .int .i64 lv, .int .i64 bw, .int .i64 bh, .int .i64 pr, .int .i64 st, .int .i64 od, .int .i64 ly, .bool rct, .bool sop, .bool eph] 26) = X := ⟨_, rfl⟩
      have hB : Below w.heap.size w X := by rw [← hX]; exact ((Below.refl _ w).alloc (Nat.le_refl _) _).alloc (by simp) _
      have hz : (w.alloc (Obj.cells #[.int .i64 x, .int .i64 y, .int .i64 ox, .int .i64 oy, .slice AC n cC] 24)).heap.size = w.heap.size + 1 := by simp
      have b1' : X.heap[w.heap.size]? = some (.cells #[.int .i64 x, .int .i64 y, .int .i64 ox, .int .i64 oy, .slice AC n cC] 24 (0, 0)) := by
        rw [← hX, Below.heap_alloc _ _ _ (by simp)]; exact World.alloc_heap_new w _
      have b2' : X.heap[w.heap.size + 1]? = some (.cells #[.int .i64 tx, .int .i64 ty, .int .i64 lv, .int .i64 bw, .int .i64 bh, .int .i64 pr, .int .i64 st, .int .i64 od, .int .i64 ly, .bool rct, .bool sop, .bool eph] 26 (0, 0)) := by
        rw [← hX, ← hz]; exact World.alloc_heap_new _ _
      obtain ⟨c0, c1, c2, c3, c4⟩ := img_cells b1'
      obtain ⟨k0, k1, k2, k3, k4, k5, k6, k7, k8, k9, k10, k11⟩ := par_cells b2'
      rw [hX]
      have HB := Lib.hid hB
      have q1 := HQ.out
      clear hX hz b1' b2' hB
      refine wp_region_still_lit (by kernel_rfl) (by kernel_rfl) ?_
      repeat still_step
      still_call (CX.out X.drew)
      repeat still_step
      still_call (CY.out X.drew)
      repeat still_step
      refine wpStill_nil ?_
      change Exit.then _ _ _ _ X.drew
      clear q1
      go_wp2
      go_ret
      exact ⟨rfl, below_drewN HB.out 1⟩
end Go.Proofs.Ythcpmonahmogaaa
