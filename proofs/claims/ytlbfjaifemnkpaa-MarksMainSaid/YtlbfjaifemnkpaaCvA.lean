/- canvas: Frame's parts, by their contracts. -/
import Derived.Test.YtlbfjaifemnkpaaOnly
import Derived.BigQuiet
import Derived.StillTailTactics
import Derived.RangeFuncRecord
import Derived.Deep.QuietTactic
import Derived.IntWalk
import Derived.Outline
set_option linter.unusedVariables false
set_option linter.unusedSimpArgs false
namespace Go.Proofs.Ytlbfjaifemnkpaa
open Go.RowKit
set_option maxRecDepth 100000
/-- Rounding up. -/
def ceilF (a b : Int) : Int := if 0 < a % b then a / b + 1 else a / b
theorem ceil_bd (a b : Int) (ha : 0 ≤ a) (hb : 1 ≤ b) : 0 ≤ ceilF a b ∧ ceilF a b ≤ a := by
  unfold ceilF
  have e1 := Int.mul_ediv_add_emod a b
  have hr0 := Int.emod_nonneg a (show b ≠ 0 by omega)
  have hq : 0 ≤ a / b := Int.ediv_nonneg ha (by omega)
  have hm : a / b ≤ b * (a / b) := by
    have : 1 * (a / b) ≤ b * (a / b) := Int.mul_le_mul_of_nonneg_right hb hq
    omega
  split <;> omega
/-- Facts of params that lie in a block. -/
theorem par_cells {w : World} {b : Nat} {tx ty lv bw bh pr st od ly : Int} {rct sop eph : Bool} (h : w.heap[b]? = some (.cells #[.int .i64 tx, .int .i64 ty, .int .i64 lv, .int .i64 bw, .int .i64 bh, .int .i64 pr, .int .i64 st, .int .i64 od, .int .i64 ly, .bool rct, .bool sop, .bool eph] 31 (0, 0))) :
    w.cell? ⟨b, 0, none⟩ = some (.int .i64 tx) ∧ w.cell? ⟨b, 1, none⟩ = some (.int .i64 ty) ∧ w.cell? ⟨b, 2, none⟩ = some (.int .i64 lv) ∧ w.cell? ⟨b, 3, none⟩ = some (.int .i64 bw) ∧ w.cell? ⟨b, 4, none⟩ = some (.int .i64 bh) ∧ w.cell? ⟨b, 5, none⟩ = some (.int .i64 pr) ∧ w.cell? ⟨b, 6, none⟩ = some (.int .i64 st) ∧ w.cell? ⟨b, 7, none⟩ = some (.int .i64 od) ∧ w.cell? ⟨b, 8, none⟩ = some (.int .i64 ly) ∧ w.cell? ⟨b, 9, none⟩ = some (.bool rct) ∧ w.cell? ⟨b, 10, none⟩ = some (.bool sop) ∧ w.cell? ⟨b, 11, none⟩ = some (.bool eph) := by
  simp [World.cell?, h]
theorem img_cells {w : World} {b : Nat} {x y ox oy : Int} {C : Value} (h : w.heap[b]? = some (.cells #[.int .i64 x, .int .i64 y, .int .i64 ox, .int .i64 oy, C] 29 (0, 0))) :
    w.cell? ⟨b, 0, none⟩ = some (.int .i64 x) ∧ w.cell? ⟨b, 1, none⟩ = some (.int .i64 y) ∧ w.cell? ⟨b, 2, none⟩ = some (.int .i64 ox) ∧ w.cell? ⟨b, 3, none⟩ = some (.int .i64 oy) ∧ w.cell? ⟨b, 4, none⟩ = some C := by
  simp [World.cell?, h]
end Go.Proofs.Ytlbfjaifemnkpaa
