/- canvas: a plain picture's components grow. -/
import Derived.Test.YtlbfjaifemnkpaaCvK
import Derived.Test.YtlbfjaifemnkpaaApps
set_option linter.unusedVariables false
set_option linter.unusedSimpArgs false
namespace Go.Proofs.Ytlbfjaifemnkpaa
open Go.RowKit
set_option maxRecDepth 100000
theorem Try.info45 : (Try.prog.info? 45).map (fun i => (i.zero, i.size, i.bytes)) = some (some (.agg #[.int .i64 0, .bool false, .int .i64 0, .int .i64 0, .slice none 0 0]), 5, 56) := by kernel_rfl
theorem blk_not_row {w : World} {p : Nat} {cs : Array Value} {t e : TypeId} (h : w.heap[p]? = some (.cells cs t (0, 0))) (hte : t ≠ e) {base size k : Nat} {v : Value} {xs : List Value} (hr : w.ownsRow base e size v k xs) : v.ownBlock ≠ some p := by
  rcases hr.2 with ⟨rfl, _⟩ | ⟨g, cap, cur, rfl, _, hgb, _⟩
  · simp [Value.ownBlock]
  · intro e'
    obtain rfl : g = p := by simpa [Value.ownBlock] using e'
    rw [h] at hgb
    simp at hgb
    exact hte hgb.2
section
variable {B : Nat} {w0 w w' : World} {bm bp j : Nat} {x y ox oy : Int} {P : Array Value} {V U : Value}
end
end Go.Proofs.Ytlbfjaifemnkpaa
