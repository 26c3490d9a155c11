/- canvas: a plain picture's components grow. -/
import Derived.Test.YtejoedanhonpkaaCvK
import Derived.Test.YtejoedanhonpkaaApps
set_option linter.unusedVariables false
set_option linter.unusedSimpArgs false
namespace Go.Proofs.Ytejoedanhonpkaa
open Go.RowKit
set_option maxRecDepth 100000
theorem Try.info48 : (Try.prog.info? 48).map (fun i => (i.zero, i.size, i.bytes)) = some (some (.agg #[.int .i64 0, .bool false, .int .i64 0, .int .i64 0, .slice none 0 0]), 5, 56) := by kernel_rfl
def plainV : List Value := [.int .i64 8, .bool false, .int .i64 1, .int .i64 1, .slice none 0 0]
def plR : Nat → List Value
  | 0 => []
  | j + 1 => plR j ++ plainV
theorem blk_not_row {w : World} {p : Nat} {cs : Array Value} {t e : TypeId} (h : w.heap[p]? = some (.cells cs t (0, 0))) (hte : t ≠ e) {base size k : Nat} {v : Value} {xs : List Value} (hr : w.ownsRow base e size v k xs) : v.ownBlock ≠ some p := by
  rcases hr.2 with ⟨rfl, _⟩ | ⟨g, cap, cur, rfl, _, hgb, _⟩
  · simp [Value.ownBlock]
  · intro e'
    obtain rfl : g = p := by simpa [Value.ownBlock] using e'
    rw [h] at hgb
    simp at hgb
    exact hte hgb.2
/-- A picture of j plain components, its params and its components in memory. -/
structure GS (B : Nat) (w0 w : World) (bm bp : Nat) (x y ox oy : Int) (P : Array Value) (V U : Value) (j : Nat) : Prop where
  m : w.heap[bm]? = some (.cells #[.int .i64 x, .int .i64 y, .int .i64 ox, .int .i64 oy, V] 28 (0, 0))
  p : w.heap[bp]? = some (.cells P 30 (0, 0))
  o : w.ownsRow B 48 5 U j (plR j)
  bel : Below B w0 w
  bb : B ≤ bm ∧ B ≤ bp ∧ bm ≠ bp
section
variable {B : Nat} {w0 w w' : World} {bm bp j : Nat} {x y ox oy : Int} {P : Array Value} {V U : Value}
theorem GS.below (h : GS B w0 w bm bp x y ox oy P V U j) (hb : Below w.heap.size w w') : GS B w0 w' bm bp x y ox oy P V U j :=
  ⟨(hb.block _ (Array.getElem?_eq_some_iff.1 h.m).1).trans h.m, (hb.block _ (Array.getElem?_eq_some_iff.1 h.p).1).trans h.p, ownsRow_keep h.o hb.size (fun k e => hb.block k (own_lt h.o e).2), h.bel.trans (hb.mono (by have := (Array.getElem?_eq_some_iff.1 h.m).1; have := h.bb; omega)), h.bb⟩
theorem GS.grown (h : GS B w0 w bm bp x y ox oy P V U j) {U2 : Value} (hg : w.grownBy w' U.ownBlock) (ho : w'.ownsRow B 48 5 U2 (j + 1) (plR j ++ plainV)) : GS B w0 w' bm bp x y ox oy P V U2 (j + 1) := by
  have hm := (Array.getElem?_eq_some_iff.1 h.m).1
  have hp := (Array.getElem?_eq_some_iff.1 h.p).1
  refine ⟨(hg.block _ hm (fun e => blk_not_row h.m (by decide) h.o e.symm)).trans h.m, (hg.block _ hp (fun e => blk_not_row h.p (by decide) h.o e.symm)).trans h.p, ho, h.bel.grown hg (by have := h.bb; omega) (fun k e => (own_lt h.o e).1), h.bb⟩
end
end Go.Proofs.Ytejoedanhonpkaa
