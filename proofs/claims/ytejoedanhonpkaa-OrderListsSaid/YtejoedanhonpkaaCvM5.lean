/- canvas: rows of rectangles, and rows of numbers, compared by the law. -/
import Derived.Test.YtejoedanhonpkaaCvM4
import Derived.Deep.LoopGhost
set_option linter.unusedVariables false
set_option linter.unusedSimpArgs false
namespace Go.Proofs.Ytejoedanhonpkaa
open Go.RowKit
set_option maxRecDepth 100000
/-- Rectangles in memory, below block B. -/
def RcL (w : World) (B : Nat) (V : Value) (rs : List (Int × Int × Int × Int)) : Prop :=
  ∃ A c, V = .slice A rs.length c ∧ ∀ i r, rs[i]? = some r → ∃ g o, A = some ⟨g, o, none⟩ ∧ g < B ∧ w.cell? ⟨g, o + i * 4, none⟩ = some (.int .i64 r.1) ∧ w.cell? ⟨g, o + i * 4 + 1, none⟩ = some (.int .i64 r.2.1) ∧ w.cell? ⟨g, o + i * 4 + 2, none⟩ = some (.int .i64 r.2.2.1) ∧ w.cell? ⟨g, o + i * 4 + 3, none⟩ = some (.int .i64 r.2.2.2)
theorem RcL.below {w w' : World} {B B' : Nat} {V : Value} {rs : List (Int × Int × Int × Int)} (h : RcL w B V rs) (hb : Below B w w') (hB : B ≤ B') : RcL w' B' V rs := by
  obtain ⟨A, c, rfl, h⟩ := h
  refine ⟨A, c, rfl, fun i r e => ?_⟩
  obtain ⟨g, o, h1, h2, h3, h4, h5, h6⟩ := h i r e
  exact ⟨g, o, h1, Nat.lt_of_lt_of_le h2 hB, (hb.cell (p := ⟨g, _, none⟩) h2).trans h3, (hb.cell (p := ⟨g, _, none⟩) h2).trans h4, (hb.cell (p := ⟨g, _, none⟩) h2).trans h5, (hb.cell (p := ⟨g, _, none⟩) h2).trans h6⟩
theorem flat_recV : ∀ (rs : List (Int × Int × Int × Int)) (i : Nat) (r : Int × Int × Int × Int), rs[i]? = some r → (rs.flatMap recV)[i * 4]? = some (.int .i64 r.1) ∧ (rs.flatMap recV)[i * 4 + 1]? = some (.int .i64 r.2.1) ∧ (rs.flatMap recV)[i * 4 + 2]? = some (.int .i64 r.2.2.1) ∧ (rs.flatMap recV)[i * 4 + 3]? = some (.int .i64 r.2.2.2) := by
  intro rs
  induction rs with
  | nil => intro i r h; simp at h
  | cons x l ih =>
    intro i r h
    cases i with
    | zero =>
      simp at h
      subst h
      exact ⟨rfl, rfl, rfl, rfl⟩
    | succ i =>
      have := ih i r (by simpa using h)
      rw [List.flatMap_cons]
      rw [show (i + 1) * 4 = i * 4 + 4 by omega, show i * 4 + 4 + 1 = (i * 4 + 1) + 4 by omega, show i * 4 + 4 + 2 = (i * 4 + 2) + 4 by omega, show i * 4 + 4 + 3 = (i * 4 + 3) + 4 by omega]
      exact this
theorem RcL.own {w : World} {q m : Nat} {V : Value} {rs : List (Int × Int × Int × Int)} (h : w.ownsRow q 38 4 V m (rs.flatMap recV)) (hm : rs.length = m) : RcL w w.heap.size V rs := by
  obtain ⟨A, c, rfl, _⟩ := own_any h
  refine ⟨A, c, by rw [hm], fun i r e => ?_⟩
  have hi : i < rs.length := (List.getElem?_eq_some_iff.1 e).1
  obtain ⟨g, c', hV, _⟩ := own_form h (by omega)
  cases hV
  obtain ⟨k0, k1, k2, k3⟩ := flat_recV rs i r e
  have f0 := h.cellAt (i * 4) (by omega)
  have f1 := h.cellAt (i * 4 + 1) (by omega)
  have f2 := h.cellAt (i * 4 + 2) (by omega)
  have f3 := h.cellAt (i * 4 + 3) (by omega)
  exact ⟨g, 0, rfl, (own_lt h rfl).2, by simpa using f0.trans k0, by simpa using f1.trans k1, by simpa using f2.trans k2, by simpa using f3.trans k3⟩
end Go.Proofs.Ytejoedanhonpkaa
