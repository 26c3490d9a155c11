/- canvas: Frame, by its contract. -/
import Derived.Test.YtejoedanhonpkaaCvA
set_option linter.unusedVariables false
set_option linter.unusedSimpArgs false
namespace Go.Proofs.Ytejoedanhonpkaa
open Go.RowKit
set_option maxRecDepth 100000
structure Cp where
  d : Int
  sg : Bool
  dx : Int
  dy : Int
  A : Option Addr
  n : Nat
  cap : Nat
/-- Components in memory. -/
def CompsAt (w : World) (AC : Option Addr) (cs : List Cp) : Prop := ∀ i c, cs[i]? = some c → ∃ b o, AC = some ⟨b, o, none⟩ ∧ b < w.heap.size ∧
  w.cell? ⟨b, o + i * 5, none⟩ = some (.int .i64 c.d) ∧ w.cell? ⟨b, o + i * 5 + 1, none⟩ = some (.bool c.sg) ∧ w.cell? ⟨b, o + i * 5 + 2, none⟩ = some (.int .i64 c.dx) ∧ w.cell? ⟨b, o + i * 5 + 3, none⟩ = some (.int .i64 c.dy) ∧ w.cell? ⟨b, o + i * 5 + 4, none⟩ = some (.slice c.A c.n c.cap)
theorem CompsAt.keep {w w' : World} {AC : Option Addr} {cs : List Cp} (h : CompsAt w AC cs) (hb : Below w.heap.size w w') : CompsAt w' AC cs := fun i c e => by
  obtain ⟨b, o, rfl, hl, c0, c1, c2, c3, c4⟩ := h i c e
  exact ⟨b, o, rfl, Nat.lt_of_lt_of_le hl hb.size, (hb.cell (p := ⟨b, _, none⟩) hl).trans c0, (hb.cell (p := ⟨b, _, none⟩) hl).trans c1, (hb.cell (p := ⟨b, _, none⟩) hl).trans c2, (hb.cell (p := ⟨b, _, none⟩) hl).trans c3, (hb.cell (p := ⟨b, _, none⟩) hl).trans c4⟩
end Go.Proofs.Ytejoedanhonpkaa
