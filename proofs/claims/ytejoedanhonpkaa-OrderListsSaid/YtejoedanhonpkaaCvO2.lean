/- canvas: the reference's Blocks by its contract. -/
import Derived.Test.YtejoedanhonpkaaCvN2
import Derived.Test.YtejoedanhonpkaaCvC
import Derived.Test.YtejoedanhonpkaaCvM2
import Derived.Test.YtejoedanhonpkaaCvM4
import Derived.Deep.CutRange
import Derived.Deep.CutBlock
import Derived.Deep.LoopGhost
set_option linter.unusedVariables false
set_option linter.unusedSimpArgs false
namespace Go.Proofs.Ytejoedanhonpkaa
section
open Go.RowKit
set_option maxRecDepth 100000
abbrev Rc4 := Int × Int × Int × Int
end

section
open Go.RowKit
set_option maxRecDepth 100000
attribute [local go_sem ↓] appSem_eq
/-- The reference's Blocks between two rounds. -/
structure RB (w : World) (B bz : Nat) (l : List (Array Value × TypeId)) (P : Array Value) (V : Value) (m : Nat) (rs : List Rc4) (wr : World) : Prop where
  wk : MkW w B l wr
  ge : B + l.length ≤ bz
  part : wr.heap[bz]? = some (.cells P 38 (0, 0))
  own : wr.ownsRow (bz + 1) 38 4 V m (rs.flatMap recV)
theorem RB.keep {w wr w' : World} {B bz m : Nat} {l : List (Array Value × TypeId)} {P : Array Value} {V : Value} {rs : List Rc4} (h : RB w B bz l P V m rs wr) (hb : Below wr.heap.size wr w') : RB w B bz l P V m rs w' :=
  ⟨h.wk.keep hb, h.ge, (hb.block _ (Array.getElem?_eq_some_iff.1 h.part).1).trans h.part, ownsRow_keep h.own hb.size (fun k e => hb.block k (own_lt h.own e).2)⟩
theorem RB.app {w wr : World} {B bz m : Nat} {l : List (Array Value × TypeId)} {P : Array Value} {V : Value} {rs : List Rc4} (h : RB w B bz l P V m rs wr) (a b c d : Int) (hm : m ≤ 100000) :
    ∃ A k w', (appSem #[33, 33] 33 #[V, .slice (some ⟨wr.heap.size, 0, none⟩) 1 1]).run Try.prog (wr.alloc (Obj.cells #[.int .i64 a, .int .i64 b, .int .i64 c, .int .i64 d] 38)) = .ok (.slice A (m + 1) k) w' ∧ RB w B bz l P (.slice A (m + 1) k) (m + 1) (rs ++ [(a, b, c, d)]) w' := by
  have hs := (Array.getElem?_eq_some_iff.1 h.part).1
  have o1 := h.own.alloc (Obj.cells #[.int .i64 a, .int .i64 b, .int .i64 c, .int .i64 d] 38)
  obtain ⟨v', w', hr, ho, hg, _⟩ := app_rect o1 (World.alloc_heap_new wr _) (by simp; omega) hm
  obtain ⟨A, k, rfl, _⟩ := own_any ho
  have hge : ∀ q, V.ownBlock = some q → bz + 1 ≤ q := fun q e => (own_lt o1 e).1
  have hgl := h.ge
  refine ⟨A, k, w', hr, (h.wk.alloc _).grown hg (fun q e => by have := hge q e; omega), h.ge, ?_, by rw [List.flatMap_append]; simpa using ho⟩
  rw [hg.block bz (by simp; omega) (fun e => by have := hge _ e.symm; omega), Below.heap_alloc _ _ _ hs]
  exact h.part
end
end Go.Proofs.Ytejoedanhonpkaa
