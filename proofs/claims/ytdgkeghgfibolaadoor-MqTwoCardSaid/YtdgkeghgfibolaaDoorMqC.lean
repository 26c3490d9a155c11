/- The encoder of package mq: one shift. -/
import Derived.Test.YtdgkeghgfibolaaDoorMem
import Derived.Test.YtdgkeghgfibolaaDoorOnly
import Derived.Test.YtdgkeghgfibolaaDoorMqM
import Derived.Test.YtdgkeghgfibolaaDoorSts
import Derived.OneCell
import Derived.BigQuiet
import Derived.Deep.QuietTactic
import Derived.StillTailTactics
set_option linter.unusedVariables false
set_option linter.unusedSimpArgs false
namespace Go.Proofs.YtdgkeghgfibolaaDoor
open Go.RowKit

theorem blk_cell {w : World} {p : Nat} {cs : Array Value} {t : TypeId} (h : w.heap[p]? = some (.cells cs t (0, 0))) (i : Nat) : w.cell? ⟨p, i, none⟩ = cs[i]? := cell_of_row w p i cs t (0, 0) h
theorem blk_frozen {w : World} {p : Nat} {cs : Array Value} {t : TypeId} (h : w.heap[p]? = some (.cells cs t (0, 0))) (i : Nat) : w.frozen? ⟨p, i, none⟩ = false := by simp [World.frozen?, h]
theorem blk_lt {w : World} {p : Nat} {o : Obj} (h : w.heap[p]? = some o) : p < w.heap.size := (Array.getElem?_eq_some_iff.1 h).1
theorem blk_set {w : World} {p : Nat} {cs : Array Value} {t : TypeId} (h : w.heap[p]? = some (.cells cs t (0, 0))) (i : Nat) (u : Value) :
    (w.setCell ⟨p, i, none⟩ u).heap[p]? = some (.cells (cs.setIfInBounds i u) t (0, 0)) := by
  simp [World.setCell, Array.getElem?_modify, h]
theorem blk_not_row {w : World} {p : Nat} {cs : Array Value} {t e : TypeId} (h : w.heap[p]? = some (.cells cs t (0, 0))) (hte : t ≠ e) {base size k : Nat} {v : Value} {xs : List Value} (hr : w.ownsRow base e size v k xs) : v.ownBlock ≠ some p := by
  rcases hr.2 with ⟨rfl, _⟩ | ⟨g, cap, cur, rfl, _, hgb, _⟩
  · simp [Value.ownBlock]
  · intro e'
    obtain rfl : g = p := by simpa [Value.ownBlock] using e'
    rw [h] at hgb
    simp at hgb
    exact hte hgb.2
theorem Tab.only {P : Nat → Prop} {w w' : World} (h : Tab w) (h0 : ¬ P 0) (o : Only P w w') : Tab w' :=
  ⟨Nat.lt_of_lt_of_le h.pos o.size, fun i hi => by
    obtain ⟨a, c, d, e⟩ := h.q i hi
    exact ⟨(o.cell (p := ⟨0, i * 4, none⟩) h0).trans a, (o.cell (p := ⟨0, i * 4 + 1, none⟩) h0).trans c, (o.cell (p := ⟨0, i * 4 + 2, none⟩) h0).trans d, (o.cell (p := ⟨0, i * 4 + 3, none⟩) h0).trans e⟩⟩

/-- Block p is an encoder with these numbers, its bytes in V. -/
def Eb (w : World) (p : Nat) (a c ct : Nat) (V : Value) : Prop := w.heap[p]? = some (.cells #[.int .u32 (a : Int), .int .u32 (c : Int), .int .i64 (ct : Int), V] 66 (0, 0))
section
variable {w w' : World} {p a c ct : Nat} {V : Value}
theorem Eb.c0 (h : Eb w p a c ct V) : w.cell? ⟨p, 0, none⟩ = some (.int .u32 (a : Int)) := by have := blk_cell h 0; simpa using this
theorem Eb.c1 (h : Eb w p a c ct V) : w.cell? ⟨p, 1, none⟩ = some (.int .u32 (c : Int)) := by have := blk_cell h 1; simpa using this
theorem Eb.c2 (h : Eb w p a c ct V) : w.cell? ⟨p, 2, none⟩ = some (.int .i64 (ct : Int)) := by have := blk_cell h 2; simpa using this
theorem Eb.c3 (h : Eb w p a c ct V) : w.cell? ⟨p, 3, none⟩ = some V := by have := blk_cell h 3; simpa using this
theorem Eb.z (h : Eb w p a c ct V) (i : Nat) : w.frozen? ⟨p, i, none⟩ = false := blk_frozen h i
theorem Eb.sa (h : Eb w p a c ct V) (x : Nat) : Eb (w.setCell ⟨p, 0, none⟩ (.int .u32 (x : Int))) p x c ct V := blk_set h 0 _
theorem Eb.sc (h : Eb w p a c ct V) (x : Nat) : Eb (w.setCell ⟨p, 1, none⟩ (.int .u32 (x : Int))) p a x ct V := blk_set h 1 _
theorem Eb.st (h : Eb w p a c ct V) (x : Nat) : Eb (w.setCell ⟨p, 2, none⟩ (.int .i64 (x : Int))) p a c x V := blk_set h 2 _
theorem Eb.sv (h : Eb w p a c ct V) (x : Value) : Eb (w.setCell ⟨p, 3, none⟩ x) p a c ct x := blk_set h 3 _
theorem Eb.other (h : Eb w p a c ct V) {g i : Nat} (hg : g ≠ p) (u : Value) : Eb (w.setCell ⟨g, i, none⟩ u) p a c ct V := (Below.heap_setCell _ _ _ _ (Ne.symm hg)).trans h
theorem Eb.keep (h : Eb w p a c ct V) (hk : w'.heap[p]? = w.heap[p]?) : Eb w' p a c ct V := hk.trans h
theorem Eb.lt (h : Eb w p a c ct V) : p < w.heap.size := blk_lt h
end

set_option maxHeartbeats 1000000 in
theorem dbl_any {w : World} {p a c n : Nat} {V : Value} (h : Eb w p a c (n + 1) V) (ha : a < 2147483648) (hc : c < 2147483648) (hn : n ≤ 100) :
    Calls Tryd.prog 45 #[.pointer (some ⟨p, 0, none⟩)] w fun e w' => e = .returned (.tuple #[]) ∧ Eb w' p (2 * a) (2 * c) n V ∧ Only (· = p) w w' := by
  have k0 := h.c0
  have k1 := h.c1
  have k2 := h.c2
  have z0 := h.z 0
  have z1 := h.z 1
  have z2 := h.z 2
  have H := Lib.hid h
  clear h
  go_enter Tryd.func45, Tryd.ntmps45
  go_wp2
  go_end0
  rw [show (a : Int) * 2 = ((2 * a : Nat) : Int) by omega, show (c : Int) * 2 = ((2 * c : Nat) : Int) by omega]
  exact ⟨rfl, ((H.out.sa _).sc _).st _, (((Only.refl (fun k => k = p) w).setCell (p := ⟨p, 0, none⟩) rfl _).setCell (p := ⟨p, 1, none⟩) rfl _).setCell (p := ⟨p, 2, none⟩) rfl _⟩
end Go.Proofs.YtdgkeghgfibolaaDoor
