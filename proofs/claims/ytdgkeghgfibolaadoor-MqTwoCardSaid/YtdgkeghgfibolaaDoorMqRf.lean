/- The reference's encoder in the world: the same numbers, in int; its making, and how many bytes are out. -/
import Derived.Test.YtdgkeghgfibolaaDoorMqF
set_option linter.unusedVariables false
set_option linter.unusedSimpArgs false
namespace Go.Proofs.YtdgkeghgfibolaaDoor
open Go.RowKit

/-- Block p is an encoder of the reference with these numbers, its bytes in V. -/
def Rb (w : World) (p : Nat) (a c ct : Nat) (V : Value) : Prop := w.heap[p]? = some (.cells #[.int .i64 (a : Int), .int .i64 (c : Int), .int .i64 (ct : Int), V] 68 (0, 0))
section
variable {w w' : World} {p a c ct : Nat} {V : Value}
theorem Rb.c0 (h : Rb w p a c ct V) : w.cell? ⟨p, 0, none⟩ = some (.int .i64 (a : Int)) := by have := blk_cell h 0; simpa using this
theorem Rb.c1 (h : Rb w p a c ct V) : w.cell? ⟨p, 1, none⟩ = some (.int .i64 (c : Int)) := by have := blk_cell h 1; simpa using this
theorem Rb.c2 (h : Rb w p a c ct V) : w.cell? ⟨p, 2, none⟩ = some (.int .i64 (ct : Int)) := by have := blk_cell h 2; simpa using this
theorem Rb.c3 (h : Rb w p a c ct V) : w.cell? ⟨p, 3, none⟩ = some V := by have := blk_cell h 3; simpa using this
theorem Rb.z (h : Rb w p a c ct V) (i : Nat) : w.frozen? ⟨p, i, none⟩ = false := blk_frozen h i
theorem Rb.sa (h : Rb w p a c ct V) (x : Nat) : Rb (w.setCell ⟨p, 0, none⟩ (.int .i64 (x : Int))) p x c ct V := blk_set h 0 _
theorem Rb.sc (h : Rb w p a c ct V) (x : Nat) : Rb (w.setCell ⟨p, 1, none⟩ (.int .i64 (x : Int))) p a x ct V := blk_set h 1 _
theorem Rb.st (h : Rb w p a c ct V) (x : Nat) : Rb (w.setCell ⟨p, 2, none⟩ (.int .i64 (x : Int))) p a c x V := blk_set h 2 _
theorem Rb.sv (h : Rb w p a c ct V) (x : Value) : Rb (w.setCell ⟨p, 3, none⟩ x) p a c ct x := blk_set h 3 _
theorem Rb.other (h : Rb w p a c ct V) {g i : Nat} (hg : g ≠ p) (u : Value) : Rb (w.setCell ⟨g, i, none⟩ u) p a c ct V := (Below.heap_setCell _ _ _ _ (Ne.symm hg)).trans h
theorem Rb.keep (h : Rb w p a c ct V) (hk : w'.heap[p]? = w.heap[p]?) : Rb w' p a c ct V := hk.trans h
theorem Rb.lt (h : Rb w p a c ct V) : p < w.heap.size := blk_lt h
end
/-- An encoder of the reference, all its blocks among P. -/
def RW (P : Nat → Prop) (w : World) (p : Nat) (e : E) : Prop :=
  P p ∧ ∃ V, Rb w p e.a e.c e.ct V ∧ w.ownsRow 0 5 1 V (e.pre.length + 1) ((e.pre ++ [e.last]).map bv) ∧ ∀ k, V.ownBlock = some k → P k
section
variable {P Q : Nat → Prop} {w w' : World} {p : Nat} {e : E}
theorem RW.imp (h : RW P w p e) (hPQ : ∀ k, k < w.heap.size → P k → Q k) : RW Q w p e := by
  obtain ⟨hp, V, hb, hv, hV⟩ := h
  exact ⟨hPQ _ hb.lt hp, V, hb, hv, fun k hk => hPQ _ (hv.lt k hk).2 (hV k hk)⟩
theorem RW.keep (h : RW P w p e) (hs : w.heap.size ≤ w'.heap.size) (hk : ∀ k, P k → w'.heap[k]? = w.heap[k]?) : RW P w' p e := by
  obtain ⟨hp, V, hb, hv, hV⟩ := h
  exact ⟨hp, V, (hk p hp).trans hb, ownsRow_keep hv hs (fun k h => hk k (hV k h)), hV⟩
theorem RW.lt (h : RW P w p e) : p < w.heap.size := by
  obtain ⟨_, V, hb, _⟩ := h
  exact hb.lt
end
theorem RW.setA {P : Nat → Prop} {w : World} {p : Nat} {e : E} (h : RW P w p e) (x : Nat) : RW P (w.setCell ⟨p, 0, none⟩ (.int .i64 (x : Int))) p ⟨x, e.c, e.ct, e.pre, e.last⟩ := by
  obtain ⟨hp, V, hb, hv, hV⟩ := h
  exact ⟨hp, V, hb.sa x, ownsRow_setCell_other hv (a := ⟨p, 0, none⟩) (blk_not_row hb (by decide) hv) _, hV⟩
theorem RW.setC {P : Nat → Prop} {w : World} {p : Nat} {e : E} (h : RW P w p e) (x : Nat) : RW P (w.setCell ⟨p, 1, none⟩ (.int .i64 (x : Int))) p ⟨e.a, x, e.ct, e.pre, e.last⟩ := by
  obtain ⟨hp, V, hb, hv, hV⟩ := h
  exact ⟨hp, V, hb.sc x, ownsRow_setCell_other hv (a := ⟨p, 1, none⟩) (blk_not_row hb (by decide) hv) _, hV⟩
theorem RW.z {P : Nat → Prop} {w : World} {p : Nat} {e : E} (h : RW P w p e) (i : Nat) : w.frozen? ⟨p, i, none⟩ = false := by obtain ⟨_, V, hb, _⟩ := h; exact hb.z i
theorem RW.p {P : Nat → Prop} {w : World} {p : Nat} {e : E} (h : RW P w p e) : P p := h.1
theorem RW.only {P : Nat → Prop} {w w' : World} {p : Nat} {e : E} {Q : Nat → Prop} (h : RW P w p e) (o : Only Q w w') (hPQ : ∀ k, k < w.heap.size → P k → ¬ Q k) : RW P w' p e := by
  obtain ⟨hp, V, hb, hv, hV⟩ := h
  exact ⟨hp, V, hb.keep (o.block p (hPQ p hb.lt hp)), ownsRow_keep hv o.size (fun k hk => o.block k (hPQ k (hv.lt k hk).2 (hV k hk))), hV⟩
theorem RW.below {P : Nat → Prop} {w w' : World} {p : Nat} {e : E} (h : RW P w p e) (o : Below w.heap.size w w') : RW P w' p e := by
  obtain ⟨hp, V, hb, hv, hV⟩ := h
  exact ⟨hp, V, hb.keep (o.block p hb.lt), ownsRow_keep hv o.size (fun k hk => o.block k (hv.lt k hk).2), hV⟩
theorem rnew_any (w : World) : Calls Tryd.prog 18 #[] w fun x w' => ∃ p, x = .returned (.pointer (some ⟨p, 0, none⟩)) ∧ RW (fun k => w.heap.size ≤ k ∧ k < w'.heap.size) w' p mNew ∧ Below w.heap.size w w' := by
  go_enter Tryd.func18, Tryd.ntmps18
  go_wp2
  go_ret
  have hb : ((w.alloc (Obj.cells #[Value.int IntKind.u8 0] 5)).alloc (Obj.cells #[Value.int IntKind.i64 32768, Value.int IntKind.i64 0, Value.int IntKind.i64 12, Value.slice (some ⟨w.heap.size, 0, none⟩) 1 1] 68)).heap[w.heap.size + 1]? = some (Obj.cells #[Value.int IntKind.i64 32768, Value.int IntKind.i64 0, Value.int IntKind.i64 12, Value.slice (some ⟨w.heap.size, 0, none⟩) 1 1] 68 (0, 0)) := by
    have := heap_alloc_new (w.alloc (Obj.cells #[Value.int IntKind.u8 0] 5)) (Obj.cells #[Value.int IntKind.i64 32768, Value.int IntKind.i64 0, Value.int IntKind.i64 12, Value.slice (some ⟨w.heap.size, 0, none⟩) 1 1] 68)
    simpa using this
  have ownOf : (w.alloc (Obj.cells #[Value.int IntKind.u8 0] 5)).ownsRow 0 5 1 (.slice (some ⟨w.heap.size, 0, none⟩) 1 1) 1 [Value.int IntKind.u8 0] :=
    ⟨rfl, Or.inr ⟨w.heap.size, 1, _, rfl, Nat.zero_le _, heap_alloc_new w _, Nat.le_refl _, by unfold maxLen; omega, rfl, rfl⟩⟩
  exact ⟨_, rfl, ⟨⟨by omega, by simp⟩, _, hb, ownOf.alloc _, fun k hk => by
    obtain rfl : w.heap.size = k := by simpa [Value.ownBlock] using hk
    exact ⟨Nat.le_refl _, by simp; omega⟩⟩, (((Below.refl _ _).alloc (Nat.le_refl _) _).alloc (by simp) _)⟩
theorem rout_any {P : Nat → Prop} {w : World} {p : Nat} {e : E} (h : RW P w p e) (hl : e.pre.length ≤ 100000) : Calls Tryd.prog 22 #[.pointer (some ⟨p, 0, none⟩)] w fun x w' => x = .returned (.int .i64 (e.pre.length : Int)) ∧ w = w' := by
  obtain ⟨_, V, hb, ho, _⟩ := h
  obtain ⟨A, c, rfl, _⟩ := own_any ho
  have k3 := hb.c3
  have e1 : ((e.pre.length + 1 : Nat) : Int) - 1 = (e.pre.length : Int) := by omega
  clear hb ho
  obtain ⟨n, hn⟩ : ∃ n, e.pre.length = n := ⟨_, rfl⟩
  rw [hn] at hl k3 e1 ⊢
  clear hn
  go_enter Tryd.func22, Tryd.ntmps22
  go_wp2
  go_ret
  exact ⟨by rw [← e1]; rfl, rfl⟩
end Go.Proofs.YtdgkeghgfibolaaDoor
