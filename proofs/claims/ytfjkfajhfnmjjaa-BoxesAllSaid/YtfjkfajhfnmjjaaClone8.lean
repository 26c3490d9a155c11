/- append([]byte{}, b...): a row of its own with b's bytes. -/
import Derived.Test.YtfjkfajhfnmjjaaMem
set_option linter.unusedVariables false
namespace Go.Proofs.Ytfjkfajhfnmjjaa
open Go.RowKit

theorem wpList_clone8 {w : World} {ops : Array Oper} {rest : List Oper} {o : Oper} {a : Act} {Q : Exit → Act → World → Prop} (hgd : o.guard = none) (s x : Operand)
    (ho : o.op = .call { callee := .builtin .append, args := #[s, x], argTypes := #[24, 24] }) {A : Option Addr} {n c : Nat} {l : List Int} {B : Nat}
    (hs : a.eval s = .slice (some ⟨w.heap.size, 0, none⟩) 0 0) (hx : a.eval x = .slice A n c) (hln : l.length = n) (hA : A = none → n = 0 ∧ c = 0) (h : Lst w B A (l.map (Value.int .u8))) (hn : n ≤ 100000)
    (hK : ∀ V cv w1, w1.ownsRow w.heap.size 5 1 (.slice V n cv) n (l.map (Value.int .u8)) → Below w.heap.size w w1 → wpList Try.prog ops Q rest (a.put o.dst (.slice V n cv)) w1) :
    wpList Try.prog ops Q (o :: rest) a (w.alloc (Obj.cells #[] 5)) := by
  obtain ⟨i0, hi, hz0, hz1, hz2⟩ := info_parts Try.info5
  have hb0 : Below w.heap.size w (w.alloc (Obj.cells #[] 5)) := (Below.refl _ _).alloc (Nat.le_refl _) _
  rcases A with _ | A
  · obtain ⟨rfl, rfl⟩ := hA rfl
    obtain rfl : l = [] := List.eq_nil_of_length_eq_zero hln
    refine wpList_append_own_none hgd s x 24 ho w.heap.size 5 i0 1 Try.underlying24 hi (.slice (some ⟨w.heap.size, 0, none⟩) 0 0) 0 [] hs (World.ownsRow_made w #[] 0 (Nat.le_refl _) (by unfold maxLen; omega) rfl) hx ?_
    exact hK _ _ _ (World.ownsRow_made w #[] 0 (Nat.le_refl _) (by unfold maxLen; omega) rfl) hb0
  · have hcells := h.add rfl
    refine wpList_append_own _ hgd s x 24 ho w.heap.size 5 i0 (.int .u8 0) 1 1 Try.underlying24 hi hz0 hz1 hz2 rfl (by decide) (.slice (some ⟨w.heap.size, 0, none⟩) 0 0) 0 [] hs (World.ownsRow_made w #[] 0 (Nat.le_refl _) (by unfold maxLen; omega) rfl) A n c (l.map (Value.int .u8)) hx (by simp [hln]) (fun j u hu => (World.cell?_alloc_lt w _ _ (World.block_lt_of_cell? w _ (hcells j u hu))).trans (hcells j u hu)) (ints_oneCell .u8 l) (by unfold maxLen; omega) (by omega) (by simp) ?_
    intro v1 w1 hown hg _
    have hb1 : Below w.heap.size w w1 := hb0.grown hg (by simp) (by simp [Value.ownBlock])
    rw [Nat.zero_add, List.nil_append] at hown
    obtain ⟨V, cv, rfl, _⟩ := own_any hown
    exact hK _ _ _ hown hb1
end Go.Proofs.Ytfjkfajhfnmjjaa
