/- Words for slices in memory that the walks of this seat share. -/
import Derived.Test.YthcpmonahmogaaaArith
import Derived.OwnWalk
import Derived.Laws.OwnMore
import Derived.Laws.AppendOwnNone
import Derived.Maps.AppendAt
import Derived.Deep.OwnRows
import Derived.Deep.LoopGhost
import Derived.Lib.SliceRun
import Derived.WalkSpells
set_option linter.unusedVariables false
namespace Go.Proofs.Ythcpmonahmogaaa
open Go.RowKit

/-- What a walk is told of a slice of whole numbers that came in. -/
def IsRow (k : IntKind) (w : World) (a : Option Addr) (len cap : Nat) (zs : List Int) : Prop :=
  (a = none ∧ len = 0 ∧ cap = 0 ∧ zs = []) ∨
  ∃ x, a = some x ∧ len ≤ cap ∧ cap ≤ maxLen ∧ zs.length = cap ∧ (∀ i, i < zs.length → w.cell? (x.add i) = some (.int k (zs.getD i 0))) ∧ ∀ n ∈ zs, (Lit.int k n).wf = true

/-- From address A on, below block B, there lie the values xs, one cell each. -/
def Lst (w : World) (B : Nat) (A : Option Addr) (xs : List Value) : Prop :=
  ∀ i u, xs[i]? = some u → ∃ b o, A = some ⟨b, o, none⟩ ∧ b < B ∧ w.cell? ⟨b, o + i, none⟩ = some u
section
variable {w w' : World} {B B' : Nat} {A : Option Addr} {xs : List Value}
theorem Lst.nil : Lst w B A [] := fun i u h => by simp at h
theorem Lst.keep (h : Lst w B A xs) (hk : ∀ p : Addr, p.block < B → w'.cell? p = w.cell? p) : Lst w' B A xs := fun i u hu => by
  obtain ⟨b, o, e, hb, hc⟩ := h i u hu
  exact ⟨b, o, e, hb, (hk _ hb).trans hc⟩
theorem Lst.more (h : Lst w B A xs) (hB : B ≤ B') : Lst w B' A xs := fun i u hu => by
  obtain ⟨b, o, e, hb, hc⟩ := h i u hu
  exact ⟨b, o, e, Nat.lt_of_lt_of_le hb hB, hc⟩
theorem Lst.below (h : Lst w B A xs) (hb : Below B w w') : Lst w' B A xs := h.keep fun _ hp => hb.cell hp
theorem Lst.alloc (h : Lst w B A xs) (hB : B ≤ w.heap.size) (o : Obj) : Lst (w.alloc o) B A xs :=
  h.keep fun p hp => World.cell?_alloc_lt w o p (by omega)
theorem Lst.cons_at {u : Value} {l : List Value} (h : Lst w B A (u :: l)) : ∃ b o, A = some ⟨b, o, none⟩ ∧ b < B ∧ w.cell? ⟨b, o, none⟩ = some u := by
  obtain ⟨b, o, e, hb, hc⟩ := h 0 u rfl
  exact ⟨b, o, e, hb, by simpa using hc⟩
theorem Lst.add (h : Lst w B A xs) {a : Addr} (ha : A = some a) : ∀ j u, xs[j]? = some u → w.cell? (a.add j) = some u := by
  intro j u hu
  obtain ⟨b, o, e, hb, hc⟩ := h j u hu
  rw [ha] at e
  injection e with e
  subst e
  unfold Addr.add
  split
  · subst_vars; simpa using hc
  · exact hc
theorem Lst.own {e : TypeId} {n c : Nat} (h : w.ownsRow B e 1 (.slice A n c) n xs) : Lst w w.heap.size A xs := by
  intro i u hu
  have hi : i < xs.length := by
    rcases Nat.lt_or_ge i xs.length with h | h
    · exact h
    · rw [List.getElem?_eq_none h] at hu; cases hu
  rcases h.2 with ⟨h0, hn⟩ | ⟨g, cap, cur, hv, hb, hg, _⟩
  · have := h.1
    omega
  · injection hv with hA hn hcap
    subst hA
    subst hcap
    refine ⟨g, 0, rfl, (Array.getElem?_eq_some_iff.1 hg).1, ?_⟩
    rw [Nat.zero_add, World.ownsRow.cellAt h i (by have := h.1; omega)]
    exact hu
theorem Lst.drop (h : Lst w B A xs) {k : Nat} {b o : Nat} (hA : A = some ⟨b, o, none⟩) : Lst w B (some ⟨b, o + k, none⟩) (xs.drop k) := by
  intro i u hu
  rw [List.getElem?_drop] at hu
  obtain ⟨b', o', e, hb, hc⟩ := h _ u hu
  rw [hA] at e
  injection e with e
  injection e with e1 e2
  subst e1 e2
  exact ⟨b, o + k, rfl, hb, by rw [Nat.add_assoc]; exact hc⟩
theorem Lst.take (h : Lst w B A xs) (k : Nat) : Lst w B A (xs.take k) := by
  intro i u hu
  rw [List.getElem?_take] at hu
  split at hu
  · exact h i u hu
  · cases hu
end

theorem lst_of_row {k : IntKind} {w : World} {a : Option Addr} {len cap : Nat} {zs : List Int} (h : IsRow k w a len cap zs) :
    Lst w w.heap.size a ((zs.take len).map (Value.int k)) := by
  rcases h with ⟨rfl, rfl, rfl, rfl⟩ | ⟨x, rfl, hl, hm, hz, hc, hw⟩
  · simpa using Lst.nil
  · intro i u hu
    obtain ⟨b, off, spot⟩ := x
    rw [List.getElem?_map, List.getElem?_take] at hu
    have hi : i < zs.length := by
      rcases Nat.lt_or_ge i zs.length with h | h
      · exact h
      · rw [List.getElem?_eq_none h] at hu; split at hu <;> simp at hu
    have h0 := hc i hi
    have hspot : (Addr.add ⟨b, off, spot⟩ i).spot = none := World.cell?_spot h0
    have hu' : u = .int k (zs.getD i 0) := by
      split at hu
      · rw [List.getElem?_eq_getElem hi] at hu
        simp at hu
        rw [← hu, List.getD_eq_getElem?_getD, List.getElem?_eq_getElem hi]
        rfl
      · simp at hu
    subst hu'
    have hz0 := hc 0 (by omega)
    have hsp0 : (Addr.add ⟨b, off, spot⟩ 0).spot = none := World.cell?_spot hz0
    have hs : spot = none := by simpa [Addr.add] using hsp0
    subst hs
    refine ⟨b, off, rfl, World.block_lt_of_cell? w _ hz0 |> fun h => by simpa [Addr.add] using h, ?_⟩
    unfold Addr.add at h0
    split at h0
    · subst_vars; simpa using h0
    · exact h0
theorem row_len {k : IntKind} {w : World} {a : Option Addr} {len cap : Nat} {zs : List Int} (h : IsRow k w a len cap zs) :
    (zs.take len).length = len ∧ len ≤ cap ∧ cap ≤ maxLen ∧ (a = none → len = 0 ∧ cap = 0) := by
  rcases h with ⟨rfl, rfl, rfl, rfl⟩ | ⟨x, rfl, hl, hm, hz, hc, hw⟩
  · simp
  · exact ⟨by rw [List.length_take]; omega, hl, hm, by simp⟩

theorem own_form {w : World} {base : Nat} {e : TypeId} {size n : Nat} {v : Value} {xs : List Value} (h : w.ownsRow base e size v n xs) (hn : 0 < n) :
    ∃ g cap, v = .slice (some ⟨g, 0, none⟩) n cap ∧ base ≤ g ∧ g < w.heap.size ∧ n ≤ cap ∧ cap ≤ maxLen := by
  rcases h.2 with ⟨_, h0⟩ | ⟨g, cap, cur, hv, hb, hg, hc, hm, _⟩
  · omega
  · exact ⟨g, cap, hv, hb, (Array.getElem?_eq_some_iff.1 hg).1, hc, hm⟩
theorem own_any {w : World} {base : Nat} {e : TypeId} {size n : Nat} {v : Value} {xs : List Value} (h : w.ownsRow base e size v n xs) :
    ∃ A cap, v = .slice A n cap ∧ (A = none → n = 0 ∧ cap = 0) ∧ n ≤ cap ∧ cap ≤ maxLen := by
  rcases h.2 with ⟨hv, h0⟩ | ⟨g, cap, cur, hv, hb, hg, hc, hm, _⟩
  · exact ⟨none, 0, by rw [hv, h0], by simp [h0], by omega, by unfold maxLen; omega⟩
  · exact ⟨_, cap, hv, by simp, hc, hm⟩

theorem Try.info5 : (Try.prog.info? 5).map (fun i => (i.zero, i.size, i.bytes)) = some (some (.int .u8 0), 1, 1) := by kernel_rfl
theorem Try.info3 : (Try.prog.info? 3).map (fun i => (i.zero, i.size, i.bytes)) = some (some (.int .i64 0), 1, 8) := by kernel_rfl
end Go.Proofs.Ythcpmonahmogaaa
