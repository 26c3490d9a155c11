/- Rows of rows in memory, and the blocks that they lie in. -/
import Derived.Test.YtgadebfelomhpaaDwS
set_option linter.unusedVariables false
set_option linter.unusedSimpArgs false
namespace Go.Proofs.Ytgadebfelomhpaa
open Go.RowKit

/-- A row, in blocks of S. -/
def RowS (S : Nat → Prop) (w : World) (A : Option Addr) (n c : Nat) (l : List Int) : Prop :=
  l.length = n ∧ n ≤ c ∧ c ≤ maxLen ∧ (A = none → n = 0 ∧ c = 0) ∧ ∀ i u, (l.map (Value.int .i64))[i]? = some u → ∃ b o, A = some ⟨b, o, none⟩ ∧ S b ∧ w.cell? ⟨b, o + i, none⟩ = some u
/-- Rows of rows, in blocks of S. -/
def RowsS (S : Nat → Prop) (w : World) (A : Option Addr) (n c : Nat) (ls : List (List Int)) : Prop :=
  ls.length = n ∧ n ≤ c ∧ c ≤ maxLen ∧ (A = none → n = 0 ∧ c = 0) ∧ ∀ i l, ls[i]? = some l → ∃ b o A' c', A = some ⟨b, o, none⟩ ∧ S b ∧ w.cell? ⟨b, o + i, none⟩ = some (.slice A' l.length c') ∧ RowS S w A' l.length c' l
def RowsI (w : World) (A : Option Addr) (n c : Nat) (ls : List (List Int)) : Prop := RowsS (fun b => b < w.heap.size) w A n c ls
section
variable {S T : Nat → Prop} {w w' : World} {A : Option Addr} {n c : Nat} {l : List Int} {ls : List (List Int)}
theorem RowS.keep (h : RowS S w A n c l) (hk : ∀ b, S b → w'.heap[b]? = w.heap[b]?) : RowS S w' A n c l :=
  ⟨h.1, h.2.1, h.2.2.1, h.2.2.2.1, fun i u hu => by
    obtain ⟨b, o, e, hs, hc⟩ := h.2.2.2.2 i u hu
    exact ⟨b, o, e, hs, (World.cell?_of_block (w := w) (a := ⟨b, o + i, none⟩) (hk b hs)).trans hc⟩⟩
theorem RowS.mono (h : RowS S w A n c l) (hk : ∀ b, S b → T b) : RowS T w A n c l :=
  ⟨h.1, h.2.1, h.2.2.1, h.2.2.2.1, fun i u hu => by
    obtain ⟨b, o, e, hs, hc⟩ := h.2.2.2.2 i u hu
    exact ⟨b, o, e, hk b hs, hc⟩⟩
theorem RowS.row (h : RowS S w A n c l) : RowI w A n c l :=
  ⟨h.1, h.2.1, h.2.2.1, h.2.2.2.1, fun i u hu => by
    obtain ⟨b, o, e, hs, hc⟩ := h.2.2.2.2 i u hu
    exact ⟨b, o, e, World.block_lt_of_cell? w _ hc, hc⟩⟩
theorem RowI.rowS (h : RowI w A n c l) : RowS (fun b => b < w.heap.size) w A n c l := h
theorem RowsS.keep (h : RowsS S w A n c ls) (hk : ∀ b, S b → w'.heap[b]? = w.heap[b]?) : RowsS S w' A n c ls :=
  ⟨h.1, h.2.1, h.2.2.1, h.2.2.2.1, fun i l hl => by
    obtain ⟨b, o, A', c', e, hs, hc, hr⟩ := h.2.2.2.2 i l hl
    exact ⟨b, o, A', c', e, hs, (World.cell?_of_block (w := w) (a := ⟨b, o + i, none⟩) (hk b hs)).trans hc, hr.keep hk⟩⟩
theorem RowsS.mono (h : RowsS S w A n c ls) (hk : ∀ b, S b → T b) : RowsS T w A n c ls :=
  ⟨h.1, h.2.1, h.2.2.1, h.2.2.2.1, fun i l hl => by
    obtain ⟨b, o, A', c', e, hs, hc, hr⟩ := h.2.2.2.2 i l hl
    exact ⟨b, o, A', c', e, hk b hs, hc, hr.mono hk⟩⟩
theorem RowsI.keep {B : Nat} (h : RowsI w A n c ls) (hb : Below B w w') (hB : w.heap.size ≤ B) : RowsI w' A n c ls :=
  (RowsS.keep h fun b hs => hb.block b (Nat.lt_of_lt_of_le hs hB)).mono fun b hs => Nat.lt_of_lt_of_le hs hb.size
theorem RowsI.drew (h : RowsI w A n c ls) (d : Drew w w') : RowsI w' A n c ls := h.keep d.below (Nat.le_refl _)
theorem RowsI.at (h : RowsI w A n c ls) {i : Nat} (hi : ls[i]? = some l) : ∃ b o A' c', A = some ⟨b, o, none⟩ ∧ b < w.heap.size ∧ w.cell? ⟨b, o + i, none⟩ = some (.slice A' l.length c') ∧ RowI w A' l.length c' l := by
  obtain ⟨b, o, A', c', e, hs, hc, hr⟩ := h.2.2.2.2 i l hi
  exact ⟨b, o, A', c', e, hs, hc, hr.row⟩
end
/-- A rectangle's block. -/
def RB (w : World) (b : Nat) (g : Geo) : Prop := w.heap[b]? = some (.cells #[.int .i64 (g.x : Int), .int .i64 (g.y : Int), .int .i64 ((g.x + g.w : Nat) : Int), .int .i64 ((g.y + g.h : Nat) : Int)] 23 (0, 0))
theorem RB.new (w : World) (g : Geo) : RB (w.alloc (Obj.cells #[.int .i64 (g.x : Int), .int .i64 (g.y : Int), .int .i64 ((g.x + g.w : Nat) : Int), .int .i64 ((g.y + g.h : Nat) : Int)] 23)) w.heap.size g := World.alloc_heap_new _ _
theorem RB.lt {w : World} {b : Nat} {g : Geo} (h : RB w b g) : b < w.heap.size := (Array.getElem?_eq_some_iff.1 h).1
theorem RB.open {w : World} {b : Nat} {g : Geo} (h : RB w b g) : ∃ a0 a1 a2 a3 : Int, rectV g = .agg #[.int .i64 a0, .int .i64 a1, .int .i64 a2, .int .i64 a3] ∧
    w.cell? ⟨b, 0, none⟩ = some (.int .i64 a0) ∧ w.cell? ⟨b, 1, none⟩ = some (.int .i64 a1) ∧ w.cell? ⟨b, 2, none⟩ = some (.int .i64 a2) ∧ w.cell? ⟨b, 3, none⟩ = some (.int .i64 a3) ∧
    w.frozen? ⟨b, 0, none⟩ = false ∧ w.frozen? ⟨b, 1, none⟩ = false ∧ w.frozen? ⟨b, 2, none⟩ = false ∧ w.frozen? ⟨b, 3, none⟩ = false := by
  unfold RB at h
  exact ⟨_, _, _, _, rfl, by simp [World.cell?, h], by simp [World.cell?, h], by simp [World.cell?, h], by simp [World.cell?, h], by simp [World.frozen?, h], by simp [World.frozen?, h], by simp [World.frozen?, h], by simp [World.frozen?, h]⟩
def RA (w : World) (b : Nat) (a0 a1 a2 a3 : Int) : Prop := w.heap[b]? = some (.cells #[.int .i64 a0, .int .i64 a1, .int .i64 a2, .int .i64 a3] 23 (0, 0))
theorem rect_ints {g : Geo} {a0 a1 a2 a3 : Int} (e : rectV g = .agg #[.int .i64 a0, .int .i64 a1, .int .i64 a2, .int .i64 a3]) : a0 = (g.x : Int) ∧ a1 = (g.y : Int) ∧ a2 = ((g.x + g.w : Nat) : Int) ∧ a3 = ((g.y + g.h : Nat) : Int) := by
  unfold rectV at e
  simp only [Value.agg.injEq, Array.mk.injEq, List.cons.injEq, Value.int.injEq, true_and, and_true] at e
  exact ⟨e.1.symm, e.2.1.symm, e.2.2.1.symm, e.2.2.2.symm⟩
theorem RB.ra {w : World} {b : Nat} {g : Geo} {a0 a1 a2 a3 : Int} (h : RB w b g) (e : rectV g = .agg #[.int .i64 a0, .int .i64 a1, .int .i64 a2, .int .i64 a3]) : RA w b a0 a1 a2 a3 := by
  obtain ⟨e0, e1, e2, e3⟩ := rect_ints e
  rw [e0, e1, e2, e3]
  exact h
theorem RA.rb {w : World} {b : Nat} {g : Geo} {a0 a1 a2 a3 : Int} (h : RA w b a0 a1 a2 a3) (e : rectV g = .agg #[.int .i64 a0, .int .i64 a1, .int .i64 a2, .int .i64 a3]) : RB w b g := by
  obtain ⟨e0, e1, e2, e3⟩ := rect_ints e
  rw [e0, e1, e2, e3] at h
  exact h
theorem RA.keep {w w' : World} {b B : Nat} {a0 a1 a2 a3 : Int} (h : RA w b a0 a1 a2 a3) (hb : Below B w w') (hB : b < B) : RA w' b a0 a1 a2 a3 := (hb.block b hB).trans h
theorem RA.new (w : World) (a0 a1 a2 a3 : Int) : RA (w.alloc (Obj.cells #[.int .i64 a0, .int .i64 a1, .int .i64 a2, .int .i64 a3] 23)) w.heap.size a0 a1 a2 a3 := World.alloc_heap_new _ _
theorem RA.cells {w : World} {b : Nat} {a0 a1 a2 a3 : Int} (h : RA w b a0 a1 a2 a3) : w.cell? ⟨b, 0, none⟩ = some (.int .i64 a0) ∧ w.cell? ⟨b, 1, none⟩ = some (.int .i64 a1) ∧ w.cell? ⟨b, 2, none⟩ = some (.int .i64 a2) ∧ w.cell? ⟨b, 3, none⟩ = some (.int .i64 a3) ∧
    w.frozen? ⟨b, 0, none⟩ = false ∧ w.frozen? ⟨b, 1, none⟩ = false ∧ w.frozen? ⟨b, 2, none⟩ = false ∧ w.frozen? ⟨b, 3, none⟩ = false := by
  unfold RA at h
  exact ⟨by simp [World.cell?, h], by simp [World.cell?, h], by simp [World.cell?, h], by simp [World.cell?, h], by simp [World.frozen?, h], by simp [World.frozen?, h], by simp [World.frozen?, h], by simp [World.frozen?, h]⟩
theorem RA.lt {w : World} {b : Nat} {a0 a1 a2 a3 : Int} (h : RA w b a0 a1 a2 a3) : b < w.heap.size := (Array.getElem?_eq_some_iff.1 h).1
theorem rect_open (g : Geo) : ∃ a0 a1 a2 a3 : Int, rectV g = .agg #[.int .i64 a0, .int .i64 a1, .int .i64 a2, .int .i64 a3] := ⟨_, _, _, _, rfl⟩
def setRect (w : World) (b : Nat) (a0 a1 a2 a3 : Int) : World := (((w.setCell ⟨b, 0, none⟩ (.int .i64 a0)).setCell ⟨b, 1, none⟩ (.int .i64 a1)).setCell ⟨b, 2, none⟩ (.int .i64 a2)).setCell ⟨b, 3, none⟩ (.int .i64 a3)
theorem RB.set {w : World} {b : Nat} {g g' : Geo} {a0 a1 a2 a3 : Int} (h : RB w b g) (e : rectV g' = .agg #[.int .i64 a0, .int .i64 a1, .int .i64 a2, .int .i64 a3]) : RB (setRect w b a0 a1 a2 a3) b g' := by
  have e' : a0 = (g'.x : Int) ∧ a1 = (g'.y : Int) ∧ a2 = ((g'.x + g'.w : Nat) : Int) ∧ a3 = ((g'.y + g'.h : Nat) : Int) := by
    unfold rectV at e
    simp only [Value.agg.injEq, Array.mk.injEq, List.cons.injEq, Value.int.injEq, true_and, and_true] at e
    exact ⟨e.1.symm, e.2.1.symm, e.2.2.1.symm, e.2.2.2.symm⟩
  obtain ⟨e0, e1, e2, e3⟩ := e'
  unfold RB at *
  rw [← e0, ← e1, ← e2, ← e3]
  clear e e0 e1 e2 e3
  generalize (Value.int IntKind.i64 (g.x : Int)) = v0 at *
  generalize (Value.int IntKind.i64 (g.y : Int)) = v1 at *
  generalize (Value.int IntKind.i64 ((g.x + g.w : Nat) : Int)) = v2 at *
  generalize (Value.int IntKind.i64 ((g.y + g.h : Nat) : Int)) = v3 at *
  simp [setRect, World.setCell, Array.getElem?_modify, h]
theorem setRect_only (w : World) (b : Nat) (a0 a1 a2 a3 : Int) : Only (fun k => k = b) w (setRect w b a0 a1 a2 a3) :=
  ((((Only.refl (fun k => k = b) w).setCell (P := fun k => k = b) (p := ⟨b, 0, none⟩) rfl _).setCell (P := fun k => k = b) (p := ⟨b, 1, none⟩) rfl _).setCell (P := fun k => k = b) (p := ⟨b, 2, none⟩) rfl _).setCell (P := fun k => k = b) (p := ⟨b, 3, none⟩) rfl _
theorem RA.setRect {w : World} {b : Nat} {a0 a1 a2 a3 b0 b1 b2 b3 : Int} (h : RA w b a0 a1 a2 a3) : RA (setRect w b b0 b1 b2 b3) b b0 b1 b2 b3 := by
  unfold RA at *
  generalize (Value.int IntKind.i64 a0) = v0 at *
  generalize (Value.int IntKind.i64 a1) = v1 at *
  generalize (Value.int IntKind.i64 a2) = v2 at *
  generalize (Value.int IntKind.i64 a3) = v3 at *
  simp [Go.Proofs.Ytgadebfelomhpaa.setRect, World.setCell, Array.getElem?_modify, h]
theorem itG_x (g : Geo) (k : Nat) : (itG g k).x ≤ g.x ∧ (itG g k).y ≤ g.y := by
  induction k with
  | zero => exact ⟨Nat.le_refl _, Nat.le_refl _⟩
  | succ k ih =>
    show ((itG g k).x + 1) / 2 ≤ _ ∧ ((itG g k).y + 1) / 2 ≤ _
    omega
theorem highs_len (g : Geo) (P : Nat → Nat → Int) (k : Nat) : (highs g P k).length = 3 := rfl
/-- What a step splits off. -/
theorem QG.highs {z : Nat} {W1 w : World} {V : Nat → Value} {X : Nat → List Int} (h : QG z W1 w V X) {S : Nat → Prop} (hz : S z) (hS : ∀ i, 1 ≤ i → i < 4 → ∀ b, (V i).ownBlock = some b → S b) : RowsS S w (some ⟨z, 1, none⟩) 3 3 [X 1, X 2, X 3] := by
  have hrow : ∀ i, 1 ≤ i → i < 4 → ∃ A' c', w.cell? ⟨z, i, none⟩ = some (.slice A' (X i).length c') ∧ RowS S w A' (X i).length c' (X i) := fun i h1 h4 => by
    obtain ⟨A', c', hv, hr⟩ := h.row h4
    refine ⟨A', c', by rw [(h.cell h4).1, hv], hr.1, hr.2.1, hr.2.2.1, hr.2.2.2.1, fun j u hu => ?_⟩
    obtain ⟨b, o, e, hb, hc⟩ := hr.2.2.2.2 j u hu
    subst e
    have ho := h.own i h4
    rw [hv] at ho
    refine ⟨b, o, rfl, hS i h1 h4 b ?_, hc⟩
    rw [hv]
    rcases ho.2 with ⟨he, _⟩ | ⟨g, cap, cur, he, _⟩
    · injection he with he; cases he
    · injection he with he; injection he with he; injection he with he1 he2; subst he1 he2; rfl
  refine ⟨rfl, Nat.le_refl _, by unfold maxLen; omega, (fun e => by cases e), fun i l hl => ?_⟩
  rcases i with _ | _ | _ | i
  · simp at hl; subst hl
    obtain ⟨A', c', h1, h2⟩ := hrow 1 (by omega) (by omega)
    exact ⟨z, 1, A', c', rfl, hz, h1, h2⟩
  · simp at hl; subst hl
    obtain ⟨A', c', h1, h2⟩ := hrow 2 (by omega) (by omega)
    exact ⟨z, 1, A', c', rfl, hz, h1, h2⟩
  · simp at hl; subst hl
    obtain ⟨A', c', h1, h2⟩ := hrow 3 (by omega) (by omega)
    exact ⟨z, 1, A', c', rfl, hz, h1, h2⟩
  · simp at hl
end Go.Proofs.Ytgadebfelomhpaa
