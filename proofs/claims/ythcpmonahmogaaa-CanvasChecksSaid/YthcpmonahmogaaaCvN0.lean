/- Blocks of structs that lie one behind another from a base on; what a picture's raw numbers come to. -/
import Derived.Test.YthcpmonahmogaaaCvMa
import Derived.Test.YthcpmonahmogaaaReg
import Derived.Laws.Tables
set_option linter.unusedVariables false
set_option linter.unusedSimpArgs false
namespace Go.Proofs.Ythcpmonahmogaaa
open Go.RowKit
set_option maxRecDepth 100000
/-- From block B on there lie these structs, and nothing below B was written. -/
structure MkW (w0 : World) (B : Nat) (l : List (Array Value × TypeId)) (w : World) : Prop where
  b : ∀ i c, l[i]? = some c → w.heap[B + i]? = some (.cells c.1 c.2 (0, 0))
  bel : Below B w0 w
  sz : B + l.length ≤ w.heap.size
theorem setRow_ne (w : World) (g k : Nat) (cs : Array Value) (h : k ≠ g) : (w.setRow g cs).heap[k]? = w.heap[k]? := by
  unfold World.setRow
  show (w.heap.modify g _)[k]? = _
  rw [Array.getElem?_modify, if_neg (fun e => h e.symm)]
theorem setRow_size (w : World) (g : Nat) (cs : Array Value) : (w.setRow g cs).heap.size = w.heap.size := by simp [World.setRow]
theorem below_setRow {a w : World} {B : Nat} (h : Below B a w) {g : Nat} (hg : B ≤ g) (cs : Array Value) : Below B a (w.setRow g cs) :=
  ⟨h.os, h.tape, h.output, by rw [setRow_size]; exact h.size, fun k hk => (setRow_ne w g k cs (by omega)).trans (h.block k hk)⟩
theorem size_setCell (w : World) (p : Addr) (v : Value) : (w.setCell p v).heap.size = w.heap.size := by simp [World.setCell]
section
variable {w0 w w' : World} {B : Nat} {l : List (Array Value × TypeId)}
theorem MkW.drewN (h : MkW w0 B l w) (n : Nat) : MkW w0 B l (w.drewN n) := ⟨h.b, below_drewN h.bel n, h.sz⟩
theorem MkW.drew (h : MkW w0 B l w) : MkW w0 B l w.drew := h.drewN 1
theorem MkW.alloc (h : MkW w0 B l w) (o : Obj) : MkW w0 B l (w.alloc o) :=
  ⟨fun i c e => (Below.heap_alloc _ _ _ (by have := (List.getElem?_eq_some_iff.1 e).1; have := h.sz; omega)).trans (h.b i c e), h.bel.alloc (by have := h.sz; omega) o, by have := h.sz; simp; omega⟩
theorem MkW.more (h : MkW w0 B l w) (hs : w.heap.size = B + l.length) (cs : Array Value) (t : TypeId) : MkW w0 B (l ++ [(cs, t)]) (w.alloc (.cells cs t)) := by
  refine ⟨fun i c e => ?_, h.bel.alloc (by omega) _, by simp; omega⟩
  rcases Nat.lt_or_ge i l.length with hi | hi
  · rw [List.getElem?_append_left hi] at e
    exact (h.alloc _).b i c e
  · rw [List.getElem?_append_right hi] at e
    have : i - l.length = 0 := by
      rcases Nat.eq_zero_or_pos (i - l.length) with h0 | h0
      · exact h0
      · rw [List.getElem?_eq_none (by simp; omega)] at e; cases e
    rw [this] at e
    cases e
    rw [show B + i = w.heap.size by omega]
    exact World.alloc_heap_new w _
theorem MkW.row (h : MkW w0 B l w) {i : Nat} {c : Array Value × TypeId} (e : l[i]? = some c) {g : Nat} (hg : g = B + i) (cs : Array Value) : MkW w0 B (l.set i (cs, c.2)) (w.setRow g cs) := by
  subst hg
  refine ⟨fun j d hd => ?_, below_setRow h.bel (by omega) cs, by rw [setRow_size]; simp; exact h.sz⟩
  by_cases hj : j = i
  · subst hj
    rw [List.getElem?_set_self (List.getElem?_eq_some_iff.1 e).1] at hd
    cases hd
    exact setRow_heap w _ c.1 cs c.2 (0, 0) (h.b _ _ e)
  · rw [List.getElem?_set_ne (fun e => hj e.symm)] at hd
    exact (setRow_ne w _ _ cs (by omega)).trans (h.b j d hd)
theorem MkW.set (h : MkW w0 B l w) {i : Nat} {c : Array Value × TypeId} (e : l[i]? = some c) {g : Nat} (hg : g = B + i) (k : Nat) (v : Value) : MkW w0 B (l.set i (c.1.setIfInBounds k v, c.2)) (w.setCell ⟨g, k, none⟩ v) := by
  subst hg
  rw [setCell_eq_setRow w _ k c.1 c.2 (0, 0) v (h.b _ _ e)]
  exact h.row e rfl _
theorem MkW.keep (h : MkW w0 B l w) (hb : Below w.heap.size w w') : MkW w0 B l w' :=
  ⟨fun i c e => (hb.block _ (Array.getElem?_eq_some_iff.1 (h.b i c e)).1).trans (h.b i c e), h.bel.trans (hb.mono (by have := h.sz; omega)), Nat.le_trans h.sz hb.size⟩
theorem MkW.keepN (h : MkW w0 B l w) {N : Nat} (hb : Below N w w') (hN : B + l.length ≤ N) : MkW w0 B l w' :=
  ⟨fun i c e => (hb.block _ (by have := (List.getElem?_eq_some_iff.1 e).1; omega)).trans (h.b i c e), h.bel.trans (hb.mono (by omega)), Nat.le_trans h.sz hb.size⟩
theorem MkW.fro (h : MkW w0 B l w) {i : Nat} {c : Array Value × TypeId} (e : l[i]? = some c) (k : Nat) : w.frozen? ⟨B + i, k, none⟩ = false := by simp [World.frozen?, h.b i c e]
end
/-- How many tiles there are. -/
def cntT (X Y tx ty : Int) : Nat := (ceilF Y ty).toNat * (ceilF X tx).toNat
/-- The sides of a tile, doubled until there are few enough. -/
def dblT (X Y : Int) : Nat → Int → Int → Int × Int
  | 0, tx, ty => (tx, ty)
  | k + 1, tx, ty => if 6 < cntT X Y tx ty then dblT X Y k (2 * tx) (2 * ty) else (tx, ty)
structure DblI (X Y : Int) (g : Nat) (tx ty : Int) : Prop where
  x : X ≤ tx * ((2 ^ g : Nat) : Int) ∧ tx * ((2 ^ g : Nat) : Int) ≤ 832
  y : Y ≤ ty * ((2 ^ g : Nat) : Int) ∧ ty * ((2 ^ g : Nat) : Int) ≤ 832
  p : 1 ≤ tx ∧ 1 ≤ ty
theorem dbl_le {t : Int} {g : Nat} (h : 1 ≤ t) : t ≤ t * ((2 ^ g : Nat) : Int) := by
  have h1 : 1 ≤ ((2 ^ g : Nat) : Int) := by have := Nat.pow_pos (n := g) (show 0 < 2 by omega); omega
  have := Int.mul_le_mul_of_nonneg_left h1 (show 0 ≤ t by omega)
  omega
theorem DblI.bd {X Y tx ty : Int} {g : Nat} (h : DblI X Y g tx ty) : (1 ≤ tx ∧ tx ≤ 832) ∧ (1 ≤ ty ∧ ty ≤ 832) := by
  have h1 := dbl_le (g := g) h.p.1
  have h2 := dbl_le (g := g) h.p.2
  have := h.x; have := h.y; have := h.p
  omega
theorem ceil_one {a b : Int} (ha : 1 ≤ a) (h : a ≤ b) : ceilF a b = 1 := by
  unfold ceilF
  by_cases e : a = b
  · subst e
    rw [Int.ediv_self (by omega), Int.emod_self]
    rfl
  · rw [Int.ediv_eq_zero_of_lt (by omega) (by omega), Int.emod_eq_of_lt (by omega) (by omega), if_pos (by omega)]
    rfl
theorem DblI.step {X Y tx ty : Int} {g : Nat} (h : DblI X Y g tx ty) (hX : 1 ≤ X) (hY : 1 ≤ Y) (hc : 6 < cntT X Y tx ty) : ∃ k, g = k + 1 ∧ DblI X Y k (2 * tx) (2 * ty) ∧ dblT X Y g tx ty = dblT X Y k (2 * tx) (2 * ty) := by
  cases g with
  | zero =>
    exfalso
    have hx := h.x.1
    have hy := h.y.1
    rw [show ((2 ^ 0 : Nat) : Int) = 1 from rfl, Int.mul_one] at hx hy
    unfold cntT at hc
    rw [ceil_one hX (by omega), ceil_one hY (by omega)] at hc
    exact absurd hc (by decide)
  | succ k =>
    refine ⟨k, rfl, ⟨?_, ?_, by have := h.p; omega⟩, by rw [dblT, if_pos hc]⟩
    · have e : 2 * tx * ((2 ^ k : Nat) : Int) = tx * ((2 ^ (k + 1) : Nat) : Int) := by
        rw [Nat.pow_succ, Int.natCast_mul, Int.mul_comm 2 tx, Int.mul_assoc, Int.mul_comm (2 : Int)]
        rfl
      rw [e]
      exact h.x
    · have e : 2 * ty * ((2 ^ k : Nat) : Int) = ty * ((2 ^ (k + 1) : Nat) : Int) := by
        rw [Nat.pow_succ, Int.natCast_mul, Int.mul_comm 2 ty, Int.mul_assoc, Int.mul_comm (2 : Int)]
        rfl
      rw [e]
      exact h.y
theorem dbl_end {X Y tx ty : Int} {g : Nat} (hc : ¬ 6 < cntT X Y tx ty) : dblT X Y g tx ty = (tx, ty) := by
  cases g with
  | zero => rfl
  | succ k => rw [dblT, if_neg hc]
end Go.Proofs.Ythcpmonahmogaaa
