/- canvas: as many samples as places (CanvasSamples): mathematics. -/
import Derived.Test.YtejoedanhonpkaaCvK
import Derived.Test.YtejoedanhonpkaaCvF
import Derived.Test.YtejoedanhonpkaaAnyInv
import Derived.Test.YtejoedanhonpkaaCvSm
import Derived.Test.YtejoedanhonpkaaCvG
import Derived.Deep.LoopGhost
set_option linter.unusedVariables false
set_option linter.unusedSimpArgs false
namespace Go.Proofs.Ytejoedanhonpkaa
open Go.RowKit
set_option maxRecDepth 100000
theorem sa_bds (d : Nat) (sg : Bool) (hd : 1 ≤ d ∧ d ≤ 16) : -65536 ≤ leastF d sg ∧ leastF d sg ≤ 0 ∧ 0 ≤ mostF d sg ∧ mostF d sg ≤ 65536 := by
  have p : ∀ k : Nat, k ≤ 16 → 1 ≤ (2 : Int) ^ k ∧ (2 : Int) ^ k ≤ 65536 := fun k hk => by
    have h1 : ((2 ^ k : Nat) : Int) = (2 : Int) ^ k := by simp
    have h2 : 2 ^ k ≤ 2 ^ 16 := Nat.pow_le_pow_right (by decide) hk
    have h3 : 1 ≤ 2 ^ k := Nat.one_le_two_pow
    have h4 : 2 ^ 16 = 65536 := by decide
    rw [← h1]; omega
  have p1 := p d hd.2
  have p2 := p (d - 1) (by omega)
  unfold leastF mostF
  cases sg
  · simp; omega
  · simp; omega
/-- A block of whole numbers. -/
def BlkI (w : World) (b : Nat) (l : List Int) : Prop := ∃ arr : Array Value, w.heap[b]? = some (.cells arr 3 (0, 0)) ∧ arr.toList = l.map (Value.int .i64)
theorem BlkI.frozen {w : World} {b : Nat} {l : List Int} (h : BlkI w b l) (o : Nat) : w.frozen? ⟨b, o, none⟩ = false := by
  obtain ⟨arr, h1, h2⟩ := h
  simp [World.frozen?, h1]
theorem BlkI.cell {w : World} {b : Nat} {l : List Int} (h : BlkI w b l) {k : Nat} {x : Int} (hk : l[k]? = some x) : w.cell? ⟨b, k, none⟩ = some (.int .i64 x) := by
  obtain ⟨arr, h1, h2⟩ := h
  have : arr[k]? = some (.int .i64 x) := by rw [← Array.getElem?_toList, h2, List.getElem?_map, hk]; rfl
  simp [World.cell?, h1, this]
theorem BlkI.set {w : World} {b : Nat} {l : List Int} (h : BlkI w b l) (k : Nat) (x : Int) : BlkI (w.setCell ⟨b, k, none⟩ (.int .i64 x)) b (l.set k x) := by
  obtain ⟨arr, h1, h2⟩ := h
  refine ⟨arr.setIfInBounds k (.int .i64 x), ?_, ?_⟩
  · simp [World.setCell, Array.getElem?_modify, h1]
  · rw [Array.toList_setIfInBounds, h2, List.map_set]
theorem BlkI.keep {w w' : World} {b : Nat} {l : List Int} (h : BlkI w b l) (hk : w'.heap[b]? = w.heap[b]?) : BlkI w' b l := by
  obtain ⟨arr, h1, h2⟩ := h
  exact ⟨arr, hk.trans h1, h2⟩
/-- One number more behind a row of whole numbers. -/
theorem app_int {w : World} {base m z : Nat} {x : Int} {v : Value} {xs : List Value} (hown : w.ownsRow base 3 1 v m xs) (hz : w.heap[z]? = some (.cells #[.int .i64 x] 3 (0, 0))) (hb : base ≤ w.heap.size) (hm : m ≤ 100000) :
    ∃ v' w', (appSem #[22, 22] 22 #[v, .slice (some ⟨z, 0, none⟩) 1 1]).run Try.prog w = .ok v' w' ∧ w'.ownsRow base 3 1 v' (m + 1) (xs ++ [.int .i64 x]) ∧ w.grownBy w' v.ownBlock ∧ (v'.ownBlock = v.ownBlock ∨ v'.ownBlock = some w.heap.size) := by
  obtain ⟨i0, hi, hzz⟩ := Option.map_eq_some_iff.1 Try.info3
  simp only [Prod.mk.injEq] at hzz
  obtain ⟨hz0, hz1, hz2⟩ := hzz
  obtain ⟨v', w', hr, hown', hg, _, hat⟩ := run_append_own_at (P := Try.prog) w base 22 22 3 i0 _ 1 8 (by kernel_rfl) hi hz0 hz1 hz2 rfl (by decide) v m xs hown ⟨z, 0, none⟩ 1 1 [.int .i64 x] rfl (fun j u hu => by
    rcases j with _ | j
    · simp at hu; subst hu; simp [World.cell?, Addr.add, hz]
    · simp at hu) (fun u hu => by
    simp at hu
    subst hu; rfl) (by unfold maxLen; omega) (by omega) hb
  exact ⟨v', w', hr, hown', hg, hat⟩
/-- The picture, its params, its component in memory. -/
structure SA (w0 w : World) (bm cb : Nat) (x y d dx dy : Int) (sg : Bool) (V : Value) : Prop where
  m : w.heap[bm]? = some (.cells #[.int .i64 x, .int .i64 y, .int .i64 0, .int .i64 0, .slice (some ⟨cb, 0, none⟩) 1 1] 28 (0, 0))
  p : w.heap[bm + 1]? = some (.cells #[.int .i64 64, .int .i64 64, .int .i64 2, .int .i64 4, .int .i64 4, .int .i64 15, .int .i64 0, .int .i64 0, .int .i64 1, .bool false, .bool false, .bool false] 30 (0, 0))
  c : w.heap[cb]? = some (.cells #[.int .i64 d, .bool sg, .int .i64 dx, .int .i64 dy, V] 48 (0, 0))
  bel : Below w0.heap.size w0 w
  bb : w0.heap.size ≤ cb ∧ cb < bm
section
variable {w0 w w' : World} {bm cb : Nat} {x y d dx dy : Int} {sg : Bool} {V : Value}
theorem SA.drewN (h : SA w0 w bm cb x y d dx dy sg V) (n : Nat) : SA w0 (w.drewN n) bm cb x y d dx dy sg V := ⟨h.m, h.p, h.c, below_drewN h.bel n, h.bb⟩
theorem SA.drew (h : SA w0 w bm cb x y d dx dy sg V) : SA w0 w.drew bm cb x y d dx dy sg V := h.drewN 1
theorem SA.lt (h : SA w0 w bm cb x y d dx dy sg V) : bm + 1 < w.heap.size := (Array.getElem?_eq_some_iff.1 h.p).1
theorem SA.alloc (h : SA w0 w bm cb x y d dx dy sg V) (o : Obj) : SA w0 (w.alloc o) bm cb x y d dx dy sg V := by
  have hl := h.lt
  have hb := h.bb
  exact ⟨(Below.heap_alloc _ _ _ (by omega)).trans h.m, (Below.heap_alloc _ _ _ (by omega)).trans h.p, (Below.heap_alloc _ _ _ (by omega)).trans h.c, h.bel.alloc h.bel.size o, h.bb⟩
theorem SA.grown (h : SA w0 w bm cb x y d dx dy sg V) {nb : Nat} (hn : bm + 1 < nb) (hg : w.grownBy w' (some nb)) : SA w0 w' bm cb x y d dx dy sg V := by
  have hl := h.lt
  have hb := h.bb
  exact ⟨(hg.block _ (by omega) (by simp; omega)).trans h.m, (hg.block _ (by omega) (by simp; omega)).trans h.p, (hg.block _ (by omega) (by simp; omega)).trans h.c, h.bel.grown hg h.bel.size (fun k e => by simp at e; omega), hb⟩
theorem SA.cells (h : SA w0 w bm cb x y d dx dy sg V) : w.cell? ⟨cb, 0, none⟩ = some (.int .i64 d) ∧ w.cell? ⟨cb, 1, none⟩ = some (.bool sg) ∧ w.cell? ⟨cb, 2, none⟩ = some (.int .i64 dx) ∧ w.cell? ⟨cb, 3, none⟩ = some (.int .i64 dy) ∧ w.cell? ⟨cb, 4, none⟩ = some V ∧ ∀ o, w.frozen? ⟨cb, o, none⟩ = false := by
  have := h.c
  refine ⟨?_, ?_, ?_, ?_, ?_, ?_⟩ <;> simp [World.cell?, World.frozen?, this]
end
end Go.Proofs.Ytejoedanhonpkaa
