/- canvas: cut. -/
import Derived.Test.YtejoedanhonpkaaCvA
import Derived.RangeFuncBox
import Derived.RangeFuncLeaves
import Derived.Shelf.Abstract
import Derived.OwnWalkIn
import Derived.TacticsInMore
import Derived.LoopNIn
import Derived.LoopIn
import Derived.Test.YtejoedanhonpkaaAnyInv
import Derived.Test.YtejoedanhonpkaaApps
import Derived.RangeFuncNested
import Derived.RangeFuncBound
import Derived.RangeFuncCalls
import Derived.Shelf.RegionOpen
import Derived.Maps.AppendAt
import Derived.Maps.OwnIn
import Derived.IntWalk
set_option linter.unusedVariables false
set_option linter.unusedSimpArgs false
namespace Go.Proofs.Ytejoedanhonpkaa
section
set_option maxRecDepth 100000
open Go.RowKit Go.Shelf
attribute [local go_sem] Oper.semAt_some
def KeepB (b : Nat) (W W' : World) : Prop := W'.heap[b]? = W.heap[b]?
end

section
open Go.RowKit
set_option maxRecDepth 100000
def maxJ (a b : Int) : Int := if a < b then b else a
def minJ (a b : Int) : Int := if b < a then b else a
end

section
set_option maxRecDepth 100000
open Go.RowKit Go.Shelf
attribute [local go_sem] Oper.semAt_some
attribute [local go_sem ↓] appSem_eq
theorem Try.info38 : (Try.prog.info? 38).map (fun i => (i.zero, i.size, i.bytes)) = some (some (.agg #[.int .i64 0, .int .i64 0, .int .i64 0, .int .i64 0]), 4, 32) := by kernel_rfl
def recV (r : Int × Int × Int × Int) : List Value := [.int .i64 r.1, .int .i64 r.2.1, .int .i64 r.2.2.1, .int .i64 r.2.2.2]
theorem app_rect {w : World} {base m z : Nat} {v : Value} {xs : List Value} {a b c d : Int} (hown : w.ownsRow base 38 4 v m xs) (hz : w.heap[z]? = some (.cells #[.int .i64 a, .int .i64 b, .int .i64 c, .int .i64 d] 38 (0, 0))) (hb : base ≤ w.heap.size) (hm : m ≤ 100000) :
    ∃ v' w', (appSem #[33, 33] 33 #[v, .slice (some ⟨z, 0, none⟩) 1 1]).run Try.prog w = .ok v' w' ∧ w'.ownsRow base 38 4 v' (m + 1) (xs ++ recV (a, b, c, d)) ∧ w.grownBy w' v.ownBlock ∧ (v'.ownBlock = v.ownBlock ∨ v'.ownBlock = some w.heap.size) := by
  obtain ⟨i0, hi, hzz⟩ := Option.map_eq_some_iff.1 Try.info38
  simp only [Prod.mk.injEq] at hzz
  obtain ⟨hz0, hz1, hz2⟩ := hzz
  obtain ⟨v', w', hr, hown', hg, _, hat⟩ := run_append_own_at (P := Try.prog) w base 33 33 38 i0 _ 4 32 (by kernel_rfl) hi hz0 hz1 hz2 rfl (by decide) v m xs hown ⟨z, 0, none⟩ 1 1 (recV (a, b, c, d)) rfl (fun j u hu => by
    rcases j with _ | _ | _ | _ | j
    · simp [recV] at hu; subst hu; simp [World.cell?, Addr.add, hz]
    · simp [recV] at hu; subst hu; simp [World.cell?, Addr.add, hz]
    · simp [recV] at hu; subst hu; simp [World.cell?, Addr.add, hz]
    · simp [recV] at hu; subst hu; simp [World.cell?, Addr.add, hz]
    · simp [recV] at hu) (fun u hu => by
    simp [recV] at hu
    rcases hu with rfl | rfl | rfl | rfl <;> rfl) (by unfold maxLen; omega) (by omega) hb
  exact ⟨v', w', hr, hown', hg, hat⟩
theorem own_mono {w : World} {base base' : Nat} {e : TypeId} {size n : Nat} {v : Value} {xs : List Value} (h : w.ownsRow base e size v n xs) (hb : base' ≤ base) : w.ownsRow base' e size v n xs := by
  refine ⟨h.1, ?_⟩
  rcases h.2 with h | ⟨g, cap, cur, hv, hg, r⟩
  · exact Or.inl h
  · exact Or.inr ⟨g, cap, cur, hv, by omega, r⟩
/-- The boxes of cut, in a round. -/
structure Box5 (H N : Nat) (W W' : World) (r0 r1 r2 r3 wc hc : Int) (V : Value) : Prop where
  r : W'.heap[H]? = some (.cells #[.int .i64 r0, .int .i64 r1, .int .i64 r2, .int .i64 r3] 38 (0, 0))
  w : W'.heap[H + 1 + 1]? = some (.cells #[.int .i64 wc] 3 (0, 0))
  h : W'.heap[H + 1 + 1 + 1]? = some (.cells #[.int .i64 hc] 3 (0, 0))
  l : W'.heap[H + 1 + 1 + 1 + 1]? = some (.cells #[V] 33 (0, 0))
  n : N = H + 1 + 1 + 1 + 1 + 1 + 1
  s : N ≤ W'.heap.size
  ko : KeepsOthers W W'
  kb : KeepB (H + 1 + 1 + 1 + 1 + 1) W W'
  bel : Below H W W'
section
variable {H N : Nat} {W W' W2 : World} {r0 r1 r2 r3 wc hc : Int} {V V9 : Value}
theorem Box5.below (h : Box5 H N W W' r0 r1 r2 r3 wc hc V) (hb : Below W'.heap.size W' W2) : Box5 H N W W2 r0 r1 r2 r3 wc hc V := by
  have hs := h.s
  have hn := h.n
  exact ⟨(hb.block _ (by omega)).trans h.r, (hb.block _ (by omega)).trans h.w, (hb.block _ (by omega)).trans h.h, (hb.block _ (by omega)).trans h.l, hn, Nat.le_trans hs hb.size,
    h.ko.trans ⟨hb.size, fun k o hk _ => (hb.block k (Array.getElem?_eq_some_iff.1 hk).1).trans hk⟩, (hb.block _ (by omega)).trans h.kb, h.bel.trans (hb.mono (by omega))⟩
theorem Box5.grown (h : Box5 H N W W' r0 r1 r2 r3 wc hc V) {row : Option Nat} (hg : W'.grownBy W2 row) (hr : ∀ j, row = some j → N ≤ j ∧ ∃ o, W'.heap[j]? = some o ∧ o.isCells = true) : Box5 H N W W2 r0 r1 r2 r3 wc hc V := by
  have hs := h.s
  have hn := h.n
  have kp : ∀ k, k < N → W2.heap[k]? = W'.heap[k]? := fun k hk => hg.block k (by omega) (fun e => by have := (hr k e.symm).1; omega)
  refine ⟨(kp _ (by omega)).trans h.r, (kp _ (by omega)).trans h.w, (kp _ (by omega)).trans h.h, (kp _ (by omega)).trans h.l, hn, Nat.le_trans hs hg.size, h.ko.trans (KeepsOthers.of_grownBy hg fun j o ej hj => ?_), (kp _ (by omega)).trans h.kb, h.bel.trans ((Below.refl H W').grown hg (by omega) fun j ej => by have := (hr j ej).1; omega)⟩
  obtain ⟨_, o2, ho2, hc2⟩ := hr j ej
  rw [hj] at ho2
  cases ho2
  exact hc2
end
end
end Go.Proofs.Ytejoedanhonpkaa
