/- canvas: cut. -/
import Derived.Test.YtlbfjaifemnkpaaCvX
import Derived.Test.YtlbfjaifemnkpaaAnyInv
import Derived.Test.YtlbfjaifemnkpaaApps
import Derived.RangeFuncNested
import Derived.RangeFuncBound
import Derived.RangeFuncCalls
import Derived.Shelf.RegionOpen
import Derived.Maps.AppendAt
import Derived.Maps.OwnIn
import Derived.IntWalk
set_option linter.unusedVariables false
set_option linter.unusedSimpArgs false
namespace Go.Proofs.Ytlbfjaifemnkpaa
set_option maxRecDepth 100000
open Go.RowKit Go.Shelf
attribute [local go_sem] Oper.semAt_some
attribute [local go_sem ↓] appSem_eq
theorem Try.info107 : (Try.prog.info? 107).map (fun i => (i.zero, i.size, i.bytes)) = some (some (.agg #[.int .i64 0, .int .i64 0, .int .i64 0, .int .i64 0]), 4, 32) := by kernel_rfl
def recV (r : Int × Int × Int × Int) : List Value := [.int .i64 r.1, .int .i64 r.2.1, .int .i64 r.2.2.1, .int .i64 r.2.2.2]
theorem app_rect {w : World} {base m z : Nat} {v : Value} {xs : List Value} {a b c d : Int} (hown : w.ownsRow base 107 4 v m xs) (hz : w.heap[z]? = some (.cells #[.int .i64 a, .int .i64 b, .int .i64 c, .int .i64 d] 107 (0, 0))) (hb : base ≤ w.heap.size) (hm : m ≤ 100000) :
    ∃ v' w', (appSem #[103, 103] 103 #[v, .slice (some ⟨z, 0, none⟩) 1 1]).run Try.prog w = .ok v' w' ∧ w'.ownsRow base 107 4 v' (m + 1) (xs ++ recV (a, b, c, d)) ∧ w.grownBy w' v.ownBlock ∧ (v'.ownBlock = v.ownBlock ∨ v'.ownBlock = some w.heap.size) := by
  obtain ⟨i0, hi, hzz⟩ := Option.map_eq_some_iff.1 Try.info107
  simp only [Prod.mk.injEq] at hzz
  obtain ⟨hz0, hz1, hz2⟩ := hzz
  obtain ⟨v', w', hr, hown', hg, _, hat⟩ := run_append_own_at (P := Try.prog) w base 103 103 107 i0 _ 4 32 (by kernel_rfl) hi hz0 hz1 hz2 rfl (by decide) v m xs hown ⟨z, 0, none⟩ 1 1 (recV (a, b, c, d)) rfl (fun j u hu => by
    rcases j with _ | _ | _ | _ | j
    · simp [recV] at hu; subst hu; simp [World.cell?, Addr.add, hz]
    · simp [recV] at hu; subst hu; simp [World.cell?, Addr.add, hz]
    · simp [recV] at hu; subst hu; simp [World.cell?, Addr.add, hz]
    · simp [recV] at hu; subst hu; simp [World.cell?, Addr.add, hz]
    · simp [recV] at hu) (fun u hu => by
    simp [recV] at hu
    rcases hu with rfl | rfl | rfl | rfl <;> rfl) (by unfold maxLen; omega) (by omega) hb
  exact ⟨v', w', hr, hown', hg, hat⟩
theorem own_mono {w : World} {base base' : Nat} {e : TypeId} {size n : Nat} {v : Value} {xs : List Value} (h : w.ownsRow base e size v n xs) (hb : base' ≤ base) : w.ownsRow base' e size v n xs := by
  refine ⟨h.1, ?_⟩
  rcases h.2 with h | ⟨g, cap, cur, hv, hg, r⟩
  · exact Or.inl h
  · exact Or.inr ⟨g, cap, cur, hv, by omega, r⟩
section
variable {H N : Nat} {W W' W2 : World} {r0 r1 r2 r3 wc hc : Int} {V V9 : Value}
end
end Go.Proofs.Ytlbfjaifemnkpaa
