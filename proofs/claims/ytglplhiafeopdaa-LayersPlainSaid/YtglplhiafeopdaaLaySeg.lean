/- Segments, by its contract: a range over the iterator whose body appends to two captured slices. -/
import Derived.Test.YtglplhiafeopdaaLayPcs
import Derived.Test.YtglplhiafeopdaaOnly
import Derived.Test.YtglplhiafeopdaaApps
import Derived.RangeFuncNested
import Derived.RangeFuncBound
import Derived.RangeFuncCalls
import Derived.Shelf.RegionOpen
import Derived.Maps.AppendAt
import Derived.Maps.OwnIn
import Derived.IntWalk
set_option linter.unusedVariables false
namespace Go.Proofs.Ytglplhiafeopdaa
open Go.RowKit Go.Shelf

attribute [local go_sem] Oper.semAt_some

/-- The slice reads as the list of numbers. -/
def RowI (w : World) (A : Option Addr) (n c : Nat) (l : List Int) : Prop :=
  l.length = n ∧ n ≤ c ∧ c ≤ maxLen ∧ (A = none → n = 0 ∧ c = 0) ∧ Lst w w.heap.size A (l.map (Value.int .i64))
theorem RowI.keep {w w' : World} {A : Option Addr} {n c B : Nat} {l : List Int} (h : RowI w A n c l) (hb : Below B w w') (hB : w.heap.size ≤ B) : RowI w' A n c l :=
  ⟨h.1, h.2.1, h.2.2.1, h.2.2.2.1, ((h.2.2.2.2.below (hb.mono hB)).more hb.size)⟩
theorem RowI.drew {w w' : World} {A : Option Addr} {n c : Nat} {l : List Int} (h : RowI w A n c l) (d : Drew w w') : RowI w' A n c l := h.keep d.below (Nat.le_refl _)
theorem rowI_own {w : World} {base n : Nat} {v : Value} {l : List Int} (h : w.ownsRow base 3 1 v n (l.map (Value.int .i64))) : ∃ A c, v = .slice A n c ∧ RowI w A n c l := by
  obtain ⟨A, c, rfl, hA, hc, hm⟩ := own_any h
  exact ⟨A, c, rfl, by have := h.1; simpa using this, hc, hm, hA, Lst.own h⟩
theorem rowI_is {w : World} {a : Option Addr} {len cap : Nat} {zs : List Int} (h : IsRow .i64 w a len cap zs) : RowI w a len cap (zs.take len) := by
  obtain ⟨h1, h2, h3, h4⟩ := row_len h
  exact ⟨h1, h2, h3, h4, lst_of_row h⟩
theorem RowI.cell {w : World} {A : Option Addr} {n c : Nat} {l : List Int} (h : RowI w A n c l) {k : Nat} (hk : k < n) :
    ∃ b o, A = some ⟨b, o, none⟩ ∧ b < w.heap.size ∧ w.cell? ⟨b, o + k, none⟩ = some (.int .i64 (l.getD k 0)) :=
  h.2.2.2.2 k _ (by rw [List.getElem?_map, List.getElem?_eq_getElem (by rw [h.1]; exact hk), List.getD_eq_getElem?_getD, List.getElem?_eq_getElem (by rw [h.1]; exact hk)]; rfl)

/-- The element before an index, or 0. -/
def bef (l : List Int) (i : Int) : Int := if i < 1 then 0 else l.getD (i - 1).toNat 0
theorem bef_lo {l : List Int} {i : Int} (h : i < 1) : bef l i = 0 := if_pos h
theorem bef_at {l : List Int} {k : Nat} : bef l ((k : Int) + 1) = l.getD k 0 := by
  unfold bef; rw [if_neg (by omega), show ((k : Int) + 1 - 1).toNat = k by omega]
/-- All elements lie within these bounds. -/
def Near (l : List Int) : Prop := ∀ i, 0 ≤ l.getD i 0 ∧ l.getD i 0 ≤ 1000000
theorem bef_bd {l : List Int} (h : Near l) (i : Int) : 0 ≤ bef l i ∧ bef l i ≤ 1000000 := by
  unfold bef
  split
  · omega
  · exact h _

set_option maxHeartbeats 1000000 in
theorem before_any {A : Option Addr} {n c : Nat} {l : List Int} {w : World} (h : RowI w A n c l) (i : Int) (hi : -1000000 ≤ i ∧ i ≤ n) (hn : n ≤ 1000000) :
    Calls Try.prog 19 #[.slice A n c, .int .i64 i] w fun e w' => e = .returned (.int .i64 (bef l i)) ∧ w = w' := by
  by_cases c1 : i < 1
  · have HB := Lib.hid (bef_lo (l := l) c1)
    go_enter Try.func19, Try.ntmps19
    go_wp2
    go_ret
    exact ⟨ret_i64 HB.out.symm, rfl⟩
  · obtain ⟨k, rfl⟩ : ∃ k : Nat, i = (k : Int) + 1 := ⟨(i - 1).toNat, by omega⟩
    have HB := Lib.hid (bef_at (l := l) (k := k))
    obtain ⟨b, o, rfl, hb, m⟩ := h.cell (k := k) (by omega)
    have e1 : ((k : Int) + 1 - 1) = (k : Int) := by omega
    have hk : (k : Int) < (n : Int) := by omega
    clear h
    go_enter Try.func19, Try.ntmps19
    go_wp2
    go_ret
    exact ⟨ret_i64 HB.out.symm, rfl⟩
end Go.Proofs.Ytglplhiafeopdaa
