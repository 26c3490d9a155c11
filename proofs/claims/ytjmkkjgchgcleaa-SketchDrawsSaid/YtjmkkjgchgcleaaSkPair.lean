/- Draw and the reference's Draw, at any numbers. -/
import Derived.Test.YtjmkkjgchgcleaaSkRd
import Derived.Test.YtjmkkjgchgcleaaSkRsum
import Derived.Test.YtjmkkjgchgcleaaSkSame
set_option linter.unusedVariables false
namespace Go.Proofs.Ytjmkkjgchgcleaa
open Go.RowKit

section
variable {F : Fence} {n : Nat} {P : Program} {ops : Array Oper} {Q : Exit → Act → World → Prop}
theorem opIn_run_g {i j : Nat} {b : Bool} {o : Oper} {a : Act} {w w' : World} {K : Act → World → Prop} {v : Value} (hi : ops[i]? = some o) (hg : o.guard = some (j, b)) (hy : yielded ops a.tmps j = some b) (hd : ∀ c, o.op ≠ .defer c) (hF : ∀ f, F.fn f)
    (hrun : (execOp a.eval o).run P w = .ok (.value v) w') (hK : K (a.put o.dst v) w') : wpOpIn F n P ops Q i K a w := by
  unfold wpOpIn
  simp only [hi]
  rw [if_pos (by simp [Region.wanted, hg, hy])]
  refine ⟨fun f _ => hF f, ?_⟩
  rw [Oper.semAt_eq _ _ _ hd, hrun]
  exact hK
theorem opIn_call_g {i j : Nat} {b : Bool} {o : Oper} {a : Act} {w w' : World} {K : Act → World → Prop} {f : FuncId} {args : Array Value} (hi : ops[i]? = some o) (hg : o.guard = some (j, b)) (hy : yielded ops a.tmps j = some b) (hd : ∀ c, o.op ≠ .defer c) (hF : ∀ f, F.fn f) (hdp : F.depth = none)
    (hrun : (execOp a.eval o).run P w = .ok (.enter f args) w') (hc : CallsIn F (n - 1) P f args w' fun e w'' => ∃ v, e = .returned v ∧ K (a.put o.dst v) w'') : wpOpIn F n P ops Q i K a w := by
  unfold wpOpIn
  simp only [hi]
  rw [if_pos (by simp [Region.wanted, hg, hy])]
  refine ⟨fun f _ => hF f, ?_⟩
  rw [Oper.semAt_eq _ _ _ hd, hrun]
  refine ⟨(fun h => by rw [hdp] at h; cases h), hc.mono ?_⟩
  rintro e w'' ⟨v, rfl, hk⟩
  exact hk
theorem opIn_not_g {i j : Nat} {b c : Bool} {o : Oper} {a : Act} {w : World} {K : Act → World → Prop} (hi : ops[i]? = some o) (hg : o.guard = some (j, b)) (hy : yielded ops a.tmps j = some c) (hbc : c ≠ b) (hF : ∀ f, F.fn f)
    (hK : K (a.put o.dst undef) w) : wpOpIn F n P ops Q i K a w := by
  unfold wpOpIn
  simp only [hi]
  rw [if_neg (by simp [Region.wanted, hg, hy, hbc])]
  exact ⟨fun f _ => hF f, hK⟩
end

/-- The rows of what is drawn, none where it is refused. -/
def allLs (x y ox oy n d kind : Int) : List (List Int) := if okB x y ox oy n d kind then rowsF x y ox oy d kind n.toNat else []
def orZ (b : Bool) (x : Int) : Int := if b then x else 0
theorem ok_bd {x y ox oy n d kind : Int} (h : okB x y ox oy n d kind = true) : 0 ≤ ox ∧ ox < x ∧ x ≤ 64 ∧ 0 ≤ oy ∧ oy < y ∧ y ≤ 64 ∧ 1 ≤ n ∧ n ≤ 4 ∧ 1 ≤ d ∧ d ≤ 16 ∧ 0 ≤ kind ∧ kind ≤ 4 := by simpa [okB] using h
/-- What either Draw comes to. -/
def Both (x y ox oy n d kind : Int) (w : World) (e : Ending) (w' : World) : Prop :=
  ∃ AC cC, e = .returned (.tuple #[.agg #[.int .i64 (orZ (okB x y ox oy n d kind) x), .int .i64 (orZ (okB x y ox oy n d kind) y), .int .i64 (orZ (okB x y ox oy n d kind) ox), .int .i64 (orZ (okB x y ox oy n d kind) oy), .slice AC (allLs x y ox oy n d kind).length cC], .int .i64 (if okB x y ox oy n d kind then 0 else 1)]) ∧
    RdImg w' AC (allLs x y ox oy n d kind) d (stepF kind) ∧ ((allLs x y ox oy n d kind).length ≤ cC ∧ cC ≤ maxLen) ∧ Below w.heap.size w w'
theorem both_yes {x y ox oy n d kind : Int} {w w' : World} {Cv : Value} {CS : List (List Value)} (hok : okB x y ox oy n d kind = true) (hP : Pic w.heap.size w w' Cv n.toNat CS x y ox oy d kind) : Both x y ox oy n d kind w (.returned (.tuple #[.agg #[.int .i64 x, .int .i64 y, .int .i64 ox, .int .i64 oy, Cv], .int .i64 0])) w' := by
  obtain ⟨AC, cC, rfl, hkc, hm, hR⟩ := pic_rd hP
  have hl : (rowsF x y ox oy d kind n.toNat).length = n.toNat := by simp [rowsF]
  unfold Both allLs
  simp only [hok, orZ, if_true, hl]
  exact ⟨AC, cC, rfl, hR, ⟨hkc, hm⟩, hP.bel⟩
theorem both_no {x y ox oy n d kind : Int} {w w' : World} {e : Ending} (hok : okB x y ox oy n d kind = false) (h : NoPic w e w') : Both x y ox oy n d kind w e w' := by
  obtain ⟨rfl, hb⟩ := h
  unfold Both allLs
  simp only [hok, orZ]
  exact ⟨none, 0, rfl, fun i L hL => by simp at hL, ⟨by simp, by unfold maxLen; omega⟩, hb⟩
theorem draw_all (x y ox oy n d kind : Int) (w : World) : Calls Try.prog 9 #[.int .i64 x, .int .i64 y, .int .i64 ox, .int .i64 oy, .int .i64 n, .int .i64 d, .int .i64 kind] w (Both x y ox oy n d kind w) := by
  cases hok : okB x y ox oy n d kind with
  | true =>
    have b := ok_bd hok
    refine (draw_any x y ox oy n d kind w (by omega) (by omega) (by omega) (by omega) (by omega)).mono ?_
    rintro e w' ⟨Cv, CS, rfl, hP⟩
    exact both_yes hok hP
  | false => exact (draw_no x y ox oy n d kind w hok).mono fun e w' h => both_no hok h
theorem rdraw_all (x y ox oy n d kind : Int) (w : World) : Calls Try.prog 10 #[.int .i64 x, .int .i64 y, .int .i64 ox, .int .i64 oy, .int .i64 n, .int .i64 d, .int .i64 kind] w (Both x y ox oy n d kind w) := by
  cases hok : okB x y ox oy n d kind with
  | true =>
    have b := ok_bd hok
    refine (rdraw_any x y ox oy n d kind w (by omega) (by omega) (by omega) (by omega) (by omega)).mono ?_
    rintro e w' ⟨Cv, CS, rfl, hP⟩
    exact both_yes hok hP
  | false => exact (rdraw_no x y ox oy n d kind w hok).mono fun e w' h => both_no hok h
theorem all_ok (x y ox oy n d kind : Int) : (allLs x y ox oy n d kind).length ≤ 4 ∧ ∀ L ∈ allLs x y ox oy n d kind, L.length ≤ 4096 ∧ ∀ v ∈ L, 0 ≤ v ∧ v ≤ 65535 := by
  unfold allLs
  cases hok : okB x y ox oy n d kind with
  | true =>
    have b := ok_bd hok
    simp only [if_true]
    exact ⟨by simp [rowsF]; omega, rows_ok (by omega) (by omega) (by omega)⟩
  | false => simp
end Go.Proofs.Ytjmkkjgchgcleaa
