/- Guarded operations of a drawn region; what laws of Join share. -/
import Derived.Test.YtgadebfelomhpaaDwJJ
set_option linter.unusedVariables false
set_option linter.unusedSimpArgs false
namespace Go.Proofs.Ytgadebfelomhpaa
open Go.RowKit

section
variable {F : Fence} {n : Nat} {P : Program} {ops : Array Oper} {Q : Exit → Act → World → Prop}
theorem opIn_run_g {i j : Nat} {b : Bool} {o : Oper} {a : Act} {w w' : World} {K : Act → World → Prop} {v : Value} (hi : ops[i]? = some o) (hg : o.guard = some (j, b)) (hy : yielded ops a.tmps j = some b) (hd : ∀ c, o.op ≠ .defer c) (hF : ∀ f, F.fn f)
    (hrun : (execOp a.eval o).run P w = .ok (.value v) w') (hK : K (a.put o.dst v) w') : wpOpIn F n P ops Q i K a w := by
  unfold wpOpIn
  simp only [hi]
  rw [if_pos (by simp [Region.wanted, hg, hy])]
  refine ⟨fun f _ => hF f, ?_⟩
  rw [Oper.semAt_eq _ _ _ hd, hrun]
  exact hK
theorem opIn_call_g {i j : Nat} {b : Bool} {o : Oper} {a : Act} {w w' : World} {K : Act → World → Prop} {f : FuncId} {args : Array Value} (hi : ops[i]? = some o) (hg : o.guard = some (j, b)) (hy : yielded ops a.tmps j = some b) (hd : ∀ c, o.op ≠ .defer c) (hF : ∀ f, F.fn f) (hdp : F.depth = none)
    (hrun : (execOp a.eval o).run P w = .ok (.enter f args) w') (hc : CallsIn F (n - 1) P f args w' fun e w'' => ∃ v, e = .returned v ∧ K (a.put o.dst v) w'') : wpOpIn F n P ops Q i K a w := by
  unfold wpOpIn
  simp only [hi]
  rw [if_pos (by simp [Region.wanted, hg, hy])]
  refine ⟨fun f _ => hF f, ?_⟩
  rw [Oper.semAt_eq _ _ _ hd, hrun]
  refine ⟨(fun h => by rw [hdp] at h; cases h), hc.mono ?_⟩
  rintro e w'' ⟨v, rfl, hk⟩
  exact hk
theorem opIn_not_g {i j : Nat} {b c : Bool} {o : Oper} {a : Act} {w : World} {K : Act → World → Prop} (hi : ops[i]? = some o) (hg : o.guard = some (j, b)) (hy : yielded ops a.tmps j = some c) (hbc : c ≠ b) (hF : ∀ f, F.fn f)
    (hK : K (a.put o.dst undef) w) : wpOpIn F n P ops Q i K a w := by
  unfold wpOpIn
  simp only [hi]
  rw [if_neg (by simp [Region.wanted, hg, hy, hbc])]
  exact ⟨fun f _ => hF f, hK⟩
end
theorem wrn {a b d : Nat} (h : a = b + d) (hk : a ≤ 1000) : IntKind.i64.wrap ((a : Int) - (b : Int)) = (d : Int) := by
  rw [show (a : Int) - (b : Int) = (d : Int) from by omega]; exact IntWalk.i64_in _ (by omega)
theorem bdG_62 {k : Nat} (h : k < 5) : bdG 600000 k ≤ 200000000 := by
  have : k = 0 ∨ k = 1 ∨ k = 2 ∨ k = 3 ∨ k = 4 := by omega
  rcases this with rfl | rfl | rfl | rfl | rfl <;> decide
theorem bandsL_zero (g : Geo) (P : Nat → Nat → Int) (n : Nat) : (bandsL g P n)[0]? = some (lowest g P n) := bandsK_zero g P n n
theorem Drew.blw {w w' : World} (h : ∃ n, w' = w.drewN n) : Below w.heap.size w w' := by
  obtain ⟨n, rfl⟩ := h
  exact below_drewN (Below.refl _ _) n
/-- Join of what Split made. -/
theorem djoin_6 (g : Geo) (P : Nat → Nat → Int) (n res k L : Nat) (AB : Option Addr) (cB : Nat) (w : World) (hw : g.w ≤ 300 ∧ g.h ≤ 300) (hwh : g.w * g.h ≤ 1000) (hx : g.x ≤ 90000 ∧ g.y ≤ 90000) (hn : n ≤ 5) (hbd : Bd 600000 g.w g.h P) (hres : 1 ≤ res ∧ res + k = n + 1) (hL : (lowest g P k).length = L) (hrow : RowsI w AB (3 * n + 1) cB (bandsL g P n)) :
    Calls Try.prog 18 #[rectV g, .int .i64 (n : Int), .slice AB (3 * n + 1) cB, .int .i64 (res : Int)] w fun e w' => ∃ A' c', e = .returned (.slice A' L c') ∧ RowI w' A' L c' (lowest g P k) ∧ Below w.heap.size w w' := by
  subst hL
  have h := djoin_K g P 600000 n res AB cB w hw hwh hx hn (by decide) (fun k hk => bdG_62 (by omega)) hbd (by omega) hrow
  rw [show n + 1 - res = k from by omega] at h
  exact h
end Go.Proofs.Ytgadebfelomhpaa
