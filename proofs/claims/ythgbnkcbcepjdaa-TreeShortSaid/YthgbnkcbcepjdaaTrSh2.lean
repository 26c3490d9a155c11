/- Trees: TreeShort's counting, over both turns. -/
import Derived.Test.YthgbnkcbcepjdaaTrSh1
set_option linter.unusedVariables false
set_option linter.unusedSimpArgs false
namespace Go.Proofs.Ythgbnkcbcepjdaa
open Go.RowKit
theorem rowC_le (T : TT) (i : Nat) : ∀ M, rowC T i M ≤ M := by
  intro M
  induction M with
  | zero => exact Nat.le_refl 0
  | succ M ih => rw [rowC]; split <;> omega
theorem cntS_le (W H : Nat) (T : TT) : ∀ d, cntS W H T d ≤ cntA W H d := by
  intro d
  induction d with
  | zero => exact Nat.le_refl 0
  | succ d ih => rw [cntS, cntA]; have := rowC_le T d (dimF W d * dimF H d); omega
/-- j leaves have been asked for. -/
structure ShQ (W H d n j : Nat) (T : TT) (bs : List Int) : Prop where
  zero : j = 0 → Sd W H d n T ∧ (∀ i m, (T i m).low = 0 ∧ (T i m).said = false) ∧ bs = []
  pos : 0 < j → ShP W H d n T bs (fun k => k < j)
theorem ShQ.next {W H d n j k : Nat} {T : TT} {bs : List Int} (h : ShQ W H d n j T bs) (hd : 1 ≤ d) (hW : 1 ≤ W) (hk : k < W * H) (hj : k = j ∨ W * H ≤ j) (ht : dimF W (d - 1) = 1 ∧ dimF H (d - 1) = 1) :
    ShQ W H d n (j + 1) (encB ((n : Int) + 1) W d k bs T).2.1 (encB ((n : Int) + 1) W d k bs T).1 := by
  refine ⟨fun e => absurd e (by omega), fun _ => ?_⟩
  by_cases h0 : j = 0
  · obtain ⟨hS, hl, rfl⟩ := h.zero h0
    refine (sh_first hS hl hd hW hk).mono (fun k' hk' hlt => ?_)
    omega
  · refine (sh_next (h.pos (by omega)) (k0 := 0) ⟨by omega, by omega⟩ hd hW hk ht).mono (fun k' hk' hlt => ?_)
    omega
theorem ShQ.len {W H d n j : Nat} {T : TT} {bs : List Int} (h : ShQ W H d n j T bs) (hW : 1 ≤ W ∧ W ≤ 8) (hH : 1 ≤ H ∧ H ≤ 8) (hd : d ≤ 8) (hn : n ≤ 8) : bs.length ≤ 520 := by
  by_cases h0 : j = 0
  · obtain ⟨_, _, rfl⟩ := h.zero h0
    simp
  · have hb := (h.pos (by omega)).bits
    have h1 := cntS_le W H T d
    have h2 := (cntA_le hW hH d).1
    rw [hb, List.length_append, List.length_replicate, List.length_replicate]
    omega
theorem ShQ.all {W H d n j : Nat} {T : TT} {bs : List Int} (h : ShQ W H d n j T bs) (hW : 1 ≤ W) (hj : 0 < j) (hl : W * H ≤ j) : bs = List.replicate n 0 ++ List.replicate (cntA W H d) 1 :=
  ((h.pos hj).mono (fun k hk _ => by omega)).all hW
theorem ShQ.start {W H d n : Nat} {T : TT} (hS : SetOk W H d T) (hA : Att0 W H d T) (hT : ∀ m, m < W * H → (T 0 m).num = (n : Int)) : ShQ W H d n 0 T [] := by
  refine ⟨fun _ => ⟨fun i hi x y hx hy => ?_, fun i m => ⟨(hS.1 i m).1, (hS.1 i m).2.1⟩, rfl⟩, fun h => absurd h (by omega)⟩
  refine ⟨att_all hA hT i hi x y hx hy, by rw [(hS.1 _ _).1]; omega, by rw [(hS.1 _ _).1]; omega, fun h => ?_⟩
  rw [(hS.1 _ _).2.1] at h
  cases h
/-- How wide and high a level is, and how many nodes lie beneath it. -/
theorem lev_bd {W H d i c a b : Nat} (hW : 1 ≤ W ∧ W ≤ 8) (hH : 1 ≤ H ∧ H ≤ 8) (hd : d ≤ 8) (hi : i + 1 ≤ d) (hc : c = 1 + cntA W H i) (ha : a = dimF W i) (hb : b = dimF H i) : 1 ≤ a ∧ a ≤ 8 ∧ 1 ≤ b ∧ b ≤ 8 ∧ c ≤ 449 ∧ a * b ≤ 64 := by
  have h1 := dimF_le W i hW.1
  have h2 := dimF_le H i hH.1
  have h3 := (cntA_le hW hH i).1
  have h4 := (cntA_le hW hH i).2
  subst ha hb
  omega
end Go.Proofs.Ythgbnkcbcepjdaa
