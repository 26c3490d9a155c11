/- Trees: the bits that Encode writes, and reading them. -/
import Derived.Test.YthgbnkcbcepjdaaTrC
import Derived.Test.YthgbnkcbcepjdaaBitLock
import Derived.Test.YthgbnkcbcepjdaaBitNone
import Derived.Test.YthgbnkcbcepjdaaBitStuf
set_option linter.unusedVariables false
set_option linter.unusedSimpArgs false
namespace Go.Proofs.Ythgbnkcbcepjdaa
open Go.RowKit
section
variable {σ σ' : Type} {step : σ → Nd → Bool × Nd × σ} {step' : σ' → Nd → Bool × Nd × σ'} {f : σ' → σ}
theorem loopN_map (h : ∀ s nd, step (f s) nd = ((step' s nd).1, (step' s nd).2.1, f (step' s nd).2.2)) (bound : Int) : ∀ (F : Nat) (s : σ') (nd : Nd), loopN step bound F (f s, nd) = (f (loopN step' bound F (s, nd)).1, (loopN step' bound F (s, nd)).2) := by
  intro F
  induction F with
  | zero => intro s nd; rfl
  | succ F ih =>
    intro s nd
    by_cases hc : nd.low < bound ∧ nd.said = false
    · rw [loopN_go (x := (f s, nd)) hc, loopN_go (x := (s, nd)) hc]
      have : nxt step (f s, nd) = (f (nxt step' (s, nd)).1, (nxt step' (s, nd)).2) := by
        unfold nxt
        simp only [h]
      rw [this, ih]
    · rw [loopN_stop (x := (f s, nd)) hc, loopN_stop (x := (s, nd)) hc]
theorem walkT_map (h : ∀ s nd, step (f s) nd = ((step' s nd).1, (step' s nd).2.1, f (step' s nd).2.2)) (bound : Int) (F W0 x y : Nat) : ∀ (j : Nat) (s : σ') (T : TT) (lo : Int), walkT step bound F W0 x y j (f s, T, lo) = (f (walkT step' bound F W0 x y j (s, T, lo)).1, (walkT step' bound F W0 x y j (s, T, lo)).2) := by
  intro j
  induction j with
  | zero => intro s T lo; rfl
  | succ j ih =>
    intro s T lo
    rw [walkT, walkT]
    simp only [loopN_map h]
    rw [ih]
end
/-- The question, with the bits so far. -/
def estepB (bs : List Int) (nd : Nd) : Bool × Nd × List Int := (decide (nd.num ≤ nd.low), nd, bs ++ [if nd.low < nd.num then 0 else 1])
def encB (bound : Int) (W0 d k : Nat) (bs : List Int) (T : TT) : List Int × TT × Int := walkT estepB bound (bound.toNat + 2) W0 (k % W0) (k / W0) d (bs, T, 0)
theorem encM_B (bound : Int) (W0 d k : Nat) (bs : List Int) (T : TT) : encM bound W0 d k (wrun bs) T = (wrun (encB bound W0 d k bs T).1, (encB bound W0 d k bs T).2) :=
  walkT_map (f := wrun) (fun s nd => by simp [estep, estepB, wrun_snoc]) bound _ W0 _ _ d bs T 0
/-- What the loop at one node does. -/
theorem loopE (bs : List Int) (num b : Int) : ∀ (F : Nat) (low : Int), low ≤ num → (b - low).toNat + 1 ≤ F → loopN estepB b F (bs, ⟨num, low, false⟩) =
    if num < b then (bs ++ List.replicate (num - low).toNat 0 ++ [1], ⟨num, num, true⟩) else (bs ++ List.replicate (b - low).toNat 0, ⟨num, if low < b then b else low, false⟩) := by
  intro F
  induction F generalizing bs with
  | zero => intro low h1 h2; omega
  | succ F ih =>
    intro low h1 h2
    by_cases hb : low < b
    · rw [loopN_go (x := (bs, ⟨num, low, false⟩)) ⟨hb, rfl⟩]
      by_cases hn : low < num
      · have hx : nxt estepB (bs, ⟨num, low, false⟩) = (bs ++ [0], ⟨num, low + 1, false⟩) := by
          unfold nxt estepB
          rw [show decide (num ≤ low) = false by simp; omega]
          simp [hn]
        rw [hx, ih (bs ++ [0]) (low + 1) (by omega) (by omega)]
        have e1 : (num - low).toNat = (num - (low + 1)).toNat + 1 := by omega
        have e2 : (b - low).toNat = (b - (low + 1)).toNat + 1 := by omega
        by_cases hnb : num < b
        · rw [if_pos hnb, if_pos hnb, e1, List.replicate_succ]
          simp
        · rw [if_neg hnb, if_neg hnb, e2, List.replicate_succ, if_pos hb]
          by_cases hb2 : low + 1 < b
          · rw [if_pos hb2]; simp
          · rw [if_neg hb2, show low + 1 = b by omega]; simp
      · have hx : nxt estepB (bs, ⟨num, low, false⟩) = (bs ++ [1], ⟨num, low, true⟩) := by
          unfold nxt estepB
          rw [show decide (num ≤ low) = true by simp; omega]
          simp [hn]
        rw [hx, loopN_stop (by simp)]
        have : num = low := by omega
        subst this
        rw [if_pos hb, Int.sub_self]
        simp
    · rw [loopN_stop (by simp [hb]), if_neg (by omega), if_neg hb, show (b - low).toNat = 0 by omega]
      simp
theorem loopE_said {σ : Type} (step : σ → Nd → Bool × Nd × σ) (s : σ) (num b low : Int) (F : Nat) : loopN step b F (s, ⟨num, low, true⟩) = (s, ⟨num, low, true⟩) := loopN_stop (by simp) F
/-- A Reader of what was written. -/
theorem bytes_get {bs : List Int} : ∀ i, i < (wrun bs).1.length → (bytesF (wrun bs).1).getD i 0 = (wrun bs).1.getD i 0 := by
  intro i hi
  unfold bytesF
  split
  · exact getD_app hi
  · rfl
theorem read_bit {a t : List Int} {b : Int} : rsnext (bytesF (wrun (a ++ b :: t)).1) (bat a) = bat (a ++ [b]) ∧ rsbit (bytesF (wrun (a ++ b :: t)).1) (bat a) = b % 2 := blockstep bytes_get
theorem bat_nil : bat [] = ⟨0, 0, false⟩ := rfl
/-- Where all bits have been read the Reader is at the end. -/
theorem end_at (bs : List Int) : endK (bytesF (wrun bs).1) (bat bs) = (bytesF (wrun bs).1).length ∧ endE (bytesF (wrun bs).1) (bat bs) = 0 := by
  have hN : endN (bytesF (wrun bs).1) (bat bs) = (bytesF (wrun bs).1).length ∧ endBad (bytesF (wrun bs).1) (bat bs) = false := by
    unfold endN endBad bat
    simp only
    by_cases h0 : (wrun bs).1 = []
    · rw [h0]; exact ⟨rfl, rfl⟩
    · have hl := List.length_pos_iff.2 h0
      rw [curF_pos _ hl, bytes_get _ (by omega)]
      have hlast : (wrun bs).1.getD ((wrun bs).1.length - 1) 0 = (wrun bs).1.getLastD 0 := by
        rw [List.getD_eq_getElem?_getD, last_get h0]; rfl
      rw [hlast]
      unfold bytesF
      by_cases h1 : (wrun bs).1.getLastD 0 = 255
      · rw [if_pos h1, if_pos h1]
        refine ⟨by simp, ?_⟩
        simp
      · rw [if_neg h1, if_neg h1]
        refine ⟨rfl, ?_⟩
        simp only [h1, decide_false, Bool.false_and, Bool.or_false]
  unfold endK endE
  rw [hN.1, hN.2]
  simp
theorem bytes_ok (bs : List Int) : (∀ x ∈ bytesF (wrun bs).1, 0 ≤ x ∧ x ≤ 255) ∧ (bytesF (wrun bs).1).length ≤ bs.length + 1 := by
  have h := bytesF_ok (wrun_ok bs)
  have h2 := wfold_len (s := ([], 0)) (by simpa [wrun] using wrun_ok []) bs
  have h3 : (wrun bs).1.length ≤ bs.length := by simpa [wrun, wfold] using h2
  exact ⟨h.2.2.1, by omega⟩
end Go.Proofs.Ythgbnkcbcepjdaa
