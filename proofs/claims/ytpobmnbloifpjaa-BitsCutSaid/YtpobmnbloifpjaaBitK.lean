/- A row of bytes that is cut, and one with a bit where there must be none, as plain arithmetic. -/
import Derived.Test.YtpobmnbloifpjaaBitBack2
set_option linter.unusedVariables false
namespace Go.Proofs.Ytpobmnbloifpjaa
open Go.RowKit

/-- So many bits on. -/
def rit (F : List Int) (s : RS) : Nat → RS
  | 0 => s
  | k + 1 => rsnext F (rit F s k)
theorem rbgo_rit (F : List Int) (s : RS) (k : Nat) : (rbgo F s k).1 = rit F s k := by
  induction k with
  | zero => rfl
  | succ k ih => show rsnext F (rbgo F s k).1 = rsnext F (rit F s k); rw [ih]
theorem rit_add (F : List Int) (s : RS) (a b : Nat) : rit F (rit F s a) b = rit F s (a + b) := by
  induction b with
  | zero => rfl
  | succ b ih => show rsnext F (rit F (rit F s a) b) = rsnext F (rit F s (a + b)); rw [ih]
theorem rit_mono (F : List Int) (s : RS) (k j : Nat) (h : k ≤ j) : (rit F s k).n ≤ (rit F s j).n := by
  induction j with
  | zero => obtain rfl : k = 0 := by omega
            exact Nat.le_refl _
  | succ j ih =>
    rcases Nat.lt_or_ge k (j + 1) with h1 | h1
    · refine Nat.le_trans (ih (by omega)) ?_
      show (rit F s j).n ≤ (pstep F ((rit F s j).n, (rit F s j).l)).1
      unfold pstep
      split <;> simp
    · obtain rfl : k = j + 1 := by omega
      exact Nat.le_refl _
/-- Two rows have their 255s in the same of the first N places. -/
def Flag (N : Nat) (F G : List Int) : Prop := ∀ i, i < N → (F.getD i 0 = 255 ↔ G.getD i 0 = 255)
theorem flag_cur {N : Nat} {F G : List Int} (h : Flag N F G) {n : Nat} (hn : n ≤ N) : curF F n = 255 ↔ curF G n = 255 := by
  unfold curF
  by_cases h0 : n = 0
  · rw [if_pos h0, if_pos h0]
  · rw [if_neg h0, if_neg h0]
    exact h _ (by omega)
theorem flag_path {N : Nat} {F G : List Int} (h : Flag N F G) (k : Nat) (hn : (rit F ⟨0, 0, false⟩ k).n ≤ N) :
    (rit F ⟨0, 0, false⟩ k).n = (rit G ⟨0, 0, false⟩ k).n ∧ (rit F ⟨0, 0, false⟩ k).l = (rit G ⟨0, 0, false⟩ k).l := by
  induction k with
  | zero => exact ⟨rfl, rfl⟩
  | succ k ih =>
    have hm := rit_mono F ⟨0, 0, false⟩ k (k + 1) (by omega)
    obtain ⟨e1, e2⟩ := ih (by omega)
    have hc := flag_cur h (n := (rit F ⟨0, 0, false⟩ k).n) (by omega)
    show (pstep F ((rit F ⟨0, 0, false⟩ k).n, (rit F ⟨0, 0, false⟩ k).l)).1 = (pstep G ((rit G ⟨0, 0, false⟩ k).n, (rit G ⟨0, 0, false⟩ k).l)).1 ∧ (pstep F ((rit F ⟨0, 0, false⟩ k).n, (rit F ⟨0, 0, false⟩ k).l)).2 = (pstep G ((rit G ⟨0, 0, false⟩ k).n, (rit G ⟨0, 0, false⟩ k).l)).2
    rw [← e1, ← e2]
    generalize (rit F ⟨0, 0, false⟩ k).n = n at *
    generalize (rit F ⟨0, 0, false⟩ k).l = l at *
    unfold pstep
    by_cases h0 : l = 0
    · rw [if_pos h0, if_pos h0]
      by_cases h5 : curF F n = 255
      · rw [if_pos h5, if_pos (hc.1 h5)]; exact ⟨rfl, rfl⟩
      · rw [if_neg h5, if_neg (fun h => h5 (hc.2 h))]; exact ⟨rfl, rfl⟩
    · rw [if_neg h0, if_neg h0]; exact ⟨rfl, rfl⟩
/-- All bits of a row are read: the Reader stands at the Writer's end. -/
theorem rit_all (F : List Int) (bs : List Int) (hF : ∀ i, i < (wrun bs).1.length → F.getD i 0 = (wrun bs).1.getD i 0) : rit F ⟨0, 0, false⟩ bs.length = bat bs := by
  have key : ∀ k, k ≤ bs.length → rit F ⟨0, 0, false⟩ k = bat (bs.take k) := by
    intro k
    induction k with
    | zero => intro _; rfl
    | succ k ih =>
      intro hk
      show rsnext F (rit F ⟨0, 0, false⟩ k) = _
      rw [ih (by omega)]
      have hsp : bs = bs.take k ++ bs[k] :: bs.drop (k + 1) := by rw [List.getElem_cons_drop, List.take_append_drop]
      have := (blockstep (a := bs.take k) (b := bs[k]) (t := bs.drop (k + 1)) (F := F) (by rw [← hsp]; exact hF)).1
      rw [this, List.take_succ_eq_append_getElem (by omega)]
  have := key bs.length (Nat.le_refl _)
  rwa [List.take_length] at this
theorem bytesF_form (T : List Int) : (bytesF T = T ++ [0] ∧ T.getLastD 0 = 255 ∧ T ≠ []) ∨ (bytesF T = T ∧ T.getLastD 0 ≠ 255) := by
  unfold bytesF
  by_cases h : T.getLastD 0 = 255
  · rw [if_pos h]; exact Or.inl ⟨rfl, h, by intro e; subst e; exact absurd h (by decide)⟩
  · rw [if_neg h]; exact Or.inr ⟨rfl, h⟩
theorem last_getD {T : List Int} (h : T ≠ []) : T.getD (T.length - 1) 0 = T.getLastD 0 := by
  rw [List.getD_eq_getElem?_getD, last_get h]; rfl
/-- A row that is cut is found so. -/
theorem cut_end (bs : List Int) (k : Nat) (hk : k < (bytesF (wrun bs).1).length) :
    endK ((bytesF (wrun bs).1).take k) (rit ((bytesF (wrun bs).1).take k) ⟨0, 0, false⟩ bs.length) = 0 ∧ endE ((bytesF (wrun bs).1).take k) (rit ((bytesF (wrun bs).1).take k) ⟨0, 0, false⟩ bs.length) = 8 := by
  have hall := rit_all (bytesF (wrun bs).1) bs (fun i hi => bytesF_get hi)
  generalize hT : (wrun bs).1 = T at *
  have hlen : ((bytesF T).take k).length = k := by rw [List.length_take]; omega
  have hbat : (bat bs).n = T.length := by rw [← hT]; rfl
  have key : ((bytesF T).take k).length < endN ((bytesF T).take k) (rit ((bytesF T).take k) ⟨0, 0, false⟩ bs.length) := by
    rw [hlen]
    rcases Nat.lt_or_ge k (endN ((bytesF T).take k) (rit ((bytesF T).take k) ⟨0, 0, false⟩ bs.length)) with h | h
    · exact h
    · exfalso
      have hflag : Flag k ((bytesF T).take k) (bytesF T) := fun i hi => by
        simp only [List.getD_eq_getElem?_getD, List.getElem?_take, if_pos hi]
      have hn : (rit ((bytesF T).take k) ⟨0, 0, false⟩ bs.length).n ≤ k := by
        unfold endN at h
        split at h <;> omega
      have hp := (flag_path hflag bs.length hn).1
      rw [hall, hbat] at hp
      rw [hp] at hn
      rcases bytesF_form T with ⟨h1, h2, h3⟩ | ⟨h1, _⟩
      · rw [h1, List.length_append] at hk
        simp at hk
        obtain rfl : k = T.length := by omega
        have hTl := List.length_pos_iff.2 h3
        have : curF ((bytesF T).take T.length) T.length = 255 := by
          rw [curF_pos _ hTl, h1, List.take_left' rfl, last_getD h3, h2]
        unfold endN at h
        rw [hp, if_pos this] at h
        omega
      · rw [h1] at hk; omega
  unfold endK endE
  rw [if_pos key, if_pos key]
  exact ⟨rfl, rfl⟩
/-- A bit where there must be none is found. -/
theorem bad_end (bs : List Int) (j : Nat) (h1 : 1 ≤ j) (hj : j < (bytesF (wrun bs).1).length) (h255 : (bytesF (wrun bs).1).getD (j - 1) 0 = 255) (h127 : (bytesF (wrun bs).1).getD j 0 ≠ 127) :
    endE ((bytesF (wrun bs).1).set j ((bytesF (wrun bs).1).getD j 0 + 128)) (rit ((bytesF (wrun bs).1).set j ((bytesF (wrun bs).1).getD j 0 + 128)) ⟨0, 0, false⟩ bs.length) = 10 := by
  have hall := rit_all (bytesF (wrun bs).1) bs (fun i hi => bytesF_get hi)
  have hok := bytesF_ok (wrun_ok bs)
  have hend := end_back bs []
  rw [List.append_nil] at hend
  generalize hT : (wrun bs).1 = T at *
  have hbat : (bat bs).n = T.length := by rw [← hT]; rfl
  have hle : (bytesF T).getD j 0 ≤ 127 := by
    have := hok.1 (j - 1) h255 (by omega)
    rwa [show j - 1 + 1 = j from by omega] at this
  have hge : 0 ≤ (bytesF T).getD j 0 := (hok.2.2.1 _ (by rw [List.getD_eq_getElem?_getD, List.getElem?_eq_getElem hj]; exact List.getElem_mem _)).1
  generalize hF : bytesF T = F at *
  generalize hv : F.getD j 0 = v at *
  have g1 : (F.set j (v + 128)).getD j 0 = v + 128 := by simp only [List.getD_eq_getElem?_getD, List.getElem?_set_self hj, Option.getD_some]
  have g2 : ∀ i, i ≠ j → (F.set j (v + 128)).getD i 0 = F.getD i 0 := fun i hi => by simp only [List.getD_eq_getElem?_getD, List.getElem?_set_ne (Ne.symm hi)]
  have hflag : ∀ N, Flag N (F.set j (v + 128)) F := fun N i _ => by
    by_cases hi : i = j
    · subst hi; rw [g1, hv]; constructor <;> intro h <;> omega
    · rw [g2 i hi]
  have hpath := fun k => flag_path (hflag _) k (Nat.le_refl _)
  have hbad : ∀ k, j + 1 ≤ (rit (F.set j (v + 128)) ⟨0, 0, false⟩ k).n → (rit (F.set j (v + 128)) ⟨0, 0, false⟩ k).bad = true := by
    intro k
    induction k with
    | zero => intro h; exact absurd h (by show ¬ j + 1 ≤ 0; omega)
    | succ k ih =>
      intro h
      change j + 1 ≤ (rsnext (F.set j (v + 128)) (rit (F.set j (v + 128)) ⟨0, 0, false⟩ k)).n at h
      show (rsnext (F.set j (v + 128)) (rit (F.set j (v + 128)) ⟨0, 0, false⟩ k)).bad = true
      generalize rit (F.set j (v + 128)) ⟨0, 0, false⟩ k = s at *
      obtain ⟨n, l, bad⟩ := s
      by_cases hn : j + 1 ≤ n
      · have := ih hn
        simp only at this
        subst this
        unfold rsnext
        simp
      · unfold rsnext pstep at h
        by_cases hl : l = 0
        · subst hl
          simp only [if_true] at h
          obtain rfl : n = j := by omega
          unfold rsnext pstep
          simp only [if_true, decide_true, Bool.true_and]
          rw [curF_succ, g1, curF_pos _ (by omega), g2 _ (by omega), h255, decide_eq_true (show (255 : Int) = 255 from rfl), decide_eq_true (show (128 : Int) ≤ v + 128 by omega)]
          simp
        · simp only [if_neg hl] at h
          omega
  have hpn := (hpath bs.length).1
  rw [hall, hbat] at hpn
  have hcur := flag_cur (hflag T.length) (n := T.length) (Nat.le_refl _)
  have hN : endN (F.set j (v + 128)) (rit (F.set j (v + 128)) ⟨0, 0, false⟩ bs.length) = endN F (bat bs) := by
    unfold endN
    rw [hpn, hbat]
    by_cases h : curF F T.length = 255
    · rw [if_pos h, if_pos (hcur.2 h)]
    · rw [if_neg h, if_neg (fun e => h (hcur.1 e))]
  have hNle : ¬ F.length < endN F (bat bs) := by
    intro h
    have := hend.2
    unfold endE at this
    rw [if_pos h] at this
    exact absurd this (by decide)
  have hB : endBad (F.set j (v + 128)) (rit (F.set j (v + 128)) ⟨0, 0, false⟩ bs.length) = true := by
    unfold endBad
    rw [hpn]
    rcases Nat.lt_or_ge j T.length with h | h
    · rw [hbad bs.length (by rw [hpn]; omega)]; rfl
    · rcases bytesF_form T with ⟨e1, e2, e3⟩ | ⟨e1, _⟩
      · rw [hF] at e1
        have hjT : j = T.length := by
          have hj' := hj
          rw [e1, List.length_append] at hj'
          simp at hj'
          omega
        rw [hjT] at g1
        have hc : curF (F.set j (v + 128)) T.length = 255 := by
          rw [curF_pos _ (by omega), g2 _ (by omega), ← hjT]; exact h255
        rw [hc, ← hjT, show (F.set j (v + 128)).getD j 0 = v + 128 from by rw [hjT]; exact g1]
        rw [decide_eq_true (show (255 : Int) = 255 from rfl), decide_eq_true (show (128 : Int) ≤ v + 128 by omega)]
        simp
      · rw [hF] at e1
        rw [e1] at hj; omega
  unfold endE
  rw [hN, List.length_set, if_neg hNle, if_pos hB]
end Go.Proofs.Ytpobmnbloifpjaa
