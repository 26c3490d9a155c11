/- The Reader of package bits goes along the Writer, as plain arithmetic. -/
import Derived.Test.YthgbnkcbcepjdaaBitNone
set_option linter.unusedVariables false
namespace Go.Proofs.Ythgbnkcbcepjdaa
open Go.RowKit

/-- T is a later state of the writer than S. -/
structure Ext (S T : List Int × Nat) : Prop where
  len : S.1.length ≤ T.1.length
  pre : ∀ (i : Nat), i + 1 < S.1.length → T.1[i]? = S.1[i]?
  cur : ∀ x y : Int, S.1[S.1.length - 1]? = some x → T.1[S.1.length - 1]? = some y → y / 2 ^ S.2 = x / 2 ^ S.2
  fr : S.1.length = T.1.length → T.2 ≤ S.2
theorem Ext.refl (S : List Int × Nat) : Ext S S := ⟨Nat.le_refl _, fun _ _ => rfl, fun x y h k => by rw [h] at k; injection k with k; rw [k], fun _ => Nat.le_refl _⟩

theorem div_same {v e : Int} {t s : Nat} (ht : 0 < t) (hts : t ≤ s) (hv : v % 2 ^ t = 0) (he0 : 0 ≤ e) (he1 : e ≤ 2 ^ (t - 1)) : (v + e) / 2 ^ s = v / 2 ^ s := by
  obtain ⟨d, rfl⟩ : ∃ d, s = t + d := ⟨s - t, by omega⟩
  obtain ⟨f, rfl⟩ : ∃ f, t = f + 1 := ⟨t - 1, by omega⟩
  rw [show f + 1 - 1 = f from rfl] at he1
  have p1 := pow_pos' f
  have ps := pow_succ' f
  have sp := split_pow hv
  rw [Int.pow_add, ← Int.ediv_ediv_of_nonneg (by omega), ← Int.ediv_ediv_of_nonneg (by omega)]
  congr 1
  rw [sp]
  generalize v / 2 ^ (f + 1) = q at *
  rw [Int.add_comm (q * 2 ^ (f + 1)) e, Int.add_mul_ediv_right _ _ (by omega), Int.mul_ediv_cancel _ (by omega), Int.ediv_eq_zero_of_lt he0 (by omega)]
  omega

theorem Ext.step {S T : List Int × Nat} (h : Ext S T) (ok : WOk T) (hS : S.1 ≠ []) (b : Int) : Ext S (wstep T b) := by
  have hb := Int.emod_nonneg b (show (2 : Int) ≠ 0 by omega)
  have hb2 := Int.emod_lt_of_pos b (show (0 : Int) < 2 by omega)
  have hSl := List.length_pos_iff.2 hS
  have hl := h.len
  unfold wstep
  by_cases h0 : T.2 = 0
  · rw [if_pos h0]
    refine ⟨by simp; omega, ?_, ?_, ?_⟩
    · intro i hi
      show (T.1 ++ [_])[i]? = _
      rw [List.getElem?_append_left (by omega)]
      exact h.pre i hi
    · intro x y hx hy
      change (T.1 ++ [_])[S.1.length - 1]? = some y at hy
      rw [List.getElem?_append_left (by omega)] at hy
      exact h.cur x y hx hy
    · intro e
      simp at e
      omega
  · rw [if_neg h0]
    have hne : T.1 ≠ [] := fun e => h0 (ok.none e)
    have hlast := last_of hne
    have hlow := ok.low
    have hdl : T.1.dropLast.length = T.1.length - 1 := List.length_dropLast
    have hTl := List.length_pos_iff.2 hne
    refine ⟨by simp; omega, ?_, ?_, ?_⟩
    · intro i hi
      show (T.1.dropLast ++ [_])[i]? = _
      rw [List.getElem?_append_left (by omega), ← h.pre i hi]
      conv => rhs; rw [hlast]
      rw [List.getElem?_append_left (by omega)]
    · intro x y hx hy
      change (T.1.dropLast ++ [_])[S.1.length - 1]? = some y at hy
      by_cases hsame : S.1.length = T.1.length
      · rw [List.getElem?_append_right (by omega), show S.1.length - 1 - T.1.dropLast.length = 0 from by omega] at hy
        change some (T.1.getLastD 0 + b % 2 * 2 ^ (T.2 - 1)) = some y at hy
        injection hy with hy
        have hT : T.1[S.1.length - 1]? = some (T.1.getLastD 0) := by
          conv => lhs; rw [hlast]
          rw [List.getElem?_append_right (by omega), show S.1.length - 1 - T.1.dropLast.length = 0 from by omega]; rfl
        rw [← h.cur x _ hx hT, ← hy]
        have p1 := pow_pos' (T.2 - 1)
        refine div_same (t := T.2) (e := b % 2 * 2 ^ (T.2 - 1)) (by omega) (h.fr hsame) hlow (Int.mul_nonneg hb (by omega)) ?_
        have : b % 2 * 2 ^ (T.2 - 1) ≤ 1 * 2 ^ (T.2 - 1) := Int.mul_le_mul_of_nonneg_right (by omega) (by omega)
        omega
      · rw [List.getElem?_append_left (by omega)] at hy
        refine h.cur x y hx ?_
        rw [hlast, List.getElem?_append_left (by omega)]
        exact hy
    · intro e
      simp at e
      show T.2 - 1 ≤ S.2
      have := h.fr (by omega)
      omega
theorem wstep_ne (s : List Int × Nat) (b : Int) : (wstep s b).1 ≠ [] := by
  unfold wstep; split <;> simp
theorem Ext.run {S : List Int × Nat} (hS : S.1 ≠ []) : ∀ (bs : List Int) (T : List Int × Nat), Ext S T → WOk T → Ext S (bs.foldl wstep T) := by
  intro bs
  induction bs with
  | nil => intro T h _; exact h
  | cons b bs ih => intro T h ok; exact ih _ (h.step ok hS b) (ok.step b)
theorem last_get {l : List Int} (h : l ≠ []) : l[l.length - 1]? = some (l.getLastD 0) := by
  rw [List.getLastD_eq_getLast?, ← List.getLast?_eq_getElem?, List.getLast?_eq_some_getLast h]; rfl

theorem wrun_app (a t : List Int) : wrun (a ++ t) = t.foldl wstep (wrun a) := by unfold wrun; rw [List.foldl_append]
theorem wrun_ne {bs : List Int} (h : bs ≠ []) : (wrun bs).1 ≠ [] := by
  rw [show bs = bs.dropLast ++ [bs.getLastD 0] from last_of h, wrun_snoc]
  exact wstep_ne _ _
theorem ext_app {a : List Int} (ha : a ≠ []) (t : List Int) : Ext (wrun a) (wrun (a ++ t)) := by
  rw [wrun_app]
  exact Ext.run (wrun_ne ha) _ _ (Ext.refl _) (wrun_ok _)
/-- Where the Reader stands when the bits a have been read. -/
def bat (a : List Int) : RS := ⟨(wrun a).1.length, (wrun a).2, false⟩
theorem bat_rng (a : List Int) : (bat a).l ≤ 8 ∧ (bat a).n ≤ a.length := by
  have := (wrun_ok a).free
  have h2 := wfold_len (s := ([], 0)) (by simpa [wrun] using wrun_ok []) a
  refine ⟨?_, ?_⟩
  · show (wrun a).2 ≤ 8; omega
  · show (wrun a).1.length ≤ a.length
    simpa [wrun, wfold] using h2
theorem curF_succ (F : List Int) (n : Nat) : curF F (n + 1) = F.getD n 0 := by
  unfold curF; rw [if_neg (by omega)]; rfl
theorem curF_pos (F : List Int) {n : Nat} (h : 0 < n) : curF F n = F.getD (n - 1) 0 := by
  unfold curF; rw [if_neg (by omega)]

theorem blockstep {a t F : List Int} {b : Int} (hF : ∀ i, i < (wrun (a ++ b :: t)).1.length → F.getD i 0 = (wrun (a ++ b :: t)).1.getD i 0) :
    rsnext F (bat a) = bat (a ++ [b]) ∧ rsbit F (bat a) = b % 2 := by
  have hstep : wrun (a ++ [b]) = wstep (wrun a) b := wrun_snoc a b
  have E1 : Ext (wrun (a ++ [b])) (wrun (a ++ b :: t)) := by
    have := ext_app (a := a ++ [b]) (by simp) t
    rwa [List.append_assoc, List.singleton_append] at this
  have okF := wrun_ok (a ++ b :: t)
  have ok := wrun_ok a
  have hb := Int.emod_nonneg b (show (2 : Int) ≠ 0 by omega)
  have hb2 := Int.emod_lt_of_pos b (show (0 : Int) < 2 by omega)
  have at_ : ∀ S : List Int × Nat, S.1 ≠ [] → Ext S (wrun (a ++ b :: t)) → F.getD (S.1.length - 1) 0 / 2 ^ S.2 = S.1.getLastD 0 / 2 ^ S.2 := by
    intro S hS hE
    have hp := List.length_pos_iff.2 hS
    have hlen := hE.len
    obtain ⟨y, hy⟩ : ∃ y, (wrun (a ++ b :: t)).1[S.1.length - 1]? = some y := ⟨_, List.getElem?_eq_getElem (by omega)⟩
    rw [hF _ (by omega)]
    have : (wrun (a ++ b :: t)).1.getD (S.1.length - 1) 0 = y := by rw [List.getD_eq_getElem?_getD, hy]; rfl
    rw [this]
    exact hE.cur _ y (last_get hS) hy
  have hne1 : (wrun (a ++ [b])).1 ≠ [] := by rw [hstep]; exact wstep_ne _ _
  have hp1 := List.length_pos_iff.2 hne1
  have A1 := at_ _ hne1 E1
  have hlen1 := E1.len
  have p1 : pstep F ((wrun a).1.length, (wrun a).2) = ((wrun (a ++ [b])).1.length, (wrun (a ++ [b])).2) ∧ ((wrun a).2 = 0 → curF F (wrun a).1.length = (wrun a).1.getLastD 0) := by
    have A0 : (wrun a).2 = 0 → curF F (wrun a).1.length = (wrun a).1.getLastD 0 := by
      intro hz
      by_cases ha : a = []
      · subst ha; rfl
      · have hne := wrun_ne ha
        have hp := List.length_pos_iff.2 hne
        have A0 := at_ _ hne (ext_app ha _)
        rw [hz, Int.pow_zero, Int.ediv_one, Int.ediv_one] at A0
        rw [curF_pos F hp]
        exact A0
    refine ⟨?_, A0⟩
    rw [hstep]
    unfold pstep wstep
    by_cases hz : (wrun a).2 = 0
    · rw [if_pos hz, if_pos hz]
      show ((wrun a).1.length + 1, (if curF F (wrun a).1.length = 255 then 7 else 8) - 1) = ((_ ++ [_]).length, wnew _ - 1)
      rw [A0 hz, List.length_append]
      rfl
    · rw [if_neg hz, if_neg hz]
      have ha : a ≠ [] := by intro e; subst e; exact hz rfl
      have hp := List.length_pos_iff.2 (wrun_ne ha)
      show ((wrun a).1.length, (wrun a).2 - 1) = ((_ ++ [_]).length, _ - 1)
      rw [List.length_append, List.length_dropLast]
      rw [show ([(wrun a).1.getLastD 0 + b % 2 * 2 ^ ((wrun a).2 - 1)] : List Int).length = 1 from rfl, Nat.sub_add_cancel hp]
  have hnext : rsnext F (bat a) = bat (a ++ [b]) := by
    unfold rsnext bat
    simp only
    rw [p1.1]
    simp only [Bool.false_or]
    congr 1
    by_cases hz : (wrun a).2 = 0
    · by_cases h255 : curF F (wrun a).1.length = 255
      · have hl : (wrun (a ++ [b])).1.length = (wrun a).1.length + 1 := by rw [hstep]; unfold wstep; rw [if_pos hz]; simp
        have h2 := h255
        have hp : 0 < (wrun a).1.length := by
          rcases Nat.eq_zero_or_pos (wrun a).1.length with h | h
          · rw [h] at h255; exact absurd h255 (by rw [show curF F 0 = 0 from rfl]; decide)
          · exact h
        rw [curF_pos F hp, hF _ (by omega)] at h2
        have h3 := okF.behind ((wrun a).1.length - 1) (by
          rw [List.getElem?_eq_getElem (by omega)]
          rw [List.getD_eq_getElem?_getD, List.getElem?_eq_getElem (by omega)] at h2
          exact congrArg some h2) ((wrun (a ++ b :: t)).1.getD (wrun a).1.length 0) (by
          rw [show (wrun a).1.length - 1 + 1 = (wrun a).1.length from by omega, List.getD_eq_getElem?_getD, List.getElem?_eq_getElem (by omega)]; rfl)
        rw [hl, curF_succ, hF _ (by omega)]
        have : decide (128 ≤ (wrun (a ++ b :: t)).1.getD (wrun a).1.length 0) = false := decide_eq_false (by omega)
        rw [this, Bool.and_false]
      · rw [decide_eq_false h255, Bool.and_false, Bool.false_and]
    · rw [decide_eq_false hz, Bool.false_and, Bool.false_and]
  refine ⟨hnext, ?_⟩
  unfold rsbit
  rw [hnext]
  show curF F (wrun (a ++ [b])).1.length / 2 ^ (wrun (a ++ [b])).2 % 2 = b % 2
  rw [curF_pos F hp1, A1, hstep]
  unfold wstep
  by_cases hz : (wrun a).2 = 0
  · rw [if_pos hz]
    show (_ ++ [_]).getLastD 0 / 2 ^ (wnew _ - 1) % 2 = b % 2
    have p1 := pow_pos' (wnew (wrun a).1 - 1)
    rw [lastD_snoc, Int.mul_ediv_cancel _ (by omega)]
    omega
  · rw [if_neg hz]
    obtain ⟨f, hf⟩ : ∃ f, (wrun a).2 = f + 1 := ⟨(wrun a).2 - 1, by omega⟩
    have hlow := ok.low
    rw [hf] at hlow ⊢
    show (_ ++ [_]).getLastD 0 / 2 ^ (f + 1 - 1) % 2 = b % 2
    rw [lastD_snoc, show f + 1 - 1 = f from rfl]
    have p1 := pow_pos' f
    have ps := pow_succ' f
    have sp := split_pow hlow
    rw [sp]
    generalize (wrun a).1.getLastD 0 / 2 ^ (f + 1) = q at *
    rw [ps, show q * (2 * 2 ^ f) + b % 2 * 2 ^ f = (2 * q + b % 2) * 2 ^ f from by rw [Int.add_mul, Int.mul_comm 2 q, Int.mul_assoc], Int.mul_ediv_cancel _ (by omega)]
    omega

/-- A number is read as it was written. -/
theorem read_num {a t F : List Int} {n : Int} {size : Nat} (hF : ∀ i, i < (wrun (a ++ bitsOf n size ++ t)).1.length → F.getD i 0 = (wrun (a ++ bitsOf n size ++ t)).1.getD i 0) :
    rbgo F (bat a) size = (bat (a ++ bitsOf n size), n % 2 ^ size) := by
  suffices H : ∀ j, j ≤ size → rbgo F (bat a) j = (bat (a ++ (bitsOf n size).take j), n / 2 ^ (size - j) % 2 ^ j) by
    have := H size (Nat.le_refl _)
    rw [List.take_of_length_le (by rw [bitsOf_len]; exact Nat.le_refl _), Nat.sub_self, Int.pow_zero, Int.ediv_one] at this
    exact this
  intro j
  induction j with
  | zero =>
    intro _
    show (bat a, (0 : Int)) = _
    rw [List.take_zero, List.append_nil, Int.pow_zero, Int.emod_one]
  | succ j ih =>
    intro hj
    have e0 := ih (by omega)
    have htk := bitsOf_take (n := n) (size := size) (i := j) (by omega)
    have hdr : bitsOf n size = (bitsOf n size).take j ++ n / 2 ^ (size - 1 - j) :: (bitsOf n size).drop (j + 1) := by
      conv => lhs; rw [← List.take_append_drop (j + 1) (bitsOf n size), htk]
      rw [List.append_assoc, List.singleton_append]
    have hall : a ++ bitsOf n size ++ t = (a ++ (bitsOf n size).take j) ++ n / 2 ^ (size - 1 - j) :: ((bitsOf n size).drop (j + 1) ++ t) := by
      conv => lhs; rw [hdr]
      simp
    rw [hall] at hF
    obtain ⟨e1, e2⟩ := blockstep hF
    show (rsnext F (rbgo F (bat a) j).1, 2 * (rbgo F (bat a) j).2 + rsbit F (rbgo F (bat a) j).1) = _
    rw [e0]
    simp only
    rw [e1, e2, htk, List.append_assoc]
    congr 1
    obtain ⟨d, hd⟩ : ∃ d, size - (j + 1) = d := ⟨_, rfl⟩
    rw [show size - 1 - j = d from by omega, show size - j = d + 1 from by omega, hd]
    have pd := pow_pos' d
    rw [Int.pow_succ, ← Int.ediv_ediv_of_nonneg (by omega)]
    generalize n / 2 ^ d = m
    rw [pow_succ']
    have pj := pow_pos' j
    have h1 := Int.mul_ediv_add_emod m 2
    have h2 := Int.mul_ediv_add_emod (m / 2) (2 ^ j)
    have h3 := Int.emod_nonneg (m / 2) (show (2 : Int) ^ j ≠ 0 by omega)
    have h4 := Int.emod_lt_of_pos (m / 2) (show (0 : Int) < 2 ^ j by omega)
    have h5 : m = 2 * (m / 2 % 2 ^ j) + m % 2 + m / 2 / 2 ^ j * (2 * 2 ^ j) := by
      rw [show m / 2 / 2 ^ j * (2 * 2 ^ j) = 2 * (2 ^ j * (m / 2 / 2 ^ j)) from by rw [Int.mul_left_comm, Int.mul_comm (m / 2 / 2 ^ j)]]
      omega
    have h6 := Int.emod_nonneg m (show (2 : Int) ≠ 0 by omega)
    have h7 := Int.emod_lt_of_pos m (show (0 : Int) < 2 by omega)
    clear h1 h2 e0 e1 e2 hF hall hdr htk ih
    generalize m / 2 % 2 ^ j = u at *
    generalize m % 2 = r at *
    generalize m / 2 / 2 ^ j = c at *
    subst h5
    rw [Int.add_mul_emod_self_right, Int.emod_eq_of_lt (by omega) (by omega)]
theorem getD_app {F G : List Int} {i : Nat} (h : i < F.length) : (F ++ G).getD i 0 = F.getD i 0 := by
  rw [List.getD_eq_getElem?_getD, List.getElem?_append_left h, ← List.getD_eq_getElem?_getD]
theorem bytesF_get {it : List Int} {i : Nat} (h : i < it.length) : (bytesF it).getD i 0 = it.getD i 0 := by
  unfold bytesF; split
  · exact getD_app h
  · rfl
theorem bytesF_len (it : List Int) : it.length ≤ (bytesF it).length := by unfold bytesF; split <;> simp
/-- At the end of all bits End tells how many bytes there are. -/
theorem end_back (bs more : List Int) : endK (bytesF (wrun bs).1 ++ more) (bat bs) = (bytesF (wrun bs).1).length ∧ endE (bytesF (wrun bs).1 ++ more) (bat bs) = 0 := by
  have hlb := bytesF_len (wrun bs).1
  have hc : curF (bytesF (wrun bs).1 ++ more) (wrun bs).1.length = (wrun bs).1.getLastD 0 := by
    rcases Nat.eq_zero_or_pos (wrun bs).1.length with h | h
    · rw [h, List.eq_nil_of_length_eq_zero h]; rfl
    · rw [curF_pos _ h, getD_app (by omega), bytesF_get (by omega), List.getD_eq_getElem?_getD, last_get (List.length_pos_iff.1 h)]; rfl
  have hn : endN (bytesF (wrun bs).1 ++ more) (bat bs) = (bytesF (wrun bs).1).length := by
    unfold endN
    show (if curF _ (wrun bs).1.length = 255 then (wrun bs).1.length + 1 else (wrun bs).1.length) = _
    rw [hc]
    unfold bytesF
    split
    · simp
    · rfl
  have hbad : endBad (bytesF (wrun bs).1 ++ more) (bat bs) = false := by
    unfold endBad
    show (false || (decide (curF _ (wrun bs).1.length = 255) && decide (128 ≤ (bytesF (wrun bs).1 ++ more).getD (wrun bs).1.length 0))) = false
    rw [hc, Bool.false_or]
    by_cases h : (wrun bs).1.getLastD 0 = 255
    · have e : bytesF (wrun bs).1 = (wrun bs).1 ++ [0] := if_pos h
      rw [e, getD_app (by simp), List.getD_eq_getElem?_getD, List.getElem?_append_right (Nat.le_refl _), Nat.sub_self]
      rw [Bool.and_eq_false_iff]
      exact Or.inr (by decide)
    · rw [decide_eq_false h, Bool.false_and]
  have hle : ¬ (bytesF (wrun bs).1 ++ more).length < endN (bytesF (wrun bs).1 ++ more) (bat bs) := by rw [hn, List.length_append]; omega
  constructor
  · unfold endK; rw [if_neg hle, hbad, if_neg Bool.false_ne_true, hn]
  · unfold endE; rw [if_neg hle, hbad, if_neg Bool.false_ne_true]
theorem and_mask (x : Int) (k : Nat) (hk : k ≤ 32) : bits .and .i64 x (2 ^ k - 1) = x % 2 ^ k := by
  have pk := pow_le' hk
  have p32 : (2 : Int) ^ 32 = 4294967296 := by decide
  have p1 := pow_pos' k
  have en : (2 : Int) ^ k = ((2 ^ k : Nat) : Int) := by simp
  have hm0 := Int.emod_nonneg x (show (2 : Int) ^ k ≠ 0 by omega)
  have hm1 := Int.emod_lt_of_pos x (show (0 : Int) < 2 ^ k by omega)
  show IntKind.i64.wrap ((BitVec.ofInt 64 x &&& BitVec.ofInt 64 (2 ^ k - 1)).toNat : Int) = _
  have e1 : (BitVec.ofInt 64 ((2 : Int) ^ k - 1)).toNat = 2 ^ k - 1 := by
    rw [BitVec.toNat_ofInt, en]
    have : (2 : Nat) ^ k ≤ 4294967296 := by omega
    have : 1 ≤ (2 : Nat) ^ k := by omega
    omega
  rw [BitVec.toNat_and, e1, Nat.and_two_pow_sub_one_eq_mod, BitVec.toNat_ofInt]
  have h64 : ((x % (2 ^ 64 : Nat)).toNat : Int) = x % (2 ^ 64 : Nat) := Int.toNat_of_nonneg (Int.emod_nonneg _ (by decide))
  have e2 : (((x % ((2 ^ 64 : Nat) : Int)).toNat % 2 ^ k : Nat) : Int) = x % 2 ^ k := by
    rw [Int.natCast_emod, h64, ← en]
    exact Int.emod_emod_of_dvd _ (by
      exact ⟨2 ^ (64 - k), by
        rw [← Int.pow_add]
        have : k + (64 - k) = 64 := by omega
        rw [this]; decide⟩)
  rw [e2]
  exact IntWalk.i64_in _ (by omega)
end Go.Proofs.Ythgbnkcbcepjdaa
