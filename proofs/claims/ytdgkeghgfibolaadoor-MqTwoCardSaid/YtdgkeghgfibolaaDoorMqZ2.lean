/- The bytes of an encoder, to their end; and a decoder of them: mathematics alone. -/
import Derived.Test.YtdgkeghgfibolaaDoorMqZ
set_option linter.unusedVariables false
set_option linter.unusedSimpArgs false
namespace Go.Proofs.YtdgkeghgfibolaaDoor

theorem pw_le {a b : Nat} (h : a ≤ b) : pw a ≤ pw b := by
  rw [show b = a + (b - a) by omega, pw_add]
  have := Int.mul_le_mul_of_nonneg_left (show (1 : Int) ≤ pw (b - a) by have := pw_pos (b - a); omega) (Int.le_of_lt (pw_pos a))
  omega
theorem tail_255 {z : Nat → Nat} {k : Nat} (h : ∀ m, k < m → z m = 255) : ∀ j, Wd z k j = 8 * j ∧ (zV z (k + j) : Int) + 1 = (zV z k + 1) * pw (8 * j)
  | 0 => ⟨rfl, by show (zV z k : Int) + 1 = _ * pw 0; rw [show pw 0 = 1 from rfl, Int.mul_one]⟩
  | j + 1 => by
    obtain ⟨h1, h2⟩ := tail_255 h j
    have hz := h (k + j + 1) (by omega)
    have hw : wd z (k + j + 1) = 8 := by unfold wd; rw [if_neg (by omega)]
    refine ⟨by show Wd z k j + wd z (k + j + 1) = _; rw [h1, hw]; omega, ?_⟩
    have := zV_succ z (k + j)
    rw [hw, hz] at this
    rw [show k + (j + 1) = k + j + 1 by omega, this, show 8 * (j + 1) = 8 * j + 8 by omega, pw_add, ← Int.mul_assoc, ← h2, show pw 8 = 256 from rfl]
    omega
theorem SP.base {z : Nat → Nat} {e : E} {A : Int} (he : Ext z e) (hk : z e.pre.length = e.last) (h255 : ∀ m, e.pre.length < m → z m = 255) (hc : (e.c : Int) < pw (27 - e.ct)) (hA : pw (27 - e.ct) ≤ e.c + A) : SP z e A ∧ Lf z e = zV z e.pre.length * pw (27 - e.ct) + e.c := by
  have hL : Lf z e = zV z e.pre.length * pw (27 - e.ct) + e.c := by unfold Lf; rw [hk]; simp
  have hT := pw_pos (27 - e.ct)
  refine ⟨⟨he, fun j hj => ?_, fun j hj => ?_⟩, hL⟩
  · obtain ⟨h1, h2⟩ := tail_255 h255 j
    have hp := pw_pos (8 * j)
    rw [hL, h1, show (zV z (e.pre.length + j) : Int) = (zV z e.pre.length + 1) * pw (8 * j) - 1 by omega]
    generalize pw (8 * j) = S at *
    generalize pw (27 - e.ct) = T at *
    generalize (zV z e.pre.length : Int) = Y at *
    have h3 := Int.mul_le_mul_of_nonneg_right (show (e.c : Int) + 1 ≤ T by omega) (Int.le_of_lt hp)
    have e1 : (Y * T + e.c) * S = Y * T * S + e.c * S := Int.add_mul _ _ _
    have e2 : ((Y + 1) * S - 1) * T = Y * T * S + T * S - T := by rw [Int.sub_mul, Int.one_mul, Int.add_mul, Int.one_mul, Int.add_mul, Int.mul_right_comm, Int.mul_comm S T]
    have e3 : ((e.c : Int) + 1) * S = e.c * S + S := by rw [Int.add_mul, Int.one_mul]
    rw [e1, e2]; rw [e3] at h3; omega
  · obtain ⟨h1, h2⟩ := tail_255 h255 j
    have hp := pw_pos (8 * j)
    rw [hL, h1, show (zV z (e.pre.length + j) : Int) = (zV z e.pre.length + 1) * pw (8 * j) - 1 by omega]
    generalize pw (8 * j) = S at *
    generalize pw (27 - e.ct) = T at *
    generalize (zV z e.pre.length : Int) = Y at *
    have h3 := Int.mul_le_mul_of_nonneg_right hA (Int.le_of_lt hp)
    have e1 : (Y * T + e.c + A) * S = Y * T * S + (e.c + A) * S := by rw [Int.add_assoc, Int.add_mul]
    have e2 : ((Y + 1) * S - 1) * T = Y * T * S + T * S - T := by rw [Int.sub_mul, Int.one_mul, Int.add_mul, Int.one_mul, Int.add_mul, Int.mul_right_comm, Int.mul_comm S T]
    rw [e1, e2]; omega
theorem Zok_of {l : List Nat} (h : Clean l) : Zok (fB l) := by
  intro i hi
  by_cases h1 : i + 1 < l.length
  · left
    have e1 : l[i]? = some 255 := by
      unfold fB at hi
      rw [List.getD_eq_getElem?_getD, List.getElem?_eq_getElem (by omega)] at hi
      rw [List.getElem?_eq_getElem (by omega)]; exact congrArg some hi
    have e2 : l[i + 1]? = some (fB l (i + 1)) := by
      unfold fB; rw [List.getD_eq_getElem?_getD, List.getElem?_eq_getElem h1]; rfl
    exact Clean.at h e1 e2 rfl
  · right
    intro m hm
    by_cases e : m = i
    · rw [e]; exact hi
    · unfold fB; rw [List.getD_eq_getElem?_getD, List.getElem?_eq_none (by omega)]; rfl
/-- The bytes of an encoder's end. -/
def zE (e : E) : Nat → Nat := fB ((mEnd e).pre ++ [(mEnd e).last])
theorem SP.of_end {e : E} (f : Fine e) : SP (zE e) e e.a ∧ Zok (zE e) := by
  have hz : Zok (zE e) := Zok_of f.end.cl
  have i0 := f.set
  have j0 := i0.shift rfl
  have i1 := j0.put rfl
  have a1 : (mPut (mShift (mSet e))).a = 1 := by rw [mPut_a]; rfl
  have j1 := i1.shift a1
  have i2 := j1.put rfl
  have ct1 := (mPut_ct (mShift (mSet e)))
  have ct2 := (mPut_ct (mShift (mPut (mShift (mSet e)))))
  obtain ⟨x, last', c', ct', hp, hct, hx, hv, hc'⟩ := put_form j1 rfl
  have hE : mEnd e = ⟨_, c', ct', _, last'⟩ := hp
  have hzk : zE e (mEnd e).pre.length = (mEnd e).last := by
    unfold zE fB; rw [List.getD_eq_getElem?_getD, List.getElem?_append_right (Nat.le_refl _), Nat.sub_self]; rfl
  have hz255 : ∀ m, (mEnd e).pre.length < m → zE e m = 255 := fun m hm => by
    unfold zE fB; rw [List.getD_eq_getElem?_getD, List.getElem?_eq_none (by simp; omega)]; rfl
  have hext : Ext (zE e) (mEnd e) := ⟨fun i y hy => by
    unfold zE fB
    rw [List.getD_eq_getElem?_getD, List.getElem?_append_left (List.getElem?_eq_some_iff.1 hy).1, hy]; rfl, Or.inl hzk⟩
  have hcE : ((mEnd e).c : Int) < pw (27 - (mEnd e).ct) := by rw [hE]; exact hc'
  have hctE : 7 ≤ (mEnd e).ct ∧ (mEnd e).ct ≤ 8 := ct2
  -- the chain, for any interval of that form
  have chain : ∀ Bv : Int, pw (27 - (mEnd e).ct) ≤ (mEnd e).c + pw (mPut (mShift (mSet e))).ct * (pw (mSet e).ct * Bv) → SP (zE e) (mSet e) Bv ∧ Lf (zE e) (mEnd e) = pw (mPut (mShift (mSet e))).ct * (pw (mSet e).ct * Lf (zE e) (mSet e)) := by
    intro Bv hB
    have s0 := (SP.base hext hzk hz255 hcE hB).1
    have s1 := SP.put hz j1 rfl s0
    have s2 := SP.shift s1.1 i1.ct1
    have s3 := SP.put hz j0 rfl s2.1
    have s4 := SP.shift s3.1 i0.ct1
    refine ⟨s4.1, ?_⟩
    rw [← s4.2, ← s3.2.1, ← s2.2]
    exact s1.2.1
  have hLf := (chain (pw 27) (by
    have h1 : pw 27 ≤ pw (mSet e).ct * pw 27 := by
      have := Int.mul_le_mul_of_nonneg_right (show (1 : Int) ≤ pw (mSet e).ct by have := pw_pos (mSet e).ct; omega) (Int.le_of_lt (pw_pos 27))
      omega
    have h2 : pw (mSet e).ct * pw 27 ≤ pw (mPut (mShift (mSet e))).ct * (pw (mSet e).ct * pw 27) := by
      have := Int.mul_le_mul_of_nonneg_right (show (1 : Int) ≤ pw (mPut (mShift (mSet e))).ct by have := pw_pos (mPut (mShift (mSet e))).ct; omega) (Int.le_of_lt (Int.mul_pos (pw_pos (mSet e).ct) (pw_pos 27)))
      omega
    have h3 : pw (27 - (mEnd e).ct) ≤ pw 27 := pw_le (by omega)
    omega)).2
  have hLE := (SP.base (A := pw 27) hext hzk hz255 hcE (by
    have h3 : pw (27 - (mEnd e).ct) ≤ pw 27 := pw_le (by omega)
    omega)).2
  have hfin := (chain 1 (by
    -- the code and one more is a multiple of 2^15
    obtain ⟨q, hq⟩ : ∃ q, Lf (zE e) (mSet e) + 1 = pw 15 * q := by
      have h3 := f.a3
      have hct0 : (mSet e).ct ≤ 12 := i0.ct1
      have hT : pw (27 - (mSet e).ct) = pw 15 * pw (12 - (mSet e).ct) := by rw [← pw_add]; congr 1; omega
      obtain ⟨r, hr⟩ : ∃ r : Int, ((mSet e).c : Int) + 1 = pw 15 * r := by
        have p15 : pw 15 = 32768 := by decide
        rw [p15]
        refine ⟨(((mSet e).c : Int) + 1) / 32768, ?_⟩
        unfold mSet
        simp only
        split <;> omega
      refine ⟨zV (zE e) (mSet e).pre.length * pw (12 - (mSet e).ct) + r - (((zE e) (mSet e).pre.length : Int) - (mSet e).last) * pw (12 - (mSet e).ct), ?_⟩
      unfold Lf
      rw [hT, Int.mul_sub, Int.mul_add, ← hr, Int.mul_left_comm (pw 15), Int.mul_left_comm (pw 15)]
      omega
    have hS : pw (mPut (mShift (mSet e))).ct * (pw (mSet e).ct * pw 15) = pw (27 - (mEnd e).ct) * pw ((mPut (mShift (mSet e))).ct + (mSet e).ct + 15 - (27 - (mEnd e).ct)) := by
      rw [← pw_add, ← pw_add, ← pw_add]
      have : 1 ≤ (mSet e).ct := f.ct0
      congr 1; omega
    have h5 : pw (mPut (mShift (mSet e))).ct * (pw (mSet e).ct * (Lf (zE e) (mSet e) + 1)) = pw (27 - (mEnd e).ct) * (pw ((mPut (mShift (mSet e))).ct + (mSet e).ct + 15 - (27 - (mEnd e).ct)) * q) := by
      rw [hq, ← Int.mul_assoc (pw (mSet e).ct), ← Int.mul_assoc (pw (mPut (mShift (mSet e))).ct), hS, Int.mul_assoc]
    rw [Int.mul_add (pw (mSet e).ct), Int.mul_add, ← hLf, hLE] at h5
    have hSp : 0 < pw (mPut (mShift (mSet e))).ct * (pw (mSet e).ct * 1) := Int.mul_pos (pw_pos _) (Int.mul_pos (pw_pos _) (by decide))
    have hTp := pw_pos (27 - (mEnd e).ct)
    generalize pw (mPut (mShift (mSet e))).ct * (pw (mSet e).ct * 1) = SS at *
    generalize pw ((mPut (mShift (mSet e))).ct + (mSet e).ct + 15 - (27 - (mEnd e).ct)) * q = R at *
    generalize pw (27 - (mEnd e).ct) = T at *
    generalize (zV (zE e) (mEnd e).pre.length : Int) = Y at *
    have h6 : T * (R - Y) = (mEnd e).c + SS := by rw [Int.mul_sub, Int.mul_comm T Y]; omega
    have h7 : 0 < R - Y := by
      rcases Int.lt_or_le 0 (R - Y) with h | h
      · exact h
      · have := Int.mul_le_mul_of_nonneg_left h (Int.le_of_lt hTp)
        omega
    have := Int.mul_le_mul_of_nonneg_left (show (1 : Int) ≤ R - Y by omega) (Int.le_of_lt hTp)
    omega)).1
  refine ⟨?_, hz⟩
  have h3 := f.a3
  obtain ⟨a, c, ct, pre, last⟩ := e
  refine SP.narrow (a' := 1) (c' := (mSet ⟨a, c, ct, pre, last⟩).c) hfin ?_ ?_
  · simp only at h3
    unfold mSet
    simp only
    split <;> omega
  · simp only at h3
    unfold mSet
    simp only
    split <;> omega
end Go.Proofs.YtdgkeghgfibolaaDoor
