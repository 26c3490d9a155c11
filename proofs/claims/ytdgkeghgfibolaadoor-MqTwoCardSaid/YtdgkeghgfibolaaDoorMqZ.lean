/- What an encoder's bytes say of its code, at any time: mathematics alone. -/
import Derived.Test.YtdgkeghgfibolaaDoorMqBe
set_option linter.unusedVariables false
set_option linter.unusedSimpArgs false
namespace Go.Proofs.YtdgkeghgfibolaaDoor

/-- How many bits byte P brings; the value of the bytes up to P; how many bits so many bytes behind k bring. -/
def wd (z : Nat → Nat) (P : Nat) : Nat := if z (P - 1) = 255 ∧ z P ≤ 143 then 7 else 8
def zV (z : Nat → Nat) : Nat → Nat
  | 0 => z 0
  | P + 1 => zV z P * 2 ^ wd z (P + 1) + z (P + 1)
def Wd (z : Nat → Nat) (k : Nat) : Nat → Nat
  | 0 => 0
  | j + 1 => Wd z k j + wd z (k + j + 1)
theorem Wd_cons (z : Nat → Nat) (k : Nat) : ∀ j, Wd z k (j + 1) = wd z (k + 1) + Wd z (k + 1) j
  | 0 => by simp [Wd]
  | j + 1 => by
    have := Wd_cons z k j
    show Wd z k (j + 1) + wd z (k + (j + 1) + 1) = wd z (k + 1) + (Wd z (k + 1) j + wd z (k + 1 + j + 1))
    rw [this, show k + (j + 1) + 1 = k + 1 + j + 1 by omega, Nat.add_assoc]
theorem wd_le (z : Nat → Nat) (P : Nat) : 7 ≤ wd z P ∧ wd z P ≤ 8 := by unfold wd; split <;> omega
def pw (n : Nat) : Int := (2 : Int) ^ n
theorem pw_pos (n : Nat) : 0 < pw n := Int.pow_pos (by decide)
theorem pw_add (a b : Nat) : pw (a + b) = pw a * pw b := Int.pow_add _ _ _
theorem pw_succ (a : Nat) : pw (a + 1) = 2 * pw a := by unfold pw; rw [Int.pow_succ, Int.mul_comm]
theorem zV_succ (z : Nat → Nat) (P : Nat) : (zV z (P + 1) : Int) = zV z P * pw (wd z (P + 1)) + z (P + 1) := by
  show ((zV z P * 2 ^ wd z (P + 1) + z (P + 1) : Nat) : Int) = _
  unfold pw; push_cast; rfl
/-- The code as a number, in the encoder's own unit. -/
def Lf (z : Nat → Nat) (e : E) : Int := (zV z e.pre.length : Int) * pw (27 - e.ct) + e.c - ((z e.pre.length : Int) - e.last) * pw (27 - e.ct)
structure Ext (z : Nat → Nat) (e : E) : Prop where
  pre : ∀ i x, e.pre[i]? = some x → z i = x
  lst : z e.pre.length = e.last ∨ z e.pre.length = e.last + 1
/-- The bytes lie within the interval. -/
structure SP (z : Nat → Nat) (e : E) (a : Int) : Prop where
  ext : Ext z e
  b : ∀ j, 1 ≤ j → Lf z e * pw (Wd z e.pre.length j) ≤ zV z (e.pre.length + j) * pw (27 - e.ct) + pw (27 - e.ct) - 1
  a : ∀ j, 1 ≤ j → zV z (e.pre.length + j) * pw (27 - e.ct) < (Lf z e + a) * pw (Wd z e.pre.length j)
theorem SP.narrow {z : Nat → Nat} {a a' c c' ct : Nat} {pre : List Nat} {last : Nat} (h : SP z ⟨a', c', ct, pre, last⟩ a') (h1 : c ≤ c') (h2 : c' + a' ≤ c + a) : SP z ⟨a, c, ct, pre, last⟩ a := by
  have hL : Lf z ⟨a', c', ct, pre, last⟩ = Lf z ⟨a, c, ct, pre, last⟩ + ((c' : Int) - c) := by unfold Lf; simp only; omega
  obtain ⟨he, hb, ha⟩ := h
  rw [hL] at hb ha
  refine ⟨⟨he.pre, he.lst⟩, fun j hj => ?_, fun j hj => ?_⟩
  · have := hb j hj
    have hp := pw_pos (Wd z pre.length j)
    have h3 : Lf z ⟨a, c, ct, pre, last⟩ * pw (Wd z pre.length j) ≤ (Lf z ⟨a, c, ct, pre, last⟩ + ((c' : Int) - c)) * pw (Wd z pre.length j) := Int.mul_le_mul_of_nonneg_right (by omega) (by omega)
    exact Int.le_trans h3 this
  · have := ha j hj
    have hp := pw_pos (Wd z pre.length j)
    have h3 : (Lf z ⟨a, c, ct, pre, last⟩ + ((c' : Int) - c) + a') * pw (Wd z pre.length j) ≤ (Lf z ⟨a, c, ct, pre, last⟩ + a) * pw (Wd z pre.length j) := Int.mul_le_mul_of_nonneg_right (by omega) (by omega)
    exact Int.lt_of_lt_of_le this h3
theorem SP.dbl {z : Nat → Nat} {e : E} {a : Int} (h : SP z (mDbl e) (2 * a)) (h1 : 1 ≤ e.ct) (h2 : e.ct ≤ 12) : SP z e a ∧ Lf z (mDbl e) = 2 * Lf z e := by
  have hT : pw (27 - (e.ct - 1)) = 2 * pw (27 - e.ct) := by rw [show 27 - (e.ct - 1) = 27 - e.ct + 1 by omega, pw_succ]
  have hL : Lf z (mDbl e) = 2 * Lf z e := by
    show (zV z e.pre.length : Int) * pw (27 - (e.ct - 1)) + ((2 * e.c : Nat) : Int) - ((z e.pre.length : Int) - e.last) * pw (27 - (e.ct - 1)) = 2 * ((zV z e.pre.length : Int) * pw (27 - e.ct) + e.c - ((z e.pre.length : Int) - e.last) * pw (27 - e.ct))
    rw [hT]
    generalize pw (27 - e.ct) = T
    rw [Int.mul_left_comm _ 2 T, Int.mul_left_comm _ 2 T]
    generalize (zV z e.pre.length : Int) * T = X
    generalize ((z e.pre.length : Int) - e.last) * T = Y
    omega
  refine ⟨⟨⟨h.ext.pre, h.ext.lst⟩, fun j hj => ?_, fun j hj => ?_⟩, hL⟩
  · have := h.b j hj
    rw [hL] at this
    have : 2 * Lf z e * pw (Wd z e.pre.length j) ≤ zV z (e.pre.length + j) * pw (27 - (e.ct - 1)) + pw (27 - (e.ct - 1)) - 1 := this
    rw [hT, Int.mul_left_comm _ 2, Int.mul_assoc] at this
    generalize Lf z e * pw (Wd z e.pre.length j) = X at *
    generalize (zV z (e.pre.length + j) : Int) * pw (27 - e.ct) = Y at *
    omega
  · have := h.a j hj
    rw [hL] at this
    have : zV z (e.pre.length + j) * pw (27 - (e.ct - 1)) < (2 * Lf z e + 2 * a) * pw (Wd z e.pre.length j) := this
    rw [hT, Int.mul_left_comm _ 2, ← Int.mul_add, Int.mul_assoc] at this
    generalize (Lf z e + a) * pw (Wd z e.pre.length j) = X at *
    generalize (zV z (e.pre.length + j) : Int) * pw (27 - e.ct) = Y at *
    omega
theorem SP.shift {z : Nat → Nat} {e : E} {a : Int} (h : SP z (mShift e) (pw e.ct * a)) (h2 : e.ct ≤ 12) : SP z e a ∧ Lf z (mShift e) = pw e.ct * Lf z e := by
  have hT : pw 27 = pw e.ct * pw (27 - e.ct) := by rw [← pw_add]; congr 1; omega
  have hc : ((e.c * 2 ^ e.ct : Nat) : Int) = pw e.ct * e.c := by unfold pw; push_cast; rw [Int.mul_comm]
  have hL : Lf z (mShift e) = pw e.ct * Lf z e := by
    show (zV z e.pre.length : Int) * pw 27 + ((e.c * 2 ^ e.ct : Nat) : Int) - ((z e.pre.length : Int) - e.last) * pw 27 = pw e.ct * ((zV z e.pre.length : Int) * pw (27 - e.ct) + e.c - ((z e.pre.length : Int) - e.last) * pw (27 - e.ct))
    rw [hT, hc, Int.mul_sub, Int.mul_add, Int.mul_left_comm (pw e.ct), Int.mul_left_comm (pw e.ct)]
  have hp := pw_pos e.ct
  refine ⟨⟨⟨h.ext.pre, h.ext.lst⟩, fun j hj => ?_, fun j hj => ?_⟩, hL⟩
  · have := h.b j hj
    rw [hL] at this
    have : pw e.ct * Lf z e * pw (Wd z e.pre.length j) ≤ zV z (e.pre.length + j) * pw 27 + pw 27 - 1 := this
    rw [hT, Int.mul_left_comm _ (pw e.ct), Int.mul_assoc] at this
    generalize Lf z e * pw (Wd z e.pre.length j) = X at *
    generalize (zV z (e.pre.length + j) : Int) * pw (27 - e.ct) = Y at *
    have h3 : pw e.ct * X < pw e.ct * (Y + pw (27 - e.ct)) := by rw [Int.mul_add]; omega
    have := Int.lt_of_mul_lt_mul_left h3 (by omega)
    omega
  · have := h.a j hj
    rw [hL] at this
    have : zV z (e.pre.length + j) * pw 27 < (pw e.ct * Lf z e + pw e.ct * a) * pw (Wd z e.pre.length j) := this
    rw [hT, Int.mul_left_comm _ (pw e.ct), ← Int.mul_add, Int.mul_assoc] at this
    exact Int.lt_of_mul_lt_mul_left this (by omega)
/-- What is asked of the bytes: behind a 255 there is no marker, unless there is nothing more. -/
def Zok (z : Nat → Nat) : Prop := ∀ i, z i = 255 → z (i + 1) ≤ 143 ∨ ∀ m, i ≤ m → z m = 255
/-- What a byte that goes out says, in one form. -/
theorem put_form {e : E} (hi : Inv e) (h0 : e.ct = 0) : ∃ x last' c' ct', mPut e = ⟨e.a, c', ct', e.pre ++ [x], last'⟩ ∧ (ct' = 7 ∧ x = 255 ∧ last' ≤ 143 ∨ ct' = 8 ∧ x ≠ 255) ∧ (x = e.last ∨ x = e.last + 1) ∧
    (last' : Int) * pw (27 - ct') + c' = e.c - ((x : Int) - e.last) * pw 27 ∧ (c' : Int) < pw (27 - ct') := by
  have l2 := hi.l2
  have c1 := hi.c1
  have a1 := hi.a1
  rw [h0] at l2 c1
  have p27 : pw 27 = 134217728 := by decide
  have p20 : pw (27 - 7) = 1048576 := by decide
  have p19 : pw (27 - 8) = 524288 := by decide
  unfold mPut
  by_cases h255 : e.last = 255
  · rw [if_pos h255]
    obtain ⟨_, l3⟩ := l2 h255
    refine ⟨e.last, e.c / 1048576, e.c % 1048576, 7, rfl, Or.inl ⟨rfl, h255, by omega⟩, Or.inl rfl, ?_, ?_⟩
    · rw [p20, p27]; omega
    · rw [p20]; omega
  · rw [if_neg h255]
    by_cases hc : 134217728 ≤ e.c
    · rw [if_pos hc]
      by_cases h254 : e.last + 1 = 255
      · rw [if_pos h254]
        refine ⟨e.last + 1, (e.c - 134217728) / 1048576, (e.c - 134217728) % 1048576, 7, rfl, Or.inl ⟨rfl, h254, by omega⟩, Or.inr rfl, ?_, ?_⟩
        · rw [p20, p27]; omega
        · rw [p20]; omega
      · rw [if_neg h254]
        refine ⟨e.last + 1, (e.c - 134217728) / 524288, (e.c - 134217728) % 524288, 8, rfl, Or.inr ⟨rfl, h254⟩, Or.inr rfl, ?_, ?_⟩
        · rw [p19, p27]; omega
        · rw [p19]; omega
    · rw [if_neg hc]
      refine ⟨e.last, e.c / 524288, e.c % 524288, 8, rfl, Or.inr ⟨rfl, h255⟩, Or.inl rfl, ?_, ?_⟩
      · rw [p19, p27]; omega
      · rw [p19]; omega
theorem SP.put {z : Nat → Nat} {e : E} {a : Int} (hz : Zok z) (hi : Inv e) (h0 : e.ct = 0) (h : SP z (mPut e) a) : SP z e a ∧ Lf z (mPut e) = Lf z e ∧ wd z (e.pre.length + 1) = (mPut e).ct := by
  obtain ⟨x, last', c', ct', hp, hct, hx, hv, hc'⟩ := put_form hi h0
  rw [hp] at h ⊢
  have hlen : (e.pre ++ [x]).length = e.pre.length + 1 := by simp
  have hzk : z e.pre.length = x := h.ext.pre e.pre.length x (by simp)
  have hlst : z (e.pre.length + 1) = last' ∨ z (e.pre.length + 1) = last' + 1 := by have := h.ext.lst; rw [show (⟨e.a, c', ct', e.pre ++ [x], last'⟩ : E).pre.length = e.pre.length + 1 from hlen] at this; exact this
  have hw : wd z (e.pre.length + 1) = ct' := by
    unfold wd
    rw [Nat.add_sub_cancel, hzk]
    rcases hct with ⟨rfl, hx255, hl⟩ | ⟨rfl, hx255⟩
    · have h143 : z (e.pre.length + 1) ≤ 143 := by
        rcases hz e.pre.length (hzk.trans hx255) with h | h
        · exact h
        · have := h (e.pre.length + 1) (by omega); omega
      rw [if_pos ⟨hx255, h143⟩]
    · rw [if_neg (fun h => hx255 h.1)]
  have hT : pw 27 = pw ct' * pw (27 - ct') := by rw [← pw_add]; congr 1; rcases hct with ⟨rfl, _⟩ | ⟨rfl, _⟩ <;> rfl
  have hV := zV_succ z e.pre.length
  rw [hw] at hV
  have hext : Ext z e := ⟨fun i y hy => h.ext.pre i y (by rw [List.getElem?_append_left (by have := (List.getElem?_eq_some_iff.1 hy).1; omega)]; exact hy), by rw [hzk]; exact hx⟩
  have hL' : Lf z ⟨e.a, c', ct', e.pre ++ [x], last'⟩ = zV z e.pre.length * pw 27 + (last' * pw (27 - ct') + c') := by
    unfold Lf
    simp only [hlen]
    rw [hV, hT, Int.add_mul, Int.sub_mul, Int.mul_assoc]
    omega
  have hL : Lf z ⟨e.a, c', ct', e.pre ++ [x], last'⟩ = Lf z e := by
    rw [hL', hv]
    unfold Lf
    rw [h0, hzk]
    show _ = zV z e.pre.length * pw 27 + (e.c : Int) - ((x : Int) - e.last) * pw 27
    omega
  have hp' := pw_pos ct'
  have hq' := pw_pos (27 - ct')
  have hb := h.b
  have ha := h.a
  rw [hL] at hb ha
  simp only [hlen] at hb ha
  refine ⟨⟨hext, fun j hj => ?_, fun j hj => ?_⟩, hL, hw⟩
  · rw [h0]
    show _ ≤ (zV z (e.pre.length + j) : Int) * pw 27 + pw 27 - 1
    rcases j with _ | _ | j
    · omega
    · rw [show Wd z e.pre.length (0 + 1) = wd z (e.pre.length + 1) from by simp [Wd], hw]
      have e1 := hL'
      rw [hL] at e1
      rw [e1, show e.pre.length + (0 + 1) = e.pre.length + 1 from rfl, hV, hT]
      have hzl : (last' : Int) ≤ z (e.pre.length + 1) := by omega
      have h1 : ((last' : Int) * pw (27 - ct') + c') * pw ct' ≤ (z (e.pre.length + 1) : Int) * (pw ct' * pw (27 - ct')) + pw ct' * pw (27 - ct') - 1 := by
        have h2 : (last' : Int) * pw (27 - ct') + c' + 1 ≤ (z (e.pre.length + 1) + 1 : Int) * pw (27 - ct') := by
          have := Int.mul_le_mul_of_nonneg_right hzl (Int.le_of_lt hq')
          rw [Int.add_mul]; omega
        have h3 := Int.mul_le_mul_of_nonneg_right h2 (Int.le_of_lt hp')
        have e2 : ((last' : Int) * pw (27 - ct') + c' + 1) * pw ct' = ((last' : Int) * pw (27 - ct') + c') * pw ct' + pw ct' := by rw [Int.add_mul _ 1, Int.one_mul]
        have e3 : (z (e.pre.length + 1) + 1 : Int) * pw (27 - ct') * pw ct' = z (e.pre.length + 1) * (pw ct' * pw (27 - ct')) + pw ct' * pw (27 - ct') := by
          rw [Int.mul_assoc, Int.mul_comm (pw (27 - ct')) (pw ct'), Int.add_mul, Int.one_mul]
        rw [e2, e3] at h3
        omega
      have h4 : (zV z e.pre.length * (pw ct' * pw (27 - ct')) + (last' * pw (27 - ct') + c')) * pw ct' = zV z e.pre.length * pw ct' * (pw ct' * pw (27 - ct')) + (last' * pw (27 - ct') + c') * pw ct' := by
        rw [Int.add_mul]
        congr 1
        rw [Int.mul_assoc, Int.mul_comm (pw ct' * pw (27 - ct')), ← Int.mul_assoc]
      rw [h4, Int.add_mul (zV z e.pre.length * pw ct')]
      omega
    · have := hb (j + 1) (by omega)
      rw [Wd_cons, hw, pw_add, hT, show e.pre.length + (j + 1 + 1) = e.pre.length + 1 + (j + 1) by omega]
      generalize (zV z (e.pre.length + 1 + (j + 1)) : Int) = Y at *
      have h3 := Int.mul_le_mul_of_nonneg_left this (Int.le_of_lt hp')
      rw [Int.mul_sub, Int.mul_add, Int.mul_left_comm (pw ct') Y, Int.mul_left_comm (pw ct') (Lf z e)] at h3
      omega
  · rw [h0]
    show (zV z (e.pre.length + j) : Int) * pw 27 < _
    rcases j with _ | _ | j
    · omega
    · rw [show Wd z e.pre.length (0 + 1) = wd z (e.pre.length + 1) from by simp [Wd], hw, hT]
      have h5 := ha 1 (by omega)
      rw [show Wd z (e.pre.length + 1) 1 = wd z (e.pre.length + 1 + 1) from by simp [Wd], zV_succ] at h5
      have hw2 := pw_pos (wd z (e.pre.length + 1 + 1))
      generalize pw (wd z (e.pre.length + 1 + 1)) = S at *
      have h6 : zV z (e.pre.length + 1) * pw (27 - ct') * S < (Lf z e + a) * S := by
        have : (0 : Int) ≤ z (e.pre.length + 1 + 1) * pw (27 - ct') := Int.mul_nonneg (by omega) (by omega)
        rw [Int.add_mul, Int.mul_right_comm] at h5
        omega
      have h7 := Int.lt_of_mul_lt_mul_right h6 (by omega)
      have h8 := Int.mul_lt_mul_of_pos_left h7 hp'
      rw [Int.mul_left_comm, Int.mul_comm (pw ct') (Lf z e + a)] at h8
      exact h8
    · have := ha (j + 1) (by omega)
      rw [Wd_cons, hw, pw_add, hT, show e.pre.length + (j + 1 + 1) = e.pre.length + 1 + (j + 1) by omega]
      generalize (zV z (e.pre.length + 1 + (j + 1)) : Int) = Y at *
      have h3 := Int.mul_lt_mul_of_pos_left this hp'
      rw [Int.mul_left_comm (pw ct') Y, Int.mul_left_comm (pw ct') (Lf z e + a)] at h3
      exact h3
end Go.Proofs.YtdgkeghgfibolaaDoor
