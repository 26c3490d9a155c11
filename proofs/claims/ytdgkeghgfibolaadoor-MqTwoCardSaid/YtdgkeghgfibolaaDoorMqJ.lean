/- How many bytes an encoder makes of so many shifts. -/
import Derived.Test.YtdgkeghgfibolaaDoorMqK
set_option linter.unusedVariables false
set_option linter.unusedSimpArgs false
namespace Go.Proofs.YtdgkeghgfibolaaDoor

def J (e : E) (N : Nat) : Prop := (e.pre.length = 0 ∧ e.last = 0 ∧ N + e.ct = 12) ∨ 15 * e.pre.length + 25 ≤ 2 * N + 2 * e.ct ∨ (15 * e.pre.length + 24 ≤ 2 * N + 2 * e.ct ∧ e.last ≤ 143)
theorem J.new : J mNew 0 := Or.inl ⟨rfl, rfl, rfl⟩
theorem J.put {e : E} {N : Nat} (h : J e N) (hi : Inv e) (h0 : e.ct = 0) : J (mPut e) N := by
  have l2 := hi.l2
  have c1 := hi.c1
  have a1 := hi.a1
  rw [h0] at l2 c1
  have hlen := mPut_len e
  unfold J at h ⊢
  rw [hlen]
  rw [h0] at h
  unfold mPut
  by_cases h255 : e.last = 255
  · rw [if_pos h255]
    obtain ⟨_, l3⟩ := l2 h255
    have q1 : e.c / 1048576 ≤ 143 := by omega
    show (e.pre.length + 1 = 0 ∧ e.c / 1048576 = 0 ∧ N + 7 = 12) ∨ 15 * (e.pre.length + 1) + 25 ≤ 2 * N + 2 * 7 ∨ (15 * (e.pre.length + 1) + 24 ≤ 2 * N + 2 * 7 ∧ e.c / 1048576 ≤ 143)
    omega
  · rw [if_neg h255]
    by_cases hc : 134217728 ≤ e.c
    · rw [if_pos hc]
      by_cases h254 : e.last + 1 = 255
      · rw [if_pos h254]
        have q1 : (e.c - 134217728) / 1048576 ≤ 143 := by omega
        show (e.pre.length + 1 = 0 ∧ (e.c - 134217728) / 1048576 = 0 ∧ N + 7 = 12) ∨ 15 * (e.pre.length + 1) + 25 ≤ 2 * N + 2 * 7 ∨ (15 * (e.pre.length + 1) + 24 ≤ 2 * N + 2 * 7 ∧ (e.c - 134217728) / 1048576 ≤ 143)
        omega
      · rw [if_neg h254]
        show (e.pre.length + 1 = 0 ∧ (e.c - 134217728) / 524288 = 0 ∧ N + 8 = 12) ∨ 15 * (e.pre.length + 1) + 25 ≤ 2 * N + 2 * 8 ∨ (15 * (e.pre.length + 1) + 24 ≤ 2 * N + 2 * 8 ∧ (e.c - 134217728) / 524288 ≤ 143)
        omega
    · rw [if_neg hc]
      show (e.pre.length + 1 = 0 ∧ e.c / 524288 = 0 ∧ N + 8 = 12) ∨ 15 * (e.pre.length + 1) + 25 ≤ 2 * N + 2 * 8 ∨ (15 * (e.pre.length + 1) + 24 ≤ 2 * N + 2 * 8 ∧ e.c / 524288 ≤ 143)
      omega
theorem J.dbl {e : E} {N : Nat} (h : J e N) (h1 : 1 ≤ e.ct) : J (mDbl e) (N + 1) := by
  unfold J at h ⊢
  show (e.pre.length = 0 ∧ e.last = 0 ∧ N + 1 + (e.ct - 1) = 12) ∨ 15 * e.pre.length + 25 ≤ 2 * (N + 1) + 2 * (e.ct - 1) ∨ (15 * e.pre.length + 24 ≤ 2 * (N + 1) + 2 * (e.ct - 1) ∧ e.last ≤ 143)
  omega
theorem J.tick {e : E} {N : Nat} (h : J e N) (hg : Good e) (ha : e.a < 32768) : J (mTick e) (N + 1) := by
  have hd := hg.toInv.dbl hg.ct0 ha
  unfold mTick
  split
  · rename_i h0
    exact (h.dbl hg.ct0).put hd h0
  · exact h.dbl hg.ct0
/-- How many shifts it takes. -/
def nT : Nat → Nat → Nat
  | 0, _ => 0
  | n + 1, a => if 32768 ≤ 2 * a then 1 else 1 + nT n (2 * a)
def nA : Nat → Nat → Nat
  | 0, a => a
  | n + 1, a => if 32768 ≤ 2 * a then 2 * a else nA n (2 * a)
theorem mNorm_a : ∀ (n : Nat) (e : E), (mNorm n e).a = nA n e.a
  | 0, e => rfl
  | n + 1, e => by
    unfold mNorm nA
    rw [mTick_a]
    split
    · exact mTick_a e
    · rw [mNorm_a n, mTick_a]
theorem J.norm : ∀ {n : Nat} {e : E} {N : Nat}, J e N → Good e → e.a < 32768 → 32768 ≤ e.a * 2 ^ n → J (mNorm n e) (N + nT n e.a)
  | 0, e, N, h, hg, ha, hn => by omega
  | n + 1, e, N, h, hg, ha, hn => by
    have ht := h.tick hg ha
    have hgt := hg.tick ha
    have hta := mTick_a e
    unfold mNorm nT
    rw [hta]
    split
    · exact ht
    · rename_i h2
      have := J.norm (n := n) ht hgt (by omega) (by
        rw [hta, Nat.mul_assoc, Nat.mul_left_comm, ← Nat.mul_assoc]
        rw [Nat.pow_succ] at hn
        have : e.a * 2 * 2 ^ n = e.a * (2 ^ n * 2) := by rw [Nat.mul_assoc, Nat.mul_comm 2]
        omega)
      rw [hta] at this
      rw [show N + (1 + nT n (2 * e.a)) = N + 1 + nT n (2 * e.a) by omega]
      exact this
theorem J.eq {e e' : E} {N : Nat} (h : J e N) (h1 : e'.pre = e.pre) (h2 : e'.last = e.last) (h3 : e'.ct = e.ct) : J e' N := by
  unfold J at h ⊢; rw [h1, h2, h3]; exact h
/-- A more likely sign: the interval, how many shifts. -/
def sA (a i : Nat) : Nat := if 32768 ≤ a - qe i then a - qe i else nA 16 (if a - qe i < qe i then qe i else a - qe i)
def sT (a i : Nat) : Nat := if 32768 ≤ a - qe i then 0 else nT 16 (if a - qe i < qe i then qe i else a - qe i)
theorem same_j {e : E} {N i : Nat} (h : J e N) (f : Fine e) (hi : i < 47) : J (mSame e i) (N + sT e.a i) ∧ (mSame e i).a = sA e.a i := by
  obtain ⟨q1, q2, _, _⟩ := qe_bd i hi
  have h2 := f.a2
  have h3 := f.a3
  unfold mSame sT sA
  split
  · exact ⟨h, rfl⟩
  · split
    · exact ⟨J.norm (n := 16) (e := ⟨qe i, e.c, e.ct, e.pre, e.last⟩) h ⟨f.toInv.narrow (by omega) (by omega) (by omega), f.ct0⟩ (by show qe i < 32768; omega) (by show _ ≤ qe i * 2 ^ 16; omega), mNorm_a _ _⟩
    · exact ⟨J.norm (n := 16) (e := ⟨e.a - qe i, e.c + qe i, e.ct, e.pre, e.last⟩) h ⟨f.toInv.narrow (by omega) (by omega) (by omega), f.ct0⟩ (by show e.a - qe i < 32768; omega) (by show _ ≤ (e.a - qe i) * 2 ^ 16; omega), mNorm_a _ _⟩
def oA (a i : Nat) : Nat := nA 16 (if a - qe i < qe i then a - qe i else qe i)
def oT (a i : Nat) : Nat := nT 16 (if a - qe i < qe i then a - qe i else qe i)
theorem other_j {e : E} {N i : Nat} (h : J e N) (f : Fine e) (hi : i < 47) : J (mOther e i) (N + oT e.a i) ∧ (mOther e i).a = oA e.a i := by
  obtain ⟨q1, q2, _, _⟩ := qe_bd i hi
  have h2 := f.a2
  have h3 := f.a3
  unfold mOther oT oA
  split
  · exact ⟨J.norm (n := 16) (e := ⟨e.a - qe i, e.c + qe i, e.ct, e.pre, e.last⟩) h ⟨f.toInv.narrow (by omega) (by omega) (by omega), f.ct0⟩ (by show e.a - qe i < 32768; omega) (by show _ ≤ (e.a - qe i) * 2 ^ 16; omega), mNorm_a _ _⟩
  · exact ⟨J.norm (n := 16) (e := ⟨qe i, e.c, e.ct, e.pre, e.last⟩) h ⟨f.toInv.narrow (by omega) (by omega) (by omega), f.ct0⟩ (by show qe i < 32768; omega) (by show _ ≤ qe i * 2 ^ 16; omega), mNorm_a _ _⟩
theorem J.len {e : E} {N : Nat} (h : J e N) (hi : Inv e) : 15 * e.pre.length ≤ 2 * N ∧ 15 * e.pre.length + 8 ≤ 2 * N + 16 + 0 := by
  have := hi.ct1
  unfold J at h
  omega
theorem mCode_len (e : E) : (mCode e).length ≤ e.pre.length + 2 := by
  have h := mEnd_len e
  unfold mCode
  split
  · rw [List.length_tail]; omega
  · rw [List.length_append, List.length_tail]; simp; omega

/-- So many noughts in a context that begins with i0: the interval, the state, the shifts. -/
def zs (i0 : Nat) : Nat → Nat × Nat × Nat
  | 0 => (32768, i0, 0)
  | n + 1 => (sA (zs i0 n).1 (zs i0 n).2.1, if 32768 ≤ (zs i0 n).1 - qe (zs i0 n).2.1 then (zs i0 n).2.1 else mps (zs i0 n).2.1, (zs i0 n).2.2 + sT (zs i0 n).1 (zs i0 n).2.1)
theorem zs_mono (i0 : Nat) : ∀ (n m : Nat), n ≤ m → (zs i0 n).2.2 ≤ (zs i0 m).2.2 := by
  intro n m h
  induction h with
  | refl => exact Nat.le_refl _
  | step _ ih => exact Nat.le_trans ih (Nat.le_add_right _ _)
/-- The same, step by step, for the machine. -/
def zr : Nat → Nat → Nat → Nat → Nat
  | 0, _, _, N => N
  | n + 1, a, i, N => zr n (sA a i) (if 32768 ≤ a - qe i then i else mps i) (N + sT a i)
theorem zs_zr (i0 : Nat) : ∀ n m, (zs i0 (n + m)).2.2 = zr n (zs i0 m).1 (zs i0 m).2.1 (zs i0 m).2.2
  | 0, m => by simp [zr]
  | n + 1, m => by
    unfold zr
    rw [show n + 1 + m = n + (m + 1) by omega, zs_zr i0 n (m + 1)]
    rfl
theorem zr0 : zr 1000 32768 0 0 ≤ 120 := by decide +kernel
theorem zr3 : zr 1000 32768 3 0 ≤ 120 := by decide +kernel
theorem zr4 : zr 1000 32768 4 0 ≤ 120 := by decide +kernel
theorem zs_all {i0 n : Nat} (hi : i0 = 0 ∨ i0 = 3 ∨ i0 = 4) (hn : n ≤ 1000) : (zs i0 n).2.2 ≤ 120 := by
  refine Nat.le_trans (zs_mono i0 n 1000 hn) ?_
  have := zs_zr i0 1000 0
  rw [Nat.add_zero] at this
  rw [this]
  show zr 1000 32768 i0 0 ≤ 120
  rcases hi with rfl | rfl | rfl
  · exact zr0
  · exact zr3
  · exact zr4

/-- The even context. -/
def phi (a : Nat) : Nat := if 43004 ≤ a then 3 else if 41974 ≤ a then 2 else if 39914 ≤ a then 1 else 0
theorem n1 {a : Nat} (h : 16384 ≤ a) : nA 16 a = 2 * a ∧ nT 16 a = 1 := by
  unfold nA nT
  rw [if_pos (by omega), if_pos (by omega)]; exact ⟨rfl, rfl⟩
theorem n2 {a : Nat} (h : 8192 ≤ a) (h2 : a < 16384) : nA 16 a = 4 * a ∧ nT 16 a = 2 := by
  have e1 : nA 15 (2 * a) = 2 * (2 * a) := by unfold nA; rw [if_pos (by omega)]
  have e2 : nT 15 (2 * a) = 1 := by unfold nT; rw [if_pos (by omega)]
  unfold nA nT
  rw [if_neg (by omega), if_neg (by omega), e1, e2]; exact ⟨by omega, rfl⟩
theorem qe46 : qe 46 = 22017 := by decide
theorem uni_same {a n N : Nat} (h : 4 * N ≤ 5 * n + phi a) (h2 : a < 65536) (h3 : 32768 ≤ a) : 4 * (N + sT a 46) ≤ 5 * (n + 1) + phi (sA a 46) := by
  unfold sT sA
  rw [qe46]
  have hp : phi a ≤ 3 := by unfold phi; split <;> (try split) <;> (try split) <;> omega
  by_cases h1 : 32768 ≤ a - 22017
  · rw [if_pos h1]; omega
  · rw [if_neg h1, if_neg h1]
    by_cases h4 : a - 22017 < 22017
    · rw [if_pos h4, (n1 (a := 22017) (by omega)).1, (n1 (a := 22017) (by omega)).2]
      have : phi (2 * 22017) = 3 := by decide
      omega
    · rw [if_neg h4, (n1 (a := a - 22017) (by omega)).1, (n1 (a := a - 22017) (by omega)).2]
      have : phi (2 * (a - 22017)) = 3 := if_pos (by omega)
      omega
theorem uni_other {a n N : Nat} (h : 4 * N ≤ 5 * n + phi a) (h2 : a < 65536) (h3 : 32768 ≤ a) : 4 * (N + oT a 46) ≤ 5 * (n + 1) + phi (oA a 46) := by
  unfold oT oA
  rw [qe46]
  have hp : phi a ≤ 3 := by unfold phi; split <;> (try split) <;> (try split) <;> omega
  by_cases h4 : a - 22017 < 22017
  · rw [if_pos h4]
    by_cases h5 : 16384 ≤ a - 22017
    · rw [(n1 h5).1, (n1 h5).2]
      unfold phi at h ⊢
      (repeat' split at h) <;> (repeat' split) <;> omega
    · rw [(n2 (a := a - 22017) (by omega) (by omega)).1, (n2 (a := a - 22017) (by omega) (by omega)).2]
      have : phi (4 * (a - 22017)) = 3 := if_pos (by omega)
      have : phi a = 0 := by unfold phi; rw [if_neg (by omega), if_neg (by omega), if_neg (by omega)]
      omega
  · rw [if_neg h4, (n1 (a := 22017) (by omega)).1, (n1 (a := 22017) (by omega)).2]
    have : phi (2 * 22017) = 3 := by decide
    omega
end Go.Proofs.YtdgkeghgfibolaaDoor
