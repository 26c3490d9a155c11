/- The arithmetic coder as plain mathematics: its encoder, what holds of it between its steps. -/
import Derived.Test.YtdgkeghgfibolaaDoorTab
set_option linter.unusedVariables false
set_option linter.unusedSimpArgs false
namespace Go.Proofs.YtdgkeghgfibolaaDoor

/-- An encoder: its interval, how many shifts until a byte, all bytes but the last one, the last one. -/
structure E where
  a : Nat
  c : Nat
  ct : Nat
  pre : List Nat
  last : Nat

def mPut (e : E) : E :=
  if e.last = 255 then ⟨e.a, e.c % 1048576, 7, e.pre ++ [e.last], e.c / 1048576⟩
  else if 134217728 ≤ e.c then
    if e.last + 1 = 255 then ⟨e.a, (e.c - 134217728) % 1048576, 7, e.pre ++ [e.last + 1], (e.c - 134217728) / 1048576⟩
    else ⟨e.a, (e.c - 134217728) % 524288, 8, e.pre ++ [e.last + 1], (e.c - 134217728) / 524288⟩
  else ⟨e.a, e.c % 524288, 8, e.pre ++ [e.last], e.c / 524288⟩
def mDbl (e : E) : E := ⟨2 * e.a, 2 * e.c, e.ct - 1, e.pre, e.last⟩
def mTick (e : E) : E := if (mDbl e).ct = 0 then mPut (mDbl e) else mDbl e
def mNorm : Nat → E → E
  | 0, e => e
  | n + 1, e => if 32768 ≤ (mTick e).a then mTick e else mNorm n (mTick e)

theorem mPut_a (e : E) : (mPut e).a = e.a := by unfold mPut; (repeat' split) <;> rfl
theorem mTick_a (e : E) : (mTick e).a = 2 * e.a := by unfold mTick; split <;> first | rfl | (rw [mPut_a]; rfl)

/-- No byte behind a 255 is above 143. -/
def Clean : List Nat → Prop
  | [] => True
  | [_] => True
  | x :: y :: l => (x = 255 → y ≤ 143) ∧ Clean (y :: l)
theorem Clean.snoc : ∀ {l : List Nat} {x y : Nat}, Clean (l ++ [x]) → (x = 255 → y ≤ 143) → Clean (l ++ [x, y])
  | [], x, y, _, h => ⟨h, trivial⟩
  | [z], x, y, h, k => ⟨h.1, k, trivial⟩
  | z :: z' :: l, x, y, h, k => ⟨h.1, Clean.snoc (l := z' :: l) h.2 k⟩
theorem Clean.init : ∀ {l : List Nat} {x : Nat}, Clean (l ++ [x]) → Clean l
  | [], x, _ => trivial
  | [z], x, h => trivial
  | z :: z' :: l, x, h => ⟨h.1, Clean.init (l := z' :: l) h.2⟩
theorem Clean.last : ∀ {l : List Nat} {x y : Nat}, Clean (l ++ [x, y]) → x = 255 → y ≤ 143
  | [], x, y, h => h.1
  | [z], x, y, h => h.2.1
  | z :: z' :: l, x, y, h => Clean.last (l := z' :: l) h.2
/-- The last one may be another one. -/
theorem Clean.swap : ∀ {l : List Nat} {x y : Nat}, Clean (l ++ [x]) → (l.getLast? = some 255 → y ≤ 143) → Clean (l ++ [y])
  | [], x, y, _, h => trivial
  | [z], x, y, h, k => ⟨fun e => k (by simp [e]), trivial⟩
  | z :: z' :: l, x, y, h, k => ⟨h.1, Clean.swap (l := z' :: l) h.2 (fun e => k (by simpa using e))⟩
theorem Clean.tail : ∀ {l : List Nat}, Clean l → Clean l.tail
  | [], _ => trivial
  | [_], _ => trivial
  | x :: y :: l, h => h.2

/-- What holds of an encoder, ahead of a shift and behind it. -/
structure Inv (e : E) : Prop where
  a1 : 1 ≤ e.a
  a2 : e.a < 65536
  ct1 : e.ct ≤ 12
  c1 : e.c + e.a ≤ 2 ^ (28 - e.ct)
  l1 : e.last ≤ 255
  l2 : e.last = 255 → e.ct ≤ 8 ∧ e.c + e.a ≤ 9 * 2 ^ (24 - e.ct)
  p1 : e.pre.getLast? = some 255 → e.last ≤ 143 ∧ e.ct ≤ 7 ∧ (e.last = 143 → e.c + e.a ≤ 2 ^ (27 - e.ct))
  bs : ∀ x ∈ e.pre, x ≤ 255
  cl : Clean (e.pre ++ [e.last])

theorem Inv.put {e : E} (h : Inv e) (h0 : e.ct = 0) : Inv (mPut e) := by
  obtain ⟨a1, a2, ct1, c1, l1, l2, p1, bs, cl⟩ := h
  rw [h0] at c1 l2 p1
  have hb : ∀ y, y ≤ 255 → ∀ x ∈ e.pre ++ [y], x ≤ 255 := fun y hy x hx => by
    rcases List.mem_append.1 hx with hx | hx
    · exact bs x hx
    · simp at hx; omega
  unfold mPut
  by_cases hl : e.last = 255
  · obtain ⟨_, l3⟩ := l2 hl
    have q1 : e.c / 1048576 ≤ 143 := by omega
    rw [if_pos hl]
    exact ⟨a1, a2, by show 7 ≤ 12; omega, by show e.c % 1048576 + e.a ≤ 2 ^ 21; omega, by show e.c / 1048576 ≤ 255; omega, fun he => absurd he (by show ¬ e.c / 1048576 = 255; omega),
      fun _ => ⟨q1, by show 7 ≤ 7; omega, fun he => by have he' : e.c / 1048576 = 143 := he; show e.c % 1048576 + e.a ≤ 2 ^ 20; omega⟩, hb _ (by omega), by
        show Clean ((e.pre ++ [e.last]) ++ [_]); rw [List.append_assoc]; exact cl.snoc (fun _ => q1)⟩
  · rw [if_neg hl]
    by_cases hc : 134217728 ≤ e.c
    · rw [if_pos hc]
      have hsw : Clean (e.pre ++ [e.last + 1]) := cl.swap (fun hp => by
        obtain ⟨p2, _, p3⟩ := p1 hp
        rcases Nat.lt_or_ge e.last 143 with h | h
        · omega
        · have := p3 (by omega); omega)
      by_cases hn : e.last + 1 = 255
      · rw [if_pos hn]
        have q1 : (e.c - 134217728) / 1048576 ≤ 127 := by omega
        exact ⟨a1, a2, by show 7 ≤ 12; omega, by show (e.c - 134217728) % 1048576 + e.a ≤ 2 ^ 21; omega, by show (e.c - 134217728) / 1048576 ≤ 255; omega, fun he => absurd he (by show ¬ (e.c - 134217728) / 1048576 = 255; omega),
          fun _ => ⟨by show (e.c - 134217728) / 1048576 ≤ 143; omega, by show 7 ≤ 7; omega, fun he => absurd he (by show ¬ (e.c - 134217728) / 1048576 = 143; omega)⟩, hb _ (by omega), by
            show Clean ((e.pre ++ [e.last + 1]) ++ [(e.c - 134217728) / 1048576]); rw [List.append_assoc]; exact hsw.snoc (fun _ => by omega)⟩
      · rw [if_neg hn]
        exact ⟨a1, a2, by show 8 ≤ 12; omega, by show (e.c - 134217728) % 524288 + e.a ≤ 2 ^ 20; omega, by show (e.c - 134217728) / 524288 ≤ 255; omega, fun _ => ⟨by show 8 ≤ 8; omega, by show (e.c - 134217728) % 524288 + e.a ≤ 9 * 2 ^ 16; omega⟩,
          fun hp => absurd hp (by simp; omega), hb _ (by omega), by
            show Clean ((e.pre ++ [e.last + 1]) ++ [_]); rw [List.append_assoc]; exact hsw.snoc (fun he => by omega)⟩
    · rw [if_neg hc]
      exact ⟨a1, a2, by show 8 ≤ 12; omega, by show e.c % 524288 + e.a ≤ 2 ^ 20; omega, by show e.c / 524288 ≤ 255; omega, fun _ => ⟨by show 8 ≤ 8; omega, by show e.c % 524288 + e.a ≤ 9 * 2 ^ 16; omega⟩,
        fun hp => absurd hp (by simp; omega), hb _ (by omega), by
          show Clean ((e.pre ++ [e.last]) ++ [_]); rw [List.append_assoc]; exact cl.snoc (fun he => by omega)⟩
theorem two_up (n k : Nat) (h : 1 ≤ k) (hk : k ≤ n) : 2 ^ (n - (k - 1)) = 2 * 2 ^ (n - k) := by
  rw [show n - (k - 1) = (n - k) + 1 by omega, Nat.pow_succ]; omega
theorem Inv.dbl {e : E} (h : Inv e) (h1 : 1 ≤ e.ct) (ha : e.a < 32768) : Inv (mDbl e) := by
  obtain ⟨a1, a2, ct1, c1, l1, l2, p1, bs, cl⟩ := h
  refine ⟨by show 1 ≤ 2 * e.a; omega, by show 2 * e.a < 65536; omega, by show e.ct - 1 ≤ 12; omega, ?_, l1, fun he => ?_, fun hp => ?_, bs, cl⟩
  · show 2 * e.c + 2 * e.a ≤ 2 ^ (28 - (e.ct - 1))
    rw [two_up 28 e.ct h1 (by omega)]; omega
  · obtain ⟨l3, l4⟩ := l2 he
    refine ⟨by show e.ct - 1 ≤ 8; omega, ?_⟩
    show 2 * e.c + 2 * e.a ≤ 9 * 2 ^ (24 - (e.ct - 1))
    rw [two_up 24 e.ct h1 (by omega)]; omega
  · obtain ⟨p2, p3, p4⟩ := p1 hp
    refine ⟨p2, by show e.ct - 1 ≤ 7; omega, fun hl => ?_⟩
    have := p4 hl
    show 2 * e.c + 2 * e.a ≤ 2 ^ (27 - (e.ct - 1))
    rw [two_up 27 e.ct h1 (by omega)]; omega
/-- Between two operations there is no byte waiting. -/
structure Good (e : E) : Prop extends Inv e where
  ct0 : 1 ≤ e.ct
theorem mPut_ct (e : E) : 7 ≤ (mPut e).ct ∧ (mPut e).ct ≤ 8 := by unfold mPut; (repeat' split) <;> (constructor <;> simp)
theorem Good.tick {e : E} (h : Good e) (ha : e.a < 32768) : Good (mTick e) := by
  have hd := h.toInv.dbl h.ct0 ha
  unfold mTick
  split
  · rename_i h0
    exact ⟨hd.put h0, by have := mPut_ct (mDbl e); omega⟩
  · rename_i h0
    exact ⟨hd, by omega⟩
theorem Good.norm : ∀ {n : Nat} {e : E}, Good e → e.a < 32768 → 32768 ≤ e.a * 2 ^ n → Good (mNorm n e) ∧ 32768 ≤ (mNorm n e).a
  | 0, e, h, ha, hn => by omega
  | n + 1, e, h, ha, hn => by
    have ht := h.tick ha
    unfold mNorm
    split
    · exact ⟨ht, by assumption⟩
    · refine Good.norm ht (by omega) ?_
      rw [mTick_a, Nat.mul_assoc, Nat.mul_left_comm, ← Nat.mul_assoc]
      rw [Nat.pow_succ] at hn
      have : e.a * 2 * 2 ^ n = e.a * (2 ^ n * 2) := by rw [Nat.mul_assoc, Nat.mul_comm 2]
      omega

/-- An encoder as it is handed about: the interval is of its full width. -/
structure Fine (e : E) : Prop extends Good e where
  a3 : 32768 ≤ e.a
theorem qe_bd : ∀ i, i < 47 → 1 ≤ qe i ∧ qe i ≤ 22017 ∧ mps i < 47 ∧ lps i < 47 := by decide

/-- One sign: bit, of a context with the number i and the more likely sign m. -/
def mSame (e : E) (i : Nat) : E :=
  if 32768 ≤ e.a - qe i then ⟨e.a - qe i, e.c + qe i, e.ct, e.pre, e.last⟩
  else if e.a - qe i < qe i then mNorm 16 ⟨qe i, e.c, e.ct, e.pre, e.last⟩ else mNorm 16 ⟨e.a - qe i, e.c + qe i, e.ct, e.pre, e.last⟩
def mOther (e : E) (i : Nat) : E :=
  if e.a - qe i < qe i then mNorm 16 ⟨e.a - qe i, e.c + qe i, e.ct, e.pre, e.last⟩ else mNorm 16 ⟨qe i, e.c, e.ct, e.pre, e.last⟩
theorem Inv.narrow {e : E} (h : Inv e) {a c : Nat} (h1 : 1 ≤ a) (h2 : a < 65536) (hc : c + a ≤ e.c + e.a) : Inv ⟨a, c, e.ct, e.pre, e.last⟩ := by
  obtain ⟨a1, a2, ct1, c1, l1, l2, p1, bs, cl⟩ := h
  exact ⟨h1, h2, ct1, Nat.le_trans hc c1, l1, fun he => ⟨(l2 he).1, Nat.le_trans hc (l2 he).2⟩, fun hp => ⟨(p1 hp).1, (p1 hp).2.1, fun hl => Nat.le_trans hc ((p1 hp).2.2 hl)⟩, bs, cl⟩
theorem Fine.same {e : E} (h : Fine e) {i : Nat} (hi : i < 47) : Fine (mSame e i) := by
  obtain ⟨q1, q2, _, _⟩ := qe_bd i hi
  have h2 := h.a2
  have h3 := h.a3
  unfold mSame
  split
  · rename_i h0
    exact ⟨⟨h.toInv.narrow (by omega) (by omega) (by omega), h.ct0⟩, h0⟩
  · split
    · have := Good.norm (n := 16) (e := ⟨qe i, e.c, e.ct, e.pre, e.last⟩) ⟨h.toInv.narrow (by omega) (by omega) (by omega), h.ct0⟩ (by show qe i < 32768; omega) (by show _ ≤ qe i * 2 ^ 16; omega)
      exact ⟨this.1, this.2⟩
    · have := Good.norm (n := 16) (e := ⟨e.a - qe i, e.c + qe i, e.ct, e.pre, e.last⟩) ⟨h.toInv.narrow (by omega) (by omega) (by omega), h.ct0⟩ (by show e.a - qe i < 32768; omega) (by show _ ≤ (e.a - qe i) * 2 ^ 16; omega)
      exact ⟨this.1, this.2⟩
theorem Fine.other {e : E} (h : Fine e) {i : Nat} (hi : i < 47) : Fine (mOther e i) := by
  obtain ⟨q1, q2, _, _⟩ := qe_bd i hi
  have h2 := h.a2
  have h3 := h.a3
  unfold mOther
  split
  · have := Good.norm (n := 16) (e := ⟨e.a - qe i, e.c + qe i, e.ct, e.pre, e.last⟩) ⟨h.toInv.narrow (by omega) (by omega) (by omega), h.ct0⟩ (by show e.a - qe i < 32768; omega) (by show _ ≤ (e.a - qe i) * 2 ^ 16; omega)
    exact ⟨this.1, this.2⟩
  · have := Good.norm (n := 16) (e := ⟨qe i, e.c, e.ct, e.pre, e.last⟩) ⟨h.toInv.narrow (by omega) (by omega) (by omega), h.ct0⟩ (by show qe i < 32768; omega) (by show _ ≤ qe i * 2 ^ 16; omega)
    exact ⟨this.1, this.2⟩
def mNew : E := ⟨32768, 0, 12, [], 0⟩
theorem mNew_fine : Fine mNew := ⟨⟨⟨by decide, by decide, by decide, by decide, by decide, fun h => absurd h (by decide), fun h => by simp [mNew] at h, fun x h => by simp [mNew] at h, trivial⟩, by decide⟩, by decide⟩

/-- The end: the code is set, and two bytes go out. -/
def mSet (e : E) : E := ⟨1, if e.c + e.a ≤ e.c / 65536 * 65536 + 65535 then e.c / 65536 * 65536 + 32767 else e.c / 65536 * 65536 + 65535, e.ct, e.pre, e.last⟩
def mShift (e : E) : E := ⟨e.a, e.c * 2 ^ e.ct, 0, e.pre, e.last⟩
def mEnd (e : E) : E := mPut (mShift (mPut (mShift (mSet e))))
theorem Fine.set {e : E} (h : Fine e) : Inv (mSet e) := by
  have h3 := h.a3
  refine h.toInv.narrow (by omega) (by omega) ?_
  split <;> omega
theorem Inv.shift {e : E} (h : Inv e) (ha : e.a = 1) : Inv (mShift e) := by
  obtain ⟨a1, a2, ct1, c1, l1, l2, p1, bs, cl⟩ := h
  rw [ha] at c1 l2 p1
  have key : ∀ n x, e.ct ≤ n → e.c + 1 ≤ x * 2 ^ (n - e.ct) → e.c * 2 ^ e.ct + 1 ≤ x * 2 ^ n := fun n x hn h => by
    have hp : 1 ≤ 2 ^ e.ct := Nat.one_le_two_pow
    have := Nat.mul_le_mul_right (2 ^ e.ct) h
    rw [Nat.mul_assoc, ← Nat.pow_add, show n - e.ct + e.ct = n by omega, Nat.add_mul] at this
    omega
  refine ⟨by show 1 ≤ e.a; omega, a2, by show 0 ≤ 12; omega, ?_, l1, fun he => ⟨by show 0 ≤ 8; omega, ?_⟩, fun hp => ⟨(p1 hp).1, by show 0 ≤ 7; omega, fun hl => ?_⟩, bs, cl⟩
  · have := key 28 1 (by omega) (by omega)
    show e.c * 2 ^ e.ct + e.a ≤ 2 ^ 28
    omega
  · have := key 24 9 (by have := (l2 he).1; omega) (l2 he).2
    show e.c * 2 ^ e.ct + e.a ≤ 9 * 2 ^ 24
    omega
  · have := key 27 1 (by have := (p1 hp).2.1; omega) (by have := (p1 hp).2.2 hl; omega)
    show e.c * 2 ^ e.ct + e.a ≤ 2 ^ 27
    omega
theorem Fine.put1 {e : E} (h : Fine e) : Inv (mPut (mShift (mSet e))) ∧ (mPut (mShift (mSet e))).a = 1 := ⟨(h.set.shift rfl).put rfl, by rw [mPut_a]; rfl⟩
theorem Fine.end {e : E} (h : Fine e) : Inv (mEnd e) := (h.put1.1.shift h.put1.2).put rfl
theorem mPut_len (e : E) : (mPut e).pre.length = e.pre.length + 1 := by unfold mPut; (repeat' split) <;> simp
theorem mEnd_len (e : E) : (mEnd e).pre.length = e.pre.length + 2 := by unfold mEnd; rw [mPut_len]; show (mPut _).pre.length + 1 = _; rw [mPut_len]; rfl
/-- The bytes of it. -/
def mCode (e : E) : List Nat := if (mEnd e).last = 255 then (mEnd e).pre.tail else (mEnd e).pre.tail ++ [(mEnd e).last]
end Go.Proofs.YtdgkeghgfibolaaDoor
