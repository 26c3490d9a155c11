/- A decoder beside the encoder whose bytes it reads: mathematics alone. -/
import Derived.Test.YtdgkeghgfibolaaDoorMqZ2
set_option linter.unusedVariables false
set_option linter.unusedSimpArgs false
namespace Go.Proofs.YtdgkeghgfibolaaDoor
open Go.RowKit

theorem SP.tick {z : Nat → Nat} {e : E} (hz : Zok z) (g : Good e) (ha : e.a < 32768) (h : SP z (mTick e) ((mTick e).a : Nat)) :
    SP z e (e.a : Nat) ∧ Lf z (mTick e) = 2 * Lf z e ∧ ((mDbl e).ct = 0 → wd z (e.pre.length + 1) = (mTick e).ct ∧ (mTick e).pre.length = e.pre.length + 1) := by
  have hd := g.toInv.dbl g.ct0 ha
  have hta := mTick_a e
  rw [hta] at h
  have h2 : ((2 * e.a : Nat) : Int) = 2 * (e.a : Int) := by omega
  rw [h2] at h
  unfold mTick at h ⊢
  by_cases h0 : (mDbl e).ct = 0
  · rw [if_pos h0] at h ⊢
    have h3 := SP.put hz hd h0 h
    have h4 := SP.dbl h3.1 g.ct0 g.ct1
    exact ⟨h4.1, h3.2.1.trans h4.2, fun _ => ⟨h3.2.2, mPut_len _⟩⟩
  · rw [if_neg h0] at h ⊢
    have h4 := SP.dbl h g.ct0 g.ct1
    exact ⟨h4.1, h4.2, fun h => absurd h h0⟩
theorem pow_step {a n : Nat} (h : 32768 ≤ a * 2 ^ (n + 1)) : 32768 ≤ 2 * a * 2 ^ n := by
  rw [Nat.pow_succ, ← Nat.mul_assoc] at h
  rw [Nat.mul_assoc]
  omega
theorem SP.norm {z : Nat → Nat} (hz : Zok z) : ∀ (n : Nat) (e : E), Good e → e.a < 32768 → 32768 ≤ e.a * 2 ^ n → SP z (mNorm n e) ((mNorm n e).a : Nat) → SP z e (e.a : Nat)
  | 0, e, g, ha, hn, h => h
  | n + 1, e, g, ha, hn, h => by
    have hta := mTick_a e
    unfold mNorm at h
    split at h
    · exact (SP.tick hz g ha h).1
    · exact (SP.tick hz g ha (SP.norm hz n (mTick e) (g.tick ha) (by omega) (by rw [hta]; exact pow_step hn) h)).1

/-- A decoder that has read j bytes more than are out. -/
structure Rl (z f : Nat → Nat) (e : E) (d : D) (j : Nat) : Prop where
  j1 : 1 ≤ j
  a : d.a = e.a
  ct : d.ct ≤ 8
  al : Wd z e.pre.length j + e.ct = 27 + d.ct
  c : d.c = zV z (e.pre.length + j) * pw (16 - d.ct) - Lf z e * pw 16
  at1 : d.at_ + 1 ≤ e.pre.length + j
  cur : d.at_ + 1 = e.pre.length + j ∨ ∀ i, d.at_ + 1 ≤ i → z i = 255
theorem Wd_ge (z : Nat → Nat) (k : Nat) : ∀ j, 7 * j ≤ Wd z k j
  | 0 => Nat.le_refl _
  | j + 1 => by have := Wd_ge z k j; have := (wd_le z (k + j + 1)).1; show 7 * (j + 1) ≤ Wd z k j + wd z (k + j + 1); omega
theorem Rl.j4 {z f : Nat → Nat} {e : E} {d : D} {j : Nat} (h : Rl z f e d j) (h1 : 1 ≤ e.ct) : j ≤ 4 := by
  have := Wd_ge z e.pre.length j
  have := h.al
  have := h.ct
  omega
theorem Rl.bd {z f : Nat → Nat} {e : E} {d : D} {j : Nat} {a : Int} (h : Rl z f e d j) (hs : SP z e a) (h1 : e.ct ≤ 12) :
    0 ≤ d.c ∧ d.c < a * 65536 ∧ d.c = (zV z (e.pre.length + j) - Lf z e * pw d.ct) * pw (16 - d.ct) ∧ Lf z e * pw d.ct ≤ zV z (e.pre.length + j) ∧ (zV z (e.pre.length + j) : Int) < (Lf z e + a) * pw d.ct := by
  have hct := h.ct
  have hal := h.al
  have hb := hs.b j h.j1
  have ha := hs.a j h.j1
  rw [show Wd z e.pre.length j = 27 - e.ct + d.ct by omega, pw_add] at hb ha
  have hT := pw_pos (27 - e.ct)
  have p16 : pw 16 = pw d.ct * pw (16 - d.ct) := by rw [← pw_add]; congr 1; omega
  have p65 : (65536 : Int) = pw d.ct * pw (16 - d.ct) := by rw [← p16]; decide
  have hq := pw_pos (16 - d.ct)
  have hc : d.c = (zV z (e.pre.length + j) - Lf z e * pw d.ct) * pw (16 - d.ct) := by
    rw [h.c, p16, Int.sub_mul, Int.mul_assoc (Lf z e)]
  rw [p65]
  generalize pw (27 - e.ct) = T at *
  generalize pw d.ct = S at *
  generalize pw (16 - d.ct) = Q at *
  generalize (zV z (e.pre.length + j) : Int) = Y at *
  have h5 : Lf z e * S ≤ Y := by
    have e1 : Lf z e * (T * S) = Lf z e * S * T := by rw [Int.mul_assoc, Int.mul_comm S T]
    rw [e1] at hb
    have : Lf z e * S * T < (Y + 1) * T := by rw [Int.add_mul, Int.one_mul]; omega
    have := Int.lt_of_mul_lt_mul_right this (Int.le_of_lt hT)
    omega
  have h6 : Y < (Lf z e + a) * S := by
    have e1 : (Lf z e + a) * (T * S) = (Lf z e + a) * S * T := by rw [Int.mul_assoc, Int.mul_comm S T]
    rw [e1] at ha
    exact Int.lt_of_mul_lt_mul_right ha (Int.le_of_lt hT)
  refine ⟨?_, ?_, hc, h5, h6⟩
  · rw [hc]; exact Int.mul_nonneg (by omega) (Int.le_of_lt hq)
  · rw [hc, ← Int.mul_assoc]
    exact Int.mul_lt_mul_of_pos_right (by rw [Int.add_mul] at h6; omega) hq
theorem w64 {x : Int} (h : -9223372036854775808 ≤ x) (h2 : x ≤ 9223372036854775807) : wrap64 x = x := IntWalk.wrap64_in _ ⟨h, h2⟩
theorem Rl.take {z f : Nat → Nat} {e : E} {d : D} {j N : Nat} (hz : Zok z) (hb255 : ∀ i, z i ≤ 255) (h : Rl z f e d j) (h0 : d.ct = 0) (hf : ∀ i, i ≤ N → f i = z (i + 1)) (hN : e.pre.length + j ≤ N) (hb : 0 ≤ d.c) (hb2 : d.c < 4611686018427387904) :
    Rl z f e (dTake f d) (j + 1) := by
  have hV := zV_succ z (e.pre.length + j)
  have hc := h.c
  have hal := h.al
  have hat := h.at1
  rw [h0] at hc hal
  have f0 : f d.at_ = z (d.at_ + 1) := hf _ (by omega)
  have f1 : f (d.at_ + 1) = z (d.at_ + 2) := hf _ (by omega)
  have hcur : f d.at_ = z (e.pre.length + j) := by
    rw [f0]
    rcases h.cur with e1 | e1
    · rw [e1]
    · rw [e1 _ (Nat.le_refl _), e1 _ hat]
  have hnext : z (e.pre.length + j) = 255 → f (d.at_ + 1) = z (e.pre.length + j + 1) := fun _ => by
    rw [f1]
    rcases h.cur with e1 | e1
    · rw [show d.at_ + 2 = e.pre.length + j + 1 by omega]
    · rw [e1 _ (by omega), e1 _ (by omega)]
  have p8 : pw 8 = 256 := by decide
  have p7 : pw 7 = 128 := by decide
  have p9 : pw 9 = 512 := by decide
  have p16 : pw 16 = 65536 := by decide
  rw [show pw (16 - 0) = pw 16 from rfl, p16] at hc
  unfold dTake
  rw [hcur]
  by_cases h255 : z (e.pre.length + j) = 255
  · rw [if_pos h255, hnext h255]
    by_cases h143 : 143 < z (e.pre.length + j + 1)
    · rw [if_pos h143]
      have hall : ∀ m, e.pre.length + j ≤ m → z m = 255 := by
        rcases hz _ h255 with h | h
        · omega
        · exact h
      have hw : wd z (e.pre.length + j + 1) = 8 := by unfold wd; rw [if_neg (by omega)]
      have hz1 := hall (e.pre.length + j + 1) (by omega)
      refine ⟨by omega, h.a, by show 8 ≤ 8; omega, by show Wd z e.pre.length j + wd z (e.pre.length + j + 1) + e.ct = 27 + 8; rw [hw]; omega, ?_, by show d.at_ + 1 ≤ _; omega, Or.inr fun i hi => ?_⟩
      · show wrap64 (d.c + 65280) = zV z (e.pre.length + j + 1) * pw 8 - Lf z e * pw 16
        rw [w64 (by omega) (by omega), hV, hw, hz1, p8, p16, hc]; omega
      · have hi : d.at_ + 1 ≤ i := hi
        rcases h.cur with e1 | e1
        · exact hall i (by omega)
        · exact e1 i hi
    · rw [if_neg h143]
      have hw : wd z (e.pre.length + j + 1) = 7 := by unfold wd; rw [if_pos ⟨h255, by omega⟩]
      have hc1 : d.at_ + 1 = e.pre.length + j := by
        rcases h.cur with e1 | e1
        · exact e1
        · have := e1 (e.pre.length + j + 1) (by omega); omega
      refine ⟨by omega, h.a, by show 7 ≤ 8; omega, by show Wd z e.pre.length j + wd z (e.pre.length + j + 1) + e.ct = 27 + 7; rw [hw]; omega, ?_, by show d.at_ + 1 + 1 ≤ _; omega, Or.inl (by show d.at_ + 1 + 1 = _; omega)⟩
      show wrap64 (d.c + (z (e.pre.length + j + 1) : Nat) * 512) = zV z (e.pre.length + j + 1) * pw 9 - Lf z e * pw 16
      rw [w64 (by omega) (by omega), hV, hw, p7, p9, p16, hc]; omega
  · rw [if_neg h255]
    have hw : wd z (e.pre.length + j + 1) = 8 := by unfold wd; rw [if_neg (fun h => h255 h.1)]
    have hc1 : d.at_ + 1 = e.pre.length + j := by
      rcases h.cur with e1 | e1
      · exact e1
      · exact absurd (e1 _ hat) h255
    have hn : f (d.at_ + 1) = z (e.pre.length + j + 1) := by rw [f1, show d.at_ + 2 = e.pre.length + j + 1 by omega]
    rw [hn]
    have hzb := hb255 (e.pre.length + j + 1)
    refine ⟨by omega, h.a, by show 8 ≤ 8; omega, by show Wd z e.pre.length j + wd z (e.pre.length + j + 1) + e.ct = 27 + 8; rw [hw]; omega, ?_, by show d.at_ + 1 + 1 ≤ _; omega, Or.inl (by show d.at_ + 1 + 1 = _; omega)⟩
    show wrap64 (d.c + (z (e.pre.length + j + 1) : Nat) * 256) = zV z (e.pre.length + j + 1) * pw 8 - Lf z e * pw 16
    rw [w64 (by omega) (by omega), hV, hw, p8, p16, hc]; omega
theorem Rl.tick {z f : Nat → Nat} {e : E} {d : D} {j N : Nat} (hz : Zok z) (hb255 : ∀ i, z i ≤ 255) (g : Good e) (ha : e.a < 32768) (hs : SP z (mTick e) ((mTick e).a : Nat)) (h : Rl z f e d j) (hf : ∀ i, i ≤ N → f i = z (i + 1)) (hN : e.pre.length + 4 ≤ N) :
    ∃ j', Rl z f (mTick e) (dTick f d) j' := by
  obtain ⟨s1, s2, s3⟩ := SP.tick hz g ha hs
  have hj := h.j4 g.ct0
  obtain ⟨b1, b2, _⟩ := h.bd s1 g.ct1
  have hb2 : d.c < 4611686018427387904 := by omega
  -- the byte that may come in
  obtain ⟨d', j', hd', hr, hct', hc'⟩ : ∃ d' j', (if d.ct = 0 then dTake f d else d) = d' ∧ Rl z f e d' j' ∧ 1 ≤ d'.ct ∧ (0 ≤ d'.c ∧ d'.c < 4611686018427387904) := by
    by_cases h0 : d.ct = 0
    · rw [if_pos h0]
      have hr := h.take hz hb255 h0 hf (by omega) b1 hb2
      have hb := hr.bd s1 g.ct1
      exact ⟨_, _, rfl, hr, by have := (dTake_ct f d).1; omega, hb.1, by have := hb.2.1; omega⟩
    · rw [if_neg h0]
      exact ⟨d, j, rfl, h, by omega, b1, hb2⟩
  have hj' := hr.j4 g.ct0
  have e1 : dTick f d = ⟨2 * d'.a, wrap64 (d'.c * 2), d'.ct - 1, d'.at_⟩ := by unfold dTick dDbl; rw [hd']
  have hw : wrap64 (d'.c * 2) = d'.c * 2 := w64 (by omega) (by omega)
  rw [e1, hw]
  have hcc : d'.c * 2 = zV z (e.pre.length + j') * pw (16 - (d'.ct - 1)) - Lf z (mTick e) * pw 16 := by
    have e2 : pw (16 - (d'.ct - 1)) = 2 * pw (16 - d'.ct) := by rw [show 16 - (d'.ct - 1) = 16 - d'.ct + 1 by have := hr.ct; omega, pw_succ]
    have e3 : (zV z (e.pre.length + j') : Int) * (2 * pw (16 - d'.ct)) = 2 * (zV z (e.pre.length + j') * pw (16 - d'.ct)) := Int.mul_left_comm _ _ _
    have e4 : 2 * Lf z e * pw 16 = 2 * (Lf z e * pw 16) := Int.mul_assoc _ _ _
    have e5 := hr.c
    rw [s2, e2, e3, e4]
    omega
  have hal := hr.al
  have hat1 := hr.at1
  have hcur := hr.cur
  by_cases h0 : (mDbl e).ct = 0
  · obtain ⟨w1, w2⟩ := s3 h0
    have hj2 : 2 ≤ j' := by
      have hct0 : e.ct - 1 = 0 := h0
      have := g.ct0
      rcases j' with _ | _ | j'
      · have := hr.j1; omega
      · have := (wd_le z (e.pre.length + 0 + 1)).2
        have e2 : Wd z e.pre.length (0 + 1) = 0 + wd z (e.pre.length + 0 + 1) := rfl
        omega
      · omega
    obtain ⟨i, rfl⟩ : ∃ i, j' = i + 1 := ⟨j' - 1, by omega⟩
    refine ⟨i, by omega, by show 2 * d'.a = _; rw [mTick_a, hr.a], by show d'.ct - 1 ≤ 8; have := hr.ct; omega, ?_, ?_, by show d'.at_ + 1 ≤ _; rw [w2]; omega, by show d'.at_ + 1 = _ ∨ ∀ i, d'.at_ + 1 ≤ i → z i = 255; rw [w2, show e.pre.length + 1 + i = e.pre.length + (i + 1) by omega]; exact hcur⟩
    · show Wd z (mTick e).pre.length i + (mTick e).ct = 27 + (d'.ct - 1)
      rw [w2, ← w1]
      have h5 := Wd_cons z e.pre.length i
      have hct0 : e.ct - 1 = 0 := h0
      have := g.ct0
      omega
    · show d'.c * 2 = zV z ((mTick e).pre.length + i) * pw (16 - (d'.ct - 1)) - Lf z (mTick e) * pw 16
      rw [w2, show e.pre.length + 1 + i = e.pre.length + (i + 1) by omega]; exact hcc
  · have ht : mTick e = mDbl e := if_neg h0
    have hl : (mTick e).pre = e.pre := by rw [ht]; rfl
    have hc3 : (mTick e).ct = e.ct - 1 := by rw [ht]; rfl
    have := g.ct0
    refine ⟨j', hr.j1, by show 2 * d'.a = _; rw [mTick_a, hr.a], by show d'.ct - 1 ≤ 8; have := hr.ct; omega, by show Wd z (mTick e).pre.length j' + _ = 27 + (d'.ct - 1); rw [hl, hc3]; omega, by show d'.c * 2 = zV z ((mTick e).pre.length + j') * _ - _; rw [hl]; exact hcc, by show d'.at_ + 1 ≤ _; rw [hl]; exact hat1, by show d'.at_ + 1 = _ ∨ ∀ i, d'.at_ + 1 ≤ i → z i = 255; rw [hl]; exact hcur⟩
theorem mTick_ge (e : E) : e.pre.length ≤ (mTick e).pre.length := by
  unfold mTick
  split
  · rw [mPut_len]; exact Nat.le_succ _
  · exact Nat.le_refl _
theorem mNorm_ge : ∀ (n : Nat) (e : E), e.pre.length ≤ (mNorm n e).pre.length
  | 0, e => Nat.le_refl _
  | n + 1, e => by
    have h := mTick_ge e
    unfold mNorm
    split
    · exact h
    · exact Nat.le_trans h (mNorm_ge n (mTick e))
theorem Rl.norm {z f : Nat → Nat} {N : Nat} (hz : Zok z) (hb255 : ∀ i, z i ≤ 255) (hf : ∀ i, i ≤ N → f i = z (i + 1)) : ∀ (n : Nat) (e : E) (d : D) (j : Nat), Good e → e.a < 32768 → 32768 ≤ e.a * 2 ^ n → SP z (mNorm n e) ((mNorm n e).a : Nat) → Rl z f e d j → (mNorm n e).pre.length + 4 ≤ N → ∃ j', Rl z f (mNorm n e) (dNorm f n d) j'
  | 0, e, d, j, g, ha, hn, hs, h, hN => by omega
  | n + 1, e, d, j, g, ha, hn, hs, h, hN => by
    have hta := mTick_a e
    have hda := dTick_a f d
    have hge := mNorm_ge (n + 1) e
    rw [h.a] at hda
    unfold mNorm at hs hN ⊢
    unfold dNorm
    rw [hda]
    rw [hta] at hs hN ⊢
    by_cases h1 : 32768 ≤ 2 * e.a
    · rw [if_pos h1] at hs hN
      rw [if_pos h1, if_pos h1]
      exact Rl.tick hz hb255 g ha hs h hf (by have := mTick_ge e; omega)
    · rw [if_neg h1] at hs hN
      rw [if_neg h1, if_neg h1]
      have hg2 := g.tick ha
      have hs2 := SP.norm hz n (mTick e) hg2 (by omega) (by rw [hta]; exact pow_step hn) hs
      obtain ⟨j', hr⟩ := Rl.tick hz hb255 g ha hs2 h hf (by have := mTick_ge e; have := mNorm_ge n (mTick e); omega)
      exact Rl.norm hz hb255 hf n (mTick e) (dTick f d) j' hg2 (by omega) (by rw [hta]; exact pow_step hn) hs hr hN
/-- Either part of the interval. -/
theorem Rl.lower {z f : Nat → Nat} {a c ct : Nat} {pre : List Nat} {last : Nat} {d : D} {j a' : Nat} (h : Rl z f ⟨a, c, ct, pre, last⟩ d j) : Rl z f ⟨a', c, ct, pre, last⟩ ⟨a', d.c, d.ct, d.at_⟩ j :=
  ⟨h.j1, rfl, h.ct, h.al, h.c, h.at1, h.cur⟩
theorem Rl.upper {z f : Nat → Nat} {a c ct : Nat} {pre : List Nat} {last : Nat} {d : D} {j a' q : Nat} (h : Rl z f ⟨a, c, ct, pre, last⟩ d j) (h1 : -9223372036854775808 ≤ d.c - (q : Int) * 65536) (h2 : d.c - (q : Int) * 65536 ≤ 9223372036854775807) : Rl z f ⟨a', c + q, ct, pre, last⟩ ⟨a', wrap64 (d.c - (q : Int) * 65536), d.ct, d.at_⟩ j := by
  refine ⟨h.j1, rfl, h.ct, h.al, ?_, h.at1, h.cur⟩
  have hL : Lf z ⟨a', c + q, ct, pre, last⟩ = Lf z ⟨a, c, ct, pre, last⟩ + q := by unfold Lf; simp only; omega
  show wrap64 (d.c - (q : Int) * 65536) = zV z (pre.length + j) * pw (16 - d.ct) - Lf z ⟨a', c + q, ct, pre, last⟩ * pw 16
  have hc : d.c = zV z (pre.length + j) * pw (16 - d.ct) - Lf z ⟨a, c, ct, pre, last⟩ * pw 16 := h.c
  rw [w64 h1 h2, hL, Int.add_mul, show pw 16 = 65536 from by decide, hc, show pw 16 = 65536 from by decide]
  omega
end Go.Proofs.YtdgkeghgfibolaaDoor
