/- What was encoded is decoded: mathematics alone. -/
import Derived.Test.YtdgkeghgfibolaaDoorMqZ3
set_option linter.unusedVariables false
set_option linter.unusedSimpArgs false
namespace Go.Proofs.YtdgkeghgfibolaaDoor
open Go.RowKit

/-- One sign's way in either: what stands between the sign and the shifts. -/
theorem Rl.sym {z f : Nat → Nat} {e : E} {d : D} {cx : List Nat} {j k b N : Nat} (hz : Zok z) (hb255 : ∀ i, z i ≤ 255) (fe : Fine e) (ok : COk cx) (hk : k < 19) (hb : b ≤ 1) (hs : SP z (sE e cx k b) ((sE e cx k b).a : Nat)) (h : Rl z f e d j) (hf : ∀ i, i ≤ N → f i = z (i + 1)) (hN : (sE e cx k b).pre.length + 4 ≤ N) :
    SP z e (e.a : Nat) ∧ (dB f d cx k).1 = b ∧ (dB f d cx k).2.2 = sC e cx k b ∧ ∃ j', Rl z f (sE e cx k b) (dB f d cx k).2.1 j' := by
  obtain ⟨q1, q2, _, _⟩ := qe_bd _ (ok.i k hk)
  have hm := ok.m k hk
  have a2 := fe.a2
  have a3 := fe.a3
  have ct1 := fe.ct1
  have ct0 := fe.ct0
  have hg := fe.toGood
  have hda := h.a
  unfold sE mSame mOther at hs hN ⊢
  unfold sC dB
  generalize cx.getD (k * 2) 0 = i at *
  generalize cx.getD (k * 2 + 1) 0 = m at *
  generalize qe i = Q at *
  obtain ⟨a, c, ct, pre, last⟩ := e
  obtain ⟨da, dc, dct, dat⟩ := d
  simp only at hda a2 a3 ct1 ct0
  subst hda
  simp only at hs hN ⊢
  have gl : Good ⟨Q, c, ct, pre, last⟩ := ⟨hg.toInv.narrow (by omega) (by omega) (by show c + Q ≤ c + da; omega), ct0⟩
  have gu : 1 ≤ da - Q → Good ⟨da - Q, c + Q, ct, pre, last⟩ := fun h => ⟨hg.toInv.narrow h (by omega) (by show c + Q + (da - Q) ≤ c + da; omega), ct0⟩
  -- the lower part
  have low : SP z ⟨Q, c, ct, pre, last⟩ (Q : Nat) → SP z ⟨da, c, ct, pre, last⟩ (da : Nat) ∧ dc / 65536 < (Q : Int) := fun hs1 => by
    have h1 := (h.lower (a' := Q)).bd hs1 ct1
    have h2 : dc < (Q : Int) * 65536 := h1.2.1
    exact ⟨hs1.narrow (Nat.le_refl _) (by omega), by omega⟩
  -- the upper one
  have upp : SP z ⟨da - Q, c + Q, ct, pre, last⟩ ((da - Q : Nat) : Int) → SP z ⟨da, c, ct, pre, last⟩ (da : Nat) ∧ ¬ dc / 65536 < (Q : Int) ∧ Rl z f ⟨da - Q, c + Q, ct, pre, last⟩ ⟨da - Q, wrap64 (dc - (Q : Int) * 65536), dct, dat⟩ j := fun hs1 => by
    have hs0 : SP z ⟨da, c, ct, pre, last⟩ (da : Nat) := hs1.narrow (by omega) (by omega)
    have h0 := h.bd hs0 ct1
    have hb1 : (0 : Int) ≤ dc := h0.1
    have hb2 : dc < (da : Int) * 65536 := h0.2.1
    have hr := h.upper (a' := da - Q) (q := Q) (by show _ ≤ dc - _; omega) (by show dc - _ ≤ _; omega)
    have h1 := hr.bd hs1 ct1
    have h2 : 0 ≤ wrap64 (dc - (Q : Int) * 65536) := h1.1
    rw [w64 (by omega) (by omega)] at h2
    exact ⟨hs0, by omega, hr⟩
  by_cases hbm : b = m
  · rw [if_pos hbm] at hs hN
    simp only [if_pos hbm]
    by_cases h8 : 32768 ≤ da - Q
    · rw [if_pos h8] at hs hN
      simp only [if_pos h8]
      obtain ⟨u1, u2, u3⟩ := upp hs
      rw [if_neg u2]
      exact ⟨u1, hbm.symm, rfl, j, u3⟩
    · rw [if_neg h8] at hs hN
      simp only [if_neg h8]
      by_cases hq : da - Q < Q
      · rw [if_pos hq] at hs hN
        simp only [if_pos hq]
        have hs1 := SP.norm hz 16 _ gl (by show Q < 32768; omega) (by show _ ≤ Q * 2 ^ 16; omega) hs
        obtain ⟨l1, l2⟩ := low hs1
        rw [if_pos l2]
        exact ⟨l1, hbm.symm, rfl, Rl.norm hz hb255 hf 16 _ _ j gl (by show Q < 32768; omega) (by show _ ≤ Q * 2 ^ 16; omega) hs (h.lower (a' := Q)) hN⟩
      · rw [if_neg hq] at hs hN
        simp only [if_neg hq]
        have g := gu (by omega)
        have hs1 := SP.norm hz 16 _ g (by show da - Q < 32768; omega) (by show _ ≤ (da - Q) * 2 ^ 16; omega) hs
        obtain ⟨u1, u2, u3⟩ := upp hs1
        rw [if_neg u2]
        exact ⟨u1, hbm.symm, rfl, Rl.norm hz hb255 hf 16 _ _ j g (by show da - Q < 32768; omega) (by show _ ≤ (da - Q) * 2 ^ 16; omega) hs u3 hN⟩
  · rw [if_neg hbm] at hs hN
    simp only [if_neg hbm]
    by_cases hq : da - Q < Q
    · rw [if_pos hq] at hs hN
      simp only [if_pos hq]
      have g := gu (by omega)
      have hs1 := SP.norm hz 16 _ g (by show da - Q < 32768; omega) (by show _ ≤ (da - Q) * 2 ^ 16; omega) hs
      obtain ⟨u1, u2, u3⟩ := upp hs1
      rw [if_neg u2, if_neg (by omega)]
      exact ⟨u1, by show 1 - m = b; omega, rfl, Rl.norm hz hb255 hf 16 _ _ j g (by show da - Q < 32768; omega) (by show _ ≤ (da - Q) * 2 ^ 16; omega) hs u3 hN⟩
    · rw [if_neg hq] at hs hN
      simp only [if_neg hq]
      have hs1 := SP.norm hz 16 _ gl (by show Q < 32768; omega) (by show _ ≤ Q * 2 ^ 16; omega) hs
      obtain ⟨l1, l2⟩ := low hs1
      rw [if_pos l2]
      exact ⟨l1, by show 1 - m = b; omega, rfl, Rl.norm hz hb255 hf 16 _ _ j gl (by show Q < 32768; omega) (by show _ ≤ Q * 2 ^ 16; omega) hs (h.lower (a' := Q)) hN⟩
/-- The beginning. -/
theorem Rl.new {z f : Nat → Nat} {N : Nat} (hz : Zok z) (hb255 : ∀ i, z i ≤ 255) (hs : SP z mNew (32768 : Int)) (hf : ∀ i, i ≤ N → f i = z (i + 1)) (hN : 4 ≤ N) : Rl z f mNew (dNew f) 2 := by
  have hL : Lf z mNew = 0 := by
    unfold Lf mNew
    simp
    rw [show zV z 0 = z 0 from rfl]; omega
  have p15 : pw (27 - 12) = 32768 := by decide
  have ha := hs.a 1 (Nat.le_refl _)
  rw [hL] at ha
  have ha1 : (zV z 1 : Int) * pw (27 - 12) < (0 + 32768) * pw (wd z 1) := by
    have e : Wd z 0 1 = wd z 1 := by simp [Wd]
    rw [← e]; exact ha
  rw [p15] at ha1
  have hV1 := zV_succ z 0
  have hw1p := pw_pos (wd z 1)
  have hz0 : z 0 = 0 := by
    rcases Nat.eq_zero_or_pos (z 0) with h | h
    · exact h
    · exfalso
      have h2 := Int.mul_le_mul_of_nonneg_right (show (1 : Int) ≤ (z 0 : Int) by omega) (Int.le_of_lt hw1p)
      have h3 : (zV z 0 : Int) = z 0 := rfl
      rw [h3] at hV1
      have hV1' : (zV z 1 : Int) = z 0 * pw (wd z 1) + z 1 := hV1
      omega
  have hw1 : wd z 1 = 8 := by unfold wd; rw [if_neg (by simp [hz0])]
  have f0 : f 0 = z 1 := hf 0 (by omega)
  have f1 : f 1 = z 2 := hf 1 (by omega)
  have hz1 := hb255 1
  have hz2 := hb255 2
  have hV1' : (zV z 1 : Int) = z 1 := by
    have h3 : (zV z 0 : Int) = z 0 := rfl
    rw [h3, hz0] at hV1
    have h4 : (zV z 1 : Int) = 0 * pw (wd z 1) + z 1 := hV1
    omega
  have hV2 : (zV z 2 : Int) = zV z 1 * pw (wd z 2) + z 2 := zV_succ z 1
  rw [hV1'] at hV2
  have p7 : pw 7 = 128 := by decide
  have p8 : pw 8 = 256 := by decide
  have al : ∀ w, wd z 2 = w → Wd z 0 2 = 8 + w := fun w hw => by
    have : Wd z 0 2 = 0 + wd z (0 + 0 + 1) + wd z (0 + 1 + 1) := rfl
    rw [this]; show 0 + wd z 1 + wd z 2 = _; rw [hw1, hw]
  have hcz : ∀ x : Int, x - Lf z mNew * pw 16 = x := fun x => by rw [hL]; simp
  unfold dNew dTake
  simp only
  rw [f0, show (0 : Nat) + 1 = 1 from rfl, f1]
  by_cases h255 : z 1 = 255
  · by_cases h143 : 143 < z 2
    · have hall : ∀ m, 1 ≤ m → z m = 255 := by
        rcases hz 1 h255 with h | h
        · have h : z 2 ≤ 143 := h; omega
        · exact h
      have hw2 : wd z 2 = 8 := by unfold wd; rw [if_neg (by omega)]
      rw [if_pos h255, if_pos h143]
      refine ⟨by omega, rfl, by show 8 - 7 ≤ 8; omega, by show Wd z 0 2 + 12 = 27 + (8 - 7); rw [al _ hw2], ?_, by show 0 + 1 ≤ 0 + 2; omega, Or.inr fun i hi => hall i hi⟩
      show wrap64 (wrap64 (((z 1 : Nat) : Int) * 65536 + 65280) * 128) = zV z 2 * pw (16 - 1) - Lf z mNew * pw 16
      rw [hcz, hV2, hw2, p8, show pw (16 - 1) = 32768 from by decide, w64 (x := ((z 1 : Nat) : Int) * 65536 + 65280) (by omega) (by omega), w64 (by omega) (by omega)]
      have := hall 2 (by omega)
      omega
    · have hw2 : wd z 2 = 7 := by unfold wd; rw [if_pos ⟨h255, by omega⟩]
      rw [if_pos h255, if_neg h143]
      refine ⟨by omega, rfl, by show 7 - 7 ≤ 8; omega, by show Wd z 0 2 + 12 = 27 + (7 - 7); rw [al _ hw2], ?_, by show 0 + 1 + 1 ≤ 0 + 2; omega, Or.inl rfl⟩
      show wrap64 (wrap64 (((z 1 : Nat) : Int) * 65536 + ((z 2 : Nat) : Int) * 512) * 128) = zV z 2 * pw (16 - 0) - Lf z mNew * pw 16
      rw [hcz, hV2, hw2, p7, show pw (16 - 0) = 65536 from by decide, w64 (x := ((z 1 : Nat) : Int) * 65536 + ((z 2 : Nat) : Int) * 512) (by omega) (by omega), w64 (by omega) (by omega)]
      omega
  · have hw2 : wd z 2 = 8 := by unfold wd; rw [if_neg (fun h => h255 h.1)]
    rw [if_neg h255]
    refine ⟨by omega, rfl, by show 8 - 7 ≤ 8; omega, by show Wd z 0 2 + 12 = 27 + (8 - 7); rw [al _ hw2], ?_, by show 0 + 1 + 1 ≤ 0 + 2; omega, Or.inl rfl⟩
    show wrap64 (wrap64 (((z 1 : Nat) : Int) * 65536 + ((z 2 : Nat) : Int) * 256) * 128) = zV z 2 * pw (16 - 1) - Lf z mNew * pw 16
    rw [hcz, hV2, hw2, p8, show pw (16 - 1) = 32768 from by decide, w64 (x := ((z 1 : Nat) : Int) * 65536 + ((z 2 : Nat) : Int) * 256) (by omega) (by omega), w64 (by omega) (by omega)]
    omega
end Go.Proofs.YtdgkeghgfibolaaDoor
