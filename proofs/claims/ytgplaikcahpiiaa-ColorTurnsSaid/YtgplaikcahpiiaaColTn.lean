/- ColorTurns, walked. -/
import Derived.Test.YtgplaikcahpiiaaColRb
set_option linter.unusedVariables false
namespace Go.Proofs.Ytgplaikcahpiiaa
open Go.RowKit

theorem f0_is (a b c : List Int) (n : Nat) : map2 addF c (map3 backF a b c n) n = map3 f0 a b c n := by
  unfold map2 map3
  apply List.map_congr_left
  intro i hi
  rw [ranged_getD, if_pos (by simpa using hi)]
  rfl
theorem f2_is (a b c : List Int) (n : Nat) : map2 addF b (map3 backF a b c n) n = map3 f2 a b c n := by
  unfold map2 map3
  apply List.map_congr_left
  intro i hi
  rw [ranged_getD, if_pos (by simpa using hi)]
  rfl

set_option maxRecDepth 100000 in
set_option maxHeartbeats 8000000 in
theorem walk_colorTurns (a0 : Option Addr) (len0 cap0 : Nat) (z0 : List Int) (a1 : Option Addr) (len1 cap1 : Nat) (z1 : List Int) (a2 : Option Addr) (len2 cap2 : Nat) (z2 : List Int) (w : World) (w0 : IsRow .i64 w a0 len0 cap0 z0) (w1 : IsRow .i64 w a1 len1 cap1 z1) (w2 : IsRow .i64 w a2 len2 cap2 z2) :
    Calls Try.prog 4 #[.slice a0 len0 cap0, .slice a1 len1 cap1, .slice a2 len2 cap2] w fun e w' => e = .returned (.bool true) ∧ Below w.heap.size w w' := by
  have H0 := Lib.hid (rowI_is w0)
  have H1 := Lib.hid (rowI_is w1)
  have H2 := Lib.hid (rowI_is w2)
  clear w0 w1 w2
  go_enter Try.func4, Try.ntmps4
  go_wp2_with fail
  refine (known11 _).mono ?_
  rintro e w1 ⟨rfl, b1⟩
  go_wp2_with fail
  refine (three_any (H0.out.keep b1 (Nat.le_refl _)) (H1.out.keep b1 (Nat.le_refl _)) (H2.out.keep b1 (Nat.le_refl _))).mono ?_
  rintro e w2 ⟨A1, c1, A2, c2, A3, c3, n, x, y, z, rfl, ht, b2⟩
  have b2 := b1.trans (b2.mono b1.size)
  clear b1 H0 H1 H2
  obtain ⟨hn, hx, hy, hz, rx, ry, rz⟩ := ht
  go_wp2_with fail
  refine (turn_any hx hy hz (by omega) (rng_mono rx (by omega)) (rng_mono ry (by omega)) (rng_mono rz (by omega))).mono ?_
  rintro e w3 ⟨P1, e1, P2, e2, P3, e3, rfl, hp, hq, hr, b3⟩
  have hx := hx.keep b3 (Nat.le_refl _)
  have hy := hy.keep b3 (Nat.le_refl _)
  have hz := hz.keep b3 (Nat.le_refl _)
  have b3 := b2.trans (b3.mono b2.size)
  clear b2
  go_wp2_with fail
  refine (rturn_any hx hy hz (by omega) (rng_mono rx (by omega)) (rng_mono ry (by omega)) (rng_mono rz (by omega))).mono ?_
  rintro e w4 ⟨I1, f1, I2, f2, I3, f3, rfl, hi, hj, hk, b4⟩
  have hx := hx.keep b4 (Nat.le_refl _)
  have hy := hy.keep b4 (Nat.le_refl _)
  have hz := hz.keep b4 (Nat.le_refl _)
  have hp := hp.keep b4 (Nat.le_refl _)
  have hq := hq.keep b4 (Nat.le_refl _)
  have hr := hr.keep b4 (Nat.le_refl _)
  have b4 := b3.trans (b4.mono b3.size)
  clear b3
  go_wp2_with fail
  refine (back_any hx hy hz (by omega) (rng_mono rx (by omega)) (rng_mono ry (by omega)) (rng_mono rz (by omega))).mono ?_
  rintro e w5 ⟨L1, g1, L2, g2, L3, g3, rfl, hl, hm, ho, b5⟩
  rw [f0_is] at hl
  rw [f2_is] at ho
  have hx := hx.keep b5 (Nat.le_refl _)
  have hy := hy.keep b5 (Nat.le_refl _)
  have hz := hz.keep b5 (Nat.le_refl _)
  have hp := hp.keep b5 (Nat.le_refl _)
  have hq := hq.keep b5 (Nat.le_refl _)
  have hr := hr.keep b5 (Nat.le_refl _)
  have hi := hi.keep b5 (Nat.le_refl _)
  have hj := hj.keep b5 (Nat.le_refl _)
  have hk := hk.keep b5 (Nat.le_refl _)
  have b5 := b4.trans (b5.mono b4.size)
  clear b4
  go_wp2_with fail
  refine (rback_any hx hy hz (by omega) (rng_mono rx (by omega)) (rng_mono ry (by omega)) (rng_mono rz (by omega))).mono ?_
  rintro e w6 ⟨S1, s1, S2, s2, S3, s3, rfl, hs, ht, hu, b6⟩
  have hp := hp.keep b6 (Nat.le_refl _)
  have hq := hq.keep b6 (Nat.le_refl _)
  have hr := hr.keep b6 (Nat.le_refl _)
  have hi := hi.keep b6 (Nat.le_refl _)
  have hj := hj.keep b6 (Nat.le_refl _)
  have hk := hk.keep b6 (Nat.le_refl _)
  have hl := hl.keep b6 (Nat.le_refl _)
  have hm := hm.keep b6 (Nat.le_refl _)
  have ho := ho.keep b6 (Nat.le_refl _)
  have b6 := b5.trans (b6.mono b5.size)
  clear b5 hx hy hz rx ry rz
  go_wp2_with fail
  refine (ints_yes hp hi).mono ?_
  rintro e v0 ⟨rfl, d0⟩
  have hq := hq.drew d0
  have hj := hj.drew d0
  have hr := hr.drew d0
  have hk := hk.drew d0
  have hl := hl.drew d0
  have hs := hs.drew d0
  have hm := hm.drew d0
  have ht := ht.drew d0
  have ho := ho.drew d0
  have hu := hu.drew d0
  have k0 := Drew.to b6 d0
  clear hp hi b6
  go_wp2_with fail
  refine (ints_yes hq hj).mono ?_
  rintro e v1 ⟨rfl, d1⟩
  have hr := hr.drew d1
  have hk := hk.drew d1
  have hl := hl.drew d1
  have hs := hs.drew d1
  have hm := hm.drew d1
  have ht := ht.drew d1
  have ho := ho.drew d1
  have hu := hu.drew d1
  have k1 := Drew.to k0 d1
  clear hq hj k0
  go_wp2_with fail
  refine (ints_yes hr hk).mono ?_
  rintro e v2 ⟨rfl, d2⟩
  have hl := hl.drew d2
  have hs := hs.drew d2
  have hm := hm.drew d2
  have ht := ht.drew d2
  have ho := ho.drew d2
  have hu := hu.drew d2
  have k2 := Drew.to k1 d2
  clear hr hk k1
  go_wp2_with fail
  refine (ints_yes hl hs).mono ?_
  rintro e v3 ⟨rfl, d3⟩
  have hm := hm.drew d3
  have ht := ht.drew d3
  have ho := ho.drew d3
  have hu := hu.drew d3
  have k3 := Drew.to k2 d3
  clear hl hs k2
  go_wp2_with fail
  refine (ints_yes hm ht).mono ?_
  rintro e v4 ⟨rfl, d4⟩
  have ho := ho.drew d4
  have hu := hu.drew d4
  have k4 := Drew.to k3 d4
  clear hm ht k3
  go_wp2_with fail
  refine (ints_yes ho hu).mono ?_
  rintro e v5 ⟨rfl, d5⟩
  have k5 := Drew.to k4 d5
  clear ho hu k4
  go_wp2
  go_ret
  exact ⟨rfl, k5⟩
end Go.Proofs.Ytgplaikcahpiiaa
