/- ColorPlaces, walked. -/
import Derived.Test.YtgplaikcahpiiaaColBack
import Derived.Deep.RegionWith
set_option linter.unusedVariables false
namespace Go.Proofs.Ytgplaikcahpiiaa
open Go.RowKit

theorem RowI.cut {w : World} {A : Option Addr} {n c : Nat} {l : List Int} (h : RowI w A n c l) {k : Nat} (hk : k < n) : RowI w (if c = k then A else A.map (·.add k)) 1 (c - k) [l.getD k 0] := by
  have h1 := h.2.1
  have h2 := h.2.2.1
  obtain ⟨b, o, rfl, hb, hc⟩ := h.cell hk
  refine ⟨rfl, by omega, by omega, fun e => ?_, ?_⟩
  · rw [if_neg (by omega)] at e; simp at e
  · intro i u hu
    rcases i with _ | i
    · simp at hu
      subst hu
      refine ⟨b, o + k, ?_, hb, by simpa using hc⟩
      rw [if_neg (by omega)]
      simp only [Option.map_some, Addr.add]
      split
      · subst_vars; rfl
      · rfl
    · simp at hu

set_option maxHeartbeats 4000000 in
theorem walk_colorPlaces (a0 : Option Addr) (len0 cap0 : Nat) (z0 : List Int) (a1 : Option Addr) (len1 cap1 : Nat) (z1 : List Int) (a2 : Option Addr) (len2 cap2 : Nat) (z2 : List Int) (a3 : Int) (w : World) (w0 : IsRow .i64 w a0 len0 cap0 z0) (w1 : IsRow .i64 w a1 len1 cap1 z1) (w2 : IsRow .i64 w a2 len2 cap2 z2) (w3 : (Lit.int .i64 a3).wf = true) :
    Calls Try.prog 9 #[.slice a0 len0 cap0, .slice a1 len1 cap1, .slice a2 len2 cap2, .int .i64 a3] w fun e w' => e = .returned (.bool true) ∧ Below w.heap.size w w' := by
  have H0 := Lib.hid (rowI_is w0)
  have H1 := Lib.hid (rowI_is w1)
  have H2 := Lib.hid (rowI_is w2)
  clear w0 w1 w2 w3
  go_enter Try.func9, Try.ntmps9
  go_wp2_with fail
  refine (known11 _).mono ?_
  rintro e w1 ⟨rfl, b1⟩
  go_wp2_with fail
  refine (three_any (H0.out.keep b1 (Nat.le_refl _)) (H1.out.keep b1 (Nat.le_refl _)) (H2.out.keep b1 (Nat.le_refl _))).mono ?_
  rintro e w2 ⟨A1, c1, A2, c2, A3, c3, n, x, y, z, rfl, ht, b2⟩
  have b2 := b1.trans (b2.mono b1.size)
  clear b1 H0 H1 H2
  by_cases hn0 : n = 0
  · subst hn0
    go_wp2
    go_ret
    exact ⟨rfl, b2⟩
  have hnb : ((n : Int) == 0) = false := by simp; omega
  have hn60 := ht.1
  go_wp2_with fail
  refine (within11 _ _ _ (by omega) (by omega)).mono ?_
  rintro e w' ⟨rfl, rfl⟩
  obtain ⟨k, hk⟩ : ∃ k : Nat, a3 % (n : Int) = k := ⟨(a3 % (n : Int)).toNat, by have := Int.emod_nonneg a3 (show (n : Int) ≠ 0 by omega); omega⟩
  have hkn : k < n := by have := Int.emod_lt_of_pos a3 (show 0 < (n : Int) by omega); omega
  rw [hk]
  clear hk
  go_wp2_with fail
  refine ht.turn.mono ?_
  rintro e w3 ⟨B1, e1, B2, e2, B3, e3, rfl, g1, g2, g3, b3⟩
  have ht := ht.keep b3 (Nat.le_refl _)
  have b3 := b2.trans (b3.mono b2.size)
  clear b2
  obtain ⟨_, hx, hy, hz, rx, ry, rz⟩ := ht
  have u1 : (0 : Int) ≤ (k : Int) + 1 := by omega
  have u2 : (k : Int) + 1 ≤ (c1 : Int) := by have := hx.2.1; omega
  have u3 : (k : Int) + 1 ≤ (c2 : Int) := by have := hy.2.1; omega
  have u4 : (k : Int) + 1 ≤ (c3 : Int) := by have := hz.2.1; omega
  have u5 : k ≤ ((k : Int) + 1).toNat := by omega
  have u6 : ((k : Int) + 1).toNat - k = 1 := by omega
  have u7 : (0 : Int) ≤ (k : Int) := by omega
  have u8 : IntKind.i64.wrap ((k : Int) + 1) = (k : Int) + 1 := IntWalk.i64_in _ (by omega)
  have q1 := hx.cut hkn
  have q2 := hy.cut hkn
  have q3 := hz.cut hkn
  obtain ⟨C1, hC1⟩ : ∃ C1, (if c1 = k then A1 else A1.map (·.add k)) = C1 := ⟨_, rfl⟩
  obtain ⟨C2, hC2⟩ : ∃ C2, (if c2 = k then A2 else A2.map (·.add k)) = C2 := ⟨_, rfl⟩
  obtain ⟨C3, hC3⟩ : ∃ C3, (if c3 = k then A3 else A3.map (·.add k)) = C3 := ⟨_, rfl⟩
  rw [hC1] at q1
  rw [hC2] at q2
  rw [hC3] at q3
  have G := Lib.hid (And.intro g1 (And.intro g2 g3))
  have Q := Lib.hid (And.intro q1 (And.intro q2 q3))
  have R := Lib.hid (And.intro (rx k) (And.intro (ry k) (rz k)))
  clear g1 g2 g3 q1 q2 q3 hx hy hz rx ry rz
  go_wp2_with fail
  go_region_with (go_at_call 20; refine (turn_any (Q.out.1.drew (Drew.mk _ 1)) (Q.out.2.1.drew (Drew.mk _ 1)) (Q.out.2.2.drew (Drew.mk _ 1)) (by omega) (rng_one _ _ (by have := R.out.1; omega) (by omega)) (rng_one _ _ (by have := R.out.2.1; omega) (by omega)) (rng_one _ _ (by have := R.out.2.2; omega) (by omega))).mono ?_; rintro e w4 ⟨D1, h1, D2, h2, D3, h3, rfl, k1, k2, k3, b4⟩)
  have b4 := (Drew.mk w3 1).below.trans (b4.mono (Nat.le_refl _))
  have g1 := G.out.1.keep b4 (Nat.le_refl _)
  have g2 := G.out.2.1.keep b4 (Nat.le_refl _)
  have g3 := G.out.2.2.keep b4 (Nat.le_refl _)
  have b5 := b3.trans (b4.mono b3.size)
  obtain ⟨p1, o1, rfl, m1, v1⟩ := g1.cell hkn
  obtain ⟨p2, o2, rfl, m2, v2⟩ := g2.cell hkn
  obtain ⟨p3, o3, rfl, m3, v3⟩ := g3.cell hkn
  obtain ⟨r1, s1, rfl, n1, w1'⟩ := k1.cell (k := 0) (by omega)
  obtain ⟨r2, s2, rfl, n2, w2'⟩ := k2.cell (k := 0) (by omega)
  obtain ⟨r3, s3, rfl, n3, w3'⟩ := k3.cell (k := 0) (by omega)
  have e1' : (map3 turnF x y z n).getD k 0 = turnF (x.getD k 0) (y.getD k 0) (z.getD k 0) := by unfold map3; rw [ranged_getD, if_pos hkn]
  have e2' : (map2 subF z y n).getD k 0 = subF (z.getD k 0) (y.getD k 0) := by unfold map2; rw [ranged_getD, if_pos hkn]
  have e3' : (map2 subF x y n).getD k 0 = subF (x.getD k 0) (y.getD k 0) := by unfold map2; rw [ranged_getD, if_pos hkn]
  rw [e1'] at v1
  rw [e2'] at v2
  rw [e3'] at v3
  change w4.cell? ⟨r1, s1, none⟩ = some (.int .i64 (turnF (x.getD k 0) (y.getD k 0) (z.getD k 0))) at w1'
  change w4.cell? ⟨r2, s2, none⟩ = some (.int .i64 (subF (z.getD k 0) (y.getD k 0))) at w2'
  change w4.cell? ⟨r3, s3, none⟩ = some (.int .i64 (subF (x.getD k 0) (y.getD k 0))) at w3'
  generalize turnF (x.getD k 0) (y.getD k 0) (z.getD k 0) = t1 at *
  generalize subF (z.getD k 0) (y.getD k 0) = t2 at *
  generalize subF (x.getD k 0) (y.getD k 0) = t3 at *
  have t0 : ((n : Int) == (n : Int)) = true := beq_self_eq_true _
  have t11 : (t1 == t1) = true := beq_self_eq_true _
  have t22 : (t2 == t2) = true := beq_self_eq_true _
  have t33 : (t3 == t3) = true := beq_self_eq_true _
  have kk : (k : Int) < (n : Int) := by omega
  clear g1 g2 g3 k1 k2 k3 e1' e2' e3' G Q R b3 b4 u1 u2 u3 u4 u5 u6 u8 hC1 hC2 hC3 hkn
  go_wp2
  go_quiet (fail)
  go_wp2
  go_ret
  exact ⟨rfl, Drew.to b5 (Drew.mk _ _)⟩
end Go.Proofs.Ytgplaikcahpiiaa
