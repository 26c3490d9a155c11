/- ColorBack, walked. -/
import Derived.Test.YtgplaikcahpiiaaColMore
set_option linter.unusedVariables false
namespace Go.Proofs.Ytgplaikcahpiiaa
open Go.RowKit

theorem ranged_getD (f : Nat → Int) (n i : Nat) : ((List.range n).map f).getD i 0 = if i < n then f i else 0 := by
  rw [List.getD_eq_getElem?_getD, List.getElem?_map]
  rcases Nat.lt_or_ge i n with h | h
  · rw [List.getElem?_range h, if_pos h]; rfl
  · rw [List.getElem?_eq_none (by simpa using h), if_neg (by omega)]; rfl
theorem ranged_eq (f : Nat → Int) (x : List Int) (n : Nat) (hx : x.length = n) (h : ∀ i, i < n → f i = x.getD i 0) : (List.range n).map f = x := by
  apply List.ext_getElem?
  intro i
  rw [List.getElem?_map]
  rcases Nat.lt_or_ge i n with hi | hi
  · rw [List.getElem?_range hi, List.getElem?_eq_getElem (by omega)]
    show some (f i) = _
    rw [h i hi, List.getD_eq_getElem?_getD, List.getElem?_eq_getElem (by omega)]; rfl
  · rw [List.getElem?_eq_none (by simpa using hi), List.getElem?_eq_none (by omega)]; rfl
theorem rng_turn {x y z : List Int} {n : Nat} (h1 : Rng 524288 x) (h2 : Rng 524288 y) (h3 : Rng 524288 z) : Rng 268435456 (map3 turnF x y z n) := fun i => by
  have a := h1 i; have b := h2 i; have c := h3 i
  unfold map3
  rw [ranged_getD]
  unfold turnF
  split <;> omega
theorem rng_sub {x y : List Int} {n : Nat} (h1 : Rng 524288 x) (h2 : Rng 524288 y) : Rng 268435456 (map2 subF x y n) := fun i => by
  have a := h1 i; have b := h2 i
  unfold map2
  rw [ranged_getD]
  unfold subF
  split <;> omega
theorem back_g {x y z : List Int} {n : Nat} (hy : y.length = n) : map3 backF (map3 turnF x y z n) (map2 subF z y n) (map2 subF x y n) n = y := by
  refine ranged_eq _ _ _ hy fun i hi => ?_
  unfold map3 map2
  rw [ranged_getD, ranged_getD, ranged_getD, if_pos hi, if_pos hi, if_pos hi]
  unfold backF turnF subF
  omega
theorem back_x {x y : List Int} {n : Nat} (hx : x.length = n) : map2 addF (map2 subF x y n) y n = x := by
  refine ranged_eq _ _ _ hx fun i hi => ?_
  unfold map2
  rw [ranged_getD, if_pos hi]
  unfold addF subF
  omega

/-- Samples within their bounds. -/
def inF (lo hi : Int) (x : List Int) : List Int := x.map fun a => lo + a % (hi - lo + 1)
theorem in_rng {lo hi : Int} {x : List Int} (h1 : lo ≤ hi) : ∀ a ∈ inF lo hi x, lo ≤ a ∧ a ≤ hi := by
  intro a ha
  obtain ⟨b, _, rfl⟩ := List.mem_map.1 ha
  have r0 := Int.emod_nonneg b (show hi - lo + 1 ≠ 0 by omega)
  have r1 := Int.emod_lt_of_pos b (show 0 < hi - lo + 1 by omega)
  omega
theorem unsh_sh {d : Nat} {s : Bool} {v : List Int} {n : Nat} (hv : v.length = n) (h : ∀ a ∈ v, loF d s ≤ a ∧ a ≤ hiF d s) : map1 (unF d s) (map1 (· - levelF d s) v n) n = v := by
  refine ranged_eq _ _ _ hv fun i hi => ?_
  unfold map1
  rw [ranged_getD, if_pos hi]
  have h1 := h (v.getD i 0) (by rw [List.getD_eq_getElem?_getD, List.getElem?_eq_getElem (by omega)]; exact List.getElem_mem _)
  show unF d s (v.getD i 0 - levelF d s) = v.getD i 0
  rw [un_is]
  omega
theorem rng_sh {d : Nat} {s : Bool} {v : List Int} {n : Nat} (hd : 1 ≤ d) (hd2 : d ≤ 16) (h : Rng 65536 v) : Rng 1073741824 (map1 (· - levelF d s) v n) := fun i => by
  have a := h i
  have b := level_rng d s hd hd2
  unfold map1
  rw [ranged_getD]
  show (-1073741824 ≤ if i < n then v.getD i 0 - levelF d s else 0) ∧ (if i < n then v.getD i 0 - levelF d s else 0) ≤ 1073741824
  split <;> omega

set_option maxHeartbeats 4000000 in
theorem walk_colorBack (a0 : Option Addr) (len0 cap0 : Nat) (z0 : List Int) (a1 : Option Addr) (len1 cap1 : Nat) (z1 : List Int) (a2 : Option Addr) (len2 cap2 : Nat) (z2 : List Int) (a3 : Int) (a4 : Bool) (w : World) (w0 : IsRow .i64 w a0 len0 cap0 z0) (w1 : IsRow .i64 w a1 len1 cap1 z1) (w2 : IsRow .i64 w a2 len2 cap2 z2) (w3 : (Lit.int .i64 a3).wf = true) :
    Calls Try.prog 5 #[.slice a0 len0 cap0, .slice a1 len1 cap1, .slice a2 len2 cap2, .int .i64 a3, .bool a4] w fun e w' => e = .returned (.bool true) ∧ Below w.heap.size w w' := by
  obtain ⟨i0, hi, hz0, hz1, hz2⟩ := info_parts Try.info3
  have H0 := Lib.hid (rowI_is w0)
  have H1 := Lib.hid (rowI_is w1)
  have H2 := Lib.hid (rowI_is w2)
  obtain ⟨q, hq⟩ : ∃ q : Nat, a3 % 16 = q := ⟨(a3 % 16).toNat, by omega⟩
  have hq16 : q < 16 := by omega
  have HQ := Lib.hid hq
  have d0 : 1 ≤ 1 + q := by omega
  have d1 : 1 + q ≤ 16 := by omega
  clear w0 w1 w2 w3 hq
  go_enter Try.func5, Try.ntmps5
  go_wp2_with fail
  refine (known11 _).mono ?_
  rintro e w1 ⟨rfl, b1⟩
  go_wp2_with fail
  refine (three_any (H0.out.keep b1 (Nat.le_refl _)) (H1.out.keep b1 (Nat.le_refl _)) (H2.out.keep b1 (Nat.le_refl _))).mono ?_
  rintro e w2 ⟨A1, c1, A2, c2, A3, c3, n, x, y, z, rfl, ht, b2⟩
  have b2 := b1.trans (b2.mono b1.size)
  clear b1 H0 H1 H2
  go_wp2_with fail
  refine ht.turn.mono ?_
  rintro e w3 ⟨B1, e1, B2, e2, B3, e3, rfl, g1, g2, g3, b3⟩
  have ht := ht.keep b3 (Nat.le_refl _)
  have b3 := b2.trans (b3.mono b2.size)
  clear b2
  obtain ⟨hn, hx, hy, hz, rx, ry, rz⟩ := ht
  go_wp2_with fail
  refine (back_any g1 g2 g3 (by omega) (rng_turn rx ry rz) (rng_sub rz ry) (rng_sub rx ry)).mono ?_
  rintro e w4 ⟨C1, f1, C2, f2, C3, f3, rfl, k1, k2, k3, b4⟩
  rw [back_g hy.1] at k1 k2 k3
  rw [back_x hx.1] at k1
  rw [back_x hz.1] at k3
  have hx := hx.keep b4 (Nat.le_refl _)
  have hy := hy.keep b4 (Nat.le_refl _)
  have hz := hz.keep b4 (Nat.le_refl _)
  have b4 := b3.trans (b4.mono b3.size)
  clear b3 g1 g2 g3 ry rz
  go_wp2_with fail
  refine (within11 _ _ _ (by omega) (by omega)).mono ?_
  rintro e w' ⟨rfl, rfl⟩
  rw [HQ.out]
  go_wp2_with fail
  refine (bounds_at _ (1 + q) a4 _ (by omega) d0 d1).mono ?_
  rintro e w' ⟨rfl, rfl⟩
  have hbr := bd_rng (1 + q) a4 d0 d1
  obtain ⟨lo, hlo⟩ : ∃ lo, loF (1 + q) a4 = lo := ⟨_, rfl⟩
  obtain ⟨hh, hhh⟩ : ∃ hh, hiF (1 + q) a4 = hh := ⟨_, rfl⟩
  rw [hlo, hhh] at hbr
  rw [hlo, hhh]
  have HLO := Lib.hid (And.intro hlo hhh)
  clear hlo hhh
  have KX := Lib.hid (And.intro hx (And.intro hy hz))
  have KK := Lib.hid (And.intro k1 (And.intro k2 k3))
  have RX := Lib.hid rx
  have hxl := hx.1
  clear hx hy hz k1 k2 k3 rx
  go_wp2
  go_loopw [19, 20] (fun v i wr => ∃ k : Nat, k ≤ n ∧ i = .int .i64 k ∧ wr.ownsRow w4.heap.size 3 1 v k ((inF lo hh (x.take k)).map (Value.int .i64)) ∧ Below w4.heap.size w4 wr) (fun _ i _ => n - (intOf i).toNat)
  case atStart => exact ⟨0, by omega, rfl, by simpa [inF] using World.ownsRow_nil _ _ _ _, Below.refl _ _⟩
  case round =>
    obtain ⟨k, k0, rfl, hown, hb⟩ := hrel
    by_cases c1 : k < n
    · obtain ⟨b, o, rfl, hbb, hc⟩ := (KX.out.1.keep hb (Nat.le_refl _)).cell c1
      have HT := Lib.hid (take_succ_get (l := x) (k := k) (by omega))
      have hxr := RX.out k
      have hsz := hb.size
      generalize x.getD k 0 = y0 at *
      go_wp2_with fail
      refine (within11 _ _ _ (by omega) (by omega)).mono ?_
      rintro e w' ⟨rfl, rfl⟩
      have r0 := Int.emod_nonneg y0 (show hh - lo + 1 ≠ 0 by omega)
      have r1 := Int.emod_lt_of_pos y0 (show 0 < hh - lo + 1 by omega)
      have HI := Lib.hid (show inF lo hh (x.take (k + 1)) = inF lo hh (x.take k) ++ [lo + y0 % (hh - lo + 1)] from by rw [HT.out]; unfold inF; rw [List.map_append]; rfl)
      generalize y0 % (hh - lo + 1) = u at *
      go_wp2_with (at_builtin; refine wpList_append_own _ rfl _ _ 22 rfl w4.heap.size 3 i0 (.int .i64 0) 1 8 Try.underlying22 hi hz0 hz1 hz2 rfl (by decide) _ _ _ rfl (hown.alloc _) ⟨wr.heap.size, 0, none⟩ 1 1 [.int .i64 (lo + u)] rfl rfl (cell_one_new _ _ _) ?k2 ?k3 ?k4 ?k5 ?_)
      case k2 => intro u hu; simp at hu; subst hu; rfl
      case k3 => unfold maxLen; omega
      case k4 => omega
      case k5 => simp; omega
      intro v2 w2 hown2 hg2 _
      have hb2 : Below w4.heap.size w4 w2 := (hb.alloc hsz _).grown hg2 (by simp; omega) (fun g hg => (hown.lt g hg).1)
      clear hg2 hown
      go_wp2
      go_roundw
      case rel =>
        refine ⟨k + 1, by omega, by go_num, ?_, hb2⟩
        rw [HI.out, List.map_append]
        exact hown2
      case measure => simp [intOf]; omega
    · obtain rfl : k = n := by omega
      rw [List.take_of_length_le (by omega)] at hown
      obtain ⟨V, cv, rfl, hv⟩ := rowI_own hown
      clear hown
      have b5 := b4.trans (hb.mono b4.size)
      have kx := KX.out.1.keep hb (Nat.le_refl _)
      have ky := KX.out.2.1.keep hb (Nat.le_refl _)
      have kz := KX.out.2.2.keep hb (Nat.le_refl _)
      have k1 := KK.out.1.keep hb (Nat.le_refl _)
      have k2 := KK.out.2.1.keep hb (Nat.le_refl _)
      have k3 := KK.out.2.2.keep hb (Nat.le_refl _)
      clear KX KK hb b4 RX hi hz0 hz1 hz2
      have hin := in_rng (lo := lo) (hi := hh) (x := x) (by omega)
      have rv : Rng 65536 (inF lo hh x) := rng_of (by omega) fun a ha => by have := hin a ha; omega
      have HUN := Lib.hid (unsh_sh (d := 1 + q) (s := a4) hv.1 (by rw [HLO.out.1, HLO.out.2]; exact hin))
      clear hin
      go_wp2_with fail
      refine (ints_yes k1 kx).mono ?_
      rintro e w6 ⟨rfl, d6⟩
      have ky := ky.drew d6
      have kz := kz.drew d6
      have k2 := k2.drew d6
      have k3 := k3.drew d6
      have hv := hv.drew d6
      have b6 := Drew.to b5 d6
      clear k1 kx b5
      go_wp2_with fail
      refine (ints_yes k2 ky).mono ?_
      rintro e w7 ⟨rfl, d7⟩
      have kz := kz.drew d7
      have k3 := k3.drew d7
      have hv := hv.drew d7
      have b7 := Drew.to b6 d7
      clear k2 ky b6
      go_wp2_with fail
      refine (ints_yes k3 kz).mono ?_
      rintro e w8 ⟨rfl, d8⟩
      have hv := hv.drew d8
      have b8 := Drew.to b7 d8
      clear k3 kz b7
      go_wp2_with fail
      refine (shift_at _ (1 + q) a4 (by omega) d0 d1 hv (by omega) (rng_mono rv (by omega))).mono ?_
      rintro e w9 ⟨S, cs, rfl, hs, b9⟩
      have hv := hv.keep b9 (Nat.le_refl _)
      have b9 := b8.trans (b9.mono b8.size)
      clear b8
      go_wp2_with fail
      refine (unshift_at _ (1 + q) a4 (by omega) d0 d1 hs (by omega) (rng_sh d0 d1 rv)).mono ?_
      rintro e w10 ⟨U, cu, rfl, hu, b10⟩
      rw [HUN.out] at hu
      have hv := hv.keep b10 (Nat.le_refl _)
      have b10 := b9.trans (b10.mono b9.size)
      clear b9 hs
      go_wp2_with fail
      refine (ints_yes hu hv).mono ?_
      rintro e w11 ⟨rfl, d11⟩
      have b11 := Drew.to b10 d11
      go_wp2
      go_ret
      exact ⟨rfl, b11⟩
end Go.Proofs.Ytgplaikcahpiiaa
