/- Bounds of the reference; ColorClips, ColorBack, walked. -/
import Derived.Test.YtgplaikcahpiiaaColEasy
set_option linter.unusedVariables false
namespace Go.Proofs.Ytgplaikcahpiiaa
open Go.RowKit

/-- The bounds of samples. -/
def loF (d : Nat) (s : Bool) : Int := levelF d s - 2 ^ (d - 1)
def hiF (d : Nat) (s : Bool) : Int := levelF d s - 2 ^ (d - 1) + 2 ^ d - 1
theorem half_is (d : Nat) (hd : 1 ≤ d) (hd2 : d ≤ 16) : wrap64 (2 ^ (d - 1)) = 2 ^ (d - 1) := by
  have h := pow_in d hd hd2
  exact IntWalk.wrap64_in _ (by omega)
theorem bd_rng (d : Nat) (s : Bool) (hd : 1 ≤ d) (hd2 : d ≤ 16) : -32768 ≤ loF d s ∧ loF d s ≤ 0 ∧ 0 ≤ hiF d s ∧ hiF d s ≤ 65535 := by
  have h := pow_in d hd hd2
  unfold loF hiF levelF
  cases s
  · rw [if_neg (by simp)]; omega
  · rw [if_pos rfl]; omega

set_option maxHeartbeats 1000000 in
theorem bounds_any (d : Nat) (s : Bool) (w : World) (hd : 1 ≤ d) (hd2 : d ≤ 16) : Calls Try.prog 24 #[.int .i64 d, .bool s] w fun e w' => e = .returned (.tuple #[.int .i64 (loF d s), .int .i64 (hiF d s)]) ∧ w = w' := by
  have hp := pow_in d hd hd2
  have HW := Lib.hid (half_is d hd hd2)
  have ht : Hid (loF d true = 0 - 2 ^ (d - 1) ∧ hiF d true = 2 ^ (d - 1) - 1 ∧ loF d false = 0 ∧ hiF d false = 2 * 2 ^ (d - 1) - 1) := by
    refine Lib.hid ⟨rfl, ?_, ?_, ?_⟩
    · show 0 - 2 ^ (d - 1) + 2 ^ d - 1 = _; omega
    · show (2 : Int) ^ (d - 1) - 2 ^ (d - 1) = 0; omega
    · show (2 : Int) ^ (d - 1) - 2 ^ (d - 1) + 2 ^ d - 1 = _; omega
  have hr : (1 : Int) ≤ 2 ^ (d - 1) ∧ (2 : Int) ^ (d - 1) ≤ 32768 := ⟨hp.1, hp.2.1⟩
  obtain ⟨h, hh⟩ : ∃ h, (2 : Int) ^ (d - 1) = h := ⟨_, rfl⟩
  rw [hh] at hr ht HW
  have HH := Lib.hid hh
  clear hp hh
  cases s
  · go_enter Try.func24, Try.ntmps24
    go_wp2_with fail
    rw [HH.out, HW.out]
    go_wp2
    go_ret2
    refine ⟨?_, rfl⟩
    rw [ht.out.2.2.1, ht.out.2.2.2]
    have e1 : wrap64 (2 * h) = 2 * h := IntWalk.wrap64_in _ (by omega)
    have e2 : wrap64 (2 * h - 1) = 2 * h - 1 := IntWalk.wrap64_in _ (by omega)
    simp [e1, e2]
  · go_enter Try.func24, Try.ntmps24
    go_wp2_with fail
    rw [HH.out, HW.out]
    go_wp2
    go_ret2
    refine ⟨?_, rfl⟩
    rw [ht.out.1, ht.out.2.1]
    have e1 : wrap64 (-h) = -h := IntWalk.wrap64_in _ (by omega)
    have e2 : wrap64 (h - 1) = h - 1 := IntWalk.wrap64_in _ (by omega)
    simp [e1, e2]

theorem rowI_lit (w : World) (x : Int) : RowI (w.alloc (Obj.cells #[.int .i64 x] 3)) (some ⟨w.heap.size, 0, none⟩) 1 1 [x] := rowI_one (by simp) (by rw [World.cell?_alloc_new]; rfl)
theorem level_lo (d : Nat) (s : Bool) : levelF d s = if s then 0 else 2 ^ (d - 1) := rfl

theorem bounds_at (D : Int) (d : Nat) (s : Bool) (w : World) (hD : D = d) (hd : 1 ≤ d) (hd2 : d ≤ 16) : Calls Try.prog 24 #[.int .i64 D, .bool s] w fun e w' => e = .returned (.tuple #[.int .i64 (loF d s), .int .i64 (hiF d s)]) ∧ w = w' := by
  subst hD; exact bounds_any d s w hd hd2
theorem shift_at {A : Option Addr} {n c : Nat} {l : List Int} {w : World} (D : Int) (d : Nat) (s : Bool) (hD : D = d) (hd : 1 ≤ d) (hd2 : d ≤ 16) (h : RowI w A n c l) (hn : n ≤ 1000) (hr : Rng 1073741824 l) :
    Calls Try.prog 15 #[.int .i64 D, .bool s, .slice A n c] w fun e w' => ∃ A' c', e = .returned (.slice A' n c') ∧ RowI w' A' n c' (map1 (· - levelF d s) l n) ∧ Below w.heap.size w w' := by
  subst hD; exact shift_any d s hd hd2 h hn hr
theorem unshift_at {A : Option Addr} {n c : Nat} {l : List Int} {w : World} (D : Int) (d : Nat) (s : Bool) (hD : D = d) (hd : 1 ≤ d) (hd2 : d ≤ 16) (h : RowI w A n c l) (hn : n ≤ 1000) (hr : Rng 1073741824 l) :
    Calls Try.prog 17 #[.int .i64 D, .bool s, .slice A n c] w fun e w' => ∃ A' c', e = .returned (.slice A' n c') ∧ RowI w' A' n c' (map1 (unF d s) l n) ∧ Below w.heap.size w w' := by
  subst hD; exact unshift_any d s hd hd2 h hn hr
theorem un_is (d : Nat) (s : Bool) (x : Int) : unF d s x = max (loF d s) (min (hiF d s) (x + levelF d s)) := rfl

set_option maxHeartbeats 4000000 in
theorem walk_colorClips (a0 : Int) (a1 : Bool) (a2 : Int) (w : World) (w0 : (Lit.int .i64 a0).wf = true) (w2 : (Lit.int .i64 a2).wf = true) :
    Calls Try.prog 8 #[.int .i64 a0, .bool a1, .int .i64 a2] w fun e w' => e = .returned (.bool true) ∧ Below w.heap.size w w' := by
  obtain ⟨q, hq⟩ : ∃ q : Nat, a0 % 16 = q := ⟨(a0 % 16).toNat, by omega⟩
  have hq16 : q < 16 := by omega
  have HQ := Lib.hid hq
  have d0 : 1 ≤ 1 + q := by omega
  have d1 : 1 + q ≤ 16 := by omega
  have hx : 0 ≤ a2 % 1048576 ∧ a2 % 1048576 < 1048576 := by omega
  obtain ⟨x, hxx⟩ : ∃ x, a2 % 1048576 = x := ⟨_, rfl⟩
  rw [hxx] at hx
  have HX := Lib.hid hxx
  clear hq hxx w0 w2
  go_enter Try.func8, Try.ntmps8
  go_wp2_with fail
  refine (known11 _).mono ?_
  rintro e w1 ⟨rfl, b1⟩
  go_wp2_with fail
  refine (within11 _ _ _ (by omega) (by omega)).mono ?_
  rintro e w' ⟨rfl, rfl⟩
  rw [HQ.out]
  go_wp2_with fail
  refine (within11 _ _ _ (by omega) (by omega)).mono ?_
  rintro e w' ⟨rfl, rfl⟩
  rw [HX.out]
  go_wp2_with fail
  refine (bounds_at _ (1 + q) a1 _ (by omega) d0 d1).mono ?_
  rintro e w' ⟨rfl, rfl⟩
  have hbr := bd_rng (1 + q) a1 d0 d1
  have hlr := level_rng (1 + q) a1 d0 d1
  go_wp2_with fail
  refine (unshift_at _ (1 + q) a1 (by omega) d0 d1 (rowI_lit _ _) (by omega) (rng_one _ _ (by omega) (by omega))).mono ?_
  rintro e w2 ⟨A, c, rfl, h2, b2⟩
  have hbb := b1.trans ((((Below.refl _ _).alloc (Nat.le_refl _) _).trans (b2.mono (by simp))).mono b1.size)
  obtain ⟨b, o, rfl, k1, k2⟩ := h2.cell (k := 0) (by omega)
  change w2.cell? ⟨b, o, none⟩ = some (.int .i64 (unF (1 + q) a1 (x - 524288))) at k2
  rw [un_is] at k2
  have HW := Lib.hid (half_is (1 + q) d0 d1)
  have hlv := Lib.hid (level_lo (1 + q) a1)
  clear b1 b2 h2
  generalize loF (1 + q) a1 = lo at *
  generalize hiF (1 + q) a1 = hi at *
  generalize levelF (1 + q) a1 = lv at *
  obtain ⟨m, hm⟩ : ∃ m, x - 524288 + lv = m := ⟨_, rfl⟩
  rw [hm] at k2
  cases a1
  · have hlv2 : lv = 2 ^ q := by have := hlv.out; simpa using this
    have hm2 : wrap64 (x - 524288 + wrap64 (2 ^ q)) = m := by
      have h1 := HW.out
      rw [show 1 + q - 1 = q from by omega] at h1
      rw [h1, ← hlv2, hm]
      exact IntWalk.wrap64_in _ (by omega)
    have HM := Lib.hid hm2
    have hmm := hm
    clear hm2 hlv2 hlv HW hm
    go_wp2
    all_goals
      go_ret
      refine ⟨ret_bool ?_, hbb⟩
      (try simp only [HM.out] at *) <;> first | rfl | (rw [beq_iff_eq]; try omega) | (exfalso; omega)
  · have hlv2 : lv = 0 := by have := hlv.out; simpa using this
    have hm2 : x - 524288 = m := by omega
    have HM := Lib.hid hm2
    clear hlv2 hlv HW
    go_wp2
    all_goals
      go_ret
      refine ⟨ret_bool ?_, hbb⟩
      (try simp only [HM.out] at *) <;> first | rfl | (rw [beq_iff_eq]; try omega) | (exfalso; omega)
end Go.Proofs.Ytgplaikcahpiiaa
