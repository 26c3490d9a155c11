/- Trees: what is known; the chapter's example. -/
import Derived.Test.YthgbnkcbcepjdaaTrC
import Derived.Outline
set_option linter.unusedVariables false
set_option linter.unusedSimpArgs false
namespace Go.Proofs.Ythgbnkcbcepjdaa
open Go.RowKit
set_option maxRecDepth 100000
theorem known_o {o : Nat → Nat} {a : Nat} {w : World} {p W0 H0 d k : Nat} {T : TT} (h : TrO o a w p W0 H0 d T) (hk : k < W0 * H0) :
    Calls Try.prog 16 #[.pointer (some ⟨p, 0, none⟩), .int .i64 (k : Int)] w fun e w' => e = .returned (.int .i64 (if (T 0 k).said then (T 0 k).num else -1)) ∧ Below w.heap.size w w' := by
  obtain ⟨L, cl, sh, h1, h2, rfl, h4, h5⟩ := h
  obtain ⟨I, e, b⟩ := h2.at (i := 0) (by have := h2.len; omega)
  obtain ⟨g0, g1, g2⟩ := h1.lv 0 _ _ I e
  obtain ⟨c0, c1, c2, cf⟩ := h1.cells (m := k) e hk
  have hp := h2.pos
  have m0 : w.cell? ⟨I, 0 + k * 3, none⟩ = some (.int .i64 (T 0 k).num) := by rw [Nat.zero_add]; exact c0
  have m2 : w.cell? ⟨I, 0 + k * 3 + 2, none⟩ = some (.bool (T 0 k).said) := by rw [Nat.zero_add]; exact c2
  exact known_yes p L sh.length cl W0 H0 (W0 * H0) (W0 * H0) k _ _ I 0 (T 0 k).num (T 0 k).low (T 0 k).said w h1.root h2.len.1 ⟨hp.1, hp.2.1, hp.2.2.2⟩ rfl g0 g1 g2 hk rfl rfl m0 m2 (h1.lt h2.len.1 (.inr (.inl rfl))) (h1.lt h2.len.1 (.inr (.inr ⟨0, _, e, rfl⟩)))
theorem bytes_o {o : Nat → Nat} {x : Nat} {w : World} {wp : Nat} {s : List Int × Nat} (h : WrO o x w wp s) (hl : s.1.length ≤ 80000) :
    Calls Try.prog 23 #[.pointer (some ⟨wp, 0, none⟩)] w fun e w' => ∃ v, e = .returned v ∧ w'.ownsRow w.heap.size 5 1 v (bytesF s.1).length ((bytesF s.1).map (Value.int .u8)) ∧ Below w.heap.size w w' := wb_bytes h.1 hl
theorem TrO.one {o : Nat → Nat} {a : Nat} {w : World} {p d : Nat} {T : TT} (h : TrO o a w p 1 1 d T) : d = 1 := by
  obtain ⟨L, cl, sh, h1, h2, rfl, h4, h5⟩ := h
  have h3 := h2.len.1
  rcases Nat.lt_or_ge 1 sh.length with h | h
  · have := h2.mid 0 (by omega)
    simp [dimF] at this
  · omega
theorem enc_ex : (encM 1 1 1 0 ([], 0) T0).1 = ([128], 7) ∧ ((encM 1 1 1 0 ([], 0) T0).2.1 0 0).said = true ∧ ((encM 1 1 1 0 ([], 0) T0).2.1 0 0).num = 0 := by
  refine ⟨by decide +kernel, by decide +kernel, by decide +kernel⟩
set_option maxHeartbeats 2000000 in
theorem known13 (w : World) : Calls Try.prog 8 #[] w fun e w' => e = .returned (.bool true) ∧ Below w.heap.size w w' := by
  go_enter Try.func8, Try.ntmps8
  go_wp2_with fail
  refine (new_o (fun _ => 0) 1 1 1 w (by omega) (by omega)).mono ?_
  rintro e w1 ⟨p, d, rfl, hT1, hb1, _⟩
  obtain rfl := hT1.one
  have HT1 := Lib.hid hT1
  have HB1 := Lib.hid hb1
  clear hT1 hb1
  go_wp2_with fail
  refine (wnew_o (onew (fun _ => 0) w 1) 2 w1).mono ?_
  rintro e w2 ⟨wp, rfl, hW2, hb2⟩
  have HT2 := Lib.hid (HT1.out.below hb2 (onew_old _ w1 2))
  have HW2 := Lib.hid hW2
  have HB2 := Lib.hid (HB1.out.trans (hb2.mono HB1.out.size))
  clear hW2 hb2
  go_wp2_with fail
  have HC := Lib.hid (enc_o HT2.out HW2.out (by omega) (k := 0) (by omega) 1 (by omega) (by simp))
  refine HC.out.mono ?_
  rintro e w3 ⟨rfl, hT3, hW3, hO3, _⟩
  have HT3 := Lib.hid hT3
  have HW3 := Lib.hid hW3
  have HB3 : Hid (Below w.heap.size w w3) := Lib.hid (HB2.out.trans (hO3.base (((Bs.zero _).new (Nat.le_refl _) 1).new HB1.out.size 2) (by omega) (by omega) HB2.out.size))
  clear hT3 hW3 hO3 HC
  go_wp2_with fail
  refine (bytes_o HW3.out (by rw [enc_ex.1]; decide)).mono ?_
  rintro e w4 ⟨v, rfl, hv, hb4⟩
  rw [enc_ex.1, show bytesF ([128], 7).1 = [128] from by decide] at hv
  have hv : w4.ownsRow w3.heap.size 5 1 v 1 [.int .u8 128] := hv
  obtain ⟨g, cap, rfl, hg1, hg2, hcl, hcm⟩ := own_form hv (by decide)
  have g0 : w4.cell? ⟨g, 0, none⟩ = some (.int .u8 128) := hv.cellAt 0 (by decide)
  have HT4 := Lib.hid (HT3.out.below hb4 (fun k _ => rfl))
  have HB4 := Lib.hid (HB3.out.trans (hb4.mono HB3.out.size))
  clear hv hb4
  go_wp2_with fail
  refine (known_o HT4.out (k := 0) (by decide)).mono ?_
  rintro e w5 ⟨rfl, hb5⟩
  rw [enc_ex.2.1, enc_ex.2.2]
  have HB5 := Lib.hid (HB4.out.trans (hb5.mono HB4.out.size))
  clear hb5
  go_wp2
  go_ret
  exact ⟨rfl, HB5.out⟩
end Go.Proofs.Ythgbnkcbcepjdaa
