/- BitsNone, walked. -/
import Derived.Test.YtpobmnbloifpjaaBitQ
set_option linter.unusedVariables false
namespace Go.Proofs.Ytpobmnbloifpjaa
open Go.RowKit

theorem none_key (F : List Int) (hF : F = [170]) : (rbgo F ⟨0, 0, false⟩ 8).2 = 170 ∧ endK F ⟨0, 0, false⟩ = 0 ∧ endE F ⟨0, 0, false⟩ = 0 := by
  subst hF; decide +kernel
theorem Rb.low {w : World} {lo lo' p : Nat} {F : List Int} {s : RS} (h : Rb w lo p F s) (hl : lo' ≤ lo) : Rb w lo' p F s := by
  obtain ⟨hp, V, hb, hv⟩ := h
  exact ⟨Nat.le_trans hl hp, V, hb, hv.mono hl⟩
theorem Rb.below {w w' : World} {lo p : Nat} {F : List Int} {s : RS} (h : Rb w lo p F s) (hb : Below w.heap.size w w') : Rb w' lo p F s := by
  have lt := h.lt
  obtain ⟨hp, V, h1, hv⟩ := h
  exact ⟨hp, V, (hb.block p lt).trans h1, ownsRow_keep hv hb.size (fun k hk => hb.block k (hv.lt k hk).2)⟩
set_option maxHeartbeats 4000000 in
theorem walk_bitsNone_go (a0 a1 s : Int) (w : World) (hs : s < 1 ∨ 32 < s) (hc : (1 ≤ a1 ∧ a1 ≤ 32 ∧ s = a1 + 32) ∨ (¬ 1 ≤ a1 ∧ s = a1) ∨ (1 ≤ a1 ∧ ¬ a1 ≤ 32 ∧ s = a1)) :
    Calls Try.prog 9 #[.int .i64 a0, .int .i64 a1] w fun e w' => e = .returned (.bool true) ∧ Below w.heap.size w w' := by
  obtain ⟨F, hF⟩ : ∃ F : List Int, F = [170] := ⟨_, rfl⟩
  have HK := Lib.hid (none_key F hF)
  have HF := Lib.hid hF
  have HFr : Hid (∀ x ∈ F, 0 ≤ x ∧ x ≤ 255) := Lib.hid (by rw [hF]; simp)
  have hFl : F.length = 1 := by rw [hF]; rfl
  have HFl := Lib.hid hFl
  clear hF hFl
  rcases hc with ⟨h1, h2, h3⟩ | ⟨h1, h3⟩ | ⟨h1, h2, h3⟩
  all_goals
    have HS := Lib.hid hs
    clear hs
    go_enter Try.func9, Try.ntmps9
    go_wp2_with fail
    refine (known2 _).mono ?_
    rintro e w1 ⟨rfl, b1⟩
    go_wp2_with fail
    refine (bnew_any _).mono ?_
    rintro e w2 ⟨p, rfl, h4, b2⟩
    have s1 := b1.size
    have b2 := b1.trans (b2.mono s1)
    have H2 : Hid (Wb (fun k => w1.heap.size ≤ k) w2 p [] 0) := Lib.hid (h4.imp (fun k _ hk => hk.1))
    have s2 := b2.size
    clear b1 h4
    go_wp2_with fail
    refine (wb_none (by have := HS.out; omega)).mono ?_
    rintro e w3 ⟨rfl, rfl⟩
    have f0 : (w2.alloc (Obj.cells #[.int .u8 170] 5)).cell? ⟨w2.heap.size, 0, none⟩ = some (.int .u8 170) := cell_one_new _ _ _ 0 _ rfl
    have hL : Lst (w2.alloc (Obj.cells #[.int .u8 170] 5)) (w2.heap.size + 1) (some ⟨w2.heap.size, 0, none⟩) (F.map (Value.int .u8)) := by
      rw [HF.out]
      intro i u hu
      rcases i with _ | i
      · exact ⟨_, _, rfl, by omega, by simp at hu; rw [← hu]; exact f0⟩
      · simp at hu
    have HL := Lib.hid hL
    have b3 : Below w.heap.size w (w2.alloc (Obj.cells #[.int .u8 170] 5)) := b2.alloc s2 _
    have B3 := Lib.hid b3
    have HW : Hid (Wb (fun k => w1.heap.size ≤ k) (w2.alloc (Obj.cells #[.int .u8 170] 5)) p [] 0) := by
      have lt := H2.out.lt
      obtain ⟨hp, V, hb, hv, hV⟩ := H2.out
      exact ⟨hp, V, ((Below.refl w2.heap.size w2).alloc (Nat.le_refl _) _).block p lt |>.trans hb, hv.alloc _, hV⟩
    clear f0 hL b3 b2 H2 s2
    go_wp2_with fail
    refine (brnew_any (n := 1) (F := F) HFl.out (by simp) HL.out (by omega)).mono ?_
    rintro e w4 ⟨q, rfl, h5, b4⟩
    have hsz : w.heap.size ≤ (w2.alloc (Obj.cells #[.int .u8 170] 5)).heap.size := B3.out.size
    have b5 := B3.out.trans (b4.mono hsz)
    have HW4 : Hid (Wb (fun k => w1.heap.size ≤ k) w4 p [] 0) := by
      have lt := HW.out.lt
      obtain ⟨hp, V, hb, hv, hV⟩ := HW.out
      exact ⟨hp, V, (b4.block p lt).trans hb, ownsRow_keep hv b4.size (fun k hk => b4.block k (hv.lt k hk).2), hV⟩
    have H5 := Lib.hid (h5.low hsz)
    clear HL B3 HW b4 h5 hsz
    go_wp2_with fail
    refine (rb_none (by have := HS.out; omega)).mono ?_
    rintro e w5 ⟨rfl, rfl⟩
    go_wp2_with fail
    refine (rb_end H5.out (by rw [HFl.out]; omega) (by simp)).mono ?_
    rintro e w6 ⟨rfl, d6⟩
    rw [HK.out.2.1, HK.out.2.2]
    have b6 := Drew.to b5 d6
    have s6 := b6.size
    have HW6 : Hid (Wb (fun k => w1.heap.size ≤ k) w6 p [] 0) := by obtain ⟨nn, hnn⟩ := d6; rw [hnn]; exact HW4.out.drew nn
    have H6 : Hid (Rb w6 w.heap.size q F ⟨0, 0, false⟩) := by obtain ⟨nn, hnn⟩ := d6; rw [hnn]; exact H5.out.drew nn
    clear b5 d6 HW4 H5
    go_wp2_with fail
    refine (wb_bytes HW6.out (by simp)).mono ?_
    rintro e w7 ⟨v, rfl, hv, b7⟩
    rw [show bytesF [] = [] from by decide] at hv
    obtain ⟨A, c, rfl, _, _, _⟩ := own_any hv
    have b8 := b6.trans (b7.mono s6)
    have H7 : Hid (Rb w7 w.heap.size q F ⟨0, 0, false⟩) := Lib.hid (H6.out.below b7)
    have hq := H6.out.1
    clear hv b7 HW6 H6 b6
    go_wp2_with fail
    refine (rb_bits (size := 8) H7.out (by rw [HFl.out]; omega) (by simp) (by simp) HFr.out (by omega) (by omega)).mono ?_
    rintro e w8 ⟨rfl, _, o8⟩
    rw [HK.out.1]
    have b9 := b8.trans (o8.below (lo := w.heap.size) (fun k hk => by subst hk; exact hq))
    go_wp2
    go_ret
    exact ⟨rfl, b9⟩
theorem walk_bitsNone (a0 a1 : Int) (w : World) (w0 : (Lit.int .i64 a0).wf = true) (w1 : (Lit.int .i64 a1).wf = true) :
    Calls Try.prog 9 #[.int .i64 a0, .int .i64 a1] w fun e w' => e = .returned (.bool true) ∧ Below w.heap.size w w' := by
  by_cases h1 : 1 ≤ a1
  · by_cases h2 : a1 ≤ 32
    · exact walk_bitsNone_go a0 a1 (a1 + 32) w (by omega) (Or.inl ⟨h1, h2, rfl⟩)
    · exact walk_bitsNone_go a0 a1 a1 w (by omega) (Or.inr (Or.inr ⟨h1, h2, rfl⟩))
  · exact walk_bitsNone_go a0 a1 a1 w (by omega) (Or.inr (Or.inl ⟨h1, rfl⟩))
end Go.Proofs.Ytpobmnbloifpjaa
