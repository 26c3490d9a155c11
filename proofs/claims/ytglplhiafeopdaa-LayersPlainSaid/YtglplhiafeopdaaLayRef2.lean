/- Segments of the reference, by its contract. -/
import Derived.Test.YtglplhiafeopdaaLaySeg2
import Derived.Deep.DeepCutAuto
import Derived.RegionTactic
import Derived.Outline
import Derived.ChangeAlike
set_option linter.unusedVariables false
namespace Go.Proofs.Ytglplhiafeopdaa
open Go.RowKit Go.Shelf

attribute [local go_sem ↓] appSem_eq

def qN (x : Int × Int) : Int := x.2 - x.1
def qB (l : List Int) (x : Int × Int) : Int := bef l x.2 - bef l x.1
theorem r14ends_pick (s k : Int) (w : World) (hk : -9223372036854775808 ≤ k ∧ k ≤ 9223372036854775807) {b : Bool} (hb : endsF s k = b) :
    Calls Try.prog 16 #[.int .i64 s, .int .i64 k] w fun e w' => e = .returned (.bool b) ∧ w = w' := by
  subst hb; exact r14ends_same s k w hk

set_option maxRecDepth 100000 in
set_option maxHeartbeats 8000000 in
theorem rsegs_any {A : Option Addr} {n c : Nat} {l : List Int} {w : World} (h : RowI w A n c l) (near : Near l) (s f t : Int) (hf : 0 ≤ f) (hft : f ≤ t) (htn : t ≤ n) (hn : n ≤ 900) (hs : -9223372036854775808 ≤ s ∧ s ≤ 9223372036854775807) :
    Calls Try.prog 12 #[.int .i64 s, .int .i64 f, .int .i64 t, .slice A n c] w fun e w' => ∃ (A1 : Option Addr) (c1 : Nat) (A2 : Option Addr) (c2 : Nat), e = .returned (.tuple #[.slice A1 (pcs s f t (t - f).toNat).1.length c1, .slice A2 (pcs s f t (t - f).toNat).1.length c2]) ∧
      RowI w' A1 (pcs s f t (t - f).toNat).1.length c1 ((pcs s f t (t - f).toNat).1.map qN) ∧ RowI w' A2 (pcs s f t (t - f).toNat).1.length c2 ((pcs s f t (t - f).toNat).1.map (qB l)) ∧ Below w.heap.size w w' := by
  have HR := Lib.hid h
  have NR := Lib.hid near
  have hmo : Try.prog.follows .mixedOrders = true := by kernel_rfl
  have hcf : ∀ i : Nat, 0 < i → i ≤ n → ∃ b o, A = some ⟨b, o, none⟩ ∧ b < w.heap.size ∧ w.cell? ⟨b, o + (i - 1), none⟩ = some (.int .i64 (l.getD (i - 1) 0)) := fun i h1 h2 => h.cell (k := i - 1) (by omega)
  clear h near
  have HC := Lib.hid hcf
  clear hcf
  obtain ⟨q0, hq0⟩ : ∃ q0, bef l f = q0 := ⟨_, rfl⟩
  have hq0b := bef_bd NR.out f
  rw [hq0] at hq0b
  have HQ0 := Lib.hid hq0
  clear hq0
  go_enter Try.func12, Try.ntmps12
  go_upto_if 16 with fail
  go_cut [13] from 17 to 21 (fun v wx => v = .int .i64 q0 ∧ w = wx)
  case first =>
    by_cases c0 : 0 < f
    · obtain ⟨f', rfl⟩ : ∃ f' : Nat, f = (f' : Int) + 1 := ⟨(f - 1).toNat, by omega⟩
      obtain ⟨b0, o0, rfl, hb0, m0⟩ := HC.out (f' + 1) (by omega) (by omega)
      simp only [Nat.add_sub_cancel] at m0
      have e0 : ((f' : Int) + 1 - 1) = (f' : Int) := by omega
      have hfn : (f' : Int) < (n : Int) := by omega
      rw [show l.getD f' 0 = q0 by rw [← HQ0.out, bef_at]] at m0
      go_wp2_with fail
      go_meet
      exact ⟨rfl, rfl⟩
    · have e1 : (0 : Int) = q0 := by rw [← HQ0.out, bef_lo (by omega)]
      have E1 := Lib.hid e1
      clear e1
      go_wp2_with fail
      go_meet
      exact ⟨by rw [E1.out], rfl⟩
  case rest =>
    obtain ⟨rfl, rfl⟩ := hcut
    go_wp2
    go_loopw [10, 11, 12, 13, 14] (fun v1 v2 x was k wr => ∃ (m : Nat) (q y : Int), f + m ≤ t ∧ k = .int .i64 (f + m) ∧ x = .int .i64 (f + m - q) ∧ was = .int .i64 y ∧ q = (pcs s f t m).2 ∧ y = bef l q ∧ Grow w.heap.size w wr (sel3 v1 v2 (.slice none 0 0)) (sel3 ((pcs s f t m).1.map qN) ((pcs s f t m).1.map (qB l)) []) 2)
      (fun _ _ _ _ k _ => (t - intOf k).toNat)
    case atStart => exact ⟨0, f, q0, by omega, by simp, by simp, rfl, rfl, HQ0.out.symm, Grow.nil3 w 2⟩
    case round =>
      obtain ⟨m, q, y, hm, rfl, rfl, rfl, hq, hy, hG⟩ := hrel
      have hlen := pcs_len s f t m
      have hqb := pcs_bd s f t m
      rw [← hq] at hqb
      have hyb := bef_bd NR.out q
      rw [← hy] at hyb
      have HQ := Lib.hid (And.intro hq hy)
      clear hq hy
      by_cases hlt : f + m < t
      · obtain ⟨b0, o0, rfl, hb0, m0⟩ := HC.out ((f + m).toNat + 1) (by omega) (by omega)
        obtain ⟨k, hk⟩ : ∃ k : Nat, f + m = (k : Int) := ⟨(f + m).toNat, by omega⟩
        simp only [Nat.add_sub_cancel, hk, Int.toNat_natCast] at m0
        obtain ⟨z, hz⟩ : ∃ z, l.getD k 0 = z := ⟨_, rfl⟩
        rw [hz] at m0
        have hzb := NR.out k
        rw [hz] at hzb
        have HZ : Hid (bef l (f + m + 1) = z) := Lib.hid (by rw [hk, bef_at]; exact hz)
        have hkn : (k : Int) < (n : Int) := by omega
        by_cases c : f + m < t - 1 ∧ endsF s (f + m) = false
        · have HS := Lib.hid (pcs_on c.1 c.2)
          obtain ⟨c1, c2⟩ := c
          have c3 : (f + (m : Int) == t - 1) = false := by simpa using (by omega : f + (m : Int) ≠ t - 1)
          have HG := Lib.hid hG
          clear hG hz
          rw [hk] at c2 c3 hm hlt hqb c1 ⊢
          go_wp2_with (go_at_call 16; refine (r14ends_pick _ _ _ (by omega) c2).mono ?_; rintro e w' ⟨rfl, rfl⟩)
          go_roundw
          case rel => exact ⟨m + 1, q, y, by push_cast; omega, by push_cast; go_num, by push_cast; go_num, rfl, by rw [HS.out]; exact HQ.out.1, HQ.out.2, by rw [HS.out]; exact HG.out⟩
          case measure => simp [intOf]; omega
        · have HS := Lib.hid (pcs_cut c)
          have HG := Lib.hid hG
          have HZZ := Lib.hid hz
          have HC1 := Lib.hid c
          clear hG hz c
          rw [hk] at hm hlt hqb ⊢
          by_cases c3 : (k : Int) = t - 1
          · have c4 : ((k : Int) == t - 1) = true := by simpa using c3
            clear c3
            go_wp2_with fail
            have hgo : (pcs s f t m).1.length ≤ 1000 := by omega
            obtain ⟨X0, hX0⟩ : ∃ X0, (pcs s f t m).1.map qN = X0 := ⟨_, rfl⟩
            obtain ⟨X1, hX1⟩ : ∃ X1, (pcs s f t m).1.map (qB l) = X1 := ⟨_, rfl⟩
            have hG := HG.out
            rw [hX0, hX1] at hG
            have hl0 : X0.length ≤ 1000 := by rw [← hX0, List.length_map]; exact hgo
            have hl1 : X1.length ≤ 1000 := by rw [← hX1, List.length_map]; exact hgo
            have HX := Lib.hid (And.intro hX0 hX1)
            clear hX0 hX1
            have hG0 : Grow w.heap.size w wr.drew (sel3 u10 u11 (.slice none 0 0)) (sel3 X0 X1 []) 2 := hG.drew
            clear hG
            refine (wpIn_wide (n := 9)).1 (regionIn_inv (Inv := fun L a w' => ∃ (nb : Nat → Nat) (V : Nat → Value), a = { tmps := #[.int .i64 s, .int .i64 f, .int .i64 t, .slice (some ⟨b0, o0, none⟩) n c, undef, undef, undef, undef, .slice none 0 0, .slice none 0 0, bif L 13 then V 0 else u10, bif L 14 then V 1 else u11, .int .i64 (k - q + 1), .int .i64 y, .int .i64 k, .int .i64 f, .bool (decide (0 < f)), u17, u18, u19, u20, u21, .int .i64 f, .int .i64 k, .int .i64 t, .bool true, u26, u27, .int .i64 (k - q), .int .i64 (k - q + 1), .int .i64 k, .int .i64 t, .int .i64 (t - 1), .bool true, .bool true, undef, undef, undef, .bool true, bif L 0 then u10 else u39, bif L 1 then .int .i64 (k - q + 1) else u40, bif L 2 then .slice (some ⟨nb 0, 0, none⟩) 1 1 else u41, bif L 3 then V 0 else u42, bif L 4 then u11 else u43, bif L 5 then .slice (some ⟨b0, o0, none⟩) n c else u44, bif L 6 then .int .i64 k else u45, bif L 7 then .pointer (some ⟨b0, o0 + k, none⟩) else u46, bif L 8 then .int .i64 z else u47, bif L 9 then .int .i64 y else u48, bif L 10 then .int .i64 (z - y) else u49, bif L 11 then .slice (some ⟨nb 1, 0, none⟩) 1 1 else u50, bif L 12 then V 1 else u51, u52, u53, u54, u55, undef, undef], defers := [] } ∧ Grow w.heap.size w w' V (sel3 (bif L 3 then X0 ++ [k - q + 1] else X0) (bif L 12 then X1 ++ [z - y] else X1) []) 2 ∧ (L 2 = true → L 3 = false → Temp w' V 2 (nb 0) (k - q + 1)) ∧ (L 3 = false → V 0 = u10) ∧ (L 11 = true → L 12 = false → Temp w' V 2 (nb 1) (z - y)) ∧ (L 12 = false → V 1 = u11)) hmo (by kernel_rfl) ?start ?step ?fin)
            case step =>
              intro i hi L a' w' hI hs hu
              obtain ⟨nb, V, rfl, hG, hT0, hV0, hT1, hV1⟩ := hI
              have hL := hu.1
              have hi : i < 15 := hi
              obtain rfl | rfl | rfl | rfl | rfl | rfl | rfl | rfl | rfl | rfl | rfl | rfl | rfl | rfl | rfl := (by omega : i = 0 ∨ i = 1 ∨ i = 2 ∨ i = 3 ∨ i = 4 ∨ i = 5 ∨ i = 6 ∨ i = 7 ∨ i = 8 ∨ i = 9 ∨ i = 10 ∨ i = 11 ∨ i = 12 ∨ i = 13 ∨ i = 14)
              · trace "op 0"
                have n3 : L 3 = false := not_yet hL fun h => shut_at hs 3 0 (by kernel_rfl) (h)
                have n12 : L 12 = false := not_yet hL fun h => shut_at hs 3 0 (by kernel_rfl) (shut_at hs 12 3 (by kernel_rfl) (h))
                have n13 : L 13 = false := not_yet hL fun h => shut_at hs 13 0 (by kernel_rfl) (h)
                have n14 : L 14 = false := not_yet hL fun h => shut_at hs 14 0 (by kernel_rfl) (h)
                refine opIn_run (v := u10) (w' := w') rfl rfl (fun c h => by cases h) (fun _ => trivial) ?_ ⟨nb, V, by simp [Act.put, upd, n3, n12, n13, n14, hL], hG, hT0, hV0, hT1, hV1⟩
                simp only [n3, n12, n13, n14, hL, cond_true, cond_false]
                go_simp
              · trace "op 1"
                have n2 : L 2 = false := not_yet hL fun h => shut_at hs 2 1 (by kernel_rfl) (h)
                have n3 : L 3 = false := not_yet hL fun h => shut_at hs 2 1 (by kernel_rfl) (shut_at hs 3 2 (by kernel_rfl) (h))
                have n12 : L 12 = false := not_yet hL fun h => shut_at hs 2 1 (by kernel_rfl) (shut_at hs 3 2 (by kernel_rfl) (shut_at hs 12 3 (by kernel_rfl) (h)))
                have n13 : L 13 = false := not_yet hL fun h => shut_at hs 13 1 (by kernel_rfl) (h)
                have n14 : L 14 = false := not_yet hL fun h => shut_at hs 14 1 (by kernel_rfl) (h)
                refine opIn_run (v := .int .i64 (k - q + 1)) (w' := w') rfl rfl (fun c h => by cases h) (fun _ => trivial) ?_ ⟨nb, V, by simp [Act.put, upd, n2, n3, n12, n13, n14, hL], hG, hT0, hV0, hT1, hV1⟩
                simp only [n2, n3, n12, n13, n14, hL, cond_true, cond_false]
                go_simp
              · trace "op 2"
                have y1 : L 1 = true := up_at hu 1 (by kernel_rfl)
                have n3 : L 3 = false := not_yet hL fun h => shut_at hs 3 2 (by kernel_rfl) (h)
                have n12 : L 12 = false := not_yet hL fun h => shut_at hs 3 2 (by kernel_rfl) (shut_at hs 12 3 (by kernel_rfl) (h))
                have n13 : L 13 = false := not_yet hL fun h => shut_at hs 13 2 (by kernel_rfl) (h)
                have n14 : L 14 = false := not_yet hL fun h => shut_at hs 14 2 (by kernel_rfl) (h)
                refine opIn_run (v := .slice (some ⟨w'.heap.size, 0, none⟩) 1 1) (w' := w'.alloc (.cells #[.int .i64 (k - q + 1)] 3)) rfl rfl (fun c h => by cases h) (fun _ => trivial) ?_ ⟨put1 nb 0 w'.heap.size, V, by simp [Act.put, upd, put1, y1, n3, n12, n13, n14, hL], hG.alloc _, (fun _ _ => by simpa [put1] using Temp.new hG (k - q + 1)), hV0, (fun h1 h2 => by simpa [put1] using (hT1 h1 h2).alloc _), hV1⟩
                simp only [y1, n3, n12, n13, n14, hL, cond_true, cond_false]
                go_simp
              · trace "op 3"
                have y0 : L 0 = true := up_at hu 0 (by kernel_rfl)
                have y1 : L 1 = true := shut_at hs 2 1 (by kernel_rfl) (up_at hu 2 (by kernel_rfl))
                have y2 : L 2 = true := up_at hu 2 (by kernel_rfl)
                have n12 : L 12 = false := not_yet hL fun h => shut_at hs 12 3 (by kernel_rfl) (h)
                have n13 : L 13 = false := not_yet hL fun h => shut_at hs 13 3 (by kernel_rfl) (h)
                have n14 : L 14 = false := not_yet hL fun h => shut_at hs 14 3 (by kernel_rfl) (h)
                have hT := hT0 y2 hL
                obtain ⟨g, c, w2, hr, hG2, hT2, _⟩ := hG.app (i := 0) (by omega) hT (by simp only [sel3]; simp [y0, y1, y2, n12, n13, n14, hL]; omega)
                have hVo := hV0 hL
                rw [hVo] at hr
                simp only [sel3, hL, cond_false, if_true, if_false, Nat.zero_ne_one, Nat.one_ne_zero, reduceIte, Nat.succ_ne_self, Nat.reduceEqDiff] at hr hT2
                clear hVo
                refine opIn_run (v := .slice (some ⟨g, 0, none⟩) (X0.length + 1) c) (w' := w2) rfl rfl (fun c h => by cases h) (fun _ => trivial) ?_ ⟨nb, put1 V 0 (.slice (some ⟨g, 0, none⟩) (X0.length + 1) c), by simp [Act.put, upd, put1, y0, y1, y2, n12, n13, n14, hL], ?_, (fun h1 h2 => by simp [upd] at h2), (fun h2 => by simp [upd] at h2), (fun h1 h2 => hT2 _ _ (hT1 h1 h2)), (fun h2 => by rw [put1_ne _ _ (by decide)]; exact hV1 h2)⟩
                · simp only [y0, y1, y2, n12, n13, n14, hL, cond_true, cond_false]
                  go_simp
                · rw [sel3_put0] at hG2
                  simpa [sel3, upd, y0, y1, y2, n12, n13, n14, hL] using hG2
              · trace "op 4"
                have n12 : L 12 = false := not_yet hL fun h => shut_at hs 12 4 (by kernel_rfl) (h)
                have n13 : L 13 = false := not_yet hL fun h => shut_at hs 12 4 (by kernel_rfl) (shut_at hs 13 12 (by kernel_rfl) (h))
                have n14 : L 14 = false := not_yet hL fun h => shut_at hs 14 4 (by kernel_rfl) (h)
                refine opIn_run (v := u11) (w' := w') rfl rfl (fun c h => by cases h) (fun _ => trivial) ?_ ⟨nb, V, by simp [Act.put, upd, n12, n13, n14, hL], hG, hT0, hV0, hT1, hV1⟩
                simp only [n12, n13, n14, hL, cond_true, cond_false]
                go_simp
              · trace "op 5"
                have n11 : L 11 = false := not_yet hL fun h => shut_at hs 7 5 (by kernel_rfl) (shut_at hs 8 7 (by kernel_rfl) (shut_at hs 10 8 (by kernel_rfl) (shut_at hs 11 10 (by kernel_rfl) (h))))
                have n12 : L 12 = false := not_yet hL fun h => shut_at hs 7 5 (by kernel_rfl) (shut_at hs 8 7 (by kernel_rfl) (shut_at hs 10 8 (by kernel_rfl) (shut_at hs 11 10 (by kernel_rfl) (shut_at hs 12 11 (by kernel_rfl) (h)))))
                have n13 : L 13 = false := not_yet hL fun h => shut_at hs 7 5 (by kernel_rfl) (shut_at hs 8 7 (by kernel_rfl) (shut_at hs 10 8 (by kernel_rfl) (shut_at hs 11 10 (by kernel_rfl) (shut_at hs 12 11 (by kernel_rfl) (shut_at hs 13 12 (by kernel_rfl) (h))))))
                have n14 : L 14 = false := not_yet hL fun h => shut_at hs 14 5 (by kernel_rfl) (h)
                refine opIn_run (v := .slice (some ⟨b0, o0, none⟩) n c) (w' := w') rfl rfl (fun c h => by cases h) (fun _ => trivial) ?_ ⟨nb, V, by simp [Act.put, upd, n11, n12, n13, n14, hL], hG, hT0, hV0, hT1, hV1⟩
                simp only [n11, n12, n13, n14, hL, cond_true, cond_false]
                go_simp
              · trace "op 6"
                have n11 : L 11 = false := not_yet hL fun h => shut_at hs 7 6 (by kernel_rfl) (shut_at hs 8 7 (by kernel_rfl) (shut_at hs 10 8 (by kernel_rfl) (shut_at hs 11 10 (by kernel_rfl) (h))))
                have n12 : L 12 = false := not_yet hL fun h => shut_at hs 7 6 (by kernel_rfl) (shut_at hs 8 7 (by kernel_rfl) (shut_at hs 10 8 (by kernel_rfl) (shut_at hs 11 10 (by kernel_rfl) (shut_at hs 12 11 (by kernel_rfl) (h)))))
                have n13 : L 13 = false := not_yet hL fun h => shut_at hs 7 6 (by kernel_rfl) (shut_at hs 8 7 (by kernel_rfl) (shut_at hs 10 8 (by kernel_rfl) (shut_at hs 11 10 (by kernel_rfl) (shut_at hs 12 11 (by kernel_rfl) (shut_at hs 13 12 (by kernel_rfl) (h))))))
                have n14 : L 14 = false := not_yet hL fun h => shut_at hs 14 6 (by kernel_rfl) (h)
                refine opIn_run (v := .int .i64 k) (w' := w') rfl rfl (fun c h => by cases h) (fun _ => trivial) ?_ ⟨nb, V, by simp [Act.put, upd, n11, n12, n13, n14, hL], hG, hT0, hV0, hT1, hV1⟩
                simp only [n11, n12, n13, n14, hL, cond_true, cond_false]
                go_simp
              · trace "op 7"
                have y5 : L 5 = true := up_at hu 5 (by kernel_rfl)
                have y6 : L 6 = true := up_at hu 6 (by kernel_rfl)
                have n11 : L 11 = false := not_yet hL fun h => shut_at hs 8 7 (by kernel_rfl) (shut_at hs 10 8 (by kernel_rfl) (shut_at hs 11 10 (by kernel_rfl) (h)))
                have n12 : L 12 = false := not_yet hL fun h => shut_at hs 8 7 (by kernel_rfl) (shut_at hs 10 8 (by kernel_rfl) (shut_at hs 11 10 (by kernel_rfl) (shut_at hs 12 11 (by kernel_rfl) (h))))
                have n13 : L 13 = false := not_yet hL fun h => shut_at hs 8 7 (by kernel_rfl) (shut_at hs 10 8 (by kernel_rfl) (shut_at hs 11 10 (by kernel_rfl) (shut_at hs 12 11 (by kernel_rfl) (shut_at hs 13 12 (by kernel_rfl) (h)))))
                have n14 : L 14 = false := not_yet hL fun h => shut_at hs 14 7 (by kernel_rfl) (h)
                refine opIn_run (v := .pointer (some ⟨b0, o0 + k, none⟩)) (w' := w') rfl rfl (fun c h => by cases h) (fun _ => trivial) ?_ ⟨nb, V, by simp [Act.put, upd, y5, y6, n11, n12, n13, n14, hL], hG, hT0, hV0, hT1, hV1⟩
                simp only [y5, y6, n11, n12, n13, n14, hL, cond_true, cond_false]
                go_simp
              · trace "op 8"
                have y5 : L 5 = true := shut_at hs 7 5 (by kernel_rfl) (up_at hu 7 (by kernel_rfl))
                have y6 : L 6 = true := shut_at hs 7 6 (by kernel_rfl) (up_at hu 7 (by kernel_rfl))
                have y7 : L 7 = true := up_at hu 7 (by kernel_rfl)
                have n11 : L 11 = false := not_yet hL fun h => shut_at hs 10 8 (by kernel_rfl) (shut_at hs 11 10 (by kernel_rfl) (h))
                have n12 : L 12 = false := not_yet hL fun h => shut_at hs 10 8 (by kernel_rfl) (shut_at hs 11 10 (by kernel_rfl) (shut_at hs 12 11 (by kernel_rfl) (h)))
                have n13 : L 13 = false := not_yet hL fun h => shut_at hs 10 8 (by kernel_rfl) (shut_at hs 11 10 (by kernel_rfl) (shut_at hs 12 11 (by kernel_rfl) (shut_at hs 13 12 (by kernel_rfl) (h))))
                have n14 : L 14 = false := not_yet hL fun h => shut_at hs 14 8 (by kernel_rfl) (h)
                have cz := (hG.bel.cell (p := ⟨b0, o0 + k, none⟩) hb0).trans m0
                refine opIn_run (v := .int .i64 z) (w' := w') rfl rfl (fun c h => by cases h) (fun _ => trivial) ?_ ⟨nb, V, by simp [Act.put, upd, y5, y6, y7, n11, n12, n13, n14, hL], hG, hT0, hV0, hT1, hV1⟩
                simp only [y5, y6, y7, n11, n12, n13, n14, hL, cond_true, cond_false]
                go_simp
              · trace "op 9"
                have n11 : L 11 = false := not_yet hL fun h => shut_at hs 10 9 (by kernel_rfl) (shut_at hs 11 10 (by kernel_rfl) (h))
                have n12 : L 12 = false := not_yet hL fun h => shut_at hs 10 9 (by kernel_rfl) (shut_at hs 11 10 (by kernel_rfl) (shut_at hs 12 11 (by kernel_rfl) (h)))
                have n13 : L 13 = false := not_yet hL fun h => shut_at hs 10 9 (by kernel_rfl) (shut_at hs 11 10 (by kernel_rfl) (shut_at hs 12 11 (by kernel_rfl) (shut_at hs 13 12 (by kernel_rfl) (h))))
                have n14 : L 14 = false := not_yet hL fun h => shut_at hs 14 9 (by kernel_rfl) (h)
                refine opIn_run (v := .int .i64 y) (w' := w') rfl rfl (fun c h => by cases h) (fun _ => trivial) ?_ ⟨nb, V, by simp [Act.put, upd, n11, n12, n13, n14, hL], hG, hT0, hV0, hT1, hV1⟩
                simp only [n11, n12, n13, n14, hL, cond_true, cond_false]
                go_simp
              · trace "op 10"
                have y5 : L 5 = true := shut_at hs 7 5 (by kernel_rfl) (shut_at hs 8 7 (by kernel_rfl) (up_at hu 8 (by kernel_rfl)))
                have y6 : L 6 = true := shut_at hs 7 6 (by kernel_rfl) (shut_at hs 8 7 (by kernel_rfl) (up_at hu 8 (by kernel_rfl)))
                have y7 : L 7 = true := shut_at hs 8 7 (by kernel_rfl) (up_at hu 8 (by kernel_rfl))
                have y8 : L 8 = true := up_at hu 8 (by kernel_rfl)
                have y9 : L 9 = true := up_at hu 9 (by kernel_rfl)
                have n11 : L 11 = false := not_yet hL fun h => shut_at hs 11 10 (by kernel_rfl) (h)
                have n12 : L 12 = false := not_yet hL fun h => shut_at hs 11 10 (by kernel_rfl) (shut_at hs 12 11 (by kernel_rfl) (h))
                have n13 : L 13 = false := not_yet hL fun h => shut_at hs 11 10 (by kernel_rfl) (shut_at hs 12 11 (by kernel_rfl) (shut_at hs 13 12 (by kernel_rfl) (h)))
                have n14 : L 14 = false := not_yet hL fun h => shut_at hs 14 10 (by kernel_rfl) (h)
                have ez := (IntWalk.i64_in _ (by omega) : IntKind.i64.wrap (z - y) = z - y)
                refine opIn_run (v := .int .i64 (z - y)) (w' := w') rfl rfl (fun c h => by cases h) (fun _ => trivial) ?_ ⟨nb, V, by simp [Act.put, upd, y5, y6, y7, y8, y9, n11, n12, n13, n14, hL], hG, hT0, hV0, hT1, hV1⟩
                simp only [y5, y6, y7, y8, y9, n11, n12, n13, n14, hL, cond_true, cond_false]
                go_simp
              · trace "op 11"
                have y5 : L 5 = true := shut_at hs 7 5 (by kernel_rfl) (shut_at hs 8 7 (by kernel_rfl) (shut_at hs 10 8 (by kernel_rfl) (up_at hu 10 (by kernel_rfl))))
                have y6 : L 6 = true := shut_at hs 7 6 (by kernel_rfl) (shut_at hs 8 7 (by kernel_rfl) (shut_at hs 10 8 (by kernel_rfl) (up_at hu 10 (by kernel_rfl))))
                have y7 : L 7 = true := shut_at hs 8 7 (by kernel_rfl) (shut_at hs 10 8 (by kernel_rfl) (up_at hu 10 (by kernel_rfl)))
                have y8 : L 8 = true := shut_at hs 10 8 (by kernel_rfl) (up_at hu 10 (by kernel_rfl))
                have y9 : L 9 = true := shut_at hs 10 9 (by kernel_rfl) (up_at hu 10 (by kernel_rfl))
                have y10 : L 10 = true := up_at hu 10 (by kernel_rfl)
                have n12 : L 12 = false := not_yet hL fun h => shut_at hs 12 11 (by kernel_rfl) (h)
                have n13 : L 13 = false := not_yet hL fun h => shut_at hs 12 11 (by kernel_rfl) (shut_at hs 13 12 (by kernel_rfl) (h))
                have n14 : L 14 = false := not_yet hL fun h => shut_at hs 14 11 (by kernel_rfl) (h)
                refine opIn_run (v := .slice (some ⟨w'.heap.size, 0, none⟩) 1 1) (w' := w'.alloc (.cells #[.int .i64 (z - y)] 3)) rfl rfl (fun c h => by cases h) (fun _ => trivial) ?_ ⟨put1 nb 1 w'.heap.size, V, by simp [Act.put, upd, put1, y5, y6, y7, y8, y9, y10, n12, n13, n14, hL], hG.alloc _, (fun h1 h2 => by simpa [put1] using (hT0 h1 h2).alloc _), hV0, (fun _ _ => by simpa [put1] using Temp.new hG (z - y)), hV1⟩
                simp only [y5, y6, y7, y8, y9, y10, n12, n13, n14, hL, cond_true, cond_false]
                go_simp
              · trace "op 12"
                have y0 : L 0 = true := shut_at hs 3 0 (by kernel_rfl) (up_at hu 3 (by kernel_rfl))
                have y1 : L 1 = true := shut_at hs 2 1 (by kernel_rfl) (shut_at hs 3 2 (by kernel_rfl) (up_at hu 3 (by kernel_rfl)))
                have y2 : L 2 = true := shut_at hs 3 2 (by kernel_rfl) (up_at hu 3 (by kernel_rfl))
                have y3 : L 3 = true := up_at hu 3 (by kernel_rfl)
                have y4 : L 4 = true := up_at hu 4 (by kernel_rfl)
                have y5 : L 5 = true := shut_at hs 7 5 (by kernel_rfl) (shut_at hs 8 7 (by kernel_rfl) (shut_at hs 10 8 (by kernel_rfl) (shut_at hs 11 10 (by kernel_rfl) (up_at hu 11 (by kernel_rfl)))))
                have y6 : L 6 = true := shut_at hs 7 6 (by kernel_rfl) (shut_at hs 8 7 (by kernel_rfl) (shut_at hs 10 8 (by kernel_rfl) (shut_at hs 11 10 (by kernel_rfl) (up_at hu 11 (by kernel_rfl)))))
                have y7 : L 7 = true := shut_at hs 8 7 (by kernel_rfl) (shut_at hs 10 8 (by kernel_rfl) (shut_at hs 11 10 (by kernel_rfl) (up_at hu 11 (by kernel_rfl))))
                have y8 : L 8 = true := shut_at hs 10 8 (by kernel_rfl) (shut_at hs 11 10 (by kernel_rfl) (up_at hu 11 (by kernel_rfl)))
                have y9 : L 9 = true := shut_at hs 10 9 (by kernel_rfl) (shut_at hs 11 10 (by kernel_rfl) (up_at hu 11 (by kernel_rfl)))
                have y10 : L 10 = true := shut_at hs 11 10 (by kernel_rfl) (up_at hu 11 (by kernel_rfl))
                have y11 : L 11 = true := up_at hu 11 (by kernel_rfl)
                have n13 : L 13 = false := not_yet hL fun h => shut_at hs 13 12 (by kernel_rfl) (h)
                have n14 : L 14 = false := not_yet hL fun h => shut_at hs 14 12 (by kernel_rfl) (h)
                have hT := hT1 y11 hL
                obtain ⟨g, c, w2, hr, hG2, hT2, _⟩ := hG.app (i := 1) (by omega) hT (by simp only [sel3]; simp [y0, y1, y2, y3, y4, y5, y6, y7, y8, y9, y10, y11, n13, n14, hL]; omega)
                have hVo := hV1 hL
                rw [hVo] at hr
                simp only [sel3, hL, cond_false, if_true, if_false, Nat.zero_ne_one, Nat.one_ne_zero, reduceIte, Nat.succ_ne_self, Nat.reduceEqDiff] at hr hT2
                clear hVo
                refine opIn_run (v := .slice (some ⟨g, 0, none⟩) (X1.length + 1) c) (w' := w2) rfl rfl (fun c h => by cases h) (fun _ => trivial) ?_ ⟨nb, put1 V 1 (.slice (some ⟨g, 0, none⟩) (X1.length + 1) c), by simp [Act.put, upd, put1, y0, y1, y2, y3, y4, y5, y6, y7, y8, y9, y10, y11, n13, n14, hL], ?_, (fun h1 h2 => hT2 _ _ (hT0 h1 h2)), (fun h2 => by rw [put1_ne _ _ (by decide)]; exact hV0 h2), (fun h1 h2 => by simp [upd] at h2), (fun h2 => by simp [upd] at h2)⟩
                · simp only [y0, y1, y2, y3, y4, y5, y6, y7, y8, y9, y10, y11, n13, n14, hL, cond_true, cond_false]
                  go_simp
                · rw [sel3_put1] at hG2
                  simpa [sel3, upd, y0, y1, y2, y3, y4, y5, y6, y7, y8, y9, y10, y11, n13, n14, hL] using hG2
              · trace "op 13"
                have y0 : L 0 = true := up_at hu 0 (by kernel_rfl)
                have y1 : L 1 = true := up_at hu 1 (by kernel_rfl)
                have y2 : L 2 = true := up_at hu 2 (by kernel_rfl)
                have y3 : L 3 = true := up_at hu 3 (by kernel_rfl)
                have y4 : L 4 = true := shut_at hs 12 4 (by kernel_rfl) (up_at hu 12 (by kernel_rfl))
                have y5 : L 5 = true := shut_at hs 7 5 (by kernel_rfl) (shut_at hs 8 7 (by kernel_rfl) (shut_at hs 10 8 (by kernel_rfl) (shut_at hs 11 10 (by kernel_rfl) (shut_at hs 12 11 (by kernel_rfl) (up_at hu 12 (by kernel_rfl))))))
                have y6 : L 6 = true := shut_at hs 7 6 (by kernel_rfl) (shut_at hs 8 7 (by kernel_rfl) (shut_at hs 10 8 (by kernel_rfl) (shut_at hs 11 10 (by kernel_rfl) (shut_at hs 12 11 (by kernel_rfl) (up_at hu 12 (by kernel_rfl))))))
                have y7 : L 7 = true := shut_at hs 8 7 (by kernel_rfl) (shut_at hs 10 8 (by kernel_rfl) (shut_at hs 11 10 (by kernel_rfl) (shut_at hs 12 11 (by kernel_rfl) (up_at hu 12 (by kernel_rfl)))))
                have y8 : L 8 = true := shut_at hs 10 8 (by kernel_rfl) (shut_at hs 11 10 (by kernel_rfl) (shut_at hs 12 11 (by kernel_rfl) (up_at hu 12 (by kernel_rfl))))
                have y9 : L 9 = true := shut_at hs 10 9 (by kernel_rfl) (shut_at hs 11 10 (by kernel_rfl) (shut_at hs 12 11 (by kernel_rfl) (up_at hu 12 (by kernel_rfl))))
                have y10 : L 10 = true := shut_at hs 11 10 (by kernel_rfl) (shut_at hs 12 11 (by kernel_rfl) (up_at hu 12 (by kernel_rfl)))
                have y11 : L 11 = true := shut_at hs 12 11 (by kernel_rfl) (up_at hu 12 (by kernel_rfl))
                have y12 : L 12 = true := up_at hu 12 (by kernel_rfl)
                have n14 : L 14 = false := not_yet hL fun h => shut_at hs 14 13 (by kernel_rfl) (h)
                refine opIn_run (v := V 0) (w' := w') rfl rfl (fun c h => by cases h) (fun _ => trivial) ?_ ⟨nb, V, by simp [Act.put, upd, y0, y1, y2, y3, y4, y5, y6, y7, y8, y9, y10, y11, y12, n14, hL], hG, hT0, hV0, hT1, hV1⟩
                simp only [y0, y1, y2, y3, y4, y5, y6, y7, y8, y9, y10, y11, y12, n14, hL, cond_true, cond_false]
                go_simp
              · trace "op 14"
                have y0 : L 0 = true := up_at hu 0 (by kernel_rfl)
                have y1 : L 1 = true := up_at hu 1 (by kernel_rfl)
                have y2 : L 2 = true := up_at hu 2 (by kernel_rfl)
                have y3 : L 3 = true := up_at hu 3 (by kernel_rfl)
                have y4 : L 4 = true := up_at hu 4 (by kernel_rfl)
                have y5 : L 5 = true := up_at hu 5 (by kernel_rfl)
                have y6 : L 6 = true := up_at hu 6 (by kernel_rfl)
                have y7 : L 7 = true := up_at hu 7 (by kernel_rfl)
                have y8 : L 8 = true := up_at hu 8 (by kernel_rfl)
                have y9 : L 9 = true := up_at hu 9 (by kernel_rfl)
                have y10 : L 10 = true := up_at hu 10 (by kernel_rfl)
                have y11 : L 11 = true := up_at hu 11 (by kernel_rfl)
                have y12 : L 12 = true := up_at hu 12 (by kernel_rfl)
                have y13 : L 13 = true := up_at hu 13 (by kernel_rfl)
                refine opIn_run (v := V 1) (w' := w') rfl rfl (fun c h => by cases h) (fun _ => trivial) ?_ ⟨nb, V, by simp [Act.put, upd, y0, y1, y2, y3, y4, y5, y6, y7, y8, y9, y10, y11, y12, y13, hL], hG, hT0, hV0, hT1, hV1⟩
                simp only [y0, y1, y2, y3, y4, y5, y6, y7, y8, y9, y10, y11, y12, y13, hL, cond_true, cond_false]
                go_simp
            case start =>
              exact ⟨fun _ => 0, sel3 u10 u11 (.slice none 0 0), rfl, hG0, (fun h _ => by cases h), (fun _ => rfl), (fun h _ => by cases h), (fun _ => rfl)⟩
            case fin =>
              intro L a' w' hall hI
              obtain ⟨nb, V, rfl, hG, hT0, hV0, hT1, hV1⟩ := hI
              have l2 := hall 2 (by decide)
              have l3 := hall 3 (by decide)
              have l11 := hall 11 (by decide)
              have l12 := hall 12 (by decide)
              have l13 := hall 13 (by decide)
              have l14 := hall 14 (by decide)
              have l0 := hall 0 (by decide)
              have l1 := hall 1 (by decide)
              have l4 := hall 4 (by decide)
              have l5 := hall 5 (by decide)
              have l6 := hall 6 (by decide)
              have l7 := hall 7 (by decide)
              have l8 := hall 8 (by decide)
              have l9 := hall 9 (by decide)
              have l10 := hall 10 (by decide)
              simp only [l0, l1, l2, l3, l4, l5, l6, l7, l8, l9, l10, l11, l12, l13, l14, cond_true] at hG ⊢
              clear l0 l1 l2 l3 l4 l5 l6 l7 l8 l9 l10 l11 l12 l13 l14 hall hT0 hV0 hT1 hV1
              have hG3 := hG.x3
              simp only [sel3, if_true, if_false, Nat.one_ne_zero, reduceIte, Nat.reduceEqDiff] at hG3
              clear hG
              generalize V 0 = v0 at *
              generalize V 1 = v1 at *
              generalize V 2 = v2 at *
              have cz := (hG3.bel.cell (p := ⟨b0, o0 + k, none⟩) hb0).trans m0
              have hl2 : (pcs s f t (m + 1)).1.map qN = X0 ++ [(k : Int) - q + 1] := by
                rw [HS.out, List.map_append, HX.out.1]
                show X0 ++ [f + m + 1 - (pcs s f t m).2] = _
                rw [← HQ.out.1, hk, show (k : Int) + 1 - q = k - q + 1 by omega]
              have hl3 : (pcs s f t (m + 1)).1.map (qB l) = X1 ++ [z - y] := by
                rw [HS.out, List.map_append, HX.out.2]
                show X1 ++ [bef l (f + m + 1) - bef l (pcs s f t m).2] = _
                rw [HZ.out, ← HQ.out.1, ← HQ.out.2]
              have HG3 : Hid (∀ nq, Grow w.heap.size w (w'.drewN nq) (sel3 v0 v1 (.slice none 0 0)) (sel3 ((pcs s f t (m + 1)).1.map qN) ((pcs s f t (m + 1)).1.map (qB l)) []) 2) := Lib.hid fun nq => by
                rw [hl2, hl3]; exact (Grow.third hG3).drewN nq
              clear hG3 hl2 hl3
              have hkk : (k : Int) < (n : Int) := hkn
              go_wp2
              go_quiet (fail)
              go_wp2
              go_roundw
              case rel => exact ⟨m + 1, f + m + 1, z, by push_cast; omega, by rw [← hk]; push_cast; go_num, by rw [show f + ((m + 1 : Nat) : Int) - (f + m + 1) = 0 by push_cast; omega], rfl, by rw [HS.out], HZ.out.symm, HG3.out _⟩
              case measure => simp [intOf]; omega
          · have c4 : ((k : Int) == t - 1) = false := by simpa using c3
            have c2 : endsF s k = true := by
              cases h : endsF s k
              · exact absurd ⟨by omega, by rw [hk]; exact h⟩ HC1.out
              · rfl
            clear c3
            go_wp2_with (go_at_call 16; refine (r14ends_pick _ _ _ (by omega) c2).mono ?_; rintro e w' ⟨rfl, rfl⟩)
            have hgo : (pcs s f t m).1.length ≤ 1000 := by omega
            obtain ⟨X0, hX0⟩ : ∃ X0, (pcs s f t m).1.map qN = X0 := ⟨_, rfl⟩
            obtain ⟨X1, hX1⟩ : ∃ X1, (pcs s f t m).1.map (qB l) = X1 := ⟨_, rfl⟩
            have hG := HG.out
            rw [hX0, hX1] at hG
            have hl0 : X0.length ≤ 1000 := by rw [← hX0, List.length_map]; exact hgo
            have hl1 : X1.length ≤ 1000 := by rw [← hX1, List.length_map]; exact hgo
            have HX := Lib.hid (And.intro hX0 hX1)
            clear hX0 hX1
            have hG0 : Grow w.heap.size w wr.drew (sel3 u10 u11 (.slice none 0 0)) (sel3 X0 X1 []) 2 := hG.drew
            clear hG
            refine (wpIn_wide (n := 9)).1 (regionIn_inv (Inv := fun L a w' => ∃ (nb : Nat → Nat) (V : Nat → Value), a = { tmps := #[.int .i64 s, .int .i64 f, .int .i64 t, .slice (some ⟨b0, o0, none⟩) n c, undef, undef, undef, undef, .slice none 0 0, .slice none 0 0, bif L 13 then V 0 else u10, bif L 14 then V 1 else u11, .int .i64 (k - q + 1), .int .i64 y, .int .i64 k, .int .i64 f, .bool (decide (0 < f)), u17, u18, u19, u20, u21, .int .i64 f, .int .i64 k, .int .i64 t, .bool true, u26, u27, .int .i64 (k - q), .int .i64 (k - q + 1), .int .i64 k, .int .i64 t, .int .i64 (t - 1), .bool false, .bool false, .int .i64 s, .int .i64 k, .bool true, .bool true, bif L 0 then u10 else u39, bif L 1 then .int .i64 (k - q + 1) else u40, bif L 2 then .slice (some ⟨nb 0, 0, none⟩) 1 1 else u41, bif L 3 then V 0 else u42, bif L 4 then u11 else u43, bif L 5 then .slice (some ⟨b0, o0, none⟩) n c else u44, bif L 6 then .int .i64 k else u45, bif L 7 then .pointer (some ⟨b0, o0 + k, none⟩) else u46, bif L 8 then .int .i64 z else u47, bif L 9 then .int .i64 y else u48, bif L 10 then .int .i64 (z - y) else u49, bif L 11 then .slice (some ⟨nb 1, 0, none⟩) 1 1 else u50, bif L 12 then V 1 else u51, u52, u53, u54, u55, undef, undef], defers := [] } ∧ Grow w.heap.size w w' V (sel3 (bif L 3 then X0 ++ [k - q + 1] else X0) (bif L 12 then X1 ++ [z - y] else X1) []) 2 ∧ (L 2 = true → L 3 = false → Temp w' V 2 (nb 0) (k - q + 1)) ∧ (L 3 = false → V 0 = u10) ∧ (L 11 = true → L 12 = false → Temp w' V 2 (nb 1) (z - y)) ∧ (L 12 = false → V 1 = u11)) hmo (by kernel_rfl) ?start ?step ?fin)
            case step =>
              intro i hi L a' w' hI hs hu
              obtain ⟨nb, V, rfl, hG, hT0, hV0, hT1, hV1⟩ := hI
              have hL := hu.1
              have hi : i < 15 := hi
              obtain rfl | rfl | rfl | rfl | rfl | rfl | rfl | rfl | rfl | rfl | rfl | rfl | rfl | rfl | rfl := (by omega : i = 0 ∨ i = 1 ∨ i = 2 ∨ i = 3 ∨ i = 4 ∨ i = 5 ∨ i = 6 ∨ i = 7 ∨ i = 8 ∨ i = 9 ∨ i = 10 ∨ i = 11 ∨ i = 12 ∨ i = 13 ∨ i = 14)
              · trace "op 0"
                have n3 : L 3 = false := not_yet hL fun h => shut_at hs 3 0 (by kernel_rfl) (h)
                have n12 : L 12 = false := not_yet hL fun h => shut_at hs 3 0 (by kernel_rfl) (shut_at hs 12 3 (by kernel_rfl) (h))
                have n13 : L 13 = false := not_yet hL fun h => shut_at hs 13 0 (by kernel_rfl) (h)
                have n14 : L 14 = false := not_yet hL fun h => shut_at hs 14 0 (by kernel_rfl) (h)
                refine opIn_run (v := u10) (w' := w') rfl rfl (fun c h => by cases h) (fun _ => trivial) ?_ ⟨nb, V, by simp [Act.put, upd, n3, n12, n13, n14, hL], hG, hT0, hV0, hT1, hV1⟩
                simp only [n3, n12, n13, n14, hL, cond_true, cond_false]
                go_simp
              · trace "op 1"
                have n2 : L 2 = false := not_yet hL fun h => shut_at hs 2 1 (by kernel_rfl) (h)
                have n3 : L 3 = false := not_yet hL fun h => shut_at hs 2 1 (by kernel_rfl) (shut_at hs 3 2 (by kernel_rfl) (h))
                have n12 : L 12 = false := not_yet hL fun h => shut_at hs 2 1 (by kernel_rfl) (shut_at hs 3 2 (by kernel_rfl) (shut_at hs 12 3 (by kernel_rfl) (h)))
                have n13 : L 13 = false := not_yet hL fun h => shut_at hs 13 1 (by kernel_rfl) (h)
                have n14 : L 14 = false := not_yet hL fun h => shut_at hs 14 1 (by kernel_rfl) (h)
                refine opIn_run (v := .int .i64 (k - q + 1)) (w' := w') rfl rfl (fun c h => by cases h) (fun _ => trivial) ?_ ⟨nb, V, by simp [Act.put, upd, n2, n3, n12, n13, n14, hL], hG, hT0, hV0, hT1, hV1⟩
                simp only [n2, n3, n12, n13, n14, hL, cond_true, cond_false]
                go_simp
              · trace "op 2"
                have y1 : L 1 = true := up_at hu 1 (by kernel_rfl)
                have n3 : L 3 = false := not_yet hL fun h => shut_at hs 3 2 (by kernel_rfl) (h)
                have n12 : L 12 = false := not_yet hL fun h => shut_at hs 3 2 (by kernel_rfl) (shut_at hs 12 3 (by kernel_rfl) (h))
                have n13 : L 13 = false := not_yet hL fun h => shut_at hs 13 2 (by kernel_rfl) (h)
                have n14 : L 14 = false := not_yet hL fun h => shut_at hs 14 2 (by kernel_rfl) (h)
                refine opIn_run (v := .slice (some ⟨w'.heap.size, 0, none⟩) 1 1) (w' := w'.alloc (.cells #[.int .i64 (k - q + 1)] 3)) rfl rfl (fun c h => by cases h) (fun _ => trivial) ?_ ⟨put1 nb 0 w'.heap.size, V, by simp [Act.put, upd, put1, y1, n3, n12, n13, n14, hL], hG.alloc _, (fun _ _ => by simpa [put1] using Temp.new hG (k - q + 1)), hV0, (fun h1 h2 => by simpa [put1] using (hT1 h1 h2).alloc _), hV1⟩
                simp only [y1, n3, n12, n13, n14, hL, cond_true, cond_false]
                go_simp
              · trace "op 3"
                have y0 : L 0 = true := up_at hu 0 (by kernel_rfl)
                have y1 : L 1 = true := shut_at hs 2 1 (by kernel_rfl) (up_at hu 2 (by kernel_rfl))
                have y2 : L 2 = true := up_at hu 2 (by kernel_rfl)
                have n12 : L 12 = false := not_yet hL fun h => shut_at hs 12 3 (by kernel_rfl) (h)
                have n13 : L 13 = false := not_yet hL fun h => shut_at hs 13 3 (by kernel_rfl) (h)
                have n14 : L 14 = false := not_yet hL fun h => shut_at hs 14 3 (by kernel_rfl) (h)
                have hT := hT0 y2 hL
                obtain ⟨g, c, w2, hr, hG2, hT2, _⟩ := hG.app (i := 0) (by omega) hT (by simp only [sel3]; simp [y0, y1, y2, n12, n13, n14, hL]; omega)
                have hVo := hV0 hL
                rw [hVo] at hr
                simp only [sel3, hL, cond_false, if_true, if_false, Nat.zero_ne_one, Nat.one_ne_zero, reduceIte, Nat.succ_ne_self, Nat.reduceEqDiff] at hr hT2
                clear hVo
                refine opIn_run (v := .slice (some ⟨g, 0, none⟩) (X0.length + 1) c) (w' := w2) rfl rfl (fun c h => by cases h) (fun _ => trivial) ?_ ⟨nb, put1 V 0 (.slice (some ⟨g, 0, none⟩) (X0.length + 1) c), by simp [Act.put, upd, put1, y0, y1, y2, n12, n13, n14, hL], ?_, (fun h1 h2 => by simp [upd] at h2), (fun h2 => by simp [upd] at h2), (fun h1 h2 => hT2 _ _ (hT1 h1 h2)), (fun h2 => by rw [put1_ne _ _ (by decide)]; exact hV1 h2)⟩
                · simp only [y0, y1, y2, n12, n13, n14, hL, cond_true, cond_false]
                  go_simp
                · rw [sel3_put0] at hG2
                  simpa [sel3, upd, y0, y1, y2, n12, n13, n14, hL] using hG2
              · trace "op 4"
                have n12 : L 12 = false := not_yet hL fun h => shut_at hs 12 4 (by kernel_rfl) (h)
                have n13 : L 13 = false := not_yet hL fun h => shut_at hs 12 4 (by kernel_rfl) (shut_at hs 13 12 (by kernel_rfl) (h))
                have n14 : L 14 = false := not_yet hL fun h => shut_at hs 14 4 (by kernel_rfl) (h)
                refine opIn_run (v := u11) (w' := w') rfl rfl (fun c h => by cases h) (fun _ => trivial) ?_ ⟨nb, V, by simp [Act.put, upd, n12, n13, n14, hL], hG, hT0, hV0, hT1, hV1⟩
                simp only [n12, n13, n14, hL, cond_true, cond_false]
                go_simp
              · trace "op 5"
                have n11 : L 11 = false := not_yet hL fun h => shut_at hs 7 5 (by kernel_rfl) (shut_at hs 8 7 (by kernel_rfl) (shut_at hs 10 8 (by kernel_rfl) (shut_at hs 11 10 (by kernel_rfl) (h))))
                have n12 : L 12 = false := not_yet hL fun h => shut_at hs 7 5 (by kernel_rfl) (shut_at hs 8 7 (by kernel_rfl) (shut_at hs 10 8 (by kernel_rfl) (shut_at hs 11 10 (by kernel_rfl) (shut_at hs 12 11 (by kernel_rfl) (h)))))
                have n13 : L 13 = false := not_yet hL fun h => shut_at hs 7 5 (by kernel_rfl) (shut_at hs 8 7 (by kernel_rfl) (shut_at hs 10 8 (by kernel_rfl) (shut_at hs 11 10 (by kernel_rfl) (shut_at hs 12 11 (by kernel_rfl) (shut_at hs 13 12 (by kernel_rfl) (h))))))
                have n14 : L 14 = false := not_yet hL fun h => shut_at hs 14 5 (by kernel_rfl) (h)
                refine opIn_run (v := .slice (some ⟨b0, o0, none⟩) n c) (w' := w') rfl rfl (fun c h => by cases h) (fun _ => trivial) ?_ ⟨nb, V, by simp [Act.put, upd, n11, n12, n13, n14, hL], hG, hT0, hV0, hT1, hV1⟩
                simp only [n11, n12, n13, n14, hL, cond_true, cond_false]
                go_simp
              · trace "op 6"
                have n11 : L 11 = false := not_yet hL fun h => shut_at hs 7 6 (by kernel_rfl) (shut_at hs 8 7 (by kernel_rfl) (shut_at hs 10 8 (by kernel_rfl) (shut_at hs 11 10 (by kernel_rfl) (h))))
                have n12 : L 12 = false := not_yet hL fun h => shut_at hs 7 6 (by kernel_rfl) (shut_at hs 8 7 (by kernel_rfl) (shut_at hs 10 8 (by kernel_rfl) (shut_at hs 11 10 (by kernel_rfl) (shut_at hs 12 11 (by kernel_rfl) (h)))))
                have n13 : L 13 = false := not_yet hL fun h => shut_at hs 7 6 (by kernel_rfl) (shut_at hs 8 7 (by kernel_rfl) (shut_at hs 10 8 (by kernel_rfl) (shut_at hs 11 10 (by kernel_rfl) (shut_at hs 12 11 (by kernel_rfl) (shut_at hs 13 12 (by kernel_rfl) (h))))))
                have n14 : L 14 = false := not_yet hL fun h => shut_at hs 14 6 (by kernel_rfl) (h)
                refine opIn_run (v := .int .i64 k) (w' := w') rfl rfl (fun c h => by cases h) (fun _ => trivial) ?_ ⟨nb, V, by simp [Act.put, upd, n11, n12, n13, n14, hL], hG, hT0, hV0, hT1, hV1⟩
                simp only [n11, n12, n13, n14, hL, cond_true, cond_false]
                go_simp
              · trace "op 7"
                have y5 : L 5 = true := up_at hu 5 (by kernel_rfl)
                have y6 : L 6 = true := up_at hu 6 (by kernel_rfl)
                have n11 : L 11 = false := not_yet hL fun h => shut_at hs 8 7 (by kernel_rfl) (shut_at hs 10 8 (by kernel_rfl) (shut_at hs 11 10 (by kernel_rfl) (h)))
                have n12 : L 12 = false := not_yet hL fun h => shut_at hs 8 7 (by kernel_rfl) (shut_at hs 10 8 (by kernel_rfl) (shut_at hs 11 10 (by kernel_rfl) (shut_at hs 12 11 (by kernel_rfl) (h))))
                have n13 : L 13 = false := not_yet hL fun h => shut_at hs 8 7 (by kernel_rfl) (shut_at hs 10 8 (by kernel_rfl) (shut_at hs 11 10 (by kernel_rfl) (shut_at hs 12 11 (by kernel_rfl) (shut_at hs 13 12 (by kernel_rfl) (h)))))
                have n14 : L 14 = false := not_yet hL fun h => shut_at hs 14 7 (by kernel_rfl) (h)
                refine opIn_run (v := .pointer (some ⟨b0, o0 + k, none⟩)) (w' := w') rfl rfl (fun c h => by cases h) (fun _ => trivial) ?_ ⟨nb, V, by simp [Act.put, upd, y5, y6, n11, n12, n13, n14, hL], hG, hT0, hV0, hT1, hV1⟩
                simp only [y5, y6, n11, n12, n13, n14, hL, cond_true, cond_false]
                go_simp
              · trace "op 8"
                have y5 : L 5 = true := shut_at hs 7 5 (by kernel_rfl) (up_at hu 7 (by kernel_rfl))
                have y6 : L 6 = true := shut_at hs 7 6 (by kernel_rfl) (up_at hu 7 (by kernel_rfl))
                have y7 : L 7 = true := up_at hu 7 (by kernel_rfl)
                have n11 : L 11 = false := not_yet hL fun h => shut_at hs 10 8 (by kernel_rfl) (shut_at hs 11 10 (by kernel_rfl) (h))
                have n12 : L 12 = false := not_yet hL fun h => shut_at hs 10 8 (by kernel_rfl) (shut_at hs 11 10 (by kernel_rfl) (shut_at hs 12 11 (by kernel_rfl) (h)))
                have n13 : L 13 = false := not_yet hL fun h => shut_at hs 10 8 (by kernel_rfl) (shut_at hs 11 10 (by kernel_rfl) (shut_at hs 12 11 (by kernel_rfl) (shut_at hs 13 12 (by kernel_rfl) (h))))
                have n14 : L 14 = false := not_yet hL fun h => shut_at hs 14 8 (by kernel_rfl) (h)
                have cz := (hG.bel.cell (p := ⟨b0, o0 + k, none⟩) hb0).trans m0
                refine opIn_run (v := .int .i64 z) (w' := w') rfl rfl (fun c h => by cases h) (fun _ => trivial) ?_ ⟨nb, V, by simp [Act.put, upd, y5, y6, y7, n11, n12, n13, n14, hL], hG, hT0, hV0, hT1, hV1⟩
                simp only [y5, y6, y7, n11, n12, n13, n14, hL, cond_true, cond_false]
                go_simp
              · trace "op 9"
                have n11 : L 11 = false := not_yet hL fun h => shut_at hs 10 9 (by kernel_rfl) (shut_at hs 11 10 (by kernel_rfl) (h))
                have n12 : L 12 = false := not_yet hL fun h => shut_at hs 10 9 (by kernel_rfl) (shut_at hs 11 10 (by kernel_rfl) (shut_at hs 12 11 (by kernel_rfl) (h)))
                have n13 : L 13 = false := not_yet hL fun h => shut_at hs 10 9 (by kernel_rfl) (shut_at hs 11 10 (by kernel_rfl) (shut_at hs 12 11 (by kernel_rfl) (shut_at hs 13 12 (by kernel_rfl) (h))))
                have n14 : L 14 = false := not_yet hL fun h => shut_at hs 14 9 (by kernel_rfl) (h)
                refine opIn_run (v := .int .i64 y) (w' := w') rfl rfl (fun c h => by cases h) (fun _ => trivial) ?_ ⟨nb, V, by simp [Act.put, upd, n11, n12, n13, n14, hL], hG, hT0, hV0, hT1, hV1⟩
                simp only [n11, n12, n13, n14, hL, cond_true, cond_false]
                go_simp
              · trace "op 10"
                have y5 : L 5 = true := shut_at hs 7 5 (by kernel_rfl) (shut_at hs 8 7 (by kernel_rfl) (up_at hu 8 (by kernel_rfl)))
                have y6 : L 6 = true := shut_at hs 7 6 (by kernel_rfl) (shut_at hs 8 7 (by kernel_rfl) (up_at hu 8 (by kernel_rfl)))
                have y7 : L 7 = true := shut_at hs 8 7 (by kernel_rfl) (up_at hu 8 (by kernel_rfl))
                have y8 : L 8 = true := up_at hu 8 (by kernel_rfl)
                have y9 : L 9 = true := up_at hu 9 (by kernel_rfl)
                have n11 : L 11 = false := not_yet hL fun h => shut_at hs 11 10 (by kernel_rfl) (h)
                have n12 : L 12 = false := not_yet hL fun h => shut_at hs 11 10 (by kernel_rfl) (shut_at hs 12 11 (by kernel_rfl) (h))
                have n13 : L 13 = false := not_yet hL fun h => shut_at hs 11 10 (by kernel_rfl) (shut_at hs 12 11 (by kernel_rfl) (shut_at hs 13 12 (by kernel_rfl) (h)))
                have n14 : L 14 = false := not_yet hL fun h => shut_at hs 14 10 (by kernel_rfl) (h)
                have ez := (IntWalk.i64_in _ (by omega) : IntKind.i64.wrap (z - y) = z - y)
                refine opIn_run (v := .int .i64 (z - y)) (w' := w') rfl rfl (fun c h => by cases h) (fun _ => trivial) ?_ ⟨nb, V, by simp [Act.put, upd, y5, y6, y7, y8, y9, n11, n12, n13, n14, hL], hG, hT0, hV0, hT1, hV1⟩
                simp only [y5, y6, y7, y8, y9, n11, n12, n13, n14, hL, cond_true, cond_false]
                go_simp
              · trace "op 11"
                have y5 : L 5 = true := shut_at hs 7 5 (by kernel_rfl) (shut_at hs 8 7 (by kernel_rfl) (shut_at hs 10 8 (by kernel_rfl) (up_at hu 10 (by kernel_rfl))))
                have y6 : L 6 = true := shut_at hs 7 6 (by kernel_rfl) (shut_at hs 8 7 (by kernel_rfl) (shut_at hs 10 8 (by kernel_rfl) (up_at hu 10 (by kernel_rfl))))
                have y7 : L 7 = true := shut_at hs 8 7 (by kernel_rfl) (shut_at hs 10 8 (by kernel_rfl) (up_at hu 10 (by kernel_rfl)))
                have y8 : L 8 = true := shut_at hs 10 8 (by kernel_rfl) (up_at hu 10 (by kernel_rfl))
                have y9 : L 9 = true := shut_at hs 10 9 (by kernel_rfl) (up_at hu 10 (by kernel_rfl))
                have y10 : L 10 = true := up_at hu 10 (by kernel_rfl)
                have n12 : L 12 = false := not_yet hL fun h => shut_at hs 12 11 (by kernel_rfl) (h)
                have n13 : L 13 = false := not_yet hL fun h => shut_at hs 12 11 (by kernel_rfl) (shut_at hs 13 12 (by kernel_rfl) (h))
                have n14 : L 14 = false := not_yet hL fun h => shut_at hs 14 11 (by kernel_rfl) (h)
                refine opIn_run (v := .slice (some ⟨w'.heap.size, 0, none⟩) 1 1) (w' := w'.alloc (.cells #[.int .i64 (z - y)] 3)) rfl rfl (fun c h => by cases h) (fun _ => trivial) ?_ ⟨put1 nb 1 w'.heap.size, V, by simp [Act.put, upd, put1, y5, y6, y7, y8, y9, y10, n12, n13, n14, hL], hG.alloc _, (fun h1 h2 => by simpa [put1] using (hT0 h1 h2).alloc _), hV0, (fun _ _ => by simpa [put1] using Temp.new hG (z - y)), hV1⟩
                simp only [y5, y6, y7, y8, y9, y10, n12, n13, n14, hL, cond_true, cond_false]
                go_simp
              · trace "op 12"
                have y0 : L 0 = true := shut_at hs 3 0 (by kernel_rfl) (up_at hu 3 (by kernel_rfl))
                have y1 : L 1 = true := shut_at hs 2 1 (by kernel_rfl) (shut_at hs 3 2 (by kernel_rfl) (up_at hu 3 (by kernel_rfl)))
                have y2 : L 2 = true := shut_at hs 3 2 (by kernel_rfl) (up_at hu 3 (by kernel_rfl))
                have y3 : L 3 = true := up_at hu 3 (by kernel_rfl)
                have y4 : L 4 = true := up_at hu 4 (by kernel_rfl)
                have y5 : L 5 = true := shut_at hs 7 5 (by kernel_rfl) (shut_at hs 8 7 (by kernel_rfl) (shut_at hs 10 8 (by kernel_rfl) (shut_at hs 11 10 (by kernel_rfl) (up_at hu 11 (by kernel_rfl)))))
                have y6 : L 6 = true := shut_at hs 7 6 (by kernel_rfl) (shut_at hs 8 7 (by kernel_rfl) (shut_at hs 10 8 (by kernel_rfl) (shut_at hs 11 10 (by kernel_rfl) (up_at hu 11 (by kernel_rfl)))))
                have y7 : L 7 = true := shut_at hs 8 7 (by kernel_rfl) (shut_at hs 10 8 (by kernel_rfl) (shut_at hs 11 10 (by kernel_rfl) (up_at hu 11 (by kernel_rfl))))
                have y8 : L 8 = true := shut_at hs 10 8 (by kernel_rfl) (shut_at hs 11 10 (by kernel_rfl) (up_at hu 11 (by kernel_rfl)))
                have y9 : L 9 = true := shut_at hs 10 9 (by kernel_rfl) (shut_at hs 11 10 (by kernel_rfl) (up_at hu 11 (by kernel_rfl)))
                have y10 : L 10 = true := shut_at hs 11 10 (by kernel_rfl) (up_at hu 11 (by kernel_rfl))
                have y11 : L 11 = true := up_at hu 11 (by kernel_rfl)
                have n13 : L 13 = false := not_yet hL fun h => shut_at hs 13 12 (by kernel_rfl) (h)
                have n14 : L 14 = false := not_yet hL fun h => shut_at hs 14 12 (by kernel_rfl) (h)
                have hT := hT1 y11 hL
                obtain ⟨g, c, w2, hr, hG2, hT2, _⟩ := hG.app (i := 1) (by omega) hT (by simp only [sel3]; simp [y0, y1, y2, y3, y4, y5, y6, y7, y8, y9, y10, y11, n13, n14, hL]; omega)
                have hVo := hV1 hL
                rw [hVo] at hr
                simp only [sel3, hL, cond_false, if_true, if_false, Nat.zero_ne_one, Nat.one_ne_zero, reduceIte, Nat.succ_ne_self, Nat.reduceEqDiff] at hr hT2
                clear hVo
                refine opIn_run (v := .slice (some ⟨g, 0, none⟩) (X1.length + 1) c) (w' := w2) rfl rfl (fun c h => by cases h) (fun _ => trivial) ?_ ⟨nb, put1 V 1 (.slice (some ⟨g, 0, none⟩) (X1.length + 1) c), by simp [Act.put, upd, put1, y0, y1, y2, y3, y4, y5, y6, y7, y8, y9, y10, y11, n13, n14, hL], ?_, (fun h1 h2 => hT2 _ _ (hT0 h1 h2)), (fun h2 => by rw [put1_ne _ _ (by decide)]; exact hV0 h2), (fun h1 h2 => by simp [upd] at h2), (fun h2 => by simp [upd] at h2)⟩
                · simp only [y0, y1, y2, y3, y4, y5, y6, y7, y8, y9, y10, y11, n13, n14, hL, cond_true, cond_false]
                  go_simp
                · rw [sel3_put1] at hG2
                  simpa [sel3, upd, y0, y1, y2, y3, y4, y5, y6, y7, y8, y9, y10, y11, n13, n14, hL] using hG2
              · trace "op 13"
                have y0 : L 0 = true := up_at hu 0 (by kernel_rfl)
                have y1 : L 1 = true := up_at hu 1 (by kernel_rfl)
                have y2 : L 2 = true := up_at hu 2 (by kernel_rfl)
                have y3 : L 3 = true := up_at hu 3 (by kernel_rfl)
                have y4 : L 4 = true := shut_at hs 12 4 (by kernel_rfl) (up_at hu 12 (by kernel_rfl))
                have y5 : L 5 = true := shut_at hs 7 5 (by kernel_rfl) (shut_at hs 8 7 (by kernel_rfl) (shut_at hs 10 8 (by kernel_rfl) (shut_at hs 11 10 (by kernel_rfl) (shut_at hs 12 11 (by kernel_rfl) (up_at hu 12 (by kernel_rfl))))))
                have y6 : L 6 = true := shut_at hs 7 6 (by kernel_rfl) (shut_at hs 8 7 (by kernel_rfl) (shut_at hs 10 8 (by kernel_rfl) (shut_at hs 11 10 (by kernel_rfl) (shut_at hs 12 11 (by kernel_rfl) (up_at hu 12 (by kernel_rfl))))))
                have y7 : L 7 = true := shut_at hs 8 7 (by kernel_rfl) (shut_at hs 10 8 (by kernel_rfl) (shut_at hs 11 10 (by kernel_rfl) (shut_at hs 12 11 (by kernel_rfl) (up_at hu 12 (by kernel_rfl)))))
                have y8 : L 8 = true := shut_at hs 10 8 (by kernel_rfl) (shut_at hs 11 10 (by kernel_rfl) (shut_at hs 12 11 (by kernel_rfl) (up_at hu 12 (by kernel_rfl))))
                have y9 : L 9 = true := shut_at hs 10 9 (by kernel_rfl) (shut_at hs 11 10 (by kernel_rfl) (shut_at hs 12 11 (by kernel_rfl) (up_at hu 12 (by kernel_rfl))))
                have y10 : L 10 = true := shut_at hs 11 10 (by kernel_rfl) (shut_at hs 12 11 (by kernel_rfl) (up_at hu 12 (by kernel_rfl)))
                have y11 : L 11 = true := shut_at hs 12 11 (by kernel_rfl) (up_at hu 12 (by kernel_rfl))
                have y12 : L 12 = true := up_at hu 12 (by kernel_rfl)
                have n14 : L 14 = false := not_yet hL fun h => shut_at hs 14 13 (by kernel_rfl) (h)
                refine opIn_run (v := V 0) (w' := w') rfl rfl (fun c h => by cases h) (fun _ => trivial) ?_ ⟨nb, V, by simp [Act.put, upd, y0, y1, y2, y3, y4, y5, y6, y7, y8, y9, y10, y11, y12, n14, hL], hG, hT0, hV0, hT1, hV1⟩
                simp only [y0, y1, y2, y3, y4, y5, y6, y7, y8, y9, y10, y11, y12, n14, hL, cond_true, cond_false]
                go_simp
              · trace "op 14"
                have y0 : L 0 = true := up_at hu 0 (by kernel_rfl)
                have y1 : L 1 = true := up_at hu 1 (by kernel_rfl)
                have y2 : L 2 = true := up_at hu 2 (by kernel_rfl)
                have y3 : L 3 = true := up_at hu 3 (by kernel_rfl)
                have y4 : L 4 = true := up_at hu 4 (by kernel_rfl)
                have y5 : L 5 = true := up_at hu 5 (by kernel_rfl)
                have y6 : L 6 = true := up_at hu 6 (by kernel_rfl)
                have y7 : L 7 = true := up_at hu 7 (by kernel_rfl)
                have y8 : L 8 = true := up_at hu 8 (by kernel_rfl)
                have y9 : L 9 = true := up_at hu 9 (by kernel_rfl)
                have y10 : L 10 = true := up_at hu 10 (by kernel_rfl)
                have y11 : L 11 = true := up_at hu 11 (by kernel_rfl)
                have y12 : L 12 = true := up_at hu 12 (by kernel_rfl)
                have y13 : L 13 = true := up_at hu 13 (by kernel_rfl)
                refine opIn_run (v := V 1) (w' := w') rfl rfl (fun c h => by cases h) (fun _ => trivial) ?_ ⟨nb, V, by simp [Act.put, upd, y0, y1, y2, y3, y4, y5, y6, y7, y8, y9, y10, y11, y12, y13, hL], hG, hT0, hV0, hT1, hV1⟩
                simp only [y0, y1, y2, y3, y4, y5, y6, y7, y8, y9, y10, y11, y12, y13, hL, cond_true, cond_false]
                go_simp
            case start =>
              exact ⟨fun _ => 0, sel3 u10 u11 (.slice none 0 0), rfl, hG0, (fun h _ => by cases h), (fun _ => rfl), (fun h _ => by cases h), (fun _ => rfl)⟩
            case fin =>
              intro L a' w' hall hI
              obtain ⟨nb, V, rfl, hG, hT0, hV0, hT1, hV1⟩ := hI
              have l2 := hall 2 (by decide)
              have l3 := hall 3 (by decide)
              have l11 := hall 11 (by decide)
              have l12 := hall 12 (by decide)
              have l13 := hall 13 (by decide)
              have l14 := hall 14 (by decide)
              have l0 := hall 0 (by decide)
              have l1 := hall 1 (by decide)
              have l4 := hall 4 (by decide)
              have l5 := hall 5 (by decide)
              have l6 := hall 6 (by decide)
              have l7 := hall 7 (by decide)
              have l8 := hall 8 (by decide)
              have l9 := hall 9 (by decide)
              have l10 := hall 10 (by decide)
              simp only [l0, l1, l2, l3, l4, l5, l6, l7, l8, l9, l10, l11, l12, l13, l14, cond_true] at hG ⊢
              clear l0 l1 l2 l3 l4 l5 l6 l7 l8 l9 l10 l11 l12 l13 l14 hall hT0 hV0 hT1 hV1
              have hG3 := hG.x3
              simp only [sel3, if_true, if_false, Nat.one_ne_zero, reduceIte, Nat.reduceEqDiff] at hG3
              clear hG
              generalize V 0 = v0 at *
              generalize V 1 = v1 at *
              generalize V 2 = v2 at *
              have cz := (hG3.bel.cell (p := ⟨b0, o0 + k, none⟩) hb0).trans m0
              have hl2 : (pcs s f t (m + 1)).1.map qN = X0 ++ [(k : Int) - q + 1] := by
                rw [HS.out, List.map_append, HX.out.1]
                show X0 ++ [f + m + 1 - (pcs s f t m).2] = _
                rw [← HQ.out.1, hk, show (k : Int) + 1 - q = k - q + 1 by omega]
              have hl3 : (pcs s f t (m + 1)).1.map (qB l) = X1 ++ [z - y] := by
                rw [HS.out, List.map_append, HX.out.2]
                show X1 ++ [bef l (f + m + 1) - bef l (pcs s f t m).2] = _
                rw [HZ.out, ← HQ.out.1, ← HQ.out.2]
              have HG3 : Hid (∀ nq, Grow w.heap.size w (w'.drewN nq) (sel3 v0 v1 (.slice none 0 0)) (sel3 ((pcs s f t (m + 1)).1.map qN) ((pcs s f t (m + 1)).1.map (qB l)) []) 2) := Lib.hid fun nq => by
                rw [hl2, hl3]; exact (Grow.third hG3).drewN nq
              clear hG3 hl2 hl3
              have hkk : (k : Int) < (n : Int) := hkn
              go_wp2
              go_quiet (fail)
              go_wp2
              go_roundw
              case rel => exact ⟨m + 1, f + m + 1, z, by push_cast; omega, by rw [← hk]; push_cast; go_num, by rw [show f + ((m + 1 : Nat) : Int) - (f + m + 1) = 0 by push_cast; omega], rfl, by rw [HS.out], HZ.out.symm, HG3.out _⟩
              case measure => simp [intOf]; omega
      · obtain rfl : f + m = t := by omega
        have hG2 := hG
        clear hG
        have em : (f + (m : Int) - f).toNat = m := by omega
        obtain ⟨A1, c1, e1, r1⟩ := rowI_own (hG2.own 0 (by omega))
        obtain ⟨A2, c2, e2, r2⟩ := rowI_own (hG2.own 1 (by omega))
        have g1 : u10 = .slice A1 ((pcs s f (f + m) m).1.map qN).length c1 := e1
        have g2 : u11 = .slice A2 ((pcs s f (f + m) m).1.map (qB l)).length c2 := e2
        rw [List.length_map] at g1 g2
        subst g1 g2
        have R := Lib.hid (And.intro r1 (And.intro r2 hG2.bel))
        have EM := Lib.hid em
        clear r1 r2 hG2 e1 e2 em
        go_wp2
        go_ret2
        rw [EM.out]
        obtain ⟨r1, r2, hb⟩ := R.out
        refine ⟨A1, c1, A2, c2, rfl, ?_, ?_, hb⟩
        · have := r1; simp only [sel3, if_true, List.length_map] at this; exact this
        · have := r2; simp only [sel3, if_true, if_false, Nat.one_ne_zero, List.length_map] at this; exact this
end Go.Proofs.Ytglplhiafeopdaa
