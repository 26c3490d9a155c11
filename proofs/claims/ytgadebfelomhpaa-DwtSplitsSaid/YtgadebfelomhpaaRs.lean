/- Split of waveletref10, by its contract. -/
import Derived.Test.YtgadebfelomhpaaRs0
import Derived.Outline
set_option linter.unusedVariables false
set_option linter.unusedSimpArgs false
namespace Go.Proofs.Ytgadebfelomhpaa
open Go.RowKit

theorem quar_0 (g : Geo) (Q : Nat → Nat → Int) : quar g Q 0 = flat g.half.w g.half.h (subF 0 0 Q) := rfl
theorem quar_1 (g : Geo) (Q : Nat → Nat → Int) : quar g Q 1 = flat (g.w - g.half.w) g.half.h (subF g.half.w 0 Q) := rfl
theorem quar_2 (g : Geo) (Q : Nat → Nat → Int) : quar g Q 2 = flat g.half.w (g.h - g.half.h) (subF 0 g.half.h Q) := rfl
theorem quar_3 (g : Geo) (Q : Nat → Nat → Int) : quar g Q 3 = flat (g.w - g.half.w) (g.h - g.half.h) (subF g.half.w g.half.h Q) := rfl
theorem rowS_to {lo lo' : Nat} {w w' : World} {A : Option Addr} {n c : Nat} {l : List Int} (h : RowO lo w A n c l) (hb : Below w.heap.size w w') (hl : lo' ≤ lo) : RowS (fun b => lo' ≤ b ∧ b < w'.heap.size) w' A n c l := RowS.up h.rowS (fun b _ hb2 => hb.block b hb2) hl hb.size
attribute [local go_sem ↓] appSem_eq in
set_option maxHeartbeats 8000000 in
set_option maxRecDepth 100000 in
set_option pp.deepTerms true in
set_option pp.maxSteps 10000000 in
theorem rsplit_any (g : Geo) (P : Nat → Nat → Int) (n : Nat) (A : Option Addr) (c : Nat) (w : World) (hw : g.w ≤ 300 ∧ g.h ≤ 300) (hwh : g.w * g.h ≤ 1000) (hx : g.x ≤ 90000 ∧ g.y ≤ 90000) (hn : n ≤ 5) (hbd : Bd 600000 g.w g.h P) (hrow : RowI w A (g.w * g.h) c (flat g.w g.h P)) :
    Calls Try.prog 16 #[rectV g, .int .i64 (n : Int), .slice A (g.w * g.h) c] w fun e w' => ∃ A' c', e = .returned (.slice A' (3 * n + 1) c') ∧ RowsI w' A' (3 * n + 1) c' (bandsL g P n) ∧ Below w.heap.size w w' := by
  have HB := Lib.hid hbd
  obtain ⟨a0, a1, a2, a3, hR⟩ := rect_open g
  have HR := Lib.hid hR
  rw [hR]
  have HB0 : Hid (Below w.heap.size w (w.alloc (Obj.cells #[.int .i64 a0, .int .i64 a1, .int .i64 a2, .int .i64 a3] 23))) := Lib.hid ((Below.refl _ w).alloc (Nat.le_refl _) _)
  have HX0 := Lib.hid (RA.new w a0 a1 a2 a3)
  obtain ⟨N, hN⟩ : ∃ N, g.w * g.h = N := ⟨_, rfl⟩
  have hrow1 := hrow.keep HB0.out (Nat.le_refl _)
  rw [hN] at hrow1 hwh ⊢
  have HN := Lib.hid hN
  obtain ⟨V1, hV1⟩ : ∃ V1, w.alloc (Obj.cells #[.int .i64 a0, .int .i64 a1, .int .i64 a2, .int .i64 a3] 23) = V1 := ⟨_, rfl⟩
  rw [hV1] at HB0 HX0 hrow1
  have HA1 : Hid (Below V1.heap.size V1 (V1.alloc (Obj.cells #[] 3))) := Lib.hid ((Below.refl _ V1).alloc (Nat.le_refl _) _)
  obtain ⟨v1, w1, hrun, hown, hg1, _⟩ := app_row (w := V1.alloc (Obj.cells #[] 3)) (base := V1.heap.size) (v := .slice (some ⟨V1.heap.size, 0, none⟩) 0 0) (n := 0) (X := []) (World.ownsRow_made V1 #[] 0 (Nat.le_refl _) (by unfold maxLen; omega) rfl) (hrow1.keep HA1.out (Nat.le_refl _)) (by simp) (by omega)
  rw [Nat.zero_add, List.nil_append] at hown
  obtain ⟨Al, cl, rfl, _, _, _⟩ := own_any hown
  have hb1 : Below V1.heap.size V1 w1 := HA1.out.grown hg1 (by simp) (by simp [Value.ownBlock])
  have HV1 := Lib.hid hV1
  have S0 : Hid (RfW w w1 g P 0 (.slice Al N cl) (.slice none 0 0)) := Lib.hid (by
    refine ⟨HB0.out.trans (hb1.mono HB0.out.size), ((HX0.out.keep hb1 HX0.out.lt).rb hR), ⟨Al, cl, ?_, ?_⟩, ⟨[], World.ownsRow_nil _ _ _ _, named_nil, fun u hu => by cases hu⟩⟩
    · show Value.slice Al N cl = .slice Al (g.w * g.h) cl
      rw [hN]
    · have h : RowO V1.heap.size w1 Al N cl (flat g.w g.h P) := hown
      have hl := HX0.out.lt
      show RowS _ w1 Al (g.w * g.h) cl (flat g.w g.h P)
      rw [hN]
      exact (RowO.rowS h).mono fun b hb => ⟨by omega, hb.2⟩)
  have hz1 : V1.heap.size = w.heap.size + 1 := by rw [← hV1]; simp
  rw [hz1, ← hV1] at hrun
  clear hbd hR hrow hrow1 hN hown hg1 hb1 HA1 HX0 HB0 HV1 hV1 hz1
  go_enter Try.func16, Try.ntmps16
  go_wp2
  clear hrun
  go_loopw [7, 8, 9] (fun lv hv kv wr => ∃ k : Nat, k ≤ n ∧ kv = .int .i64 (k : Int) ∧ Hid (RfW w wr g P k lv hv)) (fun _ _ kv _ => n - (intOf kv).toNat)
  case atStart => exact ⟨0, by omega, rfl, S0⟩
  case round =>
    obtain ⟨k, hk, rfl, S⟩ := hrel
    clear S0
    by_cases ck : k < n
    · have ck' : (k : Int) < (n : Int) := by omega
      obtain ⟨r0, r1, r2, r3, hr⟩ := rect_open (itG g k)
      obtain ⟨h0, h1, h2, h3, hh⟩ := rect_open (itG g (k + 1))
      have hri := rect_ints hr
      obtain ⟨f0, f1, f2, f3, _⟩ := (S.out.box.ra hr).cells
      obtain ⟨A2, c2, hlv, hp⟩ := S.out.ll
      have hsz := itG_le g k
      have hxx := itG_x g k
      obtain ⟨Wn, hWn⟩ : ∃ W, (itG g k).w = W := ⟨_, rfl⟩
      obtain ⟨Hn, hHn⟩ : ∃ W, (itG g k).h = W := ⟨_, rfl⟩
      obtain ⟨xn, hxn⟩ : ∃ W, (itG g k).x = W := ⟨_, rfl⟩
      obtain ⟨yn, hyn⟩ : ∃ W, (itG g k).y = W := ⟨_, rfl⟩
      obtain ⟨Nn, hNn⟩ : ∃ W, Wn * Hn = W := ⟨_, rfl⟩
      have hG : itG g k = ⟨xn, yn, Wn, Hn⟩ := by rw [← hxn, ← hyn, ← hWn, ← hHn]
      have hNle : Nn ≤ 1000 := by
        rw [← hNn, ← hWn, ← hHn]
        exact Nat.le_trans (Nat.mul_le_mul hsz.1 hsz.2) (by rw [HN.out]; exact hwh)
      rw [hWn, hHn] at hsz hlv hp hri
      rw [hxn, hyn] at hxx hri
      rw [hNn] at hlv hp
      obtain ⟨rfl, rfl, hr2, hr3⟩ := hri
      have u1 : IntKind.i64.wrap (r2 - (xn : Int)) = (Wn : Int) := by rw [show r2 - (xn : Int) = (Wn : Int) from by omega]; exact IntWalk.i64_in _ (by omega)
      have u2 : IntKind.i64.wrap (r3 - (yn : Int)) = (Hn : Int) := by rw [show r3 - (yn : Int) = (Hn : Int) from by omega]; exact IntWalk.i64_in _ (by omega)
      have hq2 : (xn : Int) + (Wn : Int) = r2 := by omega
      have hq3 : (yn : Int) + (Hn : Int) = r3 := by omega
      have HBk := Lib.hid (itP_bdG (by decide) HB.out k)
      have hbk : bdG 600000 k ≤ 500000000 := bdG_6 (by omega)
      have hb0k := bdG_pos (K := 600000) (by decide) k
      have HBX := Lib.hid (S.out.box.ra hr)
      have HP := Lib.hid hp
      have HGG := Lib.hid hG
      have HNN := Lib.hid hNn
      have HHH := Lib.hid hh
      have HRR := Lib.hid hr
      have HQ2 := Lib.hid hq2
      have HQ3 := Lib.hid hq3
      clear hp hNn hr2 hr3 hWn hHn hxn hyn hG hh hr hq2 hq3
      subst hlv
      obtain ⟨wo, rfl⟩ : ∃ wo : World, wo = wr := ⟨_, rfl⟩
      go_wp2
      go_quiet (fail)
      go_wp2
      clear u1 u2
      obtain ⟨W6, hW6⟩ : ∃ W6, wo.drewN nq = W6 := ⟨_, rfl⟩
      rw [hW6]
      obtain ⟨Y, hYe⟩ : ∃ Y, W6.drew = Y := ⟨_, rfl⟩
      have HBW : Hid (Below wo.heap.size wo Y) := Lib.hid (by rw [← hYe, ← hW6]; exact below_drewN (below_drewN (Below.refl _ _) _) 1)
      have HBY := Lib.hid (HBX.out.keep HBW.out HBX.out.lt)
      have hYs : Y.heap.size = wo.heap.size := by rw [← hYe, ← hW6]; rfl
      have HPY : Hid (RowI Y A2 Nn c2 (flat Wn Hn (itP g P k))) := Lib.hid (RowI.keep (RowS.row (HP.out.mono fun b hb => hb.2)) HBW.out (Nat.le_refl _))
      have HYE := Lib.hid hYe
      obtain ⟨CF, hCF⟩ : ∃ CF, colsF (yn % 2) Hn (itP g P k) = CF := ⟨_, rfl⟩
      obtain ⟨LF, hLF⟩ : ∃ LF, rowsF (xn % 2) Wn CF = LF := ⟨_, rfl⟩
      have hBQ : Bd (bdG 600000 k) Wn Hn (itP g P k) := by have := HBk.out; rw [HGG.out] at this; exact this
      have hBC : Bd (2 * bdG 600000 k + 1) Wn Hn CF := by rw [← hCF]; exact cols_bd (by omega) hb0k hBQ
      have HCO : Hid (∀ W, Below Y.heap.size Y W → Calls Try.prog 27 #[.int .i64 (Wn : Int), .int .i64 (Hn : Int), .int .i64 (yn : Int), .slice A2 Nn c2, .bool false] W fun e' w' => ∃ A' c', e' = .returned (.slice A' Nn c') ∧ RowO W.heap.size w' A' Nn c' (flat Wn Hn CF) ∧ Below W.heap.size W w') := Lib.hid (fun W hW => by
        have := rcols_any Wn Hn Nn (yn : Int) (yn % 2) (itP g P k) (bdG 600000 k) W (by omega) (by omega) (by omega) ⟨hb0k, by omega⟩ hBQ HNN.out hNle (HPY.out.keep hW (Nat.le_refl _))
        rw [hCF] at this
        exact this)
      have HRO : Hid (∀ W A' c', RowO Y.heap.size W A' Nn c' (flat Wn Hn CF) → Calls Try.prog 26 #[.int .i64 (Wn : Int), .int .i64 (Hn : Int), .int .i64 (xn : Int), .slice A' Nn c', .bool false] W fun e' w' => ∃ A' c', e' = .returned (.slice A' Nn c') ∧ RowO W.heap.size w' A' Nn c' (flat Wn Hn LF) ∧ Below W.heap.size W w') := Lib.hid (fun W A' c' hr' => by
        have := rrows_any Wn Hn Nn (xn : Int) (xn % 2) CF (2 * bdG 600000 k + 1) W (by omega) (by omega) (by omega) ⟨by omega, by omega⟩ hBC HNN.out hr'.row
        rw [hLF] at this
        exact this)
      have HLF : Hid (LF = itP g P (k + 1)) := Lib.hid (by
        show LF = liftP (itG g k) (itP g P k)
        rw [HGG.out, ← hLF, ← hCF]; rfl)
      clear hW6 hYe hCF hLF hBQ hBC HP HBk
      refine (wpIn_wide (n := 9)).1 (regionIn_inv (w := W6) (Inv := fun L a' w' => ∃ (A7 : Option Addr) (c7 : Nat) (A8 : Option Addr) (c8 : Nat), a' = { tmps := #[.agg #[.int .i64 a0, .int .i64 a1, .int .i64 a2, .int .i64 a3], .int .i64 (n : Int), .slice A N c, .pointer (some ⟨w.heap.size, 0, none⟩), undef, undef, .slice none 0 0, .slice A2 Nn c2, u8, .int .i64 (k : Int), .int .i64 (Wn : Int), .int .i64 (Hn : Int), bif L 11 then .slice A8 Nn c8 else u12, u13, u14, .slice (some ⟨w.heap.size + 1, 0, none⟩) 0 0, .slice A N c, .slice Al N cl, .int .i64 (k : Int), .int .i64 (n : Int), .bool true, u21, u22, .pointer (some ⟨w.heap.size, 2, none⟩), .int .i64 r2, .pointer (some ⟨w.heap.size, 0, none⟩), .int .i64 (xn : Int), .int .i64 (Wn : Int), .pointer (some ⟨w.heap.size, 3, none⟩), .int .i64 r3, .pointer (some ⟨w.heap.size, 1, none⟩), .int .i64 (yn : Int), .int .i64 (Hn : Int), bif L 0 then .int .i64 (Wn : Int) else u33, bif L 1 then .int .i64 (Hn : Int) else u34, bif L 2 then .pointer (some ⟨w.heap.size, 0, none⟩) else u35, bif L 3 then .int .i64 (xn : Int) else u36, bif L 4 then .int .i64 (Wn : Int) else u37, bif L 5 then .int .i64 (Hn : Int) else u38, bif L 6 then .pointer (some ⟨w.heap.size, 1, none⟩) else u39, bif L 7 then .int .i64 (yn : Int) else u40, bif L 8 then .slice A2 Nn c2 else u41, bif L 9 then .slice A7 Nn c7 else u42, bif L 10 then .slice A8 Nn c8 else u43, u44, u45, u46, u47, u48, u49, u50, u51, u52, u53, u54, u55, u56, u57, u58, u59, u60, u61, u62, u63, u64, u65, u66, u67, u68, u69, u70, u71, u72, u73, u74, u75, u76, u77, u78, u79, u80, u81, u82, undef, undef, undef, undef], defers := [] } ∧ (Below Y.heap.size Y w') ∧ (bif L 10 then (RowO Y.heap.size w' A8 Nn c8 (flat Wn Hn LF)) else (bif L 9 then (RowO Y.heap.size w' A7 Nn c7 (flat Wn Hn CF)) else True))) (by kernel_rfl) (by kernel_rfl) ?start ?step ?fin)
      case start => exact ⟨none, 0, none, 0, rfl, (by rw [HYE.out]; exact Below.refl _ _ : Below Y.heap.size Y W6.drew), trivial⟩
      case step =>
        intro i hi L a' w' hI hs hu
        obtain ⟨A7, c7, A8, c8, rfl, hcm, hph⟩ := hI
        have hL := hu.1
        have hi : i < 12 := hi
        obtain rfl | rfl | rfl | rfl | rfl | rfl | rfl | rfl | rfl | rfl | rfl | rfl := (by omega : i = 0 ∨ i = 1 ∨ i = 2 ∨ i = 3 ∨ i = 4 ∨ i = 5 ∨ i = 6 ∨ i = 7 ∨ i = 8 ∨ i = 9 ∨ i = 10 ∨ i = 11)
        · skip
          have n10 : L 10 = false := not_yet hL fun h => shut_at hs 10 0 (by kernel_rfl) (h)
          have n11 : L 11 = false := not_yet hL fun h => shut_at hs 11 0 (by kernel_rfl) (h)
          refine opIn_run (v := .int .i64 (Wn : Int)) (w' := w') rfl rfl (fun c h => by cases h) (fun _ => trivial) ?_ ⟨A7, c7, A8, c8, by simp [Act.put, upd, n10, n11, hL], hcm, by simpa [upd] using hph⟩
          simp only [n10, n11, hL, cond_true, cond_false]
          go_simp
        · skip
          have n10 : L 10 = false := not_yet hL fun h => shut_at hs 10 1 (by kernel_rfl) (h)
          have n11 : L 11 = false := not_yet hL fun h => shut_at hs 11 1 (by kernel_rfl) (h)
          refine opIn_run (v := .int .i64 (Hn : Int)) (w' := w') rfl rfl (fun c h => by cases h) (fun _ => trivial) ?_ ⟨A7, c7, A8, c8, by simp [Act.put, upd, n10, n11, hL], hcm, by simpa [upd] using hph⟩
          simp only [n10, n11, hL, cond_true, cond_false]
          go_simp
        · skip
          have n10 : L 10 = false := not_yet hL fun h => shut_at hs 3 2 (by kernel_rfl) (shut_at hs 10 3 (by kernel_rfl) (h))
          have n11 : L 11 = false := not_yet hL fun h => shut_at hs 11 2 (by kernel_rfl) (h)
          refine opIn_run (v := .pointer (some ⟨w.heap.size, 0, none⟩)) (w' := w') rfl rfl (fun c h => by cases h) (fun _ => trivial) ?_ ⟨A7, c7, A8, c8, by simp [Act.put, upd, n10, n11, hL], hcm, by simpa [upd] using hph⟩
          simp only [n10, n11, hL, cond_true, cond_false]
          go_simp
        · skip
          have y2 : L 2 = true := up_at hu 2 (by kernel_rfl)
          have n10 : L 10 = false := not_yet hL fun h => shut_at hs 10 3 (by kernel_rfl) (h)
          have n11 : L 11 = false := not_yet hL fun h => shut_at hs 11 3 (by kernel_rfl) (h)
          simp only [y2, n10, n11, hL, cond_true, cond_false] at hph
          obtain ⟨k0, k1, k2, k3, _⟩ := (HBY.out.keep hcm HBY.out.lt).cells
          refine opIn_run (v := .int .i64 (xn : Int)) (w' := w') rfl rfl (fun c h => by cases h) (fun _ => trivial) ?_ ⟨A7, c7, A8, c8, by simp [Act.put, upd, y2, n10, n11, hL], hcm, by simp only [upd, y2, n10, n11, hL]; exact hph⟩
          simp only [y2, n10, n11, hL, cond_true, cond_false]
          go_simp
        · skip
          have n9 : L 9 = false := not_yet hL fun h => shut_at hs 9 4 (by kernel_rfl) (h)
          have n10 : L 10 = false := not_yet hL fun h => shut_at hs 9 4 (by kernel_rfl) (shut_at hs 10 9 (by kernel_rfl) (h))
          have n11 : L 11 = false := not_yet hL fun h => shut_at hs 11 4 (by kernel_rfl) (h)
          refine opIn_run (v := .int .i64 (Wn : Int)) (w' := w') rfl rfl (fun c h => by cases h) (fun _ => trivial) ?_ ⟨A7, c7, A8, c8, by simp [Act.put, upd, n9, n10, n11, hL], hcm, by simpa [upd] using hph⟩
          simp only [n9, n10, n11, hL, cond_true, cond_false]
          go_simp
        · skip
          have n9 : L 9 = false := not_yet hL fun h => shut_at hs 9 5 (by kernel_rfl) (h)
          have n10 : L 10 = false := not_yet hL fun h => shut_at hs 9 5 (by kernel_rfl) (shut_at hs 10 9 (by kernel_rfl) (h))
          have n11 : L 11 = false := not_yet hL fun h => shut_at hs 11 5 (by kernel_rfl) (h)
          refine opIn_run (v := .int .i64 (Hn : Int)) (w' := w') rfl rfl (fun c h => by cases h) (fun _ => trivial) ?_ ⟨A7, c7, A8, c8, by simp [Act.put, upd, n9, n10, n11, hL], hcm, by simpa [upd] using hph⟩
          simp only [n9, n10, n11, hL, cond_true, cond_false]
          go_simp
        · skip
          have n9 : L 9 = false := not_yet hL fun h => shut_at hs 7 6 (by kernel_rfl) (shut_at hs 9 7 (by kernel_rfl) (h))
          have n10 : L 10 = false := not_yet hL fun h => shut_at hs 7 6 (by kernel_rfl) (shut_at hs 9 7 (by kernel_rfl) (shut_at hs 10 9 (by kernel_rfl) (h)))
          have n11 : L 11 = false := not_yet hL fun h => shut_at hs 11 6 (by kernel_rfl) (h)
          refine opIn_run (v := .pointer (some ⟨w.heap.size, 1, none⟩)) (w' := w') rfl rfl (fun c h => by cases h) (fun _ => trivial) ?_ ⟨A7, c7, A8, c8, by simp [Act.put, upd, n9, n10, n11, hL], hcm, by simpa [upd] using hph⟩
          simp only [n9, n10, n11, hL, cond_true, cond_false]
          go_simp
        · skip
          have y6 : L 6 = true := up_at hu 6 (by kernel_rfl)
          have n9 : L 9 = false := not_yet hL fun h => shut_at hs 9 7 (by kernel_rfl) (h)
          have n10 : L 10 = false := not_yet hL fun h => shut_at hs 9 7 (by kernel_rfl) (shut_at hs 10 9 (by kernel_rfl) (h))
          have n11 : L 11 = false := not_yet hL fun h => shut_at hs 11 7 (by kernel_rfl) (h)
          simp only [y6, n9, n10, n11, hL, cond_true, cond_false] at hph
          obtain ⟨k0, k1, k2, k3, _⟩ := (HBY.out.keep hcm HBY.out.lt).cells
          refine opIn_run (v := .int .i64 (yn : Int)) (w' := w') rfl rfl (fun c h => by cases h) (fun _ => trivial) ?_ ⟨A7, c7, A8, c8, by simp [Act.put, upd, y6, n9, n10, n11, hL], hcm, by simp only [upd, y6, n9, n10, n11, hL]; exact hph⟩
          simp only [y6, n9, n10, n11, hL, cond_true, cond_false]
          go_simp
        · skip
          have n9 : L 9 = false := not_yet hL fun h => shut_at hs 9 8 (by kernel_rfl) (h)
          have n10 : L 10 = false := not_yet hL fun h => shut_at hs 9 8 (by kernel_rfl) (shut_at hs 10 9 (by kernel_rfl) (h))
          have n11 : L 11 = false := not_yet hL fun h => shut_at hs 11 8 (by kernel_rfl) (h)
          refine opIn_run (v := .slice A2 Nn c2) (w' := w') rfl rfl (fun c h => by cases h) (fun _ => trivial) ?_ ⟨A7, c7, A8, c8, by simp [Act.put, upd, n9, n10, n11, hL], hcm, by simpa [upd] using hph⟩
          simp only [n9, n10, n11, hL, cond_true, cond_false]
          go_simp
        · skip
          have y4 : L 4 = true := up_at hu 4 (by kernel_rfl)
          have y5 : L 5 = true := up_at hu 5 (by kernel_rfl)
          have y6 : L 6 = true := shut_at hs 7 6 (by kernel_rfl) (up_at hu 7 (by kernel_rfl))
          have y7 : L 7 = true := up_at hu 7 (by kernel_rfl)
          have y8 : L 8 = true := up_at hu 8 (by kernel_rfl)
          have n10 : L 10 = false := not_yet hL fun h => shut_at hs 10 9 (by kernel_rfl) (h)
          have n11 : L 11 = false := not_yet hL fun h => shut_at hs 11 9 (by kernel_rfl) (h)
          simp only [y4, y5, y6, y7, y8, n10, n11, hL, cond_true, cond_false] at hph
          refine opIn_call (f := 27) (args := #[.int .i64 (Wn : Int), .int .i64 (Hn : Int), .int .i64 (yn : Int), .slice A2 Nn c2, .bool false]) (w' := w') rfl rfl (fun c h => by cases h) (fun _ => trivial) rfl ?_ ((callsIn_wide.2 (HCO.out w' hcm)).mono ?_)
          · simp only [y4, y5, y6, y7, y8, n10, n11, hL, cond_true, cond_false]
            go_simp
          · rintro e w2 ⟨A9, c9, rfl, hr9, hb9⟩
            exact ⟨_, rfl, A9, c9, A8, c8, by simp [Act.put, upd, y4, y5, y6, y7, y8, n10, n11, hL], hcm.trans (hb9.mono hcm.size), by simp only [upd, y4, y5, y6, y7, y8, n10, n11, hL]; exact RowO.lower hr9 hcm.size⟩
        · skip
          have y0 : L 0 = true := up_at hu 0 (by kernel_rfl)
          have y1 : L 1 = true := up_at hu 1 (by kernel_rfl)
          have y2 : L 2 = true := shut_at hs 3 2 (by kernel_rfl) (up_at hu 3 (by kernel_rfl))
          have y3 : L 3 = true := up_at hu 3 (by kernel_rfl)
          have y4 : L 4 = true := shut_at hs 9 4 (by kernel_rfl) (up_at hu 9 (by kernel_rfl))
          have y5 : L 5 = true := shut_at hs 9 5 (by kernel_rfl) (up_at hu 9 (by kernel_rfl))
          have y6 : L 6 = true := shut_at hs 7 6 (by kernel_rfl) (shut_at hs 9 7 (by kernel_rfl) (up_at hu 9 (by kernel_rfl)))
          have y7 : L 7 = true := shut_at hs 9 7 (by kernel_rfl) (up_at hu 9 (by kernel_rfl))
          have y8 : L 8 = true := shut_at hs 9 8 (by kernel_rfl) (up_at hu 9 (by kernel_rfl))
          have y9 : L 9 = true := up_at hu 9 (by kernel_rfl)
          have n11 : L 11 = false := not_yet hL fun h => shut_at hs 11 10 (by kernel_rfl) (h)
          simp only [y0, y1, y2, y3, y4, y5, y6, y7, y8, y9, n11, hL, cond_true, cond_false] at hph
          refine opIn_call (f := 26) (args := #[.int .i64 (Wn : Int), .int .i64 (Hn : Int), .int .i64 (xn : Int), .slice A7 Nn c7, .bool false]) (w' := w') rfl rfl (fun c h => by cases h) (fun _ => trivial) rfl ?_ ((callsIn_wide.2 (HRO.out w' A7 c7 hph)).mono ?_)
          · simp only [y0, y1, y2, y3, y4, y5, y6, y7, y8, y9, n11, hL, cond_true, cond_false]
            go_simp
          · rintro e w2 ⟨A9, c9, rfl, hr9, hb9⟩
            exact ⟨_, rfl, A7, c7, A9, c9, by simp [Act.put, upd, y0, y1, y2, y3, y4, y5, y6, y7, y8, y9, n11, hL], hcm.trans (hb9.mono hcm.size), by simp only [upd, y0, y1, y2, y3, y4, y5, y6, y7, y8, y9, n11, hL]; exact RowO.lower hr9 hcm.size⟩
        · skip
          have y0 : L 0 = true := up_at hu 0 (by kernel_rfl)
          have y1 : L 1 = true := up_at hu 1 (by kernel_rfl)
          have y2 : L 2 = true := up_at hu 2 (by kernel_rfl)
          have y3 : L 3 = true := up_at hu 3 (by kernel_rfl)
          have y4 : L 4 = true := up_at hu 4 (by kernel_rfl)
          have y5 : L 5 = true := up_at hu 5 (by kernel_rfl)
          have y6 : L 6 = true := up_at hu 6 (by kernel_rfl)
          have y7 : L 7 = true := up_at hu 7 (by kernel_rfl)
          have y8 : L 8 = true := up_at hu 8 (by kernel_rfl)
          have y9 : L 9 = true := up_at hu 9 (by kernel_rfl)
          have y10 : L 10 = true := up_at hu 10 (by kernel_rfl)
          refine opIn_run (v := .slice A8 Nn c8) (w' := w') rfl rfl (fun c h => by cases h) (fun _ => trivial) ?_ ⟨A7, c7, A8, c8, by simp [Act.put, upd, y0, y1, y2, y3, y4, y5, y6, y7, y8, y9, y10, hL], hcm, by simpa [upd] using hph⟩
          simp only [y0, y1, y2, y3, y4, y5, y6, y7, y8, y9, y10, hL, cond_true, cond_false]
          go_simp
      case fin =>
        intro L a' w' hall hI
        obtain ⟨A7, c7, A8, c8, rfl, hcm, hph⟩ := hI
        have l0 := hall 0 (by decide)
        have l1 := hall 1 (by decide)
        have l2 := hall 2 (by decide)
        have l3 := hall 3 (by decide)
        have l4 := hall 4 (by decide)
        have l5 := hall 5 (by decide)
        have l6 := hall 6 (by decide)
        have l7 := hall 7 (by decide)
        have l8 := hall 8 (by decide)
        have l9 := hall 9 (by decide)
        have l10 := hall 10 (by decide)
        have l11 := hall 11 (by decide)
        simp only [l0, l1, l2, l3, l4, l5, l6, l7, l8, l9, l10, l11, cond_true] at hph ⊢
        clear l0 l1 l2 l3 l4 l5 l6 l7 l8 l9 l10 l11 hall
        have HB8 := Lib.hid hcm
        have HR8 := Lib.hid hph
        obtain ⟨k0, k1, k2, k3, _⟩ := (HBY.out.keep hcm HBY.out.lt).cells
        obtain ⟨wA, hwA⟩ : ∃ m, lowN (xn % 2) Wn = m := ⟨_, rfl⟩
        obtain ⟨hA, hhA⟩ : ∃ m, lowN (yn % 2) Hn = m := ⟨_, rfl⟩
        have HL1 := Lib.hid (fun W => lows_any xn Wn wA r2 W (by omega) (by omega) HQ2.out hwA)
        have HL2 := Lib.hid (fun W => lows_any yn Hn hA r3 W (by omega) (by omega) HQ3.out hhA)
        have hwl : wA ≤ Wn := by rw [← hwA]; exact lowN_le _ _
        have hhl : hA ≤ Hn := by rw [← hhA]; exact lowN_le _ _
        have HWA := Lib.hid hwA
        have HHA := Lib.hid hhA
        clear hcm hph hwA hhA f0 f1 f2 f3 HCO HRO
        obtain ⟨w7, hw7⟩ : ∃ w7 : World, w7 = w' := ⟨_, rfl⟩
        rw [← hw7] at HB8 HR8 k0 k1 k2 k3 ⊢
        clear hw7
        go_wp2
        refine wp_region_still_lit (by kernel_rfl) (by kernel_rfl) ?_
        repeat still_step
        still_call (HL1.out w7.drew)
        repeat still_step
        still_call (HL2.out w7.drew)
        repeat still_step
        refine wpStill_nil ?_
        change Exit.then _ _ _ _ w7.drew
        have HB9 : Hid (Below Y.heap.size Y w7.drew) := Lib.hid (below_drewN HB8.out 1)
        clear HL1 HL2 k0 k1 k2 k3
        go_wp2_with fail
        have HR9 : Hid (RowI w7.drew A8 Nn c8 (flat Wn Hn LF)) := Lib.hid (RowI.drew HR8.out.row (Drew.mk _ 1))
        obtain ⟨W9, hW9⟩ : ∃ W9, w7.drew = W9 := ⟨_, rfl⟩
        rw [hW9] at HB9 HR9 ⊢
        clear hW9
        obtain ⟨wB, hwB⟩ : ∃ m, wA + m = Wn := ⟨Wn - wA, by omega⟩
        obtain ⟨hB, hhB⟩ : ∃ m, hA + m = Hn := ⟨Hn - hA, by omega⟩
        obtain ⟨M0, hM0⟩ : ∃ M, wA * hA = M := ⟨_, rfl⟩
        obtain ⟨M1, hM1⟩ : ∃ M, wB * hA = M := ⟨_, rfl⟩
        obtain ⟨M2, hM2⟩ : ∃ M, wA * hB = M := ⟨_, rfl⟩
        obtain ⟨M3, hM3⟩ : ∃ M, wB * hB = M := ⟨_, rfl⟩
        have hC := cut_any Wn Hn Nn wA 0 Wn hA wB hA M1 LF W9 ⟨hwB, Nat.le_refl _⟩ ⟨Nat.zero_add _, hhl⟩ ⟨by omega, by omega⟩ HNN.out hM1 HR9.out
        first | rw [show ((0 : Nat) : Int) = 0 from rfl] at hC | skip
        refine hC.mono ?_
        clear hC
        rintro e w10 ⟨B1, d1, rfl, hr1, hb10⟩
        have HB10 := Lib.hid (HB9.out.trans (hb10.mono HB9.out.size))
        have HR10 := Lib.hid (HR9.out.keep hb10 (Nat.le_refl _))
        have HQ1 := Lib.hid hr1
        have hs10 : Y.heap.size ≤ W9.heap.size := HB9.out.size
        clear hr1 hb10 HR9 HB9
        have HM0 := Lib.hid hM0
        have HM1 := Lib.hid hM1
        have HM2 := Lib.hid hM2
        have HM3 := Lib.hid hM3
        have HWB := Lib.hid hwB
        have HHB := Lib.hid hhB
        clear hM0 hM1 hM2 hM3 hwB hhB
        go_wp2_with fail
        have hM2 := HM2.out
        have hM3 := HM3.out
        have hwB := HWB.out
        have hhB := HHB.out
        have hC := cut_any Wn Hn Nn 0 hA wA Hn wA hB M2 LF w10 ⟨Nat.zero_add _, hwl⟩ ⟨hhB, Nat.le_refl _⟩ ⟨by omega, by omega⟩ HNN.out hM2 HR10.out
        first | rw [show ((0 : Nat) : Int) = 0 from rfl] at hC | skip
        refine hC.mono ?_
        clear hC
        rintro e w11 ⟨B2, d2, rfl, hr2, hb11⟩
        have HB11 := Lib.hid (HB10.out.trans (hb11.mono HB10.out.size))
        have HR11 := Lib.hid (HR10.out.keep hb11 (Nat.le_refl _))
        have HQ2' := Lib.hid hr2
        have HBa := Lib.hid hb11
        clear hr2 hb11 HR10 hM2 hM3 hwB hhB
        go_wp2_with fail
        have hM3 := HM3.out
        have hwB := HWB.out
        have hhB := HHB.out
        have hC := cut_any Wn Hn Nn wA hA Wn Hn wB hB M3 LF w11 ⟨hwB, Nat.le_refl _⟩ ⟨hhB, Nat.le_refl _⟩ ⟨by omega, by omega⟩ HNN.out hM3 HR11.out
        first | rw [show ((0 : Nat) : Int) = 0 from rfl] at hC | skip
        refine hC.mono ?_
        clear hC
        rintro e w12 ⟨B3, d3, rfl, hr3, hb12⟩
        have HB12 := Lib.hid (HB11.out.trans (hb12.mono HB11.out.size))
        have HR12 := Lib.hid (HR11.out.keep hb12 (Nat.le_refl _))
        have hs11 := HB10.out.size
        have hs12 := HB11.out.size
        have p3 : RowS (fun b => wo.heap.size ≤ b ∧ b < w12.heap.size) w12 B3 M3 d3 (flat wB hB (subF wA hA LF)) := rowS_to hr3 (Below.refl _ _) (by omega)
        have p2 : RowS (fun b => wo.heap.size ≤ b ∧ b < w12.heap.size) w12 B2 M2 d2 (flat wA hB (subF 0 hA LF)) := rowS_to HQ2'.out hb12 (by omega)
        have p1 : RowS (fun b => wo.heap.size ≤ b ∧ b < w12.heap.size) w12 B1 M1 d1 (flat wB hA (subF wA 0 LF)) := rowS_to HQ1.out (HBa.out.trans (hb12.mono HBa.out.size)) (by omega)
        have hB12 : Below wo.heap.size wo w12 := HBW.out.trans (HB12.out.mono (by omega))
        obtain ⟨vs, hvo, hvn, hone⟩ := S.out.hi
        have hvo12 : (w12.alloc (Obj.cells #[.slice B1 M1 d1, .slice B2 M2 d2, .slice B3 M3 d3] 24)).ownsRow (w.heap.size + 1) 24 1 u8 (3 * k) vs := (ownsRow_keep hvo hB12.size (fun b e => hB12.block b (own_lt hvo e).2)).alloc _
        have hs0 := S.out.bel.size
        have hbx := HBX.out.lt
        have hs13 := hB12.size
        obtain ⟨hv', w13, hrun, hown13, hg13, _⟩ := app_rows (w := w12.alloc (Obj.cells #[.slice B1 M1 d1, .slice B2 M2 d2, .slice B3 M3 d3] 24)) (base := w12.heap.size) (v := .slice (some ⟨w12.heap.size, 0, none⟩) 3 3) (n := 3) (m := 3 * k) (vs := [.slice B1 M1 d1, .slice B2 M2 d2, .slice B3 M3 d3]) (World.ownsRow_lit (base := w12.heap.size) (e := 24) (size := 1) w12 #[.slice B1 M1 d1, .slice B2 M2 d2, .slice B3 M3 d3] 3 (Nat.le_refl _) (by unfold maxLen; omega) rfl) hvo12 hone (by simp) (by omega)
        have hb13 : Below w12.heap.size w12 w13 := ((Below.refl _ w12).alloc (Nat.le_refl _) _).grown hg13 (by simp) (by simp [Value.ownBlock])
        have HP1 := Lib.hid p1
        have HP2 := Lib.hid p2
        have HP3 := Lib.hid p3
        have HVN := Lib.hid (And.intro hvn hone)
        have HO13 := Lib.hid hown13
        have HB13 := Lib.hid hb13
        have HBw := Lib.hid hB12
        have HR13 := Lib.hid (HR12.out.keep hb13 (Nat.le_refl _))
        have HX13 := Lib.hid ((HBX.out.keep hB12 hbx).keep hb13 (Nat.lt_of_lt_of_le hbx hB12.size))
        clear hr3 hb12 HR11 HR12 p1 p2 p3 hB12 hvo hvn hone hvo12 hown13 hg13 hb13 hM3 hwB hhB HQ1 HQ2' HBa hs11 hs12 hs10
        go_wp2_with fail
        clear hrun
        have hM0 := HM0.out
        have hC := cut_any Wn Hn Nn 0 0 wA hA wA hA M0 LF w13 ⟨Nat.zero_add _, hwl⟩ ⟨Nat.zero_add _, hhl⟩ ⟨by omega, by omega⟩ HNN.out hM0 HR13.out
        first | rw [show ((0 : Nat) : Int) = 0 from rfl] at hC | skip
        refine hC.mono ?_
        clear hC
        rintro e w14 ⟨B0, d0, rfl, hr0, hb14⟩
        have HR0 := Lib.hid hr0
        have HB14 := Lib.hid hb14
        have HX14 := Lib.hid (HX13.out.keep hb14 HX13.out.lt)
        obtain ⟨f0, f1, f2, f3, _⟩ := HX14.out.cells
        have HHF : Hid (∀ W, Calls Try.prog 30 #[.agg #[.int .i64 (xn : Int), .int .i64 (yn : Int), .int .i64 r2, .int .i64 r3]] W fun e w' => e = .returned (.agg #[.int .i64 h0, .int .i64 h1, .int .i64 h2, .int .i64 h3]) ∧ Below W.heap.size W w') := Lib.hid (fun W => by
          have hf := rhalf_any (itG g k) W (by rw [HGG.out]; show Wn ≤ 300 ∧ Hn ≤ 300; omega) (by rw [HGG.out]; show xn ≤ 100000 ∧ yn ≤ 100000; omega)
          rw [HRR.out, show rectV (itG g k).half = _ from HHH.out] at hf
          exact hf)
        clear hr0 hb14 hM0 HR13 HX13
        go_wp2_with fail
        refine (HHF.out _).mono ?_
        rintro e w15 ⟨rfl, hb15⟩
        have hX15 := HX14.out.keep hb15 HX14.out.lt
        have S6 : Hid (RfW w (setRect w15 w.heap.size h0 h1 h2 h3) g P (k + 1) (.slice B0 M0 d0) hv') := Lib.hid (by
          have hGw : (itG g k).w = Wn := by rw [HGG.out]
          have hGh : (itG g k).h = Hn := by rw [HGG.out]
          have hGa : (itG g k).half.w = wA := by rw [HGG.out]; exact HWA.out
          have hGb : (itG g k).half.h = hA := by rw [HGG.out]; exact HHA.out
          have hwB := HWB.out
          have hhB := HHB.out
          have e1 : quar (itG g k) (itP g P (k + 1)) 1 = flat wB hA (subF wA 0 LF) := by rw [quar_1, hGw, hGa, hGb, ← HLF.out, show Wn - wA = wB from by omega]
          have e2 : quar (itG g k) (itP g P (k + 1)) 2 = flat wA hB (subF 0 hA LF) := by rw [quar_2, hGh, hGa, hGb, ← HLF.out, show Hn - hA = hB from by omega]
          have e3 : quar (itG g k) (itP g P (k + 1)) 3 = flat wB hB (subF wA hA LF) := by rw [quar_3, hGw, hGh, hGa, hGb, ← HLF.out, show Wn - wA = wB from by omega, show Hn - hA = hB from by omega]
          have e0 : quar (itG g k) (itP g P (k + 1)) 0 = flat wA hA (subF 0 0 LF) := by rw [quar_0, hGa, hGb, ← HLF.out]
          exact S.out.step (w9 := w12) (w10 := w13) (u := w15) HBw.out (by rw [e1]; exact HP1.out) (by rw [e2]; exact HP2.out) (by rw [e3]; exact HP3.out) HVN.out.1 HVN.out.2 HO13.out HB13.out (HB14.out.trans (hb15.mono HB14.out.size)) (by rw [e0]; exact rowS_to HR0.out hb15 (Nat.le_refl _)) HHH.out)
        obtain ⟨g0, g1, g2, g3, g4, g5, g6, g7⟩ := hX15.cells
        clear hb15 hX15 HX14 HHF f0 f1 f2 f3 S HP1 HP2 HP3 HVN HO13
        go_wp2
        go_roundw
        case rel => exact ⟨k + 1, by omega, by go_num, S6⟩
        case measure => simp [intOf]; omega
    · obtain rfl : n = k := by omega
      obtain ⟨A2, c2, hlv, hp⟩ := S.out.ll
      have hll : (lowest g P n).length = (itG g n).w * (itG g n).h := flat_len _ _ _
      obtain ⟨nl, hnl⟩ : ∃ nl, (itG g n).w * (itG g n).h = nl := ⟨_, rfl⟩
      rw [hnl] at hlv hp hll
      subst hlv
      obtain ⟨vs, hvo, hvn, hone⟩ := S.out.hi
      have hbe := S.out.bel
      have hvo1 := hvo.alloc (Obj.cells #[.slice A2 nl c2] 24)
      obtain ⟨hv', w5, hrun, hown5, hg5, _⟩ := app_rows (w := wr.alloc (Obj.cells #[.slice A2 nl c2] 24)) (base := wr.heap.size) (v := .slice (some ⟨wr.heap.size, 0, none⟩) 1 1) (n := 1) (m := 3 * n) (vs := [.slice A2 nl c2]) (World.ownsRow_lit (base := wr.heap.size) (e := 24) (size := 1) wr #[.slice A2 nl c2] 1 (Nat.le_refl _) (by unfold maxLen; omega) rfl) hvo1 hone (by simp) (by omega)
      have hb5 : Below wr.heap.size wr w5 := ((Below.refl _ wr).alloc (Nat.le_refl _) _).grown hg5 (by simp) (by simp [Value.ownBlock])
      rw [show 1 + 3 * n = 3 * n + 1 from by omega] at hown5
      obtain ⟨A', c', rfl, _, _, _⟩ := own_any hown5
      have hrows : RowsI w5 A' (3 * n + 1) c' (bandsL g P n) := by
        rw [bands_up]
        refine named_own (S := fun b => b < w5.heap.size) hown5 ?_ (fun b hb => hb)
        have x1 : RowS (fun b => b < w5.heap.size) w5 A2 nl c2 (lowest g P n) := (hp.keep fun b hb => hb5.block b hb.2).mono fun b hb => Nat.lt_of_lt_of_le hb.2 hb5.size
        have x2 : Named (fun b => b < w5.heap.size) w5 vs (upK g P n) := (hvn.keep fun b hb => hb5.block b hb.2).mono fun b hb => Nat.lt_of_lt_of_le hb.2 hb5.size
        exact named_cons x1 x2
      have hB := hbe.trans (hb5.mono hbe.size)
      have HRW := Lib.hid hrows
      clear S hp hvo hvn hone hbe hvo1 hg5 hb5 hown5 hrows hnl hll
      go_wp2
      go_ret
      exact ⟨_, _, rfl, HRW.out, hB⟩
end Go.Proofs.Ytgadebfelomhpaa
