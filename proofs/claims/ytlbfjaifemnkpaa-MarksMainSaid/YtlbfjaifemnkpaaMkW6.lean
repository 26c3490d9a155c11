/- marks: Main, where Frame has no objection. -/
import Derived.Test.YtlbfjaifemnkpaaMkW5
import Derived.Laws.Rows
import Derived.Deep.CutBlock
set_option linter.unusedVariables false
set_option linter.unusedSimpArgs false
namespace Go.Proofs.Ytlbfjaifemnkpaa
open Go.RowKit Go.Shelf
attribute [local go_sem ↓] appSem_eq
set_option maxRecDepth 100000
def segL (mk : Int) (X : List Int) : List Int := fldL 2 [mk, 2 + (X.length : Int)] ++ X
theorem segL_len (mk : Int) (X : List Int) : (segL mk X).length = 4 + X.length := by
  unfold segL
  rw [List.length_append, fldL_len]
  simp
def codH (h : HV) (k : Nat) : List Int := codL h.LV h.BW h.BH h.PR h.ST h.OD h.LY h.RC h.SO h.EP (k + 1)
def headL (h : HV) (cs : List Cp) (k : Nat) : List Int := fldL 2 [65359] ++ segL 65361 (sizeL h cs) ++ segL 65362 (codH h k) ++ segL 65372 (bandsB (if h.RC then 1 else 0) cs k)
def mainL (h : HV) (cs : List Cp) (l : List Int) (k : Nat) : List Int := headL h cs k ++ (if 0 < h.sn then segL 65380 (fldL 2 [1] ++ l) else [])
theorem headL_len (h : HV) (cs : List Cp) (k : Nat) : (headL h cs k).length = 2 + (4 + (36 + 3 * cs.length)) + (4 + (10 + (k + 1))) + (4 + (2 + 3 * k)) := by
  unfold headL codH
  rw [List.length_append, List.length_append, List.length_append, segL_len, segL_len, segL_len, sizeL_len, codL_len, bandsB_len, fldL_len]
  simp
set_option maxHeartbeats 8000000 in
theorem main_any {w : World} {h : HV} {cs : List Cp} {l : List Int} (k : Nat) (H : HdOk w h cs l) (hd : ∀ c ∈ cs, 0 ≤ c.d ∧ c.d ≤ 100) (hLV : h.LV = (k : Int)) (hk : k ≤ 5) (hBW : 0 ≤ h.BW ∧ h.BW ≤ 1000) (hBH : 0 ≤ h.BH ∧ h.BH ≤ 1000) (hPR : 0 ≤ h.PR ∧ h.PR ≤ 1000) (hsn : h.sn ≤ 1000)
    (FR0 : ∀ u, Below w.heap.size w u → Calls Try.prog 21 #[.agg #[.int .i64 h.X, .int .i64 h.Y, .int .i64 h.OX, .int .i64 h.OY, .slice h.A h.N h.C], .agg #[.int .i64 h.TX, .int .i64 h.TY, .int .i64 h.LV, .int .i64 h.BW, .int .i64 h.BH, .int .i64 h.PR, .int .i64 h.ST, .int .i64 h.OD, .int .i64 h.LY, .bool h.RC, .bool h.SO, .bool h.EP]] u fun e w' => e = .returned (.int .i64 0) ∧ Below u.heap.size u w') :
    Calls Try.prog 13 #[.agg h.arr] w fun e w' => ∃ v, e = .returned v ∧ By w.heap.size w' v (mainL h cs l k) ∧ Below w.heap.size w w' := by
  obtain ⟨fc, hfc⟩ : ∃ fc, h.arr = fc := ⟨_, rfl⟩
  have HFS : Hid (fc.size = 18) := Lib.hid (by rw [← hfc]; rfl)
  obtain ⟨B, hB⟩ : ∃ B, w.heap.size = B := ⟨_, rfl⟩
  obtain ⟨w1, hw1⟩ : ∃ w1, w.alloc (.cells fc 33) = w1 := ⟨_, rfl⟩
  have H1 : Hid (Below B w w1 ∧ w1.heap[B]? = some (.cells fc 33 (0, 0)) ∧ w1.heap.size = B + 1) := Lib.hid ⟨by rw [← hw1, ← hB]; exact (Below.refl _ _).alloc (Nat.le_refl _) _, by rw [← hw1, ← hB]; exact World.alloc_heap_new w _, by rw [← hw1, ← hB]; simp⟩
  obtain ⟨B1, hB1⟩ : ∃ B1, w1.heap.size = B1 := ⟨_, rfl⟩
  have HB1 : Hid (w1.heap.size = B1 ∧ B < B1 ∧ w.heap.size = B) := Lib.hid ⟨hB1, by have := H1.out.2.2; omega, hB⟩
  have SZ : Hid (∀ u : World, Below B1 w1 u → B1 ≤ u.heap.size) := Lib.hid fun u hb => by have := hb.size; rw [hB1] at this; exact this
  have KB : Hid (∀ u : World, Below B1 w1 u → u.heap[B]? = some (.cells fc 33 (0, 0))) := Lib.hid fun u hb => (hb.block B (by rw [← hB1]; exact blk_lt H1.out.2.1)).trans H1.out.2.1
  have HR1 : Hid (Below B1 w1 w1) := Lib.hid (Below.refl _ _)
  have TW : Hid (∀ u : World, Below B1 w1 u → Below w.heap.size w u) := Lib.hid fun u hb => by rw [hB]; exact H1.out.1.trans (hb.mono (Nat.le_of_lt HB1.out.2.1))
  have HE := Lib.hid (And.intro hw1 hB)
  clear hw1 hB hB1
  have NF : Hid (∀ (s : Nat) (l : List Int) (u : World), 1 ≤ s ∧ s ≤ 8 → l.length ≤ 1000 → Below B1 w1 u → Calls Try.prog 22 #[.int .i64 (s : Int), .slice (some ⟨u.heap.size, 0, none⟩) l.length l.length] (u.alloc (.cells (l.map (Value.int .i64)).toArray 3)) fun e w' => ∃ A' n' c', e = .returned (.slice A' n' c') ∧ By B1 w' (.slice A' n' c') (fldL s l) ∧ Below u.heap.size u w') := Lib.hid fun s l u hs hl hb => by
    have hba : Below u.heap.size u (u.alloc (.cells (l.map (Value.int .i64)).toArray 3)) := (Below.refl _ _).alloc (Nat.le_refl _) _
    refine (fields_any s l.length l.length (some ⟨u.heap.size, 0, none⟩) l _ hs rfl hl (lst_news u l)).mono ?_
    rintro e w' ⟨v, rfl, hy, hb2⟩
    obtain ⟨A', c', rfl, _⟩ := By.form hy
    exact ⟨A', _, c', rfl, hy.low (Nat.le_trans (SZ.out _ hb) hba.size), hba.trans (hb2.mono hba.size)⟩
  have SG : Hid (∀ (mk : Int) (A : Option Addr) (n c : Nat) (X : List Int) (u : World), Below B1 w1 u → By B1 u (.slice A n c) X → X.length ≤ 5000 → Calls Try.prog 23 #[.int .i64 mk, .slice A n c] u fun e w' => ∃ A' n' c', e = .returned (.slice A' n' c') ∧ By B1 w' (.slice A' n' c') (segL mk X) ∧ Below u.heap.size u w') := Lib.hid fun mk A n c X u hb hy hl => by
    have hls := hy.lst
    obtain ⟨A0, c0, hv, hA, _⟩ := By.form hy
    cases hv
    refine (segment_any mk X.length c A X u (fun e => (hA e).1) rfl (by omega) hls).mono ?_
    rintro e w' ⟨v, rfl, hy2, hb2⟩
    obtain ⟨A', c', rfl, _⟩ := By.form hy2
    exact ⟨A', _, c', rfl, hy2.low (SZ.out _ hb), hb2⟩
  have SI : Hid (∀ u, Below B1 w1 u → Calls Try.prog 24 #[.agg fc] u fun e w' => ∃ A' n' c', e = .returned (.slice A' n' c') ∧ By B1 w' (.slice A' n' c') (sizeL h cs) ∧ Below u.heap.size u w') := Lib.hid fun u hb => by
    rw [← hfc]
    refine (size_any (H.below (TW.out _ hb)) hd).mono ?_
    rintro e w' ⟨v, rfl, hy, hb2⟩
    obtain ⟨A', c', rfl, _⟩ := By.form hy
    exact ⟨A', _, c', rfl, hy.low (SZ.out _ hb), hb2⟩
  have BD : Hid (∀ u, Below B1 w1 u → Calls Try.prog 26 #[.agg fc] u fun e w' => ∃ A' n' c', e = .returned (.slice A' n' c') ∧ By B1 w' (.slice A' n' c') (bandsB (if h.RC then 1 else 0) cs k) ∧ Below u.heap.size u w') := Lib.hid fun u hb => by
    rw [← hfc]
    refine (bands_any k (H.below (TW.out _ hb)) hd hLV (by omega)).mono ?_
    rintro e w' ⟨v, rfl, hy, hb2⟩
    obtain ⟨A', c', rfl, _⟩ := By.form hy
    exact ⟨A', _, c', rfl, hy.low (SZ.out _ hb), hb2⟩
  have CD : Hid (∀ u, Below B1 w1 u → Calls Try.prog 25 #[.agg #[.int .i64 h.TX, .int .i64 h.TY, .int .i64 h.LV, .int .i64 h.BW, .int .i64 h.BH, .int .i64 h.PR, .int .i64 h.ST, .int .i64 h.OD, .int .i64 h.LY, .bool h.RC, .bool h.SO, .bool h.EP]] u fun e w' => ∃ A' n' c', e = .returned (.slice A' n' c') ∧ By B1 w' (.slice A' n' c') (codH h k) ∧ Below u.heap.size u w') := Lib.hid fun u hb => by
    refine (coding_any h.TX h.TY h.LV h.BW h.BH h.PR h.ST h.OD h.LY h.RC h.SO h.EP (k + 1) u (by rw [hLV]; omega) (by omega) hBW hBH hPR).mono ?_
    rintro e w' ⟨v, rfl, hy, hb2⟩
    obtain ⟨A', c', rfl, _⟩ := By.form hy
    exact ⟨A', _, c', rfl, hy.low (SZ.out _ hb), hb2⟩
  have FR : Hid (∀ u, Below B1 w1 u → Calls Try.prog 21 #[.agg #[.int .i64 h.X, .int .i64 h.Y, .int .i64 h.OX, .int .i64 h.OY, .slice h.A h.N h.C], .agg #[.int .i64 h.TX, .int .i64 h.TY, .int .i64 h.LV, .int .i64 h.BW, .int .i64 h.BH, .int .i64 h.PR, .int .i64 h.ST, .int .i64 h.OD, .int .i64 h.LY, .bool h.RC, .bool h.SO, .bool h.EP]] u fun e w' => e = .returned (.int .i64 0) ∧ Below u.heap.size u w') := Lib.hid fun u hb => FR0 u (TW.out _ hb)
  -- appending a made row to a made row
  have AP : Hid (∀ (u : World) (A A' : Option Addr) (n n' c c' : Nat) (X L : List Int), Below B1 w1 u → By B1 u (.slice A n c) X → By B1 u (.slice A' n' c') L → X.length + L.length ≤ 100000 → ∃ A2 m2 c2 u', (appSem #[25, 25] 25 #[.slice A n c, .slice A' n' c']).run Try.prog u = .ok (.slice A2 m2 c2) u' ∧ By B1 u' (.slice A2 m2 c2) (X ++ L) ∧ Below B1 w1 u') := Lib.hid fun u A A' n n' c c' X L hb h1 h2 hl => by
    obtain ⟨A2, m2, c2, u', hr, hy, hg⟩ := app_by h1 h2 (SZ.out _ hb) (by omega)
    exact ⟨A2, m2, c2, u', hr, hy, h1.bel hb (SZ.out _ hb) hg⟩
  have LN : Hid ((sizeL h cs).length ≤ 50 ∧ (codH h k).length ≤ 20 ∧ (bandsB (if h.RC then 1 else 0) cs k).length ≤ 20 ∧ h.sn ≤ 1000 ∧ l.length = h.sn ∧ (headL h cs k).length ≤ 200) := Lib.hid ⟨by rw [sizeL_len]; have := H.len; have := H.few; omega, by unfold codH; rw [codL_len]; omega, by rw [bandsB_len]; omega, hsn, H.cl, by rw [headL_len]; have := H.len; have := H.few; omega⟩
  have HH := Lib.hid H
  have HFC := Lib.hid hfc
  have K : ∀ (u : World) (_ : Below B1 w1 u) (i : Nat), u.cell? ⟨B, i, none⟩ = h.arr[i]? := fun u hb i => by rw [hfc]; exact rb_cell (KB.out _ hb) i
  have KK := Lib.hid K
  rw [hfc]
  clear hfc hd hLV hk hBW hBH hPR FR0 H K
  obtain ⟨X, Y, OX, OY, A, N, C, TX, TY, LV, BW, BH, PR, ST, OD, LY, RC, SO, EP, SA, sn, sc⟩ := h
  simp only at hsn
  have TE : Hid (mainL ⟨X, Y, OX, OY, A, N, C, TX, TY, LV, BW, BH, PR, ST, OD, LY, RC, SO, EP, SA, sn, sc⟩ cs l k = headL ⟨X, Y, OX, OY, A, N, C, TX, TY, LV, BW, BH, PR, ST, OD, LY, RC, SO, EP, SA, sn, sc⟩ cs k ++ (if 0 < sn then segL 65380 (fldL 2 [1] ++ l) else [])) := Lib.hid rfl
  have k0 := KK.out w1 HR1.out 0
  have k1 := KK.out w1 HR1.out 1
  have k2 := KK.out w1 HR1.out 2
  have k3 := KK.out w1 HR1.out 3
  have k4 := KK.out w1 HR1.out 4
  have k5 := KK.out w1 HR1.out 5
  have k6 := KK.out w1 HR1.out 6
  have k7 := KK.out w1 HR1.out 7
  have k8 := KK.out w1 HR1.out 8
  have k9 := KK.out w1 HR1.out 9
  have k10 := KK.out w1 HR1.out 10
  have k11 := KK.out w1 HR1.out 11
  have k12 := KK.out w1 HR1.out 12
  have k13 := KK.out w1 HR1.out 13
  have k14 := KK.out w1 HR1.out 14
  have k15 := KK.out w1 HR1.out 15
  have k16 := KK.out w1 HR1.out 16
  have e17 : ∀ u, Below B1 w1 u → u.cell? ⟨B, 17, none⟩ = some (.slice SA sn sc) := fun u hb => KK.out u hb 17
  have E17 := Lib.hid e17
  clear e17
  replace k0 : w1.cell? ⟨B, 0, none⟩ = some (.int .i64 X) := k0
  replace k1 : w1.cell? ⟨B, 1, none⟩ = some (.int .i64 Y) := k1
  replace k2 : w1.cell? ⟨B, 2, none⟩ = some (.int .i64 OX) := k2
  replace k3 : w1.cell? ⟨B, 3, none⟩ = some (.int .i64 OY) := k3
  replace k4 : w1.cell? ⟨B, 4, none⟩ = some (.slice A N C) := k4
  replace k5 : w1.cell? ⟨B, 5, none⟩ = some (.int .i64 TX) := k5
  replace k6 : w1.cell? ⟨B, 6, none⟩ = some (.int .i64 TY) := k6
  replace k7 : w1.cell? ⟨B, 7, none⟩ = some (.int .i64 LV) := k7
  replace k8 : w1.cell? ⟨B, 8, none⟩ = some (.int .i64 BW) := k8
  replace k9 : w1.cell? ⟨B, 9, none⟩ = some (.int .i64 BH) := k9
  replace k10 : w1.cell? ⟨B, 10, none⟩ = some (.int .i64 PR) := k10
  replace k11 : w1.cell? ⟨B, 11, none⟩ = some (.int .i64 ST) := k11
  replace k12 : w1.cell? ⟨B, 12, none⟩ = some (.int .i64 OD) := k12
  replace k13 : w1.cell? ⟨B, 13, none⟩ = some (.int .i64 LY) := k13
  replace k14 : w1.cell? ⟨B, 14, none⟩ = some (.bool RC) := k14
  replace k15 : w1.cell? ⟨B, 15, none⟩ = some (.bool SO) := k15
  replace k16 : w1.cell? ⟨B, 16, none⟩ = some (.bool EP) := k16
  go_enter Try.func13, Try.ntmps13
  go_upto_region 1 with fail
  rw [show w.alloc _ = w1 from HE.out.1, HE.out.2]
  go_wp2_with fail
  refine (FR.out w1 HR1.out).mono ?_
  rintro e w2 ⟨rfl, hb2⟩
  have hB2 : Below B1 w1 w2 := HR1.out.trans (hb2.mono (SZ.out _ HR1.out))
  have k17 := E17.out w2 hB2
  have hc1 : ¬ (1000 : Int) < (sn : Int) := by omega
  have HB2 := Lib.hid hB2
  clear k0 k1 k2 k3 k4 k5 k6 k7 k8 k9 k10 k11 k12 k13 k14 k15 k16 hb2 hB2
  go_upto_region 3 with fail
  clear k17 hc1
  go_wp2_with fail
  refine (NF.out 2 [65359] w2 (by omega) (by simp) HB2.out).mono ?_
  rintro e w3 ⟨A3, n3, c3, rfl, hy3, hb3⟩
  have HB3 := Lib.hid (HB2.out.trans (hb3.mono (SZ.out _ HB2.out)))
  have HY3 := Lib.hid hy3
  clear hy3 hb3 HB2
  go_wp2_with (refine wpList_load_row rfl 33 _ rfl B rfl 33 fc (0, 0) _ (KB.out _ HB3.out) Try.underlying33 rfl (by rw [HFS.out]; kernel_rfl) ?_)
  refine (SI.out w3 HB3.out).mono ?_
  rintro e w4 ⟨A4, n4, c4, rfl, hy4, hb4⟩
  have HB4 := Lib.hid (HB3.out.trans (hb4.mono (SZ.out _ HB3.out)))
  have HY3b := Lib.hid (HY3.out.below hb4)
  have HY4 := Lib.hid hy4
  clear hy4 hb4 HB3 HY3
  go_wp2_with fail
  refine (SG.out 65361 A4 n4 c4 _ w4 HB4.out HY4.out (by have := LN.out; omega)).mono ?_
  rintro e w5 ⟨A5, n5, c5, rfl, hy5, hb5⟩
  have HB5 := Lib.hid (HB4.out.trans (hb5.mono (SZ.out _ HB4.out)))
  obtain ⟨A6, n6, c6, w6, hr6, hy6, hB6⟩ := AP.out w5 _ _ _ _ _ _ _ _ HB5.out (HY3b.out.below hb5) hy5 (by have := LN.out; rw [fldL_len, segL_len]; simp; omega)
  have HB6 := Lib.hid hB6
  have HY6 := Lib.hid hy6
  clear hy5 hb5 hB6 hy6 HB4 HB5 HY3b HY4
  go_upto_region 5 with fail
  clear hr6
  have k5 : w6.cell? ⟨B, 5, none⟩ = some (.int .i64 TX) := KK.out w6 HB6.out 5
  have k6 : w6.cell? ⟨B, 6, none⟩ = some (.int .i64 TY) := KK.out w6 HB6.out 6
  have k7 : w6.cell? ⟨B, 7, none⟩ = some (.int .i64 LV) := KK.out w6 HB6.out 7
  have k8 : w6.cell? ⟨B, 8, none⟩ = some (.int .i64 BW) := KK.out w6 HB6.out 8
  have k9 : w6.cell? ⟨B, 9, none⟩ = some (.int .i64 BH) := KK.out w6 HB6.out 9
  have k10 : w6.cell? ⟨B, 10, none⟩ = some (.int .i64 PR) := KK.out w6 HB6.out 10
  have k11 : w6.cell? ⟨B, 11, none⟩ = some (.int .i64 ST) := KK.out w6 HB6.out 11
  have k12 : w6.cell? ⟨B, 12, none⟩ = some (.int .i64 OD) := KK.out w6 HB6.out 12
  have k13 : w6.cell? ⟨B, 13, none⟩ = some (.int .i64 LY) := KK.out w6 HB6.out 13
  have k14 : w6.cell? ⟨B, 14, none⟩ = some (.bool RC) := KK.out w6 HB6.out 14
  have k15 : w6.cell? ⟨B, 15, none⟩ = some (.bool SO) := KK.out w6 HB6.out 15
  have k16 : w6.cell? ⟨B, 16, none⟩ = some (.bool EP) := KK.out w6 HB6.out 16
  go_wp2_with fail
  refine (CD.out w6 HB6.out).mono ?_
  rintro e w7 ⟨A7, n7, c7, rfl, hy7, hb7⟩
  clear k5 k6 k7 k8 k9 k10 k11 k12 k13 k14 k15 k16
  have HB7 := Lib.hid (HB6.out.trans (hb7.mono (SZ.out _ HB6.out)))
  have HY6b := Lib.hid (HY6.out.below hb7)
  have HY7 := Lib.hid hy7
  clear hy7 hb7 HB6 HY6
  go_wp2_with fail
  refine (SG.out 65362 A7 n7 c7 _ w7 HB7.out HY7.out (by have := LN.out; omega)).mono ?_
  rintro e w8 ⟨A8, n8, c8, rfl, hy8, hb8⟩
  have HB8 := Lib.hid (HB7.out.trans (hb8.mono (SZ.out _ HB7.out)))
  obtain ⟨A9, n9, c9, w9, hr9, hy9, hB9⟩ := AP.out w8 _ _ _ _ _ _ _ _ HB8.out (HY6b.out.below hb8) hy8 (by have := LN.out; rw [List.length_append, fldL_len, segL_len, segL_len]; simp; omega)
  have HB9 := Lib.hid hB9
  have HY9 := Lib.hid hy9
  clear hy8 hb8 hB9 hy9 HB7 HB8 HY6b HY7
  go_upto_region 6 with fail
  clear hr9
  go_wp2_with (refine wpList_load_row rfl 33 _ rfl B rfl 33 fc (0, 0) _ (KB.out _ HB9.out) Try.underlying33 rfl (by rw [HFS.out]; kernel_rfl) ?_)
  refine (BD.out w9 HB9.out).mono ?_
  rintro e w10 ⟨A10, n10, c10, rfl, hy10, hb10⟩
  have HB10 := Lib.hid (HB9.out.trans (hb10.mono (SZ.out _ HB9.out)))
  have HY9b := Lib.hid (HY9.out.below hb10)
  have HY10 := Lib.hid hy10
  clear hy10 hb10 HB9 HY9
  go_wp2_with fail
  refine (SG.out 65372 A10 n10 c10 _ w10 HB10.out HY10.out (by have := LN.out; omega)).mono ?_
  rintro e w11 ⟨A11, n11, c11, rfl, hy11, hb11⟩
  have HB11 := Lib.hid (HB10.out.trans (hb11.mono (SZ.out _ HB10.out)))
  obtain ⟨A12, n12, c12, w12, hr12, hy12, hB12⟩ := AP.out w11 _ _ _ _ _ _ _ _ HB11.out (HY9b.out.below hb11) hy11 (by have := LN.out; rw [List.length_append, List.length_append, fldL_len, segL_len, segL_len, segL_len]; simp; omega)
  have HB12 := Lib.hid hB12
  have HY12 := Lib.hid hy12
  clear hy11 hb11 hB12 hy12 HB10 HB11 HY9b HY10
  have k17 := E17.out w12 HB12.out
  by_cases hs : 0 < sn
  · have hsI : (0 : Int) < (sn : Int) := by omega
    have HY12h : Hid (By B1 w12 (.slice A12 n12 c12) (headL ⟨X, Y, OX, OY, A, N, C, TX, TY, LV, BW, BH, PR, ST, OD, LY, RC, SO, EP, SA, sn, sc⟩ cs k)) := Lib.hid HY12.out
    have TR12 : Hid (∀ u : World, Below w12.heap.size w12 u → Below B1 w1 u) := Lib.hid fun u hb => HB12.out.trans (hb.mono (SZ.out _ HB12.out))
    have hSA : SA ≠ none := by
      intro e
      have hl0 : 0 < l.length := by have := LN.out.2.2.2.2.1; omega
      obtain ⟨b, o, e2, _⟩ := HH.out.com 0 (.int .u8 l[0]) (by rw [List.getElem?_map, List.getElem?_eq_getElem hl0]; rfl)
      simp only at e2
      rw [e] at e2
      cases e2
    have HSA := Lib.hid hSA
    clear hSA HY12
    go_upto_region 8 with fail
    clear k17
    obtain ⟨VL, hVL⟩ : ∃ VL : Nat × (Option Addr × Nat × Nat) × (Option Addr × Nat × Nat) × (Option Addr × Nat × Nat) × (Option Addr × Nat × Nat) → List (Nat × Nat × Value), VL = fun z => [(0, 38, .slice A12 n12 c12), (1, 39, .slice (some ⟨z.1, 0, none⟩) 1 1), (2, 40, .slice z.2.1.1 z.2.1.2.1 z.2.1.2.2), (3, 41, .pointer (some ⟨B, 17, none⟩)), (4, 42, .slice SA sn sc), (5, 43, .slice z.2.2.1.1 z.2.2.1.2.1 z.2.2.1.2.2), (6, 44, .slice z.2.2.2.1.1 z.2.2.2.1.2.1 z.2.2.2.1.2.2), (7, 45, .slice z.2.2.2.2.1 z.2.2.2.2.2.1 z.2.2.2.2.2.2), (8, 3, .slice z.2.2.2.2.1 z.2.2.2.2.2.1 z.2.2.2.2.2.2)] := ⟨_, rfl⟩
    have hok : ∀ z, manyOk 47 (VL z) := fun z => by rw [hVL]; exact okB_ok rfl
    have HVL := Lib.hid hVL
    have hvi : ∀ z, ∀ x ∈ VL z, x.1 < 9 := fun z => by rw [hVL]; exact ltB_ok rfl
    have HOK := Lib.hid hok
    have HVI := Lib.hid hvi
    clear hVL hok hvi
    refine (wpIn_wide (n := 9)).1 (regionIn_many (N := 47) (w := _) VL (fun L z w' => ((L 7 = false → Below w12.heap.size w12 w') ∧ (L 2 = false → L 1 = true → Lst w' w'.heap.size (some ⟨z.1, 0, none⟩) (([1] : List Int).map (Value.int .i64))) ∧ (L 5 = false → L 2 = true → By w12.heap.size w' (.slice z.2.1.1 z.2.1.2.1 z.2.1.2.2) (fldL 2 [1])) ∧ (L 6 = false → L 5 = true → By w12.heap.size w' (.slice z.2.2.1.1 z.2.2.1.2.1 z.2.2.1.2.2) (fldL 2 [1] ++ l)) ∧ (L 7 = false → L 6 = true → By B1 w' (.slice z.2.2.2.1.1 z.2.2.2.1.2.1 z.2.2.2.1.2.2) (segL 65380 (fldL 2 [1] ++ l))) ∧ (L 7 = true → By B1 w' (.slice z.2.2.2.2.1 z.2.2.2.2.2.1 z.2.2.2.2.2.2) (headL ⟨X, Y, OX, OY, A, N, C, TX, TY, LV, BW, BH, PR, ST, OD, LY, RC, SO, EP, SA, sn, sc⟩ cs k ++ (segL 65380 (fldL 2 [1] ++ l))) ∧ Below B1 w1 w')) ∧ True) [(1, .pointer (some ⟨B, 0, none⟩)), (3, .slice A12 n12 c12)] (by kernel_rfl) (by kernel_rfl) rfl (by simp only [List.forall_mem_cons, List.not_mem_nil, false_imp_iff, implies_true, and_true]; exact ⟨rfl, rfl⟩) HVI.out (0, (none, 0, 0), (none, 0, 0), (none, 0, 0), (none, 0, 0)) ?start ?step ?fin)
    case start => exact ⟨⟨fun _ => (Below.refl _ _).drew, fun _ h => (by cases h), fun _ h => (by cases h), fun _ h => (by cases h), fun _ h => (by cases h), fun h => (by cases h)⟩, trivial⟩
    case step =>
      intro gg_ hgN hgF ii_ hii_ L z w' hph hs hu
      obtain ⟨hcm, hph⟩ := hph
      have hF1 := hgF (1, .pointer (some ⟨B, 0, none⟩)) (by simp)
      have hF3 := hgF (3, .slice A12 n12 c12) (by simp)
      have hL := hu.1
      have hii_ : ii_ < 9 := hii_
      clear hgF
      obtain rfl | rfl | rfl | rfl | rfl | rfl | rfl | rfl | rfl := (by omega : ii_ = 0 ∨ ii_ = 1 ∨ ii_ = 2 ∨ ii_ = 3 ∨ ii_ = 4 ∨ ii_ = 5 ∨ ii_ = 6 ∨ ii_ = 7 ∨ ii_ = 8)
      · skip
        have n7 : L 7 = false := not_yet hL fun h => shut_at hs 7 0 (by kernel_rfl) (h)
        have n8 : L 8 = false := not_yet hL fun h => shut_at hs 8 0 (by kernel_rfl) (h)
        have e3 : (many gg_ L (VL z))[3]?.getD undef = .slice A12 n12 c12 := many_out3' hgN (HOK.out z) (by rw [HVL.out]; rfl) (by assumption) hF3
        refine opIn_run (v := .slice A12 n12 c12) (w' := w') rfl rfl (fun c h => by cases h) (fun _ => trivial) ?_ ⟨z, by exact many_put3 (HOK.out _) (by rw [HVL.out]; rfl) hL, hcm, hph⟩
        go_simp
      · skip
        have n2 : L 2 = false := not_yet hL fun h => shut_at hs 2 1 (by kernel_rfl) (h)
        have n5 : L 5 = false := not_yet hL fun h => shut_at hs 2 1 (by kernel_rfl) (shut_at hs 5 2 (by kernel_rfl) (h))
        have n6 : L 6 = false := not_yet hL fun h => shut_at hs 2 1 (by kernel_rfl) (shut_at hs 5 2 (by kernel_rfl) (shut_at hs 6 5 (by kernel_rfl) (h)))
        have n7 : L 7 = false := not_yet hL fun h => shut_at hs 2 1 (by kernel_rfl) (shut_at hs 5 2 (by kernel_rfl) (shut_at hs 6 5 (by kernel_rfl) (shut_at hs 7 6 (by kernel_rfl) (h))))
        have n8 : L 8 = false := not_yet hL fun h => shut_at hs 8 1 (by kernel_rfl) (h)
        refine opIn_run (v := (.slice (some ⟨w'.heap.size, 0, none⟩) 1 1)) (w' := w'.alloc (.cells #[.int .i64 1] 3)) rfl rfl (fun c h => by cases h) (fun _ => trivial) ?_ ⟨(w'.heap.size, z.2), by rw [show many gg_ L (VL z) = many gg_ L (VL (w'.heap.size, z.2)) from by rw [HVL.out]; simp only [many, n2, n5, n6, n7, n8, hL, cond_false, cond_true]]; exact many_put3 (HOK.out _) (by rw [HVL.out]; rfl) hL, ⟨fun _ => (hcm.1 n7).alloc (hcm.1 n7).size _, fun _ _ => lst_news w' [1], fun _ a => absurd a (by simp [upd, n2]), fun _ a => absurd a (by simp [upd, n5]), fun _ a => absurd a (by simp [upd, n6]), fun a => absurd a (by simp [upd, n7])⟩, trivial⟩
        go_simp
      · skip
        have y1 : L 1 = true := up_at hu 1 (by kernel_rfl)
        have n5 : L 5 = false := not_yet hL fun h => shut_at hs 5 2 (by kernel_rfl) (h)
        have n6 : L 6 = false := not_yet hL fun h => shut_at hs 5 2 (by kernel_rfl) (shut_at hs 6 5 (by kernel_rfl) (h))
        have n7 : L 7 = false := not_yet hL fun h => shut_at hs 5 2 (by kernel_rfl) (shut_at hs 6 5 (by kernel_rfl) (shut_at hs 7 6 (by kernel_rfl) (h)))
        have n8 : L 8 = false := not_yet hL fun h => shut_at hs 8 2 (by kernel_rfl) (h)
        have e39 : (many gg_ L (VL z))[39]?.getD undef = .slice (some ⟨z.1, 0, none⟩) 1 1 := many_eval3 hgN (HOK.out z) (by rw [HVL.out]; rfl) y1
        refine opIn_call (f := 22) (args := #[.int .i64 2, .slice (some ⟨z.1, 0, none⟩) 1 1]) (w' := w') rfl rfl (fun c h => by cases h) (fun _ => trivial) rfl (by go_simp) ((callsIn_wide.2 (fields_any 2 1 1 (some ⟨z.1, 0, none⟩) [1] w' (by omega) rfl (by omega) (hcm.2.1 hL y1))).mono ?_)
        rintro e w2 ⟨vv, rfl, hy, hb⟩
        obtain ⟨A8, c8, rfl, _⟩ := By.form hy
        exact ⟨_, rfl, (z.1, (A8, _, c8), z.2.2), by rw [show many gg_ L (VL z) = many gg_ L (VL (z.1, (A8, _, c8), z.2.2)) from by rw [HVL.out]; simp only [many, y1, n5, n6, n7, n8, hL, cond_false, cond_true]]; exact many_put3 (HOK.out _) (by rw [HVL.out]; rfl) hL, ⟨fun _ => (hcm.1 n7).trans (hb.mono (hcm.1 n7).size), fun a => absurd a (by simp [upd_self]), fun _ _ => hy.low (hcm.1 n7).size, fun _ a => absurd a (by simp [upd, n5]), fun _ a => absurd a (by simp [upd, n6]), fun a => absurd a (by simp [upd, n7])⟩, trivial⟩
      · skip
        have n5 : L 5 = false := not_yet hL fun h => shut_at hs 4 3 (by kernel_rfl) (shut_at hs 5 4 (by kernel_rfl) (h))
        have n6 : L 6 = false := not_yet hL fun h => shut_at hs 4 3 (by kernel_rfl) (shut_at hs 5 4 (by kernel_rfl) (shut_at hs 6 5 (by kernel_rfl) (h)))
        have n7 : L 7 = false := not_yet hL fun h => shut_at hs 4 3 (by kernel_rfl) (shut_at hs 5 4 (by kernel_rfl) (shut_at hs 6 5 (by kernel_rfl) (shut_at hs 7 6 (by kernel_rfl) (h))))
        have n8 : L 8 = false := not_yet hL fun h => shut_at hs 8 3 (by kernel_rfl) (h)
        have e1 : (many gg_ L (VL z))[1]?.getD undef = .pointer (some ⟨B, 0, none⟩) := many_out3 hgN (HOK.out z) (by rw [HVL.out]; rfl) hF1
        refine opIn_run (v := .pointer (some ⟨B, 17, none⟩)) (w' := w') rfl rfl (fun c h => by cases h) (fun _ => trivial) ?_ ⟨z, by exact many_put3 (HOK.out _) (by rw [HVL.out]; rfl) hL, hcm, hph⟩
        go_simp
      · skip
        have y3 : L 3 = true := up_at hu 3 (by kernel_rfl)
        have n5 : L 5 = false := not_yet hL fun h => shut_at hs 5 4 (by kernel_rfl) (h)
        have n6 : L 6 = false := not_yet hL fun h => shut_at hs 5 4 (by kernel_rfl) (shut_at hs 6 5 (by kernel_rfl) (h))
        have n7 : L 7 = false := not_yet hL fun h => shut_at hs 5 4 (by kernel_rfl) (shut_at hs 6 5 (by kernel_rfl) (shut_at hs 7 6 (by kernel_rfl) (h)))
        have n8 : L 8 = false := not_yet hL fun h => shut_at hs 8 4 (by kernel_rfl) (h)
        have hcell : w'.cell? ⟨B, 17, none⟩ = some (.slice SA sn sc) := E17.out _ (TR12.out _ (hcm.1 n7))
        have e41 : (many gg_ L (VL z))[41]?.getD undef = .pointer (some ⟨B, 17, none⟩) := many_eval3 hgN (HOK.out z) (by rw [HVL.out]; rfl) y3
        refine opIn_run (v := .slice SA sn sc) (w' := w') rfl rfl (fun c h => by cases h) (fun _ => trivial) ?_ ⟨z, by exact many_put3 (HOK.out _) (by rw [HVL.out]; rfl) hL, hcm, hph⟩
        go_simp
      · skip
        have y2 : L 2 = true := up_at hu 2 (by kernel_rfl)
        have y4 : L 4 = true := up_at hu 4 (by kernel_rfl)
        have n6 : L 6 = false := not_yet hL fun h => shut_at hs 6 5 (by kernel_rfl) (h)
        have n7 : L 7 = false := not_yet hL fun h => shut_at hs 6 5 (by kernel_rfl) (shut_at hs 7 6 (by kernel_rfl) (h))
        have n8 : L 8 = false := not_yet hL fun h => shut_at hs 8 5 (by kernel_rfl) (h)
        have hbw : Below w.heap.size w w' := TW.out _ (TR12.out _ (hcm.1 n7))
        obtain ⟨A9, n9_, c9, w9, hr9, hy9, hg9⟩ := app_lst (c := sc) (hcm.2.2.1 hL y2) (fun e => absurd e HSA.out) ((HH.out.com.below hbw).more hbw.size) LN.out.2.2.2.2.1 (hcm.1 n7).size (by have := LN.out.2.2.2.1; rw [fldL_len]; simp only [List.length_cons, List.length_nil]; omega)
        have e40 : (many gg_ L (VL z))[40]?.getD undef = .slice z.2.1.1 z.2.1.2.1 z.2.1.2.2 := many_eval3 hgN (HOK.out z) (by rw [HVL.out]; rfl) y2
        have e42 : (many gg_ L (VL z))[42]?.getD undef = .slice SA sn sc := many_eval3 hgN (HOK.out z) (by rw [HVL.out]; rfl) y4
        refine opIn_run (v := (.slice A9 n9_ c9)) (w' := w9) rfl rfl (fun c h => by cases h) (fun _ => trivial) ?_ ⟨(z.1, z.2.1, (A9, n9_, c9), z.2.2.2), by rw [show many gg_ L (VL z) = many gg_ L (VL (z.1, z.2.1, (A9, n9_, c9), z.2.2.2)) from by rw [HVL.out]; simp only [many, y2, y4, n6, n7, n8, hL, cond_false, cond_true]]; exact many_put3 (HOK.out _) (by rw [HVL.out]; rfl) hL, ⟨fun _ => (hcm.2.2.1 hL y2).bel (hcm.1 n7) (hcm.1 n7).size hg9, fun a => absurd a (by simp [upd, y2]), fun a => absurd a (by simp [upd_self]), fun _ _ => hy9, fun _ a => absurd a (by simp [upd, n6]), fun a => absurd a (by simp [upd, n7])⟩, trivial⟩
        go_simp
      · skip
        have y2 : L 2 = true := shut_at hs 5 2 (by kernel_rfl) (up_at hu 5 (by kernel_rfl))
        have y5 : L 5 = true := up_at hu 5 (by kernel_rfl)
        have n7 : L 7 = false := not_yet hL fun h => shut_at hs 7 6 (by kernel_rfl) (h)
        have n8 : L 8 = false := not_yet hL fun h => shut_at hs 8 6 (by kernel_rfl) (h)
        have e43 : (many gg_ L (VL z))[43]?.getD undef = .slice z.2.2.1.1 z.2.2.1.2.1 z.2.2.1.2.2 := many_eval3 hgN (HOK.out z) (by rw [HVL.out]; rfl) y5
        refine opIn_call (f := 23) (args := #[.int .i64 65380, .slice z.2.2.1.1 z.2.2.1.2.1 z.2.2.1.2.2]) (w' := w') rfl rfl (fun c h => by cases h) (fun _ => trivial) rfl (by go_simp) ((callsIn_wide.2 (SG.out 65380 _ _ _ _ w' (TR12.out _ (hcm.1 n7)) ((hcm.2.2.2.1 hL y5).low (SZ.out _ HB12.out)) (by have := LN.out; rw [List.length_append, fldL_len]; simp only [List.length_cons, List.length_nil]; omega))).mono ?_)
        rintro e w2 ⟨A8, m8, c8, rfl, hy, hb⟩
        exact ⟨_, rfl, (z.1, z.2.1, z.2.2.1, (A8, m8, c8), z.2.2.2.2), by rw [show many gg_ L (VL z) = many gg_ L (VL (z.1, z.2.1, z.2.2.1, (A8, m8, c8), z.2.2.2.2)) from by rw [HVL.out]; simp only [many, y2, y5, n7, n8, hL, cond_false, cond_true]]; exact many_put3 (HOK.out _) (by rw [HVL.out]; rfl) hL, ⟨fun _ => (hcm.1 n7).trans (hb.mono (hcm.1 n7).size), fun a => absurd a (by simp [upd, y2]), fun a => absurd a (by simp [upd, y5]), fun a => absurd a (by simp [upd_self]), fun _ _ => hy, fun a => absurd a (by simp [upd, n7])⟩, trivial⟩
      · skip
        have y0 : L 0 = true := up_at hu 0 (by kernel_rfl)
        have y2 : L 2 = true := shut_at hs 5 2 (by kernel_rfl) (shut_at hs 6 5 (by kernel_rfl) (up_at hu 6 (by kernel_rfl)))
        have y5 : L 5 = true := shut_at hs 6 5 (by kernel_rfl) (up_at hu 6 (by kernel_rfl))
        have y6 : L 6 = true := up_at hu 6 (by kernel_rfl)
        have n8 : L 8 = false := not_yet hL fun h => shut_at hs 8 7 (by kernel_rfl) (h)
        obtain ⟨A9, n9_, c9, w9, hr9, hy9, hB9⟩ := AP.out w' _ _ _ _ _ _ _ _ (TR12.out _ (hcm.1 hL)) (HY12h.out.below (hcm.1 hL)) (hcm.2.2.2.2.1 hL y6) (by have := LN.out; rw [segL_len, List.length_append, fldL_len]; simp only [List.length_cons, List.length_nil]; omega)
        have e38 : (many gg_ L (VL z))[38]?.getD undef = .slice A12 n12 c12 := many_eval3 hgN (HOK.out z) (by rw [HVL.out]; rfl) y0
        have e44 : (many gg_ L (VL z))[44]?.getD undef = .slice z.2.2.2.1.1 z.2.2.2.1.2.1 z.2.2.2.1.2.2 := many_eval3 hgN (HOK.out z) (by rw [HVL.out]; rfl) y6
        refine opIn_run (v := (.slice A9 n9_ c9)) (w' := w9) rfl rfl (fun c h => by cases h) (fun _ => trivial) ?_ ⟨(z.1, z.2.1, z.2.2.1, z.2.2.2.1, (A9, n9_, c9)), by rw [show many gg_ L (VL z) = many gg_ L (VL (z.1, z.2.1, z.2.2.1, z.2.2.2.1, (A9, n9_, c9))) from by rw [HVL.out]; simp only [many, y0, y2, y5, y6, n8, hL, cond_false, cond_true]]; exact many_put3 (HOK.out _) (by rw [HVL.out]; rfl) hL, ⟨fun a => absurd a (by simp [upd_self]), fun a => absurd a (by simp [upd, y2]), fun a => absurd a (by simp [upd, y5]), fun a => absurd a (by simp [upd, y6]), fun a => absurd a (by simp [upd_self]), fun _ => ⟨hy9, hB9⟩⟩, trivial⟩
        go_simp
      · skip
        have y0 : L 0 = true := up_at hu 0 (by kernel_rfl)
        have y1 : L 1 = true := up_at hu 1 (by kernel_rfl)
        have y2 : L 2 = true := up_at hu 2 (by kernel_rfl)
        have y3 : L 3 = true := up_at hu 3 (by kernel_rfl)
        have y4 : L 4 = true := up_at hu 4 (by kernel_rfl)
        have y5 : L 5 = true := up_at hu 5 (by kernel_rfl)
        have y6 : L 6 = true := up_at hu 6 (by kernel_rfl)
        have y7 : L 7 = true := up_at hu 7 (by kernel_rfl)
        have e45 : (many gg_ L (VL z))[45]?.getD undef = .slice z.2.2.2.2.1 z.2.2.2.2.2.1 z.2.2.2.2.2.2 := many_eval3 hgN (HOK.out z) (by rw [HVL.out]; rfl) y7
        refine opIn_run (v := .slice z.2.2.2.2.1 z.2.2.2.2.2.1 z.2.2.2.2.2.2) (w' := w') rfl rfl (fun c h => by cases h) (fun _ => trivial) ?_ ⟨z, by exact many_put3 (HOK.out _) (by rw [HVL.out]; rfl) hL, hcm, hph⟩
        go_simp
    case fin =>
      intro L z w' hall hph
      obtain ⟨hcm, hph⟩ := hph
      have KZ := hcm.2.2.2.2.2 (hall 7 (by decide))
      obtain ⟨z1, z2, z3, z4, A13, n13, c13⟩ := z
      simp only at KZ
      have KZ := Lib.hid KZ
      clear hcm hph
      rw [HVL.out]
      dsimp only [manyL, List.set_cons_zero, List.set_cons_succ]
      clear hall HVL HOK HVI
      go_wp2
      go_ret
      exact ⟨_, rfl, by rw [TE.out, if_pos hs, HB1.out.2.2]; exact KZ.out.1.low (Nat.le_of_lt HB1.out.2.1), TW.out _ KZ.out.2⟩
  · have hsI : ¬ (0 : Int) < (sn : Int) := by omega
    go_wp2
    go_ret
    exact ⟨_, rfl, by rw [TE.out, if_neg hs, List.append_nil, HB1.out.2.2]; exact HY12.out.low (Nat.le_of_lt HB1.out.2.1), TW.out _ HB12.out⟩
end Go.Proofs.Ytlbfjaifemnkpaa
