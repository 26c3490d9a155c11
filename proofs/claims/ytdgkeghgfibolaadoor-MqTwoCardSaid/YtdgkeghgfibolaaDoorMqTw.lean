/- MqTwo, walked. -/
import Derived.Test.YtdgkeghgfibolaaDoorMqEi
set_option linter.unusedVariables false
set_option linter.unusedSimpArgs false
namespace Go.Proofs.YtdgkeghgfibolaaDoor
open Go.RowKit

theorem Lst.get {w : World} {B : Nat} {A : Option Addr} {xs : List Value} (h : Lst w B A xs) {b o : Nat} (hA : A = some ⟨b, o, none⟩) {i : Nat} {v : Value} (hi : xs[i]? = some v) : w.cell? ⟨b, o + i, none⟩ = some v := by
  obtain ⟨b', o', e, _, m⟩ := h i v hi
  rw [hA] at e
  injection e with e
  injection e with e1 e2
  subst e1 e2
  exact m
set_option maxRecDepth 100000 in
set_option maxHeartbeats 8000000 in
set_option pp.deepTerms true in
set_option pp.maxSteps 10000000 in
theorem walk_mqTwo (a0 : Option Addr) (len0 cap0 : Nat) (z0 : List Int) (a1 : Option Addr) (len1 cap1 : Nat) (z1 : List Int) (W : World) (hT : Tab W) (w0 : IsRow .i64 W a0 len0 cap0 z0) (w1 : IsRow .i64 W a1 len1 cap1 z1) : Calls Tryd.prog 10 #[.slice a0 len0 cap0, .slice a1 len1 cap1] W fun e w' => e = .returned (.bool true) ∧ Below W.heap.size W w' := by
  have KN := Lib.hid (known_any W)
  have FR := Lib.hid (fun u : World => fresh_any u)
  have RF := Lib.hid (fun u : World => rfresh_any u)
  have NW := Lib.hid (fun u : World => new_any u)
  have RN := Lib.hid (fun u : World => rnew_any u)
  have HT := Lib.hid hT
  have L0 := Lib.hid (lst_of_row w0)
  have hrl0 := row_len w0
  have HRL0 := Lib.hid hrl0.1
  have hlen0 : len0 ≤ maxLen := Nat.le_trans hrl0.2.1 hrl0.2.2.1
  unfold maxLen at hlen0
  have HWF0 := Lib.hid (fun v (hv : v ∈ z0.take len0) => bd_i64 (row_wf w0 v (List.mem_of_mem_take hv)))
  obtain ⟨l0, hl0⟩ : ∃ l : List Int, z0.take len0 = l := ⟨_, rfl⟩
  rw [hl0] at L0 HRL0 HWF0
  obtain ⟨n, hn0⟩ : ∃ n : Nat, min len0 400 = n := ⟨_, rfl⟩
  have hn20 : n ≤ 400 := by omega
  have HN0 := Lib.hid hn0
  clear hl0 w0 hrl0 hn0
  have L1 := Lib.hid (lst_of_row w1)
  have hrl1 := row_len w1
  have HRL1 := Lib.hid hrl1.1
  have hlen1 : len1 ≤ maxLen := Nat.le_trans hrl1.2.1 hrl1.2.2.1
  unfold maxLen at hlen1
  have HWF1 := Lib.hid (fun v (hv : v ∈ z1.take len1) => bd_i64 (row_wf w1 v (List.mem_of_mem_take hv)))
  obtain ⟨l1, hl1⟩ : ∃ l : List Int, z1.take len1 = l := ⟨_, rfl⟩
  rw [hl1] at L1 HRL1 HWF1
  obtain ⟨m, hn1⟩ : ∃ n : Nat, min len1 400 = n := ⟨_, rfl⟩
  have hn21 : m ≤ 400 := by omega
  have HN1 := Lib.hid hn1
  clear hl1 w1 hrl1 hn1
  clear hT
  go_enter Tryd.func10, Tryd.ntmps10
  go_wp2_with fail
  refine KN.out.mono ?_
  rintro x w1 ⟨rfl, b1⟩
  have B1 := Lib.hid b1
  have BT := Lib.hid (bits_any a0 len0 cap0 l0 W.heap.size w1 b1.size (L0.out.below b1) HRL0.out (by omega) HWF0.out)
  clear b1 KN
  go_wp2_with fail
  refine BT.out.mono ?_
  rintro x w2 ⟨VK, VB, ks, bs, rfl, hbk⟩
  rw [HN0.out] at hbk
  have B2 := Lib.hid (B1.out.trans (hbk.gr.bel.mono B1.out.size))
  obtain ⟨AK, cK, AB, cB, rfl, rfl, hlk, hlb⟩ := Grow.lst hbk
  have HK := Lib.hid (And.intro hlk hlb)
  have HKB := Lib.hid (And.intro (And.intro hbk.lk hbk.lb) (And.intro hbk.hk hbk.hb))
  have BT := Lib.hid (bits_any a1 len1 cap1 l1 W.heap.size w2 B2.out.size (L1.out.below B2.out) HRL1.out (by omega) HWF1.out)
  clear hbk hlk hlb B1
  go_wp2_with fail
  refine BT.out.mono ?_
  rintro x w3 ⟨VJ, VC, js, cs, rfl, hbj⟩
  rw [HN1.out] at hbj
  have b3 := hbj.gr.bel
  have B3 := Lib.hid (B2.out.trans (b3.mono B2.out.size))
  have HK3 := Lib.hid (And.intro ((HK.out.1.below b3).more b3.size) ((HK.out.2.below b3).more b3.size))
  obtain ⟨AJ, cJ, AC, cC, rfl, rfl, hlj, hlc⟩ := Grow.lst hbj
  have HJ3 := Lib.hid (And.intro hlj hlc)
  have HJB := Lib.hid (And.intro (And.intro hbj.lk hbj.lb) (And.intro hbj.hk hbj.hb))
  clear hbj hlj hlc BT B2 HK b3
  go_wp2_with fail
  refine (FR.out _).mono ?_
  rintro x w6 ⟨rfl, b6⟩
  have B6 := Lib.hid (B3.out.trans (b6.mono B3.out.size))
  have HK6 := Lib.hid (And.intro ((HK3.out.1.below b6).more b6.size) ((HK3.out.2.below b6).more b6.size))
  have HJ6 := Lib.hid (And.intro ((HJ3.out.1.below b6).more b6.size) ((HJ3.out.2.below b6).more b6.size))
  clear b6 B3 HK3 HJ3
  go_wp2_with fail
  refine (FR.out _).mono ?_
  rintro x w7 ⟨rfl, b7⟩
  have B7 := Lib.hid (B6.out.trans (b7.mono B6.out.size))
  have HK7 := Lib.hid (And.intro ((HK6.out.1.below b7).more b7.size) ((HK6.out.2.below b7).more b7.size))
  have HJ7 := Lib.hid (And.intro ((HJ6.out.1.below b7).more b7.size) ((HJ6.out.2.below b7).more b7.size))
  clear b7 B6 HK6 HJ6
  go_wp2_with (refine wpList_fresh2 (o := ⟨none, _, _, _, _, _⟩) (o2 := ⟨none, _, _, _, _, _⟩) rfl _ _ rfl rfl _ _ rfl rfl rfl rfl rfl rfl ?_)
  intro w8 hc1 hc2 b8
  have hq7 : W.heap.size ≤ w7.heap.size := B7.out.size
  have B8 := Lib.hid (B7.out.trans (b8.mono B7.out.size))
  have hpos0 := HT.out.pos
  have hpos : 0 < w7.heap.size := Nat.lt_of_lt_of_le HT.out.pos hq7
  have HS8 : Hid (Hs w7.heap.size w8 [.c w7.heap.size (cxF 19), .c (w7.heap.size + 1) (cxF 19)]) := Lib.hid ((Hs.nil w7.heap.size w7).add2 (t := .c w7.heap.size (cxF 19)) (s := .c (w7.heap.size + 1) (cxF 19)) (Nat.le_refl _) b8 ⟨rfl, hc1⟩ ⟨rfl, hc2⟩)
  have HK8 := Lib.hid (And.intro (HK7.out.1.below b8) (HK7.out.2.below b8))
  have HJ8 := Lib.hid (And.intro (HJ7.out.1.below b8) (HJ7.out.2.below b8))
  have O8 : Hid (Below w7.heap.size w8 w8) := Lib.hid (Below.refl _ _)
  have hs8 : w7.heap.size ≤ w8.heap.size := b8.size
  clear b8 hc1 hc2 B7 HK7 HJ7
  go_wp2_with fail
  refine (RF.out _).mono ?_
  rintro x w9 ⟨rfl, b9⟩
  have B9 := Lib.hid (B8.out.trans (b9.mono B8.out.size))
  have HS9 : Hid (Hs w7.heap.size w9 [.c w7.heap.size (cxF 19), .c (w7.heap.size + 1) (cxF 19)]) := Lib.hid (HS8.out.below b9)
  have O9 : Hid (Below w7.heap.size w8 w9) := Lib.hid (O8.out.trans (b9.mono hs8))
  have hs9 : w7.heap.size ≤ w9.heap.size := Nat.le_trans hs8 b9.size
  clear b9 B8 HS8 O8
  go_wp2_with fail
  refine (RF.out _).mono ?_
  rintro x wA ⟨rfl, bA⟩
  have BA := Lib.hid (B9.out.trans (bA.mono B9.out.size))
  have HSA : Hid (Hs w7.heap.size wA [.c w7.heap.size (cxF 19), .c (w7.heap.size + 1) (cxF 19)]) := Lib.hid (HS9.out.below bA)
  have OA : Hid (Below w7.heap.size w8 wA) := Lib.hid (O9.out.trans (bA.mono hs9))
  have hsA : w7.heap.size ≤ wA.heap.size := Nat.le_trans hs9 bA.size
  clear bA B9 HS9 O9
  go_wp2_with (refine wpList_freshR2 (o := ⟨none, _, _, _, _, _⟩) (o2 := ⟨none, _, _, _, _, _⟩) rfl _ _ rfl rfl _ _ rfl rfl rfl rfl rfl rfl ?_)
  intro wB hc1 hc2 bB
  have BB := Lib.hid (BA.out.trans (bB.mono BA.out.size))
  have HSB : Hid (Hs w7.heap.size wB [.c w7.heap.size (cxF 19), .c (w7.heap.size + 1) (cxF 19), .d wA.heap.size (cxF 19), .d (wA.heap.size + 1) (cxF 19)]) := Lib.hid (HSA.out.add2 (t := .d wA.heap.size (cxF 19)) (s := .d (wA.heap.size + 1) (cxF 19)) hsA bB ⟨rfl, hc1⟩ ⟨rfl, hc2⟩)
  have OB : Hid (Below w7.heap.size w8 wB) := Lib.hid (OA.out.trans (bB.mono hsA))
  have hsB : w7.heap.size ≤ wB.heap.size := Nat.le_trans hsA bB.size
  clear bB hc1 hc2 BA HSA OA
  go_wp2_with fail
  refine (NW.out _).mono ?_
  rintro x wC ⟨p1, rfl, he1, bC⟩
  have BC := Lib.hid (BB.out.trans (bC.mono BB.out.size))
  have HSC : Hid (Hs w7.heap.size wC [.c w7.heap.size (cxF 19), .c (w7.heap.size + 1) (cxF 19), .d wA.heap.size (cxF 19), .d (wA.heap.size + 1) (cxF 19), .m p1 mNew]) := Lib.hid (HSB.out.add hsB bC (t := .m p1 mNew) he1)
  have OC : Hid (Below w7.heap.size w8 wC) := Lib.hid (OB.out.trans (bC.mono hsB))
  have hsC : w7.heap.size ≤ wC.heap.size := Nat.le_trans hsB bC.size
  clear he1 bC BB HSB OB
  go_wp2_with fail
  refine (NW.out _).mono ?_
  rintro x wD ⟨p2, rfl, he1, bD⟩
  have BD := Lib.hid (BC.out.trans (bD.mono BC.out.size))
  have HSD : Hid (Hs w7.heap.size wD [.c w7.heap.size (cxF 19), .c (w7.heap.size + 1) (cxF 19), .d wA.heap.size (cxF 19), .d (wA.heap.size + 1) (cxF 19), .m p1 mNew, .m p2 mNew]) := Lib.hid (HSC.out.add hsC bD (t := .m p2 mNew) he1)
  have OD : Hid (Below w7.heap.size w8 wD) := Lib.hid (OC.out.trans (bD.mono hsC))
  have hsD : w7.heap.size ≤ wD.heap.size := Nat.le_trans hsC bD.size
  clear he1 bD BC HSC OC
  go_wp2_with fail
  refine (RN.out _).mono ?_
  rintro x wE ⟨p3, rfl, he1, bE⟩
  have BE := Lib.hid (BD.out.trans (bE.mono BD.out.size))
  have HSE : Hid (Hs w7.heap.size wE [.c w7.heap.size (cxF 19), .c (w7.heap.size + 1) (cxF 19), .d wA.heap.size (cxF 19), .d (wA.heap.size + 1) (cxF 19), .m p1 mNew, .m p2 mNew, .r p3 mNew]) := Lib.hid (HSD.out.add hsD bE (t := .r p3 mNew) he1)
  have OE : Hid (Below w7.heap.size w8 wE) := Lib.hid (OD.out.trans (bE.mono hsD))
  have hsE : w7.heap.size ≤ wE.heap.size := Nat.le_trans hsD bE.size
  clear he1 bE BD HSD OD
  go_wp2_with fail
  refine (RN.out _).mono ?_
  rintro x wF ⟨p4, rfl, he1, bF⟩
  have BF := Lib.hid (BE.out.trans (bF.mono BE.out.size))
  have HSF : Hid (Hs w7.heap.size wF [.c w7.heap.size (cxF 19), .c (w7.heap.size + 1) (cxF 19), .d wA.heap.size (cxF 19), .d (wA.heap.size + 1) (cxF 19), .m p1 mNew, .m p2 mNew, .r p3 mNew, .r p4 mNew]) := Lib.hid (HSE.out.add hsE bF (t := .r p4 mNew) he1)
  have OF : Hid (Below w7.heap.size w8 wF) := Lib.hid (OE.out.trans (bF.mono hsE))
  have hsF : w7.heap.size ≤ wF.heap.size := Nat.le_trans hsE bF.size
  clear he1 bF BE HSE OE
  have H0 := Lib.hid (And.intro f19_ok mNew_fine)
  go_wp2
  go_loopw [17] (fun i wr => ∃ (j : Nat) (e : E) (cx : List Nat) (f : E) (dx : List Nat), j ≤ 400 ∧ i = .int .i64 (j : Int) ∧ w7.heap.size ≤ wr.heap.size ∧ Below w7.heap.size w8 wr ∧ Below W.heap.size W wr ∧ Hs w7.heap.size wr [.c w7.heap.size cx, .c (w7.heap.size + 1) dx, .d wA.heap.size cx, .d (wA.heap.size + 1) dx, .m p1 e, .m p2 f, .r p3 e, .r p4 f] ∧ COk cx ∧ Fine e ∧ e.pre.length ≤ 16 * j ∧ COk dx ∧ Fine f ∧ f.pre.length ≤ 16 * j) (fun i _ => 401 - (intOf i).toNat)
  case atStart => exact ⟨0, mNew, cxF 19, mNew, cxF 19, by omega, rfl, hsF, OF.out, BF.out, HSF.out, H0.out.1, H0.out.2, by decide, H0.out.1, H0.out.2, by decide⟩
  case round =>
    obtain ⟨j, e, cx, f, dx, hj, rfl, hsz, hO, hB, hS, hf⟩ := hrel
    have HS := Lib.hid hS
    have HO := Lib.hid hO
    have HB := Lib.hid hB
    have HF := Lib.hid hf
    have h4 : (0 : Int) ≤ (j : Int) := by omega
    clear hS H0 hO OF hB BF HSF hf
    by_cases ht1 : j < n
    · by_cases ht2 : j < m
      · skip
        have HLT := Lib.hid ht1
        have hlt := ht1
        clear ht1
        obtain ⟨k, hk1, hk2⟩ := nat_of HKB.out.2.1 (j := j) (by rw [HKB.out.1.1]; exact hlt)
        obtain ⟨b, hb1, hb2⟩ := nat_of (n := 2) (fun x hx => by have := HKB.out.2.2 x hx; omega) (j := j) (by rw [HKB.out.1.2]; exact hlt)
        have gk : (ks.map (Value.int .i64))[j]? = some (.int .i64 (k : Int)) := by rw [List.getElem?_map, hk1]; rfl
        have gb : (bs.map (Value.int .i64))[j]? = some (.int .i64 (b : Int)) := by rw [List.getElem?_map, hb1]; rfl
        obtain ⟨bk, ok, rfl, hbk, mk⟩ := (HK8.out.1.below HO.out) j _ gk
        obtain ⟨bb, ob, rfl, hbb, mb⟩ := (HK8.out.2.below HO.out) j _ gb
        have HG := Lib.hid (And.intro gk gb)
        have it1 : (j : Int) < (n : Int) := by omega
        have EN := Lib.hid (HS.out.drew.enci (i := 4) (j := 0) (p := p1) (q := w7.heap.size) (b := b) hsz hpos (HT.out.below hpos0 (below_drewN HB.out 1)) rfl rfl (by omega) HF.out.1 HF.out.2.1 (by omega) (by have := HF.out.2.2.1; omega) (k : Int))
        clear hk1 hb1 gk gb hlt
        go_wp2
        refine wp_region_still_tail 9 (by kernel_rfl) (by kernel_rfl) ?_
        simp only [List.take_succ_cons, List.take_zero, List.drop_succ_cons, List.drop_zero]
        repeat still_step
        refine wpStill_nil ?_
        change wpList _ _ _ _ _ (World.drew _)
        go_wp2_with fail
        refine EN.out.mono ?_
        rintro x v1 ⟨rfl, hs1, bv1⟩
        have HS1 : Hid (Hs w7.heap.size v1 [.c w7.heap.size (sCi e cx (k : Int) b), .c (w7.heap.size + 1) dx, .d wA.heap.size cx, .d (wA.heap.size + 1) dx, .m p1 (sEi e cx (k : Int) b), .m p2 f, .r p3 e, .r p4 f]) := Lib.hid hs1
        have HO1 : Hid (Below w7.heap.size w8 v1) := Lib.hid ((below_drewN HO.out 1).trans bv1)
        have HB1 : Hid (Below W.heap.size W v1) := Lib.hid ((below_drewN HB.out 1).trans (bv1.mono hq7))
        have hsz1 : w7.heap.size ≤ v1.heap.size := Nat.le_trans hsz bv1.size
        clear hs1 bv1 EN HS HO HB mk mb hsz
        have mk := (HK8.out.1.below HO1.out).get rfl HG.out.1
        have mb := (HK8.out.2.below HO1.out).get rfl HG.out.2
        have ER := Lib.hid (HS1.out.drew.renci (i := 6) (j := 2) (p := p3) (q := wA.heap.size) (b := b) hsz1 rfl rfl (by omega) HF.out.1 HF.out.2.1 (by omega) (by have := HF.out.2.2.1; omega) (k : Int))
        go_wp2
        refine wp_region_still_tail 9 (by kernel_rfl) (by kernel_rfl) ?_
        simp only [List.take_succ_cons, List.take_zero, List.drop_succ_cons, List.drop_zero]
        repeat still_step
        refine wpStill_nil ?_
        change wpList _ _ _ _ _ (World.drew _)
        go_wp2_with fail
        refine ER.out.mono ?_
        rintro x v2 ⟨rfl, hs2, bv2⟩
        have HS2 : Hid (Hs w7.heap.size v2 [.c w7.heap.size (sCi e cx (k : Int) b), .c (w7.heap.size + 1) dx, .d wA.heap.size (sCi e cx (k : Int) b), .d (wA.heap.size + 1) dx, .m p1 (sEi e cx (k : Int) b), .m p2 f, .r p3 (sEi e cx (k : Int) b), .r p4 f]) := Lib.hid hs2
        have HO2 : Hid (Below w7.heap.size w8 v2) := Lib.hid ((below_drewN HO1.out 1).trans bv2)
        have HB2 : Hid (Below W.heap.size W v2) := Lib.hid ((below_drewN HB1.out 1).trans (bv2.mono hq7))
        have hszA : w7.heap.size ≤ v2.heap.size := Nat.le_trans hsz1 bv2.size
        clear hs2 bv2 ER HS1 HO1 HB1 mk mb
        have HN : ∃ e cx, Hs w7.heap.size v2 [.c w7.heap.size cx, .c (w7.heap.size + 1) dx, .d wA.heap.size cx, .d (wA.heap.size + 1) dx, .m p1 e, .m p2 f, .r p3 e, .r p4 f] ∧ COk cx ∧ Fine e ∧ e.pre.length ≤ 16 * (j + 1) ∧ COk dx ∧ Fine f ∧ f.pre.length ≤ 16 * j := ⟨_, _, HS2.out, sCi_ok HF.out.1 _ _, sEi_fine HF.out.2.1 HF.out.1 _ _, by have := sEi_len e cx (k : Int) b; have := HF.out.2.2.1; omega, HF.out.2.2.2.1, HF.out.2.2.2.2.1, by have := HF.out.2.2.2.2.2; omega⟩
        clear HS2 HF HG HLT
        obtain ⟨e, cx, hS, hf⟩ := HN
        have HS := Lib.hid hS
        have HF := Lib.hid hf
        have HO := HO2
        have HB := HB2
        have hsz := hszA
        clear HO2 HB2 hszA hS hf
        have HLT := Lib.hid ht2
        have hlt := ht2
        clear ht2
        obtain ⟨k, hk1, hk2⟩ := nat_of HJB.out.2.1 (j := j) (by rw [HJB.out.1.1]; exact hlt)
        obtain ⟨b, hb1, hb2⟩ := nat_of (n := 2) (fun x hx => by have := HJB.out.2.2 x hx; omega) (j := j) (by rw [HJB.out.1.2]; exact hlt)
        have gk : (js.map (Value.int .i64))[j]? = some (.int .i64 (k : Int)) := by rw [List.getElem?_map, hk1]; rfl
        have gb : (cs.map (Value.int .i64))[j]? = some (.int .i64 (b : Int)) := by rw [List.getElem?_map, hb1]; rfl
        obtain ⟨bk, ok, rfl, hbk, mk⟩ := (HJ8.out.1.below HO.out) j _ gk
        obtain ⟨bb, ob, rfl, hbb, mb⟩ := (HJ8.out.2.below HO.out) j _ gb
        have HG := Lib.hid (And.intro gk gb)
        have it2 : (j : Int) < (m : Int) := by omega
        have EN := Lib.hid (HS.out.drew.enci (i := 5) (j := 1) (p := p2) (q := (w7.heap.size + 1)) (b := b) hsz hpos (HT.out.below hpos0 (below_drewN HB.out 1)) rfl rfl (by omega) HF.out.2.2.2.1 HF.out.2.2.2.2.1 (by omega) (by have := HF.out.2.2.2.2.2; omega) (k : Int))
        clear hk1 hb1 gk gb hlt
        go_wp2
        refine wp_region_still_tail 9 (by kernel_rfl) (by kernel_rfl) ?_
        simp only [List.take_succ_cons, List.take_zero, List.drop_succ_cons, List.drop_zero]
        repeat still_step
        refine wpStill_nil ?_
        change wpList _ _ _ _ _ (World.drew _)
        go_wp2_with fail
        refine EN.out.mono ?_
        rintro x v1 ⟨rfl, hs1, bv1⟩
        have HS1 : Hid (Hs w7.heap.size v1 [.c w7.heap.size cx, .c (w7.heap.size + 1) (sCi f dx (k : Int) b), .d wA.heap.size cx, .d (wA.heap.size + 1) dx, .m p1 e, .m p2 (sEi f dx (k : Int) b), .r p3 e, .r p4 f]) := Lib.hid hs1
        have HO1 : Hid (Below w7.heap.size w8 v1) := Lib.hid ((below_drewN HO.out 1).trans bv1)
        have HB1 : Hid (Below W.heap.size W v1) := Lib.hid ((below_drewN HB.out 1).trans (bv1.mono hq7))
        have hsz1 : w7.heap.size ≤ v1.heap.size := Nat.le_trans hsz bv1.size
        clear hs1 bv1 EN HS HO HB mk mb hsz
        have mk := (HJ8.out.1.below HO1.out).get rfl HG.out.1
        have mb := (HJ8.out.2.below HO1.out).get rfl HG.out.2
        have ER := Lib.hid (HS1.out.drew.renci (i := 7) (j := 3) (p := p4) (q := (wA.heap.size + 1)) (b := b) hsz1 rfl rfl (by omega) HF.out.2.2.2.1 HF.out.2.2.2.2.1 (by omega) (by have := HF.out.2.2.2.2.2; omega) (k : Int))
        go_wp2
        refine wp_region_still_tail 9 (by kernel_rfl) (by kernel_rfl) ?_
        simp only [List.take_succ_cons, List.take_zero, List.drop_succ_cons, List.drop_zero]
        repeat still_step
        refine wpStill_nil ?_
        change wpList _ _ _ _ _ (World.drew _)
        go_wp2_with fail
        refine ER.out.mono ?_
        rintro x v2 ⟨rfl, hs2, bv2⟩
        have HS2 : Hid (Hs w7.heap.size v2 [.c w7.heap.size cx, .c (w7.heap.size + 1) (sCi f dx (k : Int) b), .d wA.heap.size cx, .d (wA.heap.size + 1) (sCi f dx (k : Int) b), .m p1 e, .m p2 (sEi f dx (k : Int) b), .r p3 e, .r p4 (sEi f dx (k : Int) b)]) := Lib.hid hs2
        have HO2 : Hid (Below w7.heap.size w8 v2) := Lib.hid ((below_drewN HO1.out 1).trans bv2)
        have HB2 : Hid (Below W.heap.size W v2) := Lib.hid ((below_drewN HB1.out 1).trans (bv2.mono hq7))
        have hszA : w7.heap.size ≤ v2.heap.size := Nat.le_trans hsz1 bv2.size
        clear hs2 bv2 ER HS1 HO1 HB1 mk mb
        have HN : ∃ f dx, Hs w7.heap.size v2 [.c w7.heap.size cx, .c (w7.heap.size + 1) dx, .d wA.heap.size cx, .d (wA.heap.size + 1) dx, .m p1 e, .m p2 f, .r p3 e, .r p4 f] ∧ COk cx ∧ Fine e ∧ e.pre.length ≤ 16 * (j + 1) ∧ COk dx ∧ Fine f ∧ f.pre.length ≤ 16 * (j + 1) := ⟨_, _, HS2.out, HF.out.1, HF.out.2.1, by have := HF.out.2.2.1; omega, sCi_ok HF.out.2.2.2.1 _ _, sEi_fine HF.out.2.2.2.2.1 HF.out.2.2.2.1 _ _, by have := sEi_len f dx (k : Int) b; have := HF.out.2.2.2.2.2; omega⟩
        clear HS2 HF HG HLT
        obtain ⟨f, dx, hS, hf⟩ := HN
        have HS := Lib.hid hS
        have HF := Lib.hid hf
        have HO := HO2
        have HB := HB2
        have hsz := hszA
        clear HO2 HB2 hszA hS hf
        go_wp2
        exact ⟨⟨j + 1, e, cx, f, dx, by omega, by go_num, hsz, HO.out, HB.out, HS.out, HF.out.1, HF.out.2.1, by have := HF.out.2.2.1; omega, HF.out.2.2.2.1, HF.out.2.2.2.2.1, by have := HF.out.2.2.2.2.2; omega⟩, by simp [intOf]; omega⟩
      · have i2 : ¬ (j : Int) < (m : Int) := by omega
        clear ht2
        have HLT := Lib.hid ht1
        have hlt := ht1
        clear ht1
        obtain ⟨k, hk1, hk2⟩ := nat_of HKB.out.2.1 (j := j) (by rw [HKB.out.1.1]; exact hlt)
        obtain ⟨b, hb1, hb2⟩ := nat_of (n := 2) (fun x hx => by have := HKB.out.2.2 x hx; omega) (j := j) (by rw [HKB.out.1.2]; exact hlt)
        have gk : (ks.map (Value.int .i64))[j]? = some (.int .i64 (k : Int)) := by rw [List.getElem?_map, hk1]; rfl
        have gb : (bs.map (Value.int .i64))[j]? = some (.int .i64 (b : Int)) := by rw [List.getElem?_map, hb1]; rfl
        obtain ⟨bk, ok, rfl, hbk, mk⟩ := (HK8.out.1.below HO.out) j _ gk
        obtain ⟨bb, ob, rfl, hbb, mb⟩ := (HK8.out.2.below HO.out) j _ gb
        have HG := Lib.hid (And.intro gk gb)
        have it1 : (j : Int) < (n : Int) := by omega
        have EN := Lib.hid (HS.out.drew.enci (i := 4) (j := 0) (p := p1) (q := w7.heap.size) (b := b) hsz hpos (HT.out.below hpos0 (below_drewN HB.out 1)) rfl rfl (by omega) HF.out.1 HF.out.2.1 (by omega) (by have := HF.out.2.2.1; omega) (k : Int))
        clear hk1 hb1 gk gb hlt
        go_wp2
        refine wp_region_still_tail 9 (by kernel_rfl) (by kernel_rfl) ?_
        simp only [List.take_succ_cons, List.take_zero, List.drop_succ_cons, List.drop_zero]
        repeat still_step
        refine wpStill_nil ?_
        change wpList _ _ _ _ _ (World.drew _)
        go_wp2_with fail
        refine EN.out.mono ?_
        rintro x v1 ⟨rfl, hs1, bv1⟩
        have HS1 : Hid (Hs w7.heap.size v1 [.c w7.heap.size (sCi e cx (k : Int) b), .c (w7.heap.size + 1) dx, .d wA.heap.size cx, .d (wA.heap.size + 1) dx, .m p1 (sEi e cx (k : Int) b), .m p2 f, .r p3 e, .r p4 f]) := Lib.hid hs1
        have HO1 : Hid (Below w7.heap.size w8 v1) := Lib.hid ((below_drewN HO.out 1).trans bv1)
        have HB1 : Hid (Below W.heap.size W v1) := Lib.hid ((below_drewN HB.out 1).trans (bv1.mono hq7))
        have hsz1 : w7.heap.size ≤ v1.heap.size := Nat.le_trans hsz bv1.size
        clear hs1 bv1 EN HS HO HB mk mb hsz
        have mk := (HK8.out.1.below HO1.out).get rfl HG.out.1
        have mb := (HK8.out.2.below HO1.out).get rfl HG.out.2
        have ER := Lib.hid (HS1.out.drew.renci (i := 6) (j := 2) (p := p3) (q := wA.heap.size) (b := b) hsz1 rfl rfl (by omega) HF.out.1 HF.out.2.1 (by omega) (by have := HF.out.2.2.1; omega) (k : Int))
        go_wp2
        refine wp_region_still_tail 9 (by kernel_rfl) (by kernel_rfl) ?_
        simp only [List.take_succ_cons, List.take_zero, List.drop_succ_cons, List.drop_zero]
        repeat still_step
        refine wpStill_nil ?_
        change wpList _ _ _ _ _ (World.drew _)
        go_wp2_with fail
        refine ER.out.mono ?_
        rintro x v2 ⟨rfl, hs2, bv2⟩
        have HS2 : Hid (Hs w7.heap.size v2 [.c w7.heap.size (sCi e cx (k : Int) b), .c (w7.heap.size + 1) dx, .d wA.heap.size (sCi e cx (k : Int) b), .d (wA.heap.size + 1) dx, .m p1 (sEi e cx (k : Int) b), .m p2 f, .r p3 (sEi e cx (k : Int) b), .r p4 f]) := Lib.hid hs2
        have HO2 : Hid (Below w7.heap.size w8 v2) := Lib.hid ((below_drewN HO1.out 1).trans bv2)
        have HB2 : Hid (Below W.heap.size W v2) := Lib.hid ((below_drewN HB1.out 1).trans (bv2.mono hq7))
        have hszA : w7.heap.size ≤ v2.heap.size := Nat.le_trans hsz1 bv2.size
        clear hs2 bv2 ER HS1 HO1 HB1 mk mb
        have HN : ∃ e cx, Hs w7.heap.size v2 [.c w7.heap.size cx, .c (w7.heap.size + 1) dx, .d wA.heap.size cx, .d (wA.heap.size + 1) dx, .m p1 e, .m p2 f, .r p3 e, .r p4 f] ∧ COk cx ∧ Fine e ∧ e.pre.length ≤ 16 * (j + 1) ∧ COk dx ∧ Fine f ∧ f.pre.length ≤ 16 * j := ⟨_, _, HS2.out, sCi_ok HF.out.1 _ _, sEi_fine HF.out.2.1 HF.out.1 _ _, by have := sEi_len e cx (k : Int) b; have := HF.out.2.2.1; omega, HF.out.2.2.2.1, HF.out.2.2.2.2.1, by have := HF.out.2.2.2.2.2; omega⟩
        clear HS2 HF HG HLT
        obtain ⟨e, cx, hS, hf⟩ := HN
        have HS := Lib.hid hS
        have HF := Lib.hid hf
        have HO := HO2
        have HB := HB2
        have hsz := hszA
        clear HO2 HB2 hszA hS hf
        go_wp2
        exact ⟨⟨j + 1, e, cx, f, dx, by omega, by go_num, hsz, HO.out, HB.out, HS.out, HF.out.1, HF.out.2.1, by have := HF.out.2.2.1; omega, HF.out.2.2.2.1, HF.out.2.2.2.2.1, by have := HF.out.2.2.2.2.2; omega⟩, by simp [intOf]; omega⟩
    · have i1 : ¬ (j : Int) < (n : Int) := by omega
      by_cases ht2 : j < m
      · skip
        have HLT := Lib.hid ht2
        have hlt := ht2
        clear ht2
        obtain ⟨k, hk1, hk2⟩ := nat_of HJB.out.2.1 (j := j) (by rw [HJB.out.1.1]; exact hlt)
        obtain ⟨b, hb1, hb2⟩ := nat_of (n := 2) (fun x hx => by have := HJB.out.2.2 x hx; omega) (j := j) (by rw [HJB.out.1.2]; exact hlt)
        have gk : (js.map (Value.int .i64))[j]? = some (.int .i64 (k : Int)) := by rw [List.getElem?_map, hk1]; rfl
        have gb : (cs.map (Value.int .i64))[j]? = some (.int .i64 (b : Int)) := by rw [List.getElem?_map, hb1]; rfl
        obtain ⟨bk, ok, rfl, hbk, mk⟩ := (HJ8.out.1.below HO.out) j _ gk
        obtain ⟨bb, ob, rfl, hbb, mb⟩ := (HJ8.out.2.below HO.out) j _ gb
        have HG := Lib.hid (And.intro gk gb)
        have it2 : (j : Int) < (m : Int) := by omega
        have EN := Lib.hid (HS.out.drew.enci (i := 5) (j := 1) (p := p2) (q := (w7.heap.size + 1)) (b := b) hsz hpos (HT.out.below hpos0 (below_drewN HB.out 1)) rfl rfl (by omega) HF.out.2.2.2.1 HF.out.2.2.2.2.1 (by omega) (by have := HF.out.2.2.2.2.2; omega) (k : Int))
        clear hk1 hb1 gk gb hlt
        go_wp2
        refine wp_region_still_tail 9 (by kernel_rfl) (by kernel_rfl) ?_
        simp only [List.take_succ_cons, List.take_zero, List.drop_succ_cons, List.drop_zero]
        repeat still_step
        refine wpStill_nil ?_
        change wpList _ _ _ _ _ (World.drew _)
        go_wp2_with fail
        refine EN.out.mono ?_
        rintro x v1 ⟨rfl, hs1, bv1⟩
        have HS1 : Hid (Hs w7.heap.size v1 [.c w7.heap.size cx, .c (w7.heap.size + 1) (sCi f dx (k : Int) b), .d wA.heap.size cx, .d (wA.heap.size + 1) dx, .m p1 e, .m p2 (sEi f dx (k : Int) b), .r p3 e, .r p4 f]) := Lib.hid hs1
        have HO1 : Hid (Below w7.heap.size w8 v1) := Lib.hid ((below_drewN HO.out 1).trans bv1)
        have HB1 : Hid (Below W.heap.size W v1) := Lib.hid ((below_drewN HB.out 1).trans (bv1.mono hq7))
        have hsz1 : w7.heap.size ≤ v1.heap.size := Nat.le_trans hsz bv1.size
        clear hs1 bv1 EN HS HO HB mk mb hsz
        have mk := (HJ8.out.1.below HO1.out).get rfl HG.out.1
        have mb := (HJ8.out.2.below HO1.out).get rfl HG.out.2
        have ER := Lib.hid (HS1.out.drew.renci (i := 7) (j := 3) (p := p4) (q := (wA.heap.size + 1)) (b := b) hsz1 rfl rfl (by omega) HF.out.2.2.2.1 HF.out.2.2.2.2.1 (by omega) (by have := HF.out.2.2.2.2.2; omega) (k : Int))
        go_wp2
        refine wp_region_still_tail 9 (by kernel_rfl) (by kernel_rfl) ?_
        simp only [List.take_succ_cons, List.take_zero, List.drop_succ_cons, List.drop_zero]
        repeat still_step
        refine wpStill_nil ?_
        change wpList _ _ _ _ _ (World.drew _)
        go_wp2_with fail
        refine ER.out.mono ?_
        rintro x v2 ⟨rfl, hs2, bv2⟩
        have HS2 : Hid (Hs w7.heap.size v2 [.c w7.heap.size cx, .c (w7.heap.size + 1) (sCi f dx (k : Int) b), .d wA.heap.size cx, .d (wA.heap.size + 1) (sCi f dx (k : Int) b), .m p1 e, .m p2 (sEi f dx (k : Int) b), .r p3 e, .r p4 (sEi f dx (k : Int) b)]) := Lib.hid hs2
        have HO2 : Hid (Below w7.heap.size w8 v2) := Lib.hid ((below_drewN HO1.out 1).trans bv2)
        have HB2 : Hid (Below W.heap.size W v2) := Lib.hid ((below_drewN HB1.out 1).trans (bv2.mono hq7))
        have hszA : w7.heap.size ≤ v2.heap.size := Nat.le_trans hsz1 bv2.size
        clear hs2 bv2 ER HS1 HO1 HB1 mk mb
        have HN : ∃ f dx, Hs w7.heap.size v2 [.c w7.heap.size cx, .c (w7.heap.size + 1) dx, .d wA.heap.size cx, .d (wA.heap.size + 1) dx, .m p1 e, .m p2 f, .r p3 e, .r p4 f] ∧ COk cx ∧ Fine e ∧ e.pre.length ≤ 16 * (j + 1) ∧ COk dx ∧ Fine f ∧ f.pre.length ≤ 16 * (j + 1) := ⟨_, _, HS2.out, HF.out.1, HF.out.2.1, by have := HF.out.2.2.1; omega, sCi_ok HF.out.2.2.2.1 _ _, sEi_fine HF.out.2.2.2.2.1 HF.out.2.2.2.1 _ _, by have := sEi_len f dx (k : Int) b; have := HF.out.2.2.2.2.2; omega⟩
        clear HS2 HF HG HLT
        obtain ⟨f, dx, hS, hf⟩ := HN
        have HS := Lib.hid hS
        have HF := Lib.hid hf
        have HO := HO2
        have HB := HB2
        have hsz := hszA
        clear HO2 HB2 hszA hS hf
        go_wp2
        exact ⟨⟨j + 1, e, cx, f, dx, by omega, by go_num, hsz, HO.out, HB.out, HS.out, HF.out.1, HF.out.2.1, by have := HF.out.2.2.1; omega, HF.out.2.2.2.1, HF.out.2.2.2.2.1, by have := HF.out.2.2.2.2.2; omega⟩, by simp [intOf]; omega⟩
      · have i2 : ¬ (j : Int) < (m : Int) := by omega
        have hj1 : j ≤ 400 := by omega
        clear ht1 ht2
        -- FACTS
        have HS0 : Hid (Ph w7.heap.size W [.c w7.heap.size cx, .c (w7.heap.size + 1) dx, .d wA.heap.size cx, .d (wA.heap.size + 1) dx, .m p1 e, .m p2 f, .r p3 e, .r p4 f] wr.drew) := Lib.hid ⟨HS.out.drew, below_drewN HB.out 1, hsz⟩
        have F1 : Hid (∀ u, Ph w7.heap.size W [.c w7.heap.size cx, .c (w7.heap.size + 1) dx, .d wA.heap.size cx, .d (wA.heap.size + 1) dx, .m p1 e, .m p2 f, .r p3 e, .r p4 f] u → Calls Tryd.prog 24 #[.pointer (some ⟨p1, 0, none⟩)] u fun x w' => ∃ V, x = .returned V ∧ Ph w7.heap.size W [.c w7.heap.size cx, .c (w7.heap.size + 1) dx, .d wA.heap.size cx, .d (wA.heap.size + 1) dx, .b V (mCode e), .m p2 f, .r p3 e, .r p4 f] w') := Lib.hid fun u h => h.flush (i := 4) hq7 rfl HF.out.2.1 (by have := HF.out.2.2.1; omega)
        have F2 : Hid (∀ V1 u, Ph w7.heap.size W [.c w7.heap.size cx, .c (w7.heap.size + 1) dx, .d wA.heap.size cx, .d (wA.heap.size + 1) dx, .b V1 (mCode e), .m p2 f, .r p3 e, .r p4 f] u → Calls Tryd.prog 25 #[.pointer (some ⟨p3, 0, none⟩)] u fun x w' => ∃ V, x = .returned V ∧ Ph w7.heap.size W [.c w7.heap.size cx, .c (w7.heap.size + 1) dx, .d wA.heap.size cx, .d (wA.heap.size + 1) dx, .b V1 (mCode e), .m p2 f, .b V (mCode e), .r p4 f] w') := Lib.hid fun V1 u h => h.rflush (i := 6) hq7 rfl HF.out.2.1 (by have := HF.out.2.2.1; omega)
        have F3 : Hid (∀ V1 V2 u, Ph w7.heap.size W [.c w7.heap.size cx, .c (w7.heap.size + 1) dx, .d wA.heap.size cx, .d (wA.heap.size + 1) dx, .b V1 (mCode e), .m p2 f, .b V2 (mCode e), .r p4 f] u → Calls Tryd.prog 24 #[.pointer (some ⟨p2, 0, none⟩)] u fun x w' => ∃ V, x = .returned V ∧ Ph w7.heap.size W [.c w7.heap.size cx, .c (w7.heap.size + 1) dx, .d wA.heap.size cx, .d (wA.heap.size + 1) dx, .b V1 (mCode e), .b V (mCode f), .b V2 (mCode e), .r p4 f] w') := Lib.hid fun V1 V2 u h => h.flush (i := 5) hq7 rfl HF.out.2.2.2.2.1 (by have := HF.out.2.2.2.2.2; omega)
        have F4 : Hid (∀ V1 V2 V3 u, Ph w7.heap.size W [.c w7.heap.size cx, .c (w7.heap.size + 1) dx, .d wA.heap.size cx, .d (wA.heap.size + 1) dx, .b V1 (mCode e), .b V3 (mCode f), .b V2 (mCode e), .r p4 f] u → Calls Tryd.prog 25 #[.pointer (some ⟨p4, 0, none⟩)] u fun x w' => ∃ V, x = .returned V ∧ Ph w7.heap.size W [.c w7.heap.size cx, .c (w7.heap.size + 1) dx, .d wA.heap.size cx, .d (wA.heap.size + 1) dx, .b V1 (mCode e), .b V3 (mCode f), .b V2 (mCode e), .b V (mCode f)] w') := Lib.hid fun V1 V2 V3 u h => h.rflush (i := 7) hq7 rfl HF.out.2.2.2.2.1 (by have := HF.out.2.2.2.2.2; omega)
        clear HS HB HO HF
        go_wp2
        -- REGION
        refine (wpIn_wide (n := 9)).1 (regionIn_inv (Inv := fun L a' w' => ∃ (V1 : Value) (V2 : Value) (V3 : Value) (V4 : Value), a' = { tmps := #[.slice a0 len0 cap0, .slice a1 len1 cap1, undef, undef, bif L 16 then .bool true else .bool false, .slice AK n cK, .slice AB n cB, .slice AJ m cJ, .slice AC m cC, .pointer (some ⟨w7.heap.size, 0, none⟩), .pointer (some ⟨w7.heap.size + 1, 0, none⟩), .pointer (some ⟨wA.heap.size, 0, none⟩), .pointer (some ⟨wA.heap.size + 1, 0, none⟩), .pointer (some ⟨p1, 0, none⟩), .pointer (some ⟨p2, 0, none⟩), .pointer (some ⟨p3, 0, none⟩), .pointer (some ⟨p4, 0, none⟩), .int .i64 (j : Int), .bool true, .bool false, .tuple #[.slice AK n cK, .slice AB n cB], .slice a0 len0 cap0, .tuple #[.slice AK n cK, .slice AB n cB], .slice AK n cK, .slice AB n cB, .tuple #[.slice AJ m cJ, .slice AC m cC], .slice a1 len1 cap1, .tuple #[.slice AJ m cJ, .slice AC m cC], .slice AJ m cJ, .slice AC m cC, .agg (cxA (cxF 19)), .agg (cxA (cxF 19)), .agg (cxA (cxF 19)), .agg (cxA (cxF 19)), .pointer (some ⟨p1, 0, none⟩), .pointer (some ⟨p2, 0, none⟩), .pointer (some ⟨p3, 0, none⟩), .pointer (some ⟨p4, 0, none⟩), .int .i64 (j : Int), .slice AK n cK, .int .i64 (n : Int), .bool false, .bool false, .int .i64 (j : Int), .slice AJ m cJ, .int .i64 (m : Int), .bool false, .bool false, u48, u49, u50, u51, u52, u53, u54, u55, u56, u57, u58, u59, u60, u61, u62, u63, u64, u65, u66, u67, u68, u69, u70, u71, u72, u73, u74, u75, u76, u77, u78, u79, u80, u81, u82, u83, u84, u85, u86, u87, u88, u89, u90, u91, u92, u93, u94, u95, u96, u97, bif L 0 then .pointer (some ⟨p1, 0, none⟩) else undef, bif L 1 then V1 else undef, bif L 2 then .string (strN (mCode e)) else undef, bif L 3 then .pointer (some ⟨p3, 0, none⟩) else undef, bif L 4 then V2 else undef, bif L 5 then .string (strN (mCode e)) else undef, bif L 6 then .bool true else undef, bif L 7 then .bool true else undef, bif L 8 then .pointer (some ⟨p2, 0, none⟩) else undef, bif L 9 then V3 else undef, bif L 10 then .string (strN (mCode f)) else undef, bif L 11 then .pointer (some ⟨p4, 0, none⟩) else undef, bif L 12 then V4 else undef, bif L 13 then .string (strN (mCode f)) else undef, bif L 14 then .bool true else undef, bif L 15 then .bool true else undef], defers := [] } ∧ (True) ∧ (bif L 12 then (Ph w7.heap.size W [.c w7.heap.size cx, .c (w7.heap.size + 1) dx, .d wA.heap.size cx, .d (wA.heap.size + 1) dx, .b V1 (mCode e), .b V3 (mCode f), .b V2 (mCode e), .b V4 (mCode f)] w') else (bif L 9 then (Ph w7.heap.size W [.c w7.heap.size cx, .c (w7.heap.size + 1) dx, .d wA.heap.size cx, .d (wA.heap.size + 1) dx, .b V1 (mCode e), .b V3 (mCode f), .b V2 (mCode e), .r p4 f] w') else (bif L 4 then (Ph w7.heap.size W [.c w7.heap.size cx, .c (w7.heap.size + 1) dx, .d wA.heap.size cx, .d (wA.heap.size + 1) dx, .b V1 (mCode e), .m p2 f, .b V2 (mCode e), .r p4 f] w') else (bif L 1 then (Ph w7.heap.size W [.c w7.heap.size cx, .c (w7.heap.size + 1) dx, .d wA.heap.size cx, .d (wA.heap.size + 1) dx, .b V1 (mCode e), .m p2 f, .r p3 e, .r p4 f] w') else Ph w7.heap.size W [.c w7.heap.size cx, .c (w7.heap.size + 1) dx, .d wA.heap.size cx, .d (wA.heap.size + 1) dx, .m p1 e, .m p2 f, .r p3 e, .r p4 f] w'))))) (by kernel_rfl) (by kernel_rfl) ?start ?step ?fin)
        case start => exact ⟨undef, undef, undef, undef, rfl, trivial, HS0.out⟩
        case step =>
          intro i hi L a' w' hI hs hu
          obtain ⟨V1, V2, V3, V4, rfl, hcm, hph⟩ := hI
          have hL := hu.1
          have hi : i < 17 := hi
          obtain rfl | rfl | rfl | rfl | rfl | rfl | rfl | rfl | rfl | rfl | rfl | rfl | rfl | rfl | rfl | rfl | rfl := (by omega : i = 0 ∨ i = 1 ∨ i = 2 ∨ i = 3 ∨ i = 4 ∨ i = 5 ∨ i = 6 ∨ i = 7 ∨ i = 8 ∨ i = 9 ∨ i = 10 ∨ i = 11 ∨ i = 12 ∨ i = 13 ∨ i = 14 ∨ i = 15 ∨ i = 16)
          · skip
            have n1 : L 1 = false := not_yet hL fun h => shut_at hs 1 0 (by kernel_rfl) (h)
            have n4 : L 4 = false := not_yet hL fun h => shut_at hs 1 0 (by kernel_rfl) (shut_at hs 4 1 (by kernel_rfl) (h))
            have n9 : L 9 = false := not_yet hL fun h => shut_at hs 1 0 (by kernel_rfl) (shut_at hs 4 1 (by kernel_rfl) (shut_at hs 7 4 (by kernel_rfl) (shut_at hs 9 7 (by kernel_rfl) (h))))
            have n12 : L 12 = false := not_yet hL fun h => shut_at hs 1 0 (by kernel_rfl) (shut_at hs 4 1 (by kernel_rfl) (shut_at hs 7 4 (by kernel_rfl) (shut_at hs 12 7 (by kernel_rfl) (h))))
            refine opIn_run (v := .pointer (some ⟨p1, 0, none⟩)) (w' := w') rfl rfl (fun c h => by cases h) (fun _ => trivial) ?_ ⟨V1, V2, V3, V4, by simp [Act.put, upd, n1, n4, n9, n12, hL], hcm, by simpa [upd] using hph⟩
            simp only [n1, n4, n9, n12, hL, cond_true, cond_false]
            go_simp
          · skip
            have y0 : L 0 = true := up_at hu 0 (by kernel_rfl)
            have n4 : L 4 = false := not_yet hL fun h => shut_at hs 4 1 (by kernel_rfl) (h)
            have n9 : L 9 = false := not_yet hL fun h => shut_at hs 4 1 (by kernel_rfl) (shut_at hs 7 4 (by kernel_rfl) (shut_at hs 9 7 (by kernel_rfl) (h)))
            have n12 : L 12 = false := not_yet hL fun h => shut_at hs 4 1 (by kernel_rfl) (shut_at hs 7 4 (by kernel_rfl) (shut_at hs 12 7 (by kernel_rfl) (h)))
            simp only [y0, n4, n9, n12, hL, cond_false, cond_true] at hph
            refine opIn_call (f := 24) (args := #[.pointer (some ⟨p1, 0, none⟩)]) (w' := w') rfl rfl (fun c h => by cases h) (fun _ => trivial) rfl ?_ ((callsIn_wide.2 (F1.out w' hph)).mono ?_)
            · simp only [y0, n4, n9, n12, hL, cond_true, cond_false]
              go_simp
            · rintro e w2 ⟨Vn, rfl, hx⟩
              exact ⟨_, rfl, Vn, V2, V3, V4, by simp [Act.put, upd, y0, n4, n9, n12, hL], trivial, by simp only [upd, y0, n4, n9, n12, hL]; exact hx⟩
          · skip
            have y0 : L 0 = true := shut_at hs 1 0 (by kernel_rfl) (up_at hu 1 (by kernel_rfl))
            have y1 : L 1 = true := up_at hu 1 (by kernel_rfl)
            have n9 : L 9 = false := not_yet hL fun h => shut_at hs 6 2 (by kernel_rfl) (shut_at hs 7 6 (by kernel_rfl) (shut_at hs 9 7 (by kernel_rfl) (h)))
            have n12 : L 12 = false := not_yet hL fun h => shut_at hs 6 2 (by kernel_rfl) (shut_at hs 7 6 (by kernel_rfl) (shut_at hs 12 7 (by kernel_rfl) (h)))
            have hcv : (convert 44 9 V1).run Tryd.prog w' = .ok (.string (strN (mCode e))) w' := by
              cases hu4 : L 4 with
              | true => simp only [hu4, y1, n9, n12, cond_true, cond_false] at hph; exact hph.1.conv (i := 4) rfl
              | false => simp only [hu4, y1, n9, n12, cond_true, cond_false] at hph; exact hph.1.conv (i := 4) rfl
            refine opIn_run (v := .string (strN (mCode e))) (w' := w') rfl rfl (fun c h => by cases h) (fun _ => trivial) ?_ ⟨V1, V2, V3, V4, by simp [Act.put, upd, y0, y1, n9, n12, hL], hcm, by simpa [upd] using hph⟩
            simp only [y0, y1, n9, n12, hL, cond_true, cond_false]
            go_simp
          · skip
            have n4 : L 4 = false := not_yet hL fun h => shut_at hs 4 3 (by kernel_rfl) (h)
            have n9 : L 9 = false := not_yet hL fun h => shut_at hs 4 3 (by kernel_rfl) (shut_at hs 7 4 (by kernel_rfl) (shut_at hs 9 7 (by kernel_rfl) (h)))
            have n12 : L 12 = false := not_yet hL fun h => shut_at hs 4 3 (by kernel_rfl) (shut_at hs 7 4 (by kernel_rfl) (shut_at hs 12 7 (by kernel_rfl) (h)))
            refine opIn_run (v := .pointer (some ⟨p3, 0, none⟩)) (w' := w') rfl rfl (fun c h => by cases h) (fun _ => trivial) ?_ ⟨V1, V2, V3, V4, by simp [Act.put, upd, n4, n9, n12, hL], hcm, by simpa [upd] using hph⟩
            simp only [n4, n9, n12, hL, cond_true, cond_false]
            go_simp
          · skip
            have y0 : L 0 = true := shut_at hs 1 0 (by kernel_rfl) (up_at hu 1 (by kernel_rfl))
            have y1 : L 1 = true := up_at hu 1 (by kernel_rfl)
            have y3 : L 3 = true := up_at hu 3 (by kernel_rfl)
            have n9 : L 9 = false := not_yet hL fun h => shut_at hs 7 4 (by kernel_rfl) (shut_at hs 9 7 (by kernel_rfl) (h))
            have n12 : L 12 = false := not_yet hL fun h => shut_at hs 7 4 (by kernel_rfl) (shut_at hs 12 7 (by kernel_rfl) (h))
            simp only [y0, y1, y3, n9, n12, hL, cond_false, cond_true] at hph
            refine opIn_call (f := 25) (args := #[.pointer (some ⟨p3, 0, none⟩)]) (w' := w') rfl rfl (fun c h => by cases h) (fun _ => trivial) rfl ?_ ((callsIn_wide.2 (F2.out V1 w' hph)).mono ?_)
            · simp only [y0, y1, y3, n9, n12, hL, cond_true, cond_false]
              go_simp
            · rintro e w2 ⟨Vn, rfl, hx⟩
              exact ⟨_, rfl, V1, Vn, V3, V4, by simp [Act.put, upd, y0, y1, y3, n9, n12, hL], trivial, by simp only [upd, y0, y1, y3, n9, n12, hL]; exact hx⟩
          · skip
            have y0 : L 0 = true := shut_at hs 1 0 (by kernel_rfl) (shut_at hs 4 1 (by kernel_rfl) (up_at hu 4 (by kernel_rfl)))
            have y1 : L 1 = true := shut_at hs 4 1 (by kernel_rfl) (up_at hu 4 (by kernel_rfl))
            have y3 : L 3 = true := shut_at hs 4 3 (by kernel_rfl) (up_at hu 4 (by kernel_rfl))
            have y4 : L 4 = true := up_at hu 4 (by kernel_rfl)
            have n9 : L 9 = false := not_yet hL fun h => shut_at hs 6 5 (by kernel_rfl) (shut_at hs 7 6 (by kernel_rfl) (shut_at hs 9 7 (by kernel_rfl) (h)))
            have n12 : L 12 = false := not_yet hL fun h => shut_at hs 6 5 (by kernel_rfl) (shut_at hs 7 6 (by kernel_rfl) (shut_at hs 12 7 (by kernel_rfl) (h)))
            have hcv : (convert 44 9 V2).run Tryd.prog w' = .ok (.string (strN (mCode e))) w' := by
              simp only [y4, n9, n12, cond_true, cond_false] at hph; exact hph.1.conv (i := 6) rfl
            refine opIn_run (v := .string (strN (mCode e))) (w' := w') rfl rfl (fun c h => by cases h) (fun _ => trivial) ?_ ⟨V1, V2, V3, V4, by simp [Act.put, upd, y0, y1, y3, y4, n9, n12, hL], hcm, by simpa [upd] using hph⟩
            simp only [y0, y1, y3, y4, n9, n12, hL, cond_true, cond_false]
            go_simp
          · skip
            have y0 : L 0 = true := shut_at hs 1 0 (by kernel_rfl) (shut_at hs 2 1 (by kernel_rfl) (up_at hu 2 (by kernel_rfl)))
            have y1 : L 1 = true := shut_at hs 2 1 (by kernel_rfl) (up_at hu 2 (by kernel_rfl))
            have y2 : L 2 = true := up_at hu 2 (by kernel_rfl)
            have y3 : L 3 = true := shut_at hs 4 3 (by kernel_rfl) (shut_at hs 5 4 (by kernel_rfl) (up_at hu 5 (by kernel_rfl)))
            have y4 : L 4 = true := shut_at hs 5 4 (by kernel_rfl) (up_at hu 5 (by kernel_rfl))
            have y5 : L 5 = true := up_at hu 5 (by kernel_rfl)
            have n9 : L 9 = false := not_yet hL fun h => shut_at hs 7 6 (by kernel_rfl) (shut_at hs 9 7 (by kernel_rfl) (h))
            have n12 : L 12 = false := not_yet hL fun h => shut_at hs 7 6 (by kernel_rfl) (shut_at hs 12 7 (by kernel_rfl) (h))
            refine opIn_run (v := .bool true) (w' := w') rfl rfl (fun c h => by cases h) (fun _ => trivial) ?_ ⟨V1, V2, V3, V4, by simp [Act.put, upd, y0, y1, y2, y3, y4, y5, n9, n12, hL], hcm, by simpa [upd] using hph⟩
            simp only [y0, y1, y2, y3, y4, y5, n9, n12, hL, cond_true, cond_false]
            go_simp
          · skip
            have y0 : L 0 = true := shut_at hs 1 0 (by kernel_rfl) (shut_at hs 4 1 (by kernel_rfl) (up_at hu 4 (by kernel_rfl)))
            have y1 : L 1 = true := shut_at hs 4 1 (by kernel_rfl) (up_at hu 4 (by kernel_rfl))
            have y2 : L 2 = true := shut_at hs 6 2 (by kernel_rfl) (up_at hu 6 (by kernel_rfl))
            have y3 : L 3 = true := shut_at hs 4 3 (by kernel_rfl) (up_at hu 4 (by kernel_rfl))
            have y4 : L 4 = true := up_at hu 4 (by kernel_rfl)
            have y5 : L 5 = true := shut_at hs 6 5 (by kernel_rfl) (up_at hu 6 (by kernel_rfl))
            have y6 : L 6 = true := up_at hu 6 (by kernel_rfl)
            have n9 : L 9 = false := not_yet hL fun h => shut_at hs 9 7 (by kernel_rfl) (h)
            have n12 : L 12 = false := not_yet hL fun h => shut_at hs 12 7 (by kernel_rfl) (h)
            refine opIn_run (v := .bool true) (w' := w') rfl rfl (fun c h => by cases h) (fun _ => trivial) ?_ ⟨V1, V2, V3, V4, by simp [Act.put, upd, y0, y1, y2, y3, y4, y5, y6, n9, n12, hL], hcm, by simpa [upd] using hph⟩
            simp only [y0, y1, y2, y3, y4, y5, y6, n9, n12, hL, cond_true, cond_false]
            go_simp
          · skip
            have y0 : L 0 = true := shut_at hs 1 0 (by kernel_rfl) (shut_at hs 4 1 (by kernel_rfl) (shut_at hs 7 4 (by kernel_rfl) (up_at hu 7 (by kernel_rfl))))
            have y1 : L 1 = true := shut_at hs 4 1 (by kernel_rfl) (shut_at hs 7 4 (by kernel_rfl) (up_at hu 7 (by kernel_rfl)))
            have y2 : L 2 = true := shut_at hs 6 2 (by kernel_rfl) (shut_at hs 7 6 (by kernel_rfl) (up_at hu 7 (by kernel_rfl)))
            have y3 : L 3 = true := shut_at hs 4 3 (by kernel_rfl) (shut_at hs 7 4 (by kernel_rfl) (up_at hu 7 (by kernel_rfl)))
            have y4 : L 4 = true := shut_at hs 7 4 (by kernel_rfl) (up_at hu 7 (by kernel_rfl))
            have y5 : L 5 = true := shut_at hs 6 5 (by kernel_rfl) (shut_at hs 7 6 (by kernel_rfl) (up_at hu 7 (by kernel_rfl)))
            have y6 : L 6 = true := shut_at hs 7 6 (by kernel_rfl) (up_at hu 7 (by kernel_rfl))
            have y7 : L 7 = true := up_at hu 7 (by kernel_rfl)
            have n9 : L 9 = false := not_yet hL fun h => shut_at hs 9 8 (by kernel_rfl) (h)
            have n12 : L 12 = false := not_yet hL fun h => shut_at hs 9 8 (by kernel_rfl) (shut_at hs 12 9 (by kernel_rfl) (h))
            refine opIn_run_g (v := .pointer (some ⟨p2, 0, none⟩)) (w' := w') (j := 7) (b := true) rfl rfl (by simp [yielded, y0, y1, y2, y3, y4, y5, y6, y7, n9, n12, hL]) (fun c h => by cases h) (fun _ => trivial) ?_ ⟨V1, V2, V3, V4, by simp [Act.put, upd, y0, y1, y2, y3, y4, y5, y6, y7, n9, n12, hL], hcm, by simpa [upd] using hph⟩
            simp only [y0, y1, y2, y3, y4, y5, y6, y7, n9, n12, hL, cond_true, cond_false]
            go_simp
          · skip
            have y0 : L 0 = true := shut_at hs 1 0 (by kernel_rfl) (shut_at hs 4 1 (by kernel_rfl) (shut_at hs 7 4 (by kernel_rfl) (up_at hu 7 (by kernel_rfl))))
            have y1 : L 1 = true := shut_at hs 4 1 (by kernel_rfl) (shut_at hs 7 4 (by kernel_rfl) (up_at hu 7 (by kernel_rfl)))
            have y2 : L 2 = true := shut_at hs 6 2 (by kernel_rfl) (shut_at hs 7 6 (by kernel_rfl) (up_at hu 7 (by kernel_rfl)))
            have y3 : L 3 = true := shut_at hs 4 3 (by kernel_rfl) (shut_at hs 7 4 (by kernel_rfl) (up_at hu 7 (by kernel_rfl)))
            have y4 : L 4 = true := shut_at hs 7 4 (by kernel_rfl) (up_at hu 7 (by kernel_rfl))
            have y5 : L 5 = true := shut_at hs 6 5 (by kernel_rfl) (shut_at hs 7 6 (by kernel_rfl) (up_at hu 7 (by kernel_rfl)))
            have y6 : L 6 = true := shut_at hs 7 6 (by kernel_rfl) (up_at hu 7 (by kernel_rfl))
            have y7 : L 7 = true := up_at hu 7 (by kernel_rfl)
            have y8 : L 8 = true := up_at hu 8 (by kernel_rfl)
            have n12 : L 12 = false := not_yet hL fun h => shut_at hs 12 9 (by kernel_rfl) (h)
            simp only [y0, y1, y2, y3, y4, y5, y6, y7, y8, n12, hL, cond_false, cond_true] at hph
            refine opIn_call_g (f := 24) (args := #[.pointer (some ⟨p2, 0, none⟩)]) (w' := w') (j := 7) (b := true) rfl rfl (by simp [yielded, y0, y1, y2, y3, y4, y5, y6, y7, y8, n12, hL]) (fun c h => by cases h) (fun _ => trivial) rfl ?_ ((callsIn_wide.2 (F3.out V1 V2 w' hph)).mono ?_)
            · simp only [y0, y1, y2, y3, y4, y5, y6, y7, y8, n12, hL, cond_true, cond_false]
              go_simp
            · rintro e w2 ⟨Vn, rfl, hx⟩
              exact ⟨_, rfl, V1, V2, Vn, V4, by simp [Act.put, upd, y0, y1, y2, y3, y4, y5, y6, y7, y8, n12, hL], trivial, by simp only [upd, y0, y1, y2, y3, y4, y5, y6, y7, y8, n12, hL]; exact hx⟩
          · skip
            have y0 : L 0 = true := shut_at hs 1 0 (by kernel_rfl) (shut_at hs 4 1 (by kernel_rfl) (shut_at hs 7 4 (by kernel_rfl) (up_at hu 7 (by kernel_rfl))))
            have y1 : L 1 = true := shut_at hs 4 1 (by kernel_rfl) (shut_at hs 7 4 (by kernel_rfl) (up_at hu 7 (by kernel_rfl)))
            have y2 : L 2 = true := shut_at hs 6 2 (by kernel_rfl) (shut_at hs 7 6 (by kernel_rfl) (up_at hu 7 (by kernel_rfl)))
            have y3 : L 3 = true := shut_at hs 4 3 (by kernel_rfl) (shut_at hs 7 4 (by kernel_rfl) (up_at hu 7 (by kernel_rfl)))
            have y4 : L 4 = true := shut_at hs 7 4 (by kernel_rfl) (up_at hu 7 (by kernel_rfl))
            have y5 : L 5 = true := shut_at hs 6 5 (by kernel_rfl) (shut_at hs 7 6 (by kernel_rfl) (up_at hu 7 (by kernel_rfl)))
            have y6 : L 6 = true := shut_at hs 7 6 (by kernel_rfl) (up_at hu 7 (by kernel_rfl))
            have y7 : L 7 = true := up_at hu 7 (by kernel_rfl)
            have y8 : L 8 = true := shut_at hs 9 8 (by kernel_rfl) (up_at hu 9 (by kernel_rfl))
            have y9 : L 9 = true := up_at hu 9 (by kernel_rfl)
            have hcv : (convert 44 9 V3).run Tryd.prog w' = .ok (.string (strN (mCode f))) w' := by
              cases hu12 : L 12 with
              | true => simp only [hu12, y9, cond_true, cond_false] at hph; exact hph.1.conv (i := 5) rfl
              | false => simp only [hu12, y9, cond_true, cond_false] at hph; exact hph.1.conv (i := 5) rfl
            refine opIn_run_g (v := .string (strN (mCode f))) (w' := w') (j := 7) (b := true) rfl rfl (by simp [yielded, y0, y1, y2, y3, y4, y5, y6, y7, y8, y9, hL]) (fun c h => by cases h) (fun _ => trivial) ?_ ⟨V1, V2, V3, V4, by simp [Act.put, upd, y0, y1, y2, y3, y4, y5, y6, y7, y8, y9, hL], hcm, by simpa [upd] using hph⟩
            simp only [y0, y1, y2, y3, y4, y5, y6, y7, y8, y9, hL, cond_true, cond_false]
            go_simp
          · skip
            have y0 : L 0 = true := shut_at hs 1 0 (by kernel_rfl) (shut_at hs 4 1 (by kernel_rfl) (shut_at hs 7 4 (by kernel_rfl) (up_at hu 7 (by kernel_rfl))))
            have y1 : L 1 = true := shut_at hs 4 1 (by kernel_rfl) (shut_at hs 7 4 (by kernel_rfl) (up_at hu 7 (by kernel_rfl)))
            have y2 : L 2 = true := shut_at hs 6 2 (by kernel_rfl) (shut_at hs 7 6 (by kernel_rfl) (up_at hu 7 (by kernel_rfl)))
            have y3 : L 3 = true := shut_at hs 4 3 (by kernel_rfl) (shut_at hs 7 4 (by kernel_rfl) (up_at hu 7 (by kernel_rfl)))
            have y4 : L 4 = true := shut_at hs 7 4 (by kernel_rfl) (up_at hu 7 (by kernel_rfl))
            have y5 : L 5 = true := shut_at hs 6 5 (by kernel_rfl) (shut_at hs 7 6 (by kernel_rfl) (up_at hu 7 (by kernel_rfl)))
            have y6 : L 6 = true := shut_at hs 7 6 (by kernel_rfl) (up_at hu 7 (by kernel_rfl))
            have y7 : L 7 = true := up_at hu 7 (by kernel_rfl)
            have n12 : L 12 = false := not_yet hL fun h => shut_at hs 12 11 (by kernel_rfl) (h)
            refine opIn_run_g (v := .pointer (some ⟨p4, 0, none⟩)) (w' := w') (j := 7) (b := true) rfl rfl (by simp [yielded, y0, y1, y2, y3, y4, y5, y6, y7, n12, hL]) (fun c h => by cases h) (fun _ => trivial) ?_ ⟨V1, V2, V3, V4, by simp [Act.put, upd, y0, y1, y2, y3, y4, y5, y6, y7, n12, hL], hcm, by simpa [upd] using hph⟩
            simp only [y0, y1, y2, y3, y4, y5, y6, y7, n12, hL, cond_true, cond_false]
            go_simp
          · skip
            have y0 : L 0 = true := shut_at hs 1 0 (by kernel_rfl) (shut_at hs 4 1 (by kernel_rfl) (shut_at hs 7 4 (by kernel_rfl) (up_at hu 7 (by kernel_rfl))))
            have y1 : L 1 = true := shut_at hs 4 1 (by kernel_rfl) (shut_at hs 7 4 (by kernel_rfl) (up_at hu 7 (by kernel_rfl)))
            have y2 : L 2 = true := shut_at hs 6 2 (by kernel_rfl) (shut_at hs 7 6 (by kernel_rfl) (up_at hu 7 (by kernel_rfl)))
            have y3 : L 3 = true := shut_at hs 4 3 (by kernel_rfl) (shut_at hs 7 4 (by kernel_rfl) (up_at hu 7 (by kernel_rfl)))
            have y4 : L 4 = true := shut_at hs 7 4 (by kernel_rfl) (up_at hu 7 (by kernel_rfl))
            have y5 : L 5 = true := shut_at hs 6 5 (by kernel_rfl) (shut_at hs 7 6 (by kernel_rfl) (up_at hu 7 (by kernel_rfl)))
            have y6 : L 6 = true := shut_at hs 7 6 (by kernel_rfl) (up_at hu 7 (by kernel_rfl))
            have y7 : L 7 = true := up_at hu 7 (by kernel_rfl)
            have y8 : L 8 = true := shut_at hs 9 8 (by kernel_rfl) (up_at hu 9 (by kernel_rfl))
            have y9 : L 9 = true := up_at hu 9 (by kernel_rfl)
            have y11 : L 11 = true := up_at hu 11 (by kernel_rfl)
            simp only [y0, y1, y2, y3, y4, y5, y6, y7, y8, y9, y11, hL, cond_false, cond_true] at hph
            refine opIn_call_g (f := 25) (args := #[.pointer (some ⟨p4, 0, none⟩)]) (w' := w') (j := 7) (b := true) rfl rfl (by simp [yielded, y0, y1, y2, y3, y4, y5, y6, y7, y8, y9, y11, hL]) (fun c h => by cases h) (fun _ => trivial) rfl ?_ ((callsIn_wide.2 (F4.out V1 V2 V3 w' hph)).mono ?_)
            · simp only [y0, y1, y2, y3, y4, y5, y6, y7, y8, y9, y11, hL, cond_true, cond_false]
              go_simp
            · rintro e w2 ⟨Vn, rfl, hx⟩
              exact ⟨_, rfl, V1, V2, V3, Vn, by simp [Act.put, upd, y0, y1, y2, y3, y4, y5, y6, y7, y8, y9, y11, hL], trivial, by simp only [upd, y0, y1, y2, y3, y4, y5, y6, y7, y8, y9, y11, hL]; exact hx⟩
          · skip
            have y0 : L 0 = true := shut_at hs 1 0 (by kernel_rfl) (shut_at hs 4 1 (by kernel_rfl) (shut_at hs 7 4 (by kernel_rfl) (up_at hu 7 (by kernel_rfl))))
            have y1 : L 1 = true := shut_at hs 4 1 (by kernel_rfl) (shut_at hs 7 4 (by kernel_rfl) (up_at hu 7 (by kernel_rfl)))
            have y2 : L 2 = true := shut_at hs 6 2 (by kernel_rfl) (shut_at hs 7 6 (by kernel_rfl) (up_at hu 7 (by kernel_rfl)))
            have y3 : L 3 = true := shut_at hs 4 3 (by kernel_rfl) (shut_at hs 7 4 (by kernel_rfl) (up_at hu 7 (by kernel_rfl)))
            have y4 : L 4 = true := shut_at hs 7 4 (by kernel_rfl) (up_at hu 7 (by kernel_rfl))
            have y5 : L 5 = true := shut_at hs 6 5 (by kernel_rfl) (shut_at hs 7 6 (by kernel_rfl) (up_at hu 7 (by kernel_rfl)))
            have y6 : L 6 = true := shut_at hs 7 6 (by kernel_rfl) (up_at hu 7 (by kernel_rfl))
            have y7 : L 7 = true := up_at hu 7 (by kernel_rfl)
            have y8 : L 8 = true := shut_at hs 9 8 (by kernel_rfl) (shut_at hs 12 9 (by kernel_rfl) (up_at hu 12 (by kernel_rfl)))
            have y9 : L 9 = true := shut_at hs 12 9 (by kernel_rfl) (up_at hu 12 (by kernel_rfl))
            have y11 : L 11 = true := shut_at hs 12 11 (by kernel_rfl) (up_at hu 12 (by kernel_rfl))
            have y12 : L 12 = true := up_at hu 12 (by kernel_rfl)
            have hcv : (convert 44 9 V4).run Tryd.prog w' = .ok (.string (strN (mCode f))) w' := by
              simp only [y12, cond_true, cond_false] at hph; exact hph.1.conv (i := 7) rfl
            refine opIn_run_g (v := .string (strN (mCode f))) (w' := w') (j := 7) (b := true) rfl rfl (by simp [yielded, y0, y1, y2, y3, y4, y5, y6, y7, y8, y9, y11, y12, hL]) (fun c h => by cases h) (fun _ => trivial) ?_ ⟨V1, V2, V3, V4, by simp [Act.put, upd, y0, y1, y2, y3, y4, y5, y6, y7, y8, y9, y11, y12, hL], hcm, by simpa [upd] using hph⟩
            simp only [y0, y1, y2, y3, y4, y5, y6, y7, y8, y9, y11, y12, hL, cond_true, cond_false]
            go_simp
          · skip
            have y0 : L 0 = true := shut_at hs 1 0 (by kernel_rfl) (shut_at hs 4 1 (by kernel_rfl) (shut_at hs 7 4 (by kernel_rfl) (up_at hu 7 (by kernel_rfl))))
            have y1 : L 1 = true := shut_at hs 4 1 (by kernel_rfl) (shut_at hs 7 4 (by kernel_rfl) (up_at hu 7 (by kernel_rfl)))
            have y2 : L 2 = true := shut_at hs 6 2 (by kernel_rfl) (shut_at hs 7 6 (by kernel_rfl) (up_at hu 7 (by kernel_rfl)))
            have y3 : L 3 = true := shut_at hs 4 3 (by kernel_rfl) (shut_at hs 7 4 (by kernel_rfl) (up_at hu 7 (by kernel_rfl)))
            have y4 : L 4 = true := shut_at hs 7 4 (by kernel_rfl) (up_at hu 7 (by kernel_rfl))
            have y5 : L 5 = true := shut_at hs 6 5 (by kernel_rfl) (shut_at hs 7 6 (by kernel_rfl) (up_at hu 7 (by kernel_rfl)))
            have y6 : L 6 = true := shut_at hs 7 6 (by kernel_rfl) (up_at hu 7 (by kernel_rfl))
            have y7 : L 7 = true := up_at hu 7 (by kernel_rfl)
            have y8 : L 8 = true := shut_at hs 9 8 (by kernel_rfl) (shut_at hs 10 9 (by kernel_rfl) (up_at hu 10 (by kernel_rfl)))
            have y9 : L 9 = true := shut_at hs 10 9 (by kernel_rfl) (up_at hu 10 (by kernel_rfl))
            have y10 : L 10 = true := up_at hu 10 (by kernel_rfl)
            have y11 : L 11 = true := shut_at hs 12 11 (by kernel_rfl) (shut_at hs 13 12 (by kernel_rfl) (up_at hu 13 (by kernel_rfl)))
            have y12 : L 12 = true := shut_at hs 13 12 (by kernel_rfl) (up_at hu 13 (by kernel_rfl))
            have y13 : L 13 = true := up_at hu 13 (by kernel_rfl)
            refine opIn_run_g (v := .bool true) (w' := w') (j := 7) (b := true) rfl rfl (by simp [yielded, y0, y1, y2, y3, y4, y5, y6, y7, y8, y9, y10, y11, y12, y13, hL]) (fun c h => by cases h) (fun _ => trivial) ?_ ⟨V1, V2, V3, V4, by simp [Act.put, upd, y0, y1, y2, y3, y4, y5, y6, y7, y8, y9, y10, y11, y12, y13, hL], hcm, by simpa [upd] using hph⟩
            simp only [y0, y1, y2, y3, y4, y5, y6, y7, y8, y9, y10, y11, y12, y13, hL, cond_true, cond_false]
            go_simp
          · skip
            have y0 : L 0 = true := shut_at hs 1 0 (by kernel_rfl) (shut_at hs 4 1 (by kernel_rfl) (shut_at hs 7 4 (by kernel_rfl) (up_at hu 7 (by kernel_rfl))))
            have y1 : L 1 = true := shut_at hs 4 1 (by kernel_rfl) (shut_at hs 7 4 (by kernel_rfl) (up_at hu 7 (by kernel_rfl)))
            have y2 : L 2 = true := shut_at hs 6 2 (by kernel_rfl) (shut_at hs 7 6 (by kernel_rfl) (up_at hu 7 (by kernel_rfl)))
            have y3 : L 3 = true := shut_at hs 4 3 (by kernel_rfl) (shut_at hs 7 4 (by kernel_rfl) (up_at hu 7 (by kernel_rfl)))
            have y4 : L 4 = true := shut_at hs 7 4 (by kernel_rfl) (up_at hu 7 (by kernel_rfl))
            have y5 : L 5 = true := shut_at hs 6 5 (by kernel_rfl) (shut_at hs 7 6 (by kernel_rfl) (up_at hu 7 (by kernel_rfl)))
            have y6 : L 6 = true := shut_at hs 7 6 (by kernel_rfl) (up_at hu 7 (by kernel_rfl))
            have y7 : L 7 = true := up_at hu 7 (by kernel_rfl)
            have y8 : L 8 = true := shut_at hs 9 8 (by kernel_rfl) (shut_at hs 10 9 (by kernel_rfl) (shut_at hs 14 10 (by kernel_rfl) (up_at hu 14 (by kernel_rfl))))
            have y9 : L 9 = true := shut_at hs 10 9 (by kernel_rfl) (shut_at hs 14 10 (by kernel_rfl) (up_at hu 14 (by kernel_rfl)))
            have y10 : L 10 = true := shut_at hs 14 10 (by kernel_rfl) (up_at hu 14 (by kernel_rfl))
            have y11 : L 11 = true := shut_at hs 12 11 (by kernel_rfl) (shut_at hs 13 12 (by kernel_rfl) (shut_at hs 14 13 (by kernel_rfl) (up_at hu 14 (by kernel_rfl))))
            have y12 : L 12 = true := shut_at hs 13 12 (by kernel_rfl) (shut_at hs 14 13 (by kernel_rfl) (up_at hu 14 (by kernel_rfl)))
            have y13 : L 13 = true := shut_at hs 14 13 (by kernel_rfl) (up_at hu 14 (by kernel_rfl))
            have y14 : L 14 = true := up_at hu 14 (by kernel_rfl)
            refine opIn_run (v := .bool true) (w' := w') rfl rfl (fun c h => by cases h) (fun _ => trivial) ?_ ⟨V1, V2, V3, V4, by simp [Act.put, upd, y0, y1, y2, y3, y4, y5, y6, y7, y8, y9, y10, y11, y12, y13, y14, hL], hcm, by simpa [upd] using hph⟩
            simp only [y0, y1, y2, y3, y4, y5, y6, y7, y8, y9, y10, y11, y12, y13, y14, hL, cond_true, cond_false]
            go_simp
          · skip
            have y0 : L 0 = true := up_at hu 0 (by kernel_rfl)
            have y1 : L 1 = true := up_at hu 1 (by kernel_rfl)
            have y2 : L 2 = true := up_at hu 2 (by kernel_rfl)
            have y3 : L 3 = true := up_at hu 3 (by kernel_rfl)
            have y4 : L 4 = true := up_at hu 4 (by kernel_rfl)
            have y5 : L 5 = true := up_at hu 5 (by kernel_rfl)
            have y6 : L 6 = true := up_at hu 6 (by kernel_rfl)
            have y7 : L 7 = true := up_at hu 7 (by kernel_rfl)
            have y8 : L 8 = true := up_at hu 8 (by kernel_rfl)
            have y9 : L 9 = true := up_at hu 9 (by kernel_rfl)
            have y10 : L 10 = true := up_at hu 10 (by kernel_rfl)
            have y11 : L 11 = true := up_at hu 11 (by kernel_rfl)
            have y12 : L 12 = true := up_at hu 12 (by kernel_rfl)
            have y13 : L 13 = true := up_at hu 13 (by kernel_rfl)
            have y14 : L 14 = true := up_at hu 14 (by kernel_rfl)
            have y15 : L 15 = true := up_at hu 15 (by kernel_rfl)
            refine opIn_run (v := .bool true) (w' := w') rfl rfl (fun c h => by cases h) (fun _ => trivial) ?_ ⟨V1, V2, V3, V4, by simp [Act.put, upd, y0, y1, y2, y3, y4, y5, y6, y7, y8, y9, y10, y11, y12, y13, y14, y15, hL], hcm, by simpa [upd] using hph⟩
            simp only [y0, y1, y2, y3, y4, y5, y6, y7, y8, y9, y10, y11, y12, y13, y14, y15, hL, cond_true, cond_false]
            go_simp
        case fin =>
          intro L a' w' hall hI
          obtain ⟨V1, V2, V3, V4, rfl, hcm, hph⟩ := hI
          have l0 := hall 0 (by decide)
          have l1 := hall 1 (by decide)
          have l2 := hall 2 (by decide)
          have l3 := hall 3 (by decide)
          have l4 := hall 4 (by decide)
          have l5 := hall 5 (by decide)
          have l6 := hall 6 (by decide)
          have l7 := hall 7 (by decide)
          have l8 := hall 8 (by decide)
          have l9 := hall 9 (by decide)
          have l10 := hall 10 (by decide)
          have l11 := hall 11 (by decide)
          have l12 := hall 12 (by decide)
          have l13 := hall 13 (by decide)
          have l14 := hall 14 (by decide)
          have l15 := hall 15 (by decide)
          have l16 := hall 16 (by decide)
          simp only [l0, l1, l2, l3, l4, l5, l6, l7, l8, l9, l10, l11, l12, l13, l14, l15, l16, cond_true] at hph ⊢
          clear l0 l1 l2 l3 l4 l5 l6 l7 l8 l9 l10 l11 l12 l13 l14 l15 l16 hall
          have HBZ := Lib.hid hph.2.1
          clear hph hcm F1 F2 F3 F4 HS0
          go_wp2
          go_ret
          exact ⟨rfl, HBZ.out⟩
        -- END
end Go.Proofs.YtdgkeghgfibolaaDoor
