/- MqEncodes, walked. -/
import Derived.Test.YtdgkeghgfibolaaDoorMqEi
set_option linter.unusedVariables false
set_option linter.unusedSimpArgs false
namespace Go.Proofs.YtdgkeghgfibolaaDoor
open Go.RowKit

set_option maxRecDepth 100000 in
set_option maxHeartbeats 8000000 in
set_option pp.deepTerms true in
set_option pp.maxSteps 10000000 in
theorem walk_mqEncodes (a0 : Option Addr) (len0 cap0 : Nat) (z0 : List Int) (a1 : Int) (W : World) (hT : Tab W) (w0 : IsRow .i64 W a0 len0 cap0 z0) (w1 : (Lit.int .i64 a1).wf = true) : Calls Tryd.prog 3 #[.slice a0 len0 cap0, .int .i64 a1] W fun e w' => e = .returned (.bool true) ∧ Below W.heap.size W w' := by
  have KN := Lib.hid (known_any W)
  have L0 := Lib.hid (lst_of_row w0)
  have hrl := row_len w0
  have HRL := Lib.hid hrl.1
  have hlen : len0 ≤ maxLen := Nat.le_trans hrl.2.1 hrl.2.2.1
  unfold maxLen at hlen
  have HWF := Lib.hid (fun v (hv : v ∈ z0.take len0) => bd_i64 (row_wf w0 v (List.mem_of_mem_take hv)))
  have FR := Lib.hid (fun u : World => fresh_any u)
  have RF := Lib.hid (fun u : World => rfresh_any u)
  have NW := Lib.hid (fun u : World => new_any u)
  have RN := Lib.hid (fun u : World => rnew_any u)
  have HT := Lib.hid hT
  obtain ⟨l, hl⟩ : ∃ l : List Int, z0.take len0 = l := ⟨_, rfl⟩
  rw [hl] at L0 HRL HWF
  obtain ⟨n, hn⟩ : ∃ n : Nat, min len0 400 = n := ⟨_, rfl⟩
  have hn2 : n ≤ 400 := by omega
  have HN := Lib.hid hn
  clear hl hT w0 w1 hrl hn
  go_enter Tryd.func3, Tryd.ntmps3
  go_wp2_with fail
  refine KN.out.mono ?_
  rintro x w1 ⟨rfl, b1⟩
  have B1 := Lib.hid b1
  have BT := Lib.hid (bits_any a0 len0 cap0 l W.heap.size w1 b1.size (L0.out.below b1) HRL.out (by omega) HWF.out)
  clear b1 KN
  go_wp2_with fail
  refine BT.out.mono ?_
  rintro x w2 ⟨VK, VB, ks, bs, rfl, hbk⟩
  rw [HN.out] at hbk
  have B2 := Lib.hid (B1.out.trans (hbk.gr.bel.mono B1.out.size))
  obtain ⟨AK, cK, AB, cB, rfl, rfl, hlk, hlb⟩ := Grow.lst hbk
  have HK := Lib.hid (And.intro hlk hlb)
  have HKB := Lib.hid (And.intro (And.intro hbk.lk hbk.lb) (And.intro hbk.hk hbk.hb))
  clear hbk hlk hlb BT B1
  go_wp2_with fail
  refine (FR.out _).mono ?_
  rintro x w4 ⟨rfl, b4⟩
  have B4 := Lib.hid (B2.out.trans (b4.mono B2.out.size))
  have HK4 := Lib.hid (And.intro ((HK.out.1.below b4).more b4.size) ((HK.out.2.below b4).more b4.size))
  clear b4 B2 HK
  go_wp2_with fail
  refine (RF.out _).mono ?_
  rintro x w5 ⟨rfl, b5⟩
  have B5 := Lib.hid (B4.out.trans (b5.mono B4.out.size))
  have HK5 := Lib.hid (And.intro ((HK4.out.1.below b5).more b5.size) ((HK4.out.2.below b5).more b5.size))
  clear b5 B4 HK4
  go_wp2_with (refine wpList_freshM (o := ⟨none, _, _, _, _, _⟩) (o2 := ⟨none, _, _, _, _, _⟩) rfl _ _ rfl rfl _ _ rfl rfl rfl rfl rfl rfl ?_)
  intro w6 hc61 hc62 b6
  have hq5 : W.heap.size ≤ w5.heap.size := B5.out.size
  have B6 := Lib.hid (B5.out.trans (b6.mono B5.out.size))
  have hpos0 := HT.out.pos
  have hpos : 0 < w5.heap.size := Nat.lt_of_lt_of_le HT.out.pos hq5
  have HS6 : Hid (Hs w5.heap.size w6 [.c w5.heap.size (cxF 19), .d (w5.heap.size + 1) (cxF 19)]) := Lib.hid ((Hs.nil w5.heap.size w5).add2 (t := .c w5.heap.size (cxF 19)) (s := .d (w5.heap.size + 1) (cxF 19)) (Nat.le_refl _) b6 ⟨rfl, hc61⟩ ⟨rfl, hc62⟩)
  have HK6 := Lib.hid (And.intro (HK5.out.1.below b6) (HK5.out.2.below b6))
  have O6 : Hid (Below w5.heap.size w6 w6) := Lib.hid (Below.refl _ _)
  have hs6 : w5.heap.size ≤ w6.heap.size := b6.size
  clear b6 hc61 hc62 B5 HK5
  go_wp2_with fail
  refine (NW.out _).mono ?_
  rintro x w7 ⟨p, rfl, he1, b7⟩
  have B7 := Lib.hid (B6.out.trans (b7.mono B6.out.size))
  have HS7 : Hid (Hs w5.heap.size w7 [.c w5.heap.size (cxF 19), .d (w5.heap.size + 1) (cxF 19), .m p mNew]) := Lib.hid (HS6.out.add hs6 b7 (t := .m p mNew) he1)
  have O7 : Hid (Below w5.heap.size w6 w7) := Lib.hid (b7.mono hs6)
  have hs7 : w5.heap.size ≤ w7.heap.size := Nat.le_trans hs6 b7.size
  clear b7 he1 B6 HS6 O6
  go_wp2_with fail
  refine (RN.out _).mono ?_
  rintro x w8 ⟨p2, rfl, he1, b8⟩
  have B8 := Lib.hid (B7.out.trans (b8.mono B7.out.size))
  have HS8 : Hid (Hs w5.heap.size w8 [.c w5.heap.size (cxF 19), .d (w5.heap.size + 1) (cxF 19), .m p mNew, .r p2 mNew]) := Lib.hid (HS7.out.add hs7 b8 (t := .r p2 mNew) he1)
  have O8 : Hid (Below w5.heap.size w6 w8) := Lib.hid (O7.out.trans (b8.mono hs7))
  have hs8 : w5.heap.size ≤ w8.heap.size := Nat.le_trans hs7 b8.size
  clear b8 he1 B7 HS7 O7
  have H0 := Lib.hid (And.intro f19_ok mNew_fine)
  go_wp2
  go_loopw [11] (fun i wr => ∃ j e cx, j ≤ n ∧ i = .int .i64 (j : Int) ∧ w5.heap.size ≤ wr.heap.size ∧ Below w5.heap.size w6 wr ∧ Below W.heap.size W wr ∧ Hs w5.heap.size wr [.c w5.heap.size cx, .d (w5.heap.size + 1) cx, .m p e, .r p2 e] ∧ COk cx ∧ Fine e ∧ e.pre.length ≤ 16 * j) (fun i _ => n - (intOf i).toNat)
  case atStart => exact ⟨0, _, _, by omega, rfl, hs8, O8.out, B8.out, HS8.out, H0.out.1, H0.out.2, Nat.le_refl _⟩
  case round =>
    obtain ⟨j, e, cx, hj, rfl, hsz, hO, hB, hS, hok, hfi, hle⟩ := hrel
    have HS := Lib.hid hS
    have HO := Lib.hid hO
    have HB := Lib.hid hB
    have HF := Lib.hid (And.intro hok hfi)
    clear hS H0 hO O8 hB B8 HS8 hok hfi
    by_cases hlt : j < n
    · obtain ⟨k, hk1, hk2⟩ := nat_of HKB.out.2.1 (j := j) (by rw [HKB.out.1.1]; exact hlt)
      obtain ⟨b, hb1, hb2⟩ := nat_of (n := 2) (fun x hx => by have := HKB.out.2.2 x hx; omega) (j := j) (by rw [HKB.out.1.2]; exact hlt)
      obtain ⟨bk, ok, rfl, hbk, mk⟩ := ((HK6.out.1.below HO.out) j (.int .i64 (k : Int)) (by rw [List.getElem?_map, hk1]; rfl))
      obtain ⟨bb, ob, rfl, hbb, mb⟩ := ((HK6.out.2.below HO.out) j (.int .i64 (b : Int)) (by rw [List.getElem?_map, hb1]; rfl))
      have h2 : (j : Int) < (n : Int) := by omega
      have h4 : (0 : Int) ≤ (j : Int) := by omega
      clear hk1 hb1
      go_wp2
      go_quiet (fail)
      obtain ⟨Y, hY⟩ : ∃ Y, wr.drewN nq = Y := ⟨_, rfl⟩
      have HSY : Hid (Hs w5.heap.size Y [.c w5.heap.size cx, .d (w5.heap.size + 1) cx, .m p e, .r p2 e]) := Lib.hid (by rw [← hY]; exact HS.out.below (below_drewN (Below.refl _ _) nq))
      have HOY : Hid (Below w5.heap.size w6 Y) := Lib.hid (by rw [← hY]; exact below_drewN HO.out nq)
      have HBY : Hid (Below W.heap.size W Y) := Lib.hid (by rw [← hY]; exact below_drewN HB.out nq)
      have hszY : w5.heap.size ≤ Y.heap.size := by rw [← hY]; exact hsz
      rw [hY]
      obtain ⟨K, hK⟩ : ∃ K : Int, (if j % 50 = 49 then a1 else (k : Int)) = K := ⟨_, rfl⟩
      have HKK := Lib.hid hK
      clear hY hK HS HO HB mk mb hsz
      obtain ⟨tb, htb⟩ : ∃ tb, decide (j % 50 = 49) = tb := ⟨_, rfl⟩
      have e0 : (j : Int).tmod 50 = (j : Int) % 50 := Int.tmod_eq_emod_of_nonneg h4
      have e1 : ((j : Int) % 50 == 49) = tb := by
        rw [← htb, Bool.eq_iff_iff]
        simp
        omega
      have HTB := Lib.hid htb
      clear htb
      go_upto_if 41 with fail
      clear e0 e1
      go_cut [12] from 42 to 43 (fun t wx => wx = Y ∧ t = .int .i64 K)
      case first =>
        cases tb with
        | true =>
          have h50 := of_decide_eq_true HTB.out
          have HL := Lib.hid h50
          clear h50
          go_wp2
          go_meet
          exact ⟨rfl, by rw [← HKK.out, if_pos HL.out]⟩
        | false =>
          have h50 := of_decide_eq_false HTB.out
          have HL := Lib.hid h50
          clear h50
          go_wp2
          go_meet
          exact ⟨rfl, by rw [← HKK.out, if_neg HL.out]⟩
      case rest =>
        obtain ⟨rfl, rfl⟩ := hcut
        have EN := Lib.hid (HSY.out.enci (i := 2) (j := 0) (p := p) (q := w5.heap.size) (b := b) hszY hpos (HT.out.below hpos0 HBY.out) rfl rfl (by omega) HF.out.1 HF.out.2 (by omega) (by omega) K)
        clear HSY
        go_wp2_with fail
        refine EN.out.mono ?_
        rintro x w9 ⟨rfl, hs9, b9⟩
        have HS9 : Hid (Hs w5.heap.size w9 [.c w5.heap.size (sCi e cx K b), .d (w5.heap.size + 1) cx, .m p (sEi e cx K b), .r p2 e]) := Lib.hid hs9
        have HO9 := Lib.hid (HOY.out.trans b9)
        have HB9 := Lib.hid (HBY.out.trans (b9.mono hq5))
        have hsz9 : w5.heap.size ≤ w9.heap.size := Nat.le_trans hszY b9.size
        clear hs9 b9 EN HOY HBY hszY
        have ER := Lib.hid (HS9.out.renci (i := 3) (j := 1) (p := p2) (q := w5.heap.size + 1) (b := b) hsz9 rfl rfl (by omega) HF.out.1 HF.out.2 (by omega) (by omega) K)
        clear HS9
        go_wp2_with fail
        refine ER.out.mono ?_
        rintro x wA ⟨rfl, hsA, bA⟩
        obtain ⟨e2, he2⟩ : ∃ e2, sEi e cx K b = e2 := ⟨_, rfl⟩
        obtain ⟨c2, hc2⟩ : ∃ c2, sCi e cx K b = c2 := ⟨_, rfl⟩
        have HSA : Hid (Hs w5.heap.size wA [.c w5.heap.size c2, .d (w5.heap.size + 1) c2, .m p e2, .r p2 e2]) := Lib.hid (by rw [← he2, ← hc2]; exact hsA)
        have HFA : Hid (COk c2 ∧ Fine e2 ∧ e2.pre.length ≤ 16 * (j + 1)) := Lib.hid (by
          rw [← he2, ← hc2]
          refine ⟨sCi_ok HF.out.1 _ _, sEi_fine HF.out.2 HF.out.1 _ _, ?_⟩
          have := sEi_len e cx K b
          omega)
        have HOA := Lib.hid (HO9.out.trans bA)
        have HBA := Lib.hid (HB9.out.trans (bA.mono hq5))
        have hszA : w5.heap.size ≤ wA.heap.size := Nat.le_trans hsz9 bA.size
        clear he2 hc2 hsA bA ER HO9 HB9 hsz9 HF hle
        have OU := Lib.hid (HSA.out.out (i := 2) (p := p) rfl (by have := HFA.out.2.2; omega))
        have OR := Lib.hid (HSA.out.rout (i := 3) (p := p2) rfl (by have := HFA.out.2.2; omega))
        have SM := Lib.hid (fun u : World => same_any u c2 HFA.out.1.len)
        have HA1 := Lib.hid (HSA.out.cb (j := 0) (q := w5.heap.size) rfl)
        have HA2 := Lib.hid (HSA.out.rc (j := 1) (q := w5.heap.size + 1) rfl)
        obtain ⟨ol, hol⟩ : ∃ ol, e2.pre.length = ol := ⟨_, rfl⟩
        rw [hol] at OU OR
        clear hol
        obtain ⟨A, hA⟩ : ∃ A, cxA c2 = A := ⟨_, rfl⟩
        have hA1 : wA.heap[w5.heap.size]? = some (Obj.cells A 28 (0, 0)) := HA1.out.2.trans (by rw [← hA]; rfl)
        have hA2 : wA.heap[w5.heap.size + 1]? = some (Obj.cells A 32 (0, 0)) := HA2.out.2.trans (by rw [← hA]; rfl)
        have hA3 : A.size = 38 := by rw [← hA]; simp [cxA, HFA.out.1.len]
        rw [hA] at SM
        have HAA := Lib.hid (And.intro hA1 (And.intro hA2 hA3))
        clear hA hA1 hA2 hA3 HA1 HA2
        go_wp2_with fail
        refine OU.out.mono ?_
        rintro x wx ⟨rfl, rfl⟩
        go_wp2_with fail
        refine OR.out.mono ?_
        rintro x wx ⟨rfl, rfl⟩
        clear OU OR
        go_wp2_with (first
          | (refine wpList_load_row_g (by rfl) 28 _ rfl w5.heap.size rfl 28 A (0, 0) _ HAA.out.1 Tryd.underlying28 rfl (by rw [HAA.out.2.2]; kernel_rfl) ?_)
          | (refine wpList_load_row_g (by rfl) 32 _ rfl (w5.heap.size + 1) rfl 32 A (0, 0) _ HAA.out.2.1 Tryd.underlying32 rfl (by rw [HAA.out.2.2]; kernel_rfl) ?_))
        refine (SM.out _).mono ?_
        rintro x wB ⟨rfl, bB⟩
        have HSB := Lib.hid (HSA.out.below bB)
        have HOB := Lib.hid (HOA.out.trans (bB.mono hszA))
        have HBB := Lib.hid (HBA.out.trans (bB.mono (Nat.le_trans hq5 hszA)))
        have hszB : w5.heap.size ≤ wB.heap.size := Nat.le_trans hszA bB.size
        clear bB SM HSA HOA HBA HAA hszA
        go_wp2
        exact ⟨⟨j + 1, e2, c2, by omega, by go_num, hszB, HOB.out, HBB.out, HSB.out, HFA.out⟩, by simp [intOf]; omega⟩
    · obtain rfl : j = n := by omega
      have h2 : ¬ (j : Int) < (j : Int) := by omega
      -- FACTS
      have HS0 : Hid (Ph w5.heap.size W [.c w5.heap.size cx, .d (w5.heap.size + 1) cx, .m p e, .r p2 e] wr.drew) := Lib.hid ⟨HS.out.drew, below_drewN HB.out 1, hsz⟩
      have F1 : Hid (∀ u, Ph w5.heap.size W [.c w5.heap.size cx, .d (w5.heap.size + 1) cx, .m p e, .r p2 e] u → Calls Tryd.prog 24 #[.pointer (some ⟨p, 0, none⟩)] u fun x w' => ∃ V, x = .returned V ∧ Ph w5.heap.size W [.c w5.heap.size cx, .d (w5.heap.size + 1) cx, .b V (mCode e), .r p2 e] w') := Lib.hid fun u h => h.flush (i := 2) hq5 rfl HF.out.2 (by omega)
      have F2 : Hid (∀ V1 u, Ph w5.heap.size W [.c w5.heap.size cx, .d (w5.heap.size + 1) cx, .b V1 (mCode e), .r p2 e] u → Calls Tryd.prog 25 #[.pointer (some ⟨p2, 0, none⟩)] u fun x w' => ∃ V, x = .returned V ∧ Ph w5.heap.size W [.c w5.heap.size cx, .d (w5.heap.size + 1) cx, .b V1 (mCode e), .b V (mCode e)] w') := Lib.hid fun V1 u h => h.rflush (i := 3) hq5 rfl HF.out.2 (by omega)
      clear HS HB HO HF
      go_wp2
      -- REGION
      refine (wpIn_wide (n := 9)).1 (regionIn_inv (Inv := fun L a' w' => ∃ (V1 : Value) (V2 : Value), a' = { tmps := #[.slice a0 len0 cap0, .int .i64 a1, undef, undef, bif L 7 then .bool true else u4, .slice AK j cK, .slice AB j cB, .pointer (some ⟨w5.heap.size, 0, none⟩), .pointer (some ⟨w5.heap.size + 1, 0, none⟩), .pointer (some ⟨p, 0, none⟩), .pointer (some ⟨p2, 0, none⟩), .int .i64 (j : Int), u12, u13, .bool true, .bool false, .tuple #[.slice AK j cK, .slice AB j cB], .slice a0 len0 cap0, .tuple #[.slice AK j cK, .slice AB j cB], .slice AK j cK, .slice AB j cB, .agg (cxA (cxF 19)), .agg (cxA (cxF 19)), .pointer (some ⟨p, 0, none⟩), .pointer (some ⟨p2, 0, none⟩), .int .i64 (j : Int), .slice AK j cK, .int .i64 (j : Int), .bool false, u29, u30, u31, u32, u33, u34, u35, u36, u37, u38, u39, u40, u41, u42, u43, u44, u45, u46, u47, u48, u49, u50, u51, u52, u53, u54, u55, u56, u57, u58, u59, u60, u61, bif L 0 then .pointer (some ⟨p, 0, none⟩) else undef, bif L 1 then V1 else undef, bif L 2 then .string (strN (mCode e)) else undef, bif L 3 then .pointer (some ⟨p2, 0, none⟩) else undef, bif L 4 then V2 else undef, bif L 5 then .string (strN (mCode e)) else undef, bif L 6 then .bool true else undef], defers := [] } ∧ (True) ∧ (bif L 4 then (Ph w5.heap.size W [.c w5.heap.size cx, .d (w5.heap.size + 1) cx, .b V1 (mCode e), .b V2 (mCode e)] w') else (bif L 1 then (Ph w5.heap.size W [.c w5.heap.size cx, .d (w5.heap.size + 1) cx, .b V1 (mCode e), .r p2 e] w') else Ph w5.heap.size W [.c w5.heap.size cx, .d (w5.heap.size + 1) cx, .m p e, .r p2 e] w'))) (by kernel_rfl) (by kernel_rfl) ?start ?step ?fin)
      case start => exact ⟨undef, undef, rfl, trivial, HS0.out⟩
      case step =>
        intro i hi L a' w' hI hs hu
        obtain ⟨V1, V2, rfl, hcm, hph⟩ := hI
        have hL := hu.1
        have hi : i < 8 := hi
        obtain rfl | rfl | rfl | rfl | rfl | rfl | rfl | rfl := (by omega : i = 0 ∨ i = 1 ∨ i = 2 ∨ i = 3 ∨ i = 4 ∨ i = 5 ∨ i = 6 ∨ i = 7)
        · skip
          have n1 : L 1 = false := not_yet hL fun h => shut_at hs 1 0 (by kernel_rfl) (h)
          have n4 : L 4 = false := not_yet hL fun h => shut_at hs 1 0 (by kernel_rfl) (shut_at hs 4 1 (by kernel_rfl) (h))
          refine opIn_run (v := .pointer (some ⟨p, 0, none⟩)) (w' := w') rfl rfl (fun c h => by cases h) (fun _ => trivial) ?_ ⟨V1, V2, by simp [Act.put, upd, n1, n4, hL], hcm, by simpa [upd] using hph⟩
          simp only [n1, n4, hL, cond_true, cond_false]
          go_simp
        · skip
          have y0 : L 0 = true := up_at hu 0 (by kernel_rfl)
          have n4 : L 4 = false := not_yet hL fun h => shut_at hs 4 1 (by kernel_rfl) (h)
          simp only [y0, n4, hL, cond_false, cond_true] at hph
          refine opIn_call (f := 24) (args := #[.pointer (some ⟨p, 0, none⟩)]) (w' := w') rfl rfl (fun c h => by cases h) (fun _ => trivial) rfl ?_ ((callsIn_wide.2 (F1.out w' hph)).mono ?_)
          · simp only [y0, n4, hL, cond_true, cond_false]
            go_simp
          · rintro e w2 ⟨Vn, rfl, hx⟩
            exact ⟨_, rfl, Vn, V2, by simp [Act.put, upd, y0, n4, hL], trivial, by simp only [upd, y0, n4, hL]; exact hx⟩
        · skip
          have y0 : L 0 = true := shut_at hs 1 0 (by kernel_rfl) (up_at hu 1 (by kernel_rfl))
          have y1 : L 1 = true := up_at hu 1 (by kernel_rfl)
          have hcv : (convert 44 9 V1).run Tryd.prog w' = .ok (.string (strN (mCode e))) w' := by
            cases h4 : L 4 with
            | true => simp only [h4, y1, cond_true, cond_false] at hph; exact hph.1.conv (i := 2) rfl
            | false => simp only [h4, y1, cond_true, cond_false] at hph; exact hph.1.conv (i := 2) rfl
          refine opIn_run (v := .string (strN (mCode e))) (w' := w') rfl rfl (fun c h => by cases h) (fun _ => trivial) ?_ ⟨V1, V2, by simp [Act.put, upd, y0, y1, hL], hcm, by simpa [upd] using hph⟩
          simp only [y0, y1, hL, cond_true, cond_false]
          go_simp
        · skip
          have n4 : L 4 = false := not_yet hL fun h => shut_at hs 4 3 (by kernel_rfl) (h)
          refine opIn_run (v := .pointer (some ⟨p2, 0, none⟩)) (w' := w') rfl rfl (fun c h => by cases h) (fun _ => trivial) ?_ ⟨V1, V2, by simp [Act.put, upd, n4, hL], hcm, by simpa [upd] using hph⟩
          simp only [n4, hL, cond_true, cond_false]
          go_simp
        · skip
          have y0 : L 0 = true := shut_at hs 1 0 (by kernel_rfl) (up_at hu 1 (by kernel_rfl))
          have y1 : L 1 = true := up_at hu 1 (by kernel_rfl)
          have y3 : L 3 = true := up_at hu 3 (by kernel_rfl)
          simp only [y0, y1, y3, hL, cond_false, cond_true] at hph
          refine opIn_call (f := 25) (args := #[.pointer (some ⟨p2, 0, none⟩)]) (w' := w') rfl rfl (fun c h => by cases h) (fun _ => trivial) rfl ?_ ((callsIn_wide.2 (F2.out V1 w' hph)).mono ?_)
          · simp only [y0, y1, y3, hL, cond_true, cond_false]
            go_simp
          · rintro e w2 ⟨Vn, rfl, hx⟩
            exact ⟨_, rfl, V1, Vn, by simp [Act.put, upd, y0, y1, y3, hL], trivial, by simp only [upd, y0, y1, y3, hL]; exact hx⟩
        · skip
          have y0 : L 0 = true := shut_at hs 1 0 (by kernel_rfl) (shut_at hs 4 1 (by kernel_rfl) (up_at hu 4 (by kernel_rfl)))
          have y1 : L 1 = true := shut_at hs 4 1 (by kernel_rfl) (up_at hu 4 (by kernel_rfl))
          have y3 : L 3 = true := shut_at hs 4 3 (by kernel_rfl) (up_at hu 4 (by kernel_rfl))
          have y4 : L 4 = true := up_at hu 4 (by kernel_rfl)
          have hcv : (convert 44 9 V2).run Tryd.prog w' = .ok (.string (strN (mCode e))) w' := by
            simp only [y4, cond_true] at hph; exact hph.1.conv (i := 3) rfl
          refine opIn_run (v := .string (strN (mCode e))) (w' := w') rfl rfl (fun c h => by cases h) (fun _ => trivial) ?_ ⟨V1, V2, by simp [Act.put, upd, y0, y1, y3, y4, hL], hcm, by simpa [upd] using hph⟩
          simp only [y0, y1, y3, y4, hL, cond_true, cond_false]
          go_simp
        · skip
          have y0 : L 0 = true := shut_at hs 1 0 (by kernel_rfl) (shut_at hs 2 1 (by kernel_rfl) (up_at hu 2 (by kernel_rfl)))
          have y1 : L 1 = true := shut_at hs 2 1 (by kernel_rfl) (up_at hu 2 (by kernel_rfl))
          have y2 : L 2 = true := up_at hu 2 (by kernel_rfl)
          have y3 : L 3 = true := shut_at hs 4 3 (by kernel_rfl) (shut_at hs 5 4 (by kernel_rfl) (up_at hu 5 (by kernel_rfl)))
          have y4 : L 4 = true := shut_at hs 5 4 (by kernel_rfl) (up_at hu 5 (by kernel_rfl))
          have y5 : L 5 = true := up_at hu 5 (by kernel_rfl)
          refine opIn_run (v := .bool true) (w' := w') rfl rfl (fun c h => by cases h) (fun _ => trivial) ?_ ⟨V1, V2, by simp [Act.put, upd, y0, y1, y2, y3, y4, y5, hL], hcm, by simpa [upd] using hph⟩
          simp only [y0, y1, y2, y3, y4, y5, hL, cond_true, cond_false]
          go_simp
        · skip
          have y0 : L 0 = true := up_at hu 0 (by kernel_rfl)
          have y1 : L 1 = true := up_at hu 1 (by kernel_rfl)
          have y2 : L 2 = true := up_at hu 2 (by kernel_rfl)
          have y3 : L 3 = true := up_at hu 3 (by kernel_rfl)
          have y4 : L 4 = true := up_at hu 4 (by kernel_rfl)
          have y5 : L 5 = true := up_at hu 5 (by kernel_rfl)
          have y6 : L 6 = true := up_at hu 6 (by kernel_rfl)
          refine opIn_run (v := .bool true) (w' := w') rfl rfl (fun c h => by cases h) (fun _ => trivial) ?_ ⟨V1, V2, by simp [Act.put, upd, y0, y1, y2, y3, y4, y5, y6, hL], hcm, by simpa [upd] using hph⟩
          simp only [y0, y1, y2, y3, y4, y5, y6, hL, cond_true, cond_false]
          go_simp
      case fin =>
        intro L a' w' hall hI
        obtain ⟨V1, V2, rfl, hcm, hph⟩ := hI
        have l0 := hall 0 (by decide)
        have l1 := hall 1 (by decide)
        have l2 := hall 2 (by decide)
        have l3 := hall 3 (by decide)
        have l4 := hall 4 (by decide)
        have l5 := hall 5 (by decide)
        have l6 := hall 6 (by decide)
        have l7 := hall 7 (by decide)
        simp only [l0, l1, l2, l3, l4, l5, l6, l7, cond_true] at hph ⊢
        clear l0 l1 l2 l3 l4 l5 l6 l7 hall
        have HB := Lib.hid hph.2.1
        clear hph hcm F1 F2 HS0
        go_wp2
        go_ret
        exact ⟨rfl, HB.out⟩
      -- END
end Go.Proofs.YtdgkeghgfibolaaDoor
