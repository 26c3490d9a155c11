/- marks: MarksCuts walked. -/
import Derived.Test.YtlbfjaifemnkpaaMkRA
import Derived.Test.YtlbfjaifemnkpaaMkW7
import Derived.Laws.Rows
import Derived.Deep.LoopGhost
set_option linter.unusedVariables false
set_option linter.unusedSimpArgs false
namespace Go.Proofs.Ytlbfjaifemnkpaa
open Go.RowKit
set_option maxRecDepth 100000
attribute [local go_sem ↓] appSem_eq
theorem mainL_lenc (h : HV) (cs : List Cp) (l : List Int) (k : Nat) (hl : l.length = h.sn) : (mainL h cs l k).length = 42 + 3 * cs.length + 15 + k + 6 + 3 * k + (if 0 < h.sn then 6 + h.sn else 0) := by
  unfold mainL
  rw [List.length_append, headL_len]
  split
  · rw [segL_len, List.length_append, fldL_len, hl]
    simp
    omega
  · simp
    omega
set_option maxHeartbeats 16000000 in
theorem walk_marksCuts (f : FN) (A0 : Option Addr) (len0 cap0 : Nat) (z0 : List Int) (a1 : Option Addr) (len1 cap1 : Nat) (z1 : List Int) (w : World) (w0 : IsRow .i64 w A0 len0 cap0 z0) (s0 : -9223372036854775808 ≤ f.sb ∧ f.sb ≤ 9223372036854775807) (w1 : IsRow .u8 w a1 len1 cap1 z1) :
    Calls Try.prog 7 #[.agg (f.arr A0 len0 cap0), .slice a1 len1 cap1] w fun e w' => e = .returned (.bool true) ∧ Below w.heap.size w w' := by
  have HOKM := Lib.hid (fun (A : Option Addr) (C : Nat) (SA : Option Addr) (sn sc : Nat) (cs : List Cp) h1 h2 h3 => hok_make f (A := A) (C := C) (SA := SA) (sn := sn) (sc := sc) (cs := cs) h1 h2 h3)
  have MH0 := Lib.hid (fun (u : World) A2 C2 cs SA sn sc l h1 h2 h3 h4 h5 h6 h7 => main_hv f (w := u) (A2 := A2) (C2 := C2) (cs := cs) (SA := SA) (sn := sn) (sc := sc) (l := l) h1 h2 h3 h4 h5 h6 h7)
  have HDV := Lib.hid (fun SA sn sc u hu => head_hv f A0 len0 cap0 z0 SA sn sc u hu s0)
  obtain ⟨fc, hfc⟩ : ∃ fc, f.arr A0 len0 cap0 = fc := ⟨_, rfl⟩
  have hfs : fc.size = 21 := by rw [← hfc]; rfl
  rw [hfc] at HDV ⊢
  have HFS := Lib.hid hfs
  clear hfc hfs
  have hok := mkPN_ok f 8 (by omega)
  obtain ⟨M, hM⟩ : ∃ M, mkPN f 8 = M := ⟨_, rfl⟩
  rw [hM] at hok
  have HOK := Lib.hid hok
  clear hok
  obtain ⟨N, hN⟩ : ∃ N, mkN f = N := ⟨_, rfl⟩
  have hNb : 1 ≤ N ∧ N ≤ 4 := by
    have := within_rng f.nc 4 (by omega)
    rw [← hN]
    unfold mkN
    omega
  obtain ⟨DP, hDP⟩ : ∃ D, mkDP f = D := ⟨_, rfl⟩
  have HDP : Hid (1 ≤ DP ∧ DP ≤ 10) := Lib.hid (by
    have := within_rng f.dp 10 (by omega)
    rw [← hDP]
    unfold mkDP
    omega)
  rw [hM, hN, hDP] at HDV MH0 HOKM
  clear hM hN hDP
  go_enter Try.func7, Try.ntmps7
  go_wp2_with fail
  obtain ⟨B0, hB0⟩ : ∃ B, w.heap.size = B := ⟨_, rfl⟩
  obtain ⟨Wf, hWf⟩ : ∃ Wf, w.alloc (Obj.cells fc 24) = Wf := ⟨_, rfl⟩
  have HF0 : Hid (MkW w B0 [(fc, 24)] Wf) := Lib.hid (by
    have h0 : MkW w B0 [] w := ⟨fun i c e => by simp at e, Below.refl _ _, by simp; omega⟩
    have h1 := h0.more (by simp; omega) fc 24
    rw [← hWf]; exact h1)
  rw [hWf, hB0]
  have HBE := Lib.hid hB0
  clear hWf hB0
  refine (known17 _).mono ?_
  rintro e W0 ⟨rfl, hb⟩
  have HF1 := Lib.hid (HF0.out.keep hb)
  clear hb HF0
  obtain ⟨lo, hlo⟩ : ∃ lo, W0.heap.size = lo := ⟨_, rfl⟩
  have HLO : Hid (W0.heap.size = lo ∧ B0 < lo ∧ W0.heap[B0]? = some (.cells fc 24 (0, 0))) := Lib.hid ⟨hlo, by have := HF1.out.sz; simp at this; omega, HF1.out.b 0 _ rfl⟩
  clear hlo
  obtain ⟨Q, hQ⟩ : ∃ Q : List Cp → Prop, Q = fun cs => cs.length = N ∧ (∀ i c, cs[i]? = some c → KeyIs M.X M.Y M.OX M.OY f.sb DP f.sg i c) ∧ ((1 ≤ M.TX ∧ M.TX ≤ 832) ∧ (1 ≤ M.TY ∧ M.TY ≤ 832) ∧ cntT M.X M.Y M.TX M.TY ≤ 6) := ⟨_, rfl⟩
  have HQ := Lib.hid hQ
  have HD : Hid (∀ SA sn sc u, Below lo W0 u → lo ≤ u.heap.size → Calls Try.prog 12 #[.agg fc, .slice SA sn sc] u fun e w' => ∃ (A2 : Option Addr) (C2 : Nat) (cs : List Cp), e = .returned (.agg (M.hv A2 N C2 SA sn sc).arr) ∧ CRow u.heap.size w' (.slice A2 N C2) cs ∧ Q cs ∧ Below u.heap.size u w') := Lib.hid fun SA sn sc u hb hl => by
    refine (HDV.out SA sn sc u (IsRow.below w0 ?_)).mono ?_
    · exact (by rw [HBE.out]; exact HF1.out.bel : Below w.heap.size w W0).trans (hb.mono (by have := HLO.out.2.1; have := HBE.out; omega))
    · rintro e w' ⟨A2, C2, cs, he, hl, hc, hk, hb, htx⟩
      exact ⟨A2, C2, cs, he, hc, by rw [HQ.out]; exact ⟨hl, hk, htx⟩, hb⟩
  have HL1 := Lib.hid (IsRow.below w1 (by rw [HBE.out]; exact HF1.out.bel : Below w.heap.size w W0))
  clear hQ HDV w0 w1 s0
  have hlw : Below w.heap.size w W0 := by rw [HBE.out]; exact HF1.out.bel
  have HW0 := Lib.hid hlw
  clear hlw
  by_cases h50 : 50 < len1
  · have h50I : (50 : Int) < (len1 : Int) := by omega
    go_wp2
    go_ret
    first | exact HW0.out | exact ⟨rfl, HW0.out⟩
  · have h50I : ¬ (50 : Int) < (len1 : Int) := by omega
    have hrl := row_len HL1.out
    have hll := lst_of_row HL1.out
    have hoo : Oct (z1.take len1) := row_u8 HL1.out
    obtain ⟨l, hl⟩ : ∃ l, z1.take len1 = l := ⟨_, rfl⟩
    rw [hl] at hrl hll hoo
    have HLL := Lib.hid hll
    have HOO := Lib.hid hoo
    have HRL := Lib.hid hrl
    clear hl hrl hll hoo HL1
    go_wp2_with (refine wpList_load_row rfl 24 _ rfl B0 rfl 24 fc (0, 0) _ HLO.out.2.2 Try.underlying24 rfl (by rw [HFS.out]; kernel_rfl) ?_)
    refine (HD.out a1 len1 cap1 W0 (by rw [← HLO.out.1]; exact Below.refl _ _) (by rw [HLO.out.1]; exact Nat.le_refl _)).mono ?_
    rintro e W1 ⟨A, C, cs, rfl, hrow, KQ, hb1⟩
    rw [HQ.out] at KQ
    have MH := MH0.out W1 A C cs a1 len1 cap1 l KQ.1 hrow.cpl KQ.2.1 KQ.2.2 ((HLL.out.below hb1).more hb1.size) HRL.out.1 (by omega)
    have HK := Lib.hid (HOKM.out A C a1 len1 cap1 cs KQ.1 KQ.2.1 KQ.2.2)
    obtain ⟨hh, hhh⟩ : ∃ hh, M.hv A N C a1 len1 cap1 = hh := ⟨_, rfl⟩
    have hsn : hh.sn = len1 := by rw [← hhh]
    have HKK : Hid (HOk hh cs M.LV M.PR ∧ (1 ≤ cs.length ∧ cs.length ≤ 4) ∧ frameF hh.X hh.Y hh.OX hh.OY cs hh.TX hh.TY hh.LV hh.BW hh.BH hh.PR hh.ST hh.OD hh.LY hh.RC = 0) := by rw [← hhh]; exact HK
    rw [hhh] at MH
    clear HK
    have hlen := mainL_lenc hh cs l M.LV (by rw [hsn]; exact HRL.out.1)
    rw [KQ.1, hsn] at hlen
    obtain ⟨ML, hML⟩ : ∃ X, mainL hh cs l M.LV = X := ⟨_, rfl⟩
    obtain ⟨ha, hha⟩ : ∃ ha, hh.arr = ha := ⟨_, rfl⟩
    rw [hML, hha] at MH
    rw [hML] at hlen
    have hlv : M.LV ≤ 5 := HOK.out.lv
    have hML6 : ML.length ≤ 1000 := by
      have h4 := hNb.2
      split at hlen <;> omega
    have HML := Lib.hid (And.intro hML hML6)
    have HBW : Hid (Below w.heap.size w W1) := Lib.hid (HW0.out.trans (hb1.mono HW0.out.size))
    rw [hhh, hha]
    have HHS := Lib.hid hsn
    clear hML hML6 hlen KQ hb1 hrow hha hhh HD HQ hsn hlv
    go_wp2_with fail
    refine MH.mono ?_
    rintro e W3 ⟨v, rfl, hy, hb3⟩
    obtain ⟨A5, c5, rfl, hA5, _⟩ := By.form hy
    have hbk : Below W3.heap.size W3 (W3.alloc (Obj.cells #[.int .u8 255, .int .u8 144] 5)) := (Below.refl _ _).alloc (Nat.le_refl _) _
    have hlst : Lst (W3.alloc (Obj.cells #[.int .u8 255, .int .u8 144] 5)) (W3.alloc (Obj.cells #[.int .u8 255, .int .u8 144] 5)).heap.size (some ⟨W3.heap.size, 0, none⟩) (([255, 144] : List Int).map (Value.int .u8)) := by
      intro i u hu
      refine ⟨W3.heap.size, 0, rfl, by simp, ?_⟩
      rw [rb_cell (World.alloc_heap_new W3 _) (0 + i)]
      simpa using hu
    have hb3' : Below W1.heap.size W1 (W3.alloc (Obj.cells #[.int .u8 255, .int .u8 144] 5)) := hb3.trans (hbk.mono hb3.size)
    obtain ⟨W4, hW4⟩ : ∃ W4, W3.alloc (Obj.cells #[.int .u8 255, .int .u8 144] 5) = W4 := ⟨_, rfl⟩
    rw [hW4] at hbk hlst hb3'
    obtain ⟨A6, m6, c6, W5, hr, hown, hg⟩ := app_lst (m := 2) (c := 2) (hy.below hbk) (by simp) hlst rfl hb3'.size (by have := HML.out.2; omega)
    have hbel := (hy.below hbk).bel hb3' hb3'.size hg
    obtain ⟨gT, cT, hv, hgl, hgl2, hcc, hcm⟩ := own_form hown (by simp)
    injection hv with hv1 hv2 hv3
    subst hv1 hv2 hv3
    obtain ⟨T, hT⟩ : ∃ T, ML ++ [255, 144] = T := ⟨_, rfl⟩
    rw [hT] at hown hr hcc
    have hTl : T.length = ML.length + 2 := by rw [← hT]; simp
    have HT_ := Lib.hid hT
    have HOWN := Lib.hid hown
    have HB5 : Hid (Below w.heap.size w W5) := Lib.hid (HBW.out.trans (hbel.mono HBW.out.size))
    obtain ⟨m5, hm5⟩ : ∃ m, T.length = m := ⟨_, rfl⟩
    rw [hm5] at hTl hr hcc
    have HM5 := Lib.hid hm5
    have hm5b : m5 ≤ 1002 := by have := HML.out.2; omega
    have hcI : (m5 : Int) ≤ (c6 : Int) := by omega
    have PF : Hid (∀ (j : Nat) u, j < m5 → Below W5.heap.size W5 u → Calls Try.prog 16 #[.slice (some ⟨gT, 0, none⟩) j c6] u fun e w' => ∃ cs : Array Value, e = .returned (.tuple #[.agg cs, .int .i64 0, .int .i64 10]) ∧ cs.size = 18 ∧ cs.all (·.oneCell') = true ∧ Below u.heap.size u w') := Lib.hid fun j u hj hu => by
      exact parse_front HKK.out.1 l HOO.out (by rw [HHS.out]; exact HRL.out.1) (by rw [HRL.out.1]; omega) T (by rw [HML.out.1]; exact HT_.out) j gT c6 (by rw [HM5.out]; exact hj) (by rw [HM5.out]; omega) u (HOWN.out.below hu).lst
    have PW : Hid (∀ u, Below W5.heap.size W5 u → Calls Try.prog 16 #[.slice (some ⟨gT, 0, none⟩) m5 c6] u fun e w' => ∃ (cs : Array Value) (n' : Int), e = .returned (.tuple #[.agg cs, .int .i64 n', .int .i64 0]) ∧ (cs.size = 18 ∧ cs.all (·.oneCell') = true) ∧ Below u.heap.size u w') := Lib.hid fun u hu => by
      have hmi := main_is hh cs l [] M.LV (by rw [HHS.out]; exact HRL.out.1)
      rw [HML.out.1, HT_.out] at hmi
      have hno : Oct [] := fun x hx => by cases hx
      have hL := (HOWN.out.below hu).lst
      have hN5 := HM5.out
      rw [hmi] at hL hN5
      have hfin := (sAll_rds HKK.out.1 l).fin HKK.out.1 HKK.out.2.1.1 0 HKK.out.2.2 (.inr ⟨rfl, HKK.out.2.1.2, by rw [HRL.out.1]; omega⟩)
      refine (parse_fin _ m5 c6 4 _ [] _ 0 u hN5 (by simp) (by omega) hL (main_oct hh cs M.LV (remL_oct HOO.out hno)) (run_main HKK.out.1 l [] HOO.out hno (by rw [HRL.out.1]; omega) (by simp)) (by simp) hfin).mono ?_
      rintro e w' ⟨cx, n', rfl, hf⟩
      exact ⟨cx, n', rfl, ⟨hf.size, hf.one⟩, hf.bel⟩
    clear hm5 hT hown hbel hy hb3 hb3' hbk hlst hA5 MH hg hgl hgl2 hcc hcm hTl HKK HML HHS HRL HOO HLL HBW HOKM MH0
    go_wp2_with fail
    go_loopg [6] m5 (fun g v wr => ∃ (j : Nat), j + g = m5 ∧ v = .int .i64 (j : Int) ∧ Hid (Below W5.heap.size W5 wr))
    case atStart => exact ⟨0, by omega, rfl, Lib.hid (Below.refl _ _)⟩
    case round =>
      obtain ⟨j, hjg, rfl, HI⟩ := hrel
      obtain ⟨wa, hwa⟩ : ∃ wa, wa = wr := ⟨wr, rfl⟩
      subst hwa
      by_cases hj : j < m5
      · obtain ⟨g1, rfl⟩ : ∃ g1, gk = g1 + 1 := ⟨gk - 1, by omega⟩
        have hjI : (j : Int) < (m5 : Int) ∧ (0 : Int) ≤ (j : Int) ∧ (j : Int) ≤ (c6 : Int) := by omega
        have PJ := PF.out j wa hj HI.out
        go_wp2_with fail
        refine PJ.mono ?_
        rintro e Wp ⟨cx, rfl, hcs, hco, hbp⟩
        go_upto_region 10 with (refine wpList_store_row rfl 33 _ _ rfl Wp.heap.size cx rfl rfl 33 #[.int .i64 0, .int .i64 0, .int .i64 0, .int .i64 0, .slice none 0 0, .int .i64 0, .int .i64 0, .int .i64 0, .int .i64 0, .int .i64 0, .int .i64 0, .int .i64 0, .int .i64 0, .int .i64 0, .bool false, .bool false, .bool false, .slice none 0 0] (World.alloc_heap_new Wp _) (by rw [hcs]; kernel_rfl) (by rw [hcs]; rfl) hco ?_)
        have hbq : Below Wp.heap.size Wp ((Wp.alloc (Obj.cells #[.int .i64 0, .int .i64 0, .int .i64 0, .int .i64 0, .slice none 0 0, .int .i64 0, .int .i64 0, .int .i64 0, .int .i64 0, .int .i64 0, .int .i64 0, .int .i64 0, .int .i64 0, .int .i64 0, .bool false, .bool false, .bool false, .slice none 0 0] 33)).setRow Wp.heap.size cx) := below_setRow ((Below.refl _ _).alloc (Nat.le_refl _) _) (Nat.le_refl _) _
        obtain ⟨Wq, hWq⟩ : ∃ Wq, (Wp.alloc (Obj.cells #[.int .i64 0, .int .i64 0, .int .i64 0, .int .i64 0, .slice none 0 0, .int .i64 0, .int .i64 0, .int .i64 0, .int .i64 0, .int .i64 0, .int .i64 0, .int .i64 0, .int .i64 0, .int .i64 0, .bool false, .bool false, .bool false, .slice none 0 0] 33)).setRow Wp.heap.size cx = Wq := ⟨_, rfl⟩
        rw [hWq] at hbq ⊢
        have HWq : Hid (Below W5.heap.size W5 Wq) := Lib.hid (by
          have h1 := HI.out.trans (hbp.mono HI.out.size)
          exact h1.trans (hbq.mono h1.size))
        clear hWq hbq hcs hco hbp PJ HI
        go_wp2
        go_roundg g1
        case measure => omega
        case rel => exact ⟨j + 1, by omega, by simp, HWq⟩
      · obtain rfl : j = m5 := by omega
        have hjI : ¬ (j : Int) < (j : Int) := by omega
        have PJ := PW.out wa HI.out
        go_wp2_with fail
        refine PJ.mono ?_
        rintro e Wp ⟨cx, n', rfl, ⟨hcs, hco⟩, hbp⟩
        go_upto_region 13 with (refine wpList_store_row rfl 33 _ _ rfl Wp.heap.size cx rfl rfl 33 #[.int .i64 0, .int .i64 0, .int .i64 0, .int .i64 0, .slice none 0 0, .int .i64 0, .int .i64 0, .int .i64 0, .int .i64 0, .int .i64 0, .int .i64 0, .int .i64 0, .int .i64 0, .int .i64 0, .bool false, .bool false, .bool false, .slice none 0 0] (World.alloc_heap_new Wp _) (by rw [hcs]; kernel_rfl) (by rw [hcs]; rfl) hco ?_)
        have hbq : Below Wp.heap.size Wp ((Wp.alloc (Obj.cells #[.int .i64 0, .int .i64 0, .int .i64 0, .int .i64 0, .slice none 0 0, .int .i64 0, .int .i64 0, .int .i64 0, .int .i64 0, .int .i64 0, .int .i64 0, .int .i64 0, .int .i64 0, .int .i64 0, .bool false, .bool false, .bool false, .slice none 0 0] 33)).setRow Wp.heap.size cx) := below_setRow ((Below.refl _ _).alloc (Nat.le_refl _) _) (Nat.le_refl _) _
        obtain ⟨Wq, hWq⟩ : ∃ Wq, (Wp.alloc (Obj.cells #[.int .i64 0, .int .i64 0, .int .i64 0, .int .i64 0, .slice none 0 0, .int .i64 0, .int .i64 0, .int .i64 0, .int .i64 0, .int .i64 0, .int .i64 0, .int .i64 0, .int .i64 0, .int .i64 0, .bool false, .bool false, .bool false, .slice none 0 0] 33)).setRow Wp.heap.size cx = Wq := ⟨_, rfl⟩
        rw [hWq] at hbq ⊢
        have HWq : Hid (Below w.heap.size w Wq) := Lib.hid (by
          have h0 := HB5.out.trans (HI.out.mono HB5.out.size)
          have h1 := h0.trans (hbp.mono h0.size)
          exact h1.trans (hbq.mono h1.size))
        clear hWq hbq hcs hco hbp PJ HI
        go_wp2
        go_ret
        first | exact HWq.out | exact ⟨rfl, HWq.out⟩
end Go.Proofs.Ytlbfjaifemnkpaa
