/- Trees: any bytes, asked at any leaves (TreeHears). -/
import Derived.Test.YthgbnkcbcepjdaaTrH5
import Derived.Deep.LoopGhost
set_option linter.unusedVariables false
set_option linter.unusedSimpArgs false
namespace Go.Proofs.Ythgbnkcbcepjdaa
open Go.RowKit
set_option maxRecDepth 100000
theorem row_u8h {w : World} {a : Option Addr} {len cap : Nat} {zs : List Int} (h : IsRow .u8 w a len cap zs) : ∀ x ∈ zs.take len, 0 ≤ x ∧ x ≤ 255 := by
  rcases h with ⟨_, _, _, rfl⟩ | ⟨x, _, _, _, _, _, hw⟩
  · simp
  · intro n hn
    have := hw n (List.mem_of_mem_take hn)
    have hmin : IntKind.u8.min = 0 := rfl
    have hmax : IntKind.u8.max = 255 := rfl
    simp only [Lit.wf, Bool.and_eq_true, decide_eq_true_eq] at this
    omega
/-- The sides' facts. -/
def Dms (W H d : Nat) : Prop := (dimF W (d - 1) = 1 ∧ dimF H (d - 1) = 1) ∧ ∀ i, i + 1 < d → 1 < dimF W i ∨ 1 < dimF H i
theorem new_h (o : Nat → Nat) (W H : Nat) (w : World) (hW : W ≤ 7 ∧ H ≤ 7) : Calls Try.prog 10 #[.int .i64 (W : Int), .int .i64 (H : Int)] w fun e w' => ∃ p d, e = .returned (.pointer (some ⟨p, 0, none⟩)) ∧ (TrO (onew o w 1) 1 w' p W H d T0 ∨ (W * H = 0 ∧ PL w' p 0)) ∧ Below w.heap.size w w' ∧ (1 ≤ d ∧ d ≤ 8) ∧ (0 < W * H → Dms W H d) := by
  rcases (by rcases Nat.eq_zero_or_pos W with e | e
             · exact .inl (.inl e)
             · rcases Nat.eq_zero_or_pos H with e2 | e2
               · exact .inl (.inr e2)
               · exact .inr ⟨e, e2⟩ : (W = 0 ∨ H = 0) ∨ (1 ≤ W ∧ 1 ≤ H)) with h | h
  · have h0 : W * H = 0 := by rcases h with rfl | rfl <;> simp
    exact (ptnew_zero W H w h (by omega)).mono fun e w' ⟨he, h1, h2⟩ => ⟨_, 1, he, .inr ⟨h0, h1⟩, h2, by omega, fun h => by omega⟩
  · refine (new_o o 1 W H w (by omega) (by omega)).mono ?_
    rintro e w' ⟨p, d, he, h1, h2, h3⟩
    have h1' := h1
    obtain ⟨L, cl, sh, _, hs, rfl, _⟩ := h1'
    exact ⟨p, _, he, .inl h1, h2, hs.len, fun _ => ⟨hs.top, hs.mid⟩⟩
theorem rnew_h (W H d : Nat) (w : World) (hW : W ≤ 7 ∧ H ≤ 7) (hd : 1 ≤ d ∧ d ≤ 8) (hm : 0 < W * H → Dms W H d) : Calls Try.prog 11 #[.int .i64 (W : Int), .int .i64 (H : Int)] w fun e w' => ∃ q L tot cap, e = .returned (.pointer (some ⟨q, 0, none⟩)) ∧
    ((RTr w' q L tot cap W H d false T0 ∧ w.heap.size ≤ q ∧ w.heap.size ≤ L) ∨ (W * H = 0 ∧ w'.heap[q]? = some (.cells #[.slice none 0 0, .int .i64 0, .bool false] 64 (0, 0)))) ∧ Below w.heap.size w w' := by
  rcases (by rcases Nat.eq_zero_or_pos W with e | e
             · exact .inl (.inl e)
             · rcases Nat.eq_zero_or_pos H with e2 | e2
               · exact .inl (.inr e2)
               · exact .inr ⟨e, e2⟩ : (W = 0 ∨ H = 0) ∨ (1 ≤ W ∧ 1 ≤ H)) with h | h
  · have h0 : W * H = 0 := by rcases h with rfl | rfl <;> simp
    exact (rtnew_zero W H w h (by omega)).mono fun e w' ⟨he, h1, h2⟩ => ⟨_, 0, 0, 0, he, .inr ⟨h0, h1⟩, h2⟩
  · obtain ⟨ht, hmd⟩ := hm (Nat.mul_pos h.1 h.2)
    exact (rtnew_any W H d w (by omega) (by omega) hd ht hmd).mono fun e w' ⟨q, L, tot, cap, he, h1, h2, h3, h4⟩ => ⟨q, L, tot, cap, he, .inl ⟨h1, h2, h3⟩, h4⟩
theorem rsim_end {F : List Int} {s s2 : RS} (h : RSim F s s2) : endK F s = endK F s2 ∧ endE F s = endE F s2 := by
  rcases h with rfl | ⟨h1, h2⟩
  · exact ⟨rfl, rfl⟩
  · exact ⟨(end_past h1).2.trans (end_past h2).2.symm, (end_past h1).1.trans (end_past h2).1.symm⟩
set_option maxHeartbeats 32000000 in
set_option pp.deepTerms true in
set_option pp.maxSteps 10000000 in
theorem walk_treeHears (a0 : Int) (a1 : Int) (a2 : Option Addr) (len2 cap2 : Nat) (z2 : List Int) (a3 : Option Addr) (len3 cap3 : Nat) (z3 : List Int) (a4 : Option Addr) (len4 cap4 : Nat) (z4 : List Int) (w : World) (w0 : (Lit.int .i64 a0).wf = true) (w1 : (Lit.int .i64 a1).wf = true) (w2 : IsRow .u8 w a2 len2 cap2 z2) (w3 : IsRow .i64 w a3 len3 cap3 z3) (w4 : IsRow .i64 w a4 len4 cap4 z4) :
    Calls Try.prog 3 #[.int .i64 a0, .int .i64 a1, .slice a2 len2 cap2, .slice a3 len3 cap3, .slice a4 len4 cap4] w fun e w' => e = .returned (.bool true) ∧ Below w.heap.size w w' := by
  have hbd0 := bd_i64 w0
  have hbd1 := bd_i64 w1
  have hl2 := lst_of_row w2
  obtain ⟨hlen, hlc, hcm, hnil⟩ := row_len w2
  have hb8 := row_u8h w2
  obtain ⟨_, hlc3, hcm3, _⟩ := row_len w3
  obtain ⟨_, hlc4, hcm4, _⟩ := row_len w4
  unfold maxLen at hcm hcm3 hcm4
  have H3 := Lib.hid w3
  have H4 := Lib.hid w4
  clear w0 w1 w2 w3 w4
  obtain ⟨F, hF⟩ : ∃ F, z2.take len2 = F := ⟨_, rfl⟩
  rw [hF] at hl2 hlen hb8
  have HL := Lib.hid hl2
  have HLen := Lib.hid hlen
  have HNil := Lib.hid hnil
  have HB8 := Lib.hid hb8
  clear hF hl2 hlen hnil hb8
  by_cases c100 : len2 ≤ 100
  · have cni : ¬ (100 : Int) < (len2 : Int) := by omega
    have K := Lib.hid (known13 w)
    go_enter Try.func3, Try.ntmps3
    go_wp2_with fail
    refine K.out.mono ?_
    rintro e u0 ⟨rfl, hb⟩
    have HB0 := Lib.hid hb
    clear hb K
    go_wp2_with fail
    refine (some13 a0 8 _ (by omega) (by omega)).mono ?_
    rintro e w' ⟨rfl, rfl⟩
    have hWb := (modN_lt a0 8 (by omega)).1
    generalize modN a0 8 = W at *
    go_wp2_with fail
    refine (some13 a1 8 _ (by omega) (by omega)).mono ?_
    rintro e w' ⟨rfl, rfl⟩
    have hHb := (modN_lt a1 8 (by omega)).1
    generalize modN a1 8 = H at *
    go_wp2_with fail
    refine (new_h (fun _ => 0) W H u0 (by omega)).mono ?_
    rintro e u1 ⟨p, d, rfl, hT1, hb1, hd, hdm⟩
    have HT1 := Lib.hid hT1
    have HB1 := Lib.hid (HB0.out.trans (hb1.mono HB0.out.size))
    have HD := Lib.hid hdm
    have hus := hb1.size
    clear hT1 hb1 hdm
    go_wp2_with fail
    refine (rnew_h W H d u1 (by omega) hd HD.out).mono ?_
    rintro e u2 ⟨q, L, tot, cap, rfl, hx, hb2⟩
    obtain ⟨o, ho⟩ : ∃ o, onew (onew (fun _ => 0) u0 1) u1 3 = o := ⟨_, rfl⟩
    have hs0 := HB0.out.size
    have HT2 : Hid (TrO o 1 u2 p W H d T0 ∨ (W * H = 0 ∧ PL u2 p 0)) := Lib.hid (by
      rw [← ho]
      rcases HT1.out with h | ⟨h0, h⟩
      · exact .inl (h.below hb2 (fun k hk => onew_old _ u1 3 k hk))
      · exact .inr ⟨h0, h.below hb2⟩)
    have HX2 : Hid ((RTr u2 q L tot cap W H d false T0 ∧ o q = 3 ∧ o L = 3) ∨ (W * H = 0 ∧ u2.heap[q]? = some (.cells #[.slice none 0 0, .int .i64 0, .bool false] 64 (0, 0)))) := Lib.hid (by
      rw [← ho]
      rcases hx with ⟨h, h1, h2⟩ | h
      · exact .inl ⟨h, onew_new _ u1 3 h1, onew_new _ u1 3 h2⟩
      · exact .inr h)
    have HBS : Hid (Bs o w.heap.size) := Lib.hid (by rw [← ho]; exact ((Bs.zero _).new hs0 1).new (by omega) 3)
    have HB2 := Lib.hid (HB1.out.trans (hb2.mono (by omega)))
    have hs2 := HB2.out.size
    clear hx hb2 ho HT1
    go_wp2_with fail
    refine (brnew_any HLen.out HNil.out (HL.out.below HB2.out) (by omega)).mono ?_
    rintro e u3 ⟨rq, rfl, hr, hb3⟩
    have HR3 := Lib.hid hr
    have HB3 := Lib.hid hb3
    clear hr hb3
    have QN := Lib.hid (@qbnew_any a2 cap2 F u3)
    rw [HLen.out] at QN
    go_wp2_with fail
    refine QN.out.mono ?_
    rintro e u4 ⟨r2, rfl, hq2, hq, hb4⟩
    have HS0 := Lib.hid (HS.begin HT2.out HX2.out HBS.out HL.out HB2.out HR3.out HB3.out hq hq2 hb4)
    clear HT2 HX2 HBS HR3 HB3 hq hq2 hb4 HB0 HB1 HB2 QN hus hs0 hs2
    obtain ⟨N, hN⟩ : ∃ N, W * H = N := ⟨_, rfl⟩
    have hNb : N ≤ 49 := by rw [← hN]; exact Nat.mul_le_mul (by omega : W ≤ 7) (by omega : H ≤ 7)
    have hNI : (W : Int) * (H : Int) = (N : Int) := by rw [← hN]; simp
    have HN := Lib.hid hN
    obtain ⟨m, hm⟩ : ∃ m, min (min len3 len4) 60 = m := ⟨_, rfl⟩
    have hm1 : m ≤ len3 ∧ m ≤ len4 ∧ m ≤ 60 := by omega
    have hm2 : m = len3 ∨ m = len4 ∨ m = 60 := by omega
    clear hN hm
    go_wp2_with fail
    go_loopg [15] m (fun g v15 wr => ∃ (i : Nat) (o : Nat → Nat) (T : TT) (s s2 : RS), i + g = m ∧ v15 = .int .i64 (i : Int) ∧ Hid (HS o w wr p W H d T rq F s q L tot cap T r2 a2 cap2 s2) ∧ Hid (RSim F s s2) ∧ (s.l ≤ 8 ∧ s2.l ≤ 8) ∧ Hid (TOk T ∧ LowOk T) ∧ (s.n ≤ i * 96 ∧ s2.n ≤ i * 96))
    case atStart => exact ⟨0, _, T0, _, _, by omega, rfl, HS0, Lib.hid (.inl rfl), by simp, Lib.hid ⟨fun i m => ⟨by show (0 : Int) ≤ 0; omega, by intro h; cases h⟩, fun i m => by show (0 : Int) ≤ 0 ∧ (0 : Int) ≤ 1000; omega⟩, by simp⟩
    case round =>
      obtain ⟨i, o, T, s, s2, hig, rfl, HH, HSim, hsl, HTo, hsn⟩ := hrel
      clear HS0
      by_cases hlt : i < m
      · obtain ⟨g1, rfl⟩ : ∃ g1, gk = g1 + 1 := ⟨gk - 1, by omega⟩
        have e1 : decide ((i : Int) < (len3 : Int)) = true := by simp; omega
        have e2 : decide ((i : Int) < (len4 : Int)) = true := by simp; omega
        have e3 : decide ((i : Int) < 60) = true := by simp; omega
        have e4 : (i : Int) < (len3 : Int) ∧ (i : Int) < (len4 : Int) ∧ (0 : Int) ≤ (i : Int) := by omega
        obtain ⟨b3, o3, rfl, c3⟩ := row_at H3.out (k := i) (by omega) HH.out.bel
        obtain ⟨b4, o4, rfl, c4⟩ := row_at H4.out (k := i) (by omega) HH.out.bel
        have hmb := (modN_lt (z4.getD i 0) 12 (by omega)).1
        have WB := Lib.hid (fun u => some13 (z4.getD i 0) 12 u (by omega) (by omega))
        generalize z3.getD i 0 = y at *
        generalize z4.getD i 0 = yb at *
        generalize modN yb 12 = mb at *
        obtain ⟨bd, hbd⟩ : ∃ bd : Int, (mb : Int) - 1 = bd := ⟨_, rfl⟩
        have hbb : -1 ≤ bd ∧ bd ≤ 10 := by omega
        have hfu : bd.toNat + 2 ≤ 12 := by omega
        have hdf : d * (bd.toNat + 2) ≤ 96 := Nat.mul_le_mul hd.2 hfu
        by_cases h9 : 0 < y.tmod 9
        · obtain ⟨kk, hkk⟩ : ∃ kk, y % ((N : Int) + 1) = kk := ⟨_, rfl⟩
          have hkr : 0 ≤ kk ∧ kk < (N : Int) + 1 := by rw [← hkk]; exact ⟨Int.emod_nonneg _ (by omega), Int.emod_lt_of_pos _ (by omega)⟩
          have WN : Hid (∀ u, Calls Try.prog 9 #[.int .i64 y, .int .i64 ((N : Int) + 1)] u fun e w' => e = .returned (.int .i64 kk) ∧ u = w') := Lib.hid fun u => by
            have h := within13 y ((N : Int) + 1) u (by omega) (by omega)
            rwa [hkk] at h
          clear hkk
          by_cases hin : kk < (N : Int)
          · skip
            obtain ⟨k, hk⟩ : ∃ k : Nat, kk = (k : Int) := ⟨(kk).toNat, by omega⟩
            have hkN : k < W * H := by rw [HN.out]; omega
            obtain ⟨t1, t2⟩ := HTo.out
            have hsim := walk_sim (F := F) (bound := bd) (W := W) (x := k % W) (y := k / W) d s s2 T 0 HSim.out hsl.1 hsl.2 t1 (by omega)
            have hgr := walkT_n (F := F) (bound := bd) (f := bd.toNat + 2) (W := W) (x := k % W) (y := k / W) d s T 0
            have C1 := HH.out.dec hkN bd (by omega) (by rw [HLen.out]; omega) HB8.out hsl.1 (by omega)
            have e9 : (decM F bd W d k s T).2.1 = (rdecM F bd W d k s2 T).2.1 := by
              show (walkT (dstep F bd) bd (bd.toNat + 2) W (k % W) (k / W) d (s, T, 0)).2.1 = (walkT (rqstep F) bd (bd.toNat + 2) W (k % W) (k / W) d (s2, T, 0)).2.1
              rw [hsim.1]
            rw [e9] at C1
            obtain ⟨T', hT'⟩ : ∃ T', (rdecM F bd W d k s2 T).2.1 = T' := ⟨_, rfl⟩
            have hTo' : TOk T' := by rw [← hT']; exact hsim.2.2.2.2
            have hs1 : RSim F (decM F bd W d k s T).1 (rdecM F bd W d k s2 T).1 ∧ (decM F bd W d k s T).1.l ≤ 8 ∧ (rdecM F bd W d k s2 T).1.l ≤ 8 := ⟨hsim.2.1, hsim.2.2.1, hsim.2.2.2.1⟩
            have hgr2 : (decM F bd W d k s T).1.n ≤ s.n + d * (bd.toNat + 2) := hgr
            obtain ⟨s', hs'⟩ : ∃ s', (decM F bd W d k s T).1 = s' := ⟨_, rfl⟩
            obtain ⟨s2', hs2'⟩ : ∃ s2', (rdecM F bd W d k s2 T).1 = s2' := ⟨_, rfl⟩
            rw [hs', hs2'] at hs1
            rw [hs'] at hgr2 C1
            rw [hT'] at C1
            obtain ⟨bv, hbv⟩ : ∃ bv, ((T' 0 k).said && decide ((T' 0 k).num < bd)) = bv := ⟨_, rfl⟩
            have hbv1 : (decide (0 ≤ knF T' k) && decide (knF T' k < bd)) = bv := by
              rw [← hbv]
              have := (hTo' 0 k).2
              unfold knF
              cases hsd : (T' 0 k).said with
              | true =>
                have h0 : decide ((0 : Int) ≤ (T' 0 k).num) = true := by simpa using this hsd
                simp only [if_true, h0, Bool.true_and]
              | false => simp
            rw [hbv1] at C1
            have C1 := Lib.hid C1
            have C2 : Hid (∀ u o, HS o w u p W H d T' rq F s' q L tot cap T r2 a2 cap2 s2 → Calls Try.prog 15 #[.pointer (some ⟨q, 0, none⟩), .pointer (some ⟨r2, 0, none⟩), .int .i64 (k : Int), .int .i64 bd] u fun e w' => e = .returned (.bool bv) ∧ HS (onew o u 3) w w' p W H d T' rq F s' q L tot cap T' r2 a2 cap2 s2' ∧ LowOk T' ∧ s2'.n ≤ s2.n + d * (bd.toNat + 2)) := Lib.hid fun u o hh => by
              have h := hh.rdec hkN (by omega) hd bd (by omega) t2 (by rw [HLen.out]; omega) HB8.out hsl.2 (by omega)
              rw [hT', hs2', hbv] at h
              exact h
            obtain ⟨kv, hkv⟩ : ∃ kv, knF T' k = kv := ⟨_, rfl⟩
            have C3 : Hid (∀ u o, HS o w u p W H d T' rq F s' q L tot cap T' r2 a2 cap2 s2' → Calls Try.prog 16 #[.pointer (some ⟨p, 0, none⟩), .int .i64 (k : Int)] u fun e w' => e = .returned (.int .i64 kv) ∧ HS o w w' p W H d T' rq F s' q L tot cap T' r2 a2 cap2 s2') := Lib.hid fun u o hh => by
              have h := hh.known hkN
              rwa [hkv] at h
            have C4 : Hid (∀ u o, HS o w u p W H d T' rq F s' q L tot cap T' r2 a2 cap2 s2' → Calls Try.prog 17 #[.pointer (some ⟨q, 0, none⟩), .int .i64 (k : Int)] u fun e w' => e = .returned (.int .i64 kv) ∧ HS o w w' p W H d T' rq F s' q L tot cap T' r2 a2 cap2 s2') := Lib.hid fun u o hh => by
              have h := hh.rknown hkN hd.1 (by rw [HN.out]; omega)
              rwa [hkv] at h
            have HT' := Lib.hid hTo'
            have HS1 := Lib.hid hs1
            have HG2 := Lib.hid hgr2
            clear hsim hgr hgr2 hs1 hTo' e9 hT' hs' hs2' hbv hbv1 hkv t1 t2
            subst hk
            go_wp2_with fail
            refine (WN.out _).mono ?_
            rintro e w' ⟨rfl, rfl⟩
            go_wp2_with fail
            refine (WB.out _).mono ?_
            rintro e w' ⟨rfl, rfl⟩
            go_wp2_with fail
            refine C1.out.mono ?_
            rintro e v1 ⟨rfl, h1⟩
            have Z1 := Lib.hid h1
            clear h1
            go_wp2_with fail
            refine (C2.out _ _ Z1.out).mono ?_
            rintro e v2 ⟨rfl, h1, h2, h3⟩
            have Z2 := Lib.hid h1
            have ZL := Lib.hid h2
            clear h1 h2 Z1 C1 C2
            go_wp2_with fail
            refine (C3.out _ _ Z2.out).mono ?_
            rintro e v3 ⟨rfl, h1⟩
            have Z3 := Lib.hid h1
            clear h1 Z2
            go_wp2_with fail
            refine (C4.out _ _ Z3.out).mono ?_
            rintro e v4 ⟨rfl, h1⟩
            have Z4 := Lib.hid h1
            have e8 : (kv != kv) = false := by simp
            have e7 : (bv != bv) = false := by simp
            have hgf := HG2.out
            have hl1 := HS1.out.2
            clear h1 Z3 C3 C4
            go_wp2_with fail
            go_roundg g1
            case rel => exact ⟨i + 1, _, T', s', s2', by omega, by go_num, Z4, Lib.hid HS1.out.1, hl1, Lib.hid ⟨HT'.out, ZL.out⟩, by omega⟩
            case measure => omega
          · skip
            have hko : kk < 0 ∨ ((W * H : Nat) : Int) ≤ kk := by rw [HN.out]; omega
            have HK := Lib.hid hko
            clear hko
            go_wp2_with fail
            refine (WN.out _).mono ?_
            rintro e w' ⟨rfl, rfl⟩
            go_wp2_with fail
            refine (WB.out _).mono ?_
            rintro e w' ⟨rfl, rfl⟩
            go_wp2_with fail
            refine (HH.out.dec_no HK.out).mono ?_
            rintro e v1 ⟨rfl, h1⟩
            have Z1 := Lib.hid h1
            clear h1
            go_wp2_with fail
            refine (Z1.out.rdec_no HK.out).mono ?_
            rintro e v2 ⟨rfl, h1⟩
            have Z2 := Lib.hid h1
            clear h1 Z1
            go_wp2_with fail
            refine (Z2.out.known_no HK.out).mono ?_
            rintro e v3 ⟨rfl, h1⟩
            have Z3 := Lib.hid h1
            clear h1 Z2
            go_wp2_with fail
            refine (Z3.out.rknown_no HK.out).mono ?_
            rintro e v4 ⟨rfl, h1⟩
            have Z4 := Lib.hid h1
            clear h1 Z3
            go_wp2_with fail
            go_roundg g1
            case rel => exact ⟨i + 1, _, T, s, s2, by omega, by go_num, Z4, HSim, hsl, HTo, by omega⟩
            case measure => omega
        · by_cases hin : 0 ≤ y ∧ y < (N : Int)
          · skip
            obtain ⟨k, hk⟩ : ∃ k : Nat, y = (k : Int) := ⟨(y).toNat, by omega⟩
            have hkN : k < W * H := by rw [HN.out]; omega
            obtain ⟨t1, t2⟩ := HTo.out
            have hsim := walk_sim (F := F) (bound := bd) (W := W) (x := k % W) (y := k / W) d s s2 T 0 HSim.out hsl.1 hsl.2 t1 (by omega)
            have hgr := walkT_n (F := F) (bound := bd) (f := bd.toNat + 2) (W := W) (x := k % W) (y := k / W) d s T 0
            have C1 := HH.out.dec hkN bd (by omega) (by rw [HLen.out]; omega) HB8.out hsl.1 (by omega)
            have e9 : (decM F bd W d k s T).2.1 = (rdecM F bd W d k s2 T).2.1 := by
              show (walkT (dstep F bd) bd (bd.toNat + 2) W (k % W) (k / W) d (s, T, 0)).2.1 = (walkT (rqstep F) bd (bd.toNat + 2) W (k % W) (k / W) d (s2, T, 0)).2.1
              rw [hsim.1]
            rw [e9] at C1
            obtain ⟨T', hT'⟩ : ∃ T', (rdecM F bd W d k s2 T).2.1 = T' := ⟨_, rfl⟩
            have hTo' : TOk T' := by rw [← hT']; exact hsim.2.2.2.2
            have hs1 : RSim F (decM F bd W d k s T).1 (rdecM F bd W d k s2 T).1 ∧ (decM F bd W d k s T).1.l ≤ 8 ∧ (rdecM F bd W d k s2 T).1.l ≤ 8 := ⟨hsim.2.1, hsim.2.2.1, hsim.2.2.2.1⟩
            have hgr2 : (decM F bd W d k s T).1.n ≤ s.n + d * (bd.toNat + 2) := hgr
            obtain ⟨s', hs'⟩ : ∃ s', (decM F bd W d k s T).1 = s' := ⟨_, rfl⟩
            obtain ⟨s2', hs2'⟩ : ∃ s2', (rdecM F bd W d k s2 T).1 = s2' := ⟨_, rfl⟩
            rw [hs', hs2'] at hs1
            rw [hs'] at hgr2 C1
            rw [hT'] at C1
            obtain ⟨bv, hbv⟩ : ∃ bv, ((T' 0 k).said && decide ((T' 0 k).num < bd)) = bv := ⟨_, rfl⟩
            have hbv1 : (decide (0 ≤ knF T' k) && decide (knF T' k < bd)) = bv := by
              rw [← hbv]
              have := (hTo' 0 k).2
              unfold knF
              cases hsd : (T' 0 k).said with
              | true =>
                have h0 : decide ((0 : Int) ≤ (T' 0 k).num) = true := by simpa using this hsd
                simp only [if_true, h0, Bool.true_and]
              | false => simp
            rw [hbv1] at C1
            have C1 := Lib.hid C1
            have C2 : Hid (∀ u o, HS o w u p W H d T' rq F s' q L tot cap T r2 a2 cap2 s2 → Calls Try.prog 15 #[.pointer (some ⟨q, 0, none⟩), .pointer (some ⟨r2, 0, none⟩), .int .i64 (k : Int), .int .i64 bd] u fun e w' => e = .returned (.bool bv) ∧ HS (onew o u 3) w w' p W H d T' rq F s' q L tot cap T' r2 a2 cap2 s2' ∧ LowOk T' ∧ s2'.n ≤ s2.n + d * (bd.toNat + 2)) := Lib.hid fun u o hh => by
              have h := hh.rdec hkN (by omega) hd bd (by omega) t2 (by rw [HLen.out]; omega) HB8.out hsl.2 (by omega)
              rw [hT', hs2', hbv] at h
              exact h
            obtain ⟨kv, hkv⟩ : ∃ kv, knF T' k = kv := ⟨_, rfl⟩
            have C3 : Hid (∀ u o, HS o w u p W H d T' rq F s' q L tot cap T' r2 a2 cap2 s2' → Calls Try.prog 16 #[.pointer (some ⟨p, 0, none⟩), .int .i64 (k : Int)] u fun e w' => e = .returned (.int .i64 kv) ∧ HS o w w' p W H d T' rq F s' q L tot cap T' r2 a2 cap2 s2') := Lib.hid fun u o hh => by
              have h := hh.known hkN
              rwa [hkv] at h
            have C4 : Hid (∀ u o, HS o w u p W H d T' rq F s' q L tot cap T' r2 a2 cap2 s2' → Calls Try.prog 17 #[.pointer (some ⟨q, 0, none⟩), .int .i64 (k : Int)] u fun e w' => e = .returned (.int .i64 kv) ∧ HS o w w' p W H d T' rq F s' q L tot cap T' r2 a2 cap2 s2') := Lib.hid fun u o hh => by
              have h := hh.rknown hkN hd.1 (by rw [HN.out]; omega)
              rwa [hkv] at h
            have HT' := Lib.hid hTo'
            have HS1 := Lib.hid hs1
            have HG2 := Lib.hid hgr2
            clear hsim hgr hgr2 hs1 hTo' e9 hT' hs' hs2' hbv hbv1 hkv t1 t2
            subst hk
            go_wp2_with fail
            refine (WB.out _).mono ?_
            rintro e w' ⟨rfl, rfl⟩
            go_wp2_with fail
            refine C1.out.mono ?_
            rintro e v1 ⟨rfl, h1⟩
            have Z1 := Lib.hid h1
            clear h1
            go_wp2_with fail
            refine (C2.out _ _ Z1.out).mono ?_
            rintro e v2 ⟨rfl, h1, h2, h3⟩
            have Z2 := Lib.hid h1
            have ZL := Lib.hid h2
            clear h1 h2 Z1 C1 C2
            go_wp2_with fail
            refine (C3.out _ _ Z2.out).mono ?_
            rintro e v3 ⟨rfl, h1⟩
            have Z3 := Lib.hid h1
            clear h1 Z2
            go_wp2_with fail
            refine (C4.out _ _ Z3.out).mono ?_
            rintro e v4 ⟨rfl, h1⟩
            have Z4 := Lib.hid h1
            have e8 : (kv != kv) = false := by simp
            have e7 : (bv != bv) = false := by simp
            have hgf := HG2.out
            have hl1 := HS1.out.2
            clear h1 Z3 C3 C4
            go_wp2_with fail
            go_roundg g1
            case rel => exact ⟨i + 1, _, T', s', s2', by omega, by go_num, Z4, Lib.hid HS1.out.1, hl1, Lib.hid ⟨HT'.out, ZL.out⟩, by omega⟩
            case measure => omega
          · skip
            have hko : y < 0 ∨ ((W * H : Nat) : Int) ≤ y := by rw [HN.out]; omega
            have HK := Lib.hid hko
            clear hko
            go_wp2_with fail
            refine (WB.out _).mono ?_
            rintro e w' ⟨rfl, rfl⟩
            go_wp2_with fail
            refine (HH.out.dec_no HK.out).mono ?_
            rintro e v1 ⟨rfl, h1⟩
            have Z1 := Lib.hid h1
            clear h1
            go_wp2_with fail
            refine (Z1.out.rdec_no HK.out).mono ?_
            rintro e v2 ⟨rfl, h1⟩
            have Z2 := Lib.hid h1
            clear h1 Z1
            go_wp2_with fail
            refine (Z2.out.known_no HK.out).mono ?_
            rintro e v3 ⟨rfl, h1⟩
            have Z3 := Lib.hid h1
            clear h1 Z2
            go_wp2_with fail
            refine (Z3.out.rknown_no HK.out).mono ?_
            rintro e v4 ⟨rfl, h1⟩
            have Z4 := Lib.hid h1
            clear h1 Z3
            go_wp2_with fail
            go_roundg g1
            case rel => exact ⟨i + 1, _, T, s, s2, by omega, by go_num, Z4, HSim, hsl, HTo, by omega⟩
            case measure => omega
      · obtain rfl : i = m := by omega
        have hE := rsim_end HSim.out
        obtain ⟨ek, hek⟩ : ∃ ek, endK F s = ek := ⟨_, rfl⟩
        obtain ⟨ee, hee⟩ : ∃ ee, endE F s = ee := ⟨_, rfl⟩
        have FE : Hid (Calls Try.prog 18 #[.pointer (some ⟨rq, 0, none⟩)] wr fun e w' => e = .returned (.tuple #[.int .i64 (ek : Int), .int .i64 ee]) ∧ HS o w w' p W H d T rq F s q L tot cap T r2 a2 cap2 s2) := Lib.hid (by
          have h := HH.out.fin (by rw [HLen.out]; omega) (by omega)
          rwa [hek, hee] at h)
        have RE : Hid (∀ u o, HS o w u p W H d T rq F s q L tot cap T r2 a2 cap2 s2 → Calls Try.prog 19 #[.pointer (some ⟨r2, 0, none⟩)] u fun e w' => e = .returned (.tuple #[.int .i64 (ek : Int), .int .i64 ee]) ∧ HS o w w' p W H d T rq F s q L tot cap T r2 a2 cap2 s2) := Lib.hid fun u o hh => by
          have h := hh.rfin (by rw [HLen.out]; omega) (by omega) hsl.2 HB8.out
          rwa [← hE.1, ← hE.2, hek, hee] at h
        have e9 : decide (ee = ee) = true := by simp
        clear hE hek hee
        by_cases x1 : i = len3
        · have e1 : decide ((i : Int) < (len3 : Int)) = false := by simp; omega
          clear HSim
          go_wp2_with fail
          refine (FE.out).mono ?_
          rintro e v1 ⟨rfl, h1⟩
          have Z1 := Lib.hid h1
          clear h1
          go_wp2_with fail
          refine (RE.out _ _ Z1.out).mono ?_
          rintro e v2 ⟨rfl, h1⟩
          have HBZ := Lib.hid h1.bel
          clear h1 Z1
          go_wp2_with fail
          go_ret
          exact ⟨rfl, HBZ.out⟩
        · have e1 : decide ((i : Int) < (len3 : Int)) = true := by simp; omega
          by_cases x2 : i = len4
          · have e2 : decide ((i : Int) < (len4 : Int)) = false := by simp; omega
            clear HSim
            go_wp2_with fail
            refine (FE.out).mono ?_
            rintro e v1 ⟨rfl, h1⟩
            have Z1 := Lib.hid h1
            clear h1
            go_wp2_with fail
            refine (RE.out _ _ Z1.out).mono ?_
            rintro e v2 ⟨rfl, h1⟩
            have HBZ := Lib.hid h1.bel
            clear h1 Z1
            go_wp2_with fail
            go_ret
            exact ⟨rfl, HBZ.out⟩
          · have e2 : decide ((i : Int) < (len4 : Int)) = true := by simp; omega
            have e3 : decide ((i : Int) < 60) = false := by simp; omega
            clear HSim
            go_wp2_with fail
            refine (FE.out).mono ?_
            rintro e v1 ⟨rfl, h1⟩
            have Z1 := Lib.hid h1
            clear h1
            go_wp2_with fail
            refine (RE.out _ _ Z1.out).mono ?_
            rintro e v2 ⟨rfl, h1⟩
            have HBZ := Lib.hid h1.bel
            clear h1 Z1
            go_wp2_with fail
            go_ret
            exact ⟨rfl, HBZ.out⟩
  · have cni : (100 : Int) < (len2 : Int) := by omega
    have K := Lib.hid (known13 w)
    go_enter Try.func3, Try.ntmps3
    go_wp2_with fail
    refine K.out.mono ?_
    rintro e u0 ⟨rfl, hb⟩
    have HB0 := Lib.hid hb
    clear hb K
    go_wp2
    go_ret
    exact ⟨rfl, HB0.out⟩
end Go.Proofs.Ythgbnkcbcepjdaa
