/- A tree of one leaf: TreeRow. -/
import Derived.Test.YthgbnkcbcepjdaaTrZ
import Derived.Test.YthgbnkcbcepjdaaTrTw
import Derived.Outline
set_option linter.unusedVariables false
set_option linter.unusedSimpArgs false
namespace Go.Proofs.Ythgbnkcbcepjdaa
open Go.RowKit
set_option maxRecDepth 100000
def rowBits (n m : Nat) : List Int := List.replicate (min m n) 0 ++ if n < m then [1] else []
def rowNd (n m : Nat) : Nd := ⟨(n : Int), ((min m n : Nat) : Int), decide (n < m)⟩
theorem rowBits_len (n m : Nat) : (rowBits n m).length ≤ m + 1 := by
  unfold rowBits
  rw [List.length_append, List.length_replicate]
  split <;> simp <;> omega
theorem enc_row {n m b : Nat} {T : TT} (h : T 0 0 = rowNd n m) : (encB (b : Int) 1 1 0 (rowBits n m) T).1 = rowBits n (max m b) ∧ (encB (b : Int) 1 1 0 (rowBits n m) T).2.1 0 0 = rowNd n (max m b) := by
  have e : encB (b : Int) 1 1 0 (rowBits n m) T = ((loopN estepB (b : Int) (b + 2) (rowBits n m, rowNd n m)).1, T.upd 0 0 (loopN estepB (b : Int) (b + 2) (rowBits n m, rowNd n m)).2, (loopN estepB (b : Int) (b + 2) (rowBits n m, rowNd n m)).2.low) := by
    unfold encB
    have hm : maxI (rowNd n m).low 0 = (rowNd n m).low := by
      unfold maxI; rw [if_neg (by show ¬ ((min m n : Nat) : Int) < 0; omega)]
    simp only [walkT, dimF, Nat.pow_zero, Nat.div_one, Nat.mod_one, Nat.zero_div, Nat.zero_mul, Nat.zero_add, Nat.add_zero, h, Int.toNat_natCast, hm]
  rw [e]
  simp only [TT.upd_self]
  by_cases hnm : n < m
  · have hs : rowNd n m = ⟨(n : Int), ((min m n : Nat) : Int), true⟩ := by simp [rowNd, hnm]
    rw [hs, loopE_said]
    have e1 : min (max m b) n = min m n := by omega
    have e2 : n < max m b := by omega
    refine ⟨?_, ?_⟩
    · simp only [rowBits, if_pos hnm, if_pos e2, e1]
    · simp only [rowNd, e1, e2, decide_true]
  · have hs : rowNd n m = ⟨(n : Int), (m : Int), false⟩ := by
      unfold rowNd
      rw [show min m n = m by omega, show decide (n < m) = false by simp; omega]
    rw [hs, loopE _ _ _ _ _ (by omega) (by omega)]
    have e0 : min m n = m := by omega
    by_cases hnb : n < b
    · rw [if_pos (by omega)]
      have e1 : min (max m b) n = n := by omega
      have e2 : n < max m b := by omega
      refine ⟨?_, ?_⟩
      · simp only [rowBits, if_neg hnm, if_pos e2, e0, e1, List.append_nil]
        rw [List.replicate_append_replicate, show m + ((n : Int) - (m : Int)).toNat = n by omega]
      · simp only [rowNd, e1, e2, decide_true]
    · rw [if_neg (by omega)]
      have e2 : ¬ n < max m b := by omega
      have e1 : min (max m b) n = max m b := by omega
      refine ⟨?_, ?_⟩
      · simp only [rowBits, if_neg hnm, if_neg e2, e0, e1, List.append_nil]
        rw [List.replicate_append_replicate, show m + ((b : Int) - (m : Int)).toNat = max m b by omega]
      · simp only [rowNd, e1, e2, decide_false]
        congr 1
        split <;> omega
/-- The tree and its Writer, at some time. -/
structure RowS (w0 w : World) (p wp n m : Nat) : Prop where
  ex : ∃ o T, TrO o 1 w p 1 1 1 T ∧ T 0 0 = rowNd n m ∧ WrO o 2 w wp (wrun (rowBits n m)) ∧ Bs o w0.heap.size
  bel : Below w0.heap.size w0 w
theorem RowS.enc {w0 w : World} {p wp n m b : Nat} (h : RowS w0 w p wp n m) (hm : m ≤ 1000) (hb : b ≤ 30) : Calls Try.prog 22 #[.pointer (some ⟨p, 0, none⟩), .pointer (some ⟨wp, 0, none⟩), .int .i64 0, .int .i64 (b : Int)] w fun e w' => e = .returned (.tuple #[]) ∧ RowS w0 w' p wp n (max m b) := by
  obtain ⟨⟨o, T, h1, h2, h3, h4⟩, h5⟩ := h
  have hl := rowBits_len n m
  have hw : (wrun (rowBits n m)).1.length ≤ (rowBits n m).length := by
    have := wfold_len (s := ([], 0)) (by simpa [wrun] using wrun_ok []) (rowBits n m)
    simpa [wrun, wfold] using this
  have e := encM_B (b : Int) 1 1 0 (rowBits n m) T
  have er := enc_row (b := b) h2
  have hc := enc_o h1 h3 (by decide) (k := 0) (by decide) (b : Int) (by omega) (by omega)
  rw [e] at hc
  refine hc.mono ?_
  rintro e' w' ⟨rfl, hT, hW, ho, _⟩
  rw [er.1] at hW
  exact ⟨rfl, ⟨_, _, hT, er.2, hW, h4.new h5.size 2⟩, h5.trans (ho.base h4 (by decide) (by decide) h5.size)⟩
set_option maxHeartbeats 8000000 in
theorem walk_treeRow (a0 : Int) (a1 : Option Addr) (len1 cap1 : Nat) (z1 : List Int) (w : World) (w0 : (Lit.int .i64 a0).wf = true) (w1 : IsRow .i64 w a1 len1 cap1 z1) :
    Calls Try.prog 6 #[.int .i64 a0, .slice a1 len1 cap1] w fun e w' => e = .returned (.bool true) ∧ Below w.heap.size w w' := by
  have hb1 := row_len w1
  have hm1 : len1 ≤ 9223372036854775807 := by have := hb1.2.2.1; unfold maxLen at this; omega
  have hc1 := hb1.2.1
  have R1 := Lib.hid w1
  have hbd0 := bd_i64 w0
  clear w0 w1 hb1
  have K := Lib.hid (fun u => known13 u)
  go_enter Try.func6, Try.ntmps6
  go_wp2_with fail
  refine (K.out _).mono ?_
  rintro e u0 ⟨rfl, hb⟩
  have HB := Lib.hid hb
  clear hb K
  go_wp2_with fail
  refine (some13 _ 20 _ (by omega) (by omega)).mono ?_
  rintro e w' ⟨rfl, rfl⟩
  obtain ⟨n, hn⟩ : ∃ n, modN a0 20 = n := ⟨_, rfl⟩
  have hn20 : n < 20 := by rw [← hn]; exact (modN_lt a0 20 (by omega)).1
  rw [hn]
  clear hn
  go_wp2_with fail
  refine (new_o (fun _ => 0) 1 1 1 u0 (by omega) (by omega)).mono ?_
  rintro e u1 ⟨p, d, rfl, hT1, hb1, _⟩
  obtain rfl := hT1.one
  have HT1 := Lib.hid hT1
  have HB1 := Lib.hid (HB.out.trans (hb1.mono HB.out.size))
  have HO1 := Lib.hid ((Bs.zero w.heap.size).new HB.out.size 1)
  clear hT1 hb1
  go_wp2_with fail
  refine (wnew_o (onew (fun _ => 0) u0 1) 2 u1).mono ?_
  rintro e u2 ⟨wp, rfl, hW2, hb2⟩
  have HT2 := Lib.hid (HT1.out.below hb2 (onew_old _ u1 2))
  have HW2 := Lib.hid hW2
  have HB2 := Lib.hid (HB1.out.trans (hb2.mono HB1.out.size))
  have HO2 := Lib.hid (HO1.out.new HB1.out.size 2)
  clear hW2 hb2
  go_wp2_with fail
  refine (set_o HT2.out (k := 0) (by decide) n (by omega)).mono ?_
  rintro e u3 ⟨rfl, hT3, hO3⟩
  have HR3 : Hid (RowS w u3 p wp n 0) := Lib.hid ⟨⟨_, _, hT3, by
    show (setM T0 1 1 1 0 (n : Int)) 0 0 = rowNd n 0
    unfold setM setUp rowNd
    simp [TT.upd, T0], by
    have := HW2.out.other hO3 (onew_old _ u2 1) (by decide) (by decide)
    have hz : rowBits n 0 = [] := by simp [rowBits]
    rw [hz]
    exact this, HO2.out.new HB2.out.size 1⟩, HB2.out.trans (hO3.base HO2.out (by decide) (by decide) HB2.out.size)⟩
  clear hT3 hO3 HT1 HT2 HW2 HB2 HO2 HB1 HO1 HB
  go_wp2_with fail
  go_loopw [7, 8] (fun mv iv wr => ∃ (i m : Nat), i ≤ len1 ∧ m ≤ 24 ∧ iv = .int .i64 (i : Int) ∧ mv = .int .i64 (m : Int) ∧ Hid (RowS w wr p wp n m)) (fun _ iv _ => len1 - (intOf iv).toNat)
  case atStart => exact ⟨0, 0, by omega, by omega, rfl, rfl, HR3⟩
  case round =>
    obtain ⟨i, m, hi, hm, rfl, rfl, HR⟩ := hrel
    clear HR3
    by_cases hlt : i < len1 ∧ i < 10
    · obtain ⟨c1, c2⟩ := hlt
      obtain ⟨b1, f1, rfl, hcell⟩ := row_at R1.out (k := i) c1 HR.out.bel
      obtain ⟨zz, hzz⟩ : ∃ zz, z1.getD i 0 = zz := ⟨_, rfl⟩
      rw [hzz] at hcell
      clear hzz
      have e1 : decide ((i : Int) < (len1 : Int)) = true := by simp; omega
      have e2 : decide ((i : Int) < 10) = true := by simp; omega
      have ki : (i : Int) < (len1 : Int) := by omega
      go_wp2_with fail
      refine (some13 _ 25 _ (by omega) (by omega)).mono ?_
      rintro e w' ⟨rfl, rfl⟩
      obtain ⟨b, hbE⟩ : ∃ b, modN zz 25 = b := ⟨_, rfl⟩
      have hb25 : b < 25 := by rw [← hbE]; exact (modN_lt zz 25 (by omega)).1
      rw [hbE]
      clear hbE hcell e1 e2
      go_wp2_with fail
      refine (HR.out.enc (b := b) (by omega) (by omega)).mono ?_
      rintro e q1 ⟨rfl, hR⟩
      have HR1 := Lib.hid hR
      have hmax : (if m < b then (b : Int) else (m : Int)) = ((max m b : Nat) : Int) := by split <;> omega
      clear hR
      obtain ⟨m2, hm2⟩ : ∃ m2, max m b = m2 := ⟨_, rfl⟩
      have hm24 : m2 ≤ 24 := by omega
      rw [hm2] at HR1 hmax
      clear hm2
      go_wp2
      clear hmax
      go_roundw
      case rel => exact ⟨i + 1, m2, by omega, by omega, by go_num, rfl, HR1⟩
      case measure => simp [intOf]; omega
    · have hx : (¬ i < len1) ∨ (i < len1 ∧ ¬ i < 10) := by omega
      rcases hx with hx | ⟨hx1, hx2⟩
      · have e1 : decide ((i : Int) < (len1 : Int)) = false := by simp; omega
        have e9 : ¬ (i : Int) < (len1 : Int) := by omega
        clear hlt
        go_wp2_with fail
        obtain ⟨⟨o, T, hT, hT0, hW, hBs⟩, hbel⟩ := HR.out
        obtain ⟨bs, hbs⟩ : ∃ bs, rowBits n m = bs := ⟨_, rfl⟩
        have hbl := rowBits_len n m
        rw [hbs] at hW hbl
        have HBS := Lib.hid hbs
        have hok := bytes_ok bs
        have hwl : (wrun bs).1.length ≤ 80000 := by
          have := wfold_len (s := ([], 0)) (by simpa [wrun] using wrun_ok []) bs
          have h2 : (wrun bs).1.length ≤ bs.length := by simpa [wrun, wfold] using this
          omega
        have HT := Lib.hid hT
        have HT0 := Lib.hid hT0
        have HBs := Lib.hid hBs
        have HBel := Lib.hid hbel
        have CB := Lib.hid (bytes_o hW hwl)
        clear hT hT0 hW hBs hbel hbs HR
        refine CB.out.mono ?_
        rintro e v1 ⟨v, rfl, hv, hbb⟩
        obtain ⟨F, hF⟩ : ∃ F, bytesF (wrun bs).1 = F := ⟨_, rfl⟩
        rw [hF] at hv hok
        have HF := Lib.hid hF
        obtain ⟨A, cap, rfl, hA, hcl, hcm⟩ := own_any hv
        have hL := Lst.own hv
        have HT1 := Lib.hid (HT.out.below hbb (fun _ _ => rfl))
        have HB1 := Lib.hid (HBel.out.trans (hbb.mono HBel.out.size))
        have CR := Lib.hid (brnew_any (n := F.length) rfl hA hL (by omega))
        clear hv hbb hL hF CB HT HBel
        go_wp2_with fail
        refine CR.out.mono ?_
        rintro e v2 ⟨q, rfl, hq, hb2⟩
        have HQ := Lib.hid hq
        have HT2 := Lib.hid (HT1.out.below hb2 (onew_old o v1 3))
        have HB2 := Lib.hid (HB1.out.trans (hb2.mono HB1.out.size))
        have HBs2 := Lib.hid (HBs.out.new HB1.out.size 3)
        have hq3 : onew o v1 3 q = 3 := onew_new o v1 3 hq.1
        have hqs : w.heap.size ≤ q := Nat.le_trans HB1.out.size hq.1
        obtain ⟨lo, hlo⟩ : ∃ lo, v1.heap.size = lo := ⟨_, rfl⟩
        rw [hlo] at HQ
        obtain ⟨o2, ho2⟩ : ∃ o2, onew o v1 3 = o2 := ⟨_, rfl⟩
        rw [ho2] at HT2 HBs2 hq3
        clear hq hb2 CR hlo ho2 HT1 HB1 HBs
        have hmin : (if n < m then (n : Int) else (m : Int)) = ((min m n : Nat) : Int) := by split <;> omega
        obtain ⟨k0, hk0⟩ : ∃ k0, min m n = k0 := ⟨_, rfl⟩
        rw [hk0] at hmin
        have HK0 := Lib.hid hk0
        clear hk0
        go_wp2_with fail
        go_loopw [11] (fun iv wr => ∃ k : Nat, k ≤ k0 ∧ iv = .int .i64 (k : Int) ∧ Hid (Rb wr lo q F (bat (List.replicate k 0))) ∧ Hid (TrO o2 1 wr p 1 1 1 T) ∧ Hid (Below w.heap.size w wr)) (fun iv _ => k0 - (intOf iv).toNat)
        case atStart => exact ⟨0, by omega, rfl, HQ, HT2, HB2⟩
        case round =>
          obtain ⟨k, hk, rfl, HQk, HTk, HBk⟩ := hrel
          clear HQ HT2 HB2
          by_cases hlt : k < k0
          · have hbsp : bs = List.replicate k 0 ++ 0 :: (List.replicate (k0 - k - 1) 0 ++ if n < m then [1] else []) := by
              rw [← HBS.out]; unfold rowBits; rw [HK0.out, show k0 = k + ((k0 - k - 1) + 1) by omega, ← List.replicate_append_replicate, List.replicate_succ]
              simp
            have hrb := read_bit (a := List.replicate k 0) (b := 0) (t := List.replicate (k0 - k - 1) 0 ++ if n < m then [1] else [])
            rw [← hbsp, HF.out, ← List.replicate_succ'] at hrb
            have hbr := bat_rng (List.replicate k (0 : Int))
            have CBit := rb_bit HQk.out (by omega) (by have := hbr.2; simp at this; omega) hbr.1 hok.1
            rw [hrb.1, hrb.2] at CBit
            have CB := Lib.hid CBit
            clear CBit hrb hbsp hbr
            go_wp2_with fail
            refine CB.out.mono ?_
            rintro e v3 ⟨rfl, hq, ho⟩
            have hOn : Onl o2 3 3 wr v3 := ho.mono (fun b hb _ => .inl (by rw [hb]; exact hq3))
            have HQ3 := Lib.hid hq
            have HT3 := Lib.hid (HTk.out.other hOn (fun _ _ => rfl) (by decide) (by decide))
            have HB3 := Lib.hid (HBk.out.trans (ho.below (lo := w.heap.size) (fun b hb => by rw [hb]; exact hqs)))
            clear hq ho hOn CB
            go_wp2
            go_roundw
            case rel => exact ⟨k + 1, by omega, by go_num, HQ3, HT3, HB3⟩
            case measure => simp [intOf]; omega
          · obtain rfl : k = k0 := by omega
            have hkn := known_o HTk.out (k := 0) (by decide)
            rw [HT0.out] at hkn
            by_cases hnm : n < m
            · have hbsp : bs = List.replicate k 0 ++ 1 :: [] := by
                rw [← HBS.out]; unfold rowBits; rw [HK0.out, if_pos hnm]
              have hrb := read_bit (a := List.replicate k 0) (b := 1) (t := [])
              rw [← hbsp, HF.out] at hrb
              have hbr := bat_rng (List.replicate k (0 : Int))
              have CBit := rb_bit HQk.out (by omega) (by have := hbr.2; simp at this; omega) hbr.1 hok.1
              rw [hrb.1, hrb.2] at CBit
              have CB := Lib.hid CBit
              have d1 : (n : Int) < (m : Int) := by omega
              have d2 : decide ((n : Int) < (m : Int)) = true := by simp; omega
              have d3 : decide ((m : Int) ≤ (n : Int)) = false := by simp; omega
              have KN := Lib.hid (fun (v : World) (hv : TrO o2 1 v p 1 1 1 T) => known_o hv (k := 0) (by decide))
              have hval : (if (T 0 0).said = true then (T 0 0).num else -1) = (n : Int) := by rw [HT0.out]; simp [rowNd, hnm]
              have HV := Lib.hid hval
              clear CBit hrb hbsp hbr hkn hval
              go_wp2_with fail
              refine CB.out.mono ?_
              rintro e v3 ⟨rfl, hq, ho⟩
              have hOn : Onl o2 3 3 wr v3 := ho.mono (fun b hb _ => .inl (by rw [hb]; exact hq3))
              have HT3 := Lib.hid (HTk.out.other hOn (fun _ _ => rfl) (by decide) (by decide))
              have HB3 := Lib.hid (HBk.out.trans (ho.below (lo := w.heap.size) (fun b hb => by rw [hb]; exact hqs)))
              clear hq ho hOn CB
              go_wp2_with fail
              refine (KN.out _ HT3.out).mono ?_
              rintro e v4 ⟨rfl, hb4⟩
              rw [HV.out]
              have HT4 := Lib.hid (HT3.out.below hb4 (fun _ _ => rfl))
              have HB4 := Lib.hid (HB3.out.trans (hb4.mono HB3.out.size))
              have d4 : ((n : Int) == (n : Int)) = true := by simp
              have d5 : ((n : Int) == -1) = false := by simp
              clear hb4
              go_wp2_with fail
              refine (KN.out _ HT4.out).mono ?_
              rintro e v5 ⟨rfl, hb5⟩
              rw [HV.out]
              have HB5 := Lib.hid (HB4.out.trans (hb5.mono HB4.out.size))
              clear hb5
              go_wp2
              go_ret
              exact ⟨ret_bool (by simp [d5]; omega), HB5.out⟩
            · have d1 : ¬ (n : Int) < (m : Int) := by omega
              have d2 : decide ((n : Int) < (m : Int)) = false := by simp; omega
              have d3 : decide ((m : Int) ≤ (n : Int)) = true := by simp; omega
              have KN := Lib.hid (fun (v : World) (hv : TrO o2 1 v p 1 1 1 T) => known_o hv (k := 0) (by decide))
              have hval : (if (T 0 0).said = true then (T 0 0).num else -1) = -1 := by rw [HT0.out]; simp [rowNd, hnm]
              have HV := Lib.hid hval
              clear hkn hval
              go_wp2_with fail
              refine (KN.out _ HTk.out).mono ?_
              rintro e v4 ⟨rfl, hb4⟩
              rw [HV.out]
              have HT4 := Lib.hid (HTk.out.below hb4 (fun _ _ => rfl))
              have HB4 := Lib.hid (HBk.out.trans (hb4.mono HBk.out.size))
              have d4 : ((-1 : Int) == (n : Int)) = false := by simp
              clear hb4
              go_wp2_with fail
              refine (KN.out _ HT4.out).mono ?_
              rintro e v5 ⟨rfl, hb5⟩
              rw [HV.out]
              have HB5 := Lib.hid (HB4.out.trans (hb5.mono HB4.out.size))
              clear hb5
              go_wp2
              go_ret
              exact ⟨ret_bool (by simp), HB5.out⟩
      · have e1 : decide ((i : Int) < (len1 : Int)) = true := by simp; omega
        have e2 : decide ((i : Int) < 10) = false := by simp; omega
        have e9 : (i : Int) < (len1 : Int) := by omega
        have e8 : ¬ (i : Int) < 10 := by omega
        clear hlt
        go_wp2_with fail
        obtain ⟨⟨o, T, hT, hT0, hW, hBs⟩, hbel⟩ := HR.out
        obtain ⟨bs, hbs⟩ : ∃ bs, rowBits n m = bs := ⟨_, rfl⟩
        have hbl := rowBits_len n m
        rw [hbs] at hW hbl
        have HBS := Lib.hid hbs
        have hok := bytes_ok bs
        have hwl : (wrun bs).1.length ≤ 80000 := by
          have := wfold_len (s := ([], 0)) (by simpa [wrun] using wrun_ok []) bs
          have h2 : (wrun bs).1.length ≤ bs.length := by simpa [wrun, wfold] using this
          omega
        have HT := Lib.hid hT
        have HT0 := Lib.hid hT0
        have HBs := Lib.hid hBs
        have HBel := Lib.hid hbel
        have CB := Lib.hid (bytes_o hW hwl)
        clear hT hT0 hW hBs hbel hbs HR
        refine CB.out.mono ?_
        rintro e v1 ⟨v, rfl, hv, hbb⟩
        obtain ⟨F, hF⟩ : ∃ F, bytesF (wrun bs).1 = F := ⟨_, rfl⟩
        rw [hF] at hv hok
        have HF := Lib.hid hF
        obtain ⟨A, cap, rfl, hA, hcl, hcm⟩ := own_any hv
        have hL := Lst.own hv
        have HT1 := Lib.hid (HT.out.below hbb (fun _ _ => rfl))
        have HB1 := Lib.hid (HBel.out.trans (hbb.mono HBel.out.size))
        have CR := Lib.hid (brnew_any (n := F.length) rfl hA hL (by omega))
        clear hv hbb hL hF CB HT HBel
        go_wp2_with fail
        refine CR.out.mono ?_
        rintro e v2 ⟨q, rfl, hq, hb2⟩
        have HQ := Lib.hid hq
        have HT2 := Lib.hid (HT1.out.below hb2 (onew_old o v1 3))
        have HB2 := Lib.hid (HB1.out.trans (hb2.mono HB1.out.size))
        have HBs2 := Lib.hid (HBs.out.new HB1.out.size 3)
        have hq3 : onew o v1 3 q = 3 := onew_new o v1 3 hq.1
        have hqs : w.heap.size ≤ q := Nat.le_trans HB1.out.size hq.1
        obtain ⟨lo, hlo⟩ : ∃ lo, v1.heap.size = lo := ⟨_, rfl⟩
        rw [hlo] at HQ
        obtain ⟨o2, ho2⟩ : ∃ o2, onew o v1 3 = o2 := ⟨_, rfl⟩
        rw [ho2] at HT2 HBs2 hq3
        clear hq hb2 CR hlo ho2 HT1 HB1 HBs
        have hmin : (if n < m then (n : Int) else (m : Int)) = ((min m n : Nat) : Int) := by split <;> omega
        obtain ⟨k0, hk0⟩ : ∃ k0, min m n = k0 := ⟨_, rfl⟩
        rw [hk0] at hmin
        have HK0 := Lib.hid hk0
        clear hk0
        go_wp2_with fail
        go_loopw [11] (fun iv wr => ∃ k : Nat, k ≤ k0 ∧ iv = .int .i64 (k : Int) ∧ Hid (Rb wr lo q F (bat (List.replicate k 0))) ∧ Hid (TrO o2 1 wr p 1 1 1 T) ∧ Hid (Below w.heap.size w wr)) (fun iv _ => k0 - (intOf iv).toNat)
        case atStart => exact ⟨0, by omega, rfl, HQ, HT2, HB2⟩
        case round =>
          obtain ⟨k, hk, rfl, HQk, HTk, HBk⟩ := hrel
          clear HQ HT2 HB2
          by_cases hlt : k < k0
          · have hbsp : bs = List.replicate k 0 ++ 0 :: (List.replicate (k0 - k - 1) 0 ++ if n < m then [1] else []) := by
              rw [← HBS.out]; unfold rowBits; rw [HK0.out, show k0 = k + ((k0 - k - 1) + 1) by omega, ← List.replicate_append_replicate, List.replicate_succ]
              simp
            have hrb := read_bit (a := List.replicate k 0) (b := 0) (t := List.replicate (k0 - k - 1) 0 ++ if n < m then [1] else [])
            rw [← hbsp, HF.out, ← List.replicate_succ'] at hrb
            have hbr := bat_rng (List.replicate k (0 : Int))
            have CBit := rb_bit HQk.out (by omega) (by have := hbr.2; simp at this; omega) hbr.1 hok.1
            rw [hrb.1, hrb.2] at CBit
            have CB := Lib.hid CBit
            clear CBit hrb hbsp hbr
            go_wp2_with fail
            refine CB.out.mono ?_
            rintro e v3 ⟨rfl, hq, ho⟩
            have hOn : Onl o2 3 3 wr v3 := ho.mono (fun b hb _ => .inl (by rw [hb]; exact hq3))
            have HQ3 := Lib.hid hq
            have HT3 := Lib.hid (HTk.out.other hOn (fun _ _ => rfl) (by decide) (by decide))
            have HB3 := Lib.hid (HBk.out.trans (ho.below (lo := w.heap.size) (fun b hb => by rw [hb]; exact hqs)))
            clear hq ho hOn CB
            go_wp2
            go_roundw
            case rel => exact ⟨k + 1, by omega, by go_num, HQ3, HT3, HB3⟩
            case measure => simp [intOf]; omega
          · obtain rfl : k = k0 := by omega
            have hkn := known_o HTk.out (k := 0) (by decide)
            rw [HT0.out] at hkn
            by_cases hnm : n < m
            · have hbsp : bs = List.replicate k 0 ++ 1 :: [] := by
                rw [← HBS.out]; unfold rowBits; rw [HK0.out, if_pos hnm]
              have hrb := read_bit (a := List.replicate k 0) (b := 1) (t := [])
              rw [← hbsp, HF.out] at hrb
              have hbr := bat_rng (List.replicate k (0 : Int))
              have CBit := rb_bit HQk.out (by omega) (by have := hbr.2; simp at this; omega) hbr.1 hok.1
              rw [hrb.1, hrb.2] at CBit
              have CB := Lib.hid CBit
              have d1 : (n : Int) < (m : Int) := by omega
              have d2 : decide ((n : Int) < (m : Int)) = true := by simp; omega
              have d3 : decide ((m : Int) ≤ (n : Int)) = false := by simp; omega
              have KN := Lib.hid (fun (v : World) (hv : TrO o2 1 v p 1 1 1 T) => known_o hv (k := 0) (by decide))
              have hval : (if (T 0 0).said = true then (T 0 0).num else -1) = (n : Int) := by rw [HT0.out]; simp [rowNd, hnm]
              have HV := Lib.hid hval
              clear CBit hrb hbsp hbr hkn hval
              go_wp2_with fail
              refine CB.out.mono ?_
              rintro e v3 ⟨rfl, hq, ho⟩
              have hOn : Onl o2 3 3 wr v3 := ho.mono (fun b hb _ => .inl (by rw [hb]; exact hq3))
              have HT3 := Lib.hid (HTk.out.other hOn (fun _ _ => rfl) (by decide) (by decide))
              have HB3 := Lib.hid (HBk.out.trans (ho.below (lo := w.heap.size) (fun b hb => by rw [hb]; exact hqs)))
              clear hq ho hOn CB
              go_wp2_with fail
              refine (KN.out _ HT3.out).mono ?_
              rintro e v4 ⟨rfl, hb4⟩
              rw [HV.out]
              have HT4 := Lib.hid (HT3.out.below hb4 (fun _ _ => rfl))
              have HB4 := Lib.hid (HB3.out.trans (hb4.mono HB3.out.size))
              have d4 : ((n : Int) == (n : Int)) = true := by simp
              have d5 : ((n : Int) == -1) = false := by simp
              clear hb4
              go_wp2_with fail
              refine (KN.out _ HT4.out).mono ?_
              rintro e v5 ⟨rfl, hb5⟩
              rw [HV.out]
              have HB5 := Lib.hid (HB4.out.trans (hb5.mono HB4.out.size))
              clear hb5
              go_wp2
              go_ret
              exact ⟨ret_bool (by simp [d5]; omega), HB5.out⟩
            · have d1 : ¬ (n : Int) < (m : Int) := by omega
              have d2 : decide ((n : Int) < (m : Int)) = false := by simp; omega
              have d3 : decide ((m : Int) ≤ (n : Int)) = true := by simp; omega
              have KN := Lib.hid (fun (v : World) (hv : TrO o2 1 v p 1 1 1 T) => known_o hv (k := 0) (by decide))
              have hval : (if (T 0 0).said = true then (T 0 0).num else -1) = -1 := by rw [HT0.out]; simp [rowNd, hnm]
              have HV := Lib.hid hval
              clear hkn hval
              go_wp2_with fail
              refine (KN.out _ HTk.out).mono ?_
              rintro e v4 ⟨rfl, hb4⟩
              rw [HV.out]
              have HT4 := Lib.hid (HTk.out.below hb4 (fun _ _ => rfl))
              have HB4 := Lib.hid (HBk.out.trans (hb4.mono HBk.out.size))
              have d4 : ((-1 : Int) == (n : Int)) = false := by simp
              clear hb4
              go_wp2_with fail
              refine (KN.out _ HT4.out).mono ?_
              rintro e v5 ⟨rfl, hb5⟩
              rw [HV.out]
              have HB5 := Lib.hid (HB4.out.trans (hb5.mono HB4.out.size))
              clear hb5
              go_wp2
              go_ret
              exact ⟨ret_bool (by simp), HB5.out⟩
end Go.Proofs.Ythgbnkcbcepjdaa
