/- RawFronts, walked. -/
import Derived.Test.YtahnioenoecfeaaRawBack
set_option linter.unusedVariables false
namespace Go.Proofs.Ytahnioenoecfeaa
open Go.RowKit

theorem len_mono {bs : List Int} {j k : Nat} (hj : 0 < j) (hjk : j ≤ k) (hk : k ≤ bs.length) : (wrun (bs.take j)).1.length ≤ (wrun (bs.take k)).1.length := by
  have := (ext_run (bs := bs.take k) (k := j) hj (by rw [List.length_take]; omega)).len
  rwa [List.take_take, show min j k = j from by omega] at this
theorem take_at {F : List Int} {o m i : Nat} (hm : m = min o F.length) (hi : i < o) : byteAt (F.take m) i = byteAt F i := by
  unfold byteAt
  rw [List.getD_eq_getElem?_getD, List.getD_eq_getElem?_getD, List.getElem?_take]
  by_cases h : i < m
  · rw [if_pos h]
  · rw [if_neg h, List.getElem?_eq_none (by omega)]

set_option maxHeartbeats 8000000 in
theorem walk_rawFronts (a0 : Option Addr) (len0 cap0 : Nat) (z0 : List Int) (a1 : Int) (w : World) (w0 : IsRow .i64 w a0 len0 cap0 z0) (w1 : (Lit.int .i64 a1).wf = true) :
    Calls Try.prog 6 #[.slice a0 len0 cap0, .int .i64 a1] w fun e w' => e = .returned (.bool true) ∧ Below w.heap.size w w' := by
  have hl := lst_of_row w0
  obtain ⟨hlen, hlc, hcm, hnil⟩ := row_len w0
  clear w0
  generalize hz : z0.take len0 = l at *
  clear hz
  obtain ⟨n, hn, hn4, hm⟩ : ∃ n : Nat, n ≤ len0 ∧ n ≤ 300 ∧ (if (300 : Int) < (len0 : Int) then (300 : Int) else (len0 : Int)) = (n : Int) := by
    by_cases c : len0 ≤ 300
    · exact ⟨len0, by omega, c, by rw [if_neg (by omega)]⟩
    · exact ⟨300, by omega, by omega, by rw [if_pos (by omega)]; rfl⟩
  obtain ⟨bs, hbs⟩ : ∃ bs, l.take n = bs := ⟨_, rfl⟩
  have hbl : bs.length = n := by rw [← hbs, List.length_take]; omega
  have hbg : ∀ k, k < n → l.getD k 0 = bs.getD k 0 := fun k hk => by
    rw [← hbs, List.getD_eq_getElem?_getD, List.getD_eq_getElem?_getD, List.getElem?_take, if_pos hk]
  have HL := Lib.hid (And.intro hl (And.intro hlen hbg))
  have HBL := Lib.hid hbl
  unfold maxLen at hcm
  clear hl hlen hbg hbs hnil hbl
  by_cases hn0 : 0 < n
  · have hni : (0 : Int) < (n : Int) := by omega
    have hnw : IntKind.i64.wrap ((n : Int) + 1) = (n : Int) + 1 := IntWalk.i64_in _ (by omega)
    have hnz : ¬ (n : Int) + 1 = 0 := by omega
    obtain ⟨k0, hk0, hmx⟩ : ∃ k0 : Nat, k0 ≤ n ∧ (if a1.tmod ((n : Int) + 1) < 0 then 0 else a1.tmod ((n : Int) + 1)) = (k0 : Int) := by
      have hb := within_bd a1 ((n : Int) + 1) (by omega)
      generalize a1.tmod ((n : Int) + 1) = t at *
      by_cases h1 : t < 0
      · exact ⟨0, by omega, by rw [if_pos h1]; rfl⟩
      · exact ⟨t.toNat, by omega, by rw [if_neg h1]; omega⟩
    have hk0i : ¬ (n : Int) < (k0 : Int) := by omega
    go_enter Try.func6, Try.ntmps6
    go_wp2_with fail
    refine (known5 _).mono ?_
    rintro e w1 ⟨rfl, b1⟩
    go_wp2_with fail
    refine (wnew_any _).mono ?_
    rintro e w2 ⟨p, rfl, h2, b2⟩
    have s1 := b1.size
    have b2 := b1.trans (b2.mono s1)
    have H2 := Lib.hid h2
    clear b1 h2 hm hmx hk0i
    go_wp2
    go_loopw [8, 9] (fun v i wr => ∃ (k u : Nat), k ≤ n ∧ v = .int .i64 (u : Int) ∧ (k0 < k → u = (wrun (bs.take k0)).1.length) ∧ i = .int .i64 (k : Int) ∧ Wr wr w1.heap.size p (wrun (bs.take k)).1 (wrun (bs.take k)).2 ∧ Below w.heap.size w wr ∧ w1.heap.size ≤ wr.heap.size) (fun _ i _ => n - (intOf i).toNat)
    case atStart => exact ⟨0, 0, by omega, rfl, fun h => absurd h (by omega), rfl, by simpa [wrun] using H2.out, b2, by have := H2.out.lt; have := H2.out.1; omega⟩
    case round =>
      obtain ⟨k, u, kn, rfl, hu, rfl, hw, hb, hs⟩ := hrel
      clear H2 b2
      by_cases c1 : k < n
      · have hst := take_step (bs := bs) (k := k) (by rw [HBL.out]; exact c1)
        have hgk := HL.out.2.2 k c1
        obtain ⟨b, o, rfl, hbb, f1⟩ := lst_at (HL.out.1.below hb) (k := k) (by rw [HL.out.2.1]; omega)
        rw [hgk] at f1
        have ok := wrun_ok (bs.take k)
        have hlk := wrun_len (bs.take k)
        rw [List.length_take] at hlk
        have HW := Lib.hid hw
        have HU := Lib.hid hu
        have c2 : (k : Int) < (n : Int) := by omega
        have c3 : (k : Int) < (len0 : Int) := by omega
        generalize bs.getD k 0 = x at *
        have HST := Lib.hid hst
        clear hw hgk hst hu
        by_cases ck : k = k0
        · have ck2 : ((k : Int) == (k0 : Int)) = true := by rw [ck]; exact beq_self_eq_true _
          have CK := Lib.hid ck
          clear ck
          go_wp2_with fail
          refine (out_any HW.out).mono ?_
          rintro e w' ⟨rfl, rfl⟩
          go_wp2_with fail
          refine (bit_any HW.out ok (by omega) hs).mono ?_
          rintro e w3 ⟨rfl, h3, b3⟩
          rw [HST.out] at h3
          have hb3 := hb.trans (b3.mono s1)
          have hs3 : w1.heap.size ≤ w3.heap.size := by have := h3.1; have := h3.lt; omega
          have H3 := Lib.hid h3
          clear HW h3 b3 hb HST
          go_wp2
          go_roundw
          case rel => exact ⟨k + 1, (wrun (bs.take k)).1.length, by omega, rfl, fun _ => by rw [CK.out], by go_num, H3.out, hb3, hs3⟩
          case measure => simp [intOf] <;> omega
        · have ck2 : ((k : Int) == (k0 : Int)) = false := by simp; omega
          go_wp2_with fail
          refine (bit_any HW.out ok (by omega) hs).mono ?_
          rintro e w3 ⟨rfl, h3, b3⟩
          rw [HST.out] at h3
          have hb3 := hb.trans (b3.mono s1)
          have hs3 : w1.heap.size ≤ w3.heap.size := by have := h3.1; have := h3.lt; omega
          have H3 := Lib.hid h3
          clear HW h3 b3 hb HST
          go_wp2
          go_roundw
          case rel => exact ⟨k + 1, u, by omega, rfl, fun h => HU.out (by omega), by go_num, H3.out, hb3, hs3⟩
          case measure => simp [intOf] <;> omega
      · obtain rfl : k = n := by omega
        rw [List.take_of_length_le (by rw [HBL.out]; exact Nat.le_refl _)] at hw
        have hlr := wrun_len bs
        rw [HBL.out] at hlr
        have HW := Lib.hid hw
        obtain ⟨oo, hoo⟩ : ∃ oo, (wrun (bs.take k0)).1.length = oo := ⟨_, rfl⟩
        have hool : oo ≤ k := by rw [← hoo]; have := wrun_len (bs.take k0); rw [List.length_take] at this; omega
        have HOO := Lib.hid hoo
        rw [hoo] at hu
        have htl : Hid (k0 = k → (wrun bs).1.length = oo) := fun e => by
          rw [← hoo, e, List.take_of_length_le (by rw [HBL.out]; exact Nat.le_refl _)]
        clear hw hoo
        by_cases ck : k0 = k
        · have ck2 : ((k0 : Int) == (k : Int)) = true := by rw [ck]; exact beq_self_eq_true _
          go_wp2_with fail
          refine (out_any HW.out).mono ?_
          rintro e w' ⟨rfl, rfl⟩
          rw [htl.out ck]
          clear ck hu htl
          go_wp2_with fail
          refine (flush_any HW.out (by omega) hs).mono ?_
          rintro e w3 ⟨v, rfl, hv, b3⟩
          obtain ⟨A, c, rfl, hA, hcc, hcx⟩ := own_any hv
          have hb3 := hb.trans (b3.mono s1)
          have hfl := flush_len (wrun bs).1
          obtain ⟨F, hF⟩ : ∃ F, flushF (wrun bs).1 = F := ⟨_, rfl⟩
          have hFr := flush_rng (bs := bs)
          have hFa : ∀ i, byteAt F i = byteAt (wrun bs).1 i := fun i => by rw [← hF]; exact flush_at _ i
          rw [hF] at hv hA hcc hfl hFr
          obtain ⟨m, hmn⟩ : ∃ m, m = min oo F.length := ⟨_, rfl⟩
          have hm2 : (if (F.length : Int) < (oo : Int) then (F.length : Int) else (oo : Int)) = (m : Int) := by
            by_cases h : F.length < oo
            · rw [if_pos (by omega)]; omega
            · rw [if_neg (by omega)]; omega
          have hm3 : (if F.length < oo then (F.length : Int) else (oo : Int)) = (m : Int) := by
            by_cases h : F.length < oo
            · rw [if_pos h]; omega
            · rw [if_neg h]; omega
          have hLv := (Lst.own hv).take m
          rw [← List.map_take] at hLv
          have HV := Lib.hid hLv
          have HFB := Lib.hid (byteAt_rng (F := F.take m) fun x hx => hFr x (List.mem_of_mem_take hx))
          have HF : Hid (∀ i, i < oo → byteAt (F.take m) i = byteAt (wrun bs).1 i) := fun i hi => by rw [take_at hmn hi]; exact hFa i
          have hmc : (m : Int) ≤ (c : Int) := by omega
          have hm0 : (0 : Int) ≤ (m : Int) := by omega
          have hAm : A = none → m = 0 ∧ c = 0 := fun e => by have := hA e; omega
          have hml : (F.take m).length = m := by rw [List.length_take]; omega
          have HA := Lib.hid (And.intro hAm hml)
          have s3 := hb3.size
          have hmb : m ≤ 1000 := by omega
          have HMN := Lib.hid hmn
          clear hmn
          rw [hF]
          clear HW hv b3 hb hFa hF hFr hLv hA hAm hml
          go_wp2_with fail
          refine (rnew_any HA.out.2 HA.out.1 HV.out (by omega)).mono ?_
          rintro e w4 ⟨q, rfl, h4, b4⟩
          have H4 := Lib.hid h4
          clear h4 hm2 hm3 HMN
          generalize F.take m = G at *
          go_wp2
          go_loopw [12] (fun i wr => ∃ j : Nat, j ≤ k0 ∧ i = .int .i64 (j : Int) ∧ Rr wr w3.heap.size q G (rat bs j) ∧ Below w3.heap.size w3 wr) (fun i _ => k0 - (intOf i).toNat)
          case atStart => exact ⟨0, by omega, rfl, H4.out, b4⟩
          case round =>
            obtain ⟨j, jk, rfl, hr, hbr⟩ := hrel
            clear H4 b4
            by_cases c2 : j < k0
            · have hlock := lock (bs := bs) (F := G) (k := j) (by rw [HBL.out]; omega) (fun i hi => HF.out i (by have := len_mono (bs := bs) (j := j + 1) (k := k0) (by omega) (by omega) (by rw [HBL.out]; omega); rw [HOO.out] at this; omega))
              have hrr := rat_rng bs j
              have hgk := HL.out.2.2 j (by omega)
              obtain ⟨b, o, rfl, hbb, f1⟩ := lst_at (HL.out.1.below hb3) (k := j) (by rw [HL.out.2.1]; omega)
              rw [hgk] at f1
              have f2 := (hbr.cell (p := ⟨b, o + j, none⟩) (by show b < _; omega)).trans f1
              have hand := and_bit (bs.getD j 0)
              generalize bs.getD j 0 = x at *
              have HR := Lib.hid hr
              have HLK := Lib.hid hlock
              have hb2 : (x % 2 == x % 2) = true := beq_self_eq_true _
              have c3 : (j : Int) < (len0 : Int) := by omega
              have c4 : (0 : Int) ≤ (j : Int) := by omega
              clear hr hlock hgk f1
              go_wp2
              go_region_with (go_at_call 21; refine (rbit_any (HR.out.drew 1) (by rw [HA.out.2]; omega) (by have := hrr.2; omega) hrr.1 HFB.out).mono ?_; rintro e w5 ⟨rfl, h5, b5⟩; rw [HLK.out.1, HLK.out.2]; have f5 := (b5.cell (p := ⟨b, o + j, none⟩) (by show b < _; omega)).trans f2)
              all_goals
                have hbr5 := (below_drewN hbr 1).trans b5
                rw [HLK.out.1] at h5
                have H5 := Lib.hid h5
                clear h5 b5 HR hbr HLK
                go_wp2
                go_roundw
                case rel => exact ⟨j + 1, by omega, by go_num, H5.out, hbr5⟩
                case measure => simp [intOf] <;> omega
            · have hb5 := hb3.trans (hbr.mono s3)
              go_wp2
              go_ret
              exact ⟨rfl, hb5⟩
        · have ck2 : ((k0 : Int) == (k : Int)) = false := by simp; omega
          obtain rfl : u = oo := hu (by omega)
          clear ck hu htl
          go_wp2_with fail
          refine (flush_any HW.out (by omega) hs).mono ?_
          rintro e w3 ⟨v, rfl, hv, b3⟩
          obtain ⟨A, c, rfl, hA, hcc, hcx⟩ := own_any hv
          have hb3 := hb.trans (b3.mono s1)
          have hfl := flush_len (wrun bs).1
          obtain ⟨F, hF⟩ : ∃ F, flushF (wrun bs).1 = F := ⟨_, rfl⟩
          have hFr := flush_rng (bs := bs)
          have hFa : ∀ i, byteAt F i = byteAt (wrun bs).1 i := fun i => by rw [← hF]; exact flush_at _ i
          rw [hF] at hv hA hcc hfl hFr
          obtain ⟨m, hmn⟩ : ∃ m, m = min u F.length := ⟨_, rfl⟩
          have hm2 : (if (F.length : Int) < (u : Int) then (F.length : Int) else (u : Int)) = (m : Int) := by
            by_cases h : F.length < u
            · rw [if_pos (by omega)]; omega
            · rw [if_neg (by omega)]; omega
          have hm3 : (if F.length < u then (F.length : Int) else (u : Int)) = (m : Int) := by
            by_cases h : F.length < u
            · rw [if_pos h]; omega
            · rw [if_neg h]; omega
          have hLv := (Lst.own hv).take m
          rw [← List.map_take] at hLv
          have HV := Lib.hid hLv
          have HFB := Lib.hid (byteAt_rng (F := F.take m) fun x hx => hFr x (List.mem_of_mem_take hx))
          have HF : Hid (∀ i, i < u → byteAt (F.take m) i = byteAt (wrun bs).1 i) := fun i hi => by rw [take_at hmn hi]; exact hFa i
          have hmc : (m : Int) ≤ (c : Int) := by omega
          have hm0 : (0 : Int) ≤ (m : Int) := by omega
          have hAm : A = none → m = 0 ∧ c = 0 := fun e => by have := hA e; omega
          have hml : (F.take m).length = m := by rw [List.length_take]; omega
          have HA := Lib.hid (And.intro hAm hml)
          have s3 := hb3.size
          have hmb : m ≤ 1000 := by omega
          have HMN := Lib.hid hmn
          clear hmn
          rw [hF]
          clear HW hv b3 hb hFa hF hFr hLv hA hAm hml
          go_wp2_with fail
          refine (rnew_any HA.out.2 HA.out.1 HV.out (by omega)).mono ?_
          rintro e w4 ⟨q, rfl, h4, b4⟩
          have H4 := Lib.hid h4
          clear h4 hm2 hm3 HMN
          generalize F.take m = G at *
          go_wp2
          go_loopw [12] (fun i wr => ∃ j : Nat, j ≤ k0 ∧ i = .int .i64 (j : Int) ∧ Rr wr w3.heap.size q G (rat bs j) ∧ Below w3.heap.size w3 wr) (fun i _ => k0 - (intOf i).toNat)
          case atStart => exact ⟨0, by omega, rfl, H4.out, b4⟩
          case round =>
            obtain ⟨j, jk, rfl, hr, hbr⟩ := hrel
            clear H4 b4
            by_cases c2 : j < k0
            · have hlock := lock (bs := bs) (F := G) (k := j) (by rw [HBL.out]; omega) (fun i hi => HF.out i (by have := len_mono (bs := bs) (j := j + 1) (k := k0) (by omega) (by omega) (by rw [HBL.out]; omega); rw [HOO.out] at this; omega))
              have hrr := rat_rng bs j
              have hgk := HL.out.2.2 j (by omega)
              obtain ⟨b, o, rfl, hbb, f1⟩ := lst_at (HL.out.1.below hb3) (k := j) (by rw [HL.out.2.1]; omega)
              rw [hgk] at f1
              have f2 := (hbr.cell (p := ⟨b, o + j, none⟩) (by show b < _; omega)).trans f1
              have hand := and_bit (bs.getD j 0)
              generalize bs.getD j 0 = x at *
              have HR := Lib.hid hr
              have HLK := Lib.hid hlock
              have hb2 : (x % 2 == x % 2) = true := beq_self_eq_true _
              have c3 : (j : Int) < (len0 : Int) := by omega
              have c4 : (0 : Int) ≤ (j : Int) := by omega
              clear hr hlock hgk f1
              go_wp2
              go_region_with (go_at_call 21; refine (rbit_any (HR.out.drew 1) (by rw [HA.out.2]; omega) (by have := hrr.2; omega) hrr.1 HFB.out).mono ?_; rintro e w5 ⟨rfl, h5, b5⟩; rw [HLK.out.1, HLK.out.2]; have f5 := (b5.cell (p := ⟨b, o + j, none⟩) (by show b < _; omega)).trans f2)
              all_goals
                have hbr5 := (below_drewN hbr 1).trans b5
                rw [HLK.out.1] at h5
                have H5 := Lib.hid h5
                clear h5 b5 HR hbr HLK
                go_wp2
                go_roundw
                case rel => exact ⟨j + 1, by omega, by go_num, H5.out, hbr5⟩
                case measure => simp [intOf] <;> omega
            · have hb5 := hb3.trans (hbr.mono s3)
              go_wp2
              go_ret
              exact ⟨rfl, hb5⟩
  · obtain rfl : n = 0 := by omega
    go_enter Try.func6, Try.ntmps6
    go_wp2_with fail
    refine (known5 _).mono ?_
    rintro e w1 ⟨rfl, b1⟩
    go_wp2_with fail
    refine (wnew_any _).mono ?_
    rintro e w2 ⟨p, rfl, h2, b2⟩
    have s1 := b1.size
    have s2 := b2.size
    have b2 := b1.trans (b2.mono s1)
    have H2 := Lib.hid h2
    clear b1 h2 hm
    go_wp2
    go_loopw [8, 9] (fun v i wr => v = .int .i64 0 ∧ i = .int .i64 0 ∧ w2 = wr) (fun _ _ _ => 0)
    case atStart => exact ⟨rfl, rfl, rfl⟩
    case round =>
      obtain ⟨rfl, rfl, rfl⟩ := hrel
      go_wp2_with fail
      refine (out_any H2.out).mono ?_
      rintro e w' ⟨rfl, rfl⟩
      go_wp2_with fail
      refine (flush_any H2.out (by simp) s2).mono ?_
      rintro e w3 ⟨v, rfl, hv, b3⟩
      rw [show flushF [] = [] from by decide] at hv
      obtain ⟨A, c, rfl, hA, _, _⟩ := own_any hv
      have hb3 := b2.trans (b3.mono s1)
      have s3 := hb3.size
      have HA := Lib.hid hA
      have HV := Lib.hid (Lst.own hv)
      have c0 : (0 : Int) ≤ (c : Int) := by omega
      clear b3 hv hA b2 H2
      go_wp2_with fail
      refine (rnew_any (F := []) rfl HA.out (by simpa using HV.out) (by simp)).mono ?_
      rintro e w4 ⟨q, rfl, h4, b4⟩
      have hb4 := hb3.trans (b4.mono s3)
      clear h4 b4 hb3
      go_wp2
      go_loopw [12] (fun i wr => i = .int .i64 0 ∧ w4 = wr) (fun _ _ => 0)
      case atStart => exact ⟨rfl, rfl⟩
      case round =>
        obtain ⟨rfl, rfl⟩ := hrel
        go_wp2
        go_ret
        exact ⟨rfl, hb4⟩
end Go.Proofs.Ytahnioenoecfeaa
