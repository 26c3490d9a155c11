/- MqStates, walked. -/
import Derived.Test.YtdgkeghgfibolaaDoorMqW
import Derived.Test.YtdgkeghgfibolaaDoorStAll
import Derived.Deep.Grids
set_option linter.unusedVariables false
set_option linter.unusedSimpArgs false
namespace Go.Proofs.YtdgkeghgfibolaaDoor
open Go.RowKit

/-- What a walk is told of a slice of bools that came in. -/
def IsBools (w : World) (a : Option Addr) (len cap : Nat) (B : Nat → Bool) : Prop :=
  (a = none ∧ len = 0 ∧ cap = 0) ∨ ∃ x, a = some x ∧ len ≤ cap ∧ cap ≤ maxLen ∧ ∀ i, i < cap → w.cell? (x.add i) = some (.bool (B i))
theorem IsBools.at {w : World} {a : Option Addr} {len cap : Nat} {B : Nat → Bool} (h : IsBools w a len cap B) : (∀ i, i < len → ∃ b o, a = some ⟨b, o, none⟩ ∧ b < w.heap.size ∧ w.cell? ⟨b, o + i, none⟩ = some (.bool (B i))) ∧ len ≤ maxLen := by
  rcases h with ⟨rfl, rfl, rfl⟩ | ⟨⟨b, o, spot⟩, rfl, hl, hm, hc⟩
  · exact ⟨fun i hi => absurd hi (by omega), by unfold maxLen; omega⟩
  · refine ⟨fun i hi => ?_, by omega⟩
    have h0 := hc i (by omega)
    have hspot : (Addr.add ⟨b, o, spot⟩ i).spot = none := World.cell?_spot h0
    have hz0 := hc 0 (by omega)
    have hsp0 : (Addr.add ⟨b, o, spot⟩ 0).spot = none := World.cell?_spot hz0
    have hs : spot = none := by simpa [Addr.add] using hsp0
    subst hs
    refine ⟨b, o, rfl, World.block_lt_of_cell? w _ hz0 |> fun h => by simpa [Addr.add] using h, ?_⟩
    unfold Addr.add at h0
    split at h0
    · subst_vars; simpa using h0
    · exact h0
/-- An encoder and its contexts, of which the eighth one changes alone. -/
structure Ss (P : Nat → Prop) (W w : World) (p q j : Nat) (e : E) (cx : List Nat) : Prop extends En P W w p q j e cx where
  c8 : cx.getD 16 0 = 0 ∧ cx.getD 17 0 = 0
theorem sC_16 {e : E} {cx : List Nat} {b : Nat} {i : Nat} (hi : i = 16 ∨ i = 17) : (sC e cx 7 b).getD i 0 = cx.getD i 0 := by
  unfold sC mUn
  (repeat' split) <;> first | rfl | (rw [getD_set_ne (by omega)]; done) | (rw [getD_set_ne (by omega), getD_set_ne (by omega)])
theorem sC_14 {e : E} {cx : List Nat} {b : Nat} (h : COk cx) (hb : b ≤ 1) :
    (b = cx.getD 15 0 → ((sC e cx 7 b).getD 14 0 = cx.getD 14 0 ∨ (sC e cx 7 b).getD 14 0 = mps (cx.getD 14 0)) ∧ (sC e cx 7 b).getD 15 0 = cx.getD 15 0) ∧
    (b ≠ cx.getD 15 0 → (sC e cx 7 b).getD 14 0 = lps (cx.getD 14 0) ∧ (sC e cx 7 b).getD 15 0 = if swp (cx.getD 14 0) then 1 - cx.getD 15 0 else cx.getD 15 0) := by
  have hl := h.len
  unfold sC mUn
  refine ⟨fun hb => ?_, fun hb => ?_⟩
  · rw [if_pos hb]
    split
    · exact ⟨Or.inl rfl, rfl⟩
    · exact ⟨Or.inr (getD_set_self (by omega)), getD_set_ne (by omega)⟩
  · rw [if_neg hb]
    split
    · exact ⟨getD_set_self (by rw [List.length_set]; omega), by rw [getD_set_ne (by omega)]; exact getD_set_self (by omega)⟩
    · exact ⟨getD_set_self (by omega), getD_set_ne (by omega)⟩
set_option maxRecDepth 100000 in
set_option maxHeartbeats 8000000 in
theorem walk_mqStates (a0 : Int) (b1 : Bool) (a2 : Option Addr) (len2 cap2 : Nat) (B : Nat → Bool) (W : World) (hT : Tab W) (w0 : (Lit.int .i64 a0).wf = true) (w2 : IsBools W a2 len2 cap2 B) :
    Calls Tryd.prog 7 #[.int .i64 a0, .bool b1, .slice a2 len2 cap2] W fun e w' => e = .returned (.bool true) ∧ Below W.heap.size W w' := by
  have KN := Lib.hid (known_any W)
  have hab := bd_i64 w0
  obtain ⟨hBA, hlen⟩ := w2.at
  have HBA := Lib.hid hBA
  unfold maxLen at hlen
  have FR := Lib.hid (fun u : World => fresh_any u)
  have NW := Lib.hid (fun u : World => new_any u)
  have HT := Lib.hid hT
  have hr := within_rng a0 47 (by omega)
  have WI := Lib.hid (fun u => within_any a0 47 u (by omega) (by omega))
  obtain ⟨i0, hi0⟩ : ∃ N : Nat, a0 % 47 = N := ⟨(a0 % 47).toNat, by omega⟩
  rw [hi0] at hr WI
  have hpos := hT.pos
  obtain ⟨n, hn⟩ : ∃ n : Nat, min len2 100 = n := ⟨_, rfl⟩
  have hn1 : n ≤ len2 := by omega
  have hn2 : n ≤ 100 := by omega
  have HN3 : Hid (n = len2 ∨ n = 100) := Lib.hid (by omega)
  clear hi0 hT w0 w2 hBA hn
  go_enter Tryd.func7, Tryd.ntmps7
  go_wp2_with fail
  refine KN.out.mono ?_
  rintro x w1 ⟨rfl, b1'⟩
  have B1 := Lib.hid b1'
  clear b1' KN
  go_wp2_with fail
  refine (FR.out _).mono ?_
  rintro x w2 ⟨rfl, b2⟩
  have B2 := Lib.hid (B1.out.trans (b2.mono B1.out.size))
  clear b2 B1
  go_wp2_with (refine wpList_fresh rfl _ _ rfl rfl rfl ?_)
  intro w3 hc3 b3
  have B3 := Lib.hid (B2.out.trans (b3.mono B2.out.size))
  have HC3 := Lib.hid hc3
  have hq0 : W.heap.size ≤ w2.heap.size := B2.out.size
  have hqs : w2.heap.size < w3.heap.size := hc3.lt
  clear b3 hc3 B2
  go_wp2_with fail
  refine (WI.out _).mono ?_
  rintro x wx ⟨rfl, rfl⟩
  have g14 := HC3.out.cell 14 (by omega)
  have g15 := HC3.out.cell 15 (by omega)
  have z14 := HC3.out.z 14
  have z15 := HC3.out.z 15
  -- the context's first state
  obtain ⟨m0, hm0⟩ : ∃ m : Nat, (if b1 then 1 else 0) = m := ⟨_, rfl⟩
  have HM0 := Lib.hid hm0
  clear hm0
  go_upto_if 24 with fail
  obtain ⟨X, hX⟩ : ∃ X, (w3.setCell ⟨w2.heap.size, 14, none⟩ (.int .i64 (i0 : Int))).setCell ⟨w2.heap.size, 15, none⟩ (.int .i64 0) = X := ⟨_, rfl⟩
  have HCX : Hid (Cb X w2.heap.size (((cxF 19).set 14 i0).set 15 0)) := Lib.hid (by rw [← hX]; exact (HC3.out.set 14 i0).set 15 0)
  have HBX : Hid (Below W.heap.size W X) := Lib.hid (by rw [← hX]; exact (B3.out.setCell hq0 _).setCell hq0 _)
  have HSX : X.heap.size = w3.heap.size := by rw [← hX]; simp [World.setCell]
  have HSX' := Lib.hid HSX
  rw [hX]
  have x15 := HCX.out.cell 15 (by omega)
  have xz := HCX.out.z 15
  clear hX HSX HC3 B3 g14 g15 z14 z15
  go_cut [] from 25 to 26 (fun wx => Cb wx w2.heap.size (((cxF 19).set 14 i0).set 15 m0) ∧ Below W.heap.size W wx ∧ w3.heap.size ≤ wx.heap.size)
  case first =>
    cases b1 with
    | true =>
      obtain rfl : 1 = m0 := HM0.out
      have HCS := Lib.hid (HCX.out.set 15 1)
      have HBS := Lib.hid (HBX.out.setCell (p := ⟨w2.heap.size, 15, none⟩) hq0 (.int .i64 1))
      go_wp2
      go_meet
      refine ⟨?_, HBS.out, by rw [show ∀ v, (X.setCell ⟨w2.heap.size, 15, none⟩ v).heap.size = X.heap.size from fun v => by simp [World.setCell], HSX'.out]; exact Nat.le_refl _⟩
      have := HCS.out
      rw [List.set_set] at this
      exact this
    | false =>
      obtain rfl : 0 = m0 := HM0.out
      go_wp2
      go_meet
      exact ⟨HCX.out, HBX.out, by rw [HSX'.out]; exact Nat.le_refl _⟩
  case rest =>
    obtain ⟨hC, hB, hs⟩ := hcut
    have hm01 : m0 ≤ 1 := by have := HM0.out; split at this <;> omega
    have HC4 := Lib.hid hC
    have HB4 := Lib.hid hB
    have hok : COk (((cxF 19).set 14 i0).set 15 m0) := (f19_ok.set (k := 7) (by omega) (by omega)).setM (k := 7) (by omega) hm01
    have h8 : (((cxF 19).set 14 i0).set 15 m0).getD 16 0 = 0 ∧ (((cxF 19).set 14 i0).set 15 m0).getD 17 0 = 0 := by
      rw [getD_set_ne (by omega), getD_set_ne (by omega), getD_set_ne (by omega), getD_set_ne (by omega)]; decide
    have HOK := Lib.hid (And.intro hok h8)
    clear hC hB hok h8 HCX HBX x15 xz
    go_wp2_with fail
    refine (NW.out _).mono ?_
    rintro x w5 ⟨p, rfl, he5, b5⟩
    have H0 : Hid (∃ A, (∀ k, A k → w3.heap.size ≤ k ∧ k < w5.heap.size) ∧ Ss A W w5 p w2.heap.size 0 mNew (((cxF 19).set 14 i0).set 15 m0)) := Lib.hid
      ⟨fun k => wc.heap.size ≤ k ∧ k < w5.heap.size, fun k hk => by omega, ⟨he5, HC4.out.below b5, HOK.out.1, mNew_fine, Nat.le_refl _, HB4.out.trans (b5.mono HB4.out.size)⟩, HOK.out.2⟩
    have hs5 : w3.heap.size ≤ w5.heap.size := Nat.le_trans hs b5.size
    clear he5 b5 HC4 HB4 HOK
    go_wp2
    go_loopw [9] (fun i wr => ∃ A j e cx, j ≤ n ∧ i = .int .i64 (j : Int) ∧ w3.heap.size ≤ wr.heap.size ∧ (∀ k, A k → w3.heap.size ≤ k ∧ k < wr.heap.size) ∧ Ss A W wr p w2.heap.size j e cx) (fun i _ => n - (intOf i).toNat)
    case atStart => obtain ⟨A, h1, h2⟩ := H0.out; exact ⟨A, 0, _, _, by omega, rfl, hs5, h1, h2⟩
    case round =>
      obtain ⟨A, j, e, cx, hj, rfl, hsz, hA, hS⟩ := hrel
      have HA := Lib.hid hA
      have HS := Lib.hid hS
      clear hA hS H0
      by_cases hlt : j < n
      · obtain ⟨ba, oa, rfl, hba, mb⟩ := HBA.out j (by omega)
        have mb := (HS.out.bel.cell (p := ⟨ba, oa + j, none⟩) hba).trans mb
        have l1 : (j : Int) < (len2 : Int) := by omega
        have l2 : (j : Int) < 100 := by omega
        have l4 : (0 : Int) ≤ (j : Int) := by omega
        have c14 := HS.out.cb.cell 14 (by omega)
        have c15 := HS.out.cb.cell 15 (by omega)
        have hi := HS.out.ok.i 7 (by omega)
        have hm := HS.out.ok.m 7 (by omega)
        obtain ⟨I, hI⟩ : ∃ I, cx.getD 14 0 = I := ⟨_, rfl⟩
        obtain ⟨M, hM⟩ : ∃ M, cx.getD 15 0 = M := ⟨_, rfl⟩
        rw [hI] at c14
        rw [hM] at c15
        have hi' : I < 47 := by rw [← hI]; exact hi
        have hm' : M ≤ 1 := by rw [← hM]; exact hm
        have HIM := Lib.hid (And.intro hI hM)
        have AT := Lib.hid (fun u : World => ref_in (w := u) hi')
        clear hi hm hI hM
        obtain ⟨Wa, hWa⟩ : ∃ Wa, wr.alloc (Obj.cells #[.int .i64 (I : Int), .int .i64 (M : Int)] 26) = Wa := ⟨_, rfl⟩
        have hbA : Below wr.heap.size wr Wa := by rw [← hWa]; exact (Below.refl _ _).alloc (Nat.le_refl _) _
        have hga : Wa.heap[wr.heap.size]? = some (.cells #[.int .i64 (I : Int), .int .i64 (M : Int)] 26 (0, 0)) := by rw [← hWa]; exact heap_alloc_new wr _
        have ua0 := blk_cell hga 0
        simp at ua0
        have HGA := Lib.hid hga
        have HBA1 := Lib.hid hbA
        have hqr : w2.heap.size < wr.heap.size := by omega
        obtain ⟨bb, hbb⟩ : ∃ bb, B j = bb := ⟨_, rfl⟩
        rw [hbb] at mb
        have mb2 := (hbA.cell (p := ⟨ba, oa + j, none⟩) (Nat.lt_of_lt_of_le hba HS.out.bel.size)).trans mb
        have HMB := Lib.hid mb2
        clear hga hbA hbb mb mb2
        go_wp2_with fail
        refine (AT.out _).mono ?_
        rintro x w6 ⟨rfl, b6⟩
        obtain ⟨Wb, hWb⟩ : ∃ Wb, w6.alloc (Obj.cells #[.int .i64 (qe I : Nat), .int .i64 (mps I : Nat), .int .i64 (lps I : Nat), .bool (swp I)] 54) = Wb := ⟨_, rfl⟩
        have hbB : Below w6.heap.size w6 Wb := by rw [← hWb]; exact (Below.refl _ _).alloc (Nat.le_refl _) _
        have hgb : Wb.heap[w6.heap.size]? = some (.cells #[.int .i64 (qe I : Nat), .int .i64 (mps I : Nat), .int .i64 (lps I : Nat), .bool (swp I)] 54 (0, 0)) := by rw [← hWb]; exact heap_alloc_new w6 _
        have b6' : Below wr.heap.size wr Wb := HBA1.out.trans ((b6.mono HBA1.out.size).trans (hbB.mono (Nat.le_trans HBA1.out.size b6.size)))
        have hgab : Wb.heap[wr.heap.size]? = some (.cells #[.int .i64 (I : Int), .int .i64 (M : Int)] 26 (0, 0)) := (hbB.block _ (Nat.lt_of_lt_of_le (blk_lt HGA.out) b6.size)).trans ((b6.block _ (blk_lt HGA.out)).trans HGA.out)
        have mb := ((hbB.cell (p := ⟨ba, oa + j, none⟩) (Nat.lt_of_lt_of_le (Nat.lt_of_lt_of_le (Nat.lt_of_lt_of_le hba HS.out.bel.size) HBA1.out.size) b6.size)).trans (b6.cell (p := ⟨ba, oa + j, none⟩) (Nat.lt_of_lt_of_le (Nat.lt_of_lt_of_le hba HS.out.bel.size) HBA1.out.size))).trans HMB.out
        have hew := HS.out.ew.below b6'
        have hcw := HS.out.cb.below b6'
        have hbw := HS.out.bel.trans (b6'.mono HS.out.bel.size)
        have hlb : wr.heap.size < Wb.heap.size := blk_lt hgab
        have hl6 : wr.heap.size < w6.heap.size := Nat.lt_of_lt_of_le (blk_lt HGA.out) b6.size
        have hl6b : w6.heap.size < Wb.heap.size := blk_lt hgb
        obtain ⟨bt, hbt⟩ : ∃ bt : Nat, (if bb then 1 else 0) = bt := ⟨_, rfl⟩
        have hbt1 : bt ≤ 1 := by rw [← hbt]; split <;> omega
        have hle := HS.out.len
        have EN := Lib.hid (encode_any (P := more A Wb) (bit := (bt : Int)) (b := bt) (hew.imp fun k _ h => Or.inl h) hcw (fun h => by rcases h with h | h; have := (HA.out _ h).1; omega; omega) (HT.out.below hpos hbw) (fun h => by rcases h with h | h; have := (HA.out _ h).1; omega; omega) (by omega) HS.out.ok HS.out.fine (k := 7) (by omega) (by omega) (by omega) (fun k hk => Or.inr hk))
        have hs14 := sC_14 (e := e) HS.out.ok hbt1
        have hok2 := sC_ok (e := e) HS.out.ok (k := 7) (by omega) bt
        have h16 := sC_16 (e := e) (cx := cx) (b := bt) (i := 16) (Or.inl rfl)
        have h17 := sC_16 (e := e) (cx := cx) (b := bt) (i := 17) (Or.inr rfl)
        have hfi2 := sE_fine HS.out.fine HS.out.ok (k := 7) (by omega) bt
        have hln2 := sE_len e cx 7 bt
        rw [HIM.out.1, HIM.out.2] at hs14
        have HF2 := Lib.hid (And.intro hok2 (And.intro hfi2 (And.intro (show (sE e cx 7 bt).pre.length ≤ 16 * (j + 1) by omega) (And.intro (h16.trans HS.out.c8.1) (h17.trans HS.out.c8.2)))))
        have HS14 := Lib.hid hs14
        have HW := Lib.hid (And.intro hgab (And.intro hgb hbw))
        have HBT := Lib.hid hbt
        clear hew hcw hbw hs14 hok2 h16 h17 hfi2 hln2 hgab hgb b6 b6' hbB AT HGA HBA1 HMB hle ua0 c14 c15 hbt
        have mbx := mb
        clear mb
        cases bb with
        | true =>
          obtain rfl : 1 = bt := HBT.out
          go_wp2_with fail
          refine EN.out.mono ?_
          rintro x w7 ⟨rfl, he7, hc7, o7⟩
          have hE : ∀ i, EC (more A Wb) w2.heap.size i → W.heap.size ≤ i := fun i hi => by
            rcases hi with (hi | hi) | hi
            · have := (HA.out i hi).1; omega
            · have := HW.out.2.2.size; omega
            · omega
          have nA : ¬ EC (more A Wb) w2.heap.size wr.heap.size := fun h => by
            rcases h with (h | h) | h
            · have := (HA.out _ h).2; omega
            · omega
            · omega
          have nB : ¬ EC (more A Wb) w2.heap.size w6.heap.size := fun h => by
            rcases h with (h | h) | h
            · have := (HA.out _ h).2; omega
            · omega
            · omega
          have ga := (o7.block _ nA).trans HW.out.1
          have gb := (o7.block _ nB).trans HW.out.2.1
          have HS7 : Hid (Ss (upto (more A Wb) w7) W w7 p w2.heap.size (j + 1) (sE e cx 7 1) (sC e cx 7 1)) := Lib.hid ⟨⟨he7.imp fun k hk h => ⟨h, hk⟩, hc7, HF2.out.1, HF2.out.2.1, HF2.out.2.2.1, HW.out.2.2.trans (Only.below o7 fun i hi => hE i hi)⟩, HF2.out.2.2.2⟩
          have HA7 : Hid (∀ k, upto (more A Wb) w7 k → w3.heap.size ≤ k ∧ k < w7.heap.size) := Lib.hid (fun k hk => ⟨by
            rcases hk.1 with h | h
            · exact (HA.out k h).1
            · omega, hk.2⟩)
          have s7 : Wb.heap.size ≤ w7.heap.size := o7.size
          have v0 := blk_cell ga 0
          have v1 := blk_cell ga 1
          have s0 := blk_cell gb 1
          have s1 := blk_cell gb 2
          have s2 := blk_cell gb 3
          simp at v0 v1 s0 s1 s2
          have c14 := hc7.cell 14 (by omega)
          have c15 := hc7.cell 15 (by omega)
          have hs14 := HS14.out
          obtain ⟨I2, hI2⟩ : ∃ I2, (sC e cx 7 1).getD 14 0 = I2 := ⟨_, rfl⟩
          obtain ⟨M2, hM2⟩ : ∃ M2, (sC e cx 7 1).getD 15 0 = M2 := ⟨_, rfl⟩
          rw [hI2] at c14 hs14
          rw [hM2] at c15 hs14
          obtain ⟨mi, hmi⟩ : ∃ mi, mps I = mi := ⟨_, rfl⟩
          obtain ⟨li, hli⟩ : ∃ li, lps I = li := ⟨_, rfl⟩
          obtain ⟨si, hsi⟩ : ∃ si, swp I = si := ⟨_, rfl⟩
          rw [hmi] at s0 hs14
          rw [hli] at s1 hs14
          rw [hsi] at s2 hs14
          have lw6 : w6.heap.size < w7.heap.size := by omega
          have lwr : wr.heap.size < w7.heap.size := by omega
          have lq : w2.heap.size < w7.heap.size := by omega
          clear EN he7 hc7 o7 hE nA nB ga gb hI2 hM2 hmi hli hsi HW HF2 HS14 mbx HIM HS HA
          by_cases hbm : 1 = M
          · obtain ⟨hor, rfl⟩ := hs14.1 hbm
            have e1 : ((1 : Int) == (M2 : Int)) = true := by simp; omega
            have e2 : ((M2 : Int) == (M2 : Int)) = true := by simp
            have e2' : ((M2 : Int) != (M2 : Int)) = false := by simp
            clear hs14 hbm
            by_cases hII : I2 = I
            · have e3 : ((I2 : Int) == (I : Int)) = true := by simp; omega
              clear hII hor
              go_wp2
              all_goals exact ⟨⟨_, j + 1, _, _, by omega, by go_num, by simp; omega, fun k hk => by have := HA7.out k hk; simp; omega, ⟨HS7.out.ew.keep (by simp) (fun k hk => Below.heap_alloc w7 _ k (HA7.out k hk).2), (HS7.out.cb.below ((Below.refl _ _).alloc (Nat.le_refl _) _)), HS7.out.ok, HS7.out.fine, HS7.out.len, HS7.out.bel.alloc HS7.out.bel.size _⟩, HS7.out.c8⟩, by simp [intOf]; omega⟩
            · have e3 : ((I2 : Int) == (I : Int)) = false := by simp; omega
              have e4 : ((I2 : Int) != (mi : Int)) = false := by simp; omega
              clear hII hor
              go_wp2
              all_goals exact ⟨⟨_, j + 1, _, _, by omega, by go_num, by simp; omega, fun k hk => by have := HA7.out k hk; simp; omega, ⟨HS7.out.ew.keep (by simp) (fun k hk => Below.heap_alloc w7 _ k (HA7.out k hk).2), (HS7.out.cb.below ((Below.refl _ _).alloc (Nat.le_refl _) _)), HS7.out.ok, HS7.out.fine, HS7.out.len, HS7.out.bel.alloc HS7.out.bel.size _⟩, HS7.out.c8⟩, by simp [intOf]; omega⟩
          · obtain ⟨rfl, hM2⟩ := hs14.2 hbm
            have e1 : ((1 : Int) == (M : Int)) = false := by simp; omega
            have e4 : ((I2 : Int) != (I2 : Int)) = false := by simp
            clear hs14 hbm
            cases si with
            | true =>
              have hMM : M2 ≠ M := by simp at hM2; omega
              have e5 : ((M2 : Int) != (M : Int)) = true := by simp; omega
              have e6 : ((M2 : Int) == (M : Int)) = false := by simp; omega
              clear hM2 hMM
              go_wp2
              all_goals exact ⟨⟨_, j + 1, _, _, by omega, by go_num, by simp; omega, fun k hk => by have := HA7.out k hk; simp; omega, ⟨HS7.out.ew.keep (by simp) (fun k hk => Below.heap_alloc w7 _ k (HA7.out k hk).2), (HS7.out.cb.below ((Below.refl _ _).alloc (Nat.le_refl _) _)), HS7.out.ok, HS7.out.fine, HS7.out.len, HS7.out.bel.alloc HS7.out.bel.size _⟩, HS7.out.c8⟩, by simp [intOf]; omega⟩
            | false =>
              have hMM : M2 = M := by simpa using hM2
              have e5 : ((M2 : Int) != (M : Int)) = false := by simp; omega
              have e6 : ((M2 : Int) == (M : Int)) = true := by simp; omega
              clear hM2 hMM
              go_wp2
              all_goals exact ⟨⟨_, j + 1, _, _, by omega, by go_num, by simp; omega, fun k hk => by have := HA7.out k hk; simp; omega, ⟨HS7.out.ew.keep (by simp) (fun k hk => Below.heap_alloc w7 _ k (HA7.out k hk).2), (HS7.out.cb.below ((Below.refl _ _).alloc (Nat.le_refl _) _)), HS7.out.ok, HS7.out.fine, HS7.out.len, HS7.out.bel.alloc HS7.out.bel.size _⟩, HS7.out.c8⟩, by simp [intOf]; omega⟩
        | false =>
          obtain rfl : 0 = bt := HBT.out
          go_wp2_with fail
          refine EN.out.mono ?_
          rintro x w7 ⟨rfl, he7, hc7, o7⟩
          have hE : ∀ i, EC (more A Wb) w2.heap.size i → W.heap.size ≤ i := fun i hi => by
            rcases hi with (hi | hi) | hi
            · have := (HA.out i hi).1; omega
            · have := HW.out.2.2.size; omega
            · omega
          have nA : ¬ EC (more A Wb) w2.heap.size wr.heap.size := fun h => by
            rcases h with (h | h) | h
            · have := (HA.out _ h).2; omega
            · omega
            · omega
          have nB : ¬ EC (more A Wb) w2.heap.size w6.heap.size := fun h => by
            rcases h with (h | h) | h
            · have := (HA.out _ h).2; omega
            · omega
            · omega
          have ga := (o7.block _ nA).trans HW.out.1
          have gb := (o7.block _ nB).trans HW.out.2.1
          have HS7 : Hid (Ss (upto (more A Wb) w7) W w7 p w2.heap.size (j + 1) (sE e cx 7 0) (sC e cx 7 0)) := Lib.hid ⟨⟨he7.imp fun k hk h => ⟨h, hk⟩, hc7, HF2.out.1, HF2.out.2.1, HF2.out.2.2.1, HW.out.2.2.trans (Only.below o7 fun i hi => hE i hi)⟩, HF2.out.2.2.2⟩
          have HA7 : Hid (∀ k, upto (more A Wb) w7 k → w3.heap.size ≤ k ∧ k < w7.heap.size) := Lib.hid (fun k hk => ⟨by
            rcases hk.1 with h | h
            · exact (HA.out k h).1
            · omega, hk.2⟩)
          have s7 : Wb.heap.size ≤ w7.heap.size := o7.size
          have v0 := blk_cell ga 0
          have v1 := blk_cell ga 1
          have s0 := blk_cell gb 1
          have s1 := blk_cell gb 2
          have s2 := blk_cell gb 3
          simp at v0 v1 s0 s1 s2
          have c14 := hc7.cell 14 (by omega)
          have c15 := hc7.cell 15 (by omega)
          have hs14 := HS14.out
          obtain ⟨I2, hI2⟩ : ∃ I2, (sC e cx 7 0).getD 14 0 = I2 := ⟨_, rfl⟩
          obtain ⟨M2, hM2⟩ : ∃ M2, (sC e cx 7 0).getD 15 0 = M2 := ⟨_, rfl⟩
          rw [hI2] at c14 hs14
          rw [hM2] at c15 hs14
          obtain ⟨mi, hmi⟩ : ∃ mi, mps I = mi := ⟨_, rfl⟩
          obtain ⟨li, hli⟩ : ∃ li, lps I = li := ⟨_, rfl⟩
          obtain ⟨si, hsi⟩ : ∃ si, swp I = si := ⟨_, rfl⟩
          rw [hmi] at s0 hs14
          rw [hli] at s1 hs14
          rw [hsi] at s2 hs14
          have lw6 : w6.heap.size < w7.heap.size := by omega
          have lwr : wr.heap.size < w7.heap.size := by omega
          have lq : w2.heap.size < w7.heap.size := by omega
          clear EN he7 hc7 o7 hE nA nB ga gb hI2 hM2 hmi hli hsi HW HF2 HS14 mbx HIM HS HA
          by_cases hbm : 0 = M
          · obtain ⟨hor, rfl⟩ := hs14.1 hbm
            have e1 : ((0 : Int) == (M2 : Int)) = true := by simp; omega
            have e2 : ((M2 : Int) == (M2 : Int)) = true := by simp
            have e2' : ((M2 : Int) != (M2 : Int)) = false := by simp
            clear hs14 hbm
            by_cases hII : I2 = I
            · have e3 : ((I2 : Int) == (I : Int)) = true := by simp; omega
              clear hII hor
              go_wp2
              all_goals exact ⟨⟨_, j + 1, _, _, by omega, by go_num, by simp; omega, fun k hk => by have := HA7.out k hk; simp; omega, ⟨HS7.out.ew.keep (by simp) (fun k hk => Below.heap_alloc w7 _ k (HA7.out k hk).2), (HS7.out.cb.below ((Below.refl _ _).alloc (Nat.le_refl _) _)), HS7.out.ok, HS7.out.fine, HS7.out.len, HS7.out.bel.alloc HS7.out.bel.size _⟩, HS7.out.c8⟩, by simp [intOf]; omega⟩
            · have e3 : ((I2 : Int) == (I : Int)) = false := by simp; omega
              have e4 : ((I2 : Int) != (mi : Int)) = false := by simp; omega
              clear hII hor
              go_wp2
              all_goals exact ⟨⟨_, j + 1, _, _, by omega, by go_num, by simp; omega, fun k hk => by have := HA7.out k hk; simp; omega, ⟨HS7.out.ew.keep (by simp) (fun k hk => Below.heap_alloc w7 _ k (HA7.out k hk).2), (HS7.out.cb.below ((Below.refl _ _).alloc (Nat.le_refl _) _)), HS7.out.ok, HS7.out.fine, HS7.out.len, HS7.out.bel.alloc HS7.out.bel.size _⟩, HS7.out.c8⟩, by simp [intOf]; omega⟩
          · obtain ⟨rfl, hM2⟩ := hs14.2 hbm
            have e1 : ((0 : Int) == (M : Int)) = false := by simp; omega
            have e4 : ((I2 : Int) != (I2 : Int)) = false := by simp
            clear hs14 hbm
            cases si with
            | true =>
              have hMM : M2 ≠ M := by simp at hM2; omega
              have e5 : ((M2 : Int) != (M : Int)) = true := by simp; omega
              have e6 : ((M2 : Int) == (M : Int)) = false := by simp; omega
              clear hM2 hMM
              go_wp2
              all_goals exact ⟨⟨_, j + 1, _, _, by omega, by go_num, by simp; omega, fun k hk => by have := HA7.out k hk; simp; omega, ⟨HS7.out.ew.keep (by simp) (fun k hk => Below.heap_alloc w7 _ k (HA7.out k hk).2), (HS7.out.cb.below ((Below.refl _ _).alloc (Nat.le_refl _) _)), HS7.out.ok, HS7.out.fine, HS7.out.len, HS7.out.bel.alloc HS7.out.bel.size _⟩, HS7.out.c8⟩, by simp [intOf]; omega⟩
            | false =>
              have hMM : M2 = M := by simpa using hM2
              have e5 : ((M2 : Int) != (M : Int)) = false := by simp; omega
              have e6 : ((M2 : Int) == (M : Int)) = true := by simp; omega
              clear hM2 hMM
              go_wp2
              all_goals exact ⟨⟨_, j + 1, _, _, by omega, by go_num, by simp; omega, fun k hk => by have := HA7.out k hk; simp; omega, ⟨HS7.out.ew.keep (by simp) (fun k hk => Below.heap_alloc w7 _ k (HA7.out k hk).2), (HS7.out.cb.below ((Below.refl _ _).alloc (Nat.le_refl _) _)), HS7.out.ok, HS7.out.fine, HS7.out.len, HS7.out.bel.alloc HS7.out.bel.size _⟩, HS7.out.c8⟩, by simp [intOf]; omega⟩
      · obtain rfl : j = n := by omega
        clear hlt
        have d8 := HS.out.cb.cell 16 (by omega)
        have d9 := HS.out.cb.cell 17 (by omega)
        rw [HS.out.c8.1] at d8
        rw [HS.out.c8.2] at d9
        have HBE := Lib.hid HS.out.bel
        clear HS HA
        rcases HN3.out with h3 | h3
        · have e0 : ¬ (j : Int) < (len2 : Int) := by omega
          clear h3
          go_wp2
          go_ret
          exact ⟨rfl, HBE.out⟩
        · have e0 : ¬ (j : Int) < 100 := by omega
          clear h3
          by_cases h4 : j < len2
          · have e1 : (j : Int) < (len2 : Int) := by omega
            go_wp2
            go_ret
            exact ⟨rfl, HBE.out⟩
          · have e1 : ¬ (j : Int) < (len2 : Int) := by omega
            go_wp2
            go_ret
            exact ⟨rfl, HBE.out⟩
end Go.Proofs.YtdgkeghgfibolaaDoor
