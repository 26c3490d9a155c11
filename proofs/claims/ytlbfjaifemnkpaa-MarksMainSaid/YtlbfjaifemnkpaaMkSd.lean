/- marks: Same. -/
import Derived.Test.YtlbfjaifemnkpaaMkSc
set_option linter.unusedVariables false
set_option linter.unusedSimpArgs false
namespace Go.Proofs.Ytlbfjaifemnkpaa
open Go.RowKit
set_option maxRecDepth 100000
/-- A bool that says whether R holds. -/
def BoolIs (e : Ending) (R : Prop) : Prop := ∃ b, e = .returned (.bool b) ∧ (b = true ↔ R)
theorem BoolIs.no {R : Prop} (h : ¬ R) : BoolIs (.returned (.bool false)) R := ⟨false, rfl, ⟨fun h => (by cases h), fun h' => absurd h' h⟩⟩
theorem BoolIs.yes {R : Prop} (h : R) : BoolIs (.returned (.bool true)) R := ⟨true, rfl, ⟨fun _ => h, fun _ => rfl⟩⟩
set_option maxHeartbeats 16000000 in
theorem same_any (X Y OX OY : Int) (A : Option Addr) (N C : Nat) (TX TY LV BW BH PR ST OD LY : Int) (RC SO EP : Bool) (SA : Option Addr) (sn sc : Nat) (cs : List Cp) (l : List Int) (X' Y' OX' OY' : Int) (A' : Option Addr) (N' C' : Nat) (TX' TY' LV' BW' BH' PR' ST' OD' LY' : Int) (RC' SO' EP' : Bool) (SA' : Option Addr) (sn' sc' : Nat) (cs' : List Cp) (l' : List Int) (w : World)
    (h1 : CpL w (.slice A N C) cs) (h2 : CpL w (.slice A' N' C') cs') (hN : cs.length = N) (hN' : cs'.length = N') (hn : N ≤ 4) (hn' : N' ≤ 4) (h3 : Lst w w.heap.size SA (l.map (Value.int .u8))) (h4 : Lst w w.heap.size SA' (l'.map (Value.int .u8))) (hl : l.length = sn) (hl' : l'.length = sn') (hs : sn ≤ 100000) (hs' : sn' ≤ 100000) :
    Calls Try.prog 18 #[.agg #[.int .i64 X, .int .i64 Y, .int .i64 OX, .int .i64 OY, .slice A N C, .int .i64 (TX : Int), .int .i64 (TY : Int), .int .i64 (LV : Int), .int .i64 (BW : Int), .int .i64 (BH : Int), .int .i64 (PR : Int), .int .i64 (ST : Int), .int .i64 (OD : Int), .int .i64 (LY : Int), .bool RC, .bool SO, .bool EP, .slice SA sn sc], .agg #[.int .i64 X', .int .i64 Y', .int .i64 OX', .int .i64 OY', .slice A' N' C', .int .i64 (TX' : Int), .int .i64 (TY' : Int), .int .i64 (LV' : Int), .int .i64 (BW' : Int), .int .i64 (BH' : Int), .int .i64 (PR' : Int), .int .i64 (ST' : Int), .int .i64 (OD' : Int), .int .i64 (LY' : Int), .bool RC', .bool SO', .bool EP', .slice SA' sn' sc']] w fun e w' => BoolIs e ((X = X' ∧ Y = Y' ∧ OX = OX' ∧ OY = OY') ∧ likeL cs cs' ∧ (TX = TX' ∧ TY = TY' ∧ LV = LV' ∧ BW = BW' ∧ BH = BH' ∧ PR = PR' ∧ ST = ST' ∧ OD = OD' ∧ LY = LY' ∧ RC = RC' ∧ SO = SO' ∧ EP = EP') ∧ l = l') ∧ Below w.heap.size w w' := by
  have HH := Lib.hid (And.intro h1 (And.intro h2 (And.intro h3 h4)))
  subst hN hN' hl hl'
  clear h1 h2 h3 h4
  obtain ⟨R, hR⟩ : ∃ R, ((X = X' ∧ Y = Y' ∧ OX = OX' ∧ OY = OY') ∧ likeL cs cs' ∧ (TX = TX' ∧ TY = TY' ∧ LV = LV' ∧ BW = BW' ∧ BH = BH' ∧ PR = PR' ∧ ST = ST' ∧ OD = OD' ∧ LY = LY' ∧ RC = RC' ∧ SO = SO' ∧ EP = EP') ∧ l = l') = R := ⟨_, rfl⟩
  rw [hR]
  have HR := Lib.hid hR
  clear hR
  go_enter Try.func18, Try.ntmps18
  go_upto_region 1 with fail
  obtain ⟨B0, hB0⟩ : ∃ B, w.heap.size = B := ⟨_, rfl⟩
  obtain ⟨W1, hW1⟩ : ∃ W, (w.alloc (Obj.cells #[.int .i64 X, .int .i64 Y, .int .i64 OX, .int .i64 OY, .slice A cs.length C, .int .i64 (TX : Int), .int .i64 (TY : Int), .int .i64 (LV : Int), .int .i64 (BW : Int), .int .i64 (BH : Int), .int .i64 (PR : Int), .int .i64 (ST : Int), .int .i64 (OD : Int), .int .i64 (LY : Int), .bool RC, .bool SO, .bool EP, .slice SA l.length sc] 33)).alloc (Obj.cells #[.int .i64 X', .int .i64 Y', .int .i64 OX', .int .i64 OY', .slice A' cs'.length C', .int .i64 (TX' : Int), .int .i64 (TY' : Int), .int .i64 (LV' : Int), .int .i64 (BW' : Int), .int .i64 (BH' : Int), .int .i64 (PR' : Int), .int .i64 (ST' : Int), .int .i64 (OD' : Int), .int .i64 (LY' : Int), .bool RC', .bool SO', .bool EP', .slice SA' l'.length sc'] 33) = W := ⟨_, rfl⟩
  have HW : Hid (MkW w B0 [(#[.int .i64 X, .int .i64 Y, .int .i64 OX, .int .i64 OY, .slice A cs.length C, .int .i64 (TX : Int), .int .i64 (TY : Int), .int .i64 (LV : Int), .int .i64 (BW : Int), .int .i64 (BH : Int), .int .i64 (PR : Int), .int .i64 (ST : Int), .int .i64 (OD : Int), .int .i64 (LY : Int), .bool RC, .bool SO, .bool EP, .slice SA l.length sc], 33), (#[.int .i64 X', .int .i64 Y', .int .i64 OX', .int .i64 OY', .slice A' cs'.length C', .int .i64 (TX' : Int), .int .i64 (TY' : Int), .int .i64 (LV' : Int), .int .i64 (BW' : Int), .int .i64 (BH' : Int), .int .i64 (PR' : Int), .int .i64 (ST' : Int), .int .i64 (OD' : Int), .int .i64 (LY' : Int), .bool RC', .bool SO', .bool EP', .slice SA' l'.length sc'], 33)] W1) := Lib.hid (by
    have h0 : MkW w B0 [] w := ⟨fun i c e => by simp at e, Below.refl _ _, by simp; omega⟩
    have h1 := (h0.more (by simp; omega) #[.int .i64 X, .int .i64 Y, .int .i64 OX, .int .i64 OY, .slice A cs.length C, .int .i64 (TX : Int), .int .i64 (TY : Int), .int .i64 (LV : Int), .int .i64 (BW : Int), .int .i64 (BH : Int), .int .i64 (PR : Int), .int .i64 (ST : Int), .int .i64 (OD : Int), .int .i64 (LY : Int), .bool RC, .bool SO, .bool EP, .slice SA l.length sc] 33).more (by unfold World.alloc; simp; omega) #[.int .i64 X', .int .i64 Y', .int .i64 OX', .int .i64 OY', .slice A' cs'.length C', .int .i64 (TX' : Int), .int .i64 (TY' : Int), .int .i64 (LV' : Int), .int .i64 (BW' : Int), .int .i64 (BH' : Int), .int .i64 (PR' : Int), .int .i64 (ST' : Int), .int .i64 (OD' : Int), .int .i64 (LY' : Int), .bool RC', .bool SO', .bool EP', .slice SA' l'.length sc'] 33
    rw [← hW1]; exact h1)
  rw [hW1, hB0]
  have HBE := Lib.hid hB0
  clear hW1 hB0
  have a0 : W1.cell? ⟨B0, 0, none⟩ = some (.int .i64 X) := rb_cell (show W1.heap[B0]? = _ from HW.out.b 0 _ rfl) 0
  have a1 : W1.cell? ⟨B0, 1, none⟩ = some (.int .i64 Y) := rb_cell (show W1.heap[B0]? = _ from HW.out.b 0 _ rfl) 1
  have a2 : W1.cell? ⟨B0, 2, none⟩ = some (.int .i64 OX) := rb_cell (show W1.heap[B0]? = _ from HW.out.b 0 _ rfl) 2
  have a3 : W1.cell? ⟨B0, 3, none⟩ = some (.int .i64 OY) := rb_cell (show W1.heap[B0]? = _ from HW.out.b 0 _ rfl) 3
  have b0 : W1.cell? ⟨B0 + 1, 0, none⟩ = some (.int .i64 X') := rb_cell (show W1.heap[B0 + 1]? = _ from HW.out.b 1 _ rfl) 0
  have b1 : W1.cell? ⟨B0 + 1, 1, none⟩ = some (.int .i64 Y') := rb_cell (show W1.heap[B0 + 1]? = _ from HW.out.b 1 _ rfl) 1
  have b2 : W1.cell? ⟨B0 + 1, 2, none⟩ = some (.int .i64 OX') := rb_cell (show W1.heap[B0 + 1]? = _ from HW.out.b 1 _ rfl) 2
  have b3 : W1.cell? ⟨B0 + 1, 3, none⟩ = some (.int .i64 OY') := rb_cell (show W1.heap[B0 + 1]? = _ from HW.out.b 1 _ rfl) 3
  by_cases e0 : X = X'
  · subst e0
    by_cases e1 : Y = Y'
    · subst e1
      by_cases e2 : OX = OX'
      · subst e2
        by_cases e3 : OY = OY'
        · subst e3
          go_upto_region 4 with fail
          clear a0 b0 a1 b1 a2 b2 a3 b3
          have a4 : W1.cell? ⟨B0, 4, none⟩ = some (.slice A cs.length C) := rb_cell (show W1.heap[B0]? = _ from HW.out.b 0 _ rfl) 4
          have b4 : W1.cell? ⟨B0 + 1, 4, none⟩ = some (.slice A' cs'.length C') := rb_cell (show W1.heap[B0 + 1]? = _ from HW.out.b 1 _ rfl) 4
          go_wp2_with fail
          clear a4 b4
          refine (eqf_any A A' C C' cs cs' W1 (HH.out.1.below (by rw [HBE.out]; exact HW.out.bel)) (HH.out.2.1.below (by rw [HBE.out]; exact HW.out.bel)) hn hn').mono ?_
          rintro e W2 ⟨q, rfl, hq, hb⟩
          have HQ := Lib.hid hq
          have HW2 := Lib.hid (HW.out.keep hb)
          clear hq hb HW
          have HWB : Hid (Below w.heap.size w W2) := Lib.hid (by rw [HBE.out]; exact HW2.out.bel)
          cases q
          · go_wp2_with fail
            refine bodyPost_ret (v := .bool false) (by simp [results, Try.results18, go_sem]) rfl ?_
            exact ⟨BoolIs.no (fun h => absurd (HQ.out.2 (by rw [← HR.out] at h; exact h.2.1)) (by decide)), by rw [HBE.out]; exact HW2.out.bel⟩
          · by_cases hp : TX = TX' ∧ TY = TY' ∧ LV = LV' ∧ BW = BW' ∧ BH = BH' ∧ PR = PR' ∧ ST = ST' ∧ OD = OD' ∧ LY = LY' ∧ RC = RC' ∧ SO = SO' ∧ EP = EP'
            · obtain ⟨rfl, rfl, rfl, rfl, rfl, rfl, rfl, rfl, rfl, rfl, rfl, rfl⟩ := hp
              have a5 : W2.cell? ⟨B0, 5, none⟩ = some (.int .i64 (TX : Int)) := rb_cell (show W2.heap[B0]? = _ from HW2.out.b 0 _ rfl) 5
              have a6 : W2.cell? ⟨B0, 6, none⟩ = some (.int .i64 (TY : Int)) := rb_cell (show W2.heap[B0]? = _ from HW2.out.b 0 _ rfl) 6
              have a7 : W2.cell? ⟨B0, 7, none⟩ = some (.int .i64 (LV : Int)) := rb_cell (show W2.heap[B0]? = _ from HW2.out.b 0 _ rfl) 7
              have a8 : W2.cell? ⟨B0, 8, none⟩ = some (.int .i64 (BW : Int)) := rb_cell (show W2.heap[B0]? = _ from HW2.out.b 0 _ rfl) 8
              have a9 : W2.cell? ⟨B0, 9, none⟩ = some (.int .i64 (BH : Int)) := rb_cell (show W2.heap[B0]? = _ from HW2.out.b 0 _ rfl) 9
              have a10 : W2.cell? ⟨B0, 10, none⟩ = some (.int .i64 (PR : Int)) := rb_cell (show W2.heap[B0]? = _ from HW2.out.b 0 _ rfl) 10
              have a11 : W2.cell? ⟨B0, 11, none⟩ = some (.int .i64 (ST : Int)) := rb_cell (show W2.heap[B0]? = _ from HW2.out.b 0 _ rfl) 11
              have a12 : W2.cell? ⟨B0, 12, none⟩ = some (.int .i64 (OD : Int)) := rb_cell (show W2.heap[B0]? = _ from HW2.out.b 0 _ rfl) 12
              have a13 : W2.cell? ⟨B0, 13, none⟩ = some (.int .i64 (LY : Int)) := rb_cell (show W2.heap[B0]? = _ from HW2.out.b 0 _ rfl) 13
              have a14 : W2.cell? ⟨B0, 14, none⟩ = some (.bool RC) := rb_cell (show W2.heap[B0]? = _ from HW2.out.b 0 _ rfl) 14
              have a15 : W2.cell? ⟨B0, 15, none⟩ = some (.bool SO) := rb_cell (show W2.heap[B0]? = _ from HW2.out.b 0 _ rfl) 15
              have a16 : W2.cell? ⟨B0, 16, none⟩ = some (.bool EP) := rb_cell (show W2.heap[B0]? = _ from HW2.out.b 0 _ rfl) 16
              have a17 : W2.cell? ⟨B0, 17, none⟩ = some (.slice SA l.length sc) := rb_cell (show W2.heap[B0]? = _ from HW2.out.b 0 _ rfl) 17
              have b5 : W2.cell? ⟨B0 + 1, 5, none⟩ = some (.int .i64 (TX : Int)) := rb_cell (show W2.heap[B0 + 1]? = _ from HW2.out.b 1 _ rfl) 5
              have b6 : W2.cell? ⟨B0 + 1, 6, none⟩ = some (.int .i64 (TY : Int)) := rb_cell (show W2.heap[B0 + 1]? = _ from HW2.out.b 1 _ rfl) 6
              have b7 : W2.cell? ⟨B0 + 1, 7, none⟩ = some (.int .i64 (LV : Int)) := rb_cell (show W2.heap[B0 + 1]? = _ from HW2.out.b 1 _ rfl) 7
              have b8 : W2.cell? ⟨B0 + 1, 8, none⟩ = some (.int .i64 (BW : Int)) := rb_cell (show W2.heap[B0 + 1]? = _ from HW2.out.b 1 _ rfl) 8
              have b9 : W2.cell? ⟨B0 + 1, 9, none⟩ = some (.int .i64 (BH : Int)) := rb_cell (show W2.heap[B0 + 1]? = _ from HW2.out.b 1 _ rfl) 9
              have b10 : W2.cell? ⟨B0 + 1, 10, none⟩ = some (.int .i64 (PR : Int)) := rb_cell (show W2.heap[B0 + 1]? = _ from HW2.out.b 1 _ rfl) 10
              have b11 : W2.cell? ⟨B0 + 1, 11, none⟩ = some (.int .i64 (ST : Int)) := rb_cell (show W2.heap[B0 + 1]? = _ from HW2.out.b 1 _ rfl) 11
              have b12 : W2.cell? ⟨B0 + 1, 12, none⟩ = some (.int .i64 (OD : Int)) := rb_cell (show W2.heap[B0 + 1]? = _ from HW2.out.b 1 _ rfl) 12
              have b13 : W2.cell? ⟨B0 + 1, 13, none⟩ = some (.int .i64 (LY : Int)) := rb_cell (show W2.heap[B0 + 1]? = _ from HW2.out.b 1 _ rfl) 13
              have b14 : W2.cell? ⟨B0 + 1, 14, none⟩ = some (.bool RC) := rb_cell (show W2.heap[B0 + 1]? = _ from HW2.out.b 1 _ rfl) 14
              have b15 : W2.cell? ⟨B0 + 1, 15, none⟩ = some (.bool SO) := rb_cell (show W2.heap[B0 + 1]? = _ from HW2.out.b 1 _ rfl) 15
              have b16 : W2.cell? ⟨B0 + 1, 16, none⟩ = some (.bool EP) := rb_cell (show W2.heap[B0 + 1]? = _ from HW2.out.b 1 _ rfl) 16
              have b17 : W2.cell? ⟨B0 + 1, 17, none⟩ = some (.slice SA' l'.length sc') := rb_cell (show W2.heap[B0 + 1]? = _ from HW2.out.b 1 _ rfl) 17
              go_wp2_with fail
              refine (eqb_any SA SA' sc sc' l l' W2 ((HH.out.2.2.1.below HWB.out).more HWB.out.size) ((HH.out.2.2.2.below HWB.out).more HWB.out.size) hs hs').mono ?_
              rintro e W3 ⟨q, rfl, hq, hb⟩
              have HQ3 := Lib.hid hq
              have HB3 : Hid (Below w.heap.size w W3) := Lib.hid (HWB.out.trans (hb.mono HWB.out.size))
              clear hq hb a5 a6 a7 a8 a9 a10 a11 a12 a13 a14 a15 a16 a17 b5 b6 b7 b8 b9 b10 b11 b12 b13 b14 b15 b16 b17
              go_wp2
              refine bodyPost_ret (v := .bool q) (by simp [results, Try.results18, go_sem]) rfl ?_
              refine ⟨?_, HB3.out⟩
              refine ⟨q, rfl, HQ3.out.trans ⟨fun h => ?_, fun h => ?_⟩⟩
              · rw [← HR.out]
                refine ⟨by simp, HQ.out.1 (by simp), by simp, h⟩
              · rw [← HR.out] at h
                exact h.2.2.2
            · have a5 : W2.cell? ⟨B0, 5, none⟩ = some (.int .i64 (TX : Int)) := rb_cell (show W2.heap[B0]? = _ from HW2.out.b 0 _ rfl) 5
              have a6 : W2.cell? ⟨B0, 6, none⟩ = some (.int .i64 (TY : Int)) := rb_cell (show W2.heap[B0]? = _ from HW2.out.b 0 _ rfl) 6
              have a7 : W2.cell? ⟨B0, 7, none⟩ = some (.int .i64 (LV : Int)) := rb_cell (show W2.heap[B0]? = _ from HW2.out.b 0 _ rfl) 7
              have a8 : W2.cell? ⟨B0, 8, none⟩ = some (.int .i64 (BW : Int)) := rb_cell (show W2.heap[B0]? = _ from HW2.out.b 0 _ rfl) 8
              have a9 : W2.cell? ⟨B0, 9, none⟩ = some (.int .i64 (BH : Int)) := rb_cell (show W2.heap[B0]? = _ from HW2.out.b 0 _ rfl) 9
              have a10 : W2.cell? ⟨B0, 10, none⟩ = some (.int .i64 (PR : Int)) := rb_cell (show W2.heap[B0]? = _ from HW2.out.b 0 _ rfl) 10
              have a11 : W2.cell? ⟨B0, 11, none⟩ = some (.int .i64 (ST : Int)) := rb_cell (show W2.heap[B0]? = _ from HW2.out.b 0 _ rfl) 11
              have a12 : W2.cell? ⟨B0, 12, none⟩ = some (.int .i64 (OD : Int)) := rb_cell (show W2.heap[B0]? = _ from HW2.out.b 0 _ rfl) 12
              have a13 : W2.cell? ⟨B0, 13, none⟩ = some (.int .i64 (LY : Int)) := rb_cell (show W2.heap[B0]? = _ from HW2.out.b 0 _ rfl) 13
              have a14 : W2.cell? ⟨B0, 14, none⟩ = some (.bool RC) := rb_cell (show W2.heap[B0]? = _ from HW2.out.b 0 _ rfl) 14
              have a15 : W2.cell? ⟨B0, 15, none⟩ = some (.bool SO) := rb_cell (show W2.heap[B0]? = _ from HW2.out.b 0 _ rfl) 15
              have a16 : W2.cell? ⟨B0, 16, none⟩ = some (.bool EP) := rb_cell (show W2.heap[B0]? = _ from HW2.out.b 0 _ rfl) 16
              have a17 : W2.cell? ⟨B0, 17, none⟩ = some (.slice SA l.length sc) := rb_cell (show W2.heap[B0]? = _ from HW2.out.b 0 _ rfl) 17
              have b5 : W2.cell? ⟨B0 + 1, 5, none⟩ = some (.int .i64 (TX' : Int)) := rb_cell (show W2.heap[B0 + 1]? = _ from HW2.out.b 1 _ rfl) 5
              have b6 : W2.cell? ⟨B0 + 1, 6, none⟩ = some (.int .i64 (TY' : Int)) := rb_cell (show W2.heap[B0 + 1]? = _ from HW2.out.b 1 _ rfl) 6
              have b7 : W2.cell? ⟨B0 + 1, 7, none⟩ = some (.int .i64 (LV' : Int)) := rb_cell (show W2.heap[B0 + 1]? = _ from HW2.out.b 1 _ rfl) 7
              have b8 : W2.cell? ⟨B0 + 1, 8, none⟩ = some (.int .i64 (BW' : Int)) := rb_cell (show W2.heap[B0 + 1]? = _ from HW2.out.b 1 _ rfl) 8
              have b9 : W2.cell? ⟨B0 + 1, 9, none⟩ = some (.int .i64 (BH' : Int)) := rb_cell (show W2.heap[B0 + 1]? = _ from HW2.out.b 1 _ rfl) 9
              have b10 : W2.cell? ⟨B0 + 1, 10, none⟩ = some (.int .i64 (PR' : Int)) := rb_cell (show W2.heap[B0 + 1]? = _ from HW2.out.b 1 _ rfl) 10
              have b11 : W2.cell? ⟨B0 + 1, 11, none⟩ = some (.int .i64 (ST' : Int)) := rb_cell (show W2.heap[B0 + 1]? = _ from HW2.out.b 1 _ rfl) 11
              have b12 : W2.cell? ⟨B0 + 1, 12, none⟩ = some (.int .i64 (OD' : Int)) := rb_cell (show W2.heap[B0 + 1]? = _ from HW2.out.b 1 _ rfl) 12
              have b13 : W2.cell? ⟨B0 + 1, 13, none⟩ = some (.int .i64 (LY' : Int)) := rb_cell (show W2.heap[B0 + 1]? = _ from HW2.out.b 1 _ rfl) 13
              have b14 : W2.cell? ⟨B0 + 1, 14, none⟩ = some (.bool RC') := rb_cell (show W2.heap[B0 + 1]? = _ from HW2.out.b 1 _ rfl) 14
              have b15 : W2.cell? ⟨B0 + 1, 15, none⟩ = some (.bool SO') := rb_cell (show W2.heap[B0 + 1]? = _ from HW2.out.b 1 _ rfl) 15
              have b16 : W2.cell? ⟨B0 + 1, 16, none⟩ = some (.bool EP') := rb_cell (show W2.heap[B0 + 1]? = _ from HW2.out.b 1 _ rfl) 16
              have b17 : W2.cell? ⟨B0 + 1, 17, none⟩ = some (.slice SA' l'.length sc') := rb_cell (show W2.heap[B0 + 1]? = _ from HW2.out.b 1 _ rfl) 17
              go_wp2_with (exact absurd ⟨by assumption, by assumption, by assumption, by assumption, by assumption, by assumption, by assumption, by assumption, by assumption, by assumption, by assumption, by assumption⟩ hp)
              all_goals (refine bodyPost_ret (v := .bool false) (by simp [results, Try.results18, go_sem]) rfl ?_; exact ⟨BoolIs.no (fun h => by rw [← HR.out] at h; exact hp (by simpa using h.2.2.1)), HWB.out⟩)
        · go_wp2_with fail
          refine bodyPost_ret (v := .bool false) (by simp [results, Try.results18, go_sem]) rfl ?_
          exact ⟨BoolIs.no (fun h => absurd (by rw [← HR.out] at h; exact h.1.2.2.2) e3), by rw [HBE.out]; exact HW.out.bel⟩
      · go_wp2_with fail
        refine bodyPost_ret (v := .bool false) (by simp [results, Try.results18, go_sem]) rfl ?_
        exact ⟨BoolIs.no (fun h => absurd (by rw [← HR.out] at h; exact h.1.2.2.1) e2), by rw [HBE.out]; exact HW.out.bel⟩
    · go_wp2_with fail
      refine bodyPost_ret (v := .bool false) (by simp [results, Try.results18, go_sem]) rfl ?_
      exact ⟨BoolIs.no (fun h => absurd (by rw [← HR.out] at h; exact h.1.2.1) e1), by rw [HBE.out]; exact HW.out.bel⟩
  · go_wp2_with fail
    refine bodyPost_ret (v := .bool false) (by simp [results, Try.results18, go_sem]) rfl ?_
    exact ⟨BoolIs.no (fun h => absurd (by rw [← HR.out] at h; exact h.1.1) e0), by rw [HBE.out]; exact HW.out.bel⟩
/-- A Head's values. -/
structure HV where
  X : Int
  Y : Int
  OX : Int
  OY : Int
  A : Option Addr
  N : Nat
  C : Nat
  TX : Int
  TY : Int
  LV : Int
  BW : Int
  BH : Int
  PR : Int
  ST : Int
  OD : Int
  LY : Int
  RC : Bool
  SO : Bool
  EP : Bool
  SA : Option Addr
  sn : Nat
  sc : Nat
def HV.arr (h : HV) : Array Value := #[.int .i64 h.X, .int .i64 h.Y, .int .i64 h.OX, .int .i64 h.OY, .slice h.A h.N h.C, .int .i64 h.TX, .int .i64 h.TY, .int .i64 h.LV, .int .i64 h.BW, .int .i64 h.BH, .int .i64 h.PR, .int .i64 h.ST, .int .i64 h.OD, .int .i64 h.LY, .bool h.RC, .bool h.SO, .bool h.EP, .slice h.SA h.sn h.sc]
theorem HV.arr_size (h : HV) : h.arr.size = 18 := rfl
/-- What a Head's slices hold. -/
structure HdOk (w : World) (h : HV) (cs : List Cp) (l : List Int) : Prop where
  row : CpL w (.slice h.A h.N h.C) cs
  len : cs.length = h.N
  few : h.N ≤ 4
  com : Lst w w.heap.size h.SA (l.map (Value.int .u8))
  cl : l.length = h.sn
  cb : h.sn ≤ 100000
theorem HdOk.below {w w' : World} {h : HV} {cs : List Cp} {l : List Int} (H : HdOk w h cs l) (hb : Below w.heap.size w w') : HdOk w' h cs l :=
  ⟨H.row.below hb, H.len, H.few, (H.com.below hb).more hb.size, H.cl, H.cb⟩
def HV.same (h h' : HV) (cs cs' : List Cp) (l l' : List Int) : Prop := (h.X = h'.X ∧ h.Y = h'.Y ∧ h.OX = h'.OX ∧ h.OY = h'.OY) ∧ likeL cs cs' ∧ (h.TX = h'.TX ∧ h.TY = h'.TY ∧ h.LV = h'.LV ∧ h.BW = h'.BW ∧ h.BH = h'.BH ∧ h.PR = h'.PR ∧ h.ST = h'.ST ∧ h.OD = h'.OD ∧ h.LY = h'.LY ∧ h.RC = h'.RC ∧ h.SO = h'.SO ∧ h.EP = h'.EP) ∧ l = l'
theorem same_hv {w : World} {h h' : HV} {cs cs' : List Cp} {l l' : List Int} (H : HdOk w h cs l) (H' : HdOk w h' cs' l') :
    Calls Try.prog 18 #[.agg h.arr, .agg h'.arr] w fun e w' => BoolIs e (h.same h' cs cs' l l') ∧ Below w.heap.size w w' := by
  obtain ⟨X, Y, OX, OY, A, N, C, TX, TY, LV, BW, BH, PR, ST, OD, LY, RC, SO, EP, SA, sn, sc⟩ := h
  obtain ⟨X', Y', OX', OY', A', N', C', TX', TY', LV', BW', BH', PR', ST', OD', LY', RC', SO', EP', SA', sn', sc'⟩ := h'
  exact same_any X Y OX OY A N C TX TY LV BW BH PR ST OD LY RC SO EP SA sn sc cs l X' Y' OX' OY' A' N' C' TX' TY' LV' BW' BH' PR' ST' OD' LY' RC' SO' EP' SA' sn' sc' cs' l' w H.row H'.row H.len H'.len H.few H'.few H.com H'.com H.cl H'.cl H.cb H'.cb
end Go.Proofs.Ytlbfjaifemnkpaa
