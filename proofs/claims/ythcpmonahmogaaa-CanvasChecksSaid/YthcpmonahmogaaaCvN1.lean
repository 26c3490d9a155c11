/- canvas: Form.Make by its contract. -/
import Derived.Test.YthcpmonahmogaaaCvN2
import Derived.Test.YthcpmonahmogaaaCvSa0
import Derived.Test.YthcpmonahmogaaaApps
import Derived.Deep.CutRange
import Derived.Deep.CutBlock
import Derived.Deep.LoopGhost
set_option linter.unusedVariables false
set_option linter.unusedSimpArgs false
namespace Go.Proofs.Ythcpmonahmogaaa
open Go.RowKit
set_option maxRecDepth 100000
attribute [local go_sem ↓] appSem_eq
@[reducible] def fmA (x y ox oy nc dp sb : Int) (sg rc so ep : Bool) (tx ty lv bw bh pr st od ly : Int) (A : Option Addr) (n c : Nat) : Array Value := #[.int .i64 x, .int .i64 y, .int .i64 ox, .int .i64 oy, .int .i64 nc, .int .i64 dp, .int .i64 sb, .bool sg, .bool rc, .bool so, .bool ep, .int .i64 tx, .int .i64 ty, .int .i64 lv, .int .i64 bw, .int .i64 bh, .int .i64 pr, .int .i64 st, .int .i64 od, .int .i64 ly, .slice A n c]
set_option maxHeartbeats 16000000 in
theorem make_walk (x y ox oy nc dp sb tx ty lv bw bh pr st od ly : Int) (sg rc so ep : Bool) (A : Option Addr) (n c : Nat) (side : Nat) (w : World) (hs : 1 ≤ side ∧ side ≤ 20)
    (OX OY XW YW X Y LV BW0 BH0 PR0 ST OD LY0 BW BH PR1 LY TXW TYW : Int)
    (HX : Hid (ox % 6 = OX ∧ oy % 6 = OY ∧ x % (side : Int) = XW ∧ y % (side : Int) = YW ∧ OX + 1 + XW = X ∧ OY + 1 + YW = Y ∧ lv % 6 = LV ∧ bw % 3 = BW0 ∧ bh % 3 = BH0 ∧ pr % 5 = PR0 ∧ st % 64 = ST ∧ od % 5 = OD ∧ ly % 4 = LY0 ∧ 2 + BW0 = BW ∧ 2 + BH0 = BH ∧ 1 + PR0 = PR1 ∧ 1 + LY0 = LY ∧ tx % (side : Int) = TXW ∧ ty % (side : Int) = TYW))
    (DP0 DP NC0 : Int) (N : Nat) (HY : Hid (dp % 10 = DP0 ∧ 1 + DP0 = DP ∧ nc % 4 = NC0 ∧ 1 + NC0 = (N : Int))) (zs : List Int) (FTX FTY PR : Int) (RCT : Bool) (HQQ : Hid (dblT X Y 5 (OX + 1 + TXW) (OY + 1 + TYW) = (FTX, FTY) ∧ (if pr % 4 = 0 then (15 : Int) else PR1) = PR ∧ (rc && (decide (3 ≤ N) && decide (sb.tmod 5 ≠ 1))) = RCT)) (HZ : Hid (Lst w w.heap.size A (zs.map (Value.int .i64)) ∧ zs.length = n ∧ ∀ z ∈ zs, -9223372036854775808 ≤ z ∧ z ≤ 9223372036854775807)) (hn : n ≤ 9223372036854775807) (hsb : -9223372036854775808 ≤ sb ∧ sb ≤ 9223372036854775807) :
    Calls Try.prog 16 #[.agg #[.int .i64 x, .int .i64 y, .int .i64 ox, .int .i64 oy, .int .i64 nc, .int .i64 dp, .int .i64 sb, .bool sg, .bool rc, .bool so, .bool ep, .int .i64 tx, .int .i64 ty, .int .i64 lv, .int .i64 bw, .int .i64 bh, .int .i64 pr, .int .i64 st, .int .i64 od, .int .i64 ly, .slice A n c], .int .i64 (side : Int)] w fun e w' => ∃ (A2 : Option Addr) (c2 : Nat) (cs : List Cp), e = .returned (.tuple #[.agg #[.int .i64 X, .int .i64 Y, .int .i64 OX, .int .i64 OY, .slice A2 N c2], .agg #[.int .i64 FTX, .int .i64 FTY, .int .i64 LV, .int .i64 BW, .int .i64 BH, .int .i64 PR, .int .i64 ST, .int .i64 OD, .int .i64 LY, .bool RCT, .bool so, .bool ep]]) ∧ cs.length = N ∧ CRow w.heap.size w' (.slice A2 N c2) cs ∧ (∀ i c, cs[i]? = some c → KeyIs X Y OX OY sb DP sg i c) ∧ Below w.heap.size w w' ∧ (1 ≤ FTX ∧ FTX ≤ 832) ∧ (1 ≤ FTY ∧ FTY ≤ 832) ∧ cntT X Y FTX FTY ≤ 6 := by
  have hOX : 0 ≤ OX ∧ OX < 6 := by have := HX.out.1; have := within_rng ox 6 (by omega); omega
  have hOY : 0 ≤ OY ∧ OY < 6 := by have := HX.out.2.1; have := within_rng oy 6 (by omega); omega
  have hXW : 0 ≤ XW ∧ XW < side := by have := HX.out.2.2.1; have := within_rng x side (by omega); omega
  have hYW : 0 ≤ YW ∧ YW < side := by have := HX.out.2.2.2.1; have := within_rng y side (by omega); omega
  have hX : OX < X ∧ X ≤ 25 := by have := HX.out.2.2.2.2.1; omega
  have hY : OY < Y ∧ Y ≤ 25 := by have := HX.out.2.2.2.2.2.1; omega
  have mm : ∀ a b r : Int, 1 ≤ b → a % b = r → 0 ≤ r ∧ r < b := fun a b r hb e => by have := within_rng a b hb; omega
  have hLV := mm lv 6 LV (by omega) HX.out.2.2.2.2.2.2.1
  have hBW0 := mm bw 3 BW0 (by omega) HX.out.2.2.2.2.2.2.2.1
  have hBH0 := mm bh 3 BH0 (by omega) HX.out.2.2.2.2.2.2.2.2.1
  have hPR0 := mm pr 5 PR0 (by omega) HX.out.2.2.2.2.2.2.2.2.2.1
  have hST := mm st 64 ST (by omega) HX.out.2.2.2.2.2.2.2.2.2.2.1
  have hOD := mm od 5 OD (by omega) HX.out.2.2.2.2.2.2.2.2.2.2.2.1
  have hLY0 := mm ly 4 LY0 (by omega) HX.out.2.2.2.2.2.2.2.2.2.2.2.2.1
  have hTXW := mm tx side TXW (by omega) HX.out.2.2.2.2.2.2.2.2.2.2.2.2.2.2.2.2.2.1
  have hTYW := mm ty side TYW (by omega) HX.out.2.2.2.2.2.2.2.2.2.2.2.2.2.2.2.2.2.2
  have WI : ∀ a b r : Int, 1 ≤ b → b ≤ 100000 → a % b = r → Hid (∀ u, Calls Try.prog 17 #[.int .i64 a, .int .i64 b] u fun e w' => e = .returned (.int .i64 r) ∧ u = w') := fun a b r h1 h2 e => Lib.hid fun u => by rw [← e]; exact within12 a b u h1 (by omega)
  have W0 := WI ox 6 OX (by omega) (by omega) HX.out.1
  have W1 := WI oy 6 OY (by omega) (by omega) HX.out.2.1
  have W2 := WI x side XW (by omega) (by omega) HX.out.2.2.1
  have W3 := WI y side YW (by omega) (by omega) HX.out.2.2.2.1
  have W4 := WI lv 6 LV (by omega) (by omega) HX.out.2.2.2.2.2.2.1
  have W5 := WI bw 3 BW0 (by omega) (by omega) HX.out.2.2.2.2.2.2.2.1
  have W6 := WI bh 3 BH0 (by omega) (by omega) HX.out.2.2.2.2.2.2.2.2.1
  have W7 := WI pr 5 PR0 (by omega) (by omega) HX.out.2.2.2.2.2.2.2.2.2.1
  have W8 := WI st 64 ST (by omega) (by omega) HX.out.2.2.2.2.2.2.2.2.2.2.1
  have W9 := WI od 5 OD (by omega) (by omega) HX.out.2.2.2.2.2.2.2.2.2.2.2.1
  have Wa := WI ly 4 LY0 (by omega) (by omega) HX.out.2.2.2.2.2.2.2.2.2.2.2.2.1
  have Wb := WI tx side TXW (by omega) (by omega) HX.out.2.2.2.2.2.2.2.2.2.2.2.2.2.2.2.2.2.1
  have Wc := WI ty side TYW (by omega) (by omega) HX.out.2.2.2.2.2.2.2.2.2.2.2.2.2.2.2.2.2.2
  have wr : ∀ a b : Int, a = b → -1000 ≤ b ∧ b ≤ 1000 → IntKind.i64.wrap a = b := fun a b e h => by rw [e]; exact IntWalk.i64_in _ (by omega)
  have SW : Hid (IntKind.i64.wrap (OX + 1) = OX + 1 ∧ IntKind.i64.wrap (OY + 1) = OY + 1 ∧ IntKind.i64.wrap (OX + 1 + XW) = X ∧ IntKind.i64.wrap (OY + 1 + YW) = Y ∧ IntKind.i64.wrap (2 + BW0) = BW ∧ IntKind.i64.wrap (2 + BH0) = BH ∧ IntKind.i64.wrap (1 + PR0) = PR1 ∧ IntKind.i64.wrap (1 + LY0) = LY ∧ IntKind.i64.wrap (OX + 1 + TXW) = OX + 1 + TXW ∧ IntKind.i64.wrap (OY + 1 + TYW) = OY + 1 + TYW) := Lib.hid (by
    have h := HX.out
    exact ⟨wr _ _ rfl (by omega), wr _ _ rfl (by omega), wr _ _ (by omega) (by omega), wr _ _ (by omega) (by omega), wr _ _ (by omega) (by omega), wr _ _ (by omega) (by omega), wr _ _ (by omega) (by omega), wr _ _ (by omega) (by omega), wr _ _ rfl (by omega), wr _ _ rfl (by omega)⟩)
  have hBW : 2 ≤ BW ∧ BW ≤ 4 := by have := HX.out; omega
  have hBH : 2 ≤ BH ∧ BH ≤ 4 := by have := HX.out; omega
  have hPR1 : 1 ≤ PR1 ∧ PR1 ≤ 5 := by have := HX.out; omega
  have hLY : 1 ≤ LY ∧ LY ≤ 4 := by have := HX.out; omega
  have WD := WI dp 10 DP0 (by omega) (by omega) HY.out.1
  have WN := WI nc 4 NC0 (by omega) (by omega) HY.out.2.2.1
  have hDP0 := mm dp 10 DP0 (by omega) HY.out.1
  have hNC0 := mm nc 4 NC0 (by omega) HY.out.2.2.1
  have hDP : 1 ≤ DP ∧ DP ≤ 10 := by have := HY.out; omega
  have hN : 1 ≤ N ∧ N ≤ 4 := by have := HY.out; omega
  clear mm WI wr
  go_enter Try.func16, Try.ntmps16
  go_upto_region 1 with fail
  obtain ⟨B, hBe⟩ : ∃ B, w.heap.size = B := ⟨_, rfl⟩
  obtain ⟨V1, hV1⟩ : ∃ V1, ((w.alloc (Obj.cells #[.int .i64 x, .int .i64 y, .int .i64 ox, .int .i64 oy, .int .i64 nc, .int .i64 dp, .int .i64 sb, .bool sg, .bool rc, .bool so, .bool ep, .int .i64 tx, .int .i64 ty, .int .i64 lv, .int .i64 bw, .int .i64 bh, .int .i64 pr, .int .i64 st, .int .i64 od, .int .i64 ly, .slice A n c] 29)).alloc (Obj.cells #[.int .i64 0, .int .i64 0, .int .i64 0, .int .i64 0, .slice none 0 0] 24)).alloc (Obj.cells #[.int .i64 0, .int .i64 0, .int .i64 0, .int .i64 0, .int .i64 0, .int .i64 0, .int .i64 0, .int .i64 0, .int .i64 0, .bool false, .bool false, .bool false] 26) = V1 := ⟨_, rfl⟩
  have HM0 : Hid (MkW w B [((fmA x y ox oy nc dp sb sg rc so ep tx ty lv bw bh pr st od ly A n c), 29), (#[.int .i64 0, .int .i64 0, .int .i64 0, .int .i64 0, .slice none 0 0], 24), (#[.int .i64 0, .int .i64 0, .int .i64 0, .int .i64 0, .int .i64 0, .int .i64 0, .int .i64 0, .int .i64 0, .int .i64 0, .bool false, .bool false, .bool false], 26)] V1 ∧ V1.heap.size = B + 3) := Lib.hid (by
    have h0 : MkW w B [] w := ⟨fun i c e => by simp at e, Below.refl _ _, by simp; omega⟩
    have h1 := ((h0.more (by simp; omega) (fmA x y ox oy nc dp sb sg rc so ep tx ty lv bw bh pr st od ly A n c) 29).more (by simp; omega) #[.int .i64 0, .int .i64 0, .int .i64 0, .int .i64 0, .slice none 0 0] 24).more (by simp; omega) #[.int .i64 0, .int .i64 0, .int .i64 0, .int .i64 0, .int .i64 0, .int .i64 0, .int .i64 0, .int .i64 0, .int .i64 0, .bool false, .bool false, .bool false] 26
    exact ⟨by rw [← hV1]; exact h1, by rw [← hV1]; simp; omega⟩)
  rw [hV1, hBe]
  have HBE := Lib.hid hBe
  clear hV1 hBe
  go_cut [6] from 17 to 23 (fun v wx => v = .pointer (some ⟨B + 3, 0, none⟩) ∧ Hid (MkW w B [((fmA x y ox oy nc dp sb sg rc so ep tx ty lv bw bh pr st od ly A n c), 29), (#[.int .i64 0, .int .i64 0, .int .i64 0, .int .i64 0, .slice none 0 0], 24), (#[.int .i64 0, .int .i64 0, .int .i64 0, .int .i64 0, .int .i64 0, .int .i64 0, .int .i64 0, .int .i64 0, .int .i64 0, .bool false, .bool false, .bool false], 26), (#[.int .i64 0, .int .i64 0, .int .i64 OX, .int .i64 OY, .slice none 0 0], 24)] wx ∧ wx.heap.size = B + 4))
  case first =>
    obtain ⟨VL, hVL⟩ : ∃ VL : Unit → List (Nat × Nat × Value), VL = fun z => [(0, 17, .pointer (some ⟨B, 2, none⟩)), (1, 18, .int .i64 ox), (2, 19, .int .i64 OX), (3, 20, .pointer (some ⟨B, 3, none⟩)), (4, 21, .int .i64 oy), (5, 22, .int .i64 OY), (6, 23, .agg #[.int .i64 0, .int .i64 0, .int .i64 OX, .int .i64 OY, .slice none 0 0]), (7, 6, .pointer (some ⟨B + 3, 0, none⟩))] := ⟨_, rfl⟩
    have hok : ∀ z, manyOk 226 (VL z) := fun z => by rw [hVL]; exact ⟨by simp, by simp, by simp⟩
    have HVL := Lib.hid hVL
    have hvi : ∀ z, ∀ x ∈ VL z, x.1 < 9 := fun z => by rw [hVL]; simp
    have HOK := Lib.hid hok
    have HVI := Lib.hid hvi
    clear hVL hok hvi
    refine (wpIn_wide (n := 9)).1 (regionIn_many (N := 226) (w := V1) VL (fun L z w' => (w'.heap[B]? = some (.cells (fmA x y ox oy nc dp sb sg rc so ep tx ty lv bw bh pr st od ly A n c) 29 (0, 0))) ∧ (bif L 8 then (MkW w B [((fmA x y ox oy nc dp sb sg rc so ep tx ty lv bw bh pr st od ly A n c), 29), (#[.int .i64 0, .int .i64 0, .int .i64 0, .int .i64 0, .slice none 0 0], 24), (#[.int .i64 0, .int .i64 0, .int .i64 0, .int .i64 0, .int .i64 0, .int .i64 0, .int .i64 0, .int .i64 0, .int .i64 0, .bool false, .bool false, .bool false], 26), (#[.int .i64 0, .int .i64 0, .int .i64 OX, .int .i64 OY, .slice none 0 0], 24)] w' ∧ w'.heap.size = B + 4) else (bif L 7 then (MkW w B [((fmA x y ox oy nc dp sb sg rc so ep tx ty lv bw bh pr st od ly A n c), 29), (#[.int .i64 0, .int .i64 0, .int .i64 0, .int .i64 0, .slice none 0 0], 24), (#[.int .i64 0, .int .i64 0, .int .i64 0, .int .i64 0, .int .i64 0, .int .i64 0, .int .i64 0, .int .i64 0, .int .i64 0, .bool false, .bool false, .bool false], 26), (#[.int .i64 0, .int .i64 0, .int .i64 0, .int .i64 0, .slice none 0 0], 24)] w' ∧ w'.heap.size = B + 4) else MkW w B [((fmA x y ox oy nc dp sb sg rc so ep tx ty lv bw bh pr st od ly A n c), 29), (#[.int .i64 0, .int .i64 0, .int .i64 0, .int .i64 0, .slice none 0 0], 24), (#[.int .i64 0, .int .i64 0, .int .i64 0, .int .i64 0, .int .i64 0, .int .i64 0, .int .i64 0, .int .i64 0, .int .i64 0, .bool false, .bool false, .bool false], 26)] w' ∧ w'.heap.size = B + 3))) [(2, .pointer (some ⟨B, 0, none⟩))] (by kernel_rfl) (by kernel_rfl) rfl (by simp only [List.forall_mem_cons, List.not_mem_nil, false_imp_iff, implies_true, and_true]; exact rfl) HVI.out () ?start ?step ?fin)
    case start => exact ⟨HM0.out.1.drew.b 0 _ rfl, HM0.out.1.drew, HM0.out.2⟩
    case step =>
      intro gg_ hgN hgF ii_ hii_ L z w' hph hs hu
      obtain ⟨hcm, hph⟩ := hph
      have hF2 := hgF (2, .pointer (some ⟨B, 0, none⟩)) (by simp)
      have hL := hu.1
      have hii_ : ii_ < 9 := hii_
      clear hgF
      obtain rfl | rfl | rfl | rfl | rfl | rfl | rfl | rfl | rfl := (by omega : ii_ = 0 ∨ ii_ = 1 ∨ ii_ = 2 ∨ ii_ = 3 ∨ ii_ = 4 ∨ ii_ = 5 ∨ ii_ = 6 ∨ ii_ = 7 ∨ ii_ = 8)
      · skip
        have n8 : L 8 = false := not_yet hL fun h => shut_at hs 8 0 (by kernel_rfl) (h)
        try simp only [n8, hL, cond_true, cond_false] at hph
        have e2 : (many gg_ L (VL z))[2]?.getD undef = .pointer (some ⟨B, 0, none⟩) := many_out hgN (HOK.out z).1 (by rw [HVL.out]; rfl) hF2
        refine opIn_run (v := .pointer (some ⟨B, 2, none⟩)) (w' := w') rfl rfl (fun c h => by cases h) (fun _ => trivial) ?_ ⟨z, by exact many_put (HOK.out _) 0 17 _ (by rw [HVL.out]; simp) hL, hcm, by simp only [upd, n8, hL, Nat.reduceBEq, cond_true, cond_false]; exact hph⟩
        go_simp
      · skip
        have y0 : L 0 = true := up_at hu 0 (by kernel_rfl)
        have n8 : L 8 = false := not_yet hL fun h => shut_at hs 8 1 (by kernel_rfl) (h)
        try simp only [y0, n8, hL, cond_true, cond_false] at hph
        have hcell : w'.cell? ⟨B, 2, none⟩ = some (.int .i64 ox) := blk_cell hcm 2
        have e17 : (many gg_ L (VL z))[17]?.getD undef = .pointer (some ⟨B, 2, none⟩) := many_eval hgN (HOK.out z).1 (by rw [HVL.out]; simp [lookM, y0])
        refine opIn_run (v := .int .i64 ox) (w' := w') rfl rfl (fun c h => by cases h) (fun _ => trivial) ?_ ⟨z, by exact many_put (HOK.out _) 1 18 _ (by rw [HVL.out]; simp) hL, hcm, by simp only [upd, y0, n8, hL, Nat.reduceBEq, cond_true, cond_false]; exact hph⟩
        go_simp
      · skip
        have y1 : L 1 = true := up_at hu 1 (by kernel_rfl)
        have n8 : L 8 = false := not_yet hL fun h => shut_at hs 8 2 (by kernel_rfl) (h)
        try simp only [y1, n8, hL, cond_true, cond_false] at hph
        have e18 : (many gg_ L (VL z))[18]?.getD undef = .int .i64 ox := many_eval hgN (HOK.out z).1 (by rw [HVL.out]; simp [lookM, y1])
        refine opIn_call (f := 17) (args := #[.int .i64 ox, .int .i64 6]) (w' := w') rfl rfl (fun c h => by cases h) (fun _ => trivial) rfl (by go_simp) ((callsIn_wide.2 (W0.out w')).mono ?_)
        rintro e w2 ⟨rfl, rfl⟩
        exact ⟨_, rfl, z, by exact many_put (HOK.out _) 2 19 _ (by rw [HVL.out]; simp) hL, hcm, by simp only [upd, y1, n8, hL, Nat.reduceBEq, cond_true, cond_false]; exact hph⟩
      · skip
        have n8 : L 8 = false := not_yet hL fun h => shut_at hs 8 3 (by kernel_rfl) (h)
        try simp only [n8, hL, cond_true, cond_false] at hph
        have e2 : (many gg_ L (VL z))[2]?.getD undef = .pointer (some ⟨B, 0, none⟩) := many_out hgN (HOK.out z).1 (by rw [HVL.out]; rfl) hF2
        refine opIn_run (v := .pointer (some ⟨B, 3, none⟩)) (w' := w') rfl rfl (fun c h => by cases h) (fun _ => trivial) ?_ ⟨z, by exact many_put (HOK.out _) 3 20 _ (by rw [HVL.out]; simp) hL, hcm, by simp only [upd, n8, hL, Nat.reduceBEq, cond_true, cond_false]; exact hph⟩
        go_simp
      · skip
        have y3 : L 3 = true := up_at hu 3 (by kernel_rfl)
        have n8 : L 8 = false := not_yet hL fun h => shut_at hs 8 4 (by kernel_rfl) (h)
        try simp only [y3, n8, hL, cond_true, cond_false] at hph
        have hcell : w'.cell? ⟨B, 3, none⟩ = some (.int .i64 oy) := blk_cell hcm 3
        have e20 : (many gg_ L (VL z))[20]?.getD undef = .pointer (some ⟨B, 3, none⟩) := many_eval hgN (HOK.out z).1 (by rw [HVL.out]; simp [lookM, y3])
        refine opIn_run (v := .int .i64 oy) (w' := w') rfl rfl (fun c h => by cases h) (fun _ => trivial) ?_ ⟨z, by exact many_put (HOK.out _) 4 21 _ (by rw [HVL.out]; simp) hL, hcm, by simp only [upd, y3, n8, hL, Nat.reduceBEq, cond_true, cond_false]; exact hph⟩
        go_simp
      · skip
        have y2 : L 2 = true := up_at hu 2 (by kernel_rfl)
        have y4 : L 4 = true := up_at hu 4 (by kernel_rfl)
        have n8 : L 8 = false := not_yet hL fun h => shut_at hs 8 5 (by kernel_rfl) (h)
        try simp only [y2, y4, n8, hL, cond_true, cond_false] at hph
        have e21 : (many gg_ L (VL z))[21]?.getD undef = .int .i64 oy := many_eval hgN (HOK.out z).1 (by rw [HVL.out]; simp [lookM, y4])
        refine opIn_call (f := 17) (args := #[.int .i64 oy, .int .i64 6]) (w' := w') rfl rfl (fun c h => by cases h) (fun _ => trivial) rfl (by go_simp) ((callsIn_wide.2 (W1.out w')).mono ?_)
        rintro e w2 ⟨rfl, rfl⟩
        exact ⟨_, rfl, z, by exact many_put (HOK.out _) 5 22 _ (by rw [HVL.out]; simp) hL, hcm, by simp only [upd, y2, y4, n8, hL, Nat.reduceBEq, cond_true, cond_false]; exact hph⟩
      · skip
        have y2 : L 2 = true := up_at hu 2 (by kernel_rfl)
        have y5 : L 5 = true := up_at hu 5 (by kernel_rfl)
        have n8 : L 8 = false := not_yet hL fun h => shut_at hs 8 6 (by kernel_rfl) (h)
        try simp only [y2, y5, n8, hL, cond_true, cond_false] at hph
        have e19 : (many gg_ L (VL z))[19]?.getD undef = .int .i64 OX := many_eval hgN (HOK.out z).1 (by rw [HVL.out]; simp [lookM, y2])
        have e22 : (many gg_ L (VL z))[22]?.getD undef = .int .i64 OY := many_eval hgN (HOK.out z).1 (by rw [HVL.out]; simp [lookM, y5])
        refine opIn_run (v := .agg #[.int .i64 0, .int .i64 0, .int .i64 OX, .int .i64 OY, .slice none 0 0]) (w' := w') rfl rfl (fun c h => by cases h) (fun _ => trivial) ?_ ⟨z, by exact many_put (HOK.out _) 6 23 _ (by rw [HVL.out]; simp) hL, hcm, by simp only [upd, y2, y5, n8, hL, Nat.reduceBEq, cond_true, cond_false]; exact hph⟩
        go_simp
      · skip
        have n8 : L 8 = false := not_yet hL fun h => shut_at hs 8 7 (by kernel_rfl) (h)
        try simp only [n8, hL, cond_true, cond_false] at hph
        refine opIn_run (v := .pointer (some ⟨B + 3, 0, none⟩)) (w' := w'.alloc (.cells #[.int .i64 0, .int .i64 0, .int .i64 0, .int .i64 0, .slice none 0 0] 24)) rfl rfl (fun c h => by cases h) (fun _ => trivial) ?_ ⟨z, by exact many_put (HOK.out _) 7 6 _ (by rw [HVL.out]; simp) hL, ((hph.1.more hph.2 #[.int .i64 0, .int .i64 0, .int .i64 0, .int .i64 0, .slice none 0 0] 24).b 0 _ rfl), by simp only [upd, n8, hL, Nat.reduceBEq, cond_true, cond_false]; exact ⟨hph.1.more hph.2 _ _, by simp [hph.2]⟩⟩
        have hsz := hph.2
        clear hph hcm
        go_simp
      · skip
        have y0 : L 0 = true := up_at hu 0 (by kernel_rfl)
        have y1 : L 1 = true := up_at hu 1 (by kernel_rfl)
        have y2 : L 2 = true := up_at hu 2 (by kernel_rfl)
        have y3 : L 3 = true := up_at hu 3 (by kernel_rfl)
        have y4 : L 4 = true := up_at hu 4 (by kernel_rfl)
        have y5 : L 5 = true := up_at hu 5 (by kernel_rfl)
        have y6 : L 6 = true := up_at hu 6 (by kernel_rfl)
        have y7 : L 7 = true := up_at hu 7 (by kernel_rfl)
        try simp only [y0, y1, y2, y3, y4, y5, y6, y7, hL, cond_true, cond_false] at hph
        have e6 : (many gg_ L (VL z))[6]?.getD undef = .pointer (some ⟨B + 3, 0, none⟩) := many_eval hgN (HOK.out z).1 (by rw [HVL.out]; simp [lookM, y7])
        have e23 : (many gg_ L (VL z))[23]?.getD undef = .agg #[.int .i64 0, .int .i64 0, .int .i64 OX, .int .i64 OY, .slice none 0 0] := many_eval hgN (HOK.out z).1 (by rw [HVL.out]; simp [lookM, y6])
        refine opIn_skip (w' := w'.setRow (B + 3) #[.int .i64 0, .int .i64 0, .int .i64 OX, .int .i64 OY, .slice none 0 0]) rfl rfl (fun c h => by cases h) (fun _ => trivial) ?_ ⟨z, by exact many_none 8 _ (by rw [HVL.out]; simp), ((hph.1.row (i := 3) rfl rfl #[.int .i64 0, .int .i64 0, .int .i64 OX, .int .i64 OY, .slice none 0 0]).b 0 _ rfl), by simp only [upd, y0, y1, y2, y3, y4, y5, y6, y7, hL, Nat.reduceBEq, cond_true, cond_false]; exact ⟨hph.1.row (i := 3) rfl rfl _, by rw [setRow_size]; exact hph.2⟩⟩
        exact run_store_many e6 e23 (hph.1.b 3 _ rfl) (by kernel_rfl) rfl (by kernel_rfl)
    case fin =>
      intro L z w' hall hph
      obtain ⟨hcm, hph⟩ := hph
      have l7 := hall 7 (by decide)
      have l8 := hall 8 (by decide)
      simp only [l7, l8, cond_true] at hph
      clear l7 l8
      rw [HVL.out]
      dsimp only [manyL, List.set_cons_zero, List.set_cons_succ]
      clear hall HVL HOK HVI
      have HP := Lib.hid hph
      clear hph hcm
      go_wp2_with fail
      go_meet
      exact ⟨rfl, HP⟩
  case rest =>
   obtain ⟨rfl, HM1⟩ := hcut
   clear HM0
   go_upto_region 2 with fail
   go_cut [] from 24 to 41 (fun wx => Hid (MkW w B [((fmA x y ox oy nc dp sb sg rc so ep tx ty lv bw bh pr st od ly A n c), 29), (#[.int .i64 0, .int .i64 0, .int .i64 0, .int .i64 0, .slice none 0 0], 24), (#[.int .i64 0, .int .i64 0, .int .i64 0, .int .i64 0, .int .i64 0, .int .i64 0, .int .i64 0, .int .i64 0, .int .i64 0, .bool false, .bool false, .bool false], 26), (#[.int .i64 X, .int .i64 Y, .int .i64 OX, .int .i64 OY, .slice none 0 0], 24)] wx ∧ wx.heap.size = B + 4))
   case first =>
    obtain ⟨VL, hVL⟩ : ∃ VL : Unit → List (Nat × Nat × Value), VL = fun z => [(0, 24, .pointer (some ⟨B + 3, 2, none⟩)), (1, 25, .int .i64 OX), (2, 26, .int .i64 (OX + 1)), (3, 27, .pointer (some ⟨B, 0, none⟩)), (4, 28, .int .i64 x), (5, 29, .int .i64 (side : Int)), (6, 30, .int .i64 XW), (7, 31, .int .i64 X), (8, 32, .pointer (some ⟨B + 3, 3, none⟩)), (9, 33, .int .i64 OY), (10, 34, .int .i64 (OY + 1)), (11, 35, .pointer (some ⟨B, 1, none⟩)), (12, 36, .int .i64 y), (13, 37, .int .i64 (side : Int)), (14, 38, .int .i64 YW), (15, 39, .int .i64 Y), (16, 40, .pointer (some ⟨B + 3, 0, none⟩)), (18, 41, .pointer (some ⟨B + 3, 1, none⟩))] := ⟨_, rfl⟩
    have hok : ∀ z, manyOk 226 (VL z) := fun z => by rw [hVL]; exact ⟨by simp, by simp, by simp⟩
    have HVL := Lib.hid hVL
    have hvi : ∀ z, ∀ x ∈ VL z, x.1 < 20 := fun z => by rw [hVL]; simp
    have HOK := Lib.hid hok
    have HVI := Lib.hid hvi
    clear hVL hok hvi
    refine (wpIn_wide (n := 9)).1 (regionIn_many (N := 226) (w := _) VL (fun L z w' => (w'.heap[B]? = some (.cells (fmA x y ox oy nc dp sb sg rc so ep tx ty lv bw bh pr st od ly A n c) 29 (0, 0))) ∧ (bif L 19 then (MkW w B [((fmA x y ox oy nc dp sb sg rc so ep tx ty lv bw bh pr st od ly A n c), 29), (#[.int .i64 0, .int .i64 0, .int .i64 0, .int .i64 0, .slice none 0 0], 24), (#[.int .i64 0, .int .i64 0, .int .i64 0, .int .i64 0, .int .i64 0, .int .i64 0, .int .i64 0, .int .i64 0, .int .i64 0, .bool false, .bool false, .bool false], 26), (#[.int .i64 X, .int .i64 Y, .int .i64 OX, .int .i64 OY, .slice none 0 0], 24)] w' ∧ w'.heap.size = B + 4) else (bif L 17 then (MkW w B [((fmA x y ox oy nc dp sb sg rc so ep tx ty lv bw bh pr st od ly A n c), 29), (#[.int .i64 0, .int .i64 0, .int .i64 0, .int .i64 0, .slice none 0 0], 24), (#[.int .i64 0, .int .i64 0, .int .i64 0, .int .i64 0, .int .i64 0, .int .i64 0, .int .i64 0, .int .i64 0, .int .i64 0, .bool false, .bool false, .bool false], 26), (#[.int .i64 X, .int .i64 0, .int .i64 OX, .int .i64 OY, .slice none 0 0], 24)] w' ∧ w'.heap.size = B + 4) else MkW w B [((fmA x y ox oy nc dp sb sg rc so ep tx ty lv bw bh pr st od ly A n c), 29), (#[.int .i64 0, .int .i64 0, .int .i64 0, .int .i64 0, .slice none 0 0], 24), (#[.int .i64 0, .int .i64 0, .int .i64 0, .int .i64 0, .int .i64 0, .int .i64 0, .int .i64 0, .int .i64 0, .int .i64 0, .bool false, .bool false, .bool false], 26), (#[.int .i64 0, .int .i64 0, .int .i64 OX, .int .i64 OY, .slice none 0 0], 24)] w' ∧ w'.heap.size = B + 4))) [(1, .int .i64 (side : Int)), (2, .pointer (some ⟨B, 0, none⟩)), (6, .pointer (some ⟨B + 3, 0, none⟩))] (by kernel_rfl) (by kernel_rfl) rfl (by simp only [List.forall_mem_cons, List.not_mem_nil, false_imp_iff, implies_true, and_true]; exact ⟨rfl, rfl, rfl⟩) HVI.out () ?start ?step ?fin)
    case start => exact ⟨HM1.out.1.drew.b 0 _ rfl, HM1.out.1.drew, HM1.out.2⟩
    case step =>
      intro gg_ hgN hgF ii_ hii_ L z w' hph hs hu
      obtain ⟨hcm, hph⟩ := hph
      have hF1 := hgF (1, .int .i64 (side : Int)) (by simp)
      have hF2 := hgF (2, .pointer (some ⟨B, 0, none⟩)) (by simp)
      have hF6 := hgF (6, .pointer (some ⟨B + 3, 0, none⟩)) (by simp)
      have hL := hu.1
      have hii_ : ii_ < 20 := hii_
      clear hgF
      obtain rfl | rfl | rfl | rfl | rfl | rfl | rfl | rfl | rfl | rfl | rfl | rfl | rfl | rfl | rfl | rfl | rfl | rfl | rfl | rfl := (by omega : ii_ = 0 ∨ ii_ = 1 ∨ ii_ = 2 ∨ ii_ = 3 ∨ ii_ = 4 ∨ ii_ = 5 ∨ ii_ = 6 ∨ ii_ = 7 ∨ ii_ = 8 ∨ ii_ = 9 ∨ ii_ = 10 ∨ ii_ = 11 ∨ ii_ = 12 ∨ ii_ = 13 ∨ ii_ = 14 ∨ ii_ = 15 ∨ ii_ = 16 ∨ ii_ = 17 ∨ ii_ = 18 ∨ ii_ = 19)
      · skip
        have n17 : L 17 = false := not_yet hL fun h => shut_at hs 17 0 (by kernel_rfl) (h)
        have n19 : L 19 = false := not_yet hL fun h => shut_at hs 19 0 (by kernel_rfl) (h)
        try simp only [n17, n19, hL, cond_true, cond_false] at hph
        have e6 : (many gg_ L (VL z))[6]?.getD undef = .pointer (some ⟨B + 3, 0, none⟩) := many_out hgN (HOK.out z).1 (by rw [HVL.out]; rfl) hF6
        refine opIn_run (v := .pointer (some ⟨B + 3, 2, none⟩)) (w' := w') rfl rfl (fun c h => by cases h) (fun _ => trivial) ?_ ⟨z, by exact many_put (HOK.out _) 0 24 _ (by rw [HVL.out]; simp) hL, hcm, by simp only [upd, n17, n19, hL, Nat.reduceBEq, cond_true, cond_false]; exact hph⟩
        go_simp
      · skip
        have y0 : L 0 = true := up_at hu 0 (by kernel_rfl)
        have n17 : L 17 = false := not_yet hL fun h => shut_at hs 17 1 (by kernel_rfl) (h)
        have n19 : L 19 = false := not_yet hL fun h => shut_at hs 19 1 (by kernel_rfl) (h)
        try simp only [y0, n17, n19, hL, cond_true, cond_false] at hph
        have hcell : w'.cell? ⟨B + 3, 2, none⟩ = some (.int .i64 OX) := blk_cell (hph.1.b 3 _ rfl) 2
        have e24 : (many gg_ L (VL z))[24]?.getD undef = .pointer (some ⟨B + 3, 2, none⟩) := many_eval hgN (HOK.out z).1 (by rw [HVL.out]; simp [lookM, y0])
        refine opIn_run (v := .int .i64 OX) (w' := w') rfl rfl (fun c h => by cases h) (fun _ => trivial) ?_ ⟨z, by exact many_put (HOK.out _) 1 25 _ (by rw [HVL.out]; simp) hL, hcm, by simp only [upd, y0, n17, n19, hL, Nat.reduceBEq, cond_true, cond_false]; exact hph⟩
        go_simp
      · skip
        have y1 : L 1 = true := up_at hu 1 (by kernel_rfl)
        have n17 : L 17 = false := not_yet hL fun h => shut_at hs 17 2 (by kernel_rfl) (h)
        have n19 : L 19 = false := not_yet hL fun h => shut_at hs 19 2 (by kernel_rfl) (h)
        try simp only [y1, n17, n19, hL, cond_true, cond_false] at hph
        have q1 := SW.out.1
        have e25 : (many gg_ L (VL z))[25]?.getD undef = .int .i64 OX := many_eval hgN (HOK.out z).1 (by rw [HVL.out]; simp [lookM, y1])
        refine opIn_run (v := .int .i64 (OX + 1)) (w' := w') rfl rfl (fun c h => by cases h) (fun _ => trivial) ?_ ⟨z, by exact many_put (HOK.out _) 2 26 _ (by rw [HVL.out]; simp) hL, hcm, by simp only [upd, y1, n17, n19, hL, Nat.reduceBEq, cond_true, cond_false]; exact hph⟩
        go_simp
      · skip
        have n17 : L 17 = false := not_yet hL fun h => shut_at hs 17 3 (by kernel_rfl) (h)
        have n19 : L 19 = false := not_yet hL fun h => shut_at hs 19 3 (by kernel_rfl) (h)
        try simp only [n17, n19, hL, cond_true, cond_false] at hph
        have e2 : (many gg_ L (VL z))[2]?.getD undef = .pointer (some ⟨B, 0, none⟩) := many_out hgN (HOK.out z).1 (by rw [HVL.out]; rfl) hF2
        refine opIn_run (v := .pointer (some ⟨B, 0, none⟩)) (w' := w') rfl rfl (fun c h => by cases h) (fun _ => trivial) ?_ ⟨z, by exact many_put (HOK.out _) 3 27 _ (by rw [HVL.out]; simp) hL, hcm, by simp only [upd, n17, n19, hL, Nat.reduceBEq, cond_true, cond_false]; exact hph⟩
        go_simp
      · skip
        have y3 : L 3 = true := up_at hu 3 (by kernel_rfl)
        have n17 : L 17 = false := not_yet hL fun h => shut_at hs 17 4 (by kernel_rfl) (h)
        have n19 : L 19 = false := not_yet hL fun h => shut_at hs 19 4 (by kernel_rfl) (h)
        try simp only [y3, n17, n19, hL, cond_true, cond_false] at hph
        have hcell : w'.cell? ⟨B, 0, none⟩ = some (.int .i64 x) := blk_cell hcm 0
        have e27 : (many gg_ L (VL z))[27]?.getD undef = .pointer (some ⟨B, 0, none⟩) := many_eval hgN (HOK.out z).1 (by rw [HVL.out]; simp [lookM, y3])
        refine opIn_run (v := .int .i64 x) (w' := w') rfl rfl (fun c h => by cases h) (fun _ => trivial) ?_ ⟨z, by exact many_put (HOK.out _) 4 28 _ (by rw [HVL.out]; simp) hL, hcm, by simp only [upd, y3, n17, n19, hL, Nat.reduceBEq, cond_true, cond_false]; exact hph⟩
        go_simp
      · skip
        have n17 : L 17 = false := not_yet hL fun h => shut_at hs 17 5 (by kernel_rfl) (h)
        have n19 : L 19 = false := not_yet hL fun h => shut_at hs 19 5 (by kernel_rfl) (h)
        try simp only [n17, n19, hL, cond_true, cond_false] at hph
        have e1 : (many gg_ L (VL z))[1]?.getD undef = .int .i64 (side : Int) := many_out hgN (HOK.out z).1 (by rw [HVL.out]; rfl) hF1
        refine opIn_run (v := .int .i64 (side : Int)) (w' := w') rfl rfl (fun c h => by cases h) (fun _ => trivial) ?_ ⟨z, by exact many_put (HOK.out _) 5 29 _ (by rw [HVL.out]; simp) hL, hcm, by simp only [upd, n17, n19, hL, Nat.reduceBEq, cond_true, cond_false]; exact hph⟩
        go_simp
      · skip
        have y4 : L 4 = true := up_at hu 4 (by kernel_rfl)
        have y5 : L 5 = true := up_at hu 5 (by kernel_rfl)
        have n17 : L 17 = false := not_yet hL fun h => shut_at hs 17 6 (by kernel_rfl) (h)
        have n19 : L 19 = false := not_yet hL fun h => shut_at hs 19 6 (by kernel_rfl) (h)
        try simp only [y4, y5, n17, n19, hL, cond_true, cond_false] at hph
        have e28 : (many gg_ L (VL z))[28]?.getD undef = .int .i64 x := many_eval hgN (HOK.out z).1 (by rw [HVL.out]; simp [lookM, y4])
        have e29 : (many gg_ L (VL z))[29]?.getD undef = .int .i64 (side : Int) := many_eval hgN (HOK.out z).1 (by rw [HVL.out]; simp [lookM, y5])
        refine opIn_call (f := 17) (args := #[.int .i64 x, .int .i64 (side : Int)]) (w' := w') rfl rfl (fun c h => by cases h) (fun _ => trivial) rfl (by go_simp) ((callsIn_wide.2 (W2.out w')).mono ?_)
        rintro e w2 ⟨rfl, rfl⟩
        exact ⟨_, rfl, z, by exact many_put (HOK.out _) 6 30 _ (by rw [HVL.out]; simp) hL, hcm, by simp only [upd, y4, y5, n17, n19, hL, Nat.reduceBEq, cond_true, cond_false]; exact hph⟩
      · skip
        have y2 : L 2 = true := up_at hu 2 (by kernel_rfl)
        have y6 : L 6 = true := up_at hu 6 (by kernel_rfl)
        have n17 : L 17 = false := not_yet hL fun h => shut_at hs 17 7 (by kernel_rfl) (h)
        have n19 : L 19 = false := not_yet hL fun h => shut_at hs 19 7 (by kernel_rfl) (h)
        try simp only [y2, y6, n17, n19, hL, cond_true, cond_false] at hph
        have q1 := SW.out.2.2.1
        have e26 : (many gg_ L (VL z))[26]?.getD undef = .int .i64 (OX + 1) := many_eval hgN (HOK.out z).1 (by rw [HVL.out]; simp [lookM, y2])
        have e30 : (many gg_ L (VL z))[30]?.getD undef = .int .i64 XW := many_eval hgN (HOK.out z).1 (by rw [HVL.out]; simp [lookM, y6])
        refine opIn_run (v := .int .i64 X) (w' := w') rfl rfl (fun c h => by cases h) (fun _ => trivial) ?_ ⟨z, by exact many_put (HOK.out _) 7 31 _ (by rw [HVL.out]; simp) hL, hcm, by simp only [upd, y2, y6, n17, n19, hL, Nat.reduceBEq, cond_true, cond_false]; exact hph⟩
        go_simp
      · skip
        have n17 : L 17 = false := not_yet hL fun h => shut_at hs 17 8 (by kernel_rfl) (h)
        have n19 : L 19 = false := not_yet hL fun h => shut_at hs 19 8 (by kernel_rfl) (h)
        try simp only [n17, n19, hL, cond_true, cond_false] at hph
        have e6 : (many gg_ L (VL z))[6]?.getD undef = .pointer (some ⟨B + 3, 0, none⟩) := many_out hgN (HOK.out z).1 (by rw [HVL.out]; rfl) hF6
        refine opIn_run (v := .pointer (some ⟨B + 3, 3, none⟩)) (w' := w') rfl rfl (fun c h => by cases h) (fun _ => trivial) ?_ ⟨z, by exact many_put (HOK.out _) 8 32 _ (by rw [HVL.out]; simp) hL, hcm, by simp only [upd, n17, n19, hL, Nat.reduceBEq, cond_true, cond_false]; exact hph⟩
        go_simp
      · skip
        have y8 : L 8 = true := up_at hu 8 (by kernel_rfl)
        have n17 : L 17 = false := not_yet hL fun h => shut_at hs 17 9 (by kernel_rfl) (h)
        have n19 : L 19 = false := not_yet hL fun h => shut_at hs 19 9 (by kernel_rfl) (h)
        try simp only [y8, n17, n19, hL, cond_true, cond_false] at hph
        have hcell : w'.cell? ⟨B + 3, 3, none⟩ = some (.int .i64 OY) := blk_cell (hph.1.b 3 _ rfl) 3
        have e32 : (many gg_ L (VL z))[32]?.getD undef = .pointer (some ⟨B + 3, 3, none⟩) := many_eval hgN (HOK.out z).1 (by rw [HVL.out]; simp [lookM, y8])
        refine opIn_run (v := .int .i64 OY) (w' := w') rfl rfl (fun c h => by cases h) (fun _ => trivial) ?_ ⟨z, by exact many_put (HOK.out _) 9 33 _ (by rw [HVL.out]; simp) hL, hcm, by simp only [upd, y8, n17, n19, hL, Nat.reduceBEq, cond_true, cond_false]; exact hph⟩
        go_simp
      · skip
        have y9 : L 9 = true := up_at hu 9 (by kernel_rfl)
        have n19 : L 19 = false := not_yet hL fun h => shut_at hs 19 10 (by kernel_rfl) (h)
        try simp only [y9, n19, hL, cond_true, cond_false] at hph
        have q1 := SW.out.2.1
        have e33 : (many gg_ L (VL z))[33]?.getD undef = .int .i64 OY := many_eval hgN (HOK.out z).1 (by rw [HVL.out]; simp [lookM, y9])
        refine opIn_run (v := .int .i64 (OY + 1)) (w' := w') rfl rfl (fun c h => by cases h) (fun _ => trivial) ?_ ⟨z, by exact many_put (HOK.out _) 10 34 _ (by rw [HVL.out]; simp) hL, hcm, by simp only [upd, y9, n19, hL, Nat.reduceBEq, cond_true, cond_false]; exact hph⟩
        go_simp
      · skip
        have n17 : L 17 = false := not_yet hL fun h => shut_at hs 12 11 (by kernel_rfl) (shut_at hs 14 12 (by kernel_rfl) (shut_at hs 17 14 (by kernel_rfl) (h)))
        have n19 : L 19 = false := not_yet hL fun h => shut_at hs 19 11 (by kernel_rfl) (h)
        try simp only [n17, n19, hL, cond_true, cond_false] at hph
        have e2 : (many gg_ L (VL z))[2]?.getD undef = .pointer (some ⟨B, 0, none⟩) := many_out hgN (HOK.out z).1 (by rw [HVL.out]; rfl) hF2
        refine opIn_run (v := .pointer (some ⟨B, 1, none⟩)) (w' := w') rfl rfl (fun c h => by cases h) (fun _ => trivial) ?_ ⟨z, by exact many_put (HOK.out _) 11 35 _ (by rw [HVL.out]; simp) hL, hcm, by simp only [upd, n17, n19, hL, Nat.reduceBEq, cond_true, cond_false]; exact hph⟩
        go_simp
      · skip
        have y11 : L 11 = true := up_at hu 11 (by kernel_rfl)
        have n17 : L 17 = false := not_yet hL fun h => shut_at hs 14 12 (by kernel_rfl) (shut_at hs 17 14 (by kernel_rfl) (h))
        have n19 : L 19 = false := not_yet hL fun h => shut_at hs 19 12 (by kernel_rfl) (h)
        try simp only [y11, n17, n19, hL, cond_true, cond_false] at hph
        have hcell : w'.cell? ⟨B, 1, none⟩ = some (.int .i64 y) := blk_cell hcm 1
        have e35 : (many gg_ L (VL z))[35]?.getD undef = .pointer (some ⟨B, 1, none⟩) := many_eval hgN (HOK.out z).1 (by rw [HVL.out]; simp [lookM, y11])
        refine opIn_run (v := .int .i64 y) (w' := w') rfl rfl (fun c h => by cases h) (fun _ => trivial) ?_ ⟨z, by exact many_put (HOK.out _) 12 36 _ (by rw [HVL.out]; simp) hL, hcm, by simp only [upd, y11, n17, n19, hL, Nat.reduceBEq, cond_true, cond_false]; exact hph⟩
        go_simp
      · skip
        have n17 : L 17 = false := not_yet hL fun h => shut_at hs 14 13 (by kernel_rfl) (shut_at hs 17 14 (by kernel_rfl) (h))
        have n19 : L 19 = false := not_yet hL fun h => shut_at hs 19 13 (by kernel_rfl) (h)
        try simp only [n17, n19, hL, cond_true, cond_false] at hph
        have e1 : (many gg_ L (VL z))[1]?.getD undef = .int .i64 (side : Int) := many_out hgN (HOK.out z).1 (by rw [HVL.out]; rfl) hF1
        refine opIn_run (v := .int .i64 (side : Int)) (w' := w') rfl rfl (fun c h => by cases h) (fun _ => trivial) ?_ ⟨z, by exact many_put (HOK.out _) 13 37 _ (by rw [HVL.out]; simp) hL, hcm, by simp only [upd, n17, n19, hL, Nat.reduceBEq, cond_true, cond_false]; exact hph⟩
        go_simp
      · skip
        have y6 : L 6 = true := up_at hu 6 (by kernel_rfl)
        have y12 : L 12 = true := up_at hu 12 (by kernel_rfl)
        have y13 : L 13 = true := up_at hu 13 (by kernel_rfl)
        have n17 : L 17 = false := not_yet hL fun h => shut_at hs 17 14 (by kernel_rfl) (h)
        have n19 : L 19 = false := not_yet hL fun h => shut_at hs 19 14 (by kernel_rfl) (h)
        try simp only [y6, y12, y13, n17, n19, hL, cond_true, cond_false] at hph
        have e36 : (many gg_ L (VL z))[36]?.getD undef = .int .i64 y := many_eval hgN (HOK.out z).1 (by rw [HVL.out]; simp [lookM, y12])
        have e37 : (many gg_ L (VL z))[37]?.getD undef = .int .i64 (side : Int) := many_eval hgN (HOK.out z).1 (by rw [HVL.out]; simp [lookM, y13])
        refine opIn_call (f := 17) (args := #[.int .i64 y, .int .i64 (side : Int)]) (w' := w') rfl rfl (fun c h => by cases h) (fun _ => trivial) rfl (by go_simp) ((callsIn_wide.2 (W3.out w')).mono ?_)
        rintro e w2 ⟨rfl, rfl⟩
        exact ⟨_, rfl, z, by exact many_put (HOK.out _) 14 38 _ (by rw [HVL.out]; simp) hL, hcm, by simp only [upd, y6, y12, y13, n17, n19, hL, Nat.reduceBEq, cond_true, cond_false]; exact hph⟩
      · skip
        have y10 : L 10 = true := up_at hu 10 (by kernel_rfl)
        have y14 : L 14 = true := up_at hu 14 (by kernel_rfl)
        have n19 : L 19 = false := not_yet hL fun h => shut_at hs 19 15 (by kernel_rfl) (h)
        try simp only [y10, y14, n19, hL, cond_true, cond_false] at hph
        have q1 := SW.out.2.2.2.1
        have e34 : (many gg_ L (VL z))[34]?.getD undef = .int .i64 (OY + 1) := many_eval hgN (HOK.out z).1 (by rw [HVL.out]; simp [lookM, y10])
        have e38 : (many gg_ L (VL z))[38]?.getD undef = .int .i64 YW := many_eval hgN (HOK.out z).1 (by rw [HVL.out]; simp [lookM, y14])
        refine opIn_run (v := .int .i64 Y) (w' := w') rfl rfl (fun c h => by cases h) (fun _ => trivial) ?_ ⟨z, by exact many_put (HOK.out _) 15 39 _ (by rw [HVL.out]; simp) hL, hcm, by simp only [upd, y10, y14, n19, hL, Nat.reduceBEq, cond_true, cond_false]; exact hph⟩
        go_simp
      · skip
        have y0 : L 0 = true := up_at hu 0 (by kernel_rfl)
        have y1 : L 1 = true := up_at hu 1 (by kernel_rfl)
        have y2 : L 2 = true := up_at hu 2 (by kernel_rfl)
        have y3 : L 3 = true := up_at hu 3 (by kernel_rfl)
        have y4 : L 4 = true := up_at hu 4 (by kernel_rfl)
        have y5 : L 5 = true := up_at hu 5 (by kernel_rfl)
        have y6 : L 6 = true := up_at hu 6 (by kernel_rfl)
        have y7 : L 7 = true := up_at hu 7 (by kernel_rfl)
        have y8 : L 8 = true := up_at hu 8 (by kernel_rfl)
        have y9 : L 9 = true := up_at hu 9 (by kernel_rfl)
        have n17 : L 17 = false := not_yet hL fun h => shut_at hs 17 16 (by kernel_rfl) (h)
        have n19 : L 19 = false := not_yet hL fun h => shut_at hs 19 16 (by kernel_rfl) (h)
        try simp only [y0, y1, y2, y3, y4, y5, y6, y7, y8, y9, n17, n19, hL, cond_true, cond_false] at hph
        have e6 : (many gg_ L (VL z))[6]?.getD undef = .pointer (some ⟨B + 3, 0, none⟩) := many_out hgN (HOK.out z).1 (by rw [HVL.out]; rfl) hF6
        refine opIn_run (v := .pointer (some ⟨B + 3, 0, none⟩)) (w' := w') rfl rfl (fun c h => by cases h) (fun _ => trivial) ?_ ⟨z, by exact many_put (HOK.out _) 16 40 _ (by rw [HVL.out]; simp) hL, hcm, by simp only [upd, y0, y1, y2, y3, y4, y5, y6, y7, y8, y9, n17, n19, hL, Nat.reduceBEq, cond_true, cond_false]; exact hph⟩
        go_simp
      · skip
        have y0 : L 0 = true := up_at hu 0 (by kernel_rfl)
        have y1 : L 1 = true := up_at hu 1 (by kernel_rfl)
        have y2 : L 2 = true := up_at hu 2 (by kernel_rfl)
        have y3 : L 3 = true := up_at hu 3 (by kernel_rfl)
        have y4 : L 4 = true := up_at hu 4 (by kernel_rfl)
        have y5 : L 5 = true := up_at hu 5 (by kernel_rfl)
        have y6 : L 6 = true := up_at hu 6 (by kernel_rfl)
        have y7 : L 7 = true := up_at hu 7 (by kernel_rfl)
        have y8 : L 8 = true := up_at hu 8 (by kernel_rfl)
        have y9 : L 9 = true := up_at hu 9 (by kernel_rfl)
        have y14 : L 14 = true := up_at hu 14 (by kernel_rfl)
        have y16 : L 16 = true := up_at hu 16 (by kernel_rfl)
        have n19 : L 19 = false := not_yet hL fun h => shut_at hs 19 17 (by kernel_rfl) (h)
        try simp only [y0, y1, y2, y3, y4, y5, y6, y7, y8, y9, y14, y16, n19, hL, cond_true, cond_false] at hph
        have hc := blk_cell (hph.1.b 3 _ rfl) 0
        have hfz := hph.1.fro (i := 3) rfl 0
        have HPH := Lib.hid hph
        have e31 : (many gg_ L (VL z))[31]?.getD undef = .int .i64 X := many_eval hgN (HOK.out z).1 (by rw [HVL.out]; simp [lookM, y7])
        have e40 : (many gg_ L (VL z))[40]?.getD undef = .pointer (some ⟨B + 3, 0, none⟩) := many_eval hgN (HOK.out z).1 (by rw [HVL.out]; simp [lookM, y16])
        refine opIn_skip (w' := w'.setCell ⟨B + 3, 0, none⟩ (.int .i64 X)) rfl rfl (fun c h => by cases h) (fun _ => trivial) ?_ ⟨z, by exact many_none 17 _ (by rw [HVL.out]; simp), ((hph.1.set (i := 3) rfl rfl 0 (.int .i64 X)).b 0 _ rfl), by simp only [upd, y0, y1, y2, y3, y4, y5, y6, y7, y8, y9, y14, y16, n19, hL, Nat.reduceBEq, cond_true, cond_false]; exact ⟨hph.1.set (i := 3) rfl rfl 0 _, by rw [size_setCell]; exact hph.2⟩⟩
        clear hph hcm
        simp at hc
        go_simp
      · skip
        have y0 : L 0 = true := up_at hu 0 (by kernel_rfl)
        have y1 : L 1 = true := up_at hu 1 (by kernel_rfl)
        have y2 : L 2 = true := up_at hu 2 (by kernel_rfl)
        have y3 : L 3 = true := up_at hu 3 (by kernel_rfl)
        have y4 : L 4 = true := up_at hu 4 (by kernel_rfl)
        have y5 : L 5 = true := up_at hu 5 (by kernel_rfl)
        have y6 : L 6 = true := up_at hu 6 (by kernel_rfl)
        have y7 : L 7 = true := up_at hu 7 (by kernel_rfl)
        have y8 : L 8 = true := up_at hu 8 (by kernel_rfl)
        have y9 : L 9 = true := up_at hu 9 (by kernel_rfl)
        have y10 : L 10 = true := up_at hu 10 (by kernel_rfl)
        have y11 : L 11 = true := up_at hu 11 (by kernel_rfl)
        have y12 : L 12 = true := up_at hu 12 (by kernel_rfl)
        have y13 : L 13 = true := up_at hu 13 (by kernel_rfl)
        have y14 : L 14 = true := up_at hu 14 (by kernel_rfl)
        have y15 : L 15 = true := up_at hu 15 (by kernel_rfl)
        have y16 : L 16 = true := up_at hu 16 (by kernel_rfl)
        have y17 : L 17 = true := up_at hu 17 (by kernel_rfl)
        have n19 : L 19 = false := not_yet hL fun h => shut_at hs 19 18 (by kernel_rfl) (h)
        try simp only [y0, y1, y2, y3, y4, y5, y6, y7, y8, y9, y10, y11, y12, y13, y14, y15, y16, y17, n19, hL, cond_true, cond_false] at hph
        have e6 : (many gg_ L (VL z))[6]?.getD undef = .pointer (some ⟨B + 3, 0, none⟩) := many_out hgN (HOK.out z).1 (by rw [HVL.out]; rfl) hF6
        refine opIn_run (v := .pointer (some ⟨B + 3, 1, none⟩)) (w' := w') rfl rfl (fun c h => by cases h) (fun _ => trivial) ?_ ⟨z, by exact many_put (HOK.out _) 18 41 _ (by rw [HVL.out]; simp) hL, hcm, by simp only [upd, y0, y1, y2, y3, y4, y5, y6, y7, y8, y9, y10, y11, y12, y13, y14, y15, y16, y17, n19, hL, Nat.reduceBEq, cond_true, cond_false]; exact hph⟩
        go_simp
      · skip
        have y0 : L 0 = true := up_at hu 0 (by kernel_rfl)
        have y1 : L 1 = true := up_at hu 1 (by kernel_rfl)
        have y2 : L 2 = true := up_at hu 2 (by kernel_rfl)
        have y3 : L 3 = true := up_at hu 3 (by kernel_rfl)
        have y4 : L 4 = true := up_at hu 4 (by kernel_rfl)
        have y5 : L 5 = true := up_at hu 5 (by kernel_rfl)
        have y6 : L 6 = true := up_at hu 6 (by kernel_rfl)
        have y7 : L 7 = true := up_at hu 7 (by kernel_rfl)
        have y8 : L 8 = true := up_at hu 8 (by kernel_rfl)
        have y9 : L 9 = true := up_at hu 9 (by kernel_rfl)
        have y10 : L 10 = true := up_at hu 10 (by kernel_rfl)
        have y11 : L 11 = true := up_at hu 11 (by kernel_rfl)
        have y12 : L 12 = true := up_at hu 12 (by kernel_rfl)
        have y13 : L 13 = true := up_at hu 13 (by kernel_rfl)
        have y14 : L 14 = true := up_at hu 14 (by kernel_rfl)
        have y15 : L 15 = true := up_at hu 15 (by kernel_rfl)
        have y16 : L 16 = true := up_at hu 16 (by kernel_rfl)
        have y17 : L 17 = true := up_at hu 17 (by kernel_rfl)
        have y18 : L 18 = true := up_at hu 18 (by kernel_rfl)
        try simp only [y0, y1, y2, y3, y4, y5, y6, y7, y8, y9, y10, y11, y12, y13, y14, y15, y16, y17, y18, hL, cond_true, cond_false] at hph
        have hc := blk_cell (hph.1.b 3 _ rfl) 1
        have hfz := hph.1.fro (i := 3) rfl 1
        have HPH := Lib.hid hph
        have e39 : (many gg_ L (VL z))[39]?.getD undef = .int .i64 Y := many_eval hgN (HOK.out z).1 (by rw [HVL.out]; simp [lookM, y15])
        have e41 : (many gg_ L (VL z))[41]?.getD undef = .pointer (some ⟨B + 3, 1, none⟩) := many_eval hgN (HOK.out z).1 (by rw [HVL.out]; simp [lookM, y18])
        refine opIn_skip (w' := w'.setCell ⟨B + 3, 1, none⟩ (.int .i64 Y)) rfl rfl (fun c h => by cases h) (fun _ => trivial) ?_ ⟨z, by exact many_none 19 _ (by rw [HVL.out]; simp), ((hph.1.set (i := 3) rfl rfl 1 (.int .i64 Y)).b 0 _ rfl), by simp only [upd, y0, y1, y2, y3, y4, y5, y6, y7, y8, y9, y10, y11, y12, y13, y14, y15, y16, y17, y18, hL, Nat.reduceBEq, cond_true, cond_false]; exact ⟨hph.1.set (i := 3) rfl rfl 1 _, by rw [size_setCell]; exact hph.2⟩⟩
        clear hph hcm
        simp at hc
        go_simp
    case fin =>
      intro L z w' hall hph
      obtain ⟨hcm, hph⟩ := hph
      have l17 := hall 17 (by decide)
      have l19 := hall 19 (by decide)
      simp only [l17, l19, cond_true] at hph
      clear l17 l19
      rw [HVL.out]
      dsimp only [manyL, List.set_cons_zero, List.set_cons_succ]
      clear hall HVL HOK HVI
      have HP := Lib.hid hph
      clear hph hcm
      go_wp2_with fail
      go_meet
      exact HP
   case rest =>
    have HM2 := Lib.hid hcut.out
    clear HM1 hcut
    go_upto_region 3 with fail
    go_cut [7] from 42 to 71 (fun v wx => v = .pointer (some ⟨B + 4, 0, none⟩) ∧ Hid (MkW w B [((fmA x y ox oy nc dp sb sg rc so ep tx ty lv bw bh pr st od ly A n c), 29), (#[.int .i64 0, .int .i64 0, .int .i64 0, .int .i64 0, .slice none 0 0], 24), (#[.int .i64 0, .int .i64 0, .int .i64 0, .int .i64 0, .int .i64 0, .int .i64 0, .int .i64 0, .int .i64 0, .int .i64 0, .bool false, .bool false, .bool false], 26), (#[.int .i64 X, .int .i64 Y, .int .i64 OX, .int .i64 OY, .slice none 0 0], 24), (#[.int .i64 0, .int .i64 0, .int .i64 LV, .int .i64 BW, .int .i64 BH, .int .i64 PR1, .int .i64 ST, .int .i64 OD, .int .i64 LY, .bool false, .bool so, .bool ep], 26)] wx ∧ wx.heap.size = B + 5))
    case first =>
     obtain ⟨VL, hVL⟩ : ∃ VL : Unit → List (Nat × Nat × Value), VL = fun z => [(0, 42, .pointer (some ⟨B, 13, none⟩)), (1, 43, .int .i64 lv), (2, 44, .int .i64 LV), (3, 45, .pointer (some ⟨B, 14, none⟩)), (4, 46, .int .i64 bw), (5, 47, .int .i64 BW0), (6, 48, .int .i64 BW), (7, 49, .pointer (some ⟨B, 15, none⟩)), (8, 50, .int .i64 bh), (9, 51, .int .i64 BH0), (10, 52, .int .i64 BH), (11, 53, .pointer (some ⟨B, 16, none⟩)), (12, 54, .int .i64 pr), (13, 55, .int .i64 PR0), (14, 56, .int .i64 PR1), (15, 57, .pointer (some ⟨B, 17, none⟩)), (16, 58, .int .i64 st), (17, 59, .int .i64 ST), (18, 60, .pointer (some ⟨B, 18, none⟩)), (19, 61, .int .i64 od), (20, 62, .int .i64 OD), (21, 63, .pointer (some ⟨B, 19, none⟩)), (22, 64, .int .i64 ly), (23, 65, .int .i64 LY0), (24, 66, .int .i64 LY), (25, 67, .pointer (some ⟨B, 9, none⟩)), (26, 68, .bool so), (27, 69, .pointer (some ⟨B, 10, none⟩)), (28, 70, .bool ep), (29, 71, .agg #[.int .i64 0, .int .i64 0, .int .i64 LV, .int .i64 BW, .int .i64 BH, .int .i64 PR1, .int .i64 ST, .int .i64 OD, .int .i64 LY, .bool false, .bool so, .bool ep]), (30, 7, .pointer (some ⟨B + 4, 0, none⟩))] := ⟨_, rfl⟩
     have hok : ∀ z, manyOk 226 (VL z) := fun z => by rw [hVL]; exact ⟨by simp, by simp, by simp⟩
     have HVL := Lib.hid hVL
     have hvi : ∀ z, ∀ x ∈ VL z, x.1 < 32 := fun z => by rw [hVL]; simp
     have HOK := Lib.hid hok
     have HVI := Lib.hid hvi
     clear hVL hok hvi
     refine (wpIn_wide (n := 9)).1 (regionIn_many (N := 226) (w := _) VL (fun L z w' => (w'.heap[B]? = some (.cells (fmA x y ox oy nc dp sb sg rc so ep tx ty lv bw bh pr st od ly A n c) 29 (0, 0))) ∧ (bif L 31 then (MkW w B [((fmA x y ox oy nc dp sb sg rc so ep tx ty lv bw bh pr st od ly A n c), 29), (#[.int .i64 0, .int .i64 0, .int .i64 0, .int .i64 0, .slice none 0 0], 24), (#[.int .i64 0, .int .i64 0, .int .i64 0, .int .i64 0, .int .i64 0, .int .i64 0, .int .i64 0, .int .i64 0, .int .i64 0, .bool false, .bool false, .bool false], 26), (#[.int .i64 X, .int .i64 Y, .int .i64 OX, .int .i64 OY, .slice none 0 0], 24), (#[.int .i64 0, .int .i64 0, .int .i64 LV, .int .i64 BW, .int .i64 BH, .int .i64 PR1, .int .i64 ST, .int .i64 OD, .int .i64 LY, .bool false, .bool so, .bool ep], 26)] w' ∧ w'.heap.size = B + 5) else (bif L 30 then (MkW w B [((fmA x y ox oy nc dp sb sg rc so ep tx ty lv bw bh pr st od ly A n c), 29), (#[.int .i64 0, .int .i64 0, .int .i64 0, .int .i64 0, .slice none 0 0], 24), (#[.int .i64 0, .int .i64 0, .int .i64 0, .int .i64 0, .int .i64 0, .int .i64 0, .int .i64 0, .int .i64 0, .int .i64 0, .bool false, .bool false, .bool false], 26), (#[.int .i64 X, .int .i64 Y, .int .i64 OX, .int .i64 OY, .slice none 0 0], 24), (#[.int .i64 0, .int .i64 0, .int .i64 0, .int .i64 0, .int .i64 0, .int .i64 0, .int .i64 0, .int .i64 0, .int .i64 0, .bool false, .bool false, .bool false], 26)] w' ∧ w'.heap.size = B + 5) else MkW w B [((fmA x y ox oy nc dp sb sg rc so ep tx ty lv bw bh pr st od ly A n c), 29), (#[.int .i64 0, .int .i64 0, .int .i64 0, .int .i64 0, .slice none 0 0], 24), (#[.int .i64 0, .int .i64 0, .int .i64 0, .int .i64 0, .int .i64 0, .int .i64 0, .int .i64 0, .int .i64 0, .int .i64 0, .bool false, .bool false, .bool false], 26), (#[.int .i64 X, .int .i64 Y, .int .i64 OX, .int .i64 OY, .slice none 0 0], 24)] w' ∧ w'.heap.size = B + 4))) [(2, .pointer (some ⟨B, 0, none⟩))] (by kernel_rfl) (by kernel_rfl) rfl (by simp only [List.forall_mem_cons, List.not_mem_nil, false_imp_iff, implies_true, and_true]; exact rfl) HVI.out () ?start ?step ?fin)
     case start => exact ⟨HM2.out.1.drew.b 0 _ rfl, HM2.out.1.drew, HM2.out.2⟩
     case step =>
       intro gg_ hgN hgF ii_ hii_ L z w' hph hs hu
       obtain ⟨hcm, hph⟩ := hph
       have hF2 := hgF (2, .pointer (some ⟨B, 0, none⟩)) (by simp)
       have hL := hu.1
       have hii_ : ii_ < 32 := hii_
       clear hgF
       obtain rfl | rfl | rfl | rfl | rfl | rfl | rfl | rfl | rfl | rfl | rfl | rfl | rfl | rfl | rfl | rfl | rfl | rfl | rfl | rfl | rfl | rfl | rfl | rfl | rfl | rfl | rfl | rfl | rfl | rfl | rfl | rfl := (by omega : ii_ = 0 ∨ ii_ = 1 ∨ ii_ = 2 ∨ ii_ = 3 ∨ ii_ = 4 ∨ ii_ = 5 ∨ ii_ = 6 ∨ ii_ = 7 ∨ ii_ = 8 ∨ ii_ = 9 ∨ ii_ = 10 ∨ ii_ = 11 ∨ ii_ = 12 ∨ ii_ = 13 ∨ ii_ = 14 ∨ ii_ = 15 ∨ ii_ = 16 ∨ ii_ = 17 ∨ ii_ = 18 ∨ ii_ = 19 ∨ ii_ = 20 ∨ ii_ = 21 ∨ ii_ = 22 ∨ ii_ = 23 ∨ ii_ = 24 ∨ ii_ = 25 ∨ ii_ = 26 ∨ ii_ = 27 ∨ ii_ = 28 ∨ ii_ = 29 ∨ ii_ = 30 ∨ ii_ = 31)
       · skip
         have n31 : L 31 = false := not_yet hL fun h => shut_at hs 31 0 (by kernel_rfl) (h)
         try simp only [n31, hL, cond_true, cond_false] at hph
         have e2 : (many gg_ L (VL z))[2]?.getD undef = .pointer (some ⟨B, 0, none⟩) := many_out hgN (HOK.out z).1 (by rw [HVL.out]; rfl) hF2
         refine opIn_run (v := .pointer (some ⟨B, 13, none⟩)) (w' := w') rfl rfl (fun c h => by cases h) (fun _ => trivial) ?_ ⟨z, by exact many_put (HOK.out _) 0 42 _ (by rw [HVL.out]; simp) hL, hcm, by simp only [upd, n31, hL, Nat.reduceBEq, cond_true, cond_false]; exact hph⟩
         go_simp
       · skip
         have y0 : L 0 = true := up_at hu 0 (by kernel_rfl)
         have n31 : L 31 = false := not_yet hL fun h => shut_at hs 31 1 (by kernel_rfl) (h)
         try simp only [y0, n31, hL, cond_true, cond_false] at hph
         have hcell : w'.cell? ⟨B, 13, none⟩ = some (.int .i64 lv) := blk_cell hcm 13
         have e42 : (many gg_ L (VL z))[42]?.getD undef = .pointer (some ⟨B, 13, none⟩) := many_eval hgN (HOK.out z).1 (by rw [HVL.out]; simp [lookM, y0])
         refine opIn_run (v := .int .i64 lv) (w' := w') rfl rfl (fun c h => by cases h) (fun _ => trivial) ?_ ⟨z, by exact many_put (HOK.out _) 1 43 _ (by rw [HVL.out]; simp) hL, hcm, by simp only [upd, y0, n31, hL, Nat.reduceBEq, cond_true, cond_false]; exact hph⟩
         go_simp
       · skip
         have y1 : L 1 = true := up_at hu 1 (by kernel_rfl)
         have n31 : L 31 = false := not_yet hL fun h => shut_at hs 31 2 (by kernel_rfl) (h)
         try simp only [y1, n31, hL, cond_true, cond_false] at hph
         have e43 : (many gg_ L (VL z))[43]?.getD undef = .int .i64 lv := many_eval hgN (HOK.out z).1 (by rw [HVL.out]; simp [lookM, y1])
         refine opIn_call (f := 17) (args := #[.int .i64 lv, .int .i64 6]) (w' := w') rfl rfl (fun c h => by cases h) (fun _ => trivial) rfl (by go_simp) ((callsIn_wide.2 (W4.out w')).mono ?_)
         rintro e w2 ⟨rfl, rfl⟩
         exact ⟨_, rfl, z, by exact many_put (HOK.out _) 2 44 _ (by rw [HVL.out]; simp) hL, hcm, by simp only [upd, y1, n31, hL, Nat.reduceBEq, cond_true, cond_false]; exact hph⟩
       · skip
         have n31 : L 31 = false := not_yet hL fun h => shut_at hs 31 3 (by kernel_rfl) (h)
         try simp only [n31, hL, cond_true, cond_false] at hph
         have e2 : (many gg_ L (VL z))[2]?.getD undef = .pointer (some ⟨B, 0, none⟩) := many_out hgN (HOK.out z).1 (by rw [HVL.out]; rfl) hF2
         refine opIn_run (v := .pointer (some ⟨B, 14, none⟩)) (w' := w') rfl rfl (fun c h => by cases h) (fun _ => trivial) ?_ ⟨z, by exact many_put (HOK.out _) 3 45 _ (by rw [HVL.out]; simp) hL, hcm, by simp only [upd, n31, hL, Nat.reduceBEq, cond_true, cond_false]; exact hph⟩
         go_simp
       · skip
         have y3 : L 3 = true := up_at hu 3 (by kernel_rfl)
         have n31 : L 31 = false := not_yet hL fun h => shut_at hs 31 4 (by kernel_rfl) (h)
         try simp only [y3, n31, hL, cond_true, cond_false] at hph
         have hcell : w'.cell? ⟨B, 14, none⟩ = some (.int .i64 bw) := blk_cell hcm 14
         have e45 : (many gg_ L (VL z))[45]?.getD undef = .pointer (some ⟨B, 14, none⟩) := many_eval hgN (HOK.out z).1 (by rw [HVL.out]; simp [lookM, y3])
         refine opIn_run (v := .int .i64 bw) (w' := w') rfl rfl (fun c h => by cases h) (fun _ => trivial) ?_ ⟨z, by exact many_put (HOK.out _) 4 46 _ (by rw [HVL.out]; simp) hL, hcm, by simp only [upd, y3, n31, hL, Nat.reduceBEq, cond_true, cond_false]; exact hph⟩
         go_simp
       · skip
         have y2 : L 2 = true := up_at hu 2 (by kernel_rfl)
         have y4 : L 4 = true := up_at hu 4 (by kernel_rfl)
         have n31 : L 31 = false := not_yet hL fun h => shut_at hs 31 5 (by kernel_rfl) (h)
         try simp only [y2, y4, n31, hL, cond_true, cond_false] at hph
         have e46 : (many gg_ L (VL z))[46]?.getD undef = .int .i64 bw := many_eval hgN (HOK.out z).1 (by rw [HVL.out]; simp [lookM, y4])
         refine opIn_call (f := 17) (args := #[.int .i64 bw, .int .i64 3]) (w' := w') rfl rfl (fun c h => by cases h) (fun _ => trivial) rfl (by go_simp) ((callsIn_wide.2 (W5.out w')).mono ?_)
         rintro e w2 ⟨rfl, rfl⟩
         exact ⟨_, rfl, z, by exact many_put (HOK.out _) 5 47 _ (by rw [HVL.out]; simp) hL, hcm, by simp only [upd, y2, y4, n31, hL, Nat.reduceBEq, cond_true, cond_false]; exact hph⟩
       · skip
         have y5 : L 5 = true := up_at hu 5 (by kernel_rfl)
         have n31 : L 31 = false := not_yet hL fun h => shut_at hs 31 6 (by kernel_rfl) (h)
         try simp only [y5, n31, hL, cond_true, cond_false] at hph
         have q1 := SW.out.2.2.2.2.1
         have e47 : (many gg_ L (VL z))[47]?.getD undef = .int .i64 BW0 := many_eval hgN (HOK.out z).1 (by rw [HVL.out]; simp [lookM, y5])
         refine opIn_run (v := .int .i64 BW) (w' := w') rfl rfl (fun c h => by cases h) (fun _ => trivial) ?_ ⟨z, by exact many_put (HOK.out _) 6 48 _ (by rw [HVL.out]; simp) hL, hcm, by simp only [upd, y5, n31, hL, Nat.reduceBEq, cond_true, cond_false]; exact hph⟩
         go_simp
       · skip
         have n31 : L 31 = false := not_yet hL fun h => shut_at hs 31 7 (by kernel_rfl) (h)
         try simp only [n31, hL, cond_true, cond_false] at hph
         have e2 : (many gg_ L (VL z))[2]?.getD undef = .pointer (some ⟨B, 0, none⟩) := many_out hgN (HOK.out z).1 (by rw [HVL.out]; rfl) hF2
         refine opIn_run (v := .pointer (some ⟨B, 15, none⟩)) (w' := w') rfl rfl (fun c h => by cases h) (fun _ => trivial) ?_ ⟨z, by exact many_put (HOK.out _) 7 49 _ (by rw [HVL.out]; simp) hL, hcm, by simp only [upd, n31, hL, Nat.reduceBEq, cond_true, cond_false]; exact hph⟩
         go_simp
       · skip
         have y7 : L 7 = true := up_at hu 7 (by kernel_rfl)
         have n31 : L 31 = false := not_yet hL fun h => shut_at hs 31 8 (by kernel_rfl) (h)
         try simp only [y7, n31, hL, cond_true, cond_false] at hph
         have hcell : w'.cell? ⟨B, 15, none⟩ = some (.int .i64 bh) := blk_cell hcm 15
         have e49 : (many gg_ L (VL z))[49]?.getD undef = .pointer (some ⟨B, 15, none⟩) := many_eval hgN (HOK.out z).1 (by rw [HVL.out]; simp [lookM, y7])
         refine opIn_run (v := .int .i64 bh) (w' := w') rfl rfl (fun c h => by cases h) (fun _ => trivial) ?_ ⟨z, by exact many_put (HOK.out _) 8 50 _ (by rw [HVL.out]; simp) hL, hcm, by simp only [upd, y7, n31, hL, Nat.reduceBEq, cond_true, cond_false]; exact hph⟩
         go_simp
       · skip
         have y5 : L 5 = true := up_at hu 5 (by kernel_rfl)
         have y8 : L 8 = true := up_at hu 8 (by kernel_rfl)
         have n31 : L 31 = false := not_yet hL fun h => shut_at hs 31 9 (by kernel_rfl) (h)
         try simp only [y5, y8, n31, hL, cond_true, cond_false] at hph
         have e50 : (many gg_ L (VL z))[50]?.getD undef = .int .i64 bh := many_eval hgN (HOK.out z).1 (by rw [HVL.out]; simp [lookM, y8])
         refine opIn_call (f := 17) (args := #[.int .i64 bh, .int .i64 3]) (w' := w') rfl rfl (fun c h => by cases h) (fun _ => trivial) rfl (by go_simp) ((callsIn_wide.2 (W6.out w')).mono ?_)
         rintro e w2 ⟨rfl, rfl⟩
         exact ⟨_, rfl, z, by exact many_put (HOK.out _) 9 51 _ (by rw [HVL.out]; simp) hL, hcm, by simp only [upd, y5, y8, n31, hL, Nat.reduceBEq, cond_true, cond_false]; exact hph⟩
       · skip
         have y9 : L 9 = true := up_at hu 9 (by kernel_rfl)
         have n31 : L 31 = false := not_yet hL fun h => shut_at hs 31 10 (by kernel_rfl) (h)
         try simp only [y9, n31, hL, cond_true, cond_false] at hph
         have q1 := SW.out.2.2.2.2.2.1
         have e51 : (many gg_ L (VL z))[51]?.getD undef = .int .i64 BH0 := many_eval hgN (HOK.out z).1 (by rw [HVL.out]; simp [lookM, y9])
         refine opIn_run (v := .int .i64 BH) (w' := w') rfl rfl (fun c h => by cases h) (fun _ => trivial) ?_ ⟨z, by exact many_put (HOK.out _) 10 52 _ (by rw [HVL.out]; simp) hL, hcm, by simp only [upd, y9, n31, hL, Nat.reduceBEq, cond_true, cond_false]; exact hph⟩
         go_simp
       · skip
         have n31 : L 31 = false := not_yet hL fun h => shut_at hs 31 11 (by kernel_rfl) (h)
         try simp only [n31, hL, cond_true, cond_false] at hph
         have e2 : (many gg_ L (VL z))[2]?.getD undef = .pointer (some ⟨B, 0, none⟩) := many_out hgN (HOK.out z).1 (by rw [HVL.out]; rfl) hF2
         refine opIn_run (v := .pointer (some ⟨B, 16, none⟩)) (w' := w') rfl rfl (fun c h => by cases h) (fun _ => trivial) ?_ ⟨z, by exact many_put (HOK.out _) 11 53 _ (by rw [HVL.out]; simp) hL, hcm, by simp only [upd, n31, hL, Nat.reduceBEq, cond_true, cond_false]; exact hph⟩
         go_simp
       · skip
         have y11 : L 11 = true := up_at hu 11 (by kernel_rfl)
         have n31 : L 31 = false := not_yet hL fun h => shut_at hs 31 12 (by kernel_rfl) (h)
         try simp only [y11, n31, hL, cond_true, cond_false] at hph
         have hcell : w'.cell? ⟨B, 16, none⟩ = some (.int .i64 pr) := blk_cell hcm 16
         have e53 : (many gg_ L (VL z))[53]?.getD undef = .pointer (some ⟨B, 16, none⟩) := many_eval hgN (HOK.out z).1 (by rw [HVL.out]; simp [lookM, y11])
         refine opIn_run (v := .int .i64 pr) (w' := w') rfl rfl (fun c h => by cases h) (fun _ => trivial) ?_ ⟨z, by exact many_put (HOK.out _) 12 54 _ (by rw [HVL.out]; simp) hL, hcm, by simp only [upd, y11, n31, hL, Nat.reduceBEq, cond_true, cond_false]; exact hph⟩
         go_simp
       · skip
         have y9 : L 9 = true := up_at hu 9 (by kernel_rfl)
         have y12 : L 12 = true := up_at hu 12 (by kernel_rfl)
         have n31 : L 31 = false := not_yet hL fun h => shut_at hs 31 13 (by kernel_rfl) (h)
         try simp only [y9, y12, n31, hL, cond_true, cond_false] at hph
         have e54 : (many gg_ L (VL z))[54]?.getD undef = .int .i64 pr := many_eval hgN (HOK.out z).1 (by rw [HVL.out]; simp [lookM, y12])
         refine opIn_call (f := 17) (args := #[.int .i64 pr, .int .i64 5]) (w' := w') rfl rfl (fun c h => by cases h) (fun _ => trivial) rfl (by go_simp) ((callsIn_wide.2 (W7.out w')).mono ?_)
         rintro e w2 ⟨rfl, rfl⟩
         exact ⟨_, rfl, z, by exact many_put (HOK.out _) 13 55 _ (by rw [HVL.out]; simp) hL, hcm, by simp only [upd, y9, y12, n31, hL, Nat.reduceBEq, cond_true, cond_false]; exact hph⟩
       · skip
         have y13 : L 13 = true := up_at hu 13 (by kernel_rfl)
         have n31 : L 31 = false := not_yet hL fun h => shut_at hs 31 14 (by kernel_rfl) (h)
         try simp only [y13, n31, hL, cond_true, cond_false] at hph
         have q1 := SW.out.2.2.2.2.2.2.1
         have e55 : (many gg_ L (VL z))[55]?.getD undef = .int .i64 PR0 := many_eval hgN (HOK.out z).1 (by rw [HVL.out]; simp [lookM, y13])
         refine opIn_run (v := .int .i64 PR1) (w' := w') rfl rfl (fun c h => by cases h) (fun _ => trivial) ?_ ⟨z, by exact many_put (HOK.out _) 14 56 _ (by rw [HVL.out]; simp) hL, hcm, by simp only [upd, y13, n31, hL, Nat.reduceBEq, cond_true, cond_false]; exact hph⟩
         go_simp
       · skip
         have n31 : L 31 = false := not_yet hL fun h => shut_at hs 31 15 (by kernel_rfl) (h)
         try simp only [n31, hL, cond_true, cond_false] at hph
         have e2 : (many gg_ L (VL z))[2]?.getD undef = .pointer (some ⟨B, 0, none⟩) := many_out hgN (HOK.out z).1 (by rw [HVL.out]; rfl) hF2
         refine opIn_run (v := .pointer (some ⟨B, 17, none⟩)) (w' := w') rfl rfl (fun c h => by cases h) (fun _ => trivial) ?_ ⟨z, by exact many_put (HOK.out _) 15 57 _ (by rw [HVL.out]; simp) hL, hcm, by simp only [upd, n31, hL, Nat.reduceBEq, cond_true, cond_false]; exact hph⟩
         go_simp
       · skip
         have y15 : L 15 = true := up_at hu 15 (by kernel_rfl)
         have n31 : L 31 = false := not_yet hL fun h => shut_at hs 31 16 (by kernel_rfl) (h)
         try simp only [y15, n31, hL, cond_true, cond_false] at hph
         have hcell : w'.cell? ⟨B, 17, none⟩ = some (.int .i64 st) := blk_cell hcm 17
         have e57 : (many gg_ L (VL z))[57]?.getD undef = .pointer (some ⟨B, 17, none⟩) := many_eval hgN (HOK.out z).1 (by rw [HVL.out]; simp [lookM, y15])
         refine opIn_run (v := .int .i64 st) (w' := w') rfl rfl (fun c h => by cases h) (fun _ => trivial) ?_ ⟨z, by exact many_put (HOK.out _) 16 58 _ (by rw [HVL.out]; simp) hL, hcm, by simp only [upd, y15, n31, hL, Nat.reduceBEq, cond_true, cond_false]; exact hph⟩
         go_simp
       · skip
         have y13 : L 13 = true := up_at hu 13 (by kernel_rfl)
         have y16 : L 16 = true := up_at hu 16 (by kernel_rfl)
         have n31 : L 31 = false := not_yet hL fun h => shut_at hs 31 17 (by kernel_rfl) (h)
         try simp only [y13, y16, n31, hL, cond_true, cond_false] at hph
         have e58 : (many gg_ L (VL z))[58]?.getD undef = .int .i64 st := many_eval hgN (HOK.out z).1 (by rw [HVL.out]; simp [lookM, y16])
         refine opIn_call (f := 17) (args := #[.int .i64 st, .int .i64 64]) (w' := w') rfl rfl (fun c h => by cases h) (fun _ => trivial) rfl (by go_simp) ((callsIn_wide.2 (W8.out w')).mono ?_)
         rintro e w2 ⟨rfl, rfl⟩
         exact ⟨_, rfl, z, by exact many_put (HOK.out _) 17 59 _ (by rw [HVL.out]; simp) hL, hcm, by simp only [upd, y13, y16, n31, hL, Nat.reduceBEq, cond_true, cond_false]; exact hph⟩
       · skip
         have n31 : L 31 = false := not_yet hL fun h => shut_at hs 31 18 (by kernel_rfl) (h)
         try simp only [n31, hL, cond_true, cond_false] at hph
         have e2 : (many gg_ L (VL z))[2]?.getD undef = .pointer (some ⟨B, 0, none⟩) := many_out hgN (HOK.out z).1 (by rw [HVL.out]; rfl) hF2
         refine opIn_run (v := .pointer (some ⟨B, 18, none⟩)) (w' := w') rfl rfl (fun c h => by cases h) (fun _ => trivial) ?_ ⟨z, by exact many_put (HOK.out _) 18 60 _ (by rw [HVL.out]; simp) hL, hcm, by simp only [upd, n31, hL, Nat.reduceBEq, cond_true, cond_false]; exact hph⟩
         go_simp
       · skip
         have y18 : L 18 = true := up_at hu 18 (by kernel_rfl)
         have n31 : L 31 = false := not_yet hL fun h => shut_at hs 31 19 (by kernel_rfl) (h)
         try simp only [y18, n31, hL, cond_true, cond_false] at hph
         have hcell : w'.cell? ⟨B, 18, none⟩ = some (.int .i64 od) := blk_cell hcm 18
         have e60 : (many gg_ L (VL z))[60]?.getD undef = .pointer (some ⟨B, 18, none⟩) := many_eval hgN (HOK.out z).1 (by rw [HVL.out]; simp [lookM, y18])
         refine opIn_run (v := .int .i64 od) (w' := w') rfl rfl (fun c h => by cases h) (fun _ => trivial) ?_ ⟨z, by exact many_put (HOK.out _) 19 61 _ (by rw [HVL.out]; simp) hL, hcm, by simp only [upd, y18, n31, hL, Nat.reduceBEq, cond_true, cond_false]; exact hph⟩
         go_simp
       · skip
         have y17 : L 17 = true := up_at hu 17 (by kernel_rfl)
         have y19 : L 19 = true := up_at hu 19 (by kernel_rfl)
         have n31 : L 31 = false := not_yet hL fun h => shut_at hs 31 20 (by kernel_rfl) (h)
         try simp only [y17, y19, n31, hL, cond_true, cond_false] at hph
         have e61 : (many gg_ L (VL z))[61]?.getD undef = .int .i64 od := many_eval hgN (HOK.out z).1 (by rw [HVL.out]; simp [lookM, y19])
         refine opIn_call (f := 17) (args := #[.int .i64 od, .int .i64 5]) (w' := w') rfl rfl (fun c h => by cases h) (fun _ => trivial) rfl (by go_simp) ((callsIn_wide.2 (W9.out w')).mono ?_)
         rintro e w2 ⟨rfl, rfl⟩
         exact ⟨_, rfl, z, by exact many_put (HOK.out _) 20 62 _ (by rw [HVL.out]; simp) hL, hcm, by simp only [upd, y17, y19, n31, hL, Nat.reduceBEq, cond_true, cond_false]; exact hph⟩
       · skip
         have n31 : L 31 = false := not_yet hL fun h => shut_at hs 31 21 (by kernel_rfl) (h)
         try simp only [n31, hL, cond_true, cond_false] at hph
         have e2 : (many gg_ L (VL z))[2]?.getD undef = .pointer (some ⟨B, 0, none⟩) := many_out hgN (HOK.out z).1 (by rw [HVL.out]; rfl) hF2
         refine opIn_run (v := .pointer (some ⟨B, 19, none⟩)) (w' := w') rfl rfl (fun c h => by cases h) (fun _ => trivial) ?_ ⟨z, by exact many_put (HOK.out _) 21 63 _ (by rw [HVL.out]; simp) hL, hcm, by simp only [upd, n31, hL, Nat.reduceBEq, cond_true, cond_false]; exact hph⟩
         go_simp
       · skip
         have y21 : L 21 = true := up_at hu 21 (by kernel_rfl)
         have n31 : L 31 = false := not_yet hL fun h => shut_at hs 31 22 (by kernel_rfl) (h)
         try simp only [y21, n31, hL, cond_true, cond_false] at hph
         have hcell : w'.cell? ⟨B, 19, none⟩ = some (.int .i64 ly) := blk_cell hcm 19
         have e63 : (many gg_ L (VL z))[63]?.getD undef = .pointer (some ⟨B, 19, none⟩) := many_eval hgN (HOK.out z).1 (by rw [HVL.out]; simp [lookM, y21])
         refine opIn_run (v := .int .i64 ly) (w' := w') rfl rfl (fun c h => by cases h) (fun _ => trivial) ?_ ⟨z, by exact many_put (HOK.out _) 22 64 _ (by rw [HVL.out]; simp) hL, hcm, by simp only [upd, y21, n31, hL, Nat.reduceBEq, cond_true, cond_false]; exact hph⟩
         go_simp
       · skip
         have y20 : L 20 = true := up_at hu 20 (by kernel_rfl)
         have y22 : L 22 = true := up_at hu 22 (by kernel_rfl)
         have n31 : L 31 = false := not_yet hL fun h => shut_at hs 31 23 (by kernel_rfl) (h)
         try simp only [y20, y22, n31, hL, cond_true, cond_false] at hph
         have e64 : (many gg_ L (VL z))[64]?.getD undef = .int .i64 ly := many_eval hgN (HOK.out z).1 (by rw [HVL.out]; simp [lookM, y22])
         refine opIn_call (f := 17) (args := #[.int .i64 ly, .int .i64 4]) (w' := w') rfl rfl (fun c h => by cases h) (fun _ => trivial) rfl (by go_simp) ((callsIn_wide.2 (Wa.out w')).mono ?_)
         rintro e w2 ⟨rfl, rfl⟩
         exact ⟨_, rfl, z, by exact many_put (HOK.out _) 23 65 _ (by rw [HVL.out]; simp) hL, hcm, by simp only [upd, y20, y22, n31, hL, Nat.reduceBEq, cond_true, cond_false]; exact hph⟩
       · skip
         have y23 : L 23 = true := up_at hu 23 (by kernel_rfl)
         have n31 : L 31 = false := not_yet hL fun h => shut_at hs 31 24 (by kernel_rfl) (h)
         try simp only [y23, n31, hL, cond_true, cond_false] at hph
         have q1 := SW.out.2.2.2.2.2.2.2.1
         have e65 : (many gg_ L (VL z))[65]?.getD undef = .int .i64 LY0 := many_eval hgN (HOK.out z).1 (by rw [HVL.out]; simp [lookM, y23])
         refine opIn_run (v := .int .i64 LY) (w' := w') rfl rfl (fun c h => by cases h) (fun _ => trivial) ?_ ⟨z, by exact many_put (HOK.out _) 24 66 _ (by rw [HVL.out]; simp) hL, hcm, by simp only [upd, y23, n31, hL, Nat.reduceBEq, cond_true, cond_false]; exact hph⟩
         go_simp
       · skip
         have n31 : L 31 = false := not_yet hL fun h => shut_at hs 31 25 (by kernel_rfl) (h)
         try simp only [n31, hL, cond_true, cond_false] at hph
         have e2 : (many gg_ L (VL z))[2]?.getD undef = .pointer (some ⟨B, 0, none⟩) := many_out hgN (HOK.out z).1 (by rw [HVL.out]; rfl) hF2
         refine opIn_run (v := .pointer (some ⟨B, 9, none⟩)) (w' := w') rfl rfl (fun c h => by cases h) (fun _ => trivial) ?_ ⟨z, by exact many_put (HOK.out _) 25 67 _ (by rw [HVL.out]; simp) hL, hcm, by simp only [upd, n31, hL, Nat.reduceBEq, cond_true, cond_false]; exact hph⟩
         go_simp
       · skip
         have y25 : L 25 = true := up_at hu 25 (by kernel_rfl)
         have n31 : L 31 = false := not_yet hL fun h => shut_at hs 31 26 (by kernel_rfl) (h)
         try simp only [y25, n31, hL, cond_true, cond_false] at hph
         have hcell : w'.cell? ⟨B, 9, none⟩ = some (.bool so) := blk_cell hcm 9
         have e67 : (many gg_ L (VL z))[67]?.getD undef = .pointer (some ⟨B, 9, none⟩) := many_eval hgN (HOK.out z).1 (by rw [HVL.out]; simp [lookM, y25])
         refine opIn_run (v := .bool so) (w' := w') rfl rfl (fun c h => by cases h) (fun _ => trivial) ?_ ⟨z, by exact many_put (HOK.out _) 26 68 _ (by rw [HVL.out]; simp) hL, hcm, by simp only [upd, y25, n31, hL, Nat.reduceBEq, cond_true, cond_false]; exact hph⟩
         go_simp
       · skip
         have n31 : L 31 = false := not_yet hL fun h => shut_at hs 31 27 (by kernel_rfl) (h)
         try simp only [n31, hL, cond_true, cond_false] at hph
         have e2 : (many gg_ L (VL z))[2]?.getD undef = .pointer (some ⟨B, 0, none⟩) := many_out hgN (HOK.out z).1 (by rw [HVL.out]; rfl) hF2
         refine opIn_run (v := .pointer (some ⟨B, 10, none⟩)) (w' := w') rfl rfl (fun c h => by cases h) (fun _ => trivial) ?_ ⟨z, by exact many_put (HOK.out _) 27 69 _ (by rw [HVL.out]; simp) hL, hcm, by simp only [upd, n31, hL, Nat.reduceBEq, cond_true, cond_false]; exact hph⟩
         go_simp
       · skip
         have y27 : L 27 = true := up_at hu 27 (by kernel_rfl)
         have n31 : L 31 = false := not_yet hL fun h => shut_at hs 31 28 (by kernel_rfl) (h)
         try simp only [y27, n31, hL, cond_true, cond_false] at hph
         have hcell : w'.cell? ⟨B, 10, none⟩ = some (.bool ep) := blk_cell hcm 10
         have e69 : (many gg_ L (VL z))[69]?.getD undef = .pointer (some ⟨B, 10, none⟩) := many_eval hgN (HOK.out z).1 (by rw [HVL.out]; simp [lookM, y27])
         refine opIn_run (v := .bool ep) (w' := w') rfl rfl (fun c h => by cases h) (fun _ => trivial) ?_ ⟨z, by exact many_put (HOK.out _) 28 70 _ (by rw [HVL.out]; simp) hL, hcm, by simp only [upd, y27, n31, hL, Nat.reduceBEq, cond_true, cond_false]; exact hph⟩
         go_simp
       · skip
         have y2 : L 2 = true := up_at hu 2 (by kernel_rfl)
         have y6 : L 6 = true := up_at hu 6 (by kernel_rfl)
         have y10 : L 10 = true := up_at hu 10 (by kernel_rfl)
         have y14 : L 14 = true := up_at hu 14 (by kernel_rfl)
         have y17 : L 17 = true := up_at hu 17 (by kernel_rfl)
         have y20 : L 20 = true := up_at hu 20 (by kernel_rfl)
         have y24 : L 24 = true := up_at hu 24 (by kernel_rfl)
         have y26 : L 26 = true := up_at hu 26 (by kernel_rfl)
         have y28 : L 28 = true := up_at hu 28 (by kernel_rfl)
         have n31 : L 31 = false := not_yet hL fun h => shut_at hs 31 29 (by kernel_rfl) (h)
         try simp only [y2, y6, y10, y14, y17, y20, y24, y26, y28, n31, hL, cond_true, cond_false] at hph
         have e44 : (many gg_ L (VL z))[44]?.getD undef = .int .i64 LV := many_eval hgN (HOK.out z).1 (by rw [HVL.out]; simp [lookM, y2])
         have e48 : (many gg_ L (VL z))[48]?.getD undef = .int .i64 BW := many_eval hgN (HOK.out z).1 (by rw [HVL.out]; simp [lookM, y6])
         have e52 : (many gg_ L (VL z))[52]?.getD undef = .int .i64 BH := many_eval hgN (HOK.out z).1 (by rw [HVL.out]; simp [lookM, y10])
         have e56 : (many gg_ L (VL z))[56]?.getD undef = .int .i64 PR1 := many_eval hgN (HOK.out z).1 (by rw [HVL.out]; simp [lookM, y14])
         have e59 : (many gg_ L (VL z))[59]?.getD undef = .int .i64 ST := many_eval hgN (HOK.out z).1 (by rw [HVL.out]; simp [lookM, y17])
         have e62 : (many gg_ L (VL z))[62]?.getD undef = .int .i64 OD := many_eval hgN (HOK.out z).1 (by rw [HVL.out]; simp [lookM, y20])
         have e66 : (many gg_ L (VL z))[66]?.getD undef = .int .i64 LY := many_eval hgN (HOK.out z).1 (by rw [HVL.out]; simp [lookM, y24])
         have e68 : (many gg_ L (VL z))[68]?.getD undef = .bool so := many_eval hgN (HOK.out z).1 (by rw [HVL.out]; simp [lookM, y26])
         have e70 : (many gg_ L (VL z))[70]?.getD undef = .bool ep := many_eval hgN (HOK.out z).1 (by rw [HVL.out]; simp [lookM, y28])
         refine opIn_run (v := .agg #[.int .i64 0, .int .i64 0, .int .i64 LV, .int .i64 BW, .int .i64 BH, .int .i64 PR1, .int .i64 ST, .int .i64 OD, .int .i64 LY, .bool false, .bool so, .bool ep]) (w' := w') rfl rfl (fun c h => by cases h) (fun _ => trivial) ?_ ⟨z, by exact many_put (HOK.out _) 29 71 _ (by rw [HVL.out]; simp) hL, hcm, by simp only [upd, y2, y6, y10, y14, y17, y20, y24, y26, y28, n31, hL, Nat.reduceBEq, cond_true, cond_false]; exact hph⟩
         go_simp
       · skip
         have n31 : L 31 = false := not_yet hL fun h => shut_at hs 31 30 (by kernel_rfl) (h)
         try simp only [n31, hL, cond_true, cond_false] at hph
         refine opIn_run (v := .pointer (some ⟨B + 4, 0, none⟩)) (w' := w'.alloc (.cells #[.int .i64 0, .int .i64 0, .int .i64 0, .int .i64 0, .int .i64 0, .int .i64 0, .int .i64 0, .int .i64 0, .int .i64 0, .bool false, .bool false, .bool false] 26)) rfl rfl (fun c h => by cases h) (fun _ => trivial) ?_ ⟨z, by exact many_put (HOK.out _) 30 7 _ (by rw [HVL.out]; simp) hL, ((hph.1.more hph.2 #[.int .i64 0, .int .i64 0, .int .i64 0, .int .i64 0, .int .i64 0, .int .i64 0, .int .i64 0, .int .i64 0, .int .i64 0, .bool false, .bool false, .bool false] 26).b 0 _ rfl), by simp only [upd, n31, hL, Nat.reduceBEq, cond_true, cond_false]; exact ⟨hph.1.more hph.2 _ _, by simp [hph.2]⟩⟩
         have hsz := hph.2
         clear hph hcm
         go_simp
       · skip
         have y0 : L 0 = true := up_at hu 0 (by kernel_rfl)
         have y1 : L 1 = true := up_at hu 1 (by kernel_rfl)
         have y2 : L 2 = true := up_at hu 2 (by kernel_rfl)
         have y3 : L 3 = true := up_at hu 3 (by kernel_rfl)
         have y4 : L 4 = true := up_at hu 4 (by kernel_rfl)
         have y5 : L 5 = true := up_at hu 5 (by kernel_rfl)
         have y6 : L 6 = true := up_at hu 6 (by kernel_rfl)
         have y7 : L 7 = true := up_at hu 7 (by kernel_rfl)
         have y8 : L 8 = true := up_at hu 8 (by kernel_rfl)
         have y9 : L 9 = true := up_at hu 9 (by kernel_rfl)
         have y10 : L 10 = true := up_at hu 10 (by kernel_rfl)
         have y11 : L 11 = true := up_at hu 11 (by kernel_rfl)
         have y12 : L 12 = true := up_at hu 12 (by kernel_rfl)
         have y13 : L 13 = true := up_at hu 13 (by kernel_rfl)
         have y14 : L 14 = true := up_at hu 14 (by kernel_rfl)
         have y15 : L 15 = true := up_at hu 15 (by kernel_rfl)
         have y16 : L 16 = true := up_at hu 16 (by kernel_rfl)
         have y17 : L 17 = true := up_at hu 17 (by kernel_rfl)
         have y18 : L 18 = true := up_at hu 18 (by kernel_rfl)
         have y19 : L 19 = true := up_at hu 19 (by kernel_rfl)
         have y20 : L 20 = true := up_at hu 20 (by kernel_rfl)
         have y21 : L 21 = true := up_at hu 21 (by kernel_rfl)
         have y22 : L 22 = true := up_at hu 22 (by kernel_rfl)
         have y23 : L 23 = true := up_at hu 23 (by kernel_rfl)
         have y24 : L 24 = true := up_at hu 24 (by kernel_rfl)
         have y25 : L 25 = true := up_at hu 25 (by kernel_rfl)
         have y26 : L 26 = true := up_at hu 26 (by kernel_rfl)
         have y27 : L 27 = true := up_at hu 27 (by kernel_rfl)
         have y28 : L 28 = true := up_at hu 28 (by kernel_rfl)
         have y29 : L 29 = true := up_at hu 29 (by kernel_rfl)
         have y30 : L 30 = true := up_at hu 30 (by kernel_rfl)
         try simp only [y0, y1, y2, y3, y4, y5, y6, y7, y8, y9, y10, y11, y12, y13, y14, y15, y16, y17, y18, y19, y20, y21, y22, y23, y24, y25, y26, y27, y28, y29, y30, hL, cond_true, cond_false] at hph
         have e7 : (many gg_ L (VL z))[7]?.getD undef = .pointer (some ⟨B + 4, 0, none⟩) := many_eval hgN (HOK.out z).1 (by rw [HVL.out]; simp [lookM, y30])
         have e71 : (many gg_ L (VL z))[71]?.getD undef = .agg #[.int .i64 0, .int .i64 0, .int .i64 LV, .int .i64 BW, .int .i64 BH, .int .i64 PR1, .int .i64 ST, .int .i64 OD, .int .i64 LY, .bool false, .bool so, .bool ep] := many_eval hgN (HOK.out z).1 (by rw [HVL.out]; simp [lookM, y29])
         refine opIn_skip (w' := w'.setRow (B + 4) #[.int .i64 0, .int .i64 0, .int .i64 LV, .int .i64 BW, .int .i64 BH, .int .i64 PR1, .int .i64 ST, .int .i64 OD, .int .i64 LY, .bool false, .bool so, .bool ep]) rfl rfl (fun c h => by cases h) (fun _ => trivial) ?_ ⟨z, by exact many_none 31 _ (by rw [HVL.out]; simp), ((hph.1.row (i := 4) rfl rfl #[.int .i64 0, .int .i64 0, .int .i64 LV, .int .i64 BW, .int .i64 BH, .int .i64 PR1, .int .i64 ST, .int .i64 OD, .int .i64 LY, .bool false, .bool so, .bool ep]).b 0 _ rfl), by simp only [upd, y0, y1, y2, y3, y4, y5, y6, y7, y8, y9, y10, y11, y12, y13, y14, y15, y16, y17, y18, y19, y20, y21, y22, y23, y24, y25, y26, y27, y28, y29, y30, hL, Nat.reduceBEq, cond_true, cond_false]; exact ⟨hph.1.row (i := 4) rfl rfl _, by rw [setRow_size]; exact hph.2⟩⟩
         exact run_store_many e7 e71 (hph.1.b 4 _ rfl) (by kernel_rfl) rfl (by kernel_rfl)
     case fin =>
       intro L z w' hall hph
       obtain ⟨hcm, hph⟩ := hph
       have l30 := hall 30 (by decide)
       have l31 := hall 31 (by decide)
       simp only [l30, l31, cond_true] at hph
       clear l30 l31
       rw [HVL.out]
       dsimp only [manyL, List.set_cons_zero, List.set_cons_succ]
       clear hall HVL HOK HVI
       have HP := Lib.hid hph
       clear hph hcm
       go_wp2_with fail
       go_meet
       exact ⟨rfl, HP⟩
    case rest =>
     obtain ⟨rfl, HM3⟩ := hcut
     clear HM2
     have hPR := HQQ.out.2.1
     have cpr : wc.cell? ⟨B, 16, none⟩ = some (.int .i64 pr) := blk_cell (HM3.out.1.b 0 _ rfl) 16
     go_upto_if 75 with fail
     go_cut [] from 76 to 76 (fun wx => Hid (MkW w B [((fmA x y ox oy nc dp sb sg rc so ep tx ty lv bw bh pr st od ly A n c), 29), (#[.int .i64 0, .int .i64 0, .int .i64 0, .int .i64 0, .slice none 0 0], 24), (#[.int .i64 0, .int .i64 0, .int .i64 0, .int .i64 0, .int .i64 0, .int .i64 0, .int .i64 0, .int .i64 0, .int .i64 0, .bool false, .bool false, .bool false], 26), (#[.int .i64 X, .int .i64 Y, .int .i64 OX, .int .i64 OY, .slice none 0 0], 24), (#[.int .i64 0, .int .i64 0, .int .i64 LV, .int .i64 BW, .int .i64 BH, .int .i64 PR, .int .i64 ST, .int .i64 OD, .int .i64 LY, .bool false, .bool so, .bool ep], 26)] wx ∧ wx.heap.size = B + 5))
     case first =>
      have hmr : pr.tmod 4 = 0 ↔ pr % 4 = 0 := ⟨fun h => Int.emod_eq_zero_of_dvd (Int.dvd_of_tmod_eq_zero h), fun h => Int.tmod_eq_zero_of_dvd (Int.dvd_of_emod_eq_zero h)⟩
      by_cases c4 : pr % 4 = 0
      · rw [if_pos c4] at hPR
        have k4 : (pr.tmod 4 == 0) = true := by simpa using hmr.2 c4
        have k5 := hmr.2 c4
        have hc := blk_cell (HM3.out.1.b 4 _ rfl) 5
        have hfz := HM3.out.1.fro (i := 4) rfl 5
        have HQ : Hid (MkW w B [((fmA x y ox oy nc dp sb sg rc so ep tx ty lv bw bh pr st od ly A n c), 29), (#[.int .i64 0, .int .i64 0, .int .i64 0, .int .i64 0, .slice none 0 0], 24), (#[.int .i64 0, .int .i64 0, .int .i64 0, .int .i64 0, .int .i64 0, .int .i64 0, .int .i64 0, .int .i64 0, .int .i64 0, .bool false, .bool false, .bool false], 26), (#[.int .i64 X, .int .i64 Y, .int .i64 OX, .int .i64 OY, .slice none 0 0], 24), (#[.int .i64 0, .int .i64 0, .int .i64 LV, .int .i64 BW, .int .i64 BH, .int .i64 15, .int .i64 ST, .int .i64 OD, .int .i64 LY, .bool false, .bool so, .bool ep], 26)] (wc.setCell ⟨B + 4, 5, none⟩ (.int .i64 15)) ∧ (wc.setCell ⟨B + 4, 5, none⟩ (.int .i64 15)).heap.size = B + 5) := Lib.hid ⟨HM3.out.1.set (i := 4) rfl rfl 5 _, by rw [size_setCell]; exact HM3.out.2⟩
        have HPR := Lib.hid hPR
        simp at hc
        clear hmr c4 hPR
        go_wp2_with fail
        go_meet
        rw [← HPR.out]
        exact HQ
      · rw [if_neg c4] at hPR
        have k5 : ¬ pr.tmod 4 = 0 := fun h => c4 (hmr.1 h)
        have k4 : (pr.tmod 4 == 0) = false := by simpa using k5
        have HPR := Lib.hid hPR
        clear hmr c4 hPR
        go_wp2_with fail
        go_meet
        rw [← HPR.out]
        exact HM3
     case rest =>
      have hPR2 : 1 ≤ PR ∧ PR ≤ 15 := by rw [← hPR]; split <;> omega
      have HPR := Lib.hid hPR
      clear hPR cpr
      have HM4 := Lib.hid hcut.out
      clear HM3 hcut
      go_upto_region 6 with fail
      go_cut [] from 77 to 94 (fun wx => Hid (MkW w B [((fmA x y ox oy nc dp sb sg rc so ep tx ty lv bw bh pr st od ly A n c), 29), (#[.int .i64 0, .int .i64 0, .int .i64 0, .int .i64 0, .slice none 0 0], 24), (#[.int .i64 0, .int .i64 0, .int .i64 0, .int .i64 0, .int .i64 0, .int .i64 0, .int .i64 0, .int .i64 0, .int .i64 0, .bool false, .bool false, .bool false], 26), (#[.int .i64 X, .int .i64 Y, .int .i64 OX, .int .i64 OY, .slice none 0 0], 24), (#[.int .i64 (OX + 1 + TXW), .int .i64 (OY + 1 + TYW), .int .i64 LV, .int .i64 BW, .int .i64 BH, .int .i64 PR, .int .i64 ST, .int .i64 OD, .int .i64 LY, .bool false, .bool so, .bool ep], 26)] wx ∧ wx.heap.size = B + 5))
      case first =>
       obtain ⟨VL, hVL⟩ : ∃ VL : Unit → List (Nat × Nat × Value), VL = fun z => [(0, 77, .pointer (some ⟨B + 3, 2, none⟩)), (1, 78, .int .i64 OX), (2, 79, .int .i64 (OX + 1)), (3, 80, .pointer (some ⟨B, 11, none⟩)), (4, 81, .int .i64 tx), (5, 82, .int .i64 (side : Int)), (6, 83, .int .i64 TXW), (7, 84, .int .i64 (OX + 1 + TXW)), (8, 85, .pointer (some ⟨B + 3, 3, none⟩)), (9, 86, .int .i64 OY), (10, 87, .int .i64 (OY + 1)), (11, 88, .pointer (some ⟨B, 12, none⟩)), (12, 89, .int .i64 ty), (13, 90, .int .i64 (side : Int)), (14, 91, .int .i64 TYW), (15, 92, .int .i64 (OY + 1 + TYW)), (16, 93, .pointer (some ⟨B + 4, 0, none⟩)), (18, 94, .pointer (some ⟨B + 4, 1, none⟩))] := ⟨_, rfl⟩
       have hok : ∀ z, manyOk 226 (VL z) := fun z => by rw [hVL]; exact ⟨by simp, by simp, by simp⟩
       have HVL := Lib.hid hVL
       have hvi : ∀ z, ∀ x ∈ VL z, x.1 < 20 := fun z => by rw [hVL]; simp
       have HOK := Lib.hid hok
       have HVI := Lib.hid hvi
       clear hVL hok hvi
       refine (wpIn_wide (n := 9)).1 (regionIn_many (N := 226) (w := _) VL (fun L z w' => (w'.heap[B]? = some (.cells (fmA x y ox oy nc dp sb sg rc so ep tx ty lv bw bh pr st od ly A n c) 29 (0, 0))) ∧ (bif L 19 then (MkW w B [((fmA x y ox oy nc dp sb sg rc so ep tx ty lv bw bh pr st od ly A n c), 29), (#[.int .i64 0, .int .i64 0, .int .i64 0, .int .i64 0, .slice none 0 0], 24), (#[.int .i64 0, .int .i64 0, .int .i64 0, .int .i64 0, .int .i64 0, .int .i64 0, .int .i64 0, .int .i64 0, .int .i64 0, .bool false, .bool false, .bool false], 26), (#[.int .i64 X, .int .i64 Y, .int .i64 OX, .int .i64 OY, .slice none 0 0], 24), (#[.int .i64 (OX + 1 + TXW), .int .i64 (OY + 1 + TYW), .int .i64 LV, .int .i64 BW, .int .i64 BH, .int .i64 PR, .int .i64 ST, .int .i64 OD, .int .i64 LY, .bool false, .bool so, .bool ep], 26)] w' ∧ w'.heap.size = B + 5) else (bif L 17 then (MkW w B [((fmA x y ox oy nc dp sb sg rc so ep tx ty lv bw bh pr st od ly A n c), 29), (#[.int .i64 0, .int .i64 0, .int .i64 0, .int .i64 0, .slice none 0 0], 24), (#[.int .i64 0, .int .i64 0, .int .i64 0, .int .i64 0, .int .i64 0, .int .i64 0, .int .i64 0, .int .i64 0, .int .i64 0, .bool false, .bool false, .bool false], 26), (#[.int .i64 X, .int .i64 Y, .int .i64 OX, .int .i64 OY, .slice none 0 0], 24), (#[.int .i64 (OX + 1 + TXW), .int .i64 0, .int .i64 LV, .int .i64 BW, .int .i64 BH, .int .i64 PR, .int .i64 ST, .int .i64 OD, .int .i64 LY, .bool false, .bool so, .bool ep], 26)] w' ∧ w'.heap.size = B + 5) else MkW w B [((fmA x y ox oy nc dp sb sg rc so ep tx ty lv bw bh pr st od ly A n c), 29), (#[.int .i64 0, .int .i64 0, .int .i64 0, .int .i64 0, .slice none 0 0], 24), (#[.int .i64 0, .int .i64 0, .int .i64 0, .int .i64 0, .int .i64 0, .int .i64 0, .int .i64 0, .int .i64 0, .int .i64 0, .bool false, .bool false, .bool false], 26), (#[.int .i64 X, .int .i64 Y, .int .i64 OX, .int .i64 OY, .slice none 0 0], 24), (#[.int .i64 0, .int .i64 0, .int .i64 LV, .int .i64 BW, .int .i64 BH, .int .i64 PR, .int .i64 ST, .int .i64 OD, .int .i64 LY, .bool false, .bool so, .bool ep], 26)] w' ∧ w'.heap.size = B + 5))) [(1, .int .i64 (side : Int)), (2, .pointer (some ⟨B, 0, none⟩)), (6, .pointer (some ⟨B + 3, 0, none⟩)), (7, .pointer (some ⟨B + 4, 0, none⟩))] (by kernel_rfl) (by kernel_rfl) rfl (by simp only [List.forall_mem_cons, List.not_mem_nil, false_imp_iff, implies_true, and_true]; exact ⟨rfl, rfl, rfl, rfl⟩) HVI.out () ?start ?step ?fin)
       case start => exact ⟨HM4.out.1.drew.b 0 _ rfl, HM4.out.1.drew, HM4.out.2⟩
       case step =>
         intro gg_ hgN hgF ii_ hii_ L z w' hph hs hu
         obtain ⟨hcm, hph⟩ := hph
         have hF1 := hgF (1, .int .i64 (side : Int)) (by simp)
         have hF2 := hgF (2, .pointer (some ⟨B, 0, none⟩)) (by simp)
         have hF6 := hgF (6, .pointer (some ⟨B + 3, 0, none⟩)) (by simp)
         have hF7 := hgF (7, .pointer (some ⟨B + 4, 0, none⟩)) (by simp)
         have hL := hu.1
         have hii_ : ii_ < 20 := hii_
         clear hgF
         obtain rfl | rfl | rfl | rfl | rfl | rfl | rfl | rfl | rfl | rfl | rfl | rfl | rfl | rfl | rfl | rfl | rfl | rfl | rfl | rfl := (by omega : ii_ = 0 ∨ ii_ = 1 ∨ ii_ = 2 ∨ ii_ = 3 ∨ ii_ = 4 ∨ ii_ = 5 ∨ ii_ = 6 ∨ ii_ = 7 ∨ ii_ = 8 ∨ ii_ = 9 ∨ ii_ = 10 ∨ ii_ = 11 ∨ ii_ = 12 ∨ ii_ = 13 ∨ ii_ = 14 ∨ ii_ = 15 ∨ ii_ = 16 ∨ ii_ = 17 ∨ ii_ = 18 ∨ ii_ = 19)
         · skip
           have n17 : L 17 = false := not_yet hL fun h => shut_at hs 17 0 (by kernel_rfl) (h)
           have n19 : L 19 = false := not_yet hL fun h => shut_at hs 19 0 (by kernel_rfl) (h)
           try simp only [n17, n19, hL, cond_true, cond_false] at hph
           have e6 : (many gg_ L (VL z))[6]?.getD undef = .pointer (some ⟨B + 3, 0, none⟩) := many_out hgN (HOK.out z).1 (by rw [HVL.out]; rfl) hF6
           refine opIn_run (v := .pointer (some ⟨B + 3, 2, none⟩)) (w' := w') rfl rfl (fun c h => by cases h) (fun _ => trivial) ?_ ⟨z, by exact many_put (HOK.out _) 0 77 _ (by rw [HVL.out]; simp) hL, hcm, by simp only [upd, n17, n19, hL, Nat.reduceBEq, cond_true, cond_false]; exact hph⟩
           go_simp
         · skip
           have y0 : L 0 = true := up_at hu 0 (by kernel_rfl)
           have n17 : L 17 = false := not_yet hL fun h => shut_at hs 17 1 (by kernel_rfl) (h)
           have n19 : L 19 = false := not_yet hL fun h => shut_at hs 19 1 (by kernel_rfl) (h)
           try simp only [y0, n17, n19, hL, cond_true, cond_false] at hph
           have hcell : w'.cell? ⟨B + 3, 2, none⟩ = some (.int .i64 OX) := by revert hph; cases L 17 <;> cases L 19 <;> (intro hph; exact blk_cell (hph.1.b 3 _ rfl) 2)
           have e77 : (many gg_ L (VL z))[77]?.getD undef = .pointer (some ⟨B + 3, 2, none⟩) := many_eval hgN (HOK.out z).1 (by rw [HVL.out]; simp [lookM, y0])
           refine opIn_run (v := .int .i64 OX) (w' := w') rfl rfl (fun c h => by cases h) (fun _ => trivial) ?_ ⟨z, by exact many_put (HOK.out _) 1 78 _ (by rw [HVL.out]; simp) hL, hcm, by simp only [upd, y0, n17, n19, hL, Nat.reduceBEq, cond_true, cond_false]; exact hph⟩
           go_simp
         · skip
           have y1 : L 1 = true := up_at hu 1 (by kernel_rfl)
           have n17 : L 17 = false := not_yet hL fun h => shut_at hs 17 2 (by kernel_rfl) (h)
           have n19 : L 19 = false := not_yet hL fun h => shut_at hs 19 2 (by kernel_rfl) (h)
           try simp only [y1, n17, n19, hL, cond_true, cond_false] at hph
           have q1 := SW.out.1
           have e78 : (many gg_ L (VL z))[78]?.getD undef = .int .i64 OX := many_eval hgN (HOK.out z).1 (by rw [HVL.out]; simp [lookM, y1])
           refine opIn_run (v := .int .i64 (OX + 1)) (w' := w') rfl rfl (fun c h => by cases h) (fun _ => trivial) ?_ ⟨z, by exact many_put (HOK.out _) 2 79 _ (by rw [HVL.out]; simp) hL, hcm, by simp only [upd, y1, n17, n19, hL, Nat.reduceBEq, cond_true, cond_false]; exact hph⟩
           go_simp
         · skip
           have n17 : L 17 = false := not_yet hL fun h => shut_at hs 17 3 (by kernel_rfl) (h)
           have n19 : L 19 = false := not_yet hL fun h => shut_at hs 19 3 (by kernel_rfl) (h)
           try simp only [n17, n19, hL, cond_true, cond_false] at hph
           have e2 : (many gg_ L (VL z))[2]?.getD undef = .pointer (some ⟨B, 0, none⟩) := many_out hgN (HOK.out z).1 (by rw [HVL.out]; rfl) hF2
           refine opIn_run (v := .pointer (some ⟨B, 11, none⟩)) (w' := w') rfl rfl (fun c h => by cases h) (fun _ => trivial) ?_ ⟨z, by exact many_put (HOK.out _) 3 80 _ (by rw [HVL.out]; simp) hL, hcm, by simp only [upd, n17, n19, hL, Nat.reduceBEq, cond_true, cond_false]; exact hph⟩
           go_simp
         · skip
           have y3 : L 3 = true := up_at hu 3 (by kernel_rfl)
           have n17 : L 17 = false := not_yet hL fun h => shut_at hs 17 4 (by kernel_rfl) (h)
           have n19 : L 19 = false := not_yet hL fun h => shut_at hs 19 4 (by kernel_rfl) (h)
           try simp only [y3, n17, n19, hL, cond_true, cond_false] at hph
           have hcell : w'.cell? ⟨B, 11, none⟩ = some (.int .i64 tx) := blk_cell hcm 11
           have e80 : (many gg_ L (VL z))[80]?.getD undef = .pointer (some ⟨B, 11, none⟩) := many_eval hgN (HOK.out z).1 (by rw [HVL.out]; simp [lookM, y3])
           refine opIn_run (v := .int .i64 tx) (w' := w') rfl rfl (fun c h => by cases h) (fun _ => trivial) ?_ ⟨z, by exact many_put (HOK.out _) 4 81 _ (by rw [HVL.out]; simp) hL, hcm, by simp only [upd, y3, n17, n19, hL, Nat.reduceBEq, cond_true, cond_false]; exact hph⟩
           go_simp
         · skip
           have n17 : L 17 = false := not_yet hL fun h => shut_at hs 17 5 (by kernel_rfl) (h)
           have n19 : L 19 = false := not_yet hL fun h => shut_at hs 19 5 (by kernel_rfl) (h)
           try simp only [n17, n19, hL, cond_true, cond_false] at hph
           have e1 : (many gg_ L (VL z))[1]?.getD undef = .int .i64 (side : Int) := many_out hgN (HOK.out z).1 (by rw [HVL.out]; rfl) hF1
           refine opIn_run (v := .int .i64 (side : Int)) (w' := w') rfl rfl (fun c h => by cases h) (fun _ => trivial) ?_ ⟨z, by exact many_put (HOK.out _) 5 82 _ (by rw [HVL.out]; simp) hL, hcm, by simp only [upd, n17, n19, hL, Nat.reduceBEq, cond_true, cond_false]; exact hph⟩
           go_simp
         · skip
           have y4 : L 4 = true := up_at hu 4 (by kernel_rfl)
           have y5 : L 5 = true := up_at hu 5 (by kernel_rfl)
           have n17 : L 17 = false := not_yet hL fun h => shut_at hs 17 6 (by kernel_rfl) (h)
           have n19 : L 19 = false := not_yet hL fun h => shut_at hs 19 6 (by kernel_rfl) (h)
           try simp only [y4, y5, n17, n19, hL, cond_true, cond_false] at hph
           have e81 : (many gg_ L (VL z))[81]?.getD undef = .int .i64 tx := many_eval hgN (HOK.out z).1 (by rw [HVL.out]; simp [lookM, y4])
           have e82 : (many gg_ L (VL z))[82]?.getD undef = .int .i64 (side : Int) := many_eval hgN (HOK.out z).1 (by rw [HVL.out]; simp [lookM, y5])
           refine opIn_call (f := 17) (args := #[.int .i64 tx, .int .i64 (side : Int)]) (w' := w') rfl rfl (fun c h => by cases h) (fun _ => trivial) rfl (by go_simp) ((callsIn_wide.2 (Wb.out w')).mono ?_)
           rintro e w2 ⟨rfl, rfl⟩
           exact ⟨_, rfl, z, by exact many_put (HOK.out _) 6 83 _ (by rw [HVL.out]; simp) hL, hcm, by simp only [upd, y4, y5, n17, n19, hL, Nat.reduceBEq, cond_true, cond_false]; exact hph⟩
         · skip
           have y2 : L 2 = true := up_at hu 2 (by kernel_rfl)
           have y6 : L 6 = true := up_at hu 6 (by kernel_rfl)
           have n17 : L 17 = false := not_yet hL fun h => shut_at hs 17 7 (by kernel_rfl) (h)
           have n19 : L 19 = false := not_yet hL fun h => shut_at hs 19 7 (by kernel_rfl) (h)
           try simp only [y2, y6, n17, n19, hL, cond_true, cond_false] at hph
           have q1 := SW.out.2.2.2.2.2.2.2.2.1
           have e79 : (many gg_ L (VL z))[79]?.getD undef = .int .i64 (OX + 1) := many_eval hgN (HOK.out z).1 (by rw [HVL.out]; simp [lookM, y2])
           have e83 : (many gg_ L (VL z))[83]?.getD undef = .int .i64 TXW := many_eval hgN (HOK.out z).1 (by rw [HVL.out]; simp [lookM, y6])
           refine opIn_run (v := .int .i64 (OX + 1 + TXW)) (w' := w') rfl rfl (fun c h => by cases h) (fun _ => trivial) ?_ ⟨z, by exact many_put (HOK.out _) 7 84 _ (by rw [HVL.out]; simp) hL, hcm, by simp only [upd, y2, y6, n17, n19, hL, Nat.reduceBEq, cond_true, cond_false]; exact hph⟩
           go_simp
         · skip
           have n19 : L 19 = false := not_yet hL fun h => shut_at hs 19 8 (by kernel_rfl) (h)
           try simp only [n19, hL, cond_true, cond_false] at hph
           have e6 : (many gg_ L (VL z))[6]?.getD undef = .pointer (some ⟨B + 3, 0, none⟩) := many_out hgN (HOK.out z).1 (by rw [HVL.out]; rfl) hF6
           refine opIn_run (v := .pointer (some ⟨B + 3, 3, none⟩)) (w' := w') rfl rfl (fun c h => by cases h) (fun _ => trivial) ?_ ⟨z, by exact many_put (HOK.out _) 8 85 _ (by rw [HVL.out]; simp) hL, hcm, by simp only [upd, n19, hL, Nat.reduceBEq, cond_true, cond_false]; exact hph⟩
           go_simp
         · skip
           have y8 : L 8 = true := up_at hu 8 (by kernel_rfl)
           have n19 : L 19 = false := not_yet hL fun h => shut_at hs 19 9 (by kernel_rfl) (h)
           try simp only [y8, n19, hL, cond_true, cond_false] at hph
           have hcell : w'.cell? ⟨B + 3, 3, none⟩ = some (.int .i64 OY) := by revert hph; cases L 17 <;> cases L 19 <;> (intro hph; exact blk_cell (hph.1.b 3 _ rfl) 3)
           have e85 : (many gg_ L (VL z))[85]?.getD undef = .pointer (some ⟨B + 3, 3, none⟩) := many_eval hgN (HOK.out z).1 (by rw [HVL.out]; simp [lookM, y8])
           refine opIn_run (v := .int .i64 OY) (w' := w') rfl rfl (fun c h => by cases h) (fun _ => trivial) ?_ ⟨z, by exact many_put (HOK.out _) 9 86 _ (by rw [HVL.out]; simp) hL, hcm, by simp only [upd, y8, n19, hL, Nat.reduceBEq, cond_true, cond_false]; exact hph⟩
           go_simp
         · skip
           have y9 : L 9 = true := up_at hu 9 (by kernel_rfl)
           have n19 : L 19 = false := not_yet hL fun h => shut_at hs 19 10 (by kernel_rfl) (h)
           try simp only [y9, n19, hL, cond_true, cond_false] at hph
           have q1 := SW.out.2.1
           have e86 : (many gg_ L (VL z))[86]?.getD undef = .int .i64 OY := many_eval hgN (HOK.out z).1 (by rw [HVL.out]; simp [lookM, y9])
           refine opIn_run (v := .int .i64 (OY + 1)) (w' := w') rfl rfl (fun c h => by cases h) (fun _ => trivial) ?_ ⟨z, by exact many_put (HOK.out _) 10 87 _ (by rw [HVL.out]; simp) hL, hcm, by simp only [upd, y9, n19, hL, Nat.reduceBEq, cond_true, cond_false]; exact hph⟩
           go_simp
         · skip
           have n17 : L 17 = false := not_yet hL fun h => shut_at hs 12 11 (by kernel_rfl) (shut_at hs 14 12 (by kernel_rfl) (shut_at hs 17 14 (by kernel_rfl) (h)))
           have n19 : L 19 = false := not_yet hL fun h => shut_at hs 19 11 (by kernel_rfl) (h)
           try simp only [n17, n19, hL, cond_true, cond_false] at hph
           have e2 : (many gg_ L (VL z))[2]?.getD undef = .pointer (some ⟨B, 0, none⟩) := many_out hgN (HOK.out z).1 (by rw [HVL.out]; rfl) hF2
           refine opIn_run (v := .pointer (some ⟨B, 12, none⟩)) (w' := w') rfl rfl (fun c h => by cases h) (fun _ => trivial) ?_ ⟨z, by exact many_put (HOK.out _) 11 88 _ (by rw [HVL.out]; simp) hL, hcm, by simp only [upd, n17, n19, hL, Nat.reduceBEq, cond_true, cond_false]; exact hph⟩
           go_simp
         · skip
           have y11 : L 11 = true := up_at hu 11 (by kernel_rfl)
           have n17 : L 17 = false := not_yet hL fun h => shut_at hs 14 12 (by kernel_rfl) (shut_at hs 17 14 (by kernel_rfl) (h))
           have n19 : L 19 = false := not_yet hL fun h => shut_at hs 19 12 (by kernel_rfl) (h)
           try simp only [y11, n17, n19, hL, cond_true, cond_false] at hph
           have hcell : w'.cell? ⟨B, 12, none⟩ = some (.int .i64 ty) := blk_cell hcm 12
           have e88 : (many gg_ L (VL z))[88]?.getD undef = .pointer (some ⟨B, 12, none⟩) := many_eval hgN (HOK.out z).1 (by rw [HVL.out]; simp [lookM, y11])
           refine opIn_run (v := .int .i64 ty) (w' := w') rfl rfl (fun c h => by cases h) (fun _ => trivial) ?_ ⟨z, by exact many_put (HOK.out _) 12 89 _ (by rw [HVL.out]; simp) hL, hcm, by simp only [upd, y11, n17, n19, hL, Nat.reduceBEq, cond_true, cond_false]; exact hph⟩
           go_simp
         · skip
           have n17 : L 17 = false := not_yet hL fun h => shut_at hs 14 13 (by kernel_rfl) (shut_at hs 17 14 (by kernel_rfl) (h))
           have n19 : L 19 = false := not_yet hL fun h => shut_at hs 19 13 (by kernel_rfl) (h)
           try simp only [n17, n19, hL, cond_true, cond_false] at hph
           have e1 : (many gg_ L (VL z))[1]?.getD undef = .int .i64 (side : Int) := many_out hgN (HOK.out z).1 (by rw [HVL.out]; rfl) hF1
           refine opIn_run (v := .int .i64 (side : Int)) (w' := w') rfl rfl (fun c h => by cases h) (fun _ => trivial) ?_ ⟨z, by exact many_put (HOK.out _) 13 90 _ (by rw [HVL.out]; simp) hL, hcm, by simp only [upd, n17, n19, hL, Nat.reduceBEq, cond_true, cond_false]; exact hph⟩
           go_simp
         · skip
           have y6 : L 6 = true := up_at hu 6 (by kernel_rfl)
           have y12 : L 12 = true := up_at hu 12 (by kernel_rfl)
           have y13 : L 13 = true := up_at hu 13 (by kernel_rfl)
           have n17 : L 17 = false := not_yet hL fun h => shut_at hs 17 14 (by kernel_rfl) (h)
           have n19 : L 19 = false := not_yet hL fun h => shut_at hs 19 14 (by kernel_rfl) (h)
           try simp only [y6, y12, y13, n17, n19, hL, cond_true, cond_false] at hph
           have e89 : (many gg_ L (VL z))[89]?.getD undef = .int .i64 ty := many_eval hgN (HOK.out z).1 (by rw [HVL.out]; simp [lookM, y12])
           have e90 : (many gg_ L (VL z))[90]?.getD undef = .int .i64 (side : Int) := many_eval hgN (HOK.out z).1 (by rw [HVL.out]; simp [lookM, y13])
           refine opIn_call (f := 17) (args := #[.int .i64 ty, .int .i64 (side : Int)]) (w' := w') rfl rfl (fun c h => by cases h) (fun _ => trivial) rfl (by go_simp) ((callsIn_wide.2 (Wc.out w')).mono ?_)
           rintro e w2 ⟨rfl, rfl⟩
           exact ⟨_, rfl, z, by exact many_put (HOK.out _) 14 91 _ (by rw [HVL.out]; simp) hL, hcm, by simp only [upd, y6, y12, y13, n17, n19, hL, Nat.reduceBEq, cond_true, cond_false]; exact hph⟩
         · skip
           have y10 : L 10 = true := up_at hu 10 (by kernel_rfl)
           have y14 : L 14 = true := up_at hu 14 (by kernel_rfl)
           have n19 : L 19 = false := not_yet hL fun h => shut_at hs 19 15 (by kernel_rfl) (h)
           try simp only [y10, y14, n19, hL, cond_true, cond_false] at hph
           have q1 := SW.out.2.2.2.2.2.2.2.2.2
           have e87 : (many gg_ L (VL z))[87]?.getD undef = .int .i64 (OY + 1) := many_eval hgN (HOK.out z).1 (by rw [HVL.out]; simp [lookM, y10])
           have e91 : (many gg_ L (VL z))[91]?.getD undef = .int .i64 TYW := many_eval hgN (HOK.out z).1 (by rw [HVL.out]; simp [lookM, y14])
           refine opIn_run (v := .int .i64 (OY + 1 + TYW)) (w' := w') rfl rfl (fun c h => by cases h) (fun _ => trivial) ?_ ⟨z, by exact many_put (HOK.out _) 15 92 _ (by rw [HVL.out]; simp) hL, hcm, by simp only [upd, y10, y14, n19, hL, Nat.reduceBEq, cond_true, cond_false]; exact hph⟩
           go_simp
         · skip
           have y0 : L 0 = true := up_at hu 0 (by kernel_rfl)
           have y1 : L 1 = true := up_at hu 1 (by kernel_rfl)
           have y2 : L 2 = true := up_at hu 2 (by kernel_rfl)
           have y3 : L 3 = true := up_at hu 3 (by kernel_rfl)
           have y4 : L 4 = true := up_at hu 4 (by kernel_rfl)
           have y5 : L 5 = true := up_at hu 5 (by kernel_rfl)
           have y6 : L 6 = true := up_at hu 6 (by kernel_rfl)
           have y7 : L 7 = true := up_at hu 7 (by kernel_rfl)
           have n17 : L 17 = false := not_yet hL fun h => shut_at hs 17 16 (by kernel_rfl) (h)
           have n19 : L 19 = false := not_yet hL fun h => shut_at hs 19 16 (by kernel_rfl) (h)
           try simp only [y0, y1, y2, y3, y4, y5, y6, y7, n17, n19, hL, cond_true, cond_false] at hph
           have e7 : (many gg_ L (VL z))[7]?.getD undef = .pointer (some ⟨B + 4, 0, none⟩) := many_out hgN (HOK.out z).1 (by rw [HVL.out]; rfl) hF7
           refine opIn_run (v := .pointer (some ⟨B + 4, 0, none⟩)) (w' := w') rfl rfl (fun c h => by cases h) (fun _ => trivial) ?_ ⟨z, by exact many_put (HOK.out _) 16 93 _ (by rw [HVL.out]; simp) hL, hcm, by simp only [upd, y0, y1, y2, y3, y4, y5, y6, y7, n17, n19, hL, Nat.reduceBEq, cond_true, cond_false]; exact hph⟩
           go_simp
         · skip
           have y0 : L 0 = true := up_at hu 0 (by kernel_rfl)
           have y1 : L 1 = true := up_at hu 1 (by kernel_rfl)
           have y2 : L 2 = true := up_at hu 2 (by kernel_rfl)
           have y3 : L 3 = true := up_at hu 3 (by kernel_rfl)
           have y4 : L 4 = true := up_at hu 4 (by kernel_rfl)
           have y5 : L 5 = true := up_at hu 5 (by kernel_rfl)
           have y6 : L 6 = true := up_at hu 6 (by kernel_rfl)
           have y7 : L 7 = true := up_at hu 7 (by kernel_rfl)
           have y14 : L 14 = true := up_at hu 14 (by kernel_rfl)
           have y16 : L 16 = true := up_at hu 16 (by kernel_rfl)
           have n19 : L 19 = false := not_yet hL fun h => shut_at hs 19 17 (by kernel_rfl) (h)
           try simp only [y0, y1, y2, y3, y4, y5, y6, y7, y14, y16, n19, hL, cond_true, cond_false] at hph
           have hc := blk_cell (hph.1.b 4 _ rfl) 0
           have hfz := hph.1.fro (i := 4) rfl 0
           have HPH := Lib.hid hph
           have e84 : (many gg_ L (VL z))[84]?.getD undef = .int .i64 (OX + 1 + TXW) := many_eval hgN (HOK.out z).1 (by rw [HVL.out]; simp [lookM, y7])
           have e93 : (many gg_ L (VL z))[93]?.getD undef = .pointer (some ⟨B + 4, 0, none⟩) := many_eval hgN (HOK.out z).1 (by rw [HVL.out]; simp [lookM, y16])
           refine opIn_skip (w' := w'.setCell ⟨B + 4, 0, none⟩ (.int .i64 (OX + 1 + TXW))) rfl rfl (fun c h => by cases h) (fun _ => trivial) ?_ ⟨z, by exact many_none 17 _ (by rw [HVL.out]; simp), ((hph.1.set (i := 4) rfl rfl 0 (.int .i64 (OX + 1 + TXW))).b 0 _ rfl), by simp only [upd, y0, y1, y2, y3, y4, y5, y6, y7, y14, y16, n19, hL, Nat.reduceBEq, cond_true, cond_false]; exact ⟨hph.1.set (i := 4) rfl rfl 0 _, by rw [size_setCell]; exact hph.2⟩⟩
           clear hph hcm
           simp at hc
           go_simp
         · skip
           have y0 : L 0 = true := up_at hu 0 (by kernel_rfl)
           have y1 : L 1 = true := up_at hu 1 (by kernel_rfl)
           have y2 : L 2 = true := up_at hu 2 (by kernel_rfl)
           have y3 : L 3 = true := up_at hu 3 (by kernel_rfl)
           have y4 : L 4 = true := up_at hu 4 (by kernel_rfl)
           have y5 : L 5 = true := up_at hu 5 (by kernel_rfl)
           have y6 : L 6 = true := up_at hu 6 (by kernel_rfl)
           have y7 : L 7 = true := up_at hu 7 (by kernel_rfl)
           have y8 : L 8 = true := up_at hu 8 (by kernel_rfl)
           have y9 : L 9 = true := up_at hu 9 (by kernel_rfl)
           have y10 : L 10 = true := up_at hu 10 (by kernel_rfl)
           have y11 : L 11 = true := up_at hu 11 (by kernel_rfl)
           have y12 : L 12 = true := up_at hu 12 (by kernel_rfl)
           have y13 : L 13 = true := up_at hu 13 (by kernel_rfl)
           have y14 : L 14 = true := up_at hu 14 (by kernel_rfl)
           have y15 : L 15 = true := up_at hu 15 (by kernel_rfl)
           have y16 : L 16 = true := up_at hu 16 (by kernel_rfl)
           have y17 : L 17 = true := up_at hu 17 (by kernel_rfl)
           have n19 : L 19 = false := not_yet hL fun h => shut_at hs 19 18 (by kernel_rfl) (h)
           try simp only [y0, y1, y2, y3, y4, y5, y6, y7, y8, y9, y10, y11, y12, y13, y14, y15, y16, y17, n19, hL, cond_true, cond_false] at hph
           have e7 : (many gg_ L (VL z))[7]?.getD undef = .pointer (some ⟨B + 4, 0, none⟩) := many_out hgN (HOK.out z).1 (by rw [HVL.out]; rfl) hF7
           refine opIn_run (v := .pointer (some ⟨B + 4, 1, none⟩)) (w' := w') rfl rfl (fun c h => by cases h) (fun _ => trivial) ?_ ⟨z, by exact many_put (HOK.out _) 18 94 _ (by rw [HVL.out]; simp) hL, hcm, by simp only [upd, y0, y1, y2, y3, y4, y5, y6, y7, y8, y9, y10, y11, y12, y13, y14, y15, y16, y17, n19, hL, Nat.reduceBEq, cond_true, cond_false]; exact hph⟩
           go_simp
         · skip
           have y0 : L 0 = true := up_at hu 0 (by kernel_rfl)
           have y1 : L 1 = true := up_at hu 1 (by kernel_rfl)
           have y2 : L 2 = true := up_at hu 2 (by kernel_rfl)
           have y3 : L 3 = true := up_at hu 3 (by kernel_rfl)
           have y4 : L 4 = true := up_at hu 4 (by kernel_rfl)
           have y5 : L 5 = true := up_at hu 5 (by kernel_rfl)
           have y6 : L 6 = true := up_at hu 6 (by kernel_rfl)
           have y7 : L 7 = true := up_at hu 7 (by kernel_rfl)
           have y8 : L 8 = true := up_at hu 8 (by kernel_rfl)
           have y9 : L 9 = true := up_at hu 9 (by kernel_rfl)
           have y10 : L 10 = true := up_at hu 10 (by kernel_rfl)
           have y11 : L 11 = true := up_at hu 11 (by kernel_rfl)
           have y12 : L 12 = true := up_at hu 12 (by kernel_rfl)
           have y13 : L 13 = true := up_at hu 13 (by kernel_rfl)
           have y14 : L 14 = true := up_at hu 14 (by kernel_rfl)
           have y15 : L 15 = true := up_at hu 15 (by kernel_rfl)
           have y16 : L 16 = true := up_at hu 16 (by kernel_rfl)
           have y17 : L 17 = true := up_at hu 17 (by kernel_rfl)
           have y18 : L 18 = true := up_at hu 18 (by kernel_rfl)
           try simp only [y0, y1, y2, y3, y4, y5, y6, y7, y8, y9, y10, y11, y12, y13, y14, y15, y16, y17, y18, hL, cond_true, cond_false] at hph
           have hc := blk_cell (hph.1.b 4 _ rfl) 1
           have hfz := hph.1.fro (i := 4) rfl 1
           have HPH := Lib.hid hph
           have e92 : (many gg_ L (VL z))[92]?.getD undef = .int .i64 (OY + 1 + TYW) := many_eval hgN (HOK.out z).1 (by rw [HVL.out]; simp [lookM, y15])
           have e94 : (many gg_ L (VL z))[94]?.getD undef = .pointer (some ⟨B + 4, 1, none⟩) := many_eval hgN (HOK.out z).1 (by rw [HVL.out]; simp [lookM, y18])
           refine opIn_skip (w' := w'.setCell ⟨B + 4, 1, none⟩ (.int .i64 (OY + 1 + TYW))) rfl rfl (fun c h => by cases h) (fun _ => trivial) ?_ ⟨z, by exact many_none 19 _ (by rw [HVL.out]; simp), ((hph.1.set (i := 4) rfl rfl 1 (.int .i64 (OY + 1 + TYW))).b 0 _ rfl), by simp only [upd, y0, y1, y2, y3, y4, y5, y6, y7, y8, y9, y10, y11, y12, y13, y14, y15, y16, y17, y18, hL, Nat.reduceBEq, cond_true, cond_false]; exact ⟨hph.1.set (i := 4) rfl rfl 1 _, by rw [size_setCell]; exact hph.2⟩⟩
           clear hph hcm
           simp at hc
           go_simp
       case fin =>
         intro L z w' hall hph
         obtain ⟨hcm, hph⟩ := hph
         have l17 := hall 17 (by decide)
         have l19 := hall 19 (by decide)
         simp only [l17, l19, cond_true] at hph
         clear l17 l19
         rw [HVL.out]
         dsimp only [manyL, List.set_cons_zero, List.set_cons_succ]
         clear hall HVL HOK HVI
         have HP := Lib.hid hph
         clear hph hcm
         go_wp2_with fail
         go_meet
         exact HP
      case rest =>
       have HM6 := Lib.hid hcut.out
       clear HM4 hcut W0 W1 W2 W3 W4 W5 W6 W7 W8 W9 Wa Wb Wc SW
       have hFT := HQQ.out.1
       have HFT := Lib.hid hFT
       have hX1 : 1 ≤ X ∧ 1 ≤ Y := by omega
       clear hFT
       go_upto_block 0 with fail
       go_cut [] from 95 to 106 (fun wx => Hid (MkW w B [((fmA x y ox oy nc dp sb sg rc so ep tx ty lv bw bh pr st od ly A n c), 29), (#[.int .i64 0, .int .i64 0, .int .i64 0, .int .i64 0, .slice none 0 0], 24), (#[.int .i64 0, .int .i64 0, .int .i64 0, .int .i64 0, .int .i64 0, .int .i64 0, .int .i64 0, .int .i64 0, .int .i64 0, .bool false, .bool false, .bool false], 26), (#[.int .i64 X, .int .i64 Y, .int .i64 OX, .int .i64 OY, .slice none 0 0], 24), (#[.int .i64 FTX, .int .i64 FTY, .int .i64 LV, .int .i64 BW, .int .i64 BH, .int .i64 PR, .int .i64 ST, .int .i64 OD, .int .i64 LY, .bool false, .bool so, .bool ep], 26)] wx) ∧ (1 ≤ FTX ∧ FTX ≤ 832) ∧ (1 ≤ FTY ∧ FTY ≤ 832) ∧ Hid (cntT X Y FTX FTY ≤ 6))
       case first =>
        go_wp2_with fail
        go_loopg [] 5 (fun g wr => ∃ vx vy, Hid (dblT X Y g vx vy = (FTX, FTY)) ∧ Hid (DblI X Y g vx vy) ∧ Hid (MkW w B [((fmA x y ox oy nc dp sb sg rc so ep tx ty lv bw bh pr st od ly A n c), 29), (#[.int .i64 0, .int .i64 0, .int .i64 0, .int .i64 0, .slice none 0 0], 24), (#[.int .i64 0, .int .i64 0, .int .i64 0, .int .i64 0, .int .i64 0, .int .i64 0, .int .i64 0, .int .i64 0, .int .i64 0, .bool false, .bool false, .bool false], 26), (#[.int .i64 X, .int .i64 Y, .int .i64 OX, .int .i64 OY, .slice none 0 0], 24), (#[.int .i64 vx, .int .i64 vy, .int .i64 LV, .int .i64 BW, .int .i64 BH, .int .i64 PR, .int .i64 ST, .int .i64 OD, .int .i64 LY, .bool false, .bool so, .bool ep], 26)] wr))
        case atStart =>
          exact ⟨_, _, HFT, Lib.hid ⟨⟨by rw [show ((2 ^ 5 : Nat) : Int) = 32 from rfl]; omega, by rw [show ((2 ^ 5 : Nat) : Int) = 32 from rfl]; omega⟩, ⟨by rw [show ((2 ^ 5 : Nat) : Int) = 32 from rfl]; omega, by rw [show ((2 ^ 5 : Nat) : Int) = 32 from rfl]; omega⟩, by omega⟩, Lib.hid HM6.out.1⟩
        case round =>
          obtain ⟨ux, uy, HD, HI, HW⟩ := hrel
          have hub := HI.out.bd
          have b1 := ceil_bd X ux (by omega) (by omega)
          have b2 := ceil_bd Y uy (by omega) (by omega)
          obtain ⟨q, hq⟩ : ∃ q : Nat, cntT X Y ux uy = q := ⟨_, rfl⟩
          have CT : Hid (∀ u, Calls Try.prog 43 #[.agg #[.int .i64 X, .int .i64 Y, .int .i64 OX, .int .i64 OY, .slice none 0 0], .agg #[.int .i64 ux, .int .i64 uy, .int .i64 LV, .int .i64 BW, .int .i64 BH, .int .i64 PR, .int .i64 ST, .int .i64 OD, .int .i64 LY, .bool false, .bool so, .bool ep]] u fun e w' => e = .returned (.int .i64 (q : Int)) ∧ Below u.heap.size u w') := Lib.hid fun u => by
            rw [← hq]
            exact ltiles_any X Y OX OY none 0 0 ux uy LV BW BH PR ST OD LY false so ep (ceilF X ux).toNat (ceilF Y uy).toNat u (by omega) (by omega) (by omega) (by omega) (by omega) (by omega)
          have HQ := Lib.hid hq
          have HBI := Lib.hid (HW.out.b 3 _ rfl)
          have HBP := Lib.hid (HW.out.b 4 _ rfl)
          have i0 : wr.cell? ⟨B + 3, 0, none⟩ = some (.int .i64 X) := blk_cell HBI.out 0
          have i1 : wr.cell? ⟨B + 3, 1, none⟩ = some (.int .i64 Y) := blk_cell HBI.out 1
          have i2 : wr.cell? ⟨B + 3, 2, none⟩ = some (.int .i64 OX) := blk_cell HBI.out 2
          have i3 : wr.cell? ⟨B + 3, 3, none⟩ = some (.int .i64 OY) := blk_cell HBI.out 3
          have i4 : wr.cell? ⟨B + 3, 4, none⟩ = some (.slice none 0 0) := blk_cell HBI.out 4
          have j0 : wr.cell? ⟨B + 4, 0, none⟩ = some (.int .i64 ux) := blk_cell HBP.out 0
          have j1 : wr.cell? ⟨B + 4, 1, none⟩ = some (.int .i64 uy) := blk_cell HBP.out 1
          have j2 : wr.cell? ⟨B + 4, 2, none⟩ = some (.int .i64 LV) := blk_cell HBP.out 2
          have j3 : wr.cell? ⟨B + 4, 3, none⟩ = some (.int .i64 BW) := blk_cell HBP.out 3
          have j4 : wr.cell? ⟨B + 4, 4, none⟩ = some (.int .i64 BH) := blk_cell HBP.out 4
          have j5 : wr.cell? ⟨B + 4, 5, none⟩ = some (.int .i64 PR) := blk_cell HBP.out 5
          have j6 : wr.cell? ⟨B + 4, 6, none⟩ = some (.int .i64 ST) := blk_cell HBP.out 6
          have j7 : wr.cell? ⟨B + 4, 7, none⟩ = some (.int .i64 OD) := blk_cell HBP.out 7
          have j8 : wr.cell? ⟨B + 4, 8, none⟩ = some (.int .i64 LY) := blk_cell HBP.out 8
          have j9 : wr.cell? ⟨B + 4, 9, none⟩ = some (.bool false) := blk_cell HBP.out 9
          have j10 : wr.cell? ⟨B + 4, 10, none⟩ = some (.bool so) := blk_cell HBP.out 10
          have j11 : wr.cell? ⟨B + 4, 11, none⟩ = some (.bool ep) := blk_cell HBP.out 11
          clear hq b1 b2 HM6 HX hOX hOY hXW hYW hLV hBW0 hBH0 hPR0 hST hOD hLY0 hTXW hTYW hBW hBH hPR1 hLY hs HPR hPR2
          go_wp2_with fail
          refine (CT.out wr).mono ?_
          rintro e w2 ⟨rfl, hb⟩
          have HW2 := Lib.hid (HW.out.keep hb)
          clear hb i0 i1 i2 i3 i4 j0 j1 j2 j3 j4 j5 j6 j7 j8 j9 j10 j11 HBI HBP CT HW
          by_cases hc : 6 < q
          · obtain ⟨k, rfl, HI2, hd2⟩ := HI.out.step (by omega) (by omega) (by rw [HQ.out]; exact hc)
            have HD2 : Hid (dblT X Y k (2 * ux) (2 * uy) = (FTX, FTY)) := Lib.hid (hd2.symm.trans HD.out)
            have HI3 := Lib.hid HI2
            have t1 : (6 : Int) < (q : Int) := by omega
            have s1 : wrap64 (2 * ux) = 2 * ux := w64_in (by omega)
            have s2 : wrap64 (2 * uy) = 2 * uy := w64_in (by omega)
            have j0 : w2.cell? ⟨B + 4, 0, none⟩ = some (.int .i64 ux) := blk_cell (HW2.out.b 4 _ rfl) 0
            have j1 : w2.cell? ⟨B + 4, 1, none⟩ = some (.int .i64 uy) := blk_cell (HW2.out.b 4 _ rfl) 1
            have f0 := HW2.out.fro (i := 4) rfl 0
            have f1 := HW2.out.fro (i := 4) rfl 1
            have HW3 : Hid (MkW w B [((fmA x y ox oy nc dp sb sg rc so ep tx ty lv bw bh pr st od ly A n c), 29), (#[.int .i64 0, .int .i64 0, .int .i64 0, .int .i64 0, .slice none 0 0], 24), (#[.int .i64 0, .int .i64 0, .int .i64 0, .int .i64 0, .int .i64 0, .int .i64 0, .int .i64 0, .int .i64 0, .int .i64 0, .bool false, .bool false, .bool false], 26), (#[.int .i64 X, .int .i64 Y, .int .i64 OX, .int .i64 OY, .slice none 0 0], 24), (#[.int .i64 (2 * ux), .int .i64 (2 * uy), .int .i64 LV, .int .i64 BW, .int .i64 BH, .int .i64 PR, .int .i64 ST, .int .i64 OD, .int .i64 LY, .bool false, .bool so, .bool ep], 26)] ((w2.setCell ⟨B + 4, 0, none⟩ (.int .i64 (2 * ux))).setCell ⟨B + 4, 1, none⟩ (.int .i64 (2 * uy)))) := Lib.hid ((HW2.out.set (i := 4) rfl rfl 0 (.int .i64 (2 * ux))).set (i := 4) rfl rfl 1 (.int .i64 (2 * uy)))
            clear HI2 hd2 HD HI HQ
            go_wp2
            go_roundg k
            case measure => omega
            case rel => exact ⟨2 * ux, 2 * uy, HD2, HI3, HW3⟩
          · have hd := HD.out
            rw [dbl_end (by rw [HQ.out]; exact hc)] at hd
            obtain ⟨rfl, rfl⟩ := Prod.mk.inj hd
            have HQ2 : Hid (cntT X Y ux uy ≤ 6) := Lib.hid (by rw [HQ.out]; omega)
            have t1 : ¬ (6 : Int) < (q : Int) := by omega
            clear hd HD HI HQ
            go_wp2
            go_meet
            exact ⟨HW2, hub.1, hub.2, HQ2⟩
       case rest =>
        obtain ⟨HM7, hFX, hFY, HCN⟩ := hcut
        clear HM6
        have HBF := Lib.hid (HM7.out.b 0 _ rfl)
        have c5 : wc.cell? ⟨B, 5, none⟩ = some (.int .i64 dp) := blk_cell HBF.out 5
        have c4 : wc.cell? ⟨B, 4, none⟩ = some (.int .i64 nc) := blk_cell HBF.out 4
        go_wp2_with fail
        refine (WD.out _).mono ?_
        rintro e w2 ⟨rfl, rfl⟩
        go_wp2_with fail
        refine (WN.out _).mono ?_
        rintro e w2 ⟨rfl, rfl⟩
        clear WD WN
        have HM8 : Hid (MkW w B [((fmA x y ox oy nc dp sb sg rc so ep tx ty lv bw bh pr st od ly A n c), 29), (#[.int .i64 0, .int .i64 0, .int .i64 0, .int .i64 0, .slice none 0 0], 24), (#[.int .i64 0, .int .i64 0, .int .i64 0, .int .i64 0, .int .i64 0, .int .i64 0, .int .i64 0, .int .i64 0, .int .i64 0, .bool false, .bool false, .bool false], 26), (#[.int .i64 X, .int .i64 Y, .int .i64 OX, .int .i64 OY, .slice none 0 0], 24), (#[.int .i64 FTX, .int .i64 FTY, .int .i64 LV, .int .i64 BW, .int .i64 BH, .int .i64 PR, .int .i64 ST, .int .i64 OD, .int .i64 LY, .bool false, .bool so, .bool ep], 26)] wc) := HM7
        clear c5 c4 HM7 HBF
        go_wp2_with fail
        rw [HY.out.2.1, HY.out.2.2.2]
        go_loopg [10] N (fun g v wr => ∃ (j : Nat) (V : Value) (cs : List Cp), j + g = N ∧ v = .int .i64 (j : Int) ∧ Hid (cs.length = j) ∧ Hid (MkW w B [((fmA x y ox oy nc dp sb sg rc so ep tx ty lv bw bh pr st od ly A n c), 29), (#[.int .i64 0, .int .i64 0, .int .i64 0, .int .i64 0, .slice none 0 0], 24), (#[.int .i64 0, .int .i64 0, .int .i64 0, .int .i64 0, .int .i64 0, .int .i64 0, .int .i64 0, .int .i64 0, .int .i64 0, .bool false, .bool false, .bool false], 26), (#[.int .i64 X, .int .i64 Y, .int .i64 OX, .int .i64 OY, V], 24), (#[.int .i64 FTX, .int .i64 FTY, .int .i64 LV, .int .i64 BW, .int .i64 BH, .int .i64 PR, .int .i64 ST, .int .i64 OD, .int .i64 LY, .bool false, .bool so, .bool ep], 26)] wr) ∧ Hid (CRow (B + 5) wr V cs) ∧ Hid (∀ i c, cs[i]? = some c → KeyIs X Y OX OY sb DP sg i c))
        case atStart => exact ⟨0, _, [], by omega, rfl, Lib.hid rfl, HM8, Lib.hid (CRow.nil _ _), Lib.hid (fun i c e => by simp at e)⟩
        case round =>
          obtain ⟨j, V, cs, hjg, rfl, HCL, HW, HC, HK⟩ := hrel
          clear HM8
          obtain ⟨w9, hw9⟩ : ∃ w9, w9 = wr := ⟨wr, rfl⟩
          subst hw9
          by_cases hlt : j < N
          · obtain ⟨g1, rfl⟩ : ∃ g1, gk = g1 + 1 := ⟨gk - 1, by omega⟩
            have hI : (j : Int) < (N : Int) ∧ (0 : Int) ≤ (j : Int) := by omega
            have cF7 : w9.cell? ⟨B, 7, none⟩ = some (.bool sg) := blk_cell (HW.out.b 0 _ rfl) 7
            obtain ⟨xb, hxb⟩ : ∃ xb, w9.heap.size = xb := ⟨_, rfl⟩
            have HXB := Lib.hid hxb
            have hBx : B + 5 ≤ xb := by have := HW.out.sz; rw [← hxb]; simpa using this
            have cF6 : (w9.alloc (Obj.cells #[.int .i64 DP, .bool sg, .int .i64 1, .int .i64 1, .slice none 0 0] 39)).cell? ⟨B, 6, none⟩ = some (.int .i64 sb) := blk_cell ((HW.out.alloc _).b 0 _ rfl) 6
            obtain ⟨tb, htb⟩ : ∃ tb : Bool, decide (sb.tmod 5 = 1 ∧ 0 < j) = tb := ⟨_, rfl⟩
            obtain ⟨d, dx, dy, hcp⟩ : ∃ d dx dy, cpK sb DP j = (d, dx, dy) := ⟨_, _, _, rfl⟩
            have hdd : (1 ≤ d ∧ d ≤ 10) ∧ (1 ≤ dx ∧ dx ≤ 3) ∧ (1 ≤ dy ∧ dy ≤ 3) := by
              have := cpK_bd (sb := sb) (DP := DP) j hDP
              rw [hcp] at this
              exact this
            have HCP := Lib.hid hcp
            have HTB := Lib.hid htb
            have HX0 : Hid (XDat w9 xb DP sg 1 1 (.slice none 0 0) [] (w9.alloc (Obj.cells #[.int .i64 DP, .bool sg, .int .i64 1, .int .i64 1, .slice none 0 0] 39)) ∧ MkW w B [((fmA x y ox oy nc dp sb sg rc so ep tx ty lv bw bh pr st od ly A n c), 29), (#[.int .i64 0, .int .i64 0, .int .i64 0, .int .i64 0, .slice none 0 0], 24), (#[.int .i64 0, .int .i64 0, .int .i64 0, .int .i64 0, .int .i64 0, .int .i64 0, .int .i64 0, .int .i64 0, .int .i64 0, .bool false, .bool false, .bool false], 26), (#[.int .i64 X, .int .i64 Y, .int .i64 OX, .int .i64 OY, V], 24), (#[.int .i64 FTX, .int .i64 FTY, .int .i64 LV, .int .i64 BW, .int .i64 BH, .int .i64 PR, .int .i64 ST, .int .i64 OD, .int .i64 LY, .bool false, .bool so, .bool ep], 26)] (w9.alloc (Obj.cells #[.int .i64 DP, .bool sg, .int .i64 1, .int .i64 1, .slice none 0 0] 39))) := Lib.hid ⟨by rw [← hxb]; exact XDat.new w9 DP sg 1 1, HW.out.alloc _⟩
            clear hcp htb hxb
            go_upto_region 15 with fail
            obtain ⟨Wx, hWx⟩ : ∃ Wx, w9.alloc (Obj.cells #[.int .i64 DP, .bool sg, .int .i64 1, .int .i64 1, .slice none 0 0] 39) = Wx := ⟨_, rfl⟩
            rw [hWx] at HX0 cF6 ⊢
            rw [HXB.out]
            clear hWx cF7
            go_cut [131] from 124 to 130 (fun v wx => v = .bool tb ∧ Wx = wx)
            case first =>
              by_cases c1 : sb.tmod 5 = 1
              · have k1 : (sb.tmod 5 == 1) = true := by simpa using c1
                by_cases c2 : 0 < j
                · have HT : Hid (tb = true) := Lib.hid (by rw [← HTB.out]; simp [c1, c2])
                  have k2 : (0 : Int) < (j : Int) := by omega
                  clear HTB
                  go_wp2_with fail
                  go_meet
                  exact ⟨by rw [HT.out], rfl⟩
                · have HT : Hid (tb = false) := Lib.hid (by rw [← HTB.out]; simp [c2])
                  have k2 : ¬ (0 : Int) < (j : Int) := by omega
                  clear HTB
                  go_wp2_with fail
                  go_meet
                  exact ⟨by rw [HT.out], rfl⟩
              · have k1 : (sb.tmod 5 == 1) = false := by simpa using c1
                have HT : Hid (tb = false) := Lib.hid (by rw [← HTB.out]; simp [c1])
                clear HTB
                go_wp2_with fail
                go_meet
                exact ⟨by rw [HT.out], rfl⟩
            case rest =>
             obtain ⟨rfl, rfl⟩ := hcut
             clear cF6
             go_upto_if 131 with fail
             go_cut [] from 132 to 151 (fun wx => Hid (XDat w9 xb d sg dx dy (.slice none 0 0) [] wx ∧ MkW w B [((fmA x y ox oy nc dp sb sg rc so ep tx ty lv bw bh pr st od ly A n c), 29), (#[.int .i64 0, .int .i64 0, .int .i64 0, .int .i64 0, .slice none 0 0], 24), (#[.int .i64 0, .int .i64 0, .int .i64 0, .int .i64 0, .int .i64 0, .int .i64 0, .int .i64 0, .int .i64 0, .int .i64 0, .bool false, .bool false, .bool false], 26), (#[.int .i64 X, .int .i64 Y, .int .i64 OX, .int .i64 OY, V], 24), (#[.int .i64 FTX, .int .i64 FTY, .int .i64 LV, .int .i64 BW, .int .i64 BH, .int .i64 PR, .int .i64 ST, .int .i64 OD, .int .i64 LY, .bool false, .bool so, .bool ep], 26)] wx))
             case first =>
              cases tb with
              | false =>
                have hno : ¬ (sb.tmod 5 = 1 ∧ 0 < j) := of_decide_eq_false HTB.out
                have HE : Hid (d = DP ∧ dx = 1 ∧ dy = 1) := Lib.hid (by
                  have e := HCP.out
                  unfold cpK at e
                  rw [if_neg hno] at e
                  have e2 := Prod.mk.inj e
                  have e3 := Prod.mk.inj e2.2
                  exact ⟨e2.1.symm, e3.1.symm, e3.2.symm⟩)
                clear hno
                go_wp2_with fail
                go_meet
                rw [HE.out.1, HE.out.2.1, HE.out.2.2]
                exact HX0
              | true =>
                have hyes : sb.tmod 5 = 1 ∧ 0 < j := of_decide_eq_true HTB.out
                obtain ⟨q5, hq5⟩ : ∃ q, sb.tdiv 5 = q := ⟨_, rfl⟩
                obtain ⟨q15, hq15⟩ : ∃ q, sb.tdiv 15 = q := ⟨_, rfl⟩
                have b5 := tdiv_bd (b := 5) hsb (by omega)
                have b15 := tdiv_bd (b := 15) hsb (by omega)
                rw [hq5] at b5
                rw [hq15] at b15
                obtain ⟨E1, hE1⟩ : ∃ E, (q5 + j) % 3 = E := ⟨_, rfl⟩
                obtain ⟨E2, hE2⟩ : ∃ E, q15 % 3 = E := ⟨_, rfl⟩
                obtain ⟨E3, hE3⟩ : ∃ E, (DP + j) % 10 = E := ⟨_, rfl⟩
                have HE : Hid (1 + E3 = d ∧ 1 + E1 = dx ∧ 1 + E2 = dy) := Lib.hid (by
                  have e := HCP.out
                  unfold cpK at e
                  rw [if_pos hyes, hq5, hq15, hE1, hE2, hE3] at e
                  have e2 := Prod.mk.inj e
                  have e3 := Prod.mk.inj e2.2
                  exact ⟨e2.1, e3.1, e3.2⟩)
                have HS : Hid (IntKind.i64.wrap q5 = q5 ∧ IntKind.i64.wrap q15 = q15 ∧ IntKind.i64.wrap (q5 + j) = q5 + j ∧ IntKind.i64.wrap (DP + j) = DP + j ∧ IntKind.i64.wrap (1 + E1) = dx ∧ IntKind.i64.wrap (1 + E2) = dy ∧ IntKind.i64.wrap (1 + E3) = d ∧ IntKind.i64.wrap (sb.tdiv 5) = q5 ∧ IntKind.i64.wrap (sb.tdiv 15) = q15) := Lib.hid (by
                  have := HE.out
                  rw [hq5, hq15, this.1, this.2.1, this.2.2]
                  exact ⟨IntWalk.i64_in _ (by omega), IntWalk.i64_in _ (by omega), IntWalk.i64_in _ (by omega), IntWalk.i64_in _ (by omega), IntWalk.i64_in _ (by omega), IntWalk.i64_in _ (by omega), IntWalk.i64_in _ (by omega), IntWalk.i64_in _ (by omega), IntWalk.i64_in _ (by omega)⟩)
                have WE : ∀ a b r : Int, 1 ≤ b → b ≤ 100000 → a % b = r → Hid (∀ u, Calls Try.prog 17 #[.int .i64 a, .int .i64 b] u fun e w' => e = .returned (.int .i64 r) ∧ u = w') := fun a b r h1 h2 e => Lib.hid fun u => by rw [← e]; exact within12 a b u h1 (by omega)
                have U1 := WE (q5 + j) 3 E1 (by omega) (by omega) hE1
                have U2 := WE q15 3 E2 (by omega) (by omega) hE2
                have U3 := WE (DP + j) 10 E3 (by omega) (by omega) hE3
                have hn5 : sb.tdiv 5 = q5 ∧ sb.tdiv 15 = q15 := ⟨hq5, hq15⟩
                have HN5 := Lib.hid hn5
                clear hn5 hq5 hq15 hE1 hE2 hE3 WE hyes
                go_upto_region 16 with fail
                obtain ⟨VL, hVL⟩ : ∃ VL : Unit → List (Nat × Nat × Value), VL = fun z => [(0, 132, .pointer (some ⟨B, 6, none⟩)), (1, 133, .int .i64 sb), (2, 134, .int .i64 q5), (3, 135, .int .i64 (j : Int)), (4, 136, .int .i64 (q5 + (j : Int))), (5, 137, .int .i64 E1), (6, 138, .int .i64 dx), (7, 139, .pointer (some ⟨B, 6, none⟩)), (8, 140, .int .i64 sb), (9, 141, .int .i64 q15), (10, 142, .int .i64 E2), (11, 143, .int .i64 dy), (12, 144, .int .i64 DP), (13, 145, .int .i64 (j : Int)), (14, 146, .int .i64 (DP + (j : Int))), (15, 147, .int .i64 E3), (16, 148, .int .i64 d), (17, 149, .pointer (some ⟨xb, 2, none⟩)), (19, 150, .pointer (some ⟨xb, 3, none⟩)), (21, 151, .pointer (some ⟨xb, 0, none⟩))] := ⟨_, rfl⟩
                have hok : ∀ z, manyOk 226 (VL z) := fun z => by rw [hVL]; exact ⟨by simp, by simp, by simp⟩
                have HVL := Lib.hid hVL
                have hvi : ∀ z, ∀ x ∈ VL z, x.1 < 23 := fun z => by rw [hVL]; simp
                have HOK := Lib.hid hok
                have HVI := Lib.hid hvi
                clear hVL hok hvi
                refine (wpIn_wide (n := 9)).1 (regionIn_many (N := 226) (w := _) VL (fun L z w' => (w'.heap[B]? = some (.cells (fmA x y ox oy nc dp sb sg rc so ep tx ty lv bw bh pr st od ly A n c) 29 (0, 0))) ∧ (bif L 22 then (XDat w9 xb d sg dx dy (.slice none 0 0) [] w' ∧ MkW w B [((fmA x y ox oy nc dp sb sg rc so ep tx ty lv bw bh pr st od ly A n c), 29), (#[.int .i64 0, .int .i64 0, .int .i64 0, .int .i64 0, .slice none 0 0], 24), (#[.int .i64 0, .int .i64 0, .int .i64 0, .int .i64 0, .int .i64 0, .int .i64 0, .int .i64 0, .int .i64 0, .int .i64 0, .bool false, .bool false, .bool false], 26), (#[.int .i64 X, .int .i64 Y, .int .i64 OX, .int .i64 OY, V], 24), (#[.int .i64 FTX, .int .i64 FTY, .int .i64 LV, .int .i64 BW, .int .i64 BH, .int .i64 PR, .int .i64 ST, .int .i64 OD, .int .i64 LY, .bool false, .bool so, .bool ep], 26)] w') else (bif L 20 then (XDat w9 xb DP sg dx dy (.slice none 0 0) [] w' ∧ MkW w B [((fmA x y ox oy nc dp sb sg rc so ep tx ty lv bw bh pr st od ly A n c), 29), (#[.int .i64 0, .int .i64 0, .int .i64 0, .int .i64 0, .slice none 0 0], 24), (#[.int .i64 0, .int .i64 0, .int .i64 0, .int .i64 0, .int .i64 0, .int .i64 0, .int .i64 0, .int .i64 0, .int .i64 0, .bool false, .bool false, .bool false], 26), (#[.int .i64 X, .int .i64 Y, .int .i64 OX, .int .i64 OY, V], 24), (#[.int .i64 FTX, .int .i64 FTY, .int .i64 LV, .int .i64 BW, .int .i64 BH, .int .i64 PR, .int .i64 ST, .int .i64 OD, .int .i64 LY, .bool false, .bool so, .bool ep], 26)] w') else (bif L 18 then (XDat w9 xb DP sg dx 1 (.slice none 0 0) [] w' ∧ MkW w B [((fmA x y ox oy nc dp sb sg rc so ep tx ty lv bw bh pr st od ly A n c), 29), (#[.int .i64 0, .int .i64 0, .int .i64 0, .int .i64 0, .slice none 0 0], 24), (#[.int .i64 0, .int .i64 0, .int .i64 0, .int .i64 0, .int .i64 0, .int .i64 0, .int .i64 0, .int .i64 0, .int .i64 0, .bool false, .bool false, .bool false], 26), (#[.int .i64 X, .int .i64 Y, .int .i64 OX, .int .i64 OY, V], 24), (#[.int .i64 FTX, .int .i64 FTY, .int .i64 LV, .int .i64 BW, .int .i64 BH, .int .i64 PR, .int .i64 ST, .int .i64 OD, .int .i64 LY, .bool false, .bool so, .bool ep], 26)] w') else XDat w9 xb DP sg 1 1 (.slice none 0 0) [] w' ∧ MkW w B [((fmA x y ox oy nc dp sb sg rc so ep tx ty lv bw bh pr st od ly A n c), 29), (#[.int .i64 0, .int .i64 0, .int .i64 0, .int .i64 0, .slice none 0 0], 24), (#[.int .i64 0, .int .i64 0, .int .i64 0, .int .i64 0, .int .i64 0, .int .i64 0, .int .i64 0, .int .i64 0, .int .i64 0, .bool false, .bool false, .bool false], 26), (#[.int .i64 X, .int .i64 Y, .int .i64 OX, .int .i64 OY, V], 24), (#[.int .i64 FTX, .int .i64 FTY, .int .i64 LV, .int .i64 BW, .int .i64 BH, .int .i64 PR, .int .i64 ST, .int .i64 OD, .int .i64 LY, .bool false, .bool so, .bool ep], 26)] w')))) [(2, .pointer (some ⟨B, 0, none⟩)), (8, .int .i64 DP), (10, .int .i64 (j : Int)), (11, .pointer (some ⟨xb, 0, none⟩))] (by kernel_rfl) (by kernel_rfl) rfl (by simp only [List.forall_mem_cons, List.not_mem_nil, false_imp_iff, implies_true, and_true]; exact ⟨rfl, rfl, rfl, rfl⟩) HVI.out () ?start ?step ?fin)
                case start => exact ⟨HX0.out.2.drew.b 0 _ rfl, HX0.out.1.drew, HX0.out.2.drew⟩
                case step =>
                  intro gg_ hgN hgF ii_ hii_ L z w' hph hs hu
                  obtain ⟨hcm, hph⟩ := hph
                  have hF2 := hgF (2, .pointer (some ⟨B, 0, none⟩)) (by simp)
                  have hF8 := hgF (8, .int .i64 DP) (by simp)
                  have hF10 := hgF (10, .int .i64 (j : Int)) (by simp)
                  have hF11 := hgF (11, .pointer (some ⟨xb, 0, none⟩)) (by simp)
                  have hL := hu.1
                  have hii_ : ii_ < 23 := hii_
                  clear hgF
                  obtain rfl | rfl | rfl | rfl | rfl | rfl | rfl | rfl | rfl | rfl | rfl | rfl | rfl | rfl | rfl | rfl | rfl | rfl | rfl | rfl | rfl | rfl | rfl := (by omega : ii_ = 0 ∨ ii_ = 1 ∨ ii_ = 2 ∨ ii_ = 3 ∨ ii_ = 4 ∨ ii_ = 5 ∨ ii_ = 6 ∨ ii_ = 7 ∨ ii_ = 8 ∨ ii_ = 9 ∨ ii_ = 10 ∨ ii_ = 11 ∨ ii_ = 12 ∨ ii_ = 13 ∨ ii_ = 14 ∨ ii_ = 15 ∨ ii_ = 16 ∨ ii_ = 17 ∨ ii_ = 18 ∨ ii_ = 19 ∨ ii_ = 20 ∨ ii_ = 21 ∨ ii_ = 22)
                  · skip
                    have n18 : L 18 = false := not_yet hL fun h => shut_at hs 18 0 (by kernel_rfl) (h)
                    have n20 : L 20 = false := not_yet hL fun h => shut_at hs 20 0 (by kernel_rfl) (h)
                    have n22 : L 22 = false := not_yet hL fun h => shut_at hs 22 0 (by kernel_rfl) (h)
                    try simp only [n18, n20, n22, hL, cond_true, cond_false] at hph
                    have e2 : (many gg_ L (VL z))[2]?.getD undef = .pointer (some ⟨B, 0, none⟩) := many_out hgN (HOK.out z).1 (by rw [HVL.out]; rfl) hF2
                    refine opIn_run (v := .pointer (some ⟨B, 6, none⟩)) (w' := w') rfl rfl (fun c h => by cases h) (fun _ => trivial) ?_ ⟨z, by exact many_put (HOK.out _) 0 132 _ (by rw [HVL.out]; simp) hL, hcm, by simp only [upd, n18, n20, n22, hL, Nat.reduceBEq, cond_true, cond_false]; exact hph⟩
                    go_simp
                  · skip
                    have y0 : L 0 = true := up_at hu 0 (by kernel_rfl)
                    have n18 : L 18 = false := not_yet hL fun h => shut_at hs 18 1 (by kernel_rfl) (h)
                    have n20 : L 20 = false := not_yet hL fun h => shut_at hs 20 1 (by kernel_rfl) (h)
                    have n22 : L 22 = false := not_yet hL fun h => shut_at hs 22 1 (by kernel_rfl) (h)
                    try simp only [y0, n18, n20, n22, hL, cond_true, cond_false] at hph
                    have hcell : w'.cell? ⟨B, 6, none⟩ = some (.int .i64 sb) := blk_cell hcm 6
                    have e132 : (many gg_ L (VL z))[132]?.getD undef = .pointer (some ⟨B, 6, none⟩) := many_eval hgN (HOK.out z).1 (by rw [HVL.out]; simp [lookM, y0])
                    refine opIn_run (v := .int .i64 sb) (w' := w') rfl rfl (fun c h => by cases h) (fun _ => trivial) ?_ ⟨z, by exact many_put (HOK.out _) 1 133 _ (by rw [HVL.out]; simp) hL, hcm, by simp only [upd, y0, n18, n20, n22, hL, Nat.reduceBEq, cond_true, cond_false]; exact hph⟩
                    go_simp
                  · skip
                    have y1 : L 1 = true := up_at hu 1 (by kernel_rfl)
                    have n18 : L 18 = false := not_yet hL fun h => shut_at hs 18 2 (by kernel_rfl) (h)
                    have n20 : L 20 = false := not_yet hL fun h => shut_at hs 20 2 (by kernel_rfl) (h)
                    have n22 : L 22 = false := not_yet hL fun h => shut_at hs 22 2 (by kernel_rfl) (h)
                    try simp only [y1, n18, n20, n22, hL, cond_true, cond_false] at hph
                    have q1 := HS.out.2.2.2.2.2.2.2.1
                    have q2 := HN5.out.1
                    have q3 := HS.out.1
                    have e133 : (many gg_ L (VL z))[133]?.getD undef = .int .i64 sb := many_eval hgN (HOK.out z).1 (by rw [HVL.out]; simp [lookM, y1])
                    refine opIn_run (v := .int .i64 q5) (w' := w') rfl rfl (fun c h => by cases h) (fun _ => trivial) ?_ ⟨z, by exact many_put (HOK.out _) 2 134 _ (by rw [HVL.out]; simp) hL, hcm, by simp only [upd, y1, n18, n20, n22, hL, Nat.reduceBEq, cond_true, cond_false]; exact hph⟩
                    go_simp
                  · skip
                    have n18 : L 18 = false := not_yet hL fun h => shut_at hs 18 3 (by kernel_rfl) (h)
                    have n20 : L 20 = false := not_yet hL fun h => shut_at hs 20 3 (by kernel_rfl) (h)
                    have n22 : L 22 = false := not_yet hL fun h => shut_at hs 22 3 (by kernel_rfl) (h)
                    try simp only [n18, n20, n22, hL, cond_true, cond_false] at hph
                    have e10 : (many gg_ L (VL z))[10]?.getD undef = .int .i64 (j : Int) := many_out hgN (HOK.out z).1 (by rw [HVL.out]; rfl) hF10
                    refine opIn_run (v := .int .i64 (j : Int)) (w' := w') rfl rfl (fun c h => by cases h) (fun _ => trivial) ?_ ⟨z, by exact many_put (HOK.out _) 3 135 _ (by rw [HVL.out]; simp) hL, hcm, by simp only [upd, n18, n20, n22, hL, Nat.reduceBEq, cond_true, cond_false]; exact hph⟩
                    go_simp
                  · skip
                    have y2 : L 2 = true := up_at hu 2 (by kernel_rfl)
                    have y3 : L 3 = true := up_at hu 3 (by kernel_rfl)
                    have n18 : L 18 = false := not_yet hL fun h => shut_at hs 18 4 (by kernel_rfl) (h)
                    have n20 : L 20 = false := not_yet hL fun h => shut_at hs 20 4 (by kernel_rfl) (h)
                    have n22 : L 22 = false := not_yet hL fun h => shut_at hs 22 4 (by kernel_rfl) (h)
                    try simp only [y2, y3, n18, n20, n22, hL, cond_true, cond_false] at hph
                    have q1 := HS.out.2.2.1
                    have e134 : (many gg_ L (VL z))[134]?.getD undef = .int .i64 q5 := many_eval hgN (HOK.out z).1 (by rw [HVL.out]; simp [lookM, y2])
                    have e135 : (many gg_ L (VL z))[135]?.getD undef = .int .i64 (j : Int) := many_eval hgN (HOK.out z).1 (by rw [HVL.out]; simp [lookM, y3])
                    refine opIn_run (v := .int .i64 (q5 + (j : Int))) (w' := w') rfl rfl (fun c h => by cases h) (fun _ => trivial) ?_ ⟨z, by exact many_put (HOK.out _) 4 136 _ (by rw [HVL.out]; simp) hL, hcm, by simp only [upd, y2, y3, n18, n20, n22, hL, Nat.reduceBEq, cond_true, cond_false]; exact hph⟩
                    go_simp
                  · skip
                    have y4 : L 4 = true := up_at hu 4 (by kernel_rfl)
                    have n18 : L 18 = false := not_yet hL fun h => shut_at hs 18 5 (by kernel_rfl) (h)
                    have n20 : L 20 = false := not_yet hL fun h => shut_at hs 20 5 (by kernel_rfl) (h)
                    have n22 : L 22 = false := not_yet hL fun h => shut_at hs 22 5 (by kernel_rfl) (h)
                    try simp only [y4, n18, n20, n22, hL, cond_true, cond_false] at hph
                    have e136 : (many gg_ L (VL z))[136]?.getD undef = .int .i64 (q5 + (j : Int)) := many_eval hgN (HOK.out z).1 (by rw [HVL.out]; simp [lookM, y4])
                    refine opIn_call (f := 17) (args := #[.int .i64 (q5 + (j : Int)), .int .i64 3]) (w' := w') rfl rfl (fun c h => by cases h) (fun _ => trivial) rfl (by go_simp) ((callsIn_wide.2 (U1.out w')).mono ?_)
                    rintro e w2 ⟨rfl, rfl⟩
                    exact ⟨_, rfl, z, by exact many_put (HOK.out _) 5 137 _ (by rw [HVL.out]; simp) hL, hcm, by simp only [upd, y4, n18, n20, n22, hL, Nat.reduceBEq, cond_true, cond_false]; exact hph⟩
                  · skip
                    have y5 : L 5 = true := up_at hu 5 (by kernel_rfl)
                    have n18 : L 18 = false := not_yet hL fun h => shut_at hs 18 6 (by kernel_rfl) (h)
                    have n20 : L 20 = false := not_yet hL fun h => shut_at hs 20 6 (by kernel_rfl) (h)
                    have n22 : L 22 = false := not_yet hL fun h => shut_at hs 22 6 (by kernel_rfl) (h)
                    try simp only [y5, n18, n20, n22, hL, cond_true, cond_false] at hph
                    have q1 := HS.out.2.2.2.2.1
                    have e137 : (many gg_ L (VL z))[137]?.getD undef = .int .i64 E1 := many_eval hgN (HOK.out z).1 (by rw [HVL.out]; simp [lookM, y5])
                    refine opIn_run (v := .int .i64 dx) (w' := w') rfl rfl (fun c h => by cases h) (fun _ => trivial) ?_ ⟨z, by exact many_put (HOK.out _) 6 138 _ (by rw [HVL.out]; simp) hL, hcm, by simp only [upd, y5, n18, n20, n22, hL, Nat.reduceBEq, cond_true, cond_false]; exact hph⟩
                    go_simp
                  · skip
                    have n18 : L 18 = false := not_yet hL fun h => shut_at hs 8 7 (by kernel_rfl) (shut_at hs 9 8 (by kernel_rfl) (shut_at hs 10 9 (by kernel_rfl) (shut_at hs 15 10 (by kernel_rfl) (shut_at hs 18 15 (by kernel_rfl) (h)))))
                    have n20 : L 20 = false := not_yet hL fun h => shut_at hs 20 7 (by kernel_rfl) (h)
                    have n22 : L 22 = false := not_yet hL fun h => shut_at hs 22 7 (by kernel_rfl) (h)
                    try simp only [n18, n20, n22, hL, cond_true, cond_false] at hph
                    have e2 : (many gg_ L (VL z))[2]?.getD undef = .pointer (some ⟨B, 0, none⟩) := many_out hgN (HOK.out z).1 (by rw [HVL.out]; rfl) hF2
                    refine opIn_run (v := .pointer (some ⟨B, 6, none⟩)) (w' := w') rfl rfl (fun c h => by cases h) (fun _ => trivial) ?_ ⟨z, by exact many_put (HOK.out _) 7 139 _ (by rw [HVL.out]; simp) hL, hcm, by simp only [upd, n18, n20, n22, hL, Nat.reduceBEq, cond_true, cond_false]; exact hph⟩
                    go_simp
                  · skip
                    have y7 : L 7 = true := up_at hu 7 (by kernel_rfl)
                    have n18 : L 18 = false := not_yet hL fun h => shut_at hs 9 8 (by kernel_rfl) (shut_at hs 10 9 (by kernel_rfl) (shut_at hs 15 10 (by kernel_rfl) (shut_at hs 18 15 (by kernel_rfl) (h))))
                    have n20 : L 20 = false := not_yet hL fun h => shut_at hs 20 8 (by kernel_rfl) (h)
                    have n22 : L 22 = false := not_yet hL fun h => shut_at hs 22 8 (by kernel_rfl) (h)
                    try simp only [y7, n18, n20, n22, hL, cond_true, cond_false] at hph
                    have hcell : w'.cell? ⟨B, 6, none⟩ = some (.int .i64 sb) := blk_cell hcm 6
                    have e139 : (many gg_ L (VL z))[139]?.getD undef = .pointer (some ⟨B, 6, none⟩) := many_eval hgN (HOK.out z).1 (by rw [HVL.out]; simp [lookM, y7])
                    refine opIn_run (v := .int .i64 sb) (w' := w') rfl rfl (fun c h => by cases h) (fun _ => trivial) ?_ ⟨z, by exact many_put (HOK.out _) 8 140 _ (by rw [HVL.out]; simp) hL, hcm, by simp only [upd, y7, n18, n20, n22, hL, Nat.reduceBEq, cond_true, cond_false]; exact hph⟩
                    go_simp
                  · skip
                    have y8 : L 8 = true := up_at hu 8 (by kernel_rfl)
                    have n18 : L 18 = false := not_yet hL fun h => shut_at hs 10 9 (by kernel_rfl) (shut_at hs 15 10 (by kernel_rfl) (shut_at hs 18 15 (by kernel_rfl) (h)))
                    have n20 : L 20 = false := not_yet hL fun h => shut_at hs 20 9 (by kernel_rfl) (h)
                    have n22 : L 22 = false := not_yet hL fun h => shut_at hs 22 9 (by kernel_rfl) (h)
                    try simp only [y8, n18, n20, n22, hL, cond_true, cond_false] at hph
                    have q1 := HS.out.2.2.2.2.2.2.2.2
                    have q2 := HN5.out.2
                    have q3 := HS.out.2.1
                    have e140 : (many gg_ L (VL z))[140]?.getD undef = .int .i64 sb := many_eval hgN (HOK.out z).1 (by rw [HVL.out]; simp [lookM, y8])
                    refine opIn_run (v := .int .i64 q15) (w' := w') rfl rfl (fun c h => by cases h) (fun _ => trivial) ?_ ⟨z, by exact many_put (HOK.out _) 9 141 _ (by rw [HVL.out]; simp) hL, hcm, by simp only [upd, y8, n18, n20, n22, hL, Nat.reduceBEq, cond_true, cond_false]; exact hph⟩
                    go_simp
                  · skip
                    have y5 : L 5 = true := up_at hu 5 (by kernel_rfl)
                    have y9 : L 9 = true := up_at hu 9 (by kernel_rfl)
                    have n18 : L 18 = false := not_yet hL fun h => shut_at hs 15 10 (by kernel_rfl) (shut_at hs 18 15 (by kernel_rfl) (h))
                    have n20 : L 20 = false := not_yet hL fun h => shut_at hs 20 10 (by kernel_rfl) (h)
                    have n22 : L 22 = false := not_yet hL fun h => shut_at hs 22 10 (by kernel_rfl) (h)
                    try simp only [y5, y9, n18, n20, n22, hL, cond_true, cond_false] at hph
                    have e141 : (many gg_ L (VL z))[141]?.getD undef = .int .i64 q15 := many_eval hgN (HOK.out z).1 (by rw [HVL.out]; simp [lookM, y9])
                    refine opIn_call (f := 17) (args := #[.int .i64 q15, .int .i64 3]) (w' := w') rfl rfl (fun c h => by cases h) (fun _ => trivial) rfl (by go_simp) ((callsIn_wide.2 (U2.out w')).mono ?_)
                    rintro e w2 ⟨rfl, rfl⟩
                    exact ⟨_, rfl, z, by exact many_put (HOK.out _) 10 142 _ (by rw [HVL.out]; simp) hL, hcm, by simp only [upd, y5, y9, n18, n20, n22, hL, Nat.reduceBEq, cond_true, cond_false]; exact hph⟩
                  · skip
                    have y10 : L 10 = true := up_at hu 10 (by kernel_rfl)
                    have n20 : L 20 = false := not_yet hL fun h => shut_at hs 20 11 (by kernel_rfl) (h)
                    have n22 : L 22 = false := not_yet hL fun h => shut_at hs 22 11 (by kernel_rfl) (h)
                    try simp only [y10, n20, n22, hL, cond_true, cond_false] at hph
                    have q1 := HS.out.2.2.2.2.2.1
                    have e142 : (many gg_ L (VL z))[142]?.getD undef = .int .i64 E2 := many_eval hgN (HOK.out z).1 (by rw [HVL.out]; simp [lookM, y10])
                    refine opIn_run (v := .int .i64 dy) (w' := w') rfl rfl (fun c h => by cases h) (fun _ => trivial) ?_ ⟨z, by exact many_put (HOK.out _) 11 143 _ (by rw [HVL.out]; simp) hL, hcm, by simp only [upd, y10, n20, n22, hL, Nat.reduceBEq, cond_true, cond_false]; exact hph⟩
                    go_simp
                  · skip
                    have n18 : L 18 = false := not_yet hL fun h => shut_at hs 14 12 (by kernel_rfl) (shut_at hs 15 14 (by kernel_rfl) (shut_at hs 18 15 (by kernel_rfl) (h)))
                    have n20 : L 20 = false := not_yet hL fun h => shut_at hs 14 12 (by kernel_rfl) (shut_at hs 15 14 (by kernel_rfl) (shut_at hs 18 15 (by kernel_rfl) (shut_at hs 20 18 (by kernel_rfl) (h))))
                    have n22 : L 22 = false := not_yet hL fun h => shut_at hs 22 12 (by kernel_rfl) (h)
                    try simp only [n18, n20, n22, hL, cond_true, cond_false] at hph
                    have e8 : (many gg_ L (VL z))[8]?.getD undef = .int .i64 DP := many_out hgN (HOK.out z).1 (by rw [HVL.out]; rfl) hF8
                    refine opIn_run (v := .int .i64 DP) (w' := w') rfl rfl (fun c h => by cases h) (fun _ => trivial) ?_ ⟨z, by exact many_put (HOK.out _) 12 144 _ (by rw [HVL.out]; simp) hL, hcm, by simp only [upd, n18, n20, n22, hL, Nat.reduceBEq, cond_true, cond_false]; exact hph⟩
                    go_simp
                  · skip
                    have n18 : L 18 = false := not_yet hL fun h => shut_at hs 14 13 (by kernel_rfl) (shut_at hs 15 14 (by kernel_rfl) (shut_at hs 18 15 (by kernel_rfl) (h)))
                    have n20 : L 20 = false := not_yet hL fun h => shut_at hs 14 13 (by kernel_rfl) (shut_at hs 15 14 (by kernel_rfl) (shut_at hs 18 15 (by kernel_rfl) (shut_at hs 20 18 (by kernel_rfl) (h))))
                    have n22 : L 22 = false := not_yet hL fun h => shut_at hs 22 13 (by kernel_rfl) (h)
                    try simp only [n18, n20, n22, hL, cond_true, cond_false] at hph
                    have e10 : (many gg_ L (VL z))[10]?.getD undef = .int .i64 (j : Int) := many_out hgN (HOK.out z).1 (by rw [HVL.out]; rfl) hF10
                    refine opIn_run (v := .int .i64 (j : Int)) (w' := w') rfl rfl (fun c h => by cases h) (fun _ => trivial) ?_ ⟨z, by exact many_put (HOK.out _) 13 145 _ (by rw [HVL.out]; simp) hL, hcm, by simp only [upd, n18, n20, n22, hL, Nat.reduceBEq, cond_true, cond_false]; exact hph⟩
                    go_simp
                  · skip
                    have y12 : L 12 = true := up_at hu 12 (by kernel_rfl)
                    have y13 : L 13 = true := up_at hu 13 (by kernel_rfl)
                    have n18 : L 18 = false := not_yet hL fun h => shut_at hs 15 14 (by kernel_rfl) (shut_at hs 18 15 (by kernel_rfl) (h))
                    have n20 : L 20 = false := not_yet hL fun h => shut_at hs 15 14 (by kernel_rfl) (shut_at hs 18 15 (by kernel_rfl) (shut_at hs 20 18 (by kernel_rfl) (h)))
                    have n22 : L 22 = false := not_yet hL fun h => shut_at hs 22 14 (by kernel_rfl) (h)
                    try simp only [y12, y13, n18, n20, n22, hL, cond_true, cond_false] at hph
                    have q1 := HS.out.2.2.2.1
                    have e144 : (many gg_ L (VL z))[144]?.getD undef = .int .i64 DP := many_eval hgN (HOK.out z).1 (by rw [HVL.out]; simp [lookM, y12])
                    have e145 : (many gg_ L (VL z))[145]?.getD undef = .int .i64 (j : Int) := many_eval hgN (HOK.out z).1 (by rw [HVL.out]; simp [lookM, y13])
                    refine opIn_run (v := .int .i64 (DP + (j : Int))) (w' := w') rfl rfl (fun c h => by cases h) (fun _ => trivial) ?_ ⟨z, by exact many_put (HOK.out _) 14 146 _ (by rw [HVL.out]; simp) hL, hcm, by simp only [upd, y12, y13, n18, n20, n22, hL, Nat.reduceBEq, cond_true, cond_false]; exact hph⟩
                    go_simp
                  · skip
                    have y10 : L 10 = true := up_at hu 10 (by kernel_rfl)
                    have y14 : L 14 = true := up_at hu 14 (by kernel_rfl)
                    have n18 : L 18 = false := not_yet hL fun h => shut_at hs 18 15 (by kernel_rfl) (h)
                    have n20 : L 20 = false := not_yet hL fun h => shut_at hs 18 15 (by kernel_rfl) (shut_at hs 20 18 (by kernel_rfl) (h))
                    have n22 : L 22 = false := not_yet hL fun h => shut_at hs 22 15 (by kernel_rfl) (h)
                    try simp only [y10, y14, n18, n20, n22, hL, cond_true, cond_false] at hph
                    have e146 : (many gg_ L (VL z))[146]?.getD undef = .int .i64 (DP + (j : Int)) := many_eval hgN (HOK.out z).1 (by rw [HVL.out]; simp [lookM, y14])
                    refine opIn_call (f := 17) (args := #[.int .i64 (DP + (j : Int)), .int .i64 10]) (w' := w') rfl rfl (fun c h => by cases h) (fun _ => trivial) rfl (by go_simp) ((callsIn_wide.2 (U3.out w')).mono ?_)
                    rintro e w2 ⟨rfl, rfl⟩
                    exact ⟨_, rfl, z, by exact many_put (HOK.out _) 15 147 _ (by rw [HVL.out]; simp) hL, hcm, by simp only [upd, y10, y14, n18, n20, n22, hL, Nat.reduceBEq, cond_true, cond_false]; exact hph⟩
                  · skip
                    have y15 : L 15 = true := up_at hu 15 (by kernel_rfl)
                    have n22 : L 22 = false := not_yet hL fun h => shut_at hs 22 16 (by kernel_rfl) (h)
                    try simp only [y15, n22, hL, cond_true, cond_false] at hph
                    have q1 := HS.out.2.2.2.2.2.2.1
                    have e147 : (many gg_ L (VL z))[147]?.getD undef = .int .i64 E3 := many_eval hgN (HOK.out z).1 (by rw [HVL.out]; simp [lookM, y15])
                    refine opIn_run (v := .int .i64 d) (w' := w') rfl rfl (fun c h => by cases h) (fun _ => trivial) ?_ ⟨z, by exact many_put (HOK.out _) 16 148 _ (by rw [HVL.out]; simp) hL, hcm, by simp only [upd, y15, n22, hL, Nat.reduceBEq, cond_true, cond_false]; exact hph⟩
                    go_simp
                  · skip
                    have y0 : L 0 = true := up_at hu 0 (by kernel_rfl)
                    have y1 : L 1 = true := up_at hu 1 (by kernel_rfl)
                    have y2 : L 2 = true := up_at hu 2 (by kernel_rfl)
                    have y3 : L 3 = true := up_at hu 3 (by kernel_rfl)
                    have y4 : L 4 = true := up_at hu 4 (by kernel_rfl)
                    have y5 : L 5 = true := up_at hu 5 (by kernel_rfl)
                    have y6 : L 6 = true := up_at hu 6 (by kernel_rfl)
                    have n18 : L 18 = false := not_yet hL fun h => shut_at hs 18 17 (by kernel_rfl) (h)
                    have n20 : L 20 = false := not_yet hL fun h => shut_at hs 20 17 (by kernel_rfl) (h)
                    have n22 : L 22 = false := not_yet hL fun h => shut_at hs 22 17 (by kernel_rfl) (h)
                    try simp only [y0, y1, y2, y3, y4, y5, y6, n18, n20, n22, hL, cond_true, cond_false] at hph
                    have e11 : (many gg_ L (VL z))[11]?.getD undef = .pointer (some ⟨xb, 0, none⟩) := many_out hgN (HOK.out z).1 (by rw [HVL.out]; rfl) hF11
                    refine opIn_run (v := .pointer (some ⟨xb, 2, none⟩)) (w' := w') rfl rfl (fun c h => by cases h) (fun _ => trivial) ?_ ⟨z, by exact many_put (HOK.out _) 17 149 _ (by rw [HVL.out]; simp) hL, hcm, by simp only [upd, y0, y1, y2, y3, y4, y5, y6, n18, n20, n22, hL, Nat.reduceBEq, cond_true, cond_false]; exact hph⟩
                    go_simp
                  · skip
                    have y0 : L 0 = true := up_at hu 0 (by kernel_rfl)
                    have y1 : L 1 = true := up_at hu 1 (by kernel_rfl)
                    have y2 : L 2 = true := up_at hu 2 (by kernel_rfl)
                    have y3 : L 3 = true := up_at hu 3 (by kernel_rfl)
                    have y4 : L 4 = true := up_at hu 4 (by kernel_rfl)
                    have y5 : L 5 = true := up_at hu 5 (by kernel_rfl)
                    have y6 : L 6 = true := up_at hu 6 (by kernel_rfl)
                    have y15 : L 15 = true := up_at hu 15 (by kernel_rfl)
                    have y17 : L 17 = true := up_at hu 17 (by kernel_rfl)
                    have n20 : L 20 = false := not_yet hL fun h => shut_at hs 20 18 (by kernel_rfl) (h)
                    have n22 : L 22 = false := not_yet hL fun h => shut_at hs 22 18 (by kernel_rfl) (h)
                    try simp only [y0, y1, y2, y3, y4, y5, y6, y15, y17, n20, n22, hL, cond_true, cond_false] at hph
                    have hc := blk_cell hph.1.comp 2
                    have hfz := hph.1.fro 2
                    have e138 : (many gg_ L (VL z))[138]?.getD undef = .int .i64 dx := many_eval hgN (HOK.out z).1 (by rw [HVL.out]; simp [lookM, y6])
                    have e149 : (many gg_ L (VL z))[149]?.getD undef = .pointer (some ⟨xb, 2, none⟩) := many_eval hgN (HOK.out z).1 (by rw [HVL.out]; simp [lookM, y17])
                    refine opIn_skip (w' := w'.setCell ⟨xb, 2, none⟩ (.int .i64 dx)) rfl rfl (fun c h => by cases h) (fun _ => trivial) ?_ ⟨z, by exact many_none 18 _ (by rw [HVL.out]; simp), ((hph.2.other (p := ⟨xb, 2, none⟩) hBx (.int .i64 dx)).b 0 _ rfl), by simp only [upd, y0, y1, y2, y3, y4, y5, y6, y15, y17, n20, n22, hL, Nat.reduceBEq, cond_true, cond_false]; exact ⟨hph.1.set2 dx, hph.2.other (p := ⟨xb, 2, none⟩) hBx _⟩⟩
                    clear hph hcm
                    simp at hc
                    go_simp
                  · skip
                    have y0 : L 0 = true := up_at hu 0 (by kernel_rfl)
                    have y1 : L 1 = true := up_at hu 1 (by kernel_rfl)
                    have y2 : L 2 = true := up_at hu 2 (by kernel_rfl)
                    have y3 : L 3 = true := up_at hu 3 (by kernel_rfl)
                    have y4 : L 4 = true := up_at hu 4 (by kernel_rfl)
                    have y5 : L 5 = true := up_at hu 5 (by kernel_rfl)
                    have y6 : L 6 = true := up_at hu 6 (by kernel_rfl)
                    have y7 : L 7 = true := up_at hu 7 (by kernel_rfl)
                    have y8 : L 8 = true := up_at hu 8 (by kernel_rfl)
                    have y9 : L 9 = true := up_at hu 9 (by kernel_rfl)
                    have y10 : L 10 = true := up_at hu 10 (by kernel_rfl)
                    have y11 : L 11 = true := up_at hu 11 (by kernel_rfl)
                    have y17 : L 17 = true := up_at hu 17 (by kernel_rfl)
                    have y18 : L 18 = true := up_at hu 18 (by kernel_rfl)
                    have n20 : L 20 = false := not_yet hL fun h => shut_at hs 20 19 (by kernel_rfl) (h)
                    have n22 : L 22 = false := not_yet hL fun h => shut_at hs 22 19 (by kernel_rfl) (h)
                    try simp only [y0, y1, y2, y3, y4, y5, y6, y7, y8, y9, y10, y11, y17, y18, n20, n22, hL, cond_true, cond_false] at hph
                    have e11 : (many gg_ L (VL z))[11]?.getD undef = .pointer (some ⟨xb, 0, none⟩) := many_out hgN (HOK.out z).1 (by rw [HVL.out]; rfl) hF11
                    refine opIn_run (v := .pointer (some ⟨xb, 3, none⟩)) (w' := w') rfl rfl (fun c h => by cases h) (fun _ => trivial) ?_ ⟨z, by exact many_put (HOK.out _) 19 150 _ (by rw [HVL.out]; simp) hL, hcm, by simp only [upd, y0, y1, y2, y3, y4, y5, y6, y7, y8, y9, y10, y11, y17, y18, n20, n22, hL, Nat.reduceBEq, cond_true, cond_false]; exact hph⟩
                    go_simp
                  · skip
                    have y0 : L 0 = true := up_at hu 0 (by kernel_rfl)
                    have y1 : L 1 = true := up_at hu 1 (by kernel_rfl)
                    have y2 : L 2 = true := up_at hu 2 (by kernel_rfl)
                    have y3 : L 3 = true := up_at hu 3 (by kernel_rfl)
                    have y4 : L 4 = true := up_at hu 4 (by kernel_rfl)
                    have y5 : L 5 = true := up_at hu 5 (by kernel_rfl)
                    have y6 : L 6 = true := up_at hu 6 (by kernel_rfl)
                    have y7 : L 7 = true := up_at hu 7 (by kernel_rfl)
                    have y8 : L 8 = true := up_at hu 8 (by kernel_rfl)
                    have y9 : L 9 = true := up_at hu 9 (by kernel_rfl)
                    have y10 : L 10 = true := up_at hu 10 (by kernel_rfl)
                    have y11 : L 11 = true := up_at hu 11 (by kernel_rfl)
                    have y17 : L 17 = true := up_at hu 17 (by kernel_rfl)
                    have y18 : L 18 = true := up_at hu 18 (by kernel_rfl)
                    have y19 : L 19 = true := up_at hu 19 (by kernel_rfl)
                    have n22 : L 22 = false := not_yet hL fun h => shut_at hs 22 20 (by kernel_rfl) (h)
                    try simp only [y0, y1, y2, y3, y4, y5, y6, y7, y8, y9, y10, y11, y17, y18, y19, n22, hL, cond_true, cond_false] at hph
                    have hc := blk_cell hph.1.comp 3
                    have hfz := hph.1.fro 3
                    have e143 : (many gg_ L (VL z))[143]?.getD undef = .int .i64 dy := many_eval hgN (HOK.out z).1 (by rw [HVL.out]; simp [lookM, y11])
                    have e150 : (many gg_ L (VL z))[150]?.getD undef = .pointer (some ⟨xb, 3, none⟩) := many_eval hgN (HOK.out z).1 (by rw [HVL.out]; simp [lookM, y19])
                    refine opIn_skip (w' := w'.setCell ⟨xb, 3, none⟩ (.int .i64 dy)) rfl rfl (fun c h => by cases h) (fun _ => trivial) ?_ ⟨z, by exact many_none 20 _ (by rw [HVL.out]; simp), ((hph.2.other (p := ⟨xb, 3, none⟩) hBx (.int .i64 dy)).b 0 _ rfl), by simp only [upd, y0, y1, y2, y3, y4, y5, y6, y7, y8, y9, y10, y11, y17, y18, y19, n22, hL, Nat.reduceBEq, cond_true, cond_false]; exact ⟨hph.1.set3 dy, hph.2.other (p := ⟨xb, 3, none⟩) hBx _⟩⟩
                    clear hph hcm
                    simp at hc
                    go_simp
                  · skip
                    have y0 : L 0 = true := up_at hu 0 (by kernel_rfl)
                    have y1 : L 1 = true := up_at hu 1 (by kernel_rfl)
                    have y2 : L 2 = true := up_at hu 2 (by kernel_rfl)
                    have y3 : L 3 = true := up_at hu 3 (by kernel_rfl)
                    have y4 : L 4 = true := up_at hu 4 (by kernel_rfl)
                    have y5 : L 5 = true := up_at hu 5 (by kernel_rfl)
                    have y6 : L 6 = true := up_at hu 6 (by kernel_rfl)
                    have y7 : L 7 = true := up_at hu 7 (by kernel_rfl)
                    have y8 : L 8 = true := up_at hu 8 (by kernel_rfl)
                    have y9 : L 9 = true := up_at hu 9 (by kernel_rfl)
                    have y10 : L 10 = true := up_at hu 10 (by kernel_rfl)
                    have y11 : L 11 = true := up_at hu 11 (by kernel_rfl)
                    have y12 : L 12 = true := up_at hu 12 (by kernel_rfl)
                    have y13 : L 13 = true := up_at hu 13 (by kernel_rfl)
                    have y14 : L 14 = true := up_at hu 14 (by kernel_rfl)
                    have y15 : L 15 = true := up_at hu 15 (by kernel_rfl)
                    have y16 : L 16 = true := up_at hu 16 (by kernel_rfl)
                    have y17 : L 17 = true := up_at hu 17 (by kernel_rfl)
                    have y18 : L 18 = true := up_at hu 18 (by kernel_rfl)
                    have y19 : L 19 = true := up_at hu 19 (by kernel_rfl)
                    have y20 : L 20 = true := up_at hu 20 (by kernel_rfl)
                    have n22 : L 22 = false := not_yet hL fun h => shut_at hs 22 21 (by kernel_rfl) (h)
                    try simp only [y0, y1, y2, y3, y4, y5, y6, y7, y8, y9, y10, y11, y12, y13, y14, y15, y16, y17, y18, y19, y20, n22, hL, cond_true, cond_false] at hph
                    have e11 : (many gg_ L (VL z))[11]?.getD undef = .pointer (some ⟨xb, 0, none⟩) := many_out hgN (HOK.out z).1 (by rw [HVL.out]; rfl) hF11
                    refine opIn_run (v := .pointer (some ⟨xb, 0, none⟩)) (w' := w') rfl rfl (fun c h => by cases h) (fun _ => trivial) ?_ ⟨z, by exact many_put (HOK.out _) 21 151 _ (by rw [HVL.out]; simp) hL, hcm, by simp only [upd, y0, y1, y2, y3, y4, y5, y6, y7, y8, y9, y10, y11, y12, y13, y14, y15, y16, y17, y18, y19, y20, n22, hL, Nat.reduceBEq, cond_true, cond_false]; exact hph⟩
                    go_simp
                  · skip
                    have y0 : L 0 = true := up_at hu 0 (by kernel_rfl)
                    have y1 : L 1 = true := up_at hu 1 (by kernel_rfl)
                    have y2 : L 2 = true := up_at hu 2 (by kernel_rfl)
                    have y3 : L 3 = true := up_at hu 3 (by kernel_rfl)
                    have y4 : L 4 = true := up_at hu 4 (by kernel_rfl)
                    have y5 : L 5 = true := up_at hu 5 (by kernel_rfl)
                    have y6 : L 6 = true := up_at hu 6 (by kernel_rfl)
                    have y7 : L 7 = true := up_at hu 7 (by kernel_rfl)
                    have y8 : L 8 = true := up_at hu 8 (by kernel_rfl)
                    have y9 : L 9 = true := up_at hu 9 (by kernel_rfl)
                    have y10 : L 10 = true := up_at hu 10 (by kernel_rfl)
                    have y11 : L 11 = true := up_at hu 11 (by kernel_rfl)
                    have y12 : L 12 = true := up_at hu 12 (by kernel_rfl)
                    have y13 : L 13 = true := up_at hu 13 (by kernel_rfl)
                    have y14 : L 14 = true := up_at hu 14 (by kernel_rfl)
                    have y15 : L 15 = true := up_at hu 15 (by kernel_rfl)
                    have y16 : L 16 = true := up_at hu 16 (by kernel_rfl)
                    have y17 : L 17 = true := up_at hu 17 (by kernel_rfl)
                    have y18 : L 18 = true := up_at hu 18 (by kernel_rfl)
                    have y19 : L 19 = true := up_at hu 19 (by kernel_rfl)
                    have y20 : L 20 = true := up_at hu 20 (by kernel_rfl)
                    have y21 : L 21 = true := up_at hu 21 (by kernel_rfl)
                    try simp only [y0, y1, y2, y3, y4, y5, y6, y7, y8, y9, y10, y11, y12, y13, y14, y15, y16, y17, y18, y19, y20, y21, hL, cond_true, cond_false] at hph
                    have hc := blk_cell hph.1.comp 0
                    have hfz := hph.1.fro 0
                    have e148 : (many gg_ L (VL z))[148]?.getD undef = .int .i64 d := many_eval hgN (HOK.out z).1 (by rw [HVL.out]; simp [lookM, y16])
                    have e151 : (many gg_ L (VL z))[151]?.getD undef = .pointer (some ⟨xb, 0, none⟩) := many_eval hgN (HOK.out z).1 (by rw [HVL.out]; simp [lookM, y21])
                    refine opIn_skip (w' := w'.setCell ⟨xb, 0, none⟩ (.int .i64 d)) rfl rfl (fun c h => by cases h) (fun _ => trivial) ?_ ⟨z, by exact many_none 22 _ (by rw [HVL.out]; simp), ((hph.2.other (p := ⟨xb, 0, none⟩) hBx (.int .i64 d)).b 0 _ rfl), by simp only [upd, y0, y1, y2, y3, y4, y5, y6, y7, y8, y9, y10, y11, y12, y13, y14, y15, y16, y17, y18, y19, y20, y21, hL, Nat.reduceBEq, cond_true, cond_false]; exact ⟨hph.1.set0 d, hph.2.other (p := ⟨xb, 0, none⟩) hBx _⟩⟩
                    clear hph hcm
                    simp at hc
                    go_simp
                case fin =>
                  intro L z w' hall hph
                  obtain ⟨hcm, hph⟩ := hph
                  have l18 := hall 18 (by decide)
                  have l20 := hall 20 (by decide)
                  have l22 := hall 22 (by decide)
                  simp only [l18, l20, l22, cond_true] at hph
                  clear l18 l20 l22
                  rw [HVL.out]
                  dsimp only [manyL, List.set_cons_zero, List.set_cons_succ]
                  clear hall HVL HOK HVI
                  have HP := Lib.hid hph
                  clear hph hcm
                  go_wp2_with fail
                  go_meet
                  exact HP
             case rest =>
              have HX1 := Lib.hid hcut.out
              clear hcut HX0 HTB
              obtain ⟨VA, VC, hV, _⟩ := own_any HC.out.own
              subst hV
              obtain ⟨dn, rfl⟩ : ∃ dn : Nat, d = (dn : Int) := ⟨d.toNat, by omega⟩
              have hdn : 1 ≤ dn ∧ dn ≤ 10 := by omega
              obtain ⟨lo, hlo⟩ : ∃ v, leastF dn sg = v := ⟨_, rfl⟩
              obtain ⟨hi, hhi⟩ : ∃ v, mostF dn sg = v := ⟨_, rfl⟩
              have hbs := sa_bds dn sg (by omega)
              have BD : Hid (∀ u, Calls Try.prog 36 #[.int .i64 (dn : Int), .bool sg] u fun e w' => e = .returned (.tuple #[.int .i64 lo, .int .i64 hi]) ∧ u = w') := Lib.hid fun u => by rw [← hlo, ← hhi]; exact rbounds_any dn sg u hdn
              rw [hlo, hhi] at hbs
              have HLH : Hid (leastF dn sg = lo ∧ mostF dn sg = hi) := Lib.hid ⟨hlo, hhi⟩
              have a1 := ceil_bd X dx (by omega) (by omega)
              have a2 := ceil_bd Y dy (by omega) (by omega)
              have a3 := ceil_bd OX dx (by omega) (by omega)
              have a4 := ceil_bd OY dy (by omega) (by omega)
              have a5 := ceil_mono (show OX ≤ X by omega) (show 1 ≤ dx by omega)
              have a6 := ceil_mono (show OY ≤ Y by omega) (show 1 ≤ dy by omega)
              obtain ⟨R, hR⟩ : ∃ R : Nat, areaF X Y OX OY dx dy = (R : Int) := ⟨(areaF X Y OX OY dx dy).toNat, by
                have : 0 ≤ areaF X Y OX OY dx dy := Int.mul_nonneg (by omega) (by omega)
                omega⟩
              have hRm : R ≤ 625 := by
                have : areaF X Y OX OY dx dy ≤ 25 * 25 := Int.mul_le_mul (by omega) (by omega) (by omega) (by omega)
                omega
              have HRR := Lib.hid hR
              have CPT : Hid (∀ u, Calls Try.prog 44 #[.agg #[.int .i64 X, .int .i64 Y, .int .i64 OX, .int .i64 OY, .slice VA cs.length VC], .agg #[.int .i64 (dn : Int), .bool sg, .int .i64 dx, .int .i64 dy, .slice none 0 0]] u fun e w' => e = .returned (.int .i64 (R : Int)) ∧ Below u.heap.size u w') := Lib.hid fun u => by
                have := cpart_any X Y OX OY dn dx dy sg VA none cs.length VC 0 0 u (by omega) (by omega) (by omega) (by omega)
                rw [show (ceilF X dx - ceilF OX dx) * (ceilF Y dy - ceilF OY dy) = (R : Int) from HRR.out] at this
                exact this
              have HBX := Lib.hid HX1.out.1.comp
              have HBI := Lib.hid (HX1.out.2.b 3 _ rfl)
              have x0' : wc.cell? ⟨xb, 0, none⟩ = some (.int .i64 (dn : Int)) := blk_cell HBX.out 0
              have x1' : wc.cell? ⟨xb, 1, none⟩ = some (.bool sg) := blk_cell HBX.out 1
              have x2' : wc.cell? ⟨xb, 2, none⟩ = some (.int .i64 dx) := blk_cell HBX.out 2
              have x3' : wc.cell? ⟨xb, 3, none⟩ = some (.int .i64 dy) := blk_cell HBX.out 3
              have x4' : wc.cell? ⟨xb, 4, none⟩ = some (.slice none 0 0) := blk_cell HBX.out 4
              have i0' : wc.cell? ⟨B + 3, 0, none⟩ = some (.int .i64 X) := blk_cell HBI.out 0
              have i1' : wc.cell? ⟨B + 3, 1, none⟩ = some (.int .i64 Y) := blk_cell HBI.out 1
              have i2' : wc.cell? ⟨B + 3, 2, none⟩ = some (.int .i64 OX) := blk_cell HBI.out 2
              have i3' : wc.cell? ⟨B + 3, 3, none⟩ = some (.int .i64 OY) := blk_cell HBI.out 3
              have i4' : wc.cell? ⟨B + 3, 4, none⟩ = some (.slice VA cs.length VC) := blk_cell HBI.out 4
              clear hlo hhi hR a1 a2 a3 a4 a5 a6
              go_wp2_with fail
              refine (BD.out _).mono ?_
              rintro e w2 ⟨rfl, rfl⟩
              go_wp2_with fail
              refine (CPT.out _).mono ?_
              rintro e w2 ⟨rfl, hb⟩
              have HX2 : Hid (XDat w9 xb (dn : Int) sg dx dy (.slice none 0 0) [] w2) := Lib.hid (HX1.out.1.below hb)
              clear hb x0' x1' x2' x3' x4' i0' i1' i2' i3' i4' HBX HBI BD CPT HX1
              go_wp2_with fail
              go_loopg [15] R (fun g v wi => ∃ (i : Nat) (Vd : Value) (l : List Int), i + g = R ∧ v = .int .i64 (i : Int) ∧ Hid (l.length = i) ∧ Hid (XDat w9 xb (dn : Int) sg dx dy Vd l wi) ∧ Hid (∀ v ∈ l, lo ≤ v ∧ v ≤ hi))
              case atStart => exact ⟨0, _, [], by omega, rfl, Lib.hid rfl, HX2, Lib.hid (fun v hv => by cases hv)⟩
              case round =>
                obtain ⟨i, Vd, l, hig, rfl, HLL, HXD, HLB⟩ := hrel
                obtain ⟨wi, hwi⟩ : ∃ wi, wi = wr := ⟨wr, rfl⟩
                subst hwi
                clear HX2
                by_cases hir : i < R
                · obtain ⟨gi, rfl⟩ : ∃ gi, gk = gi + 1 := ⟨gk - 1, by omega⟩
                  have hI2 : (i : Int) < (R : Int) ∧ (0 : Int) ≤ (i : Int) := by omega
                  have HBF := Lib.hid ((HW.out.keepN HXD.out.bel hBx).b 0 _ rfl)
                  have c20 : wi.cell? ⟨B, 20, none⟩ = some (.slice A n c) := blk_cell HBF.out 20
                  have hn0 : (0 : Int) ≤ (n : Int) := by omega
                  go_upto_if 172 with fail
                  go_cut [16] from 172 to 191 (fun v wx => (∃ k : Int, v = .int .i64 k) ∧ Hid (XDat w9 xb (dn : Int) sg dx dy Vd l wx))
                  case first =>
                    by_cases hnz : 0 < n
                    · have hzl := HZ.out.2.1
                      have hml : i % n < zs.length := by rw [hzl]; exact Nat.mod_lt _ hnz
                      obtain ⟨zv, hzv⟩ : ∃ zv, zs[i % n] = zv := ⟨_, rfl⟩
                      have hzb : -9223372036854775808 ≤ zv ∧ zv ≤ 9223372036854775807 := HZ.out.2.2 zv (by rw [← hzv]; exact List.getElem_mem _)
                      obtain ⟨b, o, hA, hbl, hcb⟩ := HZ.out.1 (i % n) (.int .i64 zv) (by rw [List.getElem?_map, List.getElem?_eq_getElem hml, hzv]; rfl)
                      subst hA
                      have hcb9 : w9.cell? ⟨b, o + i % n, none⟩ = some (.int .i64 zv) := (HW.out.bel.cell (p := ⟨b, o + i % n, none⟩) (by show b < B; rw [← HBE.out]; exact hbl)).trans hcb
                      have hmlt := Nat.mod_lt i hnz
                      obtain ⟨m, hm⟩ : ∃ m, i % n = m := ⟨_, rfl⟩
                      obtain ⟨pq, hpq⟩ : ∃ pq, i / n = pq := ⟨_, rfl⟩
                      have hpqb : pq ≤ i := by rw [← hpq]; exact Nat.div_le_self _ _
                      rw [hm] at hcb9 hmlt
                      have HCE : Hid (b < xb ∧ w9.cell? ⟨b, o + m, none⟩ = some (.int .i64 zv)) := Lib.hid ⟨by have := HW.out.sz; have := HXB.out; have : b < w.heap.size := hbl; rw [HBE.out] at this; omega, hcb9⟩
                      obtain ⟨zq, hzq⟩ : ∃ zq, zv.tdiv (1 + (pq : Int)) = zq := ⟨_, rfl⟩
                      obtain ⟨s7, hs7⟩ : ∃ s7, (i : Int).tdiv 7 = s7 := ⟨_, rfl⟩
                      obtain ⟨kk, hkk⟩ : ∃ kk, IntKind.i64.wrap (zq + s7) = kk := ⟨_, rfl⟩
                      have hzqb : -9223372036854775808 ≤ zq ∧ zq ≤ 9223372036854775807 := by
                        rcases (by omega : pq = 0 ∨ 1 ≤ pq) with h | h
                        · rw [h] at hzq
                          rw [← hzq]
                          simpa using hzb
                        · have := tdiv_bd (b := 1 + (pq : Int)) hzb (by omega)
                          rw [hzq] at this
                          omega
                      have hs7b : 0 ≤ s7 ∧ s7 ≤ 625 := by rw [← hs7, Int.tdiv_eq_ediv_of_nonneg (by omega)]; omega
                      have HM : Hid ((i : Int).tmod (n : Int) = (m : Int) ∧ IntKind.i64.wrap (m : Int) = (m : Int) ∧ (i : Int).tdiv (n : Int) = (pq : Int) ∧ IntKind.i64.wrap (pq : Int) = (pq : Int) ∧ IntKind.i64.wrap (1 + (pq : Int)) = 1 + (pq : Int) ∧ IntKind.i64.wrap (zv.tdiv (1 + (pq : Int))) = zq ∧ IntKind.i64.wrap ((i : Int).tdiv 7) = s7 ∧ IntKind.i64.wrap (zq + s7) = kk) := Lib.hid
                        ⟨by rw [← hm, Int.tmod_eq_emod_of_nonneg (by omega)]; rfl, IntWalk.i64_in _ (by omega), by rw [← hpq, Int.tdiv_eq_ediv_of_nonneg (by omega)]; rfl, IntWalk.i64_in _ (by omega), IntWalk.i64_in _ (by omega), by rw [hzq]; exact IntWalk.i64_in _ (by omega), by rw [hs7]; exact IntWalk.i64_in _ (by omega), hkk⟩
                      have HBN := Lib.hid hnz
                      have HM7 : Hid (IntKind.i64.wrap ((i : Int) / 7) = s7) := Lib.hid (by rw [← Int.tdiv_eq_ediv_of_nonneg (by omega)]; exact HM.out.2.2.2.2.2.2.1)
                      clear hzl hzv hcb hcb9 hm hpq hzq hs7 hkk hml HBF c20 hn0 hbl hzb hzqb hs7b hpqb
                      have hnn : (0 : Int) < (n : Int) := by omega
                      go_upto_region 24 with fail
                      obtain ⟨VL, hVL⟩ : ∃ VL : Unit → List (Nat × Nat × Value), VL = fun z => [(0, 173, .pointer (some ⟨B, 20, none⟩)), (1, 174, .slice (some ⟨b, o, none⟩) n c), (2, 175, .int .i64 (i : Int)), (3, 176, .pointer (some ⟨B, 20, none⟩)), (4, 177, .slice (some ⟨b, o, none⟩) n c), (5, 178, .int .i64 (n : Int)), (6, 179, .int .i64 (m : Int)), (7, 180, .pointer (some ⟨b, o + m, none⟩)), (8, 181, .int .i64 zv), (9, 182, .int .i64 (i : Int)), (10, 183, .pointer (some ⟨B, 20, none⟩)), (11, 184, .slice (some ⟨b, o, none⟩) n c), (12, 185, .int .i64 (n : Int)), (13, 186, .int .i64 (pq : Int)), (14, 187, .int .i64 (1 + (pq : Int))), (15, 188, .int .i64 zq), (16, 189, .int .i64 (i : Int)), (17, 190, .int .i64 s7), (18, 191, .int .i64 kk), (19, 16, .int .i64 kk)] := ⟨_, rfl⟩
                      have hok : ∀ z, manyOk 226 (VL z) := fun z => by rw [hVL]; exact ⟨by simp, by simp, by simp⟩
                      have HVL := Lib.hid hVL
                      have hvi : ∀ z, ∀ x ∈ VL z, x.1 < 20 := fun z => by rw [hVL]; simp
                      have HOK := Lib.hid hok
                      have HVI := Lib.hid hvi
                      clear hVL hok hvi
                      refine (wpIn_wide (n := 9)).1 (regionIn_many (N := 226) (w := _) VL (fun L z w' => XDat w9 xb (dn : Int) sg dx dy Vd l w') [(2, .pointer (some ⟨B, 0, none⟩)), (15, .int .i64 (i : Int))] (by kernel_rfl) (by kernel_rfl) rfl (by simp only [List.forall_mem_cons, List.not_mem_nil, false_imp_iff, implies_true, and_true]; exact ⟨rfl, rfl⟩) HVI.out () ?start ?step ?fin)
                      case start => exact HXD.out.drew
                      case step =>
                        intro gg_ hgN hgF ii_ hii_ L z w' hph hs hu
                        have hF2 := hgF (2, .pointer (some ⟨B, 0, none⟩)) (by simp)
                        have hF15 := hgF (15, .int .i64 (i : Int)) (by simp)
                        have hL := hu.1
                        have hii_ : ii_ < 20 := hii_
                        clear hgF
                        obtain rfl | rfl | rfl | rfl | rfl | rfl | rfl | rfl | rfl | rfl | rfl | rfl | rfl | rfl | rfl | rfl | rfl | rfl | rfl | rfl := (by omega : ii_ = 0 ∨ ii_ = 1 ∨ ii_ = 2 ∨ ii_ = 3 ∨ ii_ = 4 ∨ ii_ = 5 ∨ ii_ = 6 ∨ ii_ = 7 ∨ ii_ = 8 ∨ ii_ = 9 ∨ ii_ = 10 ∨ ii_ = 11 ∨ ii_ = 12 ∨ ii_ = 13 ∨ ii_ = 14 ∨ ii_ = 15 ∨ ii_ = 16 ∨ ii_ = 17 ∨ ii_ = 18 ∨ ii_ = 19)
                        · skip
                          have e2 : (many gg_ L (VL z))[2]?.getD undef = .pointer (some ⟨B, 0, none⟩) := many_out hgN (HOK.out z).1 (by rw [HVL.out]; rfl) hF2
                          refine opIn_run (v := .pointer (some ⟨B, 20, none⟩)) (w' := w') rfl rfl (fun c h => by cases h) (fun _ => trivial) ?_ ⟨z, by exact many_put (HOK.out _) 0 173 _ (by rw [HVL.out]; simp) hL, hph⟩
                          go_simp
                        · skip
                          have y0 : L 0 = true := up_at hu 0 (by kernel_rfl)
                          have hcell : w'.cell? ⟨B, 20, none⟩ = some (.slice (some ⟨b, o, none⟩) n c) := (blk_cell ((HW.out.keepN hph.bel hBx).b 0 _ rfl) 20)
                          have e173 : (many gg_ L (VL z))[173]?.getD undef = .pointer (some ⟨B, 20, none⟩) := many_eval hgN (HOK.out z).1 (by rw [HVL.out]; simp [lookM, y0])
                          refine opIn_run (v := .slice (some ⟨b, o, none⟩) n c) (w' := w') rfl rfl (fun c h => by cases h) (fun _ => trivial) ?_ ⟨z, by exact many_put (HOK.out _) 1 174 _ (by rw [HVL.out]; simp) hL, hph⟩
                          go_simp
                        · skip
                          have e15 : (many gg_ L (VL z))[15]?.getD undef = .int .i64 (i : Int) := many_out hgN (HOK.out z).1 (by rw [HVL.out]; rfl) hF15
                          refine opIn_run (v := .int .i64 (i : Int)) (w' := w') rfl rfl (fun c h => by cases h) (fun _ => trivial) ?_ ⟨z, by exact many_put (HOK.out _) 2 175 _ (by rw [HVL.out]; simp) hL, hph⟩
                          go_simp
                        · skip
                          have e2 : (many gg_ L (VL z))[2]?.getD undef = .pointer (some ⟨B, 0, none⟩) := many_out hgN (HOK.out z).1 (by rw [HVL.out]; rfl) hF2
                          refine opIn_run (v := .pointer (some ⟨B, 20, none⟩)) (w' := w') rfl rfl (fun c h => by cases h) (fun _ => trivial) ?_ ⟨z, by exact many_put (HOK.out _) 3 176 _ (by rw [HVL.out]; simp) hL, hph⟩
                          go_simp
                        · skip
                          have y3 : L 3 = true := up_at hu 3 (by kernel_rfl)
                          have hcell : w'.cell? ⟨B, 20, none⟩ = some (.slice (some ⟨b, o, none⟩) n c) := (blk_cell ((HW.out.keepN hph.bel hBx).b 0 _ rfl) 20)
                          have e176 : (many gg_ L (VL z))[176]?.getD undef = .pointer (some ⟨B, 20, none⟩) := many_eval hgN (HOK.out z).1 (by rw [HVL.out]; simp [lookM, y3])
                          refine opIn_run (v := .slice (some ⟨b, o, none⟩) n c) (w' := w') rfl rfl (fun c h => by cases h) (fun _ => trivial) ?_ ⟨z, by exact many_put (HOK.out _) 4 177 _ (by rw [HVL.out]; simp) hL, hph⟩
                          go_simp
                        · skip
                          have y4 : L 4 = true := up_at hu 4 (by kernel_rfl)
                          have e177 : (many gg_ L (VL z))[177]?.getD undef = .slice (some ⟨b, o, none⟩) n c := many_eval hgN (HOK.out z).1 (by rw [HVL.out]; simp [lookM, y4])
                          refine opIn_run (v := .int .i64 (n : Int)) (w' := w') rfl rfl (fun c h => by cases h) (fun _ => trivial) ?_ ⟨z, by exact many_put (HOK.out _) 5 178 _ (by rw [HVL.out]; simp) hL, hph⟩
                          go_simp
                        · skip
                          have y2 : L 2 = true := up_at hu 2 (by kernel_rfl)
                          have y5 : L 5 = true := up_at hu 5 (by kernel_rfl)
                          have q1 := HM.out.1
                          have q2 := HM.out.2.1
                          have q3 : ¬ (n : Int) = 0 := by omega
                          have q3b : ¬ n = 0 := by omega
                          have e175 : (many gg_ L (VL z))[175]?.getD undef = .int .i64 (i : Int) := many_eval hgN (HOK.out z).1 (by rw [HVL.out]; simp [lookM, y2])
                          have e178 : (many gg_ L (VL z))[178]?.getD undef = .int .i64 (n : Int) := many_eval hgN (HOK.out z).1 (by rw [HVL.out]; simp [lookM, y5])
                          refine opIn_run (v := .int .i64 (m : Int)) (w' := w') rfl rfl (fun c h => by cases h) (fun _ => trivial) ?_ ⟨z, by exact many_put (HOK.out _) 6 179 _ (by rw [HVL.out]; simp) hL, hph⟩
                          go_simp
                        · skip
                          have y1 : L 1 = true := up_at hu 1 (by kernel_rfl)
                          have y6 : L 6 = true := up_at hu 6 (by kernel_rfl)
                          have q1 : (m : Int) < (n : Int) ∧ (0 : Int) ≤ (m : Int) := by omega
                          have e174 : (many gg_ L (VL z))[174]?.getD undef = .slice (some ⟨b, o, none⟩) n c := many_eval hgN (HOK.out z).1 (by rw [HVL.out]; simp [lookM, y1])
                          have e179 : (many gg_ L (VL z))[179]?.getD undef = .int .i64 (m : Int) := many_eval hgN (HOK.out z).1 (by rw [HVL.out]; simp [lookM, y6])
                          refine opIn_run (v := .pointer (some ⟨b, o + m, none⟩)) (w' := w') rfl rfl (fun c h => by cases h) (fun _ => trivial) ?_ ⟨z, by exact many_put (HOK.out _) 7 180 _ (by rw [HVL.out]; simp) hL, hph⟩
                          go_simp
                        · skip
                          have y7 : L 7 = true := up_at hu 7 (by kernel_rfl)
                          have hcell : w'.cell? ⟨b, o + m, none⟩ = some (.int .i64 zv) := (hph.bel.cell (p := ⟨b, o + m, none⟩) HCE.out.1).trans HCE.out.2
                          have e180 : (many gg_ L (VL z))[180]?.getD undef = .pointer (some ⟨b, o + m, none⟩) := many_eval hgN (HOK.out z).1 (by rw [HVL.out]; simp [lookM, y7])
                          refine opIn_run (v := .int .i64 zv) (w' := w') rfl rfl (fun c h => by cases h) (fun _ => trivial) ?_ ⟨z, by exact many_put (HOK.out _) 8 181 _ (by rw [HVL.out]; simp) hL, hph⟩
                          go_simp
                        · skip
                          have e15 : (many gg_ L (VL z))[15]?.getD undef = .int .i64 (i : Int) := many_out hgN (HOK.out z).1 (by rw [HVL.out]; rfl) hF15
                          refine opIn_run (v := .int .i64 (i : Int)) (w' := w') rfl rfl (fun c h => by cases h) (fun _ => trivial) ?_ ⟨z, by exact many_put (HOK.out _) 9 182 _ (by rw [HVL.out]; simp) hL, hph⟩
                          go_simp
                        · skip
                          have e2 : (many gg_ L (VL z))[2]?.getD undef = .pointer (some ⟨B, 0, none⟩) := many_out hgN (HOK.out z).1 (by rw [HVL.out]; rfl) hF2
                          refine opIn_run (v := .pointer (some ⟨B, 20, none⟩)) (w' := w') rfl rfl (fun c h => by cases h) (fun _ => trivial) ?_ ⟨z, by exact many_put (HOK.out _) 10 183 _ (by rw [HVL.out]; simp) hL, hph⟩
                          go_simp
                        · skip
                          have y10 : L 10 = true := up_at hu 10 (by kernel_rfl)
                          have hcell : w'.cell? ⟨B, 20, none⟩ = some (.slice (some ⟨b, o, none⟩) n c) := (blk_cell ((HW.out.keepN hph.bel hBx).b 0 _ rfl) 20)
                          have e183 : (many gg_ L (VL z))[183]?.getD undef = .pointer (some ⟨B, 20, none⟩) := many_eval hgN (HOK.out z).1 (by rw [HVL.out]; simp [lookM, y10])
                          refine opIn_run (v := .slice (some ⟨b, o, none⟩) n c) (w' := w') rfl rfl (fun c h => by cases h) (fun _ => trivial) ?_ ⟨z, by exact many_put (HOK.out _) 11 184 _ (by rw [HVL.out]; simp) hL, hph⟩
                          go_simp
                        · skip
                          have y11 : L 11 = true := up_at hu 11 (by kernel_rfl)
                          have e184 : (many gg_ L (VL z))[184]?.getD undef = .slice (some ⟨b, o, none⟩) n c := many_eval hgN (HOK.out z).1 (by rw [HVL.out]; simp [lookM, y11])
                          refine opIn_run (v := .int .i64 (n : Int)) (w' := w') rfl rfl (fun c h => by cases h) (fun _ => trivial) ?_ ⟨z, by exact many_put (HOK.out _) 12 185 _ (by rw [HVL.out]; simp) hL, hph⟩
                          go_simp
                        · skip
                          have y9 : L 9 = true := up_at hu 9 (by kernel_rfl)
                          have y12 : L 12 = true := up_at hu 12 (by kernel_rfl)
                          have q1 := HM.out.2.2.1
                          have q2 := HM.out.2.2.2.1
                          have q3 : ¬ (n : Int) = 0 := by omega
                          have q3b : ¬ n = 0 := by omega
                          have e182 : (many gg_ L (VL z))[182]?.getD undef = .int .i64 (i : Int) := many_eval hgN (HOK.out z).1 (by rw [HVL.out]; simp [lookM, y9])
                          have e185 : (many gg_ L (VL z))[185]?.getD undef = .int .i64 (n : Int) := many_eval hgN (HOK.out z).1 (by rw [HVL.out]; simp [lookM, y12])
                          refine opIn_run (v := .int .i64 (pq : Int)) (w' := w') rfl rfl (fun c h => by cases h) (fun _ => trivial) ?_ ⟨z, by exact many_put (HOK.out _) 13 186 _ (by rw [HVL.out]; simp) hL, hph⟩
                          go_simp
                        · skip
                          have y13 : L 13 = true := up_at hu 13 (by kernel_rfl)
                          have q1 := HM.out.2.2.2.2.1
                          have e186 : (many gg_ L (VL z))[186]?.getD undef = .int .i64 (pq : Int) := many_eval hgN (HOK.out z).1 (by rw [HVL.out]; simp [lookM, y13])
                          refine opIn_run (v := .int .i64 (1 + (pq : Int))) (w' := w') rfl rfl (fun c h => by cases h) (fun _ => trivial) ?_ ⟨z, by exact many_put (HOK.out _) 14 187 _ (by rw [HVL.out]; simp) hL, hph⟩
                          go_simp
                        · skip
                          have y8 : L 8 = true := up_at hu 8 (by kernel_rfl)
                          have y14 : L 14 = true := up_at hu 14 (by kernel_rfl)
                          have q1 := HM.out.2.2.2.2.2.1
                          have q3 : ¬ 1 + (pq : Int) = 0 := by omega
                          have q4 : ¬ 1 + (pq : Int) = -1 := by omega
                          have e181 : (many gg_ L (VL z))[181]?.getD undef = .int .i64 zv := many_eval hgN (HOK.out z).1 (by rw [HVL.out]; simp [lookM, y8])
                          have e187 : (many gg_ L (VL z))[187]?.getD undef = .int .i64 (1 + (pq : Int)) := many_eval hgN (HOK.out z).1 (by rw [HVL.out]; simp [lookM, y14])
                          refine opIn_run (v := .int .i64 zq) (w' := w') rfl rfl (fun c h => by cases h) (fun _ => trivial) ?_ ⟨z, by exact many_put (HOK.out _) 15 188 _ (by rw [HVL.out]; simp) hL, hph⟩
                          go_simp
                        · skip
                          have e15 : (many gg_ L (VL z))[15]?.getD undef = .int .i64 (i : Int) := many_out hgN (HOK.out z).1 (by rw [HVL.out]; rfl) hF15
                          refine opIn_run (v := .int .i64 (i : Int)) (w' := w') rfl rfl (fun c h => by cases h) (fun _ => trivial) ?_ ⟨z, by exact many_put (HOK.out _) 16 189 _ (by rw [HVL.out]; simp) hL, hph⟩
                          go_simp
                        · skip
                          have y16 : L 16 = true := up_at hu 16 (by kernel_rfl)
                          have q1 := HM.out.2.2.2.2.2.2.1
                          have q2 := HM7.out
                          have e189 : (many gg_ L (VL z))[189]?.getD undef = .int .i64 (i : Int) := many_eval hgN (HOK.out z).1 (by rw [HVL.out]; simp [lookM, y16])
                          refine opIn_run (v := .int .i64 s7) (w' := w') rfl rfl (fun c h => by cases h) (fun _ => trivial) ?_ ⟨z, by exact many_put (HOK.out _) 17 190 _ (by rw [HVL.out]; simp) hL, hph⟩
                          go_simp
                        · skip
                          have y15 : L 15 = true := up_at hu 15 (by kernel_rfl)
                          have y17 : L 17 = true := up_at hu 17 (by kernel_rfl)
                          have q1 := HM.out.2.2.2.2.2.2.2
                          have e188 : (many gg_ L (VL z))[188]?.getD undef = .int .i64 zq := many_eval hgN (HOK.out z).1 (by rw [HVL.out]; simp [lookM, y15])
                          have e190 : (many gg_ L (VL z))[190]?.getD undef = .int .i64 s7 := many_eval hgN (HOK.out z).1 (by rw [HVL.out]; simp [lookM, y17])
                          refine opIn_run (v := .int .i64 kk) (w' := w') rfl rfl (fun c h => by cases h) (fun _ => trivial) ?_ ⟨z, by exact many_put (HOK.out _) 18 191 _ (by rw [HVL.out]; simp) hL, hph⟩
                          go_simp
                        · skip
                          have y0 : L 0 = true := up_at hu 0 (by kernel_rfl)
                          have y1 : L 1 = true := up_at hu 1 (by kernel_rfl)
                          have y2 : L 2 = true := up_at hu 2 (by kernel_rfl)
                          have y3 : L 3 = true := up_at hu 3 (by kernel_rfl)
                          have y4 : L 4 = true := up_at hu 4 (by kernel_rfl)
                          have y5 : L 5 = true := up_at hu 5 (by kernel_rfl)
                          have y6 : L 6 = true := up_at hu 6 (by kernel_rfl)
                          have y7 : L 7 = true := up_at hu 7 (by kernel_rfl)
                          have y8 : L 8 = true := up_at hu 8 (by kernel_rfl)
                          have y9 : L 9 = true := up_at hu 9 (by kernel_rfl)
                          have y10 : L 10 = true := up_at hu 10 (by kernel_rfl)
                          have y11 : L 11 = true := up_at hu 11 (by kernel_rfl)
                          have y12 : L 12 = true := up_at hu 12 (by kernel_rfl)
                          have y13 : L 13 = true := up_at hu 13 (by kernel_rfl)
                          have y14 : L 14 = true := up_at hu 14 (by kernel_rfl)
                          have y15 : L 15 = true := up_at hu 15 (by kernel_rfl)
                          have y16 : L 16 = true := up_at hu 16 (by kernel_rfl)
                          have y17 : L 17 = true := up_at hu 17 (by kernel_rfl)
                          have y18 : L 18 = true := up_at hu 18 (by kernel_rfl)
                          have e191 : (many gg_ L (VL z))[191]?.getD undef = .int .i64 kk := many_eval hgN (HOK.out z).1 (by rw [HVL.out]; simp [lookM, y18])
                          refine opIn_run (v := .int .i64 kk) (w' := w') rfl rfl (fun c h => by cases h) (fun _ => trivial) ?_ ⟨z, by exact many_put (HOK.out _) 19 16 _ (by rw [HVL.out]; simp) hL, hph⟩
                          go_simp
                      case fin =>
                        intro L z w' hall hph
                        rw [HVL.out]
                        dsimp only [manyL, List.set_cons_zero, List.set_cons_succ]
                        clear hall HVL HOK HVI
                        have HP := Lib.hid hph
                        clear hph
                        go_wp2_with fail
                        go_meet
                        exact ⟨⟨_, rfl⟩, HP⟩
                    · have hn00 : n = 0 := by omega
                      have t0 : ¬ (0 : Int) < (n : Int) := by omega
                      have t1 : (n == 0) = true := by simpa using hn00
                      have HN0 := Lib.hid hn00
                      clear hn00 hnz HBF c20
                      go_wp2_with fail
                      go_meet
                      exact ⟨⟨_, rfl⟩, HXD⟩
                  case rest =>
                    obtain ⟨⟨k, rfl⟩, HX3⟩ := hcut
                    clear HXD HBF c20
                    go_upto_region 25 with fail
                    obtain ⟨M, hM⟩ : ∃ M, hi - lo + 1 = M := ⟨_, rfl⟩
                    have hMb : 1 ≤ M ∧ M ≤ 200000 := by omega
                    obtain ⟨rr, hrr⟩ : ∃ r, k % M = r := ⟨_, rfl⟩
                    have hrb := within_rng k M hMb.1
                    rw [hrr] at hrb
                    obtain ⟨sv, hsv0⟩ : ∃ s, lo + rr = s := ⟨_, rfl⟩
                    have hsv : lo ≤ sv ∧ sv ≤ hi := by omega
                    have WK : Hid (∀ u, Calls Try.prog 17 #[.int .i64 k, .int .i64 M] u fun e w' => e = .returned (.int .i64 rr) ∧ u = w') := Lib.hid fun u => by rw [← hrr]; exact within12 k M u hMb.1 (by omega)
                    have HS2 : Hid (IntKind.i64.wrap (hi - lo) = hi - lo ∧ IntKind.i64.wrap (hi - lo + 1) = M ∧ IntKind.i64.wrap (lo + rr) = sv) := Lib.hid ⟨IntWalk.i64_in _ (by omega), by rw [hM]; exact IntWalk.i64_in _ (by omega), by rw [hsv0]; exact IntWalk.i64_in _ (by omega)⟩
                    obtain ⟨l2, hl2⟩ : ∃ l2, l ++ [sv] = l2 := ⟨_, rfl⟩
                    have HL2 := Lib.hid hl2
                    clear hM hrr hsv0 hl2
                    obtain ⟨VL, hVL⟩ : ∃ VL : Nat × Option Addr × Nat → List (Nat × Nat × Value), VL = fun z => [(0, 192, .pointer (some ⟨xb, 4, none⟩)), (1, 193, Vd), (2, 194, .int .i64 lo), (3, 195, .int .i64 k), (4, 196, .int .i64 hi), (5, 197, .int .i64 lo), (6, 198, .int .i64 (hi - lo)), (7, 199, .int .i64 M), (8, 200, .int .i64 rr), (9, 201, .int .i64 sv), (10, 202, .slice (some ⟨z.1, 0, none⟩) 1 1), (11, 203, .slice z.2.1 l2.length z.2.2), (12, 204, .pointer (some ⟨xb, 4, none⟩))] := ⟨_, rfl⟩
                    have hok : ∀ z, manyOk 226 (VL z) := fun z => by rw [hVL]; exact ⟨by simp, by simp, by simp⟩
                    have HVL := Lib.hid hVL
                    have hvi : ∀ z, ∀ x ∈ VL z, x.1 < 14 := fun z => by rw [hVL]; simp
                    have HOK := Lib.hid hok
                    have HVI := Lib.hid hvi
                    clear hVL hok hvi
                    refine (wpIn_wide (n := 9)).1 (regionIn_many (N := 226) (w := _) VL (fun L z w' => (bif L 13 then (XDat w9 xb (dn : Int) sg dx dy (.slice z.2.1 l2.length z.2.2) l2 w') else (bif L 11 then (w'.heap[xb]? = some (.cells #[.int .i64 (dn : Int), .bool sg, .int .i64 dx, .int .i64 dy, Vd] 39 (0, 0)) ∧ w'.ownsRow (xb + 1) 3 1 (.slice z.2.1 l2.length z.2.2) l2.length (l2.map (Value.int .i64)) ∧ Below xb w9 w') else (bif L 10 then (XDat w9 xb (dn : Int) sg dx dy Vd l w' ∧ w'.heap[z.1]? = some (.cells #[.int .i64 sv] 3 (0, 0))) else XDat w9 xb (dn : Int) sg dx dy Vd l w')))) [(11, .pointer (some ⟨xb, 0, none⟩)), (12, .int .i64 lo), (13, .int .i64 hi), (16, .int .i64 k)] (by kernel_rfl) (by kernel_rfl) rfl (by simp only [List.forall_mem_cons, List.not_mem_nil, false_imp_iff, implies_true, and_true]; exact ⟨rfl, rfl, rfl, rfl⟩) HVI.out (0, none, 0) ?start ?step ?fin)
                    case start => exact HX3.out.drew
                    case step =>
                      intro gg_ hgN hgF ii_ hii_ L z w' hph hs hu
                      have hF11 := hgF (11, .pointer (some ⟨xb, 0, none⟩)) (by simp)
                      have hF12 := hgF (12, .int .i64 lo) (by simp)
                      have hF13 := hgF (13, .int .i64 hi) (by simp)
                      have hF16 := hgF (16, .int .i64 k) (by simp)
                      have hL := hu.1
                      have hii_ : ii_ < 14 := hii_
                      clear hgF
                      obtain rfl | rfl | rfl | rfl | rfl | rfl | rfl | rfl | rfl | rfl | rfl | rfl | rfl | rfl := (by omega : ii_ = 0 ∨ ii_ = 1 ∨ ii_ = 2 ∨ ii_ = 3 ∨ ii_ = 4 ∨ ii_ = 5 ∨ ii_ = 6 ∨ ii_ = 7 ∨ ii_ = 8 ∨ ii_ = 9 ∨ ii_ = 10 ∨ ii_ = 11 ∨ ii_ = 12 ∨ ii_ = 13)
                      · skip
                        have n11 : L 11 = false := not_yet hL fun h => shut_at hs 1 0 (by kernel_rfl) (shut_at hs 11 1 (by kernel_rfl) (h))
                        have n13 : L 13 = false := not_yet hL fun h => shut_at hs 13 0 (by kernel_rfl) (h)
                        try simp only [n11, n13, hL, cond_true, cond_false] at hph
                        have e11 : (many gg_ L (VL z))[11]?.getD undef = .pointer (some ⟨xb, 0, none⟩) := many_out hgN (HOK.out z).1 (by rw [HVL.out]; rfl) hF11
                        refine opIn_run (v := .pointer (some ⟨xb, 4, none⟩)) (w' := w') rfl rfl (fun c h => by cases h) (fun _ => trivial) ?_ ⟨z, by exact many_put (HOK.out _) 0 192 _ (by rw [HVL.out]; simp) hL, by simp only [upd, n11, n13, hL, Nat.reduceBEq, cond_true, cond_false]; exact hph⟩
                        go_simp
                      · skip
                        have y0 : L 0 = true := up_at hu 0 (by kernel_rfl)
                        have n11 : L 11 = false := not_yet hL fun h => shut_at hs 11 1 (by kernel_rfl) (h)
                        have n13 : L 13 = false := not_yet hL fun h => shut_at hs 13 1 (by kernel_rfl) (h)
                        try simp only [y0, n11, n13, hL, cond_true, cond_false] at hph
                        have hcell : w'.cell? ⟨xb, 4, none⟩ = some (Vd) := by revert hph; cases L 10 <;> (intro hph; first | exact blk_cell hph.comp 4 | exact blk_cell hph.1.comp 4)
                        have e192 : (many gg_ L (VL z))[192]?.getD undef = .pointer (some ⟨xb, 4, none⟩) := many_eval hgN (HOK.out z).1 (by rw [HVL.out]; simp [lookM, y0])
                        refine opIn_run (v := Vd) (w' := w') rfl rfl (fun c h => by cases h) (fun _ => trivial) ?_ ⟨z, by exact many_put (HOK.out _) 1 193 _ (by rw [HVL.out]; simp) hL, by simp only [upd, y0, n11, n13, hL, Nat.reduceBEq, cond_true, cond_false]; exact hph⟩
                        go_simp
                      · skip
                        have n10 : L 10 = false := not_yet hL fun h => shut_at hs 9 2 (by kernel_rfl) (shut_at hs 10 9 (by kernel_rfl) (h))
                        have n11 : L 11 = false := not_yet hL fun h => shut_at hs 9 2 (by kernel_rfl) (shut_at hs 10 9 (by kernel_rfl) (shut_at hs 11 10 (by kernel_rfl) (h)))
                        have n13 : L 13 = false := not_yet hL fun h => shut_at hs 13 2 (by kernel_rfl) (h)
                        try simp only [n10, n11, n13, hL, cond_true, cond_false] at hph
                        have e12 : (many gg_ L (VL z))[12]?.getD undef = .int .i64 lo := many_out hgN (HOK.out z).1 (by rw [HVL.out]; rfl) hF12
                        refine opIn_run (v := .int .i64 lo) (w' := w') rfl rfl (fun c h => by cases h) (fun _ => trivial) ?_ ⟨z, by exact many_put (HOK.out _) 2 194 _ (by rw [HVL.out]; simp) hL, by simp only [upd, n10, n11, n13, hL, Nat.reduceBEq, cond_true, cond_false]; exact hph⟩
                        go_simp
                      · skip
                        have n10 : L 10 = false := not_yet hL fun h => shut_at hs 8 3 (by kernel_rfl) (shut_at hs 9 8 (by kernel_rfl) (shut_at hs 10 9 (by kernel_rfl) (h)))
                        have n11 : L 11 = false := not_yet hL fun h => shut_at hs 8 3 (by kernel_rfl) (shut_at hs 11 8 (by kernel_rfl) (h))
                        have n13 : L 13 = false := not_yet hL fun h => shut_at hs 13 3 (by kernel_rfl) (h)
                        try simp only [n10, n11, n13, hL, cond_true, cond_false] at hph
                        have e16 : (many gg_ L (VL z))[16]?.getD undef = .int .i64 k := many_out hgN (HOK.out z).1 (by rw [HVL.out]; rfl) hF16
                        refine opIn_run (v := .int .i64 k) (w' := w') rfl rfl (fun c h => by cases h) (fun _ => trivial) ?_ ⟨z, by exact many_put (HOK.out _) 3 195 _ (by rw [HVL.out]; simp) hL, by simp only [upd, n10, n11, n13, hL, Nat.reduceBEq, cond_true, cond_false]; exact hph⟩
                        go_simp
                      · skip
                        have n10 : L 10 = false := not_yet hL fun h => shut_at hs 6 4 (by kernel_rfl) (shut_at hs 7 6 (by kernel_rfl) (shut_at hs 8 7 (by kernel_rfl) (shut_at hs 9 8 (by kernel_rfl) (shut_at hs 10 9 (by kernel_rfl) (h)))))
                        have n11 : L 11 = false := not_yet hL fun h => shut_at hs 6 4 (by kernel_rfl) (shut_at hs 7 6 (by kernel_rfl) (shut_at hs 8 7 (by kernel_rfl) (shut_at hs 11 8 (by kernel_rfl) (h))))
                        have n13 : L 13 = false := not_yet hL fun h => shut_at hs 13 4 (by kernel_rfl) (h)
                        try simp only [n10, n11, n13, hL, cond_true, cond_false] at hph
                        have e13 : (many gg_ L (VL z))[13]?.getD undef = .int .i64 hi := many_out hgN (HOK.out z).1 (by rw [HVL.out]; rfl) hF13
                        refine opIn_run (v := .int .i64 hi) (w' := w') rfl rfl (fun c h => by cases h) (fun _ => trivial) ?_ ⟨z, by exact many_put (HOK.out _) 4 196 _ (by rw [HVL.out]; simp) hL, by simp only [upd, n10, n11, n13, hL, Nat.reduceBEq, cond_true, cond_false]; exact hph⟩
                        go_simp
                      · skip
                        have n10 : L 10 = false := not_yet hL fun h => shut_at hs 6 5 (by kernel_rfl) (shut_at hs 7 6 (by kernel_rfl) (shut_at hs 8 7 (by kernel_rfl) (shut_at hs 9 8 (by kernel_rfl) (shut_at hs 10 9 (by kernel_rfl) (h)))))
                        have n11 : L 11 = false := not_yet hL fun h => shut_at hs 6 5 (by kernel_rfl) (shut_at hs 7 6 (by kernel_rfl) (shut_at hs 8 7 (by kernel_rfl) (shut_at hs 11 8 (by kernel_rfl) (h))))
                        have n13 : L 13 = false := not_yet hL fun h => shut_at hs 13 5 (by kernel_rfl) (h)
                        try simp only [n10, n11, n13, hL, cond_true, cond_false] at hph
                        have e12 : (many gg_ L (VL z))[12]?.getD undef = .int .i64 lo := many_out hgN (HOK.out z).1 (by rw [HVL.out]; rfl) hF12
                        refine opIn_run (v := .int .i64 lo) (w' := w') rfl rfl (fun c h => by cases h) (fun _ => trivial) ?_ ⟨z, by exact many_put (HOK.out _) 5 197 _ (by rw [HVL.out]; simp) hL, by simp only [upd, n10, n11, n13, hL, Nat.reduceBEq, cond_true, cond_false]; exact hph⟩
                        go_simp
                      · skip
                        have y4 : L 4 = true := up_at hu 4 (by kernel_rfl)
                        have y5 : L 5 = true := up_at hu 5 (by kernel_rfl)
                        have n10 : L 10 = false := not_yet hL fun h => shut_at hs 7 6 (by kernel_rfl) (shut_at hs 8 7 (by kernel_rfl) (shut_at hs 9 8 (by kernel_rfl) (shut_at hs 10 9 (by kernel_rfl) (h))))
                        have n11 : L 11 = false := not_yet hL fun h => shut_at hs 7 6 (by kernel_rfl) (shut_at hs 8 7 (by kernel_rfl) (shut_at hs 11 8 (by kernel_rfl) (h)))
                        have n13 : L 13 = false := not_yet hL fun h => shut_at hs 13 6 (by kernel_rfl) (h)
                        try simp only [y4, y5, n10, n11, n13, hL, cond_true, cond_false] at hph
                        have q1 := HS2.out.1
                        have e196 : (many gg_ L (VL z))[196]?.getD undef = .int .i64 hi := many_eval hgN (HOK.out z).1 (by rw [HVL.out]; simp [lookM, y4])
                        have e197 : (many gg_ L (VL z))[197]?.getD undef = .int .i64 lo := many_eval hgN (HOK.out z).1 (by rw [HVL.out]; simp [lookM, y5])
                        refine opIn_run (v := .int .i64 (hi - lo)) (w' := w') rfl rfl (fun c h => by cases h) (fun _ => trivial) ?_ ⟨z, by exact many_put (HOK.out _) 6 198 _ (by rw [HVL.out]; simp) hL, by simp only [upd, y4, y5, n10, n11, n13, hL, Nat.reduceBEq, cond_true, cond_false]; exact hph⟩
                        go_simp
                      · skip
                        have y6 : L 6 = true := up_at hu 6 (by kernel_rfl)
                        have n10 : L 10 = false := not_yet hL fun h => shut_at hs 8 7 (by kernel_rfl) (shut_at hs 9 8 (by kernel_rfl) (shut_at hs 10 9 (by kernel_rfl) (h)))
                        have n11 : L 11 = false := not_yet hL fun h => shut_at hs 8 7 (by kernel_rfl) (shut_at hs 11 8 (by kernel_rfl) (h))
                        have n13 : L 13 = false := not_yet hL fun h => shut_at hs 13 7 (by kernel_rfl) (h)
                        try simp only [y6, n10, n11, n13, hL, cond_true, cond_false] at hph
                        have q1 := HS2.out.2.1
                        have e198 : (many gg_ L (VL z))[198]?.getD undef = .int .i64 (hi - lo) := many_eval hgN (HOK.out z).1 (by rw [HVL.out]; simp [lookM, y6])
                        refine opIn_run (v := .int .i64 M) (w' := w') rfl rfl (fun c h => by cases h) (fun _ => trivial) ?_ ⟨z, by exact many_put (HOK.out _) 7 199 _ (by rw [HVL.out]; simp) hL, by simp only [upd, y6, n10, n11, n13, hL, Nat.reduceBEq, cond_true, cond_false]; exact hph⟩
                        go_simp
                      · skip
                        have y3 : L 3 = true := up_at hu 3 (by kernel_rfl)
                        have y7 : L 7 = true := up_at hu 7 (by kernel_rfl)
                        have n10 : L 10 = false := not_yet hL fun h => shut_at hs 9 8 (by kernel_rfl) (shut_at hs 10 9 (by kernel_rfl) (h))
                        have n11 : L 11 = false := not_yet hL fun h => shut_at hs 11 8 (by kernel_rfl) (h)
                        have n13 : L 13 = false := not_yet hL fun h => shut_at hs 13 8 (by kernel_rfl) (h)
                        try simp only [y3, y7, n10, n11, n13, hL, cond_true, cond_false] at hph
                        have e195 : (many gg_ L (VL z))[195]?.getD undef = .int .i64 k := many_eval hgN (HOK.out z).1 (by rw [HVL.out]; simp [lookM, y3])
                        have e199 : (many gg_ L (VL z))[199]?.getD undef = .int .i64 M := many_eval hgN (HOK.out z).1 (by rw [HVL.out]; simp [lookM, y7])
                        refine opIn_call (f := 17) (args := #[.int .i64 k, .int .i64 M]) (w' := w') rfl rfl (fun c h => by cases h) (fun _ => trivial) rfl (by go_simp) ((callsIn_wide.2 (WK.out w')).mono ?_)
                        rintro e w2 ⟨rfl, rfl⟩
                        exact ⟨_, rfl, z, by exact many_put (HOK.out _) 8 200 _ (by rw [HVL.out]; simp) hL, by simp only [upd, y3, y7, n10, n11, n13, hL, Nat.reduceBEq, cond_true, cond_false]; exact hph⟩
                      · skip
                        have y2 : L 2 = true := up_at hu 2 (by kernel_rfl)
                        have y8 : L 8 = true := up_at hu 8 (by kernel_rfl)
                        have n10 : L 10 = false := not_yet hL fun h => shut_at hs 10 9 (by kernel_rfl) (h)
                        have n11 : L 11 = false := not_yet hL fun h => shut_at hs 10 9 (by kernel_rfl) (shut_at hs 11 10 (by kernel_rfl) (h))
                        have n13 : L 13 = false := not_yet hL fun h => shut_at hs 13 9 (by kernel_rfl) (h)
                        try simp only [y2, y8, n10, n11, n13, hL, cond_true, cond_false] at hph
                        have q1 := HS2.out.2.2
                        have e194 : (many gg_ L (VL z))[194]?.getD undef = .int .i64 lo := many_eval hgN (HOK.out z).1 (by rw [HVL.out]; simp [lookM, y2])
                        have e200 : (many gg_ L (VL z))[200]?.getD undef = .int .i64 rr := many_eval hgN (HOK.out z).1 (by rw [HVL.out]; simp [lookM, y8])
                        refine opIn_run (v := .int .i64 sv) (w' := w') rfl rfl (fun c h => by cases h) (fun _ => trivial) ?_ ⟨z, by exact many_put (HOK.out _) 9 201 _ (by rw [HVL.out]; simp) hL, by simp only [upd, y2, y8, n10, n11, n13, hL, Nat.reduceBEq, cond_true, cond_false]; exact hph⟩
                        go_simp
                      · skip
                        have y9 : L 9 = true := up_at hu 9 (by kernel_rfl)
                        have n11 : L 11 = false := not_yet hL fun h => shut_at hs 11 10 (by kernel_rfl) (h)
                        have n13 : L 13 = false := not_yet hL fun h => shut_at hs 13 10 (by kernel_rfl) (h)
                        try simp only [y9, n11, n13, hL, cond_true, cond_false] at hph
                        have e201 : (many gg_ L (VL z))[201]?.getD undef = .int .i64 sv := many_eval hgN (HOK.out z).1 (by rw [HVL.out]; simp [lookM, y9])
                        refine opIn_run (v := (.slice (some ⟨w'.heap.size, 0, none⟩) 1 1)) (w' := w'.alloc (.cells #[.int .i64 sv] 3)) rfl rfl (fun c h => by cases h) (fun _ => trivial) ?_ ⟨(w'.heap.size, z.2), by rw [show many gg_ L (VL z) = many gg_ L (VL (w'.heap.size, z.2)) from by rw [HVL.out]; simp only [many, y9, n11, n13, hL, cond_false, cond_true]]; exact many_put (HOK.out _) 10 202 _ (by rw [HVL.out]; simp) hL, by simp only [upd, y9, n11, n13, hL, Nat.reduceBEq, cond_true, cond_false]; exact ⟨hph.alloc _, World.alloc_heap_new w' _⟩⟩
                        clear hph
                        go_simp
                      · skip
                        have y1 : L 1 = true := up_at hu 1 (by kernel_rfl)
                        have y8 : L 8 = true := up_at hu 8 (by kernel_rfl)
                        have y10 : L 10 = true := up_at hu 10 (by kernel_rfl)
                        have n13 : L 13 = false := not_yet hL fun h => shut_at hs 13 11 (by kernel_rfl) (h)
                        try simp only [y1, y8, y10, n13, hL, cond_true, cond_false] at hph
                        obtain ⟨U, w2, hr, h1, h2, h3⟩ := hph.1.app hph.2 (by have := HLL.out; omega)
                        rw [HL2.out] at h2
                        obtain ⟨UA, UC, hU, _⟩ := own_any h2
                        subst hU
                        have e193 : (many gg_ L (VL z))[193]?.getD undef = Vd := many_eval hgN (HOK.out z).1 (by rw [HVL.out]; simp [lookM, y1])
                        have e202 : (many gg_ L (VL z))[202]?.getD undef = .slice (some ⟨z.1, 0, none⟩) 1 1 := many_eval hgN (HOK.out z).1 (by rw [HVL.out]; simp [lookM, y10])
                        refine opIn_run (v := (.slice UA l2.length UC)) (w' := w2) rfl rfl (fun c h => by cases h) (fun _ => trivial) ?_ ⟨(z.1, UA, UC), by rw [show many gg_ L (VL z) = many gg_ L (VL (z.1, UA, UC)) from by rw [HVL.out]; simp only [many, y1, y8, y10, n13, hL, cond_false, cond_true]]; exact many_put (HOK.out _) 11 203 _ (by rw [HVL.out]; simp) hL, by simp only [upd, y1, y8, y10, n13, hL, Nat.reduceBEq, cond_true, cond_false]; exact ⟨h1, h2, h3⟩⟩
                        clear h1 h2 h3 hph
                        go_simp
                      · skip
                        have y0 : L 0 = true := up_at hu 0 (by kernel_rfl)
                        have y1 : L 1 = true := up_at hu 1 (by kernel_rfl)
                        have y2 : L 2 = true := up_at hu 2 (by kernel_rfl)
                        have y3 : L 3 = true := up_at hu 3 (by kernel_rfl)
                        have y4 : L 4 = true := up_at hu 4 (by kernel_rfl)
                        have y5 : L 5 = true := up_at hu 5 (by kernel_rfl)
                        have y6 : L 6 = true := up_at hu 6 (by kernel_rfl)
                        have y7 : L 7 = true := up_at hu 7 (by kernel_rfl)
                        have y8 : L 8 = true := up_at hu 8 (by kernel_rfl)
                        have y9 : L 9 = true := up_at hu 9 (by kernel_rfl)
                        have y10 : L 10 = true := up_at hu 10 (by kernel_rfl)
                        have y11 : L 11 = true := up_at hu 11 (by kernel_rfl)
                        have n13 : L 13 = false := not_yet hL fun h => shut_at hs 13 12 (by kernel_rfl) (h)
                        try simp only [y0, y1, y2, y3, y4, y5, y6, y7, y8, y9, y10, y11, n13, hL, cond_true, cond_false] at hph
                        have e11 : (many gg_ L (VL z))[11]?.getD undef = .pointer (some ⟨xb, 0, none⟩) := many_out hgN (HOK.out z).1 (by rw [HVL.out]; rfl) hF11
                        refine opIn_run (v := .pointer (some ⟨xb, 4, none⟩)) (w' := w') rfl rfl (fun c h => by cases h) (fun _ => trivial) ?_ ⟨z, by exact many_put (HOK.out _) 12 204 _ (by rw [HVL.out]; simp) hL, by simp only [upd, y0, y1, y2, y3, y4, y5, y6, y7, y8, y9, y10, y11, n13, hL, Nat.reduceBEq, cond_true, cond_false]; exact hph⟩
                        go_simp
                      · skip
                        have y0 : L 0 = true := up_at hu 0 (by kernel_rfl)
                        have y1 : L 1 = true := up_at hu 1 (by kernel_rfl)
                        have y2 : L 2 = true := up_at hu 2 (by kernel_rfl)
                        have y3 : L 3 = true := up_at hu 3 (by kernel_rfl)
                        have y4 : L 4 = true := up_at hu 4 (by kernel_rfl)
                        have y5 : L 5 = true := up_at hu 5 (by kernel_rfl)
                        have y6 : L 6 = true := up_at hu 6 (by kernel_rfl)
                        have y7 : L 7 = true := up_at hu 7 (by kernel_rfl)
                        have y8 : L 8 = true := up_at hu 8 (by kernel_rfl)
                        have y9 : L 9 = true := up_at hu 9 (by kernel_rfl)
                        have y10 : L 10 = true := up_at hu 10 (by kernel_rfl)
                        have y11 : L 11 = true := up_at hu 11 (by kernel_rfl)
                        have y12 : L 12 = true := up_at hu 12 (by kernel_rfl)
                        try simp only [y0, y1, y2, y3, y4, y5, y6, y7, y8, y9, y10, y11, y12, hL, cond_true, cond_false] at hph
                        have hc := blk_cell hph.1 4
                        have hfz : w'.frozen? ⟨xb, 4, none⟩ = false := by simp [World.frozen?, hph.1]
                        have e203 : (many gg_ L (VL z))[203]?.getD undef = .slice z.2.1 l2.length z.2.2 := many_eval hgN (HOK.out z).1 (by rw [HVL.out]; simp [lookM, y11])
                        have e204 : (many gg_ L (VL z))[204]?.getD undef = .pointer (some ⟨xb, 4, none⟩) := many_eval hgN (HOK.out z).1 (by rw [HVL.out]; simp [lookM, y12])
                        refine opIn_skip (w' := w'.setCell ⟨xb, 4, none⟩ (.slice z.2.1 l2.length z.2.2)) rfl rfl (fun c h => by cases h) (fun _ => trivial) ?_ ⟨z, by exact many_none 13 _ (by rw [HVL.out]; simp), by simp only [upd, y0, y1, y2, y3, y4, y5, y6, y7, y8, y9, y10, y11, y12, hL, Nat.reduceBEq, cond_true, cond_false]; exact XDat.set hph.1 hph.2.1 hph.2.2⟩
                        clear hph
                        simp at hc
                        go_simp
                    case fin =>
                      intro L z w' hall hph
                      have l10 := hall 10 (by decide)
                      have l11 := hall 11 (by decide)
                      have l13 := hall 13 (by decide)
                      simp only [l10, l11, l13, cond_true] at hph
                      clear l10 l11 l13
                      rw [HVL.out]
                      dsimp only [manyL, List.set_cons_zero, List.set_cons_succ]
                      clear hall HVL HOK HVI
                      have HP := Lib.hid hph
                      clear hph
                      go_wp2_with fail
                      go_roundg gi
                      case measure => omega
                      case rel => exact ⟨i + 1, _, l2, by omega, by go_num, Lib.hid (by rw [← HL2.out]; simp [HLL.out]), HP, Lib.hid (by
                        intro v hv
                        rw [← HL2.out] at hv
                        rcases List.mem_append.1 hv with hv | hv
                        · exact HLB.out v hv
                        · simp at hv; rw [hv]; exact hsv)⟩
                · obtain rfl : i = R := by omega
                  have hnlt : ¬ (i : Int) < (i : Int) := by omega
                  obtain ⟨VdA, VdC, hVd, _⟩ := own_any HXD.out.own
                  subst hVd
                  obtain ⟨A2, C2, w5, hr, hcell, hfz, hM5, hC5⟩ := add_cp (c := ⟨(dn : Int), sg, dx, dy, VdA, l.length, VdC⟩) l HW.out rfl rfl HC.out HXB.out (by have := HCL.out; omega) HXD.out rfl (by rw [show (Int.toNat (dn : Int)) = dn from Int.toNat_natCast dn, HLH.out.1, HLH.out.2]; exact HLB.out)
                  have HM9 := Lib.hid hM5
                  have HC9 := Lib.hid hC5
                  have HBX := Lib.hid HXD.out.comp
                  have HBI := Lib.hid ((HW.out.keepN HXD.out.bel hBx).b 3 _ rfl)
                  have x0' : wi.cell? ⟨xb, 0, none⟩ = some (.int .i64 (dn : Int)) := blk_cell HBX.out 0
                  have x1' : wi.cell? ⟨xb, 1, none⟩ = some (.bool sg) := blk_cell HBX.out 1
                  have x2' : wi.cell? ⟨xb, 2, none⟩ = some (.int .i64 dx) := blk_cell HBX.out 2
                  have x3' : wi.cell? ⟨xb, 3, none⟩ = some (.int .i64 dy) := blk_cell HBX.out 3
                  have x4' : wi.cell? ⟨xb, 4, none⟩ = some (.slice VdA l.length VdC) := blk_cell HBX.out 4
                  have i4' : wi.cell? ⟨B + 3, 4, none⟩ = some (.slice VA cs.length VC) := blk_cell HBI.out 4
                  clear HBX HBI hM5 hC5
                  go_wp2_with fail
                  go_roundg g1
                  case measure => omega
                  case rel => exact ⟨j + 1, _, cs ++ [⟨(dn : Int), sg, dx, dy, VdA, l.length, VdC⟩], by omega, by go_num, Lib.hid (by simp [HCL.out]), HM9, HC9, Lib.hid (by
                    intro q c' e
                    rcases Nat.lt_or_ge q cs.length with h | h
                    · rw [List.getElem?_append_left h] at e
                      exact HK.out q c' e
                    · rw [List.getElem?_append_right h] at e
                      have h0 : q - cs.length = 0 := by
                        rcases Nat.eq_zero_or_pos (q - cs.length) with h0 | h0
                        · exact h0
                        · rw [List.getElem?_eq_none (by simp; omega)] at e; cases e
                      rw [h0] at e
                      simp at e
                      subst e
                      have hqj : q = j := by have := HCL.out; omega
                      rw [hqj]
                      refine ⟨by rw [HCP.out], rfl, by rw [HCP.out], by rw [HCP.out], ?_⟩
                      rw [HRR.out, HLL.out])⟩
          · obtain rfl : j = N := by omega
            have hnlt : ¬ (j : Int) < (j : Int) := by omega
            obtain ⟨VA, VC, hV, _⟩ := own_any HC.out.own
            subst hV
            rw [HCL.out] at HW HC
            have HB0 := Lib.hid (HW.out.b 0 _ rfl)
            have cF8 : w9.cell? ⟨B, 8, none⟩ = some (.bool rc) := blk_cell HB0.out 8
            have cF6 : w9.cell? ⟨B, 6, none⟩ = some (.int .i64 sb) := blk_cell HB0.out 6
            have hp9 : w9.cell? ⟨B + 4, 9, none⟩ = some (.bool false) := blk_cell (HW.out.b 4 _ rfl) 9
            have hf9 := HW.out.fro (i := 4) rfl 9
            have HS9 : Hid (∀ b : Bool, MkW w B ([((fmA x y ox oy nc dp sb sg rc so ep tx ty lv bw bh pr st od ly A n c), 29), (#[.int .i64 0, .int .i64 0, .int .i64 0, .int .i64 0, .slice none 0 0], 24), (#[.int .i64 0, .int .i64 0, .int .i64 0, .int .i64 0, .int .i64 0, .int .i64 0, .int .i64 0, .int .i64 0, .int .i64 0, .bool false, .bool false, .bool false], 26), (#[.int .i64 X, .int .i64 Y, .int .i64 OX, .int .i64 OY, .slice VA j VC], 24), (#[.int .i64 FTX, .int .i64 FTY, .int .i64 LV, .int .i64 BW, .int .i64 BH, .int .i64 PR, .int .i64 ST, .int .i64 OD, .int .i64 LY, .bool RCT, .bool so, .bool ep], 26)].set 4 (#[.int .i64 FTX, .int .i64 FTY, .int .i64 LV, .int .i64 BW, .int .i64 BH, .int .i64 PR, .int .i64 ST, .int .i64 OD, .int .i64 LY, .bool b, .bool so, .bool ep], 26)) (w9.setCell ⟨B + 4, 9, none⟩ (.bool b)) ∧ CRow (B + 5) (w9.setCell ⟨B + 4, 9, none⟩ (.bool b)) (.slice VA j VC) cs) := Lib.hid fun b => ⟨HW.out.set (i := 4) rfl rfl 9 (.bool b), HC.out.setCell (t := 26) (HW.out.b 4 _ rfl) (by decide) (by decide) _⟩
            clear HB0
            go_upto_region 27 with fail
            go_cut [] from 211 to 223 (fun wx => Hid (MkW w B [((fmA x y ox oy nc dp sb sg rc so ep tx ty lv bw bh pr st od ly A n c), 29), (#[.int .i64 0, .int .i64 0, .int .i64 0, .int .i64 0, .slice none 0 0], 24), (#[.int .i64 0, .int .i64 0, .int .i64 0, .int .i64 0, .int .i64 0, .int .i64 0, .int .i64 0, .int .i64 0, .int .i64 0, .bool false, .bool false, .bool false], 26), (#[.int .i64 X, .int .i64 Y, .int .i64 OX, .int .i64 OY, .slice VA j VC], 24), (#[.int .i64 FTX, .int .i64 FTY, .int .i64 LV, .int .i64 BW, .int .i64 BH, .int .i64 PR, .int .i64 ST, .int .i64 OD, .int .i64 LY, .bool RCT, .bool so, .bool ep], 26)] wx ∧ CRow (B + 5) wx (.slice VA j VC) cs))
            case first =>
              have hrct := HQQ.out.2.2
              cases rc with
              | false =>
                have HRC : Hid (false = RCT) := Lib.hid (by rw [← hrct]; rfl)
                clear hrct
                go_wp2_with fail
                go_meet
                rw [← HRC.out]
                exact Lib.hid (HS9.out false)
              | true =>
                by_cases c3 : 3 ≤ j
                · by_cases c1 : sb.tmod 5 = 1
                  · have HRC : Hid (false = RCT) := Lib.hid (by rw [← hrct]; simp [c1])
                    have k1 : (sb.tmod 5 != 1) = false := by simp [c1]
                    have k3 : (3 : Int) ≤ (j : Int) := by omega
                    clear hrct
                    go_wp2_with fail
                    go_meet
                    rw [← HRC.out]
                    exact Lib.hid (HS9.out false)
                  · have HRC : Hid (true = RCT) := Lib.hid (by rw [← hrct]; simp [c1, c3])
                    have k1 : (sb.tmod 5 != 1) = true := by simp [c1]
                    have k3 : (3 : Int) ≤ (j : Int) := by omega
                    clear hrct
                    go_wp2_with fail
                    go_meet
                    rw [← HRC.out]
                    exact Lib.hid (HS9.out true)
                · have HRC : Hid (false = RCT) := Lib.hid (by rw [← hrct]; simp [c3])
                  have k3 : ¬ (3 : Int) ≤ (j : Int) := by omega
                  clear hrct
                  go_wp2_with fail
                  go_meet
                  rw [← HRC.out]
                  exact Lib.hid (HS9.out false)
            case rest =>
             have HFI := Lib.hid hcut.out
             clear hcut HS9 cF8 cF6 hp9 hf9 HW HC
             go_upto_region 28 with fail
             obtain ⟨VL, hVL⟩ : ∃ VL : Unit → List (Nat × Nat × Value), VL = fun z => [(0, 224, .agg #[.int .i64 X, .int .i64 Y, .int .i64 OX, .int .i64 OY, .slice VA j VC]), (1, 225, .agg #[.int .i64 FTX, .int .i64 FTY, .int .i64 LV, .int .i64 BW, .int .i64 BH, .int .i64 PR, .int .i64 ST, .int .i64 OD, .int .i64 LY, .bool RCT, .bool so, .bool ep])] := ⟨_, rfl⟩
             have hok : ∀ z, manyOk 226 (VL z) := fun z => by rw [hVL]; exact ⟨by simp, by simp, by simp⟩
             have HVL := Lib.hid hVL
             have hvi : ∀ z, ∀ x ∈ VL z, x.1 < 4 := fun z => by rw [hVL]; simp
             have HOK := Lib.hid hok
             have HVI := Lib.hid hvi
             clear hVL hok hvi
             refine (wpIn_wide (n := 9)).1 (regionIn_many (N := 226) (w := _) VL (fun L z w' => (bif L 3 then (MkW w B [((fmA x y ox oy nc dp sb sg rc so ep tx ty lv bw bh pr st od ly A n c), 29), (#[.int .i64 X, .int .i64 Y, .int .i64 OX, .int .i64 OY, .slice VA j VC], 24), (#[.int .i64 FTX, .int .i64 FTY, .int .i64 LV, .int .i64 BW, .int .i64 BH, .int .i64 PR, .int .i64 ST, .int .i64 OD, .int .i64 LY, .bool RCT, .bool so, .bool ep], 26), (#[.int .i64 X, .int .i64 Y, .int .i64 OX, .int .i64 OY, .slice VA j VC], 24), (#[.int .i64 FTX, .int .i64 FTY, .int .i64 LV, .int .i64 BW, .int .i64 BH, .int .i64 PR, .int .i64 ST, .int .i64 OD, .int .i64 LY, .bool RCT, .bool so, .bool ep], 26)] w' ∧ CRow (B + 5) w' (.slice VA j VC) cs) else (bif L 2 then (MkW w B [((fmA x y ox oy nc dp sb sg rc so ep tx ty lv bw bh pr st od ly A n c), 29), (#[.int .i64 X, .int .i64 Y, .int .i64 OX, .int .i64 OY, .slice VA j VC], 24), (#[.int .i64 0, .int .i64 0, .int .i64 0, .int .i64 0, .int .i64 0, .int .i64 0, .int .i64 0, .int .i64 0, .int .i64 0, .bool false, .bool false, .bool false], 26), (#[.int .i64 X, .int .i64 Y, .int .i64 OX, .int .i64 OY, .slice VA j VC], 24), (#[.int .i64 FTX, .int .i64 FTY, .int .i64 LV, .int .i64 BW, .int .i64 BH, .int .i64 PR, .int .i64 ST, .int .i64 OD, .int .i64 LY, .bool RCT, .bool so, .bool ep], 26)] w' ∧ CRow (B + 5) w' (.slice VA j VC) cs) else MkW w B [((fmA x y ox oy nc dp sb sg rc so ep tx ty lv bw bh pr st od ly A n c), 29), (#[.int .i64 0, .int .i64 0, .int .i64 0, .int .i64 0, .slice none 0 0], 24), (#[.int .i64 0, .int .i64 0, .int .i64 0, .int .i64 0, .int .i64 0, .int .i64 0, .int .i64 0, .int .i64 0, .int .i64 0, .bool false, .bool false, .bool false], 26), (#[.int .i64 X, .int .i64 Y, .int .i64 OX, .int .i64 OY, .slice VA j VC], 24), (#[.int .i64 FTX, .int .i64 FTY, .int .i64 LV, .int .i64 BW, .int .i64 BH, .int .i64 PR, .int .i64 ST, .int .i64 OD, .int .i64 LY, .bool RCT, .bool so, .bool ep], 26)] w' ∧ CRow (B + 5) w' (.slice VA j VC) cs))) [(4, .pointer (some ⟨B + 1, 0, none⟩)), (5, .pointer (some ⟨B + 2, 0, none⟩)), (6, .pointer (some ⟨B + 3, 0, none⟩)), (7, .pointer (some ⟨B + 4, 0, none⟩))] (by kernel_rfl) (by kernel_rfl) rfl (by simp only [List.forall_mem_cons, List.not_mem_nil, false_imp_iff, implies_true, and_true]; exact ⟨rfl, rfl, rfl, rfl⟩) HVI.out () ?start ?step ?fin)
             case start => exact ⟨HFI.out.1.drew, HFI.out.2.drewN 1⟩
             case step =>
               intro gg_ hgN hgF ii_ hii_ L z w' hph hs hu
               have hF4 := hgF (4, .pointer (some ⟨B + 1, 0, none⟩)) (by simp)
               have hF5 := hgF (5, .pointer (some ⟨B + 2, 0, none⟩)) (by simp)
               have hF6 := hgF (6, .pointer (some ⟨B + 3, 0, none⟩)) (by simp)
               have hF7 := hgF (7, .pointer (some ⟨B + 4, 0, none⟩)) (by simp)
               have hL := hu.1
               have hii_ : ii_ < 4 := hii_
               clear hgF
               obtain rfl | rfl | rfl | rfl := (by omega : ii_ = 0 ∨ ii_ = 1 ∨ ii_ = 2 ∨ ii_ = 3)
               · skip
                 have n2 : L 2 = false := not_yet hL fun h => shut_at hs 2 0 (by kernel_rfl) (h)
                 have n3 : L 3 = false := not_yet hL fun h => shut_at hs 3 0 (by kernel_rfl) (h)
                 try simp only [n2, n3, hL, cond_true, cond_false] at hph
                 obtain ⟨g0, g1, g2, g3, g4⟩ := img_cells (hph.1.b 3 _ rfl)
                 have HPH := Lib.hid hph
                 have e6 : (many gg_ L (VL z))[6]?.getD undef = .pointer (some ⟨B + 3, 0, none⟩) := many_out hgN (HOK.out z).1 (by rw [HVL.out]; rfl) hF6
                 refine opIn_run (v := .agg #[.int .i64 X, .int .i64 Y, .int .i64 OX, .int .i64 OY, .slice VA j VC]) (w' := w') rfl rfl (fun c h => by cases h) (fun _ => trivial) ?_ ⟨z, by exact many_put (HOK.out _) 0 224 _ (by rw [HVL.out]; simp) hL, by simp only [upd, n2, n3, hL, Nat.reduceBEq, cond_true, cond_false]; exact hph⟩
                 go_simp
               · skip
                 have n3 : L 3 = false := not_yet hL fun h => shut_at hs 3 1 (by kernel_rfl) (h)
                 try simp only [n3, hL, cond_true, cond_false] at hph
                 have hB4 : w'.heap[B + 4]? = some (.cells #[.int .i64 FTX, .int .i64 FTY, .int .i64 LV, .int .i64 BW, .int .i64 BH, .int .i64 PR, .int .i64 ST, .int .i64 OD, .int .i64 LY, .bool RCT, .bool so, .bool ep] 26 (0, 0)) := by revert hph; cases L 2 <;> (intro hph; exact hph.1.b 4 _ rfl)
                 obtain ⟨g0, g1, g2, g3, g4, g5, g6, g7, g8, g9, g10, g11⟩ := par_cells hB4
                 have e7 : (many gg_ L (VL z))[7]?.getD undef = .pointer (some ⟨B + 4, 0, none⟩) := many_out hgN (HOK.out z).1 (by rw [HVL.out]; rfl) hF7
                 refine opIn_run (v := .agg #[.int .i64 FTX, .int .i64 FTY, .int .i64 LV, .int .i64 BW, .int .i64 BH, .int .i64 PR, .int .i64 ST, .int .i64 OD, .int .i64 LY, .bool RCT, .bool so, .bool ep]) (w' := w') rfl rfl (fun c h => by cases h) (fun _ => trivial) ?_ ⟨z, by exact many_put (HOK.out _) 1 225 _ (by rw [HVL.out]; simp) hL, by simp only [upd, n3, hL, Nat.reduceBEq, cond_true, cond_false]; exact hph⟩
                 go_simp
               · skip
                 have y0 : L 0 = true := up_at hu 0 (by kernel_rfl)
                 have n3 : L 3 = false := not_yet hL fun h => shut_at hs 3 2 (by kernel_rfl) (h)
                 try simp only [y0, n3, hL, cond_true, cond_false] at hph
                 have e4 : (many gg_ L (VL z))[4]?.getD undef = .pointer (some ⟨B + 1, 0, none⟩) := many_out hgN (HOK.out z).1 (by rw [HVL.out]; rfl) hF4
                 have e224 : (many gg_ L (VL z))[224]?.getD undef = .agg #[.int .i64 X, .int .i64 Y, .int .i64 OX, .int .i64 OY, .slice VA j VC] := many_eval hgN (HOK.out z).1 (by rw [HVL.out]; simp [lookM, y0])
                 refine opIn_skip (w' := w'.setRow (B + 1) #[.int .i64 X, .int .i64 Y, .int .i64 OX, .int .i64 OY, .slice VA j VC]) rfl rfl (fun c h => by cases h) (fun _ => trivial) ?_ ⟨z, by exact many_none 2 _ (by rw [HVL.out]; simp), by simp only [upd, y0, n3, hL, Nat.reduceBEq, cond_true, cond_false]; exact ⟨hph.1.row (i := 1) rfl rfl _, hph.2.setRow (t := 24) (hph.1.b 1 _ rfl) (by decide) (by decide) _⟩⟩
                 exact run_store_many e4 e224 (hph.1.b 1 _ rfl) (by kernel_rfl) rfl (by kernel_rfl)
               · skip
                 have y0 : L 0 = true := up_at hu 0 (by kernel_rfl)
                 have y1 : L 1 = true := up_at hu 1 (by kernel_rfl)
                 have y2 : L 2 = true := up_at hu 2 (by kernel_rfl)
                 try simp only [y0, y1, y2, hL, cond_true, cond_false] at hph
                 have e5 : (many gg_ L (VL z))[5]?.getD undef = .pointer (some ⟨B + 2, 0, none⟩) := many_out hgN (HOK.out z).1 (by rw [HVL.out]; rfl) hF5
                 have e225 : (many gg_ L (VL z))[225]?.getD undef = .agg #[.int .i64 FTX, .int .i64 FTY, .int .i64 LV, .int .i64 BW, .int .i64 BH, .int .i64 PR, .int .i64 ST, .int .i64 OD, .int .i64 LY, .bool RCT, .bool so, .bool ep] := many_eval hgN (HOK.out z).1 (by rw [HVL.out]; simp [lookM, y1])
                 refine opIn_skip (w' := w'.setRow (B + 2) #[.int .i64 FTX, .int .i64 FTY, .int .i64 LV, .int .i64 BW, .int .i64 BH, .int .i64 PR, .int .i64 ST, .int .i64 OD, .int .i64 LY, .bool RCT, .bool so, .bool ep]) rfl rfl (fun c h => by cases h) (fun _ => trivial) ?_ ⟨z, by exact many_none 3 _ (by rw [HVL.out]; simp), by simp only [upd, y0, y1, y2, hL, Nat.reduceBEq, cond_true, cond_false]; exact ⟨hph.1.row (i := 2) rfl rfl _, hph.2.setRow (t := 26) (hph.1.b 2 _ rfl) (by decide) (by decide) _⟩⟩
                 exact run_store_many e5 e225 (hph.1.b 2 _ rfl) (by kernel_rfl) rfl (by kernel_rfl)
             case fin =>
               intro L z w' hall hph
               have l2 := hall 2 (by decide)
               have l3 := hall 3 (by decide)
               simp only [l2, l3, cond_true] at hph
               clear l2 l3
               rw [HVL.out]
               dsimp only [manyL, List.set_cons_zero, List.set_cons_succ]
               clear hall HVL HOK HVI
               have HP := Lib.hid hph
               clear hph
               go_wp2_with fail
               obtain ⟨g0, g1, g2, g3, g4⟩ := img_cells (HP.out.1.b 1 _ rfl)
               obtain ⟨k0, k1, k2, k3, k4, k5, k6, k7, k8, k9, k10, k11⟩ := par_cells (HP.out.1.b 2 _ rfl)
               refine bodyPost_ret (v := .tuple #[.agg #[.int .i64 X, .int .i64 Y, .int .i64 OX, .int .i64 OY, .slice VA j VC], .agg #[.int .i64 FTX, .int .i64 FTY, .int .i64 LV, .int .i64 BW, .int .i64 BH, .int .i64 PR, .int .i64 ST, .int .i64 OD, .int .i64 LY, .bool RCT, .bool so, .bool ep]]) (by simp [results, Try.results16, go_sem, g0, g1, g2, g3, g4, k0, k1, k2, k3, k4, k5, k6, k7, k8, k9, k10, k11]) rfl ?_
               have hlow : CRow w.heap.size w' (.slice VA j VC) cs := ⟨own_low (by have := HP.out.2.own; rw [HCL.out] at this; rw [HCL.out]; exact this) (by rw [HBE.out]; omega), fun c' hc' => (HP.out.2.dat c' hc').low (by rw [HBE.out]; omega)⟩
               exact ⟨VA, VC, rfl, cs, HCL.out, hlow, HK.out, by rw [HBE.out]; exact HP.out.1.bel, HCN.out⟩
end Go.Proofs.Ythcpmonahmogaaa
