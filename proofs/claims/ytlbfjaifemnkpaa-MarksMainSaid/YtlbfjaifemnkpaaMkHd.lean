/- marks: a Head of raw numbers. -/
import Derived.Test.YtlbfjaifemnkpaaMkKn
import Derived.Test.YtlbfjaifemnkpaaCvMk
import Derived.Laws.Rows
set_option linter.unusedVariables false
set_option linter.unusedSimpArgs false
namespace Go.Proofs.Ytlbfjaifemnkpaa
open Go.RowKit
set_option maxRecDepth 100000
theorem alloc2_a (w : World) (o o' : Obj) : ((w.alloc o).alloc o').heap[w.heap.size]? = some o := (Below.heap_alloc _ _ _ (by unfold World.alloc; simp)).trans (World.alloc_heap_new w o)
theorem alloc2_b (w : World) (o o' : Obj) : ((w.alloc o).alloc o').heap[w.heap.size + 1]? = some o' := by
  have := World.alloc_heap_new (w.alloc o) o'
  rwa [show (w.alloc o).heap.size = w.heap.size + 1 from by unfold World.alloc; simp] at this
/-- A Head's cells. -/
@[reducible] def PN.hd (m : PN) (A2 : Option Addr) (N C2 : Nat) (V : Value) : Array Value := #[.int .i64 m.X, .int .i64 m.Y, .int .i64 m.OX, .int .i64 m.OY, .slice A2 N C2, .int .i64 m.TX, .int .i64 m.TY, .int .i64 (m.LV : Int), .int .i64 (m.BW : Int), .int .i64 (m.BH : Int), .int .i64 (m.PR : Int), .int .i64 m.ST, .int .i64 m.OD, .int .i64 (m.LY : Int), .bool m.RC, .bool m.SO, .bool m.EP, V]
set_option maxHeartbeats 16000000 in
theorem head_any (f : FN) (A0 : Option Addr) (len0 cap0 : Nat) (z0 : List Int) (SA : Option Addr) (sn sc : Nat) (w : World) (w0 : IsRow .i64 w A0 len0 cap0 z0) (s0 : -9223372036854775808 ≤ f.sb ∧ f.sb ≤ 9223372036854775807) :
    Calls Try.prog 12 #[.agg (f.arr A0 len0 cap0), .slice SA sn sc] w fun e w' => ∃ (A2 : Option Addr) (C2 : Nat) (cs : List Cp), e = .returned (.agg ((mkPN f 8).hd A2 (mkN f) C2 (.slice SA sn sc))) ∧ cs.length = mkN f ∧ CRow w.heap.size w' (.slice A2 (mkN f) C2) cs ∧
      (∀ i c, cs[i]? = some c → KeyIs (mkPN f 8).X (mkPN f 8).Y (mkPN f 8).OX (mkPN f 8).OY f.sb (mkDP f) f.sg i c) ∧ Below w.heap.size w w' ∧ ((1 ≤ (mkPN f 8).TX ∧ (mkPN f 8).TX ≤ 832) ∧ (1 ≤ (mkPN f 8).TY ∧ (mkPN f 8).TY ≤ 832) ∧ cntT (mkPN f 8).X (mkPN f 8).Y (mkPN f 8).TX (mkPN f 8).TY ≤ 6) := by
  have MK := Lib.hid (fun u hu => make_any f A0 len0 cap0 z0 8 u (by omega) hu s0)
  obtain ⟨fc, hfc⟩ : ∃ fc, f.arr A0 len0 cap0 = fc := ⟨_, rfl⟩
  have hfs : fc.size = 21 := by rw [← hfc]; rfl
  rw [hfc] at MK ⊢
  have HFS := Lib.hid hfs
  clear hfc hfs
  obtain ⟨M, hM⟩ : ∃ M, mkPN f 8 = M := ⟨_, rfl⟩
  obtain ⟨N, hN⟩ : ∃ N, mkN f = N := ⟨_, rfl⟩
  obtain ⟨DP, hDP⟩ : ∃ D, mkDP f = D := ⟨_, rfl⟩
  rw [hM, hN, hDP] at MK ⊢
  clear hM hN hDP
  obtain ⟨X, Y, OX, OY, TX, TY, LV, BW, BH, PR, ST, OD, LY, RC, SO, EP⟩ := M
  go_enter Try.func12, Try.ntmps12
  go_upto_region 1 with fail
  obtain ⟨B0, hB0⟩ : ∃ B, w.heap.size = B := ⟨_, rfl⟩
  have hsz1 : ((w.alloc (Obj.cells fc 24)).alloc (Obj.cells #[.int .i64 0, .int .i64 0, .int .i64 0, .int .i64 0, .slice none 0 0, .int .i64 0, .int .i64 0, .int .i64 0, .int .i64 0, .int .i64 0, .int .i64 0, .int .i64 0, .int .i64 0, .int .i64 0, .bool false, .bool false, .bool false, .slice none 0 0] 33)).heap.size = B0 + 2 := by rw [← hB0]; unfold World.alloc; simp
  obtain ⟨W1, hW1⟩ : ∃ W, (w.alloc (Obj.cells fc 24)).alloc (Obj.cells #[.int .i64 0, .int .i64 0, .int .i64 0, .int .i64 0, .slice none 0 0, .int .i64 0, .int .i64 0, .int .i64 0, .int .i64 0, .int .i64 0, .int .i64 0, .int .i64 0, .int .i64 0, .int .i64 0, .bool false, .bool false, .bool false, .slice none 0 0] 33) = W := ⟨_, rfl⟩
  have HF1 : Hid (MkW w B0 [(fc, 24), (#[.int .i64 0, .int .i64 0, .int .i64 0, .int .i64 0, .slice none 0 0, .int .i64 0, .int .i64 0, .int .i64 0, .int .i64 0, .int .i64 0, .int .i64 0, .int .i64 0, .int .i64 0, .int .i64 0, .bool false, .bool false, .bool false, .slice none 0 0], 33)] W1) := Lib.hid (by
    have h0 : MkW w B0 [] w := ⟨fun i c e => by simp at e, Below.refl _ _, by simp; omega⟩
    have h1 := (h0.more (by simp; omega) fc 24).more (by unfold World.alloc; simp; omega) #[.int .i64 0, .int .i64 0, .int .i64 0, .int .i64 0, .slice none 0 0, .int .i64 0, .int .i64 0, .int .i64 0, .int .i64 0, .int .i64 0, .int .i64 0, .int .i64 0, .int .i64 0, .int .i64 0, .bool false, .bool false, .bool false, .slice none 0 0] 33
    rw [← hW1]; exact h1)
  rw [hW1, hB0]
  have HBE := Lib.hid hB0
  have HSZ := Lib.hid (hW1 ▸ hsz1)
  clear hW1 hB0 hsz1
  have MK1 := MK.out W1 (IsRow.below w0 (by rw [HBE.out]; exact HF1.out.bel))
  go_wp2_with (refine wpList_load_row rfl 24 _ rfl B0 rfl 24 fc (0, 0) _ (show W1.heap[B0]? = _ from HF1.out.b 0 _ rfl) Try.underlying24 rfl (by rw [HFS.out]; kernel_rfl) ?_)
  refine MK1.mono ?_
  rintro e w2 ⟨A2, C2, cs, rfl, hcl, hCR, hKY, hb, hfx⟩
  try simp only at hfx
  try simp only at hKY
  have HF2 : Hid (MkW w B0 [(fc, 24), (#[.int .i64 0, .int .i64 0, .int .i64 0, .int .i64 0, .slice none 0 0, .int .i64 0, .int .i64 0, .int .i64 0, .int .i64 0, .int .i64 0, .int .i64 0, .int .i64 0, .int .i64 0, .int .i64 0, .bool false, .bool false, .bool false, .slice none 0 0], 33)] w2) := Lib.hid (HF1.out.keep hb)
  have HCR : Hid (CRow B0 w2 (.slice A2 N C2) cs) := Lib.hid (by
    have h1 := HF1.out.sz
    simp at h1
    exact ⟨own_low hCR.own (by omega), fun c hc => (hCR.dat c hc).low (by omega)⟩)
  have HKY := Lib.hid hKY
  have HCL := Lib.hid hcl
  have HCT := Lib.hid hfx
  clear MK MK1 hb hCR hKY hcl hfx HF1 w0 s0
  have AA := Lib.hid (alloc2_a w2 (Obj.cells #[.int .i64 0, .int .i64 0, .int .i64 0, .int .i64 0, .slice none 0 0] 29) (Obj.cells #[.int .i64 0, .int .i64 0, .int .i64 0, .int .i64 0, .int .i64 0, .int .i64 0, .int .i64 0, .int .i64 0, .int .i64 0, .bool false, .bool false, .bool false] 31))
  have AB := Lib.hid (alloc2_b w2 (Obj.cells #[.int .i64 0, .int .i64 0, .int .i64 0, .int .i64 0, .slice none 0 0] 29) (Obj.cells #[.int .i64 0, .int .i64 0, .int .i64 0, .int .i64 0, .int .i64 0, .int .i64 0, .int .i64 0, .int .i64 0, .int .i64 0, .bool false, .bool false, .bool false] 31))
  have AC : Hid ((((w2.alloc (Obj.cells #[.int .i64 0, .int .i64 0, .int .i64 0, .int .i64 0, .slice none 0 0] 29)).alloc (Obj.cells #[.int .i64 0, .int .i64 0, .int .i64 0, .int .i64 0, .int .i64 0, .int .i64 0, .int .i64 0, .int .i64 0, .int .i64 0, .bool false, .bool false, .bool false] 31)).setRow w2.heap.size #[.int .i64 X, .int .i64 Y, .int .i64 OX, .int .i64 OY, .slice A2 N C2]).heap[w2.heap.size + 1]? = some (.cells #[.int .i64 0, .int .i64 0, .int .i64 0, .int .i64 0, .int .i64 0, .int .i64 0, .int .i64 0, .int .i64 0, .int .i64 0, .bool false, .bool false, .bool false] 31 (0, 0))) := Lib.hid ((setRow_ne _ _ _ _ (by omega)).trans AB.out)
  go_upto_region 2 with (first | refine wpList_store_row rfl 29 _ _ rfl w2.heap.size #[.int .i64 X, .int .i64 Y, .int .i64 OX, .int .i64 OY, .slice A2 N C2] rfl rfl 29 #[.int .i64 0, .int .i64 0, .int .i64 0, .int .i64 0, .slice none 0 0] AA.out (by kernel_rfl) rfl (by kernel_rfl) ?_ | refine wpList_store_row rfl 31 _ _ rfl (w2.heap.size + 1) #[.int .i64 TX, .int .i64 TY, .int .i64 (LV : Int), .int .i64 (BW : Int), .int .i64 (BH : Int), .int .i64 (PR : Int), .int .i64 ST, .int .i64 OD, .int .i64 (LY : Int), .bool RC, .bool SO, .bool EP] rfl rfl 31 #[.int .i64 0, .int .i64 0, .int .i64 0, .int .i64 0, .int .i64 0, .int .i64 0, .int .i64 0, .int .i64 0, .int .i64 0, .bool false, .bool false, .bool false] AC.out (by kernel_rfl) rfl (by kernel_rfl) ?_)
  have hb5 : Below w2.heap.size w2 ((((w2.alloc (Obj.cells #[.int .i64 0, .int .i64 0, .int .i64 0, .int .i64 0, .slice none 0 0] 29)).alloc (Obj.cells #[.int .i64 0, .int .i64 0, .int .i64 0, .int .i64 0, .int .i64 0, .int .i64 0, .int .i64 0, .int .i64 0, .int .i64 0, .bool false, .bool false, .bool false] 31)).setRow w2.heap.size #[.int .i64 X, .int .i64 Y, .int .i64 OX, .int .i64 OY, .slice A2 N C2]).setRow (w2.heap.size + 1) #[.int .i64 TX, .int .i64 TY, .int .i64 (LV : Int), .int .i64 (BW : Int), .int .i64 (BH : Int), .int .i64 (PR : Int), .int .i64 ST, .int .i64 OD, .int .i64 (LY : Int), .bool RC, .bool SO, .bool EP]) := below_setRow (below_setRow (((Below.refl _ w2).alloc (Nat.le_refl _) _).alloc (by unfold World.alloc; simp) _) (Nat.le_refl _) _) (by omega) _
  have hi5 : ((((w2.alloc (Obj.cells #[.int .i64 0, .int .i64 0, .int .i64 0, .int .i64 0, .slice none 0 0] 29)).alloc (Obj.cells #[.int .i64 0, .int .i64 0, .int .i64 0, .int .i64 0, .int .i64 0, .int .i64 0, .int .i64 0, .int .i64 0, .int .i64 0, .bool false, .bool false, .bool false] 31)).setRow w2.heap.size #[.int .i64 X, .int .i64 Y, .int .i64 OX, .int .i64 OY, .slice A2 N C2]).setRow (w2.heap.size + 1) #[.int .i64 TX, .int .i64 TY, .int .i64 (LV : Int), .int .i64 (BW : Int), .int .i64 (BH : Int), .int .i64 (PR : Int), .int .i64 ST, .int .i64 OD, .int .i64 (LY : Int), .bool RC, .bool SO, .bool EP]).heap[w2.heap.size]? = some (.cells #[.int .i64 X, .int .i64 Y, .int .i64 OX, .int .i64 OY, .slice A2 N C2] 29 (0, 0)) := (setRow_ne _ _ _ _ (by omega)).trans (setRow_heap _ _ _ #[.int .i64 X, .int .i64 Y, .int .i64 OX, .int .i64 OY, .slice A2 N C2] _ _ AA.out)
  have hp5 : ((((w2.alloc (Obj.cells #[.int .i64 0, .int .i64 0, .int .i64 0, .int .i64 0, .slice none 0 0] 29)).alloc (Obj.cells #[.int .i64 0, .int .i64 0, .int .i64 0, .int .i64 0, .int .i64 0, .int .i64 0, .int .i64 0, .int .i64 0, .int .i64 0, .bool false, .bool false, .bool false] 31)).setRow w2.heap.size #[.int .i64 X, .int .i64 Y, .int .i64 OX, .int .i64 OY, .slice A2 N C2]).setRow (w2.heap.size + 1) #[.int .i64 TX, .int .i64 TY, .int .i64 (LV : Int), .int .i64 (BW : Int), .int .i64 (BH : Int), .int .i64 (PR : Int), .int .i64 ST, .int .i64 OD, .int .i64 (LY : Int), .bool RC, .bool SO, .bool EP]).heap[w2.heap.size + 1]? = some (.cells #[.int .i64 TX, .int .i64 TY, .int .i64 (LV : Int), .int .i64 (BW : Int), .int .i64 (BH : Int), .int .i64 (PR : Int), .int .i64 ST, .int .i64 OD, .int .i64 (LY : Int), .bool RC, .bool SO, .bool EP] 31 (0, 0)) := setRow_heap _ _ _ #[.int .i64 TX, .int .i64 TY, .int .i64 (LV : Int), .int .i64 (BW : Int), .int .i64 (BH : Int), .int .i64 (PR : Int), .int .i64 ST, .int .i64 OD, .int .i64 (LY : Int), .bool RC, .bool SO, .bool EP] _ _ AC.out
  obtain ⟨W5, hW5⟩ : ∃ W, (((w2.alloc (Obj.cells #[.int .i64 0, .int .i64 0, .int .i64 0, .int .i64 0, .slice none 0 0] 29)).alloc (Obj.cells #[.int .i64 0, .int .i64 0, .int .i64 0, .int .i64 0, .int .i64 0, .int .i64 0, .int .i64 0, .int .i64 0, .int .i64 0, .bool false, .bool false, .bool false] 31)).setRow w2.heap.size #[.int .i64 X, .int .i64 Y, .int .i64 OX, .int .i64 OY, .slice A2 N C2]).setRow (w2.heap.size + 1) #[.int .i64 TX, .int .i64 TY, .int .i64 (LV : Int), .int .i64 (BW : Int), .int .i64 (BH : Int), .int .i64 (PR : Int), .int .i64 ST, .int .i64 OD, .int .i64 (LY : Int), .bool RC, .bool SO, .bool EP] = W := ⟨_, rfl⟩
  rw [hW5] at hb5 hi5 hp5
  first | rw [hW5] | (show Code.wp _ _ _ _ W5; trace "SHOW")
  have HB5 := Lib.hid hb5
  have HI5 := Lib.hid hi5
  have HP5 := Lib.hid hp5
  have HF5 : Hid (MkW w B0 [(fc, 24), (#[.int .i64 0, .int .i64 0, .int .i64 0, .int .i64 0, .slice none 0 0, .int .i64 0, .int .i64 0, .int .i64 0, .int .i64 0, .int .i64 0, .int .i64 0, .int .i64 0, .int .i64 0, .int .i64 0, .bool false, .bool false, .bool false, .slice none 0 0], 33)] W5) := Lib.hid (HF2.out.keep hb5)
  have HC5 : Hid (CRow B0 W5 (.slice A2 N C2) cs) := Lib.hid (HCR.out.below hb5)
  clear AA AB AC hb5 hi5 hp5 hW5 HF2 HCR
  go_wp2_with (first | refine wpList_load_row rfl 29 _ rfl w2.heap.size rfl 29 #[.int .i64 X, .int .i64 Y, .int .i64 OX, .int .i64 OY, .slice A2 N C2] (0, 0) _ HI5.out Try.underlying29 rfl (by kernel_rfl) ?_ | refine wpList_load_row rfl 31 _ rfl (w2.heap.size + 1) rfl 31 #[.int .i64 TX, .int .i64 TY, .int .i64 (LV : Int), .int .i64 (BW : Int), .int .i64 (BH : Int), .int .i64 (PR : Int), .int .i64 ST, .int .i64 OD, .int .i64 (LY : Int), .bool RC, .bool SO, .bool EP] (0, 0) _ HP5.out Try.underlying31 rfl (by kernel_rfl) ?_ | refine wpList_store_row rfl 33 _ _ rfl (B0 + 1) #[.int .i64 X, .int .i64 Y, .int .i64 OX, .int .i64 OY, .slice A2 N C2, .int .i64 TX, .int .i64 TY, .int .i64 (LV : Int), .int .i64 (BW : Int), .int .i64 (BH : Int), .int .i64 (PR : Int), .int .i64 ST, .int .i64 OD, .int .i64 (LY : Int), .bool RC, .bool SO, .bool EP, .slice SA sn sc] rfl rfl 33 #[.int .i64 0, .int .i64 0, .int .i64 0, .int .i64 0, .slice none 0 0, .int .i64 0, .int .i64 0, .int .i64 0, .int .i64 0, .int .i64 0, .int .i64 0, .int .i64 0, .int .i64 0, .int .i64 0, .bool false, .bool false, .bool false, .slice none 0 0] (HF5.out.b 1 _ rfl) (by kernel_rfl) rfl (by kernel_rfl) ?_)
  have hz : (W5.setRow (B0 + 1) #[.int .i64 X, .int .i64 Y, .int .i64 OX, .int .i64 OY, .slice A2 N C2, .int .i64 TX, .int .i64 TY, .int .i64 (LV : Int), .int .i64 (BW : Int), .int .i64 (BH : Int), .int .i64 (PR : Int), .int .i64 ST, .int .i64 OD, .int .i64 (LY : Int), .bool RC, .bool SO, .bool EP, .slice SA sn sc]).heap[B0 + 1]? = some (.cells #[.int .i64 X, .int .i64 Y, .int .i64 OX, .int .i64 OY, .slice A2 N C2, .int .i64 TX, .int .i64 TY, .int .i64 (LV : Int), .int .i64 (BW : Int), .int .i64 (BH : Int), .int .i64 (PR : Int), .int .i64 ST, .int .i64 OD, .int .i64 (LY : Int), .bool RC, .bool SO, .bool EP, .slice SA sn sc] 33 (0, 0)) := setRow_heap _ _ _ #[.int .i64 X, .int .i64 Y, .int .i64 OX, .int .i64 OY, .slice A2 N C2, .int .i64 TX, .int .i64 TY, .int .i64 (LV : Int), .int .i64 (BW : Int), .int .i64 (BH : Int), .int .i64 (PR : Int), .int .i64 ST, .int .i64 OD, .int .i64 (LY : Int), .bool RC, .bool SO, .bool EP, .slice SA sn sc] _ _ (HF5.out.b 1 _ rfl)
  obtain ⟨Z, hZ⟩ : ∃ Z : Array Value, #[.int .i64 X, .int .i64 Y, .int .i64 OX, .int .i64 OY, .slice A2 N C2, .int .i64 TX, .int .i64 TY, .int .i64 (LV : Int), .int .i64 (BW : Int), .int .i64 (BH : Int), .int .i64 (PR : Int), .int .i64 ST, .int .i64 OD, .int .i64 (LY : Int), .bool RC, .bool SO, .bool EP, .slice SA sn sc] = Z := ⟨_, rfl⟩
  refine bodyPost_ret (v := .agg #[.int .i64 X, .int .i64 Y, .int .i64 OX, .int .i64 OY, .slice A2 N C2, .int .i64 TX, .int .i64 TY, .int .i64 (LV : Int), .int .i64 (BW : Int), .int .i64 (BH : Int), .int .i64 (PR : Int), .int .i64 ST, .int .i64 OD, .int .i64 (LY : Int), .bool RC, .bool SO, .bool EP, .slice SA sn sc]) ?_ rfl ?_
  · rw [hZ] at hz ⊢
    exact results_cell_row (p := 4) (ty := 33) rfl _ _ (B0 + 1) 33 Z (0, 0) _ rfl hz Try.underlying33 rfl (by rw [← hZ]; kernel_rfl)
  have hcr : CRow B0 (W5.setRow (B0 + 1) #[.int .i64 X, .int .i64 Y, .int .i64 OX, .int .i64 OY, .slice A2 N C2, .int .i64 TX, .int .i64 TY, .int .i64 (LV : Int), .int .i64 (BW : Int), .int .i64 (BH : Int), .int .i64 (PR : Int), .int .i64 ST, .int .i64 OD, .int .i64 (LY : Int), .bool RC, .bool SO, .bool EP, .slice SA sn sc]) (.slice A2 N C2) cs := HC5.out.setRow (HF5.out.b 1 _ rfl) (by decide) (by decide) _
  refine ⟨A2, C2, cs, rfl, HCL.out, by rw [HBE.out]; exact hcr, HKY.out, ?_, HCT.out⟩
  rw [HBE.out]
  exact below_setRow HF5.out.bel (by omega) _
end Go.Proofs.Ytlbfjaifemnkpaa
