/- Both Draws draw the same, or refuse. -/
import Derived.Test.YtjmkkjgchgcleaaSkPair
import Derived.Test.YtjmkkjgchgcleaaSkKinds
set_option linter.unusedVariables false
namespace Go.Proofs.Ytjmkkjgchgcleaa
open Go.RowKit

set_option maxRecDepth 100000 in
set_option maxHeartbeats 16000000 in
theorem walk_sketchDraws (a0 : Int) (a1 : Int) (a2 : Int) (a3 : Int) (a4 : Int) (a5 : Int) (a6 : Int) (w : World) (w0 : (Lit.int .i64 a0).wf = true) (w1 : (Lit.int .i64 a1).wf = true) (w2 : (Lit.int .i64 a2).wf = true) (w3 : (Lit.int .i64 a3).wf = true) (w4 : (Lit.int .i64 a4).wf = true) (w5 : (Lit.int .i64 a5).wf = true) (w6 : (Lit.int .i64 a6).wf = true) :
    Calls Try.prog 3 #[.int .i64 a0, .int .i64 a1, .int .i64 a2, .int .i64 a3, .int .i64 a4, .int .i64 a5, .int .i64 a6] w fun e w' => e = .returned (.bool true) ∧ Below w.heap.size w w' := by
  clear w0 w1 w2 w3 w4 w5 w6
  have hmo : Try.prog.follows .mixedOrders = true := by kernel_rfl
  go_enter Try.func3, Try.ntmps3
  go_wp2_with fail
  refine (known21 _).mono ?_
  rintro e w1 ⟨rfl, h1⟩
  go_wp2_with fail
  go_loopw [0, 1, 2, 3, 4, 5, 6, 15] (fun v0 v1 v2 v3 v4 v5 v6 kv wr => ∃ (k : Nat) (x y ox oy n d kind : Int), k ≤ 2 ∧ kv = .int .i64 k ∧ v0 = .int .i64 x ∧ v1 = .int .i64 y ∧ v2 = .int .i64 ox ∧ v3 = .int .i64 oy ∧ v4 = .int .i64 n ∧ v5 = .int .i64 d ∧ v6 = .int .i64 kind ∧ Below w.heap.size w wr) (fun _ _ _ _ _ _ _ kv _ => 2 - (intOf kv).toNat)
  case atStart => exact ⟨0, _, _, _, _, _, _, _, by omega, rfl, rfl, rfl, rfl, rfl, rfl, rfl, rfl, h1⟩
  case round =>
    obtain ⟨k, x, y, ox, oy, n, d, kind, hk, rfl, rfl, rfl, rfl, rfl, rfl, rfl, rfl, hB⟩ := hrel
    clear h1
    by_cases ck : k < 2
    · have ck' : (k : Int) < 2 := by omega
      have d1 := draw_all x y ox oy n d kind wr
      have d2 := fun W => rdraw_all x y ox oy n d kind W
      unfold Both at d1 d2
      have hall := all_ok x y ox oy n d kind
      have h01 : (if okB x y ox oy n d kind then (0 : Int) else 1) = 0 ∨ (if okB x y ox oy n d kind then (0 : Int) else 1) = 1 := by split <;> simp
      generalize orZ (okB x y ox oy n d kind) x = X at d1 d2
      generalize orZ (okB x y ox oy n d kind) y = Y at d1 d2
      generalize orZ (okB x y ox oy n d kind) ox = OX at d1 d2
      generalize orZ (okB x y ox oy n d kind) oy = OY at d1 d2
      generalize allLs x y ox oy n d kind = Ls at d1 d2 hall
      generalize (if okB x y ox oy n d kind then (0 : Int) else 1) = er at d1 d2 h01
      have HAL := Lib.hid hall
      clear hall
      go_wp2_with fail
      refine d1.mono ?_
      rintro e w2 ⟨AC, cC, rfl, hR, hC, hb⟩
      have HC := Lib.hid (And.intro hR (And.intro hC hb))
      have hcm := hC.2
      unfold maxLen at hcm
      clear hR hC hb d1
      go_wp2_with fail
      refine (d2 _).mono ?_
      rintro e w3 ⟨AD, cD, rfl, hR', hC', hb'⟩
      obtain ⟨Wa, hWa⟩ : ∃ Wa, w2.alloc (Obj.cells #[.int .i64 X, .int .i64 Y, .int .i64 OX, .int .i64 OY, .slice AC Ls.length cC] 25) = Wa := ⟨_, rfl⟩
      have ha0 : Wa.heap[w2.heap.size]? = some (.cells #[.int .i64 X, .int .i64 Y, .int .i64 OX, .int .i64 OY, .slice AC Ls.length cC] 25 (0, 0)) := by rw [← hWa]; exact World.alloc_heap_new w2 _
      have hBa : Below w2.heap.size w2 Wa := by rw [← hWa]; exact (Below.refl _ w2).alloc (Nat.le_refl _) _
      rw [hWa] at hb'
      clear hWa
      have hcm' := hC'.2
      unfold maxLen at hcm'
      obtain ⟨Wb, hWb⟩ : ∃ Wb, w3.alloc (Obj.cells #[.int .i64 X, .int .i64 Y, .int .i64 OX, .int .i64 OY, .slice AD Ls.length cD] 25) = Wb := ⟨_, rfl⟩
      have hb0 : Wb.heap[w3.heap.size]? = some (.cells #[.int .i64 X, .int .i64 Y, .int .i64 OX, .int .i64 OY, .slice AD Ls.length cD] 25 (0, 0)) := by rw [← hWb]; exact World.alloc_heap_new w3 _
      have hBb : Below w3.heap.size w3 Wb := by rw [← hWb]; exact (Below.refl _ w3).alloc (Nat.le_refl _) _
      have hab : Below Wa.heap.size Wa Wb := hb'.trans (hBb.mono hb'.size)
      have ha1 := (hab.block _ (Array.getElem?_eq_some_iff.1 ha0).1).trans ha0
      have HRa := Lib.hid ((HC.out.1.keep hBa).keep hab)
      have HRb := Lib.hid (hR'.keep hBb)
      have HC2 := Lib.hid (And.intro HC.out.2.1 hC')
      have HBB := Lib.hid (hB.trans ((HC.out.2.2.trans ((hBa.trans (hab.mono hBa.size)).mono HC.out.2.2.size)).mono hB.size))
      have ja := (Array.getElem?_eq_some_iff.1 ha1).1
      have jb := (Array.getElem?_eq_some_iff.1 hb0).1
      generalize w2.heap.size = pa at *
      have xa0 : Wb.cell? ⟨pa, 0, none⟩ = some (.int .i64 X) := by simp [World.cell?, ha1]
      have xa1 : Wb.cell? ⟨pa, 1, none⟩ = some (.int .i64 Y) := by simp [World.cell?, ha1]
      have xa2 : Wb.cell? ⟨pa, 2, none⟩ = some (.int .i64 OX) := by simp [World.cell?, ha1]
      have xa3 : Wb.cell? ⟨pa, 3, none⟩ = some (.int .i64 OY) := by simp [World.cell?, ha1]
      have xa4 : Wb.cell? ⟨pa, 4, none⟩ = some (.slice AC Ls.length cC) := by simp [World.cell?, ha1]
      have xb0 : Wb.cell? ⟨w3.heap.size, 0, none⟩ = some (.int .i64 X) := by simp [World.cell?, hb0]
      have xb1 : Wb.cell? ⟨w3.heap.size, 1, none⟩ = some (.int .i64 Y) := by simp [World.cell?, hb0]
      have xb2 : Wb.cell? ⟨w3.heap.size, 2, none⟩ = some (.int .i64 OX) := by simp [World.cell?, hb0]
      have xb3 : Wb.cell? ⟨w3.heap.size, 3, none⟩ = some (.int .i64 OY) := by simp [World.cell?, hb0]
      have xb4 : Wb.cell? ⟨w3.heap.size, 4, none⟩ = some (.slice AD Ls.length cD) := by simp [World.cell?, hb0]
      clear hR' hC' hb' ha0 hBa hb0 hBb hab ha1 HC hB d2
      go_wp2_with fail
      clear hWb
      obtain rfl | rfl := h01
      · refine (wpIn_wide (n := 9)).1 (regionIn_inv (Inv := fun L2 a w' => a = { tmps := #[Value.int IntKind.i64 x, Value.int IntKind.i64 y, Value.int IntKind.i64 ox, Value.int IntKind.i64 oy, Value.int IntKind.i64 n, Value.int IntKind.i64 d, Value.int IntKind.i64 kind, undef, undef, undef, undef, undef, undef, undef, u14, Value.int IntKind.i64 ↑k, Value.pointer (some { block := pa, off := 0 }), Value.int IntKind.i64 0, Value.pointer (some { block := w3.heap.size, off := 0 }), Value.int IntKind.i64 0, Value.bool true, Value.bool false, Value.int IntKind.i64 ↑k, Value.bool true, u24, u25, Value.tuple #[Value.agg #[Value.int IntKind.i64 X, Value.int IntKind.i64 Y, Value.int IntKind.i64 OX, Value.int IntKind.i64 OY, Value.slice AC Ls.length cC], Value.int IntKind.i64 0], Value.int IntKind.i64 x, Value.int IntKind.i64 y, Value.int IntKind.i64 ox, Value.int IntKind.i64 oy, Value.int IntKind.i64 n, Value.int IntKind.i64 d, Value.int IntKind.i64 kind, Value.tuple #[Value.agg #[Value.int IntKind.i64 X, Value.int IntKind.i64 Y, Value.int IntKind.i64 OX, Value.int IntKind.i64 OY, Value.slice AC Ls.length cC], Value.int IntKind.i64 0], Value.agg #[Value.int IntKind.i64 X, Value.int IntKind.i64 Y, Value.int IntKind.i64 OX, Value.int IntKind.i64 OY, Value.slice AC Ls.length cC], Value.int IntKind.i64 0, Value.tuple #[Value.agg #[Value.int IntKind.i64 X, Value.int IntKind.i64 Y, Value.int IntKind.i64 OX, Value.int IntKind.i64 OY, Value.slice AD Ls.length cD], Value.int IntKind.i64 0], Value.int IntKind.i64 x, Value.int IntKind.i64 y, Value.int IntKind.i64 ox, Value.int IntKind.i64 oy, Value.int IntKind.i64 n, Value.int IntKind.i64 d, Value.int IntKind.i64 kind, Value.tuple #[Value.agg #[Value.int IntKind.i64 X, Value.int IntKind.i64 Y, Value.int IntKind.i64 OX, Value.int IntKind.i64 OY, Value.slice AD Ls.length cD], Value.int IntKind.i64 0], Value.agg #[Value.int IntKind.i64 X, Value.int IntKind.i64 Y, Value.int IntKind.i64 OX, Value.int IntKind.i64 OY, Value.slice AD Ls.length cD], Value.int IntKind.i64 0, bif L2 0 then .int .i64 0 else u48, bif L2 1 then .int .i64 0 else u49, bif L2 2 then .bool false else u50, bif L2 3 then .bool false else u51, bif L2 4 then .agg #[.int .i64 X, .int .i64 Y, .int .i64 OX, .int .i64 OY, .slice AC Ls.length cC] else u52, bif L2 5 then .agg #[.int .i64 X, .int .i64 Y, .int .i64 OX, .int .i64 OY, .slice AD Ls.length cD] else u53, bif L2 6 then .bool true else u54, bif L2 7 then .bool false else u55, bif L2 8 then .bool false else u56, bif L2 9 then .bool false else u57, bif L2 10 then .int .i64 0 else u58, bif L2 11 then .bool true else u59, bif L2 12 then .bool true else u60, bif L2 13 then .agg #[.int .i64 X, .int .i64 Y, .int .i64 OX, .int .i64 OY, .slice AC Ls.length cC] else u61, bif L2 14 then .int .i64 (sumF Ls) else u62, bif L2 15 then .agg #[.int .i64 X, .int .i64 Y, .int .i64 OX, .int .i64 OY, .slice AD Ls.length cD] else u63, bif L2 16 then .int .i64 (sumF Ls) else u64, bif L2 17 then .bool false else u65, bif L2 18 then .bool false else u66, bif L2 19 then .bool false else u67, u68, u69, u70, u71, u72, u73, u74, u75, u76, u77, u78, u79, u80, u81, u82, u83, u84, u85, u86, u87, u88, u89], defers := [] } ∧ Below Wb.heap.size Wb w') hmo (by kernel_rfl) ?start ?step ?fin)
        case start => exact ⟨rfl, below_drewN (Below.refl _ Wb) 1⟩
        case step =>
          intro i' hi' L2 a' w' hI hs' hu
          obtain ⟨rfl, hW⟩ := hI
          have hL := hu.1
          have hi' : i' < 20 := hi'
          obtain rfl | rfl | rfl | rfl | rfl | rfl | rfl | rfl | rfl | rfl | rfl | rfl | rfl | rfl | rfl | rfl | rfl | rfl | rfl | rfl := (by omega : i' = 0 ∨ i' = 1 ∨ i' = 2 ∨ i' = 3 ∨ i' = 4 ∨ i' = 5 ∨ i' = 6 ∨ i' = 7 ∨ i' = 8 ∨ i' = 9 ∨ i' = 10 ∨ i' = 11 ∨ i' = 12 ∨ i' = 13 ∨ i' = 14 ∨ i' = 15 ∨ i' = 16 ∨ i' = 17 ∨ i' = 18 ∨ i' = 19)
          · skip
            refine opIn_run (v := .int .i64 0) (w' := w') rfl rfl  (fun c h => by cases h) (fun _ => trivial) ?_ ⟨by simp [Act.put, upd, hL], hW⟩
            simp only [hL, cond_true, cond_false]
            go_simp
          · skip
            refine opIn_run (v := .int .i64 0) (w' := w') rfl rfl  (fun c h => by cases h) (fun _ => trivial) ?_ ⟨by simp [Act.put, upd, hL], hW⟩
            simp only [hL, cond_true, cond_false]
            go_simp
          · skip
            have y0 : L2 0 = true := up_at hu 0 (by kernel_rfl)
            have y1 : L2 1 = true := up_at hu 1 (by kernel_rfl)
            refine opIn_run (v := .bool false) (w' := w') rfl rfl  (fun c h => by cases h) (fun _ => trivial) ?_ ⟨by simp [Act.put, upd, y0, y1, hL], hW⟩
            simp only [y0, y1, hL, cond_true, cond_false]
            go_simp
          · skip
            have y0 : L2 0 = true := shut_at hs' 2 0 (by kernel_rfl) (up_at hu 2 (by kernel_rfl))
            have y1 : L2 1 = true := shut_at hs' 2 1 (by kernel_rfl) (up_at hu 2 (by kernel_rfl))
            have y2 : L2 2 = true := up_at hu 2 (by kernel_rfl)
            refine opIn_run (v := .bool false) (w' := w') rfl rfl  (fun c h => by cases h) (fun _ => trivial) ?_ ⟨by simp [Act.put, upd, y0, y1, y2, hL], hW⟩
            simp only [y0, y1, y2, hL, cond_true, cond_false]
            go_simp
          · skip
            have y0 : L2 0 = true := shut_at hs' 2 0 (by kernel_rfl) (shut_at hs' 3 2 (by kernel_rfl) (up_at hu 3 (by kernel_rfl)))
            have y1 : L2 1 = true := shut_at hs' 2 1 (by kernel_rfl) (shut_at hs' 3 2 (by kernel_rfl) (up_at hu 3 (by kernel_rfl)))
            have y2 : L2 2 = true := shut_at hs' 3 2 (by kernel_rfl) (up_at hu 3 (by kernel_rfl))
            have y3 : L2 3 = true := up_at hu 3 (by kernel_rfl)
            have z0 := (hW.cell (p := ⟨pa, 0, none⟩) ja).trans xa0
            have z1 := (hW.cell (p := ⟨pa, 1, none⟩) ja).trans xa1
            have z2 := (hW.cell (p := ⟨pa, 2, none⟩) ja).trans xa2
            have z3 := (hW.cell (p := ⟨pa, 3, none⟩) ja).trans xa3
            have z4 := (hW.cell (p := ⟨pa, 4, none⟩) ja).trans xa4
            refine opIn_run_g (j := 3) (b := false) (v := .agg #[.int .i64 X, .int .i64 Y, .int .i64 OX, .int .i64 OY, .slice AC Ls.length cC]) (w' := w') rfl rfl (by simp only [y0, y1, y2, y3, hL, cond_true, cond_false]; rfl) (fun c h => by cases h) (fun _ => trivial) ?_ ⟨by simp [Act.put, upd, y0, y1, y2, y3, hL], hW⟩
            simp only [y0, y1, y2, y3, hL, cond_true, cond_false]
            go_simp
          · skip
            have y0 : L2 0 = true := shut_at hs' 2 0 (by kernel_rfl) (shut_at hs' 3 2 (by kernel_rfl) (up_at hu 3 (by kernel_rfl)))
            have y1 : L2 1 = true := shut_at hs' 2 1 (by kernel_rfl) (shut_at hs' 3 2 (by kernel_rfl) (up_at hu 3 (by kernel_rfl)))
            have y2 : L2 2 = true := shut_at hs' 3 2 (by kernel_rfl) (up_at hu 3 (by kernel_rfl))
            have y3 : L2 3 = true := up_at hu 3 (by kernel_rfl)
            have z0 := (hW.cell (p := ⟨w3.heap.size, 0, none⟩) jb).trans xb0
            have z1 := (hW.cell (p := ⟨w3.heap.size, 1, none⟩) jb).trans xb1
            have z2 := (hW.cell (p := ⟨w3.heap.size, 2, none⟩) jb).trans xb2
            have z3 := (hW.cell (p := ⟨w3.heap.size, 3, none⟩) jb).trans xb3
            have z4 := (hW.cell (p := ⟨w3.heap.size, 4, none⟩) jb).trans xb4
            refine opIn_run_g (j := 3) (b := false) (v := .agg #[.int .i64 X, .int .i64 Y, .int .i64 OX, .int .i64 OY, .slice AD Ls.length cD]) (w' := w') rfl rfl (by simp only [y0, y1, y2, y3, hL, cond_true, cond_false]; rfl) (fun c h => by cases h) (fun _ => trivial) ?_ ⟨by simp [Act.put, upd, y0, y1, y2, y3, hL], hW⟩
            simp only [y0, y1, y2, y3, hL, cond_true, cond_false]
            go_simp
          · skip
            have y0 : L2 0 = true := shut_at hs' 2 0 (by kernel_rfl) (shut_at hs' 3 2 (by kernel_rfl) (up_at hu 3 (by kernel_rfl)))
            have y1 : L2 1 = true := shut_at hs' 2 1 (by kernel_rfl) (shut_at hs' 3 2 (by kernel_rfl) (up_at hu 3 (by kernel_rfl)))
            have y2 : L2 2 = true := shut_at hs' 3 2 (by kernel_rfl) (up_at hu 3 (by kernel_rfl))
            have y3 : L2 3 = true := up_at hu 3 (by kernel_rfl)
            have y4 : L2 4 = true := up_at hu 4 (by kernel_rfl)
            have y5 : L2 5 = true := up_at hu 5 (by kernel_rfl)
            have hcl := rsame_any (w := w') X Y OX OY (HRa.out.keep hW) (HRb.out.keep hW) HAL.out.1 HC2.out.1 HC2.out.2 (fun L hL => (HAL.out.2 L hL).1)
            refine opIn_call_g (j := 3) (b := false) (f := 11) (args := #[.agg #[.int .i64 X, .int .i64 Y, .int .i64 OX, .int .i64 OY, .slice AC Ls.length cC], .agg #[.int .i64 X, .int .i64 Y, .int .i64 OX, .int .i64 OY, .slice AD Ls.length cD]]) (w' := w') rfl rfl (by simp only [y0, y1, y2, y3, y4, y5, hL, cond_true, cond_false]; rfl) (fun c h => by cases h) (fun _ => trivial) rfl ?_ ((callsIn_wide.2 hcl).mono ?_)
            · simp only [y0, y1, y2, y3, y4, y5, hL, cond_true, cond_false]
              go_simp
            · rintro e w2 ⟨rfl, h2⟩
              exact ⟨_, rfl, by simp [Act.put, upd, y0, y1, y2, y3, y4, y5, hL], hW.trans (h2.mono hW.size)⟩
          · skip
            have y0 : L2 0 = true := shut_at hs' 2 0 (by kernel_rfl) (shut_at hs' 3 2 (by kernel_rfl) (up_at hu 3 (by kernel_rfl)))
            have y1 : L2 1 = true := shut_at hs' 2 1 (by kernel_rfl) (shut_at hs' 3 2 (by kernel_rfl) (up_at hu 3 (by kernel_rfl)))
            have y2 : L2 2 = true := shut_at hs' 3 2 (by kernel_rfl) (up_at hu 3 (by kernel_rfl))
            have y3 : L2 3 = true := up_at hu 3 (by kernel_rfl)
            have y4 : L2 4 = true := shut_at hs' 6 4 (by kernel_rfl) (up_at hu 6 (by kernel_rfl))
            have y5 : L2 5 = true := shut_at hs' 6 5 (by kernel_rfl) (up_at hu 6 (by kernel_rfl))
            have y6 : L2 6 = true := up_at hu 6 (by kernel_rfl)
            refine opIn_run_g (j := 3) (b := false) (v := .bool false) (w' := w') rfl rfl (by simp only [y0, y1, y2, y3, y4, y5, y6, hL, cond_true, cond_false]; rfl) (fun c h => by cases h) (fun _ => trivial) ?_ ⟨by simp [Act.put, upd, y0, y1, y2, y3, y4, y5, y6, hL], hW⟩
            simp only [y0, y1, y2, y3, y4, y5, y6, hL, cond_true, cond_false]
            go_simp
          · skip
            have y0 : L2 0 = true := shut_at hs' 2 0 (by kernel_rfl) (shut_at hs' 3 2 (by kernel_rfl) (up_at hu 3 (by kernel_rfl)))
            have y1 : L2 1 = true := shut_at hs' 2 1 (by kernel_rfl) (shut_at hs' 3 2 (by kernel_rfl) (up_at hu 3 (by kernel_rfl)))
            have y2 : L2 2 = true := shut_at hs' 3 2 (by kernel_rfl) (up_at hu 3 (by kernel_rfl))
            have y3 : L2 3 = true := up_at hu 3 (by kernel_rfl)
            have y4 : L2 4 = true := shut_at hs' 6 4 (by kernel_rfl) (shut_at hs' 7 6 (by kernel_rfl) (up_at hu 7 (by kernel_rfl)))
            have y5 : L2 5 = true := shut_at hs' 6 5 (by kernel_rfl) (shut_at hs' 7 6 (by kernel_rfl) (up_at hu 7 (by kernel_rfl)))
            have y6 : L2 6 = true := shut_at hs' 7 6 (by kernel_rfl) (up_at hu 7 (by kernel_rfl))
            have y7 : L2 7 = true := up_at hu 7 (by kernel_rfl)
            refine opIn_run (v := .bool false) (w' := w') rfl rfl  (fun c h => by cases h) (fun _ => trivial) ?_ ⟨by simp [Act.put, upd, y0, y1, y2, y3, y4, y5, y6, y7, hL], hW⟩
            simp only [y0, y1, y2, y3, y4, y5, y6, y7, hL, cond_true, cond_false]
            go_simp
          · skip
            have y0 : L2 0 = true := shut_at hs' 2 0 (by kernel_rfl) (shut_at hs' 3 2 (by kernel_rfl) (shut_at hs' 6 3 (by kernel_rfl) (up_at hu 6 (by kernel_rfl))))
            have y1 : L2 1 = true := shut_at hs' 2 1 (by kernel_rfl) (shut_at hs' 3 2 (by kernel_rfl) (shut_at hs' 6 3 (by kernel_rfl) (up_at hu 6 (by kernel_rfl))))
            have y2 : L2 2 = true := shut_at hs' 3 2 (by kernel_rfl) (shut_at hs' 6 3 (by kernel_rfl) (up_at hu 6 (by kernel_rfl)))
            have y3 : L2 3 = true := shut_at hs' 6 3 (by kernel_rfl) (up_at hu 6 (by kernel_rfl))
            have y4 : L2 4 = true := shut_at hs' 6 4 (by kernel_rfl) (up_at hu 6 (by kernel_rfl))
            have y5 : L2 5 = true := shut_at hs' 6 5 (by kernel_rfl) (up_at hu 6 (by kernel_rfl))
            have y6 : L2 6 = true := up_at hu 6 (by kernel_rfl)
            have y7 : L2 7 = true := shut_at hs' 8 7 (by kernel_rfl) (up_at hu 8 (by kernel_rfl))
            have y8 : L2 8 = true := up_at hu 8 (by kernel_rfl)
            refine opIn_run (v := .bool false) (w' := w') rfl rfl  (fun c h => by cases h) (fun _ => trivial) ?_ ⟨by simp [Act.put, upd, y0, y1, y2, y3, y4, y5, y6, y7, y8, hL], hW⟩
            simp only [y0, y1, y2, y3, y4, y5, y6, y7, y8, hL, cond_true, cond_false]
            go_simp
          · skip
            have y0 : L2 0 = true := shut_at hs' 2 0 (by kernel_rfl) (shut_at hs' 3 2 (by kernel_rfl) (shut_at hs' 6 3 (by kernel_rfl) (shut_at hs' 9 6 (by kernel_rfl) (up_at hu 9 (by kernel_rfl)))))
            have y1 : L2 1 = true := shut_at hs' 2 1 (by kernel_rfl) (shut_at hs' 3 2 (by kernel_rfl) (shut_at hs' 6 3 (by kernel_rfl) (shut_at hs' 9 6 (by kernel_rfl) (up_at hu 9 (by kernel_rfl)))))
            have y2 : L2 2 = true := shut_at hs' 3 2 (by kernel_rfl) (shut_at hs' 6 3 (by kernel_rfl) (shut_at hs' 9 6 (by kernel_rfl) (up_at hu 9 (by kernel_rfl))))
            have y3 : L2 3 = true := shut_at hs' 6 3 (by kernel_rfl) (shut_at hs' 9 6 (by kernel_rfl) (up_at hu 9 (by kernel_rfl)))
            have y4 : L2 4 = true := shut_at hs' 6 4 (by kernel_rfl) (shut_at hs' 9 6 (by kernel_rfl) (up_at hu 9 (by kernel_rfl)))
            have y5 : L2 5 = true := shut_at hs' 6 5 (by kernel_rfl) (shut_at hs' 9 6 (by kernel_rfl) (up_at hu 9 (by kernel_rfl)))
            have y6 : L2 6 = true := shut_at hs' 9 6 (by kernel_rfl) (up_at hu 9 (by kernel_rfl))
            have y7 : L2 7 = true := shut_at hs' 8 7 (by kernel_rfl) (shut_at hs' 9 8 (by kernel_rfl) (up_at hu 9 (by kernel_rfl)))
            have y8 : L2 8 = true := shut_at hs' 9 8 (by kernel_rfl) (up_at hu 9 (by kernel_rfl))
            have y9 : L2 9 = true := up_at hu 9 (by kernel_rfl)
            refine opIn_run_g (j := 9) (b := false) (v := .int .i64 0) (w' := w') rfl rfl (by simp only [y0, y1, y2, y3, y4, y5, y6, y7, y8, y9, hL, cond_true, cond_false]; rfl) (fun c h => by cases h) (fun _ => trivial) ?_ ⟨by simp [Act.put, upd, y0, y1, y2, y3, y4, y5, y6, y7, y8, y9, hL], hW⟩
            simp only [y0, y1, y2, y3, y4, y5, y6, y7, y8, y9, hL, cond_true, cond_false]
            go_simp
          · skip
            have y0 : L2 0 = true := shut_at hs' 2 0 (by kernel_rfl) (shut_at hs' 3 2 (by kernel_rfl) (shut_at hs' 6 3 (by kernel_rfl) (shut_at hs' 9 6 (by kernel_rfl) (up_at hu 9 (by kernel_rfl)))))
            have y1 : L2 1 = true := shut_at hs' 2 1 (by kernel_rfl) (shut_at hs' 3 2 (by kernel_rfl) (shut_at hs' 6 3 (by kernel_rfl) (shut_at hs' 9 6 (by kernel_rfl) (up_at hu 9 (by kernel_rfl)))))
            have y2 : L2 2 = true := shut_at hs' 3 2 (by kernel_rfl) (shut_at hs' 6 3 (by kernel_rfl) (shut_at hs' 9 6 (by kernel_rfl) (up_at hu 9 (by kernel_rfl))))
            have y3 : L2 3 = true := shut_at hs' 6 3 (by kernel_rfl) (shut_at hs' 9 6 (by kernel_rfl) (up_at hu 9 (by kernel_rfl)))
            have y4 : L2 4 = true := shut_at hs' 6 4 (by kernel_rfl) (shut_at hs' 9 6 (by kernel_rfl) (up_at hu 9 (by kernel_rfl)))
            have y5 : L2 5 = true := shut_at hs' 6 5 (by kernel_rfl) (shut_at hs' 9 6 (by kernel_rfl) (up_at hu 9 (by kernel_rfl)))
            have y6 : L2 6 = true := shut_at hs' 9 6 (by kernel_rfl) (up_at hu 9 (by kernel_rfl))
            have y7 : L2 7 = true := shut_at hs' 8 7 (by kernel_rfl) (shut_at hs' 9 8 (by kernel_rfl) (up_at hu 9 (by kernel_rfl)))
            have y8 : L2 8 = true := shut_at hs' 9 8 (by kernel_rfl) (up_at hu 9 (by kernel_rfl))
            have y9 : L2 9 = true := up_at hu 9 (by kernel_rfl)
            have y10 : L2 10 = true := up_at hu 10 (by kernel_rfl)
            refine opIn_run_g (j := 9) (b := false) (v := .bool true) (w' := w') rfl rfl (by simp only [y0, y1, y2, y3, y4, y5, y6, y7, y8, y9, y10, hL, cond_true, cond_false]; rfl) (fun c h => by cases h) (fun _ => trivial) ?_ ⟨by simp [Act.put, upd, y0, y1, y2, y3, y4, y5, y6, y7, y8, y9, y10, hL], hW⟩
            simp only [y0, y1, y2, y3, y4, y5, y6, y7, y8, y9, y10, hL, cond_true, cond_false]
            go_simp
          · skip
            have y0 : L2 0 = true := shut_at hs' 2 0 (by kernel_rfl) (shut_at hs' 3 2 (by kernel_rfl) (shut_at hs' 6 3 (by kernel_rfl) (shut_at hs' 9 6 (by kernel_rfl) (up_at hu 9 (by kernel_rfl)))))
            have y1 : L2 1 = true := shut_at hs' 2 1 (by kernel_rfl) (shut_at hs' 3 2 (by kernel_rfl) (shut_at hs' 6 3 (by kernel_rfl) (shut_at hs' 9 6 (by kernel_rfl) (up_at hu 9 (by kernel_rfl)))))
            have y2 : L2 2 = true := shut_at hs' 3 2 (by kernel_rfl) (shut_at hs' 6 3 (by kernel_rfl) (shut_at hs' 9 6 (by kernel_rfl) (up_at hu 9 (by kernel_rfl))))
            have y3 : L2 3 = true := shut_at hs' 6 3 (by kernel_rfl) (shut_at hs' 9 6 (by kernel_rfl) (up_at hu 9 (by kernel_rfl)))
            have y4 : L2 4 = true := shut_at hs' 6 4 (by kernel_rfl) (shut_at hs' 9 6 (by kernel_rfl) (up_at hu 9 (by kernel_rfl)))
            have y5 : L2 5 = true := shut_at hs' 6 5 (by kernel_rfl) (shut_at hs' 9 6 (by kernel_rfl) (up_at hu 9 (by kernel_rfl)))
            have y6 : L2 6 = true := shut_at hs' 9 6 (by kernel_rfl) (up_at hu 9 (by kernel_rfl))
            have y7 : L2 7 = true := shut_at hs' 8 7 (by kernel_rfl) (shut_at hs' 9 8 (by kernel_rfl) (up_at hu 9 (by kernel_rfl)))
            have y8 : L2 8 = true := shut_at hs' 9 8 (by kernel_rfl) (up_at hu 9 (by kernel_rfl))
            have y9 : L2 9 = true := up_at hu 9 (by kernel_rfl)
            have y10 : L2 10 = true := shut_at hs' 11 10 (by kernel_rfl) (up_at hu 11 (by kernel_rfl))
            have y11 : L2 11 = true := up_at hu 11 (by kernel_rfl)
            refine opIn_run_g (j := 9) (b := false) (v := .bool true) (w' := w') rfl rfl (by simp only [y0, y1, y2, y3, y4, y5, y6, y7, y8, y9, y10, y11, hL, cond_true, cond_false]; rfl) (fun c h => by cases h) (fun _ => trivial) ?_ ⟨by simp [Act.put, upd, y0, y1, y2, y3, y4, y5, y6, y7, y8, y9, y10, y11, hL], hW⟩
            simp only [y0, y1, y2, y3, y4, y5, y6, y7, y8, y9, y10, y11, hL, cond_true, cond_false]
            go_simp
          · skip
            have y0 : L2 0 = true := shut_at hs' 2 0 (by kernel_rfl) (shut_at hs' 3 2 (by kernel_rfl) (shut_at hs' 6 3 (by kernel_rfl) (shut_at hs' 9 6 (by kernel_rfl) (shut_at hs' 12 9 (by kernel_rfl) (up_at hu 12 (by kernel_rfl))))))
            have y1 : L2 1 = true := shut_at hs' 2 1 (by kernel_rfl) (shut_at hs' 3 2 (by kernel_rfl) (shut_at hs' 6 3 (by kernel_rfl) (shut_at hs' 9 6 (by kernel_rfl) (shut_at hs' 12 9 (by kernel_rfl) (up_at hu 12 (by kernel_rfl))))))
            have y2 : L2 2 = true := shut_at hs' 3 2 (by kernel_rfl) (shut_at hs' 6 3 (by kernel_rfl) (shut_at hs' 9 6 (by kernel_rfl) (shut_at hs' 12 9 (by kernel_rfl) (up_at hu 12 (by kernel_rfl)))))
            have y3 : L2 3 = true := shut_at hs' 6 3 (by kernel_rfl) (shut_at hs' 9 6 (by kernel_rfl) (shut_at hs' 12 9 (by kernel_rfl) (up_at hu 12 (by kernel_rfl))))
            have y4 : L2 4 = true := shut_at hs' 6 4 (by kernel_rfl) (shut_at hs' 9 6 (by kernel_rfl) (shut_at hs' 12 9 (by kernel_rfl) (up_at hu 12 (by kernel_rfl))))
            have y5 : L2 5 = true := shut_at hs' 6 5 (by kernel_rfl) (shut_at hs' 9 6 (by kernel_rfl) (shut_at hs' 12 9 (by kernel_rfl) (up_at hu 12 (by kernel_rfl))))
            have y6 : L2 6 = true := shut_at hs' 9 6 (by kernel_rfl) (shut_at hs' 12 9 (by kernel_rfl) (up_at hu 12 (by kernel_rfl)))
            have y7 : L2 7 = true := shut_at hs' 8 7 (by kernel_rfl) (shut_at hs' 9 8 (by kernel_rfl) (shut_at hs' 12 9 (by kernel_rfl) (up_at hu 12 (by kernel_rfl))))
            have y8 : L2 8 = true := shut_at hs' 9 8 (by kernel_rfl) (shut_at hs' 12 9 (by kernel_rfl) (up_at hu 12 (by kernel_rfl)))
            have y9 : L2 9 = true := shut_at hs' 12 9 (by kernel_rfl) (up_at hu 12 (by kernel_rfl))
            have y10 : L2 10 = true := shut_at hs' 11 10 (by kernel_rfl) (shut_at hs' 12 11 (by kernel_rfl) (up_at hu 12 (by kernel_rfl)))
            have y11 : L2 11 = true := shut_at hs' 12 11 (by kernel_rfl) (up_at hu 12 (by kernel_rfl))
            have y12 : L2 12 = true := up_at hu 12 (by kernel_rfl)
            have z0 := (hW.cell (p := ⟨pa, 0, none⟩) ja).trans xa0
            have z1 := (hW.cell (p := ⟨pa, 1, none⟩) ja).trans xa1
            have z2 := (hW.cell (p := ⟨pa, 2, none⟩) ja).trans xa2
            have z3 := (hW.cell (p := ⟨pa, 3, none⟩) ja).trans xa3
            have z4 := (hW.cell (p := ⟨pa, 4, none⟩) ja).trans xa4
            refine opIn_run_g (j := 12) (b := true) (v := .agg #[.int .i64 X, .int .i64 Y, .int .i64 OX, .int .i64 OY, .slice AC Ls.length cC]) (w' := w') rfl rfl (by simp only [y0, y1, y2, y3, y4, y5, y6, y7, y8, y9, y10, y11, y12, hL, cond_true, cond_false]; rfl) (fun c h => by cases h) (fun _ => trivial) ?_ ⟨by simp [Act.put, upd, y0, y1, y2, y3, y4, y5, y6, y7, y8, y9, y10, y11, y12, hL], hW⟩
            simp only [y0, y1, y2, y3, y4, y5, y6, y7, y8, y9, y10, y11, y12, hL, cond_true, cond_false]
            go_simp
          · skip
            have y0 : L2 0 = true := shut_at hs' 2 0 (by kernel_rfl) (shut_at hs' 3 2 (by kernel_rfl) (shut_at hs' 6 3 (by kernel_rfl) (shut_at hs' 9 6 (by kernel_rfl) (shut_at hs' 12 9 (by kernel_rfl) (up_at hu 12 (by kernel_rfl))))))
            have y1 : L2 1 = true := shut_at hs' 2 1 (by kernel_rfl) (shut_at hs' 3 2 (by kernel_rfl) (shut_at hs' 6 3 (by kernel_rfl) (shut_at hs' 9 6 (by kernel_rfl) (shut_at hs' 12 9 (by kernel_rfl) (up_at hu 12 (by kernel_rfl))))))
            have y2 : L2 2 = true := shut_at hs' 3 2 (by kernel_rfl) (shut_at hs' 6 3 (by kernel_rfl) (shut_at hs' 9 6 (by kernel_rfl) (shut_at hs' 12 9 (by kernel_rfl) (up_at hu 12 (by kernel_rfl)))))
            have y3 : L2 3 = true := shut_at hs' 6 3 (by kernel_rfl) (shut_at hs' 9 6 (by kernel_rfl) (shut_at hs' 12 9 (by kernel_rfl) (up_at hu 12 (by kernel_rfl))))
            have y4 : L2 4 = true := shut_at hs' 6 4 (by kernel_rfl) (shut_at hs' 9 6 (by kernel_rfl) (shut_at hs' 12 9 (by kernel_rfl) (up_at hu 12 (by kernel_rfl))))
            have y5 : L2 5 = true := shut_at hs' 6 5 (by kernel_rfl) (shut_at hs' 9 6 (by kernel_rfl) (shut_at hs' 12 9 (by kernel_rfl) (up_at hu 12 (by kernel_rfl))))
            have y6 : L2 6 = true := shut_at hs' 9 6 (by kernel_rfl) (shut_at hs' 12 9 (by kernel_rfl) (up_at hu 12 (by kernel_rfl)))
            have y7 : L2 7 = true := shut_at hs' 8 7 (by kernel_rfl) (shut_at hs' 9 8 (by kernel_rfl) (shut_at hs' 12 9 (by kernel_rfl) (up_at hu 12 (by kernel_rfl))))
            have y8 : L2 8 = true := shut_at hs' 9 8 (by kernel_rfl) (shut_at hs' 12 9 (by kernel_rfl) (up_at hu 12 (by kernel_rfl)))
            have y9 : L2 9 = true := shut_at hs' 12 9 (by kernel_rfl) (up_at hu 12 (by kernel_rfl))
            have y10 : L2 10 = true := shut_at hs' 11 10 (by kernel_rfl) (shut_at hs' 12 11 (by kernel_rfl) (up_at hu 12 (by kernel_rfl)))
            have y11 : L2 11 = true := shut_at hs' 12 11 (by kernel_rfl) (up_at hu 12 (by kernel_rfl))
            have y12 : L2 12 = true := up_at hu 12 (by kernel_rfl)
            have y13 : L2 13 = true := up_at hu 13 (by kernel_rfl)
            have hcl := sum_any (w := w') X Y OX OY (HRa.out.keep hW) HAL.out.1 HC2.out.1 HAL.out.2
            refine opIn_call_g (j := 12) (b := true) (f := 12) (args := #[.agg #[.int .i64 X, .int .i64 Y, .int .i64 OX, .int .i64 OY, .slice AC Ls.length cC]]) (w' := w') rfl rfl (by simp only [y0, y1, y2, y3, y4, y5, y6, y7, y8, y9, y10, y11, y12, y13, hL, cond_true, cond_false]; rfl) (fun c h => by cases h) (fun _ => trivial) rfl ?_ ((callsIn_wide.2 hcl).mono ?_)
            · simp only [y0, y1, y2, y3, y4, y5, y6, y7, y8, y9, y10, y11, y12, y13, hL, cond_true, cond_false]
              go_simp
            · rintro e w2 ⟨rfl, h2⟩
              exact ⟨_, rfl, by simp [Act.put, upd, y0, y1, y2, y3, y4, y5, y6, y7, y8, y9, y10, y11, y12, y13, hL], hW.trans (h2.mono hW.size)⟩
          · skip
            have y0 : L2 0 = true := shut_at hs' 2 0 (by kernel_rfl) (shut_at hs' 3 2 (by kernel_rfl) (shut_at hs' 6 3 (by kernel_rfl) (shut_at hs' 9 6 (by kernel_rfl) (shut_at hs' 12 9 (by kernel_rfl) (up_at hu 12 (by kernel_rfl))))))
            have y1 : L2 1 = true := shut_at hs' 2 1 (by kernel_rfl) (shut_at hs' 3 2 (by kernel_rfl) (shut_at hs' 6 3 (by kernel_rfl) (shut_at hs' 9 6 (by kernel_rfl) (shut_at hs' 12 9 (by kernel_rfl) (up_at hu 12 (by kernel_rfl))))))
            have y2 : L2 2 = true := shut_at hs' 3 2 (by kernel_rfl) (shut_at hs' 6 3 (by kernel_rfl) (shut_at hs' 9 6 (by kernel_rfl) (shut_at hs' 12 9 (by kernel_rfl) (up_at hu 12 (by kernel_rfl)))))
            have y3 : L2 3 = true := shut_at hs' 6 3 (by kernel_rfl) (shut_at hs' 9 6 (by kernel_rfl) (shut_at hs' 12 9 (by kernel_rfl) (up_at hu 12 (by kernel_rfl))))
            have y4 : L2 4 = true := shut_at hs' 6 4 (by kernel_rfl) (shut_at hs' 9 6 (by kernel_rfl) (shut_at hs' 12 9 (by kernel_rfl) (up_at hu 12 (by kernel_rfl))))
            have y5 : L2 5 = true := shut_at hs' 6 5 (by kernel_rfl) (shut_at hs' 9 6 (by kernel_rfl) (shut_at hs' 12 9 (by kernel_rfl) (up_at hu 12 (by kernel_rfl))))
            have y6 : L2 6 = true := shut_at hs' 9 6 (by kernel_rfl) (shut_at hs' 12 9 (by kernel_rfl) (up_at hu 12 (by kernel_rfl)))
            have y7 : L2 7 = true := shut_at hs' 8 7 (by kernel_rfl) (shut_at hs' 9 8 (by kernel_rfl) (shut_at hs' 12 9 (by kernel_rfl) (up_at hu 12 (by kernel_rfl))))
            have y8 : L2 8 = true := shut_at hs' 9 8 (by kernel_rfl) (shut_at hs' 12 9 (by kernel_rfl) (up_at hu 12 (by kernel_rfl)))
            have y9 : L2 9 = true := shut_at hs' 12 9 (by kernel_rfl) (up_at hu 12 (by kernel_rfl))
            have y10 : L2 10 = true := shut_at hs' 11 10 (by kernel_rfl) (shut_at hs' 12 11 (by kernel_rfl) (up_at hu 12 (by kernel_rfl)))
            have y11 : L2 11 = true := shut_at hs' 12 11 (by kernel_rfl) (up_at hu 12 (by kernel_rfl))
            have y12 : L2 12 = true := up_at hu 12 (by kernel_rfl)
            have z0 := (hW.cell (p := ⟨w3.heap.size, 0, none⟩) jb).trans xb0
            have z1 := (hW.cell (p := ⟨w3.heap.size, 1, none⟩) jb).trans xb1
            have z2 := (hW.cell (p := ⟨w3.heap.size, 2, none⟩) jb).trans xb2
            have z3 := (hW.cell (p := ⟨w3.heap.size, 3, none⟩) jb).trans xb3
            have z4 := (hW.cell (p := ⟨w3.heap.size, 4, none⟩) jb).trans xb4
            refine opIn_run_g (j := 12) (b := true) (v := .agg #[.int .i64 X, .int .i64 Y, .int .i64 OX, .int .i64 OY, .slice AD Ls.length cD]) (w' := w') rfl rfl (by simp only [y0, y1, y2, y3, y4, y5, y6, y7, y8, y9, y10, y11, y12, hL, cond_true, cond_false]; rfl) (fun c h => by cases h) (fun _ => trivial) ?_ ⟨by simp [Act.put, upd, y0, y1, y2, y3, y4, y5, y6, y7, y8, y9, y10, y11, y12, hL], hW⟩
            simp only [y0, y1, y2, y3, y4, y5, y6, y7, y8, y9, y10, y11, y12, hL, cond_true, cond_false]
            go_simp
          · skip
            have y0 : L2 0 = true := shut_at hs' 2 0 (by kernel_rfl) (shut_at hs' 3 2 (by kernel_rfl) (shut_at hs' 6 3 (by kernel_rfl) (shut_at hs' 9 6 (by kernel_rfl) (shut_at hs' 12 9 (by kernel_rfl) (up_at hu 12 (by kernel_rfl))))))
            have y1 : L2 1 = true := shut_at hs' 2 1 (by kernel_rfl) (shut_at hs' 3 2 (by kernel_rfl) (shut_at hs' 6 3 (by kernel_rfl) (shut_at hs' 9 6 (by kernel_rfl) (shut_at hs' 12 9 (by kernel_rfl) (up_at hu 12 (by kernel_rfl))))))
            have y2 : L2 2 = true := shut_at hs' 3 2 (by kernel_rfl) (shut_at hs' 6 3 (by kernel_rfl) (shut_at hs' 9 6 (by kernel_rfl) (shut_at hs' 12 9 (by kernel_rfl) (up_at hu 12 (by kernel_rfl)))))
            have y3 : L2 3 = true := shut_at hs' 6 3 (by kernel_rfl) (shut_at hs' 9 6 (by kernel_rfl) (shut_at hs' 12 9 (by kernel_rfl) (up_at hu 12 (by kernel_rfl))))
            have y4 : L2 4 = true := shut_at hs' 6 4 (by kernel_rfl) (shut_at hs' 9 6 (by kernel_rfl) (shut_at hs' 12 9 (by kernel_rfl) (up_at hu 12 (by kernel_rfl))))
            have y5 : L2 5 = true := shut_at hs' 6 5 (by kernel_rfl) (shut_at hs' 9 6 (by kernel_rfl) (shut_at hs' 12 9 (by kernel_rfl) (up_at hu 12 (by kernel_rfl))))
            have y6 : L2 6 = true := shut_at hs' 9 6 (by kernel_rfl) (shut_at hs' 12 9 (by kernel_rfl) (up_at hu 12 (by kernel_rfl)))
            have y7 : L2 7 = true := shut_at hs' 8 7 (by kernel_rfl) (shut_at hs' 9 8 (by kernel_rfl) (shut_at hs' 12 9 (by kernel_rfl) (up_at hu 12 (by kernel_rfl))))
            have y8 : L2 8 = true := shut_at hs' 9 8 (by kernel_rfl) (shut_at hs' 12 9 (by kernel_rfl) (up_at hu 12 (by kernel_rfl)))
            have y9 : L2 9 = true := shut_at hs' 12 9 (by kernel_rfl) (up_at hu 12 (by kernel_rfl))
            have y10 : L2 10 = true := shut_at hs' 11 10 (by kernel_rfl) (shut_at hs' 12 11 (by kernel_rfl) (up_at hu 12 (by kernel_rfl)))
            have y11 : L2 11 = true := shut_at hs' 12 11 (by kernel_rfl) (up_at hu 12 (by kernel_rfl))
            have y12 : L2 12 = true := up_at hu 12 (by kernel_rfl)
            have y13 : L2 13 = true := shut_at hs' 14 13 (by kernel_rfl) (up_at hu 14 (by kernel_rfl))
            have y14 : L2 14 = true := up_at hu 14 (by kernel_rfl)
            have y15 : L2 15 = true := up_at hu 15 (by kernel_rfl)
            have hcl := rsum_any (w := w') X Y OX OY (HRb.out.keep hW) HAL.out.1 HC2.out.2 HAL.out.2
            refine opIn_call_g (j := 12) (b := true) (f := 13) (args := #[.agg #[.int .i64 X, .int .i64 Y, .int .i64 OX, .int .i64 OY, .slice AD Ls.length cD]]) (w' := w') rfl rfl (by simp only [y0, y1, y2, y3, y4, y5, y6, y7, y8, y9, y10, y11, y12, y13, y14, y15, hL, cond_true, cond_false]; rfl) (fun c h => by cases h) (fun _ => trivial) rfl ?_ ((callsIn_wide.2 hcl).mono ?_)
            · simp only [y0, y1, y2, y3, y4, y5, y6, y7, y8, y9, y10, y11, y12, y13, y14, y15, hL, cond_true, cond_false]
              go_simp
            · rintro e w2 ⟨rfl, h2⟩
              exact ⟨_, rfl, by simp [Act.put, upd, y0, y1, y2, y3, y4, y5, y6, y7, y8, y9, y10, y11, y12, y13, y14, y15, hL], hW.trans (h2.mono hW.size)⟩
          · skip
            have y0 : L2 0 = true := shut_at hs' 2 0 (by kernel_rfl) (shut_at hs' 3 2 (by kernel_rfl) (shut_at hs' 6 3 (by kernel_rfl) (shut_at hs' 9 6 (by kernel_rfl) (shut_at hs' 12 9 (by kernel_rfl) (up_at hu 12 (by kernel_rfl))))))
            have y1 : L2 1 = true := shut_at hs' 2 1 (by kernel_rfl) (shut_at hs' 3 2 (by kernel_rfl) (shut_at hs' 6 3 (by kernel_rfl) (shut_at hs' 9 6 (by kernel_rfl) (shut_at hs' 12 9 (by kernel_rfl) (up_at hu 12 (by kernel_rfl))))))
            have y2 : L2 2 = true := shut_at hs' 3 2 (by kernel_rfl) (shut_at hs' 6 3 (by kernel_rfl) (shut_at hs' 9 6 (by kernel_rfl) (shut_at hs' 12 9 (by kernel_rfl) (up_at hu 12 (by kernel_rfl)))))
            have y3 : L2 3 = true := shut_at hs' 6 3 (by kernel_rfl) (shut_at hs' 9 6 (by kernel_rfl) (shut_at hs' 12 9 (by kernel_rfl) (up_at hu 12 (by kernel_rfl))))
            have y4 : L2 4 = true := shut_at hs' 6 4 (by kernel_rfl) (shut_at hs' 9 6 (by kernel_rfl) (shut_at hs' 12 9 (by kernel_rfl) (up_at hu 12 (by kernel_rfl))))
            have y5 : L2 5 = true := shut_at hs' 6 5 (by kernel_rfl) (shut_at hs' 9 6 (by kernel_rfl) (shut_at hs' 12 9 (by kernel_rfl) (up_at hu 12 (by kernel_rfl))))
            have y6 : L2 6 = true := shut_at hs' 9 6 (by kernel_rfl) (shut_at hs' 12 9 (by kernel_rfl) (up_at hu 12 (by kernel_rfl)))
            have y7 : L2 7 = true := shut_at hs' 8 7 (by kernel_rfl) (shut_at hs' 9 8 (by kernel_rfl) (shut_at hs' 12 9 (by kernel_rfl) (up_at hu 12 (by kernel_rfl))))
            have y8 : L2 8 = true := shut_at hs' 9 8 (by kernel_rfl) (shut_at hs' 12 9 (by kernel_rfl) (up_at hu 12 (by kernel_rfl)))
            have y9 : L2 9 = true := shut_at hs' 12 9 (by kernel_rfl) (up_at hu 12 (by kernel_rfl))
            have y10 : L2 10 = true := shut_at hs' 11 10 (by kernel_rfl) (shut_at hs' 12 11 (by kernel_rfl) (up_at hu 12 (by kernel_rfl)))
            have y11 : L2 11 = true := shut_at hs' 12 11 (by kernel_rfl) (up_at hu 12 (by kernel_rfl))
            have y12 : L2 12 = true := up_at hu 12 (by kernel_rfl)
            have y13 : L2 13 = true := shut_at hs' 14 13 (by kernel_rfl) (up_at hu 14 (by kernel_rfl))
            have y14 : L2 14 = true := up_at hu 14 (by kernel_rfl)
            have y15 : L2 15 = true := shut_at hs' 16 15 (by kernel_rfl) (up_at hu 16 (by kernel_rfl))
            have y16 : L2 16 = true := up_at hu 16 (by kernel_rfl)
            refine opIn_run_g (j := 12) (b := true) (v := .bool false) (w' := w') rfl rfl (by simp only [y0, y1, y2, y3, y4, y5, y6, y7, y8, y9, y10, y11, y12, y13, y14, y15, y16, hL, cond_true, cond_false]; rfl) (fun c h => by cases h) (fun _ => trivial) ?_ ⟨by simp [Act.put, upd, y0, y1, y2, y3, y4, y5, y6, y7, y8, y9, y10, y11, y12, y13, y14, y15, y16, hL], hW⟩
            simp only [y0, y1, y2, y3, y4, y5, y6, y7, y8, y9, y10, y11, y12, y13, y14, y15, y16, hL, cond_true, cond_false]
            go_simp
          · skip
            have y0 : L2 0 = true := shut_at hs' 2 0 (by kernel_rfl) (shut_at hs' 3 2 (by kernel_rfl) (shut_at hs' 6 3 (by kernel_rfl) (shut_at hs' 9 6 (by kernel_rfl) (up_at hu 9 (by kernel_rfl)))))
            have y1 : L2 1 = true := shut_at hs' 2 1 (by kernel_rfl) (shut_at hs' 3 2 (by kernel_rfl) (shut_at hs' 6 3 (by kernel_rfl) (shut_at hs' 9 6 (by kernel_rfl) (up_at hu 9 (by kernel_rfl)))))
            have y2 : L2 2 = true := shut_at hs' 3 2 (by kernel_rfl) (shut_at hs' 6 3 (by kernel_rfl) (shut_at hs' 9 6 (by kernel_rfl) (up_at hu 9 (by kernel_rfl))))
            have y3 : L2 3 = true := shut_at hs' 6 3 (by kernel_rfl) (shut_at hs' 9 6 (by kernel_rfl) (up_at hu 9 (by kernel_rfl)))
            have y4 : L2 4 = true := shut_at hs' 6 4 (by kernel_rfl) (shut_at hs' 9 6 (by kernel_rfl) (up_at hu 9 (by kernel_rfl)))
            have y5 : L2 5 = true := shut_at hs' 6 5 (by kernel_rfl) (shut_at hs' 9 6 (by kernel_rfl) (up_at hu 9 (by kernel_rfl)))
            have y6 : L2 6 = true := shut_at hs' 9 6 (by kernel_rfl) (up_at hu 9 (by kernel_rfl))
            have y7 : L2 7 = true := shut_at hs' 8 7 (by kernel_rfl) (shut_at hs' 9 8 (by kernel_rfl) (up_at hu 9 (by kernel_rfl)))
            have y8 : L2 8 = true := shut_at hs' 9 8 (by kernel_rfl) (up_at hu 9 (by kernel_rfl))
            have y9 : L2 9 = true := up_at hu 9 (by kernel_rfl)
            have y10 : L2 10 = true := shut_at hs' 11 10 (by kernel_rfl) (shut_at hs' 12 11 (by kernel_rfl) (up_at hu 12 (by kernel_rfl)))
            have y11 : L2 11 = true := shut_at hs' 12 11 (by kernel_rfl) (up_at hu 12 (by kernel_rfl))
            have y12 : L2 12 = true := up_at hu 12 (by kernel_rfl)
            have y13 : L2 13 = true := shut_at hs' 14 13 (by kernel_rfl) (shut_at hs' 17 14 (by kernel_rfl) (up_at hu 17 (by kernel_rfl)))
            have y14 : L2 14 = true := shut_at hs' 17 14 (by kernel_rfl) (up_at hu 17 (by kernel_rfl))
            have y15 : L2 15 = true := shut_at hs' 16 15 (by kernel_rfl) (shut_at hs' 17 16 (by kernel_rfl) (up_at hu 17 (by kernel_rfl)))
            have y16 : L2 16 = true := shut_at hs' 17 16 (by kernel_rfl) (up_at hu 17 (by kernel_rfl))
            have y17 : L2 17 = true := up_at hu 17 (by kernel_rfl)
            refine opIn_run_g (j := 9) (b := false) (v := .bool false) (w' := w') rfl rfl (by simp only [y0, y1, y2, y3, y4, y5, y6, y7, y8, y9, y10, y11, y12, y13, y14, y15, y16, y17, hL, cond_true, cond_false]; rfl) (fun c h => by cases h) (fun _ => trivial) ?_ ⟨by simp [Act.put, upd, y0, y1, y2, y3, y4, y5, y6, y7, y8, y9, y10, y11, y12, y13, y14, y15, y16, y17, hL], hW⟩
            simp only [y0, y1, y2, y3, y4, y5, y6, y7, y8, y9, y10, y11, y12, y13, y14, y15, y16, y17, hL, cond_true, cond_false]
            go_simp
          · skip
            have y0 : L2 0 = true := shut_at hs' 2 0 (by kernel_rfl) (shut_at hs' 3 2 (by kernel_rfl) (shut_at hs' 6 3 (by kernel_rfl) (shut_at hs' 9 6 (by kernel_rfl) (up_at hu 9 (by kernel_rfl)))))
            have y1 : L2 1 = true := shut_at hs' 2 1 (by kernel_rfl) (shut_at hs' 3 2 (by kernel_rfl) (shut_at hs' 6 3 (by kernel_rfl) (shut_at hs' 9 6 (by kernel_rfl) (up_at hu 9 (by kernel_rfl)))))
            have y2 : L2 2 = true := shut_at hs' 3 2 (by kernel_rfl) (shut_at hs' 6 3 (by kernel_rfl) (shut_at hs' 9 6 (by kernel_rfl) (up_at hu 9 (by kernel_rfl))))
            have y3 : L2 3 = true := shut_at hs' 6 3 (by kernel_rfl) (shut_at hs' 9 6 (by kernel_rfl) (up_at hu 9 (by kernel_rfl)))
            have y4 : L2 4 = true := shut_at hs' 6 4 (by kernel_rfl) (shut_at hs' 9 6 (by kernel_rfl) (up_at hu 9 (by kernel_rfl)))
            have y5 : L2 5 = true := shut_at hs' 6 5 (by kernel_rfl) (shut_at hs' 9 6 (by kernel_rfl) (up_at hu 9 (by kernel_rfl)))
            have y6 : L2 6 = true := shut_at hs' 9 6 (by kernel_rfl) (up_at hu 9 (by kernel_rfl))
            have y7 : L2 7 = true := shut_at hs' 8 7 (by kernel_rfl) (shut_at hs' 9 8 (by kernel_rfl) (up_at hu 9 (by kernel_rfl)))
            have y8 : L2 8 = true := shut_at hs' 9 8 (by kernel_rfl) (up_at hu 9 (by kernel_rfl))
            have y9 : L2 9 = true := up_at hu 9 (by kernel_rfl)
            have y10 : L2 10 = true := shut_at hs' 11 10 (by kernel_rfl) (shut_at hs' 12 11 (by kernel_rfl) (shut_at hs' 18 12 (by kernel_rfl) (up_at hu 18 (by kernel_rfl))))
            have y11 : L2 11 = true := shut_at hs' 12 11 (by kernel_rfl) (shut_at hs' 18 12 (by kernel_rfl) (up_at hu 18 (by kernel_rfl)))
            have y12 : L2 12 = true := shut_at hs' 18 12 (by kernel_rfl) (up_at hu 18 (by kernel_rfl))
            have y13 : L2 13 = true := shut_at hs' 14 13 (by kernel_rfl) (shut_at hs' 17 14 (by kernel_rfl) (shut_at hs' 18 17 (by kernel_rfl) (up_at hu 18 (by kernel_rfl))))
            have y14 : L2 14 = true := shut_at hs' 17 14 (by kernel_rfl) (shut_at hs' 18 17 (by kernel_rfl) (up_at hu 18 (by kernel_rfl)))
            have y15 : L2 15 = true := shut_at hs' 16 15 (by kernel_rfl) (shut_at hs' 17 16 (by kernel_rfl) (shut_at hs' 18 17 (by kernel_rfl) (up_at hu 18 (by kernel_rfl))))
            have y16 : L2 16 = true := shut_at hs' 17 16 (by kernel_rfl) (shut_at hs' 18 17 (by kernel_rfl) (up_at hu 18 (by kernel_rfl)))
            have y17 : L2 17 = true := shut_at hs' 18 17 (by kernel_rfl) (up_at hu 18 (by kernel_rfl))
            have y18 : L2 18 = true := up_at hu 18 (by kernel_rfl)
            refine opIn_run (v := .bool false) (w' := w') rfl rfl  (fun c h => by cases h) (fun _ => trivial) ?_ ⟨by simp [Act.put, upd, y0, y1, y2, y3, y4, y5, y6, y7, y8, y9, y10, y11, y12, y13, y14, y15, y16, y17, y18, hL], hW⟩
            simp only [y0, y1, y2, y3, y4, y5, y6, y7, y8, y9, y10, y11, y12, y13, y14, y15, y16, y17, y18, hL, cond_true, cond_false]
            go_simp
        case fin =>
          intro L2 a' u hall hI
          obtain ⟨rfl, hW⟩ := hI
          have l0 := hall 0 (by decide)
          have l1 := hall 1 (by decide)
          have l2 := hall 2 (by decide)
          have l3 := hall 3 (by decide)
          have l4 := hall 4 (by decide)
          have l5 := hall 5 (by decide)
          have l6 := hall 6 (by decide)
          have l7 := hall 7 (by decide)
          have l8 := hall 8 (by decide)
          have l9 := hall 9 (by decide)
          have l10 := hall 10 (by decide)
          have l11 := hall 11 (by decide)
          have l12 := hall 12 (by decide)
          have l13 := hall 13 (by decide)
          have l14 := hall 14 (by decide)
          have l15 := hall 15 (by decide)
          have l16 := hall 16 (by decide)
          have l17 := hall 17 (by decide)
          have l18 := hall 18 (by decide)
          have l19 := hall 19 (by decide)
          have HBu := Lib.hid (HBB.out.trans (hW.mono HBB.out.size))
          simp only [l0, l1, l2, l3, l4, l5, l6, l7, l8, l9, l10, l11, l12, l13, l14, l15, l16, l17, l18, l19, cond_true]
          clear l0 l1 l2 l3 l4 l5 l6 l7 l8 l9 l10 l11 l12 l13 l14 l15 l16 l17 l18 l19 hall hW xa0 xb0 xa1 xb1 xa2 xb2 xa3 xb3 xa4 xb4
          go_wp2_with fail
          refine (some21 _ _ _ (by omega) (by omega)).mono ?_
          rintro e w' ⟨ox2, rfl, ox20, ox21, rfl⟩
          go_wp2_with fail
          refine (some21 _ _ _ (by omega) (by omega)).mono ?_
          rintro e w' ⟨oy2, rfl, oy20, oy21, rfl⟩
          go_wp2_with fail
          refine (some21 _ _ _ (by omega) (by omega)).mono ?_
          rintro e w' ⟨n2, rfl, n20, n21, rfl⟩
          go_wp2_with fail
          refine (some21 _ _ _ (by omega) (by omega)).mono ?_
          rintro e w' ⟨d2, rfl, d20, d21, rfl⟩
          go_wp2_with fail
          refine (some21 _ _ _ (by omega) (by omega)).mono ?_
          rintro e w' ⟨k2, rfl, k20, k21, rfl⟩
          go_wp2_with fail
          refine (some21 _ _ _ (by omega) (by omega)).mono ?_
          rintro e w' ⟨x2, rfl, x20, x21, rfl⟩
          go_wp2_with fail
          refine (some21 _ _ _ (by omega) (by omega)).mono ?_
          rintro e w' ⟨y2, rfl, y20, y21, rfl⟩
          go_wp2
          exact ⟨⟨k + 1, _, _, _, _, _, _, _, by omega, by go_num, rfl, rfl, rfl, rfl, rfl, rfl, rfl, HBu.out⟩, by simp [intOf]; omega⟩
      · refine (wpIn_wide (n := 9)).1 (regionIn_inv (Inv := fun L2 a w' => a = { tmps := #[Value.int IntKind.i64 x, Value.int IntKind.i64 y, Value.int IntKind.i64 ox, Value.int IntKind.i64 oy, Value.int IntKind.i64 n, Value.int IntKind.i64 d, Value.int IntKind.i64 kind, undef, undef, undef, undef, undef, undef, undef, u14, Value.int IntKind.i64 ↑k, Value.pointer (some { block := pa, off := 0 }), Value.int IntKind.i64 1, Value.pointer (some { block := w3.heap.size, off := 0 }), Value.int IntKind.i64 1, Value.bool true, Value.bool false, Value.int IntKind.i64 ↑k, Value.bool true, u24, u25, Value.tuple #[Value.agg #[Value.int IntKind.i64 X, Value.int IntKind.i64 Y, Value.int IntKind.i64 OX, Value.int IntKind.i64 OY, Value.slice AC Ls.length cC], Value.int IntKind.i64 1], Value.int IntKind.i64 x, Value.int IntKind.i64 y, Value.int IntKind.i64 ox, Value.int IntKind.i64 oy, Value.int IntKind.i64 n, Value.int IntKind.i64 d, Value.int IntKind.i64 kind, Value.tuple #[Value.agg #[Value.int IntKind.i64 X, Value.int IntKind.i64 Y, Value.int IntKind.i64 OX, Value.int IntKind.i64 OY, Value.slice AC Ls.length cC], Value.int IntKind.i64 1], Value.agg #[Value.int IntKind.i64 X, Value.int IntKind.i64 Y, Value.int IntKind.i64 OX, Value.int IntKind.i64 OY, Value.slice AC Ls.length cC], Value.int IntKind.i64 1, Value.tuple #[Value.agg #[Value.int IntKind.i64 X, Value.int IntKind.i64 Y, Value.int IntKind.i64 OX, Value.int IntKind.i64 OY, Value.slice AD Ls.length cD], Value.int IntKind.i64 1], Value.int IntKind.i64 x, Value.int IntKind.i64 y, Value.int IntKind.i64 ox, Value.int IntKind.i64 oy, Value.int IntKind.i64 n, Value.int IntKind.i64 d, Value.int IntKind.i64 kind, Value.tuple #[Value.agg #[Value.int IntKind.i64 X, Value.int IntKind.i64 Y, Value.int IntKind.i64 OX, Value.int IntKind.i64 OY, Value.slice AD Ls.length cD], Value.int IntKind.i64 1], Value.agg #[Value.int IntKind.i64 X, Value.int IntKind.i64 Y, Value.int IntKind.i64 OX, Value.int IntKind.i64 OY, Value.slice AD Ls.length cD], Value.int IntKind.i64 1, bif L2 0 then .int .i64 1 else u48, bif L2 1 then .int .i64 1 else u49, bif L2 2 then .bool false else u50, bif L2 3 then .bool false else u51, bif L2 4 then .agg #[.int .i64 X, .int .i64 Y, .int .i64 OX, .int .i64 OY, .slice AC Ls.length cC] else u52, bif L2 5 then .agg #[.int .i64 X, .int .i64 Y, .int .i64 OX, .int .i64 OY, .slice AD Ls.length cD] else u53, bif L2 6 then .bool true else u54, bif L2 7 then .bool false else u55, bif L2 8 then .bool false else u56, bif L2 9 then .bool false else u57, bif L2 10 then .int .i64 1 else u58, bif L2 11 then .bool false else u59, bif L2 12 then .bool false else u60, bif L2 13 then undef else u61, bif L2 14 then undef else u62, bif L2 15 then undef else u63, bif L2 16 then undef else u64, bif L2 17 then undef else u65, bif L2 18 then .bool false else u66, bif L2 19 then .bool false else u67, u68, u69, u70, u71, u72, u73, u74, u75, u76, u77, u78, u79, u80, u81, u82, u83, u84, u85, u86, u87, u88, u89], defers := [] } ∧ Below Wb.heap.size Wb w') hmo (by kernel_rfl) ?start ?step ?fin)
        case start => exact ⟨rfl, below_drewN (Below.refl _ Wb) 1⟩
        case step =>
          intro i' hi' L2 a' w' hI hs' hu
          obtain ⟨rfl, hW⟩ := hI
          have hL := hu.1
          have hi' : i' < 20 := hi'
          obtain rfl | rfl | rfl | rfl | rfl | rfl | rfl | rfl | rfl | rfl | rfl | rfl | rfl | rfl | rfl | rfl | rfl | rfl | rfl | rfl := (by omega : i' = 0 ∨ i' = 1 ∨ i' = 2 ∨ i' = 3 ∨ i' = 4 ∨ i' = 5 ∨ i' = 6 ∨ i' = 7 ∨ i' = 8 ∨ i' = 9 ∨ i' = 10 ∨ i' = 11 ∨ i' = 12 ∨ i' = 13 ∨ i' = 14 ∨ i' = 15 ∨ i' = 16 ∨ i' = 17 ∨ i' = 18 ∨ i' = 19)
          · skip
            refine opIn_run (v := .int .i64 1) (w' := w') rfl rfl  (fun c h => by cases h) (fun _ => trivial) ?_ ⟨by simp [Act.put, upd, hL], hW⟩
            simp only [hL, cond_true, cond_false]
            go_simp
          · skip
            refine opIn_run (v := .int .i64 1) (w' := w') rfl rfl  (fun c h => by cases h) (fun _ => trivial) ?_ ⟨by simp [Act.put, upd, hL], hW⟩
            simp only [hL, cond_true, cond_false]
            go_simp
          · skip
            have y0 : L2 0 = true := up_at hu 0 (by kernel_rfl)
            have y1 : L2 1 = true := up_at hu 1 (by kernel_rfl)
            refine opIn_run (v := .bool false) (w' := w') rfl rfl  (fun c h => by cases h) (fun _ => trivial) ?_ ⟨by simp [Act.put, upd, y0, y1, hL], hW⟩
            simp only [y0, y1, hL, cond_true, cond_false]
            go_simp
          · skip
            have y0 : L2 0 = true := shut_at hs' 2 0 (by kernel_rfl) (up_at hu 2 (by kernel_rfl))
            have y1 : L2 1 = true := shut_at hs' 2 1 (by kernel_rfl) (up_at hu 2 (by kernel_rfl))
            have y2 : L2 2 = true := up_at hu 2 (by kernel_rfl)
            refine opIn_run (v := .bool false) (w' := w') rfl rfl  (fun c h => by cases h) (fun _ => trivial) ?_ ⟨by simp [Act.put, upd, y0, y1, y2, hL], hW⟩
            simp only [y0, y1, y2, hL, cond_true, cond_false]
            go_simp
          · skip
            have y0 : L2 0 = true := shut_at hs' 2 0 (by kernel_rfl) (shut_at hs' 3 2 (by kernel_rfl) (up_at hu 3 (by kernel_rfl)))
            have y1 : L2 1 = true := shut_at hs' 2 1 (by kernel_rfl) (shut_at hs' 3 2 (by kernel_rfl) (up_at hu 3 (by kernel_rfl)))
            have y2 : L2 2 = true := shut_at hs' 3 2 (by kernel_rfl) (up_at hu 3 (by kernel_rfl))
            have y3 : L2 3 = true := up_at hu 3 (by kernel_rfl)
            have z0 := (hW.cell (p := ⟨pa, 0, none⟩) ja).trans xa0
            have z1 := (hW.cell (p := ⟨pa, 1, none⟩) ja).trans xa1
            have z2 := (hW.cell (p := ⟨pa, 2, none⟩) ja).trans xa2
            have z3 := (hW.cell (p := ⟨pa, 3, none⟩) ja).trans xa3
            have z4 := (hW.cell (p := ⟨pa, 4, none⟩) ja).trans xa4
            refine opIn_run_g (j := 3) (b := false) (v := .agg #[.int .i64 X, .int .i64 Y, .int .i64 OX, .int .i64 OY, .slice AC Ls.length cC]) (w' := w') rfl rfl (by simp only [y0, y1, y2, y3, hL, cond_true, cond_false]; rfl) (fun c h => by cases h) (fun _ => trivial) ?_ ⟨by simp [Act.put, upd, y0, y1, y2, y3, hL], hW⟩
            simp only [y0, y1, y2, y3, hL, cond_true, cond_false]
            go_simp
          · skip
            have y0 : L2 0 = true := shut_at hs' 2 0 (by kernel_rfl) (shut_at hs' 3 2 (by kernel_rfl) (up_at hu 3 (by kernel_rfl)))
            have y1 : L2 1 = true := shut_at hs' 2 1 (by kernel_rfl) (shut_at hs' 3 2 (by kernel_rfl) (up_at hu 3 (by kernel_rfl)))
            have y2 : L2 2 = true := shut_at hs' 3 2 (by kernel_rfl) (up_at hu 3 (by kernel_rfl))
            have y3 : L2 3 = true := up_at hu 3 (by kernel_rfl)
            have z0 := (hW.cell (p := ⟨w3.heap.size, 0, none⟩) jb).trans xb0
            have z1 := (hW.cell (p := ⟨w3.heap.size, 1, none⟩) jb).trans xb1
            have z2 := (hW.cell (p := ⟨w3.heap.size, 2, none⟩) jb).trans xb2
            have z3 := (hW.cell (p := ⟨w3.heap.size, 3, none⟩) jb).trans xb3
            have z4 := (hW.cell (p := ⟨w3.heap.size, 4, none⟩) jb).trans xb4
            refine opIn_run_g (j := 3) (b := false) (v := .agg #[.int .i64 X, .int .i64 Y, .int .i64 OX, .int .i64 OY, .slice AD Ls.length cD]) (w' := w') rfl rfl (by simp only [y0, y1, y2, y3, hL, cond_true, cond_false]; rfl) (fun c h => by cases h) (fun _ => trivial) ?_ ⟨by simp [Act.put, upd, y0, y1, y2, y3, hL], hW⟩
            simp only [y0, y1, y2, y3, hL, cond_true, cond_false]
            go_simp
          · skip
            have y0 : L2 0 = true := shut_at hs' 2 0 (by kernel_rfl) (shut_at hs' 3 2 (by kernel_rfl) (up_at hu 3 (by kernel_rfl)))
            have y1 : L2 1 = true := shut_at hs' 2 1 (by kernel_rfl) (shut_at hs' 3 2 (by kernel_rfl) (up_at hu 3 (by kernel_rfl)))
            have y2 : L2 2 = true := shut_at hs' 3 2 (by kernel_rfl) (up_at hu 3 (by kernel_rfl))
            have y3 : L2 3 = true := up_at hu 3 (by kernel_rfl)
            have y4 : L2 4 = true := up_at hu 4 (by kernel_rfl)
            have y5 : L2 5 = true := up_at hu 5 (by kernel_rfl)
            have hcl := rsame_any (w := w') X Y OX OY (HRa.out.keep hW) (HRb.out.keep hW) HAL.out.1 HC2.out.1 HC2.out.2 (fun L hL => (HAL.out.2 L hL).1)
            refine opIn_call_g (j := 3) (b := false) (f := 11) (args := #[.agg #[.int .i64 X, .int .i64 Y, .int .i64 OX, .int .i64 OY, .slice AC Ls.length cC], .agg #[.int .i64 X, .int .i64 Y, .int .i64 OX, .int .i64 OY, .slice AD Ls.length cD]]) (w' := w') rfl rfl (by simp only [y0, y1, y2, y3, y4, y5, hL, cond_true, cond_false]; rfl) (fun c h => by cases h) (fun _ => trivial) rfl ?_ ((callsIn_wide.2 hcl).mono ?_)
            · simp only [y0, y1, y2, y3, y4, y5, hL, cond_true, cond_false]
              go_simp
            · rintro e w2 ⟨rfl, h2⟩
              exact ⟨_, rfl, by simp [Act.put, upd, y0, y1, y2, y3, y4, y5, hL], hW.trans (h2.mono hW.size)⟩
          · skip
            have y0 : L2 0 = true := shut_at hs' 2 0 (by kernel_rfl) (shut_at hs' 3 2 (by kernel_rfl) (up_at hu 3 (by kernel_rfl)))
            have y1 : L2 1 = true := shut_at hs' 2 1 (by kernel_rfl) (shut_at hs' 3 2 (by kernel_rfl) (up_at hu 3 (by kernel_rfl)))
            have y2 : L2 2 = true := shut_at hs' 3 2 (by kernel_rfl) (up_at hu 3 (by kernel_rfl))
            have y3 : L2 3 = true := up_at hu 3 (by kernel_rfl)
            have y4 : L2 4 = true := shut_at hs' 6 4 (by kernel_rfl) (up_at hu 6 (by kernel_rfl))
            have y5 : L2 5 = true := shut_at hs' 6 5 (by kernel_rfl) (up_at hu 6 (by kernel_rfl))
            have y6 : L2 6 = true := up_at hu 6 (by kernel_rfl)
            refine opIn_run_g (j := 3) (b := false) (v := .bool false) (w' := w') rfl rfl (by simp only [y0, y1, y2, y3, y4, y5, y6, hL, cond_true, cond_false]; rfl) (fun c h => by cases h) (fun _ => trivial) ?_ ⟨by simp [Act.put, upd, y0, y1, y2, y3, y4, y5, y6, hL], hW⟩
            simp only [y0, y1, y2, y3, y4, y5, y6, hL, cond_true, cond_false]
            go_simp
          · skip
            have y0 : L2 0 = true := shut_at hs' 2 0 (by kernel_rfl) (shut_at hs' 3 2 (by kernel_rfl) (up_at hu 3 (by kernel_rfl)))
            have y1 : L2 1 = true := shut_at hs' 2 1 (by kernel_rfl) (shut_at hs' 3 2 (by kernel_rfl) (up_at hu 3 (by kernel_rfl)))
            have y2 : L2 2 = true := shut_at hs' 3 2 (by kernel_rfl) (up_at hu 3 (by kernel_rfl))
            have y3 : L2 3 = true := up_at hu 3 (by kernel_rfl)
            have y4 : L2 4 = true := shut_at hs' 6 4 (by kernel_rfl) (shut_at hs' 7 6 (by kernel_rfl) (up_at hu 7 (by kernel_rfl)))
            have y5 : L2 5 = true := shut_at hs' 6 5 (by kernel_rfl) (shut_at hs' 7 6 (by kernel_rfl) (up_at hu 7 (by kernel_rfl)))
            have y6 : L2 6 = true := shut_at hs' 7 6 (by kernel_rfl) (up_at hu 7 (by kernel_rfl))
            have y7 : L2 7 = true := up_at hu 7 (by kernel_rfl)
            refine opIn_run (v := .bool false) (w' := w') rfl rfl  (fun c h => by cases h) (fun _ => trivial) ?_ ⟨by simp [Act.put, upd, y0, y1, y2, y3, y4, y5, y6, y7, hL], hW⟩
            simp only [y0, y1, y2, y3, y4, y5, y6, y7, hL, cond_true, cond_false]
            go_simp
          · skip
            have y0 : L2 0 = true := shut_at hs' 2 0 (by kernel_rfl) (shut_at hs' 3 2 (by kernel_rfl) (shut_at hs' 6 3 (by kernel_rfl) (up_at hu 6 (by kernel_rfl))))
            have y1 : L2 1 = true := shut_at hs' 2 1 (by kernel_rfl) (shut_at hs' 3 2 (by kernel_rfl) (shut_at hs' 6 3 (by kernel_rfl) (up_at hu 6 (by kernel_rfl))))
            have y2 : L2 2 = true := shut_at hs' 3 2 (by kernel_rfl) (shut_at hs' 6 3 (by kernel_rfl) (up_at hu 6 (by kernel_rfl)))
            have y3 : L2 3 = true := shut_at hs' 6 3 (by kernel_rfl) (up_at hu 6 (by kernel_rfl))
            have y4 : L2 4 = true := shut_at hs' 6 4 (by kernel_rfl) (up_at hu 6 (by kernel_rfl))
            have y5 : L2 5 = true := shut_at hs' 6 5 (by kernel_rfl) (up_at hu 6 (by kernel_rfl))
            have y6 : L2 6 = true := up_at hu 6 (by kernel_rfl)
            have y7 : L2 7 = true := shut_at hs' 8 7 (by kernel_rfl) (up_at hu 8 (by kernel_rfl))
            have y8 : L2 8 = true := up_at hu 8 (by kernel_rfl)
            refine opIn_run (v := .bool false) (w' := w') rfl rfl  (fun c h => by cases h) (fun _ => trivial) ?_ ⟨by simp [Act.put, upd, y0, y1, y2, y3, y4, y5, y6, y7, y8, hL], hW⟩
            simp only [y0, y1, y2, y3, y4, y5, y6, y7, y8, hL, cond_true, cond_false]
            go_simp
          · skip
            have y0 : L2 0 = true := shut_at hs' 2 0 (by kernel_rfl) (shut_at hs' 3 2 (by kernel_rfl) (shut_at hs' 6 3 (by kernel_rfl) (shut_at hs' 9 6 (by kernel_rfl) (up_at hu 9 (by kernel_rfl)))))
            have y1 : L2 1 = true := shut_at hs' 2 1 (by kernel_rfl) (shut_at hs' 3 2 (by kernel_rfl) (shut_at hs' 6 3 (by kernel_rfl) (shut_at hs' 9 6 (by kernel_rfl) (up_at hu 9 (by kernel_rfl)))))
            have y2 : L2 2 = true := shut_at hs' 3 2 (by kernel_rfl) (shut_at hs' 6 3 (by kernel_rfl) (shut_at hs' 9 6 (by kernel_rfl) (up_at hu 9 (by kernel_rfl))))
            have y3 : L2 3 = true := shut_at hs' 6 3 (by kernel_rfl) (shut_at hs' 9 6 (by kernel_rfl) (up_at hu 9 (by kernel_rfl)))
            have y4 : L2 4 = true := shut_at hs' 6 4 (by kernel_rfl) (shut_at hs' 9 6 (by kernel_rfl) (up_at hu 9 (by kernel_rfl)))
            have y5 : L2 5 = true := shut_at hs' 6 5 (by kernel_rfl) (shut_at hs' 9 6 (by kernel_rfl) (up_at hu 9 (by kernel_rfl)))
            have y6 : L2 6 = true := shut_at hs' 9 6 (by kernel_rfl) (up_at hu 9 (by kernel_rfl))
            have y7 : L2 7 = true := shut_at hs' 8 7 (by kernel_rfl) (shut_at hs' 9 8 (by kernel_rfl) (up_at hu 9 (by kernel_rfl)))
            have y8 : L2 8 = true := shut_at hs' 9 8 (by kernel_rfl) (up_at hu 9 (by kernel_rfl))
            have y9 : L2 9 = true := up_at hu 9 (by kernel_rfl)
            refine opIn_run_g (j := 9) (b := false) (v := .int .i64 1) (w' := w') rfl rfl (by simp only [y0, y1, y2, y3, y4, y5, y6, y7, y8, y9, hL, cond_true, cond_false]; rfl) (fun c h => by cases h) (fun _ => trivial) ?_ ⟨by simp [Act.put, upd, y0, y1, y2, y3, y4, y5, y6, y7, y8, y9, hL], hW⟩
            simp only [y0, y1, y2, y3, y4, y5, y6, y7, y8, y9, hL, cond_true, cond_false]
            go_simp
          · skip
            have y0 : L2 0 = true := shut_at hs' 2 0 (by kernel_rfl) (shut_at hs' 3 2 (by kernel_rfl) (shut_at hs' 6 3 (by kernel_rfl) (shut_at hs' 9 6 (by kernel_rfl) (up_at hu 9 (by kernel_rfl)))))
            have y1 : L2 1 = true := shut_at hs' 2 1 (by kernel_rfl) (shut_at hs' 3 2 (by kernel_rfl) (shut_at hs' 6 3 (by kernel_rfl) (shut_at hs' 9 6 (by kernel_rfl) (up_at hu 9 (by kernel_rfl)))))
            have y2 : L2 2 = true := shut_at hs' 3 2 (by kernel_rfl) (shut_at hs' 6 3 (by kernel_rfl) (shut_at hs' 9 6 (by kernel_rfl) (up_at hu 9 (by kernel_rfl))))
            have y3 : L2 3 = true := shut_at hs' 6 3 (by kernel_rfl) (shut_at hs' 9 6 (by kernel_rfl) (up_at hu 9 (by kernel_rfl)))
            have y4 : L2 4 = true := shut_at hs' 6 4 (by kernel_rfl) (shut_at hs' 9 6 (by kernel_rfl) (up_at hu 9 (by kernel_rfl)))
            have y5 : L2 5 = true := shut_at hs' 6 5 (by kernel_rfl) (shut_at hs' 9 6 (by kernel_rfl) (up_at hu 9 (by kernel_rfl)))
            have y6 : L2 6 = true := shut_at hs' 9 6 (by kernel_rfl) (up_at hu 9 (by kernel_rfl))
            have y7 : L2 7 = true := shut_at hs' 8 7 (by kernel_rfl) (shut_at hs' 9 8 (by kernel_rfl) (up_at hu 9 (by kernel_rfl)))
            have y8 : L2 8 = true := shut_at hs' 9 8 (by kernel_rfl) (up_at hu 9 (by kernel_rfl))
            have y9 : L2 9 = true := up_at hu 9 (by kernel_rfl)
            have y10 : L2 10 = true := up_at hu 10 (by kernel_rfl)
            refine opIn_run_g (j := 9) (b := false) (v := .bool false) (w' := w') rfl rfl (by simp only [y0, y1, y2, y3, y4, y5, y6, y7, y8, y9, y10, hL, cond_true, cond_false]; rfl) (fun c h => by cases h) (fun _ => trivial) ?_ ⟨by simp [Act.put, upd, y0, y1, y2, y3, y4, y5, y6, y7, y8, y9, y10, hL], hW⟩
            simp only [y0, y1, y2, y3, y4, y5, y6, y7, y8, y9, y10, hL, cond_true, cond_false]
            go_simp
          · skip
            have y0 : L2 0 = true := shut_at hs' 2 0 (by kernel_rfl) (shut_at hs' 3 2 (by kernel_rfl) (shut_at hs' 6 3 (by kernel_rfl) (shut_at hs' 9 6 (by kernel_rfl) (up_at hu 9 (by kernel_rfl)))))
            have y1 : L2 1 = true := shut_at hs' 2 1 (by kernel_rfl) (shut_at hs' 3 2 (by kernel_rfl) (shut_at hs' 6 3 (by kernel_rfl) (shut_at hs' 9 6 (by kernel_rfl) (up_at hu 9 (by kernel_rfl)))))
            have y2 : L2 2 = true := shut_at hs' 3 2 (by kernel_rfl) (shut_at hs' 6 3 (by kernel_rfl) (shut_at hs' 9 6 (by kernel_rfl) (up_at hu 9 (by kernel_rfl))))
            have y3 : L2 3 = true := shut_at hs' 6 3 (by kernel_rfl) (shut_at hs' 9 6 (by kernel_rfl) (up_at hu 9 (by kernel_rfl)))
            have y4 : L2 4 = true := shut_at hs' 6 4 (by kernel_rfl) (shut_at hs' 9 6 (by kernel_rfl) (up_at hu 9 (by kernel_rfl)))
            have y5 : L2 5 = true := shut_at hs' 6 5 (by kernel_rfl) (shut_at hs' 9 6 (by kernel_rfl) (up_at hu 9 (by kernel_rfl)))
            have y6 : L2 6 = true := shut_at hs' 9 6 (by kernel_rfl) (up_at hu 9 (by kernel_rfl))
            have y7 : L2 7 = true := shut_at hs' 8 7 (by kernel_rfl) (shut_at hs' 9 8 (by kernel_rfl) (up_at hu 9 (by kernel_rfl)))
            have y8 : L2 8 = true := shut_at hs' 9 8 (by kernel_rfl) (up_at hu 9 (by kernel_rfl))
            have y9 : L2 9 = true := up_at hu 9 (by kernel_rfl)
            have y10 : L2 10 = true := shut_at hs' 11 10 (by kernel_rfl) (up_at hu 11 (by kernel_rfl))
            have y11 : L2 11 = true := up_at hu 11 (by kernel_rfl)
            refine opIn_run_g (j := 9) (b := false) (v := .bool false) (w' := w') rfl rfl (by simp only [y0, y1, y2, y3, y4, y5, y6, y7, y8, y9, y10, y11, hL, cond_true, cond_false]; rfl) (fun c h => by cases h) (fun _ => trivial) ?_ ⟨by simp [Act.put, upd, y0, y1, y2, y3, y4, y5, y6, y7, y8, y9, y10, y11, hL], hW⟩
            simp only [y0, y1, y2, y3, y4, y5, y6, y7, y8, y9, y10, y11, hL, cond_true, cond_false]
            go_simp
          · skip
            have y0 : L2 0 = true := shut_at hs' 2 0 (by kernel_rfl) (shut_at hs' 3 2 (by kernel_rfl) (shut_at hs' 6 3 (by kernel_rfl) (shut_at hs' 9 6 (by kernel_rfl) (shut_at hs' 12 9 (by kernel_rfl) (up_at hu 12 (by kernel_rfl))))))
            have y1 : L2 1 = true := shut_at hs' 2 1 (by kernel_rfl) (shut_at hs' 3 2 (by kernel_rfl) (shut_at hs' 6 3 (by kernel_rfl) (shut_at hs' 9 6 (by kernel_rfl) (shut_at hs' 12 9 (by kernel_rfl) (up_at hu 12 (by kernel_rfl))))))
            have y2 : L2 2 = true := shut_at hs' 3 2 (by kernel_rfl) (shut_at hs' 6 3 (by kernel_rfl) (shut_at hs' 9 6 (by kernel_rfl) (shut_at hs' 12 9 (by kernel_rfl) (up_at hu 12 (by kernel_rfl)))))
            have y3 : L2 3 = true := shut_at hs' 6 3 (by kernel_rfl) (shut_at hs' 9 6 (by kernel_rfl) (shut_at hs' 12 9 (by kernel_rfl) (up_at hu 12 (by kernel_rfl))))
            have y4 : L2 4 = true := shut_at hs' 6 4 (by kernel_rfl) (shut_at hs' 9 6 (by kernel_rfl) (shut_at hs' 12 9 (by kernel_rfl) (up_at hu 12 (by kernel_rfl))))
            have y5 : L2 5 = true := shut_at hs' 6 5 (by kernel_rfl) (shut_at hs' 9 6 (by kernel_rfl) (shut_at hs' 12 9 (by kernel_rfl) (up_at hu 12 (by kernel_rfl))))
            have y6 : L2 6 = true := shut_at hs' 9 6 (by kernel_rfl) (shut_at hs' 12 9 (by kernel_rfl) (up_at hu 12 (by kernel_rfl)))
            have y7 : L2 7 = true := shut_at hs' 8 7 (by kernel_rfl) (shut_at hs' 9 8 (by kernel_rfl) (shut_at hs' 12 9 (by kernel_rfl) (up_at hu 12 (by kernel_rfl))))
            have y8 : L2 8 = true := shut_at hs' 9 8 (by kernel_rfl) (shut_at hs' 12 9 (by kernel_rfl) (up_at hu 12 (by kernel_rfl)))
            have y9 : L2 9 = true := shut_at hs' 12 9 (by kernel_rfl) (up_at hu 12 (by kernel_rfl))
            have y10 : L2 10 = true := shut_at hs' 11 10 (by kernel_rfl) (shut_at hs' 12 11 (by kernel_rfl) (up_at hu 12 (by kernel_rfl)))
            have y11 : L2 11 = true := shut_at hs' 12 11 (by kernel_rfl) (up_at hu 12 (by kernel_rfl))
            have y12 : L2 12 = true := up_at hu 12 (by kernel_rfl)
            have z0 := (hW.cell (p := ⟨pa, 0, none⟩) ja).trans xa0
            have z1 := (hW.cell (p := ⟨pa, 1, none⟩) ja).trans xa1
            have z2 := (hW.cell (p := ⟨pa, 2, none⟩) ja).trans xa2
            have z3 := (hW.cell (p := ⟨pa, 3, none⟩) ja).trans xa3
            have z4 := (hW.cell (p := ⟨pa, 4, none⟩) ja).trans xa4
            exact opIn_not_g (j := 12) (b := true) (c := false) rfl rfl (by simp only [y0, y1, y2, y3, y4, y5, y6, y7, y8, y9, y10, y11, y12, hL, cond_true, cond_false]; rfl) (by decide) (fun _ => trivial) ⟨by simp [Act.put, upd, y0, y1, y2, y3, y4, y5, y6, y7, y8, y9, y10, y11, y12, hL], hW⟩
          · skip
            have y0 : L2 0 = true := shut_at hs' 2 0 (by kernel_rfl) (shut_at hs' 3 2 (by kernel_rfl) (shut_at hs' 6 3 (by kernel_rfl) (shut_at hs' 9 6 (by kernel_rfl) (shut_at hs' 12 9 (by kernel_rfl) (up_at hu 12 (by kernel_rfl))))))
            have y1 : L2 1 = true := shut_at hs' 2 1 (by kernel_rfl) (shut_at hs' 3 2 (by kernel_rfl) (shut_at hs' 6 3 (by kernel_rfl) (shut_at hs' 9 6 (by kernel_rfl) (shut_at hs' 12 9 (by kernel_rfl) (up_at hu 12 (by kernel_rfl))))))
            have y2 : L2 2 = true := shut_at hs' 3 2 (by kernel_rfl) (shut_at hs' 6 3 (by kernel_rfl) (shut_at hs' 9 6 (by kernel_rfl) (shut_at hs' 12 9 (by kernel_rfl) (up_at hu 12 (by kernel_rfl)))))
            have y3 : L2 3 = true := shut_at hs' 6 3 (by kernel_rfl) (shut_at hs' 9 6 (by kernel_rfl) (shut_at hs' 12 9 (by kernel_rfl) (up_at hu 12 (by kernel_rfl))))
            have y4 : L2 4 = true := shut_at hs' 6 4 (by kernel_rfl) (shut_at hs' 9 6 (by kernel_rfl) (shut_at hs' 12 9 (by kernel_rfl) (up_at hu 12 (by kernel_rfl))))
            have y5 : L2 5 = true := shut_at hs' 6 5 (by kernel_rfl) (shut_at hs' 9 6 (by kernel_rfl) (shut_at hs' 12 9 (by kernel_rfl) (up_at hu 12 (by kernel_rfl))))
            have y6 : L2 6 = true := shut_at hs' 9 6 (by kernel_rfl) (shut_at hs' 12 9 (by kernel_rfl) (up_at hu 12 (by kernel_rfl)))
            have y7 : L2 7 = true := shut_at hs' 8 7 (by kernel_rfl) (shut_at hs' 9 8 (by kernel_rfl) (shut_at hs' 12 9 (by kernel_rfl) (up_at hu 12 (by kernel_rfl))))
            have y8 : L2 8 = true := shut_at hs' 9 8 (by kernel_rfl) (shut_at hs' 12 9 (by kernel_rfl) (up_at hu 12 (by kernel_rfl)))
            have y9 : L2 9 = true := shut_at hs' 12 9 (by kernel_rfl) (up_at hu 12 (by kernel_rfl))
            have y10 : L2 10 = true := shut_at hs' 11 10 (by kernel_rfl) (shut_at hs' 12 11 (by kernel_rfl) (up_at hu 12 (by kernel_rfl)))
            have y11 : L2 11 = true := shut_at hs' 12 11 (by kernel_rfl) (up_at hu 12 (by kernel_rfl))
            have y12 : L2 12 = true := up_at hu 12 (by kernel_rfl)
            have y13 : L2 13 = true := up_at hu 13 (by kernel_rfl)
            exact opIn_not_g (j := 12) (b := true) (c := false) rfl rfl (by simp only [y0, y1, y2, y3, y4, y5, y6, y7, y8, y9, y10, y11, y12, y13, hL, cond_true, cond_false]; rfl) (by decide) (fun _ => trivial) ⟨by simp [Act.put, upd, y0, y1, y2, y3, y4, y5, y6, y7, y8, y9, y10, y11, y12, y13, hL], hW⟩
          · skip
            have y0 : L2 0 = true := shut_at hs' 2 0 (by kernel_rfl) (shut_at hs' 3 2 (by kernel_rfl) (shut_at hs' 6 3 (by kernel_rfl) (shut_at hs' 9 6 (by kernel_rfl) (shut_at hs' 12 9 (by kernel_rfl) (up_at hu 12 (by kernel_rfl))))))
            have y1 : L2 1 = true := shut_at hs' 2 1 (by kernel_rfl) (shut_at hs' 3 2 (by kernel_rfl) (shut_at hs' 6 3 (by kernel_rfl) (shut_at hs' 9 6 (by kernel_rfl) (shut_at hs' 12 9 (by kernel_rfl) (up_at hu 12 (by kernel_rfl))))))
            have y2 : L2 2 = true := shut_at hs' 3 2 (by kernel_rfl) (shut_at hs' 6 3 (by kernel_rfl) (shut_at hs' 9 6 (by kernel_rfl) (shut_at hs' 12 9 (by kernel_rfl) (up_at hu 12 (by kernel_rfl)))))
            have y3 : L2 3 = true := shut_at hs' 6 3 (by kernel_rfl) (shut_at hs' 9 6 (by kernel_rfl) (shut_at hs' 12 9 (by kernel_rfl) (up_at hu 12 (by kernel_rfl))))
            have y4 : L2 4 = true := shut_at hs' 6 4 (by kernel_rfl) (shut_at hs' 9 6 (by kernel_rfl) (shut_at hs' 12 9 (by kernel_rfl) (up_at hu 12 (by kernel_rfl))))
            have y5 : L2 5 = true := shut_at hs' 6 5 (by kernel_rfl) (shut_at hs' 9 6 (by kernel_rfl) (shut_at hs' 12 9 (by kernel_rfl) (up_at hu 12 (by kernel_rfl))))
            have y6 : L2 6 = true := shut_at hs' 9 6 (by kernel_rfl) (shut_at hs' 12 9 (by kernel_rfl) (up_at hu 12 (by kernel_rfl)))
            have y7 : L2 7 = true := shut_at hs' 8 7 (by kernel_rfl) (shut_at hs' 9 8 (by kernel_rfl) (shut_at hs' 12 9 (by kernel_rfl) (up_at hu 12 (by kernel_rfl))))
            have y8 : L2 8 = true := shut_at hs' 9 8 (by kernel_rfl) (shut_at hs' 12 9 (by kernel_rfl) (up_at hu 12 (by kernel_rfl)))
            have y9 : L2 9 = true := shut_at hs' 12 9 (by kernel_rfl) (up_at hu 12 (by kernel_rfl))
            have y10 : L2 10 = true := shut_at hs' 11 10 (by kernel_rfl) (shut_at hs' 12 11 (by kernel_rfl) (up_at hu 12 (by kernel_rfl)))
            have y11 : L2 11 = true := shut_at hs' 12 11 (by kernel_rfl) (up_at hu 12 (by kernel_rfl))
            have y12 : L2 12 = true := up_at hu 12 (by kernel_rfl)
            have z0 := (hW.cell (p := ⟨w3.heap.size, 0, none⟩) jb).trans xb0
            have z1 := (hW.cell (p := ⟨w3.heap.size, 1, none⟩) jb).trans xb1
            have z2 := (hW.cell (p := ⟨w3.heap.size, 2, none⟩) jb).trans xb2
            have z3 := (hW.cell (p := ⟨w3.heap.size, 3, none⟩) jb).trans xb3
            have z4 := (hW.cell (p := ⟨w3.heap.size, 4, none⟩) jb).trans xb4
            exact opIn_not_g (j := 12) (b := true) (c := false) rfl rfl (by simp only [y0, y1, y2, y3, y4, y5, y6, y7, y8, y9, y10, y11, y12, hL, cond_true, cond_false]; rfl) (by decide) (fun _ => trivial) ⟨by simp [Act.put, upd, y0, y1, y2, y3, y4, y5, y6, y7, y8, y9, y10, y11, y12, hL], hW⟩
          · skip
            have y0 : L2 0 = true := shut_at hs' 2 0 (by kernel_rfl) (shut_at hs' 3 2 (by kernel_rfl) (shut_at hs' 6 3 (by kernel_rfl) (shut_at hs' 9 6 (by kernel_rfl) (shut_at hs' 12 9 (by kernel_rfl) (up_at hu 12 (by kernel_rfl))))))
            have y1 : L2 1 = true := shut_at hs' 2 1 (by kernel_rfl) (shut_at hs' 3 2 (by kernel_rfl) (shut_at hs' 6 3 (by kernel_rfl) (shut_at hs' 9 6 (by kernel_rfl) (shut_at hs' 12 9 (by kernel_rfl) (up_at hu 12 (by kernel_rfl))))))
            have y2 : L2 2 = true := shut_at hs' 3 2 (by kernel_rfl) (shut_at hs' 6 3 (by kernel_rfl) (shut_at hs' 9 6 (by kernel_rfl) (shut_at hs' 12 9 (by kernel_rfl) (up_at hu 12 (by kernel_rfl)))))
            have y3 : L2 3 = true := shut_at hs' 6 3 (by kernel_rfl) (shut_at hs' 9 6 (by kernel_rfl) (shut_at hs' 12 9 (by kernel_rfl) (up_at hu 12 (by kernel_rfl))))
            have y4 : L2 4 = true := shut_at hs' 6 4 (by kernel_rfl) (shut_at hs' 9 6 (by kernel_rfl) (shut_at hs' 12 9 (by kernel_rfl) (up_at hu 12 (by kernel_rfl))))
            have y5 : L2 5 = true := shut_at hs' 6 5 (by kernel_rfl) (shut_at hs' 9 6 (by kernel_rfl) (shut_at hs' 12 9 (by kernel_rfl) (up_at hu 12 (by kernel_rfl))))
            have y6 : L2 6 = true := shut_at hs' 9 6 (by kernel_rfl) (shut_at hs' 12 9 (by kernel_rfl) (up_at hu 12 (by kernel_rfl)))
            have y7 : L2 7 = true := shut_at hs' 8 7 (by kernel_rfl) (shut_at hs' 9 8 (by kernel_rfl) (shut_at hs' 12 9 (by kernel_rfl) (up_at hu 12 (by kernel_rfl))))
            have y8 : L2 8 = true := shut_at hs' 9 8 (by kernel_rfl) (shut_at hs' 12 9 (by kernel_rfl) (up_at hu 12 (by kernel_rfl)))
            have y9 : L2 9 = true := shut_at hs' 12 9 (by kernel_rfl) (up_at hu 12 (by kernel_rfl))
            have y10 : L2 10 = true := shut_at hs' 11 10 (by kernel_rfl) (shut_at hs' 12 11 (by kernel_rfl) (up_at hu 12 (by kernel_rfl)))
            have y11 : L2 11 = true := shut_at hs' 12 11 (by kernel_rfl) (up_at hu 12 (by kernel_rfl))
            have y12 : L2 12 = true := up_at hu 12 (by kernel_rfl)
            have y13 : L2 13 = true := shut_at hs' 14 13 (by kernel_rfl) (up_at hu 14 (by kernel_rfl))
            have y14 : L2 14 = true := up_at hu 14 (by kernel_rfl)
            have y15 : L2 15 = true := up_at hu 15 (by kernel_rfl)
            exact opIn_not_g (j := 12) (b := true) (c := false) rfl rfl (by simp only [y0, y1, y2, y3, y4, y5, y6, y7, y8, y9, y10, y11, y12, y13, y14, y15, hL, cond_true, cond_false]; rfl) (by decide) (fun _ => trivial) ⟨by simp [Act.put, upd, y0, y1, y2, y3, y4, y5, y6, y7, y8, y9, y10, y11, y12, y13, y14, y15, hL], hW⟩
          · skip
            have y0 : L2 0 = true := shut_at hs' 2 0 (by kernel_rfl) (shut_at hs' 3 2 (by kernel_rfl) (shut_at hs' 6 3 (by kernel_rfl) (shut_at hs' 9 6 (by kernel_rfl) (shut_at hs' 12 9 (by kernel_rfl) (up_at hu 12 (by kernel_rfl))))))
            have y1 : L2 1 = true := shut_at hs' 2 1 (by kernel_rfl) (shut_at hs' 3 2 (by kernel_rfl) (shut_at hs' 6 3 (by kernel_rfl) (shut_at hs' 9 6 (by kernel_rfl) (shut_at hs' 12 9 (by kernel_rfl) (up_at hu 12 (by kernel_rfl))))))
            have y2 : L2 2 = true := shut_at hs' 3 2 (by kernel_rfl) (shut_at hs' 6 3 (by kernel_rfl) (shut_at hs' 9 6 (by kernel_rfl) (shut_at hs' 12 9 (by kernel_rfl) (up_at hu 12 (by kernel_rfl)))))
            have y3 : L2 3 = true := shut_at hs' 6 3 (by kernel_rfl) (shut_at hs' 9 6 (by kernel_rfl) (shut_at hs' 12 9 (by kernel_rfl) (up_at hu 12 (by kernel_rfl))))
            have y4 : L2 4 = true := shut_at hs' 6 4 (by kernel_rfl) (shut_at hs' 9 6 (by kernel_rfl) (shut_at hs' 12 9 (by kernel_rfl) (up_at hu 12 (by kernel_rfl))))
            have y5 : L2 5 = true := shut_at hs' 6 5 (by kernel_rfl) (shut_at hs' 9 6 (by kernel_rfl) (shut_at hs' 12 9 (by kernel_rfl) (up_at hu 12 (by kernel_rfl))))
            have y6 : L2 6 = true := shut_at hs' 9 6 (by kernel_rfl) (shut_at hs' 12 9 (by kernel_rfl) (up_at hu 12 (by kernel_rfl)))
            have y7 : L2 7 = true := shut_at hs' 8 7 (by kernel_rfl) (shut_at hs' 9 8 (by kernel_rfl) (shut_at hs' 12 9 (by kernel_rfl) (up_at hu 12 (by kernel_rfl))))
            have y8 : L2 8 = true := shut_at hs' 9 8 (by kernel_rfl) (shut_at hs' 12 9 (by kernel_rfl) (up_at hu 12 (by kernel_rfl)))
            have y9 : L2 9 = true := shut_at hs' 12 9 (by kernel_rfl) (up_at hu 12 (by kernel_rfl))
            have y10 : L2 10 = true := shut_at hs' 11 10 (by kernel_rfl) (shut_at hs' 12 11 (by kernel_rfl) (up_at hu 12 (by kernel_rfl)))
            have y11 : L2 11 = true := shut_at hs' 12 11 (by kernel_rfl) (up_at hu 12 (by kernel_rfl))
            have y12 : L2 12 = true := up_at hu 12 (by kernel_rfl)
            have y13 : L2 13 = true := shut_at hs' 14 13 (by kernel_rfl) (up_at hu 14 (by kernel_rfl))
            have y14 : L2 14 = true := up_at hu 14 (by kernel_rfl)
            have y15 : L2 15 = true := shut_at hs' 16 15 (by kernel_rfl) (up_at hu 16 (by kernel_rfl))
            have y16 : L2 16 = true := up_at hu 16 (by kernel_rfl)
            exact opIn_not_g (j := 12) (b := true) (c := false) rfl rfl (by simp only [y0, y1, y2, y3, y4, y5, y6, y7, y8, y9, y10, y11, y12, y13, y14, y15, y16, hL, cond_true, cond_false]; rfl) (by decide) (fun _ => trivial) ⟨by simp [Act.put, upd, y0, y1, y2, y3, y4, y5, y6, y7, y8, y9, y10, y11, y12, y13, y14, y15, y16, hL], hW⟩
          · skip
            have y0 : L2 0 = true := shut_at hs' 2 0 (by kernel_rfl) (shut_at hs' 3 2 (by kernel_rfl) (shut_at hs' 6 3 (by kernel_rfl) (shut_at hs' 9 6 (by kernel_rfl) (up_at hu 9 (by kernel_rfl)))))
            have y1 : L2 1 = true := shut_at hs' 2 1 (by kernel_rfl) (shut_at hs' 3 2 (by kernel_rfl) (shut_at hs' 6 3 (by kernel_rfl) (shut_at hs' 9 6 (by kernel_rfl) (up_at hu 9 (by kernel_rfl)))))
            have y2 : L2 2 = true := shut_at hs' 3 2 (by kernel_rfl) (shut_at hs' 6 3 (by kernel_rfl) (shut_at hs' 9 6 (by kernel_rfl) (up_at hu 9 (by kernel_rfl))))
            have y3 : L2 3 = true := shut_at hs' 6 3 (by kernel_rfl) (shut_at hs' 9 6 (by kernel_rfl) (up_at hu 9 (by kernel_rfl)))
            have y4 : L2 4 = true := shut_at hs' 6 4 (by kernel_rfl) (shut_at hs' 9 6 (by kernel_rfl) (up_at hu 9 (by kernel_rfl)))
            have y5 : L2 5 = true := shut_at hs' 6 5 (by kernel_rfl) (shut_at hs' 9 6 (by kernel_rfl) (up_at hu 9 (by kernel_rfl)))
            have y6 : L2 6 = true := shut_at hs' 9 6 (by kernel_rfl) (up_at hu 9 (by kernel_rfl))
            have y7 : L2 7 = true := shut_at hs' 8 7 (by kernel_rfl) (shut_at hs' 9 8 (by kernel_rfl) (up_at hu 9 (by kernel_rfl)))
            have y8 : L2 8 = true := shut_at hs' 9 8 (by kernel_rfl) (up_at hu 9 (by kernel_rfl))
            have y9 : L2 9 = true := up_at hu 9 (by kernel_rfl)
            have y10 : L2 10 = true := shut_at hs' 11 10 (by kernel_rfl) (shut_at hs' 12 11 (by kernel_rfl) (up_at hu 12 (by kernel_rfl)))
            have y11 : L2 11 = true := shut_at hs' 12 11 (by kernel_rfl) (up_at hu 12 (by kernel_rfl))
            have y12 : L2 12 = true := up_at hu 12 (by kernel_rfl)
            have y13 : L2 13 = true := shut_at hs' 14 13 (by kernel_rfl) (shut_at hs' 17 14 (by kernel_rfl) (up_at hu 17 (by kernel_rfl)))
            have y14 : L2 14 = true := shut_at hs' 17 14 (by kernel_rfl) (up_at hu 17 (by kernel_rfl))
            have y15 : L2 15 = true := shut_at hs' 16 15 (by kernel_rfl) (shut_at hs' 17 16 (by kernel_rfl) (up_at hu 17 (by kernel_rfl)))
            have y16 : L2 16 = true := shut_at hs' 17 16 (by kernel_rfl) (up_at hu 17 (by kernel_rfl))
            have y17 : L2 17 = true := up_at hu 17 (by kernel_rfl)
            refine opIn_run_g (j := 9) (b := false) (v := .bool false) (w' := w') rfl rfl (by simp only [y0, y1, y2, y3, y4, y5, y6, y7, y8, y9, y10, y11, y12, y13, y14, y15, y16, y17, hL, cond_true, cond_false]; rfl) (fun c h => by cases h) (fun _ => trivial) ?_ ⟨by simp [Act.put, upd, y0, y1, y2, y3, y4, y5, y6, y7, y8, y9, y10, y11, y12, y13, y14, y15, y16, y17, hL], hW⟩
            simp only [y0, y1, y2, y3, y4, y5, y6, y7, y8, y9, y10, y11, y12, y13, y14, y15, y16, y17, hL, cond_true, cond_false]
            go_simp
          · skip
            have y0 : L2 0 = true := shut_at hs' 2 0 (by kernel_rfl) (shut_at hs' 3 2 (by kernel_rfl) (shut_at hs' 6 3 (by kernel_rfl) (shut_at hs' 9 6 (by kernel_rfl) (up_at hu 9 (by kernel_rfl)))))
            have y1 : L2 1 = true := shut_at hs' 2 1 (by kernel_rfl) (shut_at hs' 3 2 (by kernel_rfl) (shut_at hs' 6 3 (by kernel_rfl) (shut_at hs' 9 6 (by kernel_rfl) (up_at hu 9 (by kernel_rfl)))))
            have y2 : L2 2 = true := shut_at hs' 3 2 (by kernel_rfl) (shut_at hs' 6 3 (by kernel_rfl) (shut_at hs' 9 6 (by kernel_rfl) (up_at hu 9 (by kernel_rfl))))
            have y3 : L2 3 = true := shut_at hs' 6 3 (by kernel_rfl) (shut_at hs' 9 6 (by kernel_rfl) (up_at hu 9 (by kernel_rfl)))
            have y4 : L2 4 = true := shut_at hs' 6 4 (by kernel_rfl) (shut_at hs' 9 6 (by kernel_rfl) (up_at hu 9 (by kernel_rfl)))
            have y5 : L2 5 = true := shut_at hs' 6 5 (by kernel_rfl) (shut_at hs' 9 6 (by kernel_rfl) (up_at hu 9 (by kernel_rfl)))
            have y6 : L2 6 = true := shut_at hs' 9 6 (by kernel_rfl) (up_at hu 9 (by kernel_rfl))
            have y7 : L2 7 = true := shut_at hs' 8 7 (by kernel_rfl) (shut_at hs' 9 8 (by kernel_rfl) (up_at hu 9 (by kernel_rfl)))
            have y8 : L2 8 = true := shut_at hs' 9 8 (by kernel_rfl) (up_at hu 9 (by kernel_rfl))
            have y9 : L2 9 = true := up_at hu 9 (by kernel_rfl)
            have y10 : L2 10 = true := shut_at hs' 11 10 (by kernel_rfl) (shut_at hs' 12 11 (by kernel_rfl) (shut_at hs' 18 12 (by kernel_rfl) (up_at hu 18 (by kernel_rfl))))
            have y11 : L2 11 = true := shut_at hs' 12 11 (by kernel_rfl) (shut_at hs' 18 12 (by kernel_rfl) (up_at hu 18 (by kernel_rfl)))
            have y12 : L2 12 = true := shut_at hs' 18 12 (by kernel_rfl) (up_at hu 18 (by kernel_rfl))
            have y13 : L2 13 = true := shut_at hs' 14 13 (by kernel_rfl) (shut_at hs' 17 14 (by kernel_rfl) (shut_at hs' 18 17 (by kernel_rfl) (up_at hu 18 (by kernel_rfl))))
            have y14 : L2 14 = true := shut_at hs' 17 14 (by kernel_rfl) (shut_at hs' 18 17 (by kernel_rfl) (up_at hu 18 (by kernel_rfl)))
            have y15 : L2 15 = true := shut_at hs' 16 15 (by kernel_rfl) (shut_at hs' 17 16 (by kernel_rfl) (shut_at hs' 18 17 (by kernel_rfl) (up_at hu 18 (by kernel_rfl))))
            have y16 : L2 16 = true := shut_at hs' 17 16 (by kernel_rfl) (shut_at hs' 18 17 (by kernel_rfl) (up_at hu 18 (by kernel_rfl)))
            have y17 : L2 17 = true := shut_at hs' 18 17 (by kernel_rfl) (up_at hu 18 (by kernel_rfl))
            have y18 : L2 18 = true := up_at hu 18 (by kernel_rfl)
            refine opIn_run (v := .bool false) (w' := w') rfl rfl  (fun c h => by cases h) (fun _ => trivial) ?_ ⟨by simp [Act.put, upd, y0, y1, y2, y3, y4, y5, y6, y7, y8, y9, y10, y11, y12, y13, y14, y15, y16, y17, y18, hL], hW⟩
            simp only [y0, y1, y2, y3, y4, y5, y6, y7, y8, y9, y10, y11, y12, y13, y14, y15, y16, y17, y18, hL, cond_true, cond_false]
            go_simp
        case fin =>
          intro L2 a' u hall hI
          obtain ⟨rfl, hW⟩ := hI
          have l0 := hall 0 (by decide)
          have l1 := hall 1 (by decide)
          have l2 := hall 2 (by decide)
          have l3 := hall 3 (by decide)
          have l4 := hall 4 (by decide)
          have l5 := hall 5 (by decide)
          have l6 := hall 6 (by decide)
          have l7 := hall 7 (by decide)
          have l8 := hall 8 (by decide)
          have l9 := hall 9 (by decide)
          have l10 := hall 10 (by decide)
          have l11 := hall 11 (by decide)
          have l12 := hall 12 (by decide)
          have l13 := hall 13 (by decide)
          have l14 := hall 14 (by decide)
          have l15 := hall 15 (by decide)
          have l16 := hall 16 (by decide)
          have l17 := hall 17 (by decide)
          have l18 := hall 18 (by decide)
          have l19 := hall 19 (by decide)
          have HBu := Lib.hid (HBB.out.trans (hW.mono HBB.out.size))
          simp only [l0, l1, l2, l3, l4, l5, l6, l7, l8, l9, l10, l11, l12, l13, l14, l15, l16, l17, l18, l19, cond_true]
          clear l0 l1 l2 l3 l4 l5 l6 l7 l8 l9 l10 l11 l12 l13 l14 l15 l16 l17 l18 l19 hall hW xa0 xb0 xa1 xb1 xa2 xb2 xa3 xb3 xa4 xb4
          go_wp2_with fail
          refine (some21 _ _ _ (by omega) (by omega)).mono ?_
          rintro e w' ⟨ox2, rfl, ox20, ox21, rfl⟩
          go_wp2_with fail
          refine (some21 _ _ _ (by omega) (by omega)).mono ?_
          rintro e w' ⟨oy2, rfl, oy20, oy21, rfl⟩
          go_wp2_with fail
          refine (some21 _ _ _ (by omega) (by omega)).mono ?_
          rintro e w' ⟨n2, rfl, n20, n21, rfl⟩
          go_wp2_with fail
          refine (some21 _ _ _ (by omega) (by omega)).mono ?_
          rintro e w' ⟨d2, rfl, d20, d21, rfl⟩
          go_wp2_with fail
          refine (some21 _ _ _ (by omega) (by omega)).mono ?_
          rintro e w' ⟨k2, rfl, k20, k21, rfl⟩
          go_wp2_with fail
          refine (some21 _ _ _ (by omega) (by omega)).mono ?_
          rintro e w' ⟨x2, rfl, x20, x21, rfl⟩
          go_wp2_with fail
          refine (some21 _ _ _ (by omega) (by omega)).mono ?_
          rintro e w' ⟨y2, rfl, y20, y21, rfl⟩
          go_wp2
          exact ⟨⟨k + 1, _, _, _, _, _, _, _, by omega, by go_num, rfl, rfl, rfl, rfl, rfl, rfl, rfl, HBu.out⟩, by simp [intOf]; omega⟩
    · obtain rfl : k = 2 := by omega
      go_wp2
      go_ret
      exact ⟨rfl, hB⟩
end Go.Proofs.Ytjmkkjgchgcleaa
