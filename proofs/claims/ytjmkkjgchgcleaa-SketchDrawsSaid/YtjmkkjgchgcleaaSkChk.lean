/- Check of the reference, at drawn pictures: the whole. -/
import Derived.Test.YtjmkkjgchgcleaaSkFr
import Derived.Test.YtjmkkjgchgcleaaAnyInv
import Derived.Deep.DeepCutAuto
set_option linter.unusedVariables false
namespace Go.Proofs.Ytjmkkjgchgcleaa
open Go.RowKit

set_option maxRecDepth 100000 in
set_option maxHeartbeats 16000000 in
theorem rcheck_any {AC : Option Addr} {cC : Nat} {Ls : List (List Int)} {d : Int} {st : Nat → Int} {w : World} (x y : Int) (hx : 1 ≤ x ∧ x ≤ 64) (hy : 1 ≤ y ∧ y ≤ 64) (h : RdImg w AC Ls d st) (hl : 1 ≤ Ls.length ∧ Ls.length ≤ 4) (hc : Ls.length ≤ cC ∧ cC ≤ maxLen)
    (hd : 1 ≤ d ∧ d ≤ 16) (hst : ∀ i, 1 ≤ st i ∧ st i ≤ 2) (hlen : ∀ i L, Ls[i]? = some L → (L.length : Int) = (ceilF x (st i) - ceilF 0 (st i)) * (ceilF y (st i) - ceilF 0 (st i)))
    (hv : ∀ L ∈ Ls, ∀ v ∈ L, 0 ≤ v ∧ v ≤ (2 : Int) ^ d.toNat - 1) :
    Calls Try.prog 15 #[.agg #[.int .i64 x, .int .i64 y, .int .i64 0, .int .i64 0, .slice AC Ls.length cC], .agg #[.int .i64 64, .int .i64 64, .int .i64 0, .int .i64 2, .int .i64 2, .int .i64 1, .int .i64 0, .int .i64 0, .int .i64 1, .bool false, .bool false, .bool false]] w fun e w' => e = .returned (.int .i64 0) ∧ Below w.heap.size w w' := by
  have hmo : Try.prog.follows .mixedOrders = true := by kernel_rfl
  have hc2 := hc.2
  unfold maxLen at hc2
  have HI := Lib.hid h
  have HT := Lib.hid hst
  have HN := Lib.hid hlen
  have HV := Lib.hid hv
  clear hst hlen hv
  go_enter Try.func15, Try.ntmps15
  go_wp2_with fail
  have hB0 := ((Below.refl w.heap.size w).alloc (Nat.le_refl _) (Obj.cells #[.int .i64 x, .int .i64 y, .int .i64 0, .int .i64 0, .slice AC Ls.length cC] 25)).alloc (by simp) (Obj.cells #[.int .i64 64, .int .i64 64, .int .i64 0, .int .i64 2, .int .i64 2, .int .i64 1, .int .i64 0, .int .i64 0, .int .i64 1, .bool false, .bool false, .bool false] 37)
  refine (rframe_any x y hx hy (h.keep hB0) hl hc hd HT.out).mono ?_
  rintro e w1 ⟨rfl, h1⟩
  have hb1 : w1.heap[w.heap.size]? = some (.cells #[.int .i64 x, .int .i64 y, .int .i64 0, .int .i64 0, .slice AC Ls.length cC] 25 (0, 0)) := by
    exact (h1.block w.heap.size (by simp only [World.size_alloc]; omega)).trans ((Below.heap_alloc _ _ _ (by simp only [World.size_alloc]; omega)).trans (World.alloc_heap_new w _))
  have hB1 := hB0.trans (h1.mono hB0.size)
  have hcx : w1.cell? ⟨w.heap.size, 4, none⟩ = some (.slice AC Ls.length cC) := by simp [World.cell?, hb1]
  clear hB0 h1 h
  go_wp2
  go_loopw [6] (fun iv wr => ∃ i : Nat, i ≤ Ls.length ∧ iv = .int .i64 i ∧ Below w.heap.size w wr ∧ wr.heap[w.heap.size]? = some (.cells #[.int .i64 x, .int .i64 y, .int .i64 0, .int .i64 0, .slice AC Ls.length cC] 25 (0, 0))) (fun iv _ => Ls.length - (intOf iv).toNat)
  case atStart => exact ⟨0, by omega, rfl, hB1, hb1⟩
  case round =>
    obtain ⟨i, hi, rfl, hB, hb⟩ := hrel
    have q0 : wr.cell? ⟨w.heap.size, 0, none⟩ = some (.int .i64 x) := by simp [World.cell?, hb]
    have q1 : wr.cell? ⟨w.heap.size, 1, none⟩ = some (.int .i64 y) := by simp [World.cell?, hb]
    have q2 : wr.cell? ⟨w.heap.size, 2, none⟩ = some (.int .i64 0) := by simp [World.cell?, hb]
    have q3 : wr.cell? ⟨w.heap.size, 3, none⟩ = some (.int .i64 0) := by simp [World.cell?, hb]
    have q4 : wr.cell? ⟨w.heap.size, 4, none⟩ = some (.slice AC Ls.length cC) := by simp [World.cell?, hb]
    have hsz : w.heap.size < wr.heap.size := (Array.getElem?_eq_some_iff.1 hb).1
    have HBB := Lib.hid (And.intro hB hb)
    clear hb hb1 hB1 hcx
    by_cases ci : i < Ls.length
    · obtain ⟨L, hL⟩ : ∃ L, Ls[i]? = some L := ⟨_, List.getElem?_eq_getElem ci⟩
      obtain ⟨b, A, cap, rfl, hbl, c0, c1, c2, c3, c4, hcap, hmx, hLst⟩ := (HI.out.keep hB) i L hL
      have hs := HT.out i
      have HLN := Lib.hid (HN.out i L hL)
      have hvL := HV.out L (List.mem_of_getElem? hL)
      have ci' : (i : Int) < (Ls.length : Int) := by omega
      have HL := Lib.hid hLst
      have HVL := Lib.hid hvL
      unfold maxLen at hmx
      clear hLst hL hvL
      go_wp2_with fail
      obtain ⟨bc, hbc⟩ : ∃ bc, wr.heap.size = bc := ⟨_, rfl⟩
      obtain ⟨s, hsE⟩ : ∃ s, st i = s := ⟨_, rfl⟩
      rw [hsE] at hs c2 c3 HLN ⊢
      obtain ⟨Wi, hWi⟩ : ∃ Wi, wr.alloc (Obj.cells #[.int .i64 d, .bool false, .int .i64 s, .int .i64 s, .slice A L.length cap] 41) = Wi := ⟨_, rfl⟩
      have hBi : Below w.heap.size w Wi := by rw [← hWi]; exact hB.alloc hB.size _
      have HLi : Hid (Lst Wi wr.heap.size A (L.map (Value.int .i64))) := Lib.hid (by rw [← hWi]; exact HL.out.alloc (Nat.le_refl _) _)
      have hbi : Wi.heap[w.heap.size]? = some (.cells #[.int .i64 x, .int .i64 y, .int .i64 0, .int .i64 0, .slice (some ⟨b, 0, none⟩) Ls.length cC] 25 (0, 0)) := by rw [← hWi, Below.heap_alloc _ _ _ hsz]; exact HBB.out.2
      have hbj : Wi.heap[wr.heap.size]? = some (.cells #[.int .i64 d, .bool false, .int .i64 s, .int .i64 s, .slice A L.length cap] 41 (0, 0)) := by rw [← hWi]; exact World.alloc_heap_new wr _
      rw [hWi]
      rw [hbc] at hbj HLi ⊢
      clear hWi c0 c1 c2 c3 c4 q0 q1 q2 q3 q4
      have hj : bc < Wi.heap.size := (Array.getElem?_eq_some_iff.1 hbj).1
      have hj0 : w.heap.size < Wi.heap.size := (Array.getElem?_eq_some_iff.1 hbi).1
      have x50 : Wi.cell? ⟨w.heap.size, 0, none⟩ = some (.int .i64 x) := by simp [World.cell?, hbi]
      have x51 : Wi.cell? ⟨w.heap.size, 1, none⟩ = some (.int .i64 y) := by simp [World.cell?, hbi]
      have x52 : Wi.cell? ⟨w.heap.size, 2, none⟩ = some (.int .i64 0) := by simp [World.cell?, hbi]
      have x53 : Wi.cell? ⟨w.heap.size, 3, none⟩ = some (.int .i64 0) := by simp [World.cell?, hbi]
      have x54 : Wi.cell? ⟨w.heap.size, 4, none⟩ = some (.slice (some ⟨b, 0, none⟩) Ls.length cC) := by simp [World.cell?, hbi]
      have y50 : Wi.cell? ⟨bc, 0, none⟩ = some (.int .i64 d) := by simp [World.cell?, hbj]
      have y51 : Wi.cell? ⟨bc, 1, none⟩ = some (.bool false) := by simp [World.cell?, hbj]
      have y52 : Wi.cell? ⟨bc, 2, none⟩ = some (.int .i64 s) := by simp [World.cell?, hbj]
      have y53 : Wi.cell? ⟨bc, 3, none⟩ = some (.int .i64 s) := by simp [World.cell?, hbj]
      have y54 : Wi.cell? ⟨bc, 4, none⟩ = some (.slice A L.length cap) := by simp [World.cell?, hbj]
      have cb1 := ceil_bd 0 s (by omega) hs.1
      have cb2 := ceil_bd x s (by omega) hs.1
      have cb3 := ceil_bd y s (by omega) hs.1
      have cm1 := ceil_mono (show 0 ≤ x by omega) hs.1
      have cm2 := ceil_mono (show 0 ≤ y by omega) hs.1
      obtain ⟨hiV, hhi⟩ : ∃ hiV, (2 : Int) ^ d.toNat - 1 = hiV := ⟨_, rfl⟩
      rw [hhi] at HVL
      refine (wpIn_wide (n := 9)).1 (regionIn_inv (Inv := fun L2 a w' => a = { tmps := #[Value.agg #[Value.int IntKind.i64 x, Value.int IntKind.i64 y, Value.int IntKind.i64 0, Value.int IntKind.i64 0, Value.slice (some { block := b, off := 0 }) Ls.length cC], Value.agg #[Value.int IntKind.i64 64, Value.int IntKind.i64 64, Value.int IntKind.i64 0, Value.int IntKind.i64 2, Value.int IntKind.i64 2, Value.int IntKind.i64 1, Value.int IntKind.i64 0, Value.int IntKind.i64 0, Value.int IntKind.i64 1, Value.bool false, Value.bool false, Value.bool false], Value.pointer (some { block := w.heap.size, off := 0 }), Value.pointer (some { block := w.heap.size + 1, off := 0 }), u4, Value.int IntKind.i64 0, Value.int IntKind.i64 ↑i, Value.pointer (some { block := bc, off := 0 }), u8, u9, u10, Value.agg #[Value.int IntKind.i64 x, Value.int IntKind.i64 y, Value.int IntKind.i64 0, Value.int IntKind.i64 0, Value.slice (some { block := b, off := 0 }) Ls.length cC], Value.agg #[Value.int IntKind.i64 64, Value.int IntKind.i64 64, Value.int IntKind.i64 0, Value.int IntKind.i64 2, Value.int IntKind.i64 2, Value.int IntKind.i64 1, Value.int IntKind.i64 0, Value.int IntKind.i64 0, Value.int IntKind.i64 1, Value.bool false, Value.bool false, Value.bool false], Value.int IntKind.i64 0, Value.int IntKind.i64 0, Value.bool false, undef, Value.int IntKind.i64 ↑i, Value.pointer (some { block := w.heap.size, off := 4 }), Value.slice (some { block := b, off := 0 }) Ls.length cC, Value.int IntKind.i64 ↑Ls.length, Value.bool true, u22, u23, Value.pointer (some { block := w.heap.size, off := 4 }), Value.slice (some { block := b, off := 0 }) Ls.length cC, Value.int IntKind.i64 ↑i, Value.pointer (some { block := b, off := i * 5 }), Value.agg #[Value.int IntKind.i64 d, Value.bool false, Value.int IntKind.i64 s, Value.int IntKind.i64 s, Value.slice A L.length cap], bif L2 0 then .pointer (some ⟨bc, 4, none⟩) else u29, bif L2 1 then .slice A L.length cap else u30, bif L2 2 then .int .i64 (L.length : Int) else u31, bif L2 3 then .agg #[.int .i64 x, .int .i64 y, .int .i64 0, .int .i64 0, .slice (some ⟨b, 0, none⟩) Ls.length cC] else u32, bif L2 4 then .agg #[.int .i64 0, .int .i64 0, .int .i64 x, .int .i64 y] else u33, bif L2 5 then .pointer (some ⟨bc, 2, none⟩) else u34, bif L2 6 then .int .i64 s else u35, bif L2 7 then .pointer (some ⟨bc, 3, none⟩) else u36, bif L2 8 then .int .i64 s else u37, bif L2 9 then .agg #[.int .i64 (ceilF 0 s), .int .i64 (ceilF 0 s), .int .i64 (ceilF x s), .int .i64 (ceilF y s)] else u38, bif L2 10 then .int .i64 (L.length : Int) else u39, bif L2 11 then .bool false else u40, u41, u42, u43, u44, u45, u46, u47, u48, u49, u50, u51, u52, u53, u54, u55, u56, u57, u58, u59, u60, u61, u62, u63, u64, u65, u66, u67, u68, u69, u70, u71], defers := [] } ∧ Below Wi.heap.size Wi w') hmo (by kernel_rfl) ?start ?step ?fin)
      case start => exact ⟨rfl, below_drewN (Below.refl _ Wi) 1⟩
      case step =>
        intro i' hi' L2 a' w' hI hs' hu
        obtain ⟨rfl, hW⟩ := hI
        have hL := hu.1
        have hi' : i' < 12 := hi'
        obtain rfl | rfl | rfl | rfl | rfl | rfl | rfl | rfl | rfl | rfl | rfl | rfl := (by omega : i' = 0 ∨ i' = 1 ∨ i' = 2 ∨ i' = 3 ∨ i' = 4 ∨ i' = 5 ∨ i' = 6 ∨ i' = 7 ∨ i' = 8 ∨ i' = 9 ∨ i' = 10 ∨ i' = 11)
        · skip
          refine opIn_run (v := .pointer (some ⟨bc, 4, none⟩)) (w' := w') rfl rfl (fun c h => by cases h) (fun _ => trivial) ?_ ⟨by simp [Act.put, upd, hL], hW⟩
          simp only [hL, cond_true, cond_false]
          go_simp
        · skip
          have y0 : L2 0 = true := up_at hu 0 (by kernel_rfl)
          have z4 := (hW.cell (p := ⟨bc, 4, none⟩) hj).trans y54
          refine opIn_run (v := .slice A L.length cap) (w' := w') rfl rfl (fun c h => by cases h) (fun _ => trivial) ?_ ⟨by simp [Act.put, upd, y0, hL], hW⟩
          simp only [y0, hL, cond_true, cond_false]
          go_simp
        · skip
          have y0 : L2 0 = true := shut_at hs' 1 0 (by kernel_rfl) (up_at hu 1 (by kernel_rfl))
          have y1 : L2 1 = true := up_at hu 1 (by kernel_rfl)
          refine opIn_run (v := .int .i64 (L.length : Int)) (w' := w') rfl rfl (fun c h => by cases h) (fun _ => trivial) ?_ ⟨by simp [Act.put, upd, y0, y1, hL], hW⟩
          simp only [y0, y1, hL, cond_true, cond_false]
          go_simp
        · skip
          have z0 := (hW.cell (p := ⟨w.heap.size, 0, none⟩) hj0).trans x50
          have z1 := (hW.cell (p := ⟨w.heap.size, 1, none⟩) hj0).trans x51
          have z2 := (hW.cell (p := ⟨w.heap.size, 2, none⟩) hj0).trans x52
          have z3 := (hW.cell (p := ⟨w.heap.size, 3, none⟩) hj0).trans x53
          have z4 := (hW.cell (p := ⟨w.heap.size, 4, none⟩) hj0).trans x54
          refine opIn_run (v := .agg #[.int .i64 x, .int .i64 y, .int .i64 0, .int .i64 0, .slice (some ⟨b, 0, none⟩) Ls.length cC]) (w' := w') rfl rfl (fun c h => by cases h) (fun _ => trivial) ?_ ⟨by simp [Act.put, upd, hL], hW⟩
          simp only [hL, cond_true, cond_false]
          go_simp
        · skip
          have y3 : L2 3 = true := up_at hu 3 (by kernel_rfl)
          have hcl := rwhole_any x y 0 0 (some ⟨b, 0, none⟩) Ls.length cC w'
          refine opIn_call (f := 20) (args := #[.agg #[.int .i64 x, .int .i64 y, .int .i64 0, .int .i64 0, .slice (some ⟨b, 0, none⟩) Ls.length cC]]) (w' := w') rfl rfl (fun c h => by cases h) (fun _ => trivial) rfl ?_ ((callsIn_wide.2 hcl).mono ?_)
          · simp only [y3, hL, cond_true, cond_false]
            go_simp
          · rintro e w2 ⟨rfl, h2⟩
            exact ⟨_, rfl, by simp [Act.put, upd, y3, hL], hW.trans (h2.mono hW.size)⟩
        · skip
          refine opIn_run (v := .pointer (some ⟨bc, 2, none⟩)) (w' := w') rfl rfl (fun c h => by cases h) (fun _ => trivial) ?_ ⟨by simp [Act.put, upd, hL], hW⟩
          simp only [hL, cond_true, cond_false]
          go_simp
        · skip
          have y5 : L2 5 = true := up_at hu 5 (by kernel_rfl)
          have z2 := (hW.cell (p := ⟨bc, 2, none⟩) hj).trans y52
          refine opIn_run (v := .int .i64 s) (w' := w') rfl rfl (fun c h => by cases h) (fun _ => trivial) ?_ ⟨by simp [Act.put, upd, y5, hL], hW⟩
          simp only [y5, hL, cond_true, cond_false]
          go_simp
        · skip
          refine opIn_run (v := .pointer (some ⟨bc, 3, none⟩)) (w' := w') rfl rfl (fun c h => by cases h) (fun _ => trivial) ?_ ⟨by simp [Act.put, upd, hL], hW⟩
          simp only [hL, cond_true, cond_false]
          go_simp
        · skip
          have y7 : L2 7 = true := up_at hu 7 (by kernel_rfl)
          have z3 := (hW.cell (p := ⟨bc, 3, none⟩) hj).trans y53
          refine opIn_run (v := .int .i64 s) (w' := w') rfl rfl (fun c h => by cases h) (fun _ => trivial) ?_ ⟨by simp [Act.put, upd, y7, hL], hW⟩
          simp only [y7, hL, cond_true, cond_false]
          go_simp
        · skip
          have y3 : L2 3 = true := shut_at hs' 4 3 (by kernel_rfl) (up_at hu 4 (by kernel_rfl))
          have y4 : L2 4 = true := up_at hu 4 (by kernel_rfl)
          have y5 : L2 5 = true := shut_at hs' 6 5 (by kernel_rfl) (up_at hu 6 (by kernel_rfl))
          have y6 : L2 6 = true := up_at hu 6 (by kernel_rfl)
          have y7 : L2 7 = true := shut_at hs' 8 7 (by kernel_rfl) (up_at hu 8 (by kernel_rfl))
          have y8 : L2 8 = true := up_at hu 8 (by kernel_rfl)
          have hcl := rpart_any 0 0 x y s s w' (by omega) (by omega) (by omega) (by omega) (by omega) (by omega)
          refine opIn_call (f := 19) (args := #[.agg #[.int .i64 0, .int .i64 0, .int .i64 x, .int .i64 y], .int .i64 s, .int .i64 s]) (w' := w') rfl rfl (fun c h => by cases h) (fun _ => trivial) rfl ?_ ((callsIn_wide.2 hcl).mono ?_)
          · simp only [y3, y4, y5, y6, y7, y8, hL, cond_true, cond_false]
            go_simp
          · rintro e w2 ⟨rfl, h2⟩
            exact ⟨_, rfl, by simp [Act.put, upd, y3, y4, y5, y6, y7, y8, hL], hW.trans (h2.mono hW.size)⟩
        · skip
          have y3 : L2 3 = true := shut_at hs' 4 3 (by kernel_rfl) (shut_at hs' 9 4 (by kernel_rfl) (up_at hu 9 (by kernel_rfl)))
          have y4 : L2 4 = true := shut_at hs' 9 4 (by kernel_rfl) (up_at hu 9 (by kernel_rfl))
          have y5 : L2 5 = true := shut_at hs' 6 5 (by kernel_rfl) (shut_at hs' 9 6 (by kernel_rfl) (up_at hu 9 (by kernel_rfl)))
          have y6 : L2 6 = true := shut_at hs' 9 6 (by kernel_rfl) (up_at hu 9 (by kernel_rfl))
          have y7 : L2 7 = true := shut_at hs' 8 7 (by kernel_rfl) (shut_at hs' 9 8 (by kernel_rfl) (up_at hu 9 (by kernel_rfl)))
          have y8 : L2 8 = true := shut_at hs' 9 8 (by kernel_rfl) (up_at hu 9 (by kernel_rfl))
          have y9 : L2 9 = true := up_at hu 9 (by kernel_rfl)
          have hcl := rarea_any (ceilF 0 s) (ceilF 0 s) (ceilF x s) (ceilF y s) w' (by omega) (by omega)
          rw [← HLN.out] at hcl
          refine opIn_call (f := 24) (args := #[.agg #[.int .i64 (ceilF 0 s), .int .i64 (ceilF 0 s), .int .i64 (ceilF x s), .int .i64 (ceilF y s)]]) (w' := w') rfl rfl (fun c h => by cases h) (fun _ => trivial) rfl ?_ ((callsIn_wide.2 hcl).mono ?_)
          · simp only [y3, y4, y5, y6, y7, y8, y9, hL, cond_true, cond_false]
            go_simp
          · rintro e w2 ⟨rfl, h2⟩
            exact ⟨_, rfl, by simp [Act.put, upd, y3, y4, y5, y6, y7, y8, y9, hL], hW.trans (h2.mono hW.size)⟩
        · skip
          have y0 : L2 0 = true := shut_at hs' 1 0 (by kernel_rfl) (shut_at hs' 2 1 (by kernel_rfl) (up_at hu 2 (by kernel_rfl)))
          have y1 : L2 1 = true := shut_at hs' 2 1 (by kernel_rfl) (up_at hu 2 (by kernel_rfl))
          have y2 : L2 2 = true := up_at hu 2 (by kernel_rfl)
          have y3 : L2 3 = true := shut_at hs' 4 3 (by kernel_rfl) (shut_at hs' 9 4 (by kernel_rfl) (shut_at hs' 10 9 (by kernel_rfl) (up_at hu 10 (by kernel_rfl))))
          have y4 : L2 4 = true := shut_at hs' 9 4 (by kernel_rfl) (shut_at hs' 10 9 (by kernel_rfl) (up_at hu 10 (by kernel_rfl)))
          have y5 : L2 5 = true := shut_at hs' 6 5 (by kernel_rfl) (shut_at hs' 9 6 (by kernel_rfl) (shut_at hs' 10 9 (by kernel_rfl) (up_at hu 10 (by kernel_rfl))))
          have y6 : L2 6 = true := shut_at hs' 9 6 (by kernel_rfl) (shut_at hs' 10 9 (by kernel_rfl) (up_at hu 10 (by kernel_rfl)))
          have y7 : L2 7 = true := shut_at hs' 8 7 (by kernel_rfl) (shut_at hs' 9 8 (by kernel_rfl) (shut_at hs' 10 9 (by kernel_rfl) (up_at hu 10 (by kernel_rfl))))
          have y8 : L2 8 = true := shut_at hs' 9 8 (by kernel_rfl) (shut_at hs' 10 9 (by kernel_rfl) (up_at hu 10 (by kernel_rfl)))
          have y9 : L2 9 = true := shut_at hs' 10 9 (by kernel_rfl) (up_at hu 10 (by kernel_rfl))
          have y10 : L2 10 = true := up_at hu 10 (by kernel_rfl)
          refine opIn_run (v := .bool false) (w' := w') rfl rfl (fun c h => by cases h) (fun _ => trivial) ?_ ⟨by simp [Act.put, upd, y0, y1, y2, y3, y4, y5, y6, y7, y8, y9, y10, hL], hW⟩
          simp only [y0, y1, y2, y3, y4, y5, y6, y7, y8, y9, y10, hL, cond_true, cond_false]
          go_simp
      case fin =>
        intro L2 a' w' hall hI
        obtain ⟨rfl, hW⟩ := hI
        have l0 := hall 0 (by decide)
        have l1 := hall 1 (by decide)
        have l2 := hall 2 (by decide)
        have l3 := hall 3 (by decide)
        have l4 := hall 4 (by decide)
        have l5 := hall 5 (by decide)
        have l6 := hall 6 (by decide)
        have l7 := hall 7 (by decide)
        have l8 := hall 8 (by decide)
        have l9 := hall 9 (by decide)
        have l10 := hall 10 (by decide)
        have l11 := hall 11 (by decide)
        simp only [l0, l1, l2, l3, l4, l5, l6, l7, l8, l9, l10, l11, cond_true]
        clear l0 l1 l2 l3 l4 l5 l6 l7 l8 l9 l10 l11 hall
        have cB := rbounds_any d w' hd
        rw [hhi] at cB
        have z4 := (hW.cell (p := ⟨bc, 4, none⟩) hj).trans y54
        have z0 := (hW.cell (p := ⟨bc, 0, none⟩) hj).trans y50
        have z1 := (hW.cell (p := ⟨bc, 1, none⟩) hj).trans y51
        have HW := Lib.hid (And.intro (hBi.trans (hW.mono hBi.size)) ((hW.block _ hj0).trans hbi))
        have HLw : Hid (Lst w' Wi.heap.size A (L.map (Value.int .i64))) := Lib.hid (((HLi.out.more (by omega)).below hW))
        clear hW x50 x51 x52 x53 x54 y50 y51 y52 y53 y54 hbi hbj cb1 cb2 cb3 cm1 cm2
        go_wp2_with fail
        refine cB.mono ?_
        rintro e w4 ⟨rfl, rfl⟩
        clear cB
        go_wp2
        go_loopw [10] (fun tv wr => ∃ t : Nat, t ≤ L.length ∧ tv = .int .i64 t ∧ w4 = wr) (fun tv _ => L.length - (intOf tv).toNat)
        case atStart => exact ⟨0, by omega, rfl, rfl⟩
        case round =>
          obtain ⟨t, ht, rfl, rfl⟩ := hrel
          by_cases ct : t < L.length
          · obtain ⟨v, hv⟩ : ∃ v, L[t]? = some v := ⟨_, List.getElem?_eq_getElem ct⟩
            obtain ⟨ba, oa, rfl, hba, m0⟩ := HLw.out t (.int .i64 v) (by rw [List.getElem?_map, hv]; rfl)
            have hvb := HVL.out v (List.mem_of_getElem? hv)
            have ct' : (t : Int) < (L.length : Int) := by omega
            have e1 : decide (v < 0) = false := by simp; omega
            have e2 : decide (hiV < v) = false := by simp; omega
            clear hv
            go_wp2
            exact ⟨⟨t + 1, by omega, by go_num, trivial⟩, by simp [intOf]; omega⟩
          · obtain rfl : t = L.length := by omega
            go_wp2
            go_roundw
            case rel => exact ⟨i + 1, by omega, by go_num, HW.out.1, HW.out.2⟩
            case measure => simp [intOf]; omega
    · obtain rfl : i = Ls.length := by omega
      go_wp2
      go_ret
      exact ⟨rfl, hB⟩
end Go.Proofs.Ytjmkkjgchgcleaa
