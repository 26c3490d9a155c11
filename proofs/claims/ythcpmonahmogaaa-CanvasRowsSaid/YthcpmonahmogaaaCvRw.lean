/- canvas: each bound by itself (CanvasRows). -/
import Derived.Test.YthcpmonahmogaaaCvG
import Derived.Test.YthcpmonahmogaaaAnyInv
import Derived.Test.YthcpmonahmogaaaApps
import Derived.Deep.LoopGhost
set_option linter.unusedVariables false
set_option linter.unusedSimpArgs false
namespace Go.Proofs.Ythcpmonahmogaaa
open Go.RowKit
attribute [local go_sem ↓] appSem_eq
set_option maxRecDepth 100000
theorem blkv_set {w : World} {p : Nat} {cs : Array Value} {t : TypeId} (h : w.heap[p]? = some (.cells cs t (0, 0))) (i : Nat) (u : Value) :
    (w.setCell ⟨p, i, none⟩ u).heap[p]? = some (.cells (cs.setIfInBounds i u) t (0, 0)) := by
  simp [World.setCell, Array.getElem?_modify, h]
theorem comps_blk {w : World} {b : Nat} {d dx dy : Int} {sg : Bool} (h : w.heap[b]? = some (.cells #[.int .i64 d, .bool sg, .int .i64 dx, .int .i64 dy, .slice none 0 0] 39 (0, 0))) : CompsAt w (some ⟨b, 0, none⟩) [⟨d, sg, dx, dy, none, 0, 0⟩] := by
  intro i c e
  rcases i with _ | i
  · simp at e
    subst e
    refine ⟨b, 0, rfl, (Array.getElem?_eq_some_iff.1 h).1, ?_⟩
    simp [World.cell?, h]
  · simp at e

set_option maxHeartbeats 32000000 in
set_option pp.deepTerms true in
set_option pp.maxSteps 10000000 in
theorem walk_canvasRows (a0 : Int) (a1 : Bool) (w : World) (w0 : (Lit.int .i64 a0).wf = true) :
    Calls Try.prog 6 #[.int .i64 a0, .bool a1] w fun e w' => e = .returned (.bool true) ∧ Below w.heap.size w w' := by
  have hbd0 := bd_i64 w0
  clear w0
  have K := Lib.hid (fun u => known12 u)
  cases a1
  case false =>
    go_enter Try.func6, Try.ntmps6
    go_wp2_with fail
    refine (K.out _).mono ?_
    rintro e u0 ⟨rfl, hb⟩
    have HB0 := Lib.hid hb
    clear hb
    go_wp2_with fail
    refine (one_any 20 20 3 3 u0).mono ?_
    rintro e u1 ⟨cb, rfl, hcb, hcc, hb⟩
    have HB1 := Lib.hid (HB0.out.trans (hb.mono HB0.out.size))
    have HC1 := Lib.hid hcc
    have hcw : w.heap.size ≤ cb := Nat.le_trans HB0.out.size hcb
    have hcu : cb < u1.heap.size := (Array.getElem?_eq_some_iff.1 hcc).1
    clear hb hcc
    go_wp2_with fail
    obtain ⟨bm, hbm⟩ : ∃ bm, u1.heap.size = bm := ⟨_, rfl⟩
    obtain ⟨W6, hW6⟩ : ∃ W6, (u1.alloc (Obj.cells #[.int .i64 20, .int .i64 20, .int .i64 3, .int .i64 3, .slice (some ⟨cb, 0, none⟩) 1 1] 24)).alloc (Obj.cells #[.int .i64 64, .int .i64 64, .int .i64 2, .int .i64 4, .int .i64 4, .int .i64 15, .int .i64 0, .int .i64 0, .int .i64 1, .bool false, .bool false, .bool false] 26) = W6 := ⟨_, rfl⟩
    have q0 : W6.heap[bm]? = some (.cells #[.int .i64 20, .int .i64 20, .int .i64 3, .int .i64 3, .slice (some ⟨cb, 0, none⟩) 1 1] 24 (0, 0)) := by
      rw [← hW6, Below.heap_alloc _ _ _ (by simp; omega), ← hbm]; exact World.alloc_heap_new u1 _
    have q1 : W6.heap[bm + 1]? = some (.cells #[.int .i64 64, .int .i64 64, .int .i64 2, .int .i64 4, .int .i64 4, .int .i64 15, .int .i64 0, .int .i64 0, .int .i64 1, .bool false, .bool false, .bool false] 26 (0, 0)) := by
      rw [← hW6, show bm + 1 = (u1.alloc (Obj.cells #[.int .i64 20, .int .i64 20, .int .i64 3, .int .i64 3, .slice (some ⟨cb, 0, none⟩) 1 1] 24)).heap.size by simp; omega]; exact World.alloc_heap_new _ _
    have q2 : W6.heap[cb]? = some (.cells #[.int .i64 8, .bool false, .int .i64 1, .int .i64 1, .slice none 0 0] 39 (0, 0)) := by
      rw [← hW6, Below.heap_alloc _ _ _ (by simp; omega), Below.heap_alloc _ _ _ hcu]; exact HC1.out
    have hB6 : Below w.heap.size w W6 := by rw [← hW6]; exact (HB1.out.alloc HB1.out.size _).alloc (by have := HB1.out.size; simp; omega) _
    rw [hW6]
    rw [hbm]
    obtain ⟨bp, hbp⟩ : ∃ bp, bm + 1 = bp := ⟨_, rfl⟩
    rw [hbp] at q1 ⊢
    have hne : cb < bm ∧ bm < bp ∧ w.heap.size ≤ bm := by have := HB1.out.size; omega
    have HQ : Hid (W6.heap[cb]? = some (.cells #[.int .i64 8, .bool false, .int .i64 1, .int .i64 1, .slice none 0 0] 39 (0, 0)) ∧ Below w.heap.size w W6) := Lib.hid ⟨q2, hB6⟩
    obtain ⟨g0, g1, g2, g3, g4⟩ := img_cells q0
    obtain ⟨k0, k1, k2, k3, k4, k5, k6, k7, k8, k9, k10, k11⟩ := par_cells q1
    have c0 : W6.cell? ⟨cb, 0, none⟩ = some (.int .i64 8) := by simp [World.cell?, q2]
    have c1 : W6.cell? ⟨cb, 1, none⟩ = some (.bool false) := by simp [World.cell?, q2]
    have c2 : W6.cell? ⟨cb, 2, none⟩ = some (.int .i64 1) := by simp [World.cell?, q2]
    have c3 : W6.cell? ⟨cb, 3, none⟩ = some (.int .i64 1) := by simp [World.cell?, q2]
    have f0 : ∀ o, W6.frozen? ⟨bm, o, none⟩ = false := fun o => by simp [World.frozen?, q0]
    have f1 : ∀ o, W6.frozen? ⟨bp, o, none⟩ = false := fun o => by simp [World.frozen?, q1]
    have f2 : ∀ o, W6.frozen? ⟨cb, o, none⟩ = false := fun o => by simp [World.frozen?, q2]
    have HQ0 := Lib.hid (And.intro q0 q1)
    clear hW6 hbm hbp q0 q1 q2 hB6 hcu hcb
    refine (some12 a0 16 _ (by omega) (by omega)).mono ?_
    rintro e w' ⟨r, rfl, hr0, hr1, rfl⟩
    obtain rfl | rfl | rfl | rfl | rfl | rfl | rfl | rfl | rfl | rfl | rfl | rfl | rfl | rfl | rfl | rfl := (by omega : r = 0 ∨ r = 1 ∨ r = 2 ∨ r = 3 ∨ r = 4 ∨ r = 5 ∨ r = 6 ∨ r = 7 ∨ r = 8 ∨ r = 9 ∨ r = 10 ∨ r = 11 ∨ r = 12 ∨ r = 13 ∨ r = 14 ∨ r = 15)
    · skip
      go_wp2_with fail
      have hc' : (W6.setCell ⟨bm, 0, none⟩ (.int .i64 64)).heap[cb]? = some (.cells #[.int .i64 8, .bool false, .int .i64 1, .int .i64 1, .slice none 0 0] 39 (0, 0)) := (Below.heap_setCell _ _ _ _ (by simp; omega)).trans HQ.out.1
      have hI := comps_blk hc'
      have hB' : Below w.heap.size w (W6.setCell ⟨bm, 0, none⟩ (.int .i64 64)) := HQ.out.2.setCell (p := ⟨bm, 0, none⟩) (by show w.heap.size ≤ bm; omega) _
      have CF := Lib.hid (frame_any (cC := 1) 64 20 3 3 64 64 2 4 4 15 0 0 1 false false false hI (by unfold maxLen; simp))
      have HB := Lib.hid hB'
      clear hc' hI hB'
      refine CF.out.mono ?_
      rintro e w2 ⟨rfl, hb⟩
      rw [show frameF 64 20 3 3 [⟨8, false, 1, 1, none, 0, 0⟩] 64 64 2 4 4 15 0 0 1 false = 0 by decide]
      have HB2 := Lib.hid (HB.out.trans (hb.mono HB.out.size))
      clear hb CF
      go_wp2
      go_ret
      exact ⟨rfl, HB2.out⟩
    · skip
      go_wp2_with fail
      have hc' : (W6.setCell ⟨bm, 2, none⟩ (.int .i64 19)).heap[cb]? = some (.cells #[.int .i64 8, .bool false, .int .i64 1, .int .i64 1, .slice none 0 0] 39 (0, 0)) := (Below.heap_setCell _ _ _ _ (by simp; omega)).trans HQ.out.1
      have hI := comps_blk hc'
      have hB' : Below w.heap.size w (W6.setCell ⟨bm, 2, none⟩ (.int .i64 19)) := HQ.out.2.setCell (p := ⟨bm, 2, none⟩) (by show w.heap.size ≤ bm; omega) _
      have CF := Lib.hid (frame_any (cC := 1) 20 20 19 3 64 64 2 4 4 15 0 0 1 false false false hI (by unfold maxLen; simp))
      have HB := Lib.hid hB'
      clear hc' hI hB'
      refine CF.out.mono ?_
      rintro e w2 ⟨rfl, hb⟩
      rw [show frameF 20 20 19 3 [⟨8, false, 1, 1, none, 0, 0⟩] 64 64 2 4 4 15 0 0 1 false = 0 by decide]
      have HB2 := Lib.hid (HB.out.trans (hb.mono HB.out.size))
      clear hb CF
      go_wp2
      go_ret
      exact ⟨rfl, HB2.out⟩
    · skip
      go_wp2_with fail
      have hc' : (W6.setCell ⟨bm, 3, none⟩ (.int .i64 0)).heap[cb]? = some (.cells #[.int .i64 8, .bool false, .int .i64 1, .int .i64 1, .slice none 0 0] 39 (0, 0)) := (Below.heap_setCell _ _ _ _ (by simp; omega)).trans HQ.out.1
      have hI := comps_blk hc'
      have hB' : Below w.heap.size w (W6.setCell ⟨bm, 3, none⟩ (.int .i64 0)) := HQ.out.2.setCell (p := ⟨bm, 3, none⟩) (by show w.heap.size ≤ bm; omega) _
      have CF := Lib.hid (frame_any (cC := 1) 20 20 3 0 64 64 2 4 4 15 0 0 1 false false false hI (by unfold maxLen; simp))
      have HB := Lib.hid hB'
      clear hc' hI hB'
      refine CF.out.mono ?_
      rintro e w2 ⟨rfl, hb⟩
      rw [show frameF 20 20 3 0 [⟨8, false, 1, 1, none, 0, 0⟩] 64 64 2 4 4 15 0 0 1 false = 0 by decide]
      have HB2 := Lib.hid (HB.out.trans (hb.mono HB.out.size))
      clear hb CF
      go_wp2
      go_ret
      exact ⟨rfl, HB2.out⟩
    · skip
      go_wp2_with fail
      have hc' : (W6.setCell ⟨cb, 0, none⟩ (.int .i64 16)).heap[cb]? = some (.cells #[.int .i64 16, .bool false, .int .i64 1, .int .i64 1, .slice none 0 0] 39 (0, 0)) := by rw [blkv_set HQ.out.1]; rfl
      have hI := comps_blk hc'
      have hB' : Below w.heap.size w (W6.setCell ⟨cb, 0, none⟩ (.int .i64 16)) := HQ.out.2.setCell (p := ⟨cb, 0, none⟩) (by show w.heap.size ≤ cb; omega) _
      have CF := Lib.hid (frame_any (cC := 1) 20 20 3 3 64 64 2 4 4 15 0 0 1 false false false hI (by unfold maxLen; simp))
      have HB := Lib.hid hB'
      clear hc' hI hB'
      refine CF.out.mono ?_
      rintro e w2 ⟨rfl, hb⟩
      rw [show frameF 20 20 3 3 [⟨16, false, 1, 1, none, 0, 0⟩] 64 64 2 4 4 15 0 0 1 false = 0 by decide]
      have HB2 := Lib.hid (HB.out.trans (hb.mono HB.out.size))
      clear hb CF
      go_wp2
      go_ret
      exact ⟨rfl, HB2.out⟩
    · skip
      go_wp2_with fail
      have hc' : (W6.setCell ⟨cb, 2, none⟩ (.int .i64 4)).heap[cb]? = some (.cells #[.int .i64 8, .bool false, .int .i64 4, .int .i64 1, .slice none 0 0] 39 (0, 0)) := by rw [blkv_set HQ.out.1]; rfl
      have hI := comps_blk hc'
      have hB' : Below w.heap.size w (W6.setCell ⟨cb, 2, none⟩ (.int .i64 4)) := HQ.out.2.setCell (p := ⟨cb, 2, none⟩) (by show w.heap.size ≤ cb; omega) _
      have CF := Lib.hid (frame_any (cC := 1) 20 20 3 3 64 64 2 4 4 15 0 0 1 false false false hI (by unfold maxLen; simp))
      have HB := Lib.hid hB'
      clear hc' hI hB'
      refine CF.out.mono ?_
      rintro e w2 ⟨rfl, hb⟩
      rw [show frameF 20 20 3 3 [⟨8, false, 4, 1, none, 0, 0⟩] 64 64 2 4 4 15 0 0 1 false = 0 by decide]
      have HB2 := Lib.hid (HB.out.trans (hb.mono HB.out.size))
      clear hb CF
      go_wp2
      go_ret
      exact ⟨rfl, HB2.out⟩
    · skip
      go_wp2_with fail
      have hc' : (W6.setCell ⟨cb, 3, none⟩ (.int .i64 1)).heap[cb]? = some (.cells #[.int .i64 8, .bool false, .int .i64 1, .int .i64 1, .slice none 0 0] 39 (0, 0)) := by rw [blkv_set HQ.out.1]; rfl
      have hI := comps_blk hc'
      have hB' : Below w.heap.size w (W6.setCell ⟨cb, 3, none⟩ (.int .i64 1)) := HQ.out.2.setCell (p := ⟨cb, 3, none⟩) (by show w.heap.size ≤ cb; omega) _
      have CF := Lib.hid (frame_any (cC := 1) 20 20 3 3 64 64 2 4 4 15 0 0 1 false false false hI (by unfold maxLen; simp))
      have HB := Lib.hid hB'
      clear hc' hI hB'
      refine CF.out.mono ?_
      rintro e w2 ⟨rfl, hb⟩
      rw [show frameF 20 20 3 3 [⟨8, false, 1, 1, none, 0, 0⟩] 64 64 2 4 4 15 0 0 1 false = 0 by decide]
      have HB2 := Lib.hid (HB.out.trans (hb.mono HB.out.size))
      clear hb CF
      go_wp2
      go_ret
      exact ⟨rfl, HB2.out⟩
    · skip
      go_wp2_with fail
      have hc' : (W6.setCell ⟨bp, 0, none⟩ (.int .i64 4)).heap[cb]? = some (.cells #[.int .i64 8, .bool false, .int .i64 1, .int .i64 1, .slice none 0 0] 39 (0, 0)) := (Below.heap_setCell _ _ _ _ (by simp; omega)).trans HQ.out.1
      have hI := comps_blk hc'
      have hB' : Below w.heap.size w (W6.setCell ⟨bp, 0, none⟩ (.int .i64 4)) := HQ.out.2.setCell (p := ⟨bp, 0, none⟩) (by show w.heap.size ≤ bp; omega) _
      have CF := Lib.hid (frame_any (cC := 1) 20 20 3 3 4 64 2 4 4 15 0 0 1 false false false hI (by unfold maxLen; simp))
      have HB := Lib.hid hB'
      clear hc' hI hB'
      refine CF.out.mono ?_
      rintro e w2 ⟨rfl, hb⟩
      rw [show frameF 20 20 3 3 [⟨8, false, 1, 1, none, 0, 0⟩] 4 64 2 4 4 15 0 0 1 false = 0 by decide]
      have HB2 := Lib.hid (HB.out.trans (hb.mono HB.out.size))
      clear hb CF
      go_wp2
      go_ret
      exact ⟨rfl, HB2.out⟩
    · skip
      go_wp2_with fail
      have hc' : (W6.setCell ⟨bp, 1, none⟩ (.int .i64 65536)).heap[cb]? = some (.cells #[.int .i64 8, .bool false, .int .i64 1, .int .i64 1, .slice none 0 0] 39 (0, 0)) := (Below.heap_setCell _ _ _ _ (by simp; omega)).trans HQ.out.1
      have hI := comps_blk hc'
      have hB' : Below w.heap.size w (W6.setCell ⟨bp, 1, none⟩ (.int .i64 65536)) := HQ.out.2.setCell (p := ⟨bp, 1, none⟩) (by show w.heap.size ≤ bp; omega) _
      have CF := Lib.hid (frame_any (cC := 1) 20 20 3 3 64 65536 2 4 4 15 0 0 1 false false false hI (by unfold maxLen; simp))
      have HB := Lib.hid hB'
      clear hc' hI hB'
      refine CF.out.mono ?_
      rintro e w2 ⟨rfl, hb⟩
      rw [show frameF 20 20 3 3 [⟨8, false, 1, 1, none, 0, 0⟩] 64 65536 2 4 4 15 0 0 1 false = 0 by decide]
      have HB2 := Lib.hid (HB.out.trans (hb.mono HB.out.size))
      clear hb CF
      go_wp2
      go_ret
      exact ⟨rfl, HB2.out⟩
    · skip
      go_wp2_with fail
      have hc' : (W6.setCell ⟨bp, 2, none⟩ (.int .i64 5)).heap[cb]? = some (.cells #[.int .i64 8, .bool false, .int .i64 1, .int .i64 1, .slice none 0 0] 39 (0, 0)) := (Below.heap_setCell _ _ _ _ (by simp; omega)).trans HQ.out.1
      have hI := comps_blk hc'
      have hB' : Below w.heap.size w (W6.setCell ⟨bp, 2, none⟩ (.int .i64 5)) := HQ.out.2.setCell (p := ⟨bp, 2, none⟩) (by show w.heap.size ≤ bp; omega) _
      have CF := Lib.hid (frame_any (cC := 1) 20 20 3 3 64 64 5 4 4 15 0 0 1 false false false hI (by unfold maxLen; simp))
      have HB := Lib.hid hB'
      clear hc' hI hB'
      refine CF.out.mono ?_
      rintro e w2 ⟨rfl, hb⟩
      rw [show frameF 20 20 3 3 [⟨8, false, 1, 1, none, 0, 0⟩] 64 64 5 4 4 15 0 0 1 false = 0 by decide]
      have HB2 := Lib.hid (HB.out.trans (hb.mono HB.out.size))
      clear hb CF
      go_wp2
      go_ret
      exact ⟨rfl, HB2.out⟩
    · skip
      go_wp2_with fail
      have hc' : (W6.setCell ⟨bp, 3, none⟩ (.int .i64 6)).heap[cb]? = some (.cells #[.int .i64 8, .bool false, .int .i64 1, .int .i64 1, .slice none 0 0] 39 (0, 0)) := (Below.heap_setCell _ _ _ _ (by simp; omega)).trans HQ.out.1
      have hI := comps_blk hc'
      have hB' : Below w.heap.size w (W6.setCell ⟨bp, 3, none⟩ (.int .i64 6)) := HQ.out.2.setCell (p := ⟨bp, 3, none⟩) (by show w.heap.size ≤ bp; omega) _
      have CF := Lib.hid (frame_any (cC := 1) 20 20 3 3 64 64 2 6 4 15 0 0 1 false false false hI (by unfold maxLen; simp))
      have HB := Lib.hid hB'
      clear hc' hI hB'
      refine CF.out.mono ?_
      rintro e w2 ⟨rfl, hb⟩
      rw [show frameF 20 20 3 3 [⟨8, false, 1, 1, none, 0, 0⟩] 64 64 2 6 4 15 0 0 1 false = 0 by decide]
      have HB2 := Lib.hid (HB.out.trans (hb.mono HB.out.size))
      clear hb CF
      go_wp2
      go_ret
      exact ⟨rfl, HB2.out⟩
    · skip
      go_wp2_with fail
      have hc' : (W6.setCell ⟨bp, 4, none⟩ (.int .i64 2)).heap[cb]? = some (.cells #[.int .i64 8, .bool false, .int .i64 1, .int .i64 1, .slice none 0 0] 39 (0, 0)) := (Below.heap_setCell _ _ _ _ (by simp; omega)).trans HQ.out.1
      have hI := comps_blk hc'
      have hB' : Below w.heap.size w (W6.setCell ⟨bp, 4, none⟩ (.int .i64 2)) := HQ.out.2.setCell (p := ⟨bp, 4, none⟩) (by show w.heap.size ≤ bp; omega) _
      have CF := Lib.hid (frame_any (cC := 1) 20 20 3 3 64 64 2 4 2 15 0 0 1 false false false hI (by unfold maxLen; simp))
      have HB := Lib.hid hB'
      clear hc' hI hB'
      refine CF.out.mono ?_
      rintro e w2 ⟨rfl, hb⟩
      rw [show frameF 20 20 3 3 [⟨8, false, 1, 1, none, 0, 0⟩] 64 64 2 4 2 15 0 0 1 false = 0 by decide]
      have HB2 := Lib.hid (HB.out.trans (hb.mono HB.out.size))
      clear hb CF
      go_wp2
      go_ret
      exact ⟨rfl, HB2.out⟩
    · skip
      go_wp2_with fail
      have hc' : (W6.setCell ⟨bp, 5, none⟩ (.int .i64 15)).heap[cb]? = some (.cells #[.int .i64 8, .bool false, .int .i64 1, .int .i64 1, .slice none 0 0] 39 (0, 0)) := (Below.heap_setCell _ _ _ _ (by simp; omega)).trans HQ.out.1
      have hI := comps_blk hc'
      have hB' : Below w.heap.size w (W6.setCell ⟨bp, 5, none⟩ (.int .i64 15)) := HQ.out.2.setCell (p := ⟨bp, 5, none⟩) (by show w.heap.size ≤ bp; omega) _
      have CF := Lib.hid (frame_any (cC := 1) 20 20 3 3 64 64 2 4 4 15 0 0 1 false false false hI (by unfold maxLen; simp))
      have HB := Lib.hid hB'
      clear hc' hI hB'
      refine CF.out.mono ?_
      rintro e w2 ⟨rfl, hb⟩
      rw [show frameF 20 20 3 3 [⟨8, false, 1, 1, none, 0, 0⟩] 64 64 2 4 4 15 0 0 1 false = 0 by decide]
      have HB2 := Lib.hid (HB.out.trans (hb.mono HB.out.size))
      clear hb CF
      go_wp2
      go_ret
      exact ⟨rfl, HB2.out⟩
    · skip
      go_wp2_with fail
      have hc' : (W6.setCell ⟨bp, 6, none⟩ (.int .i64 63)).heap[cb]? = some (.cells #[.int .i64 8, .bool false, .int .i64 1, .int .i64 1, .slice none 0 0] 39 (0, 0)) := (Below.heap_setCell _ _ _ _ (by simp; omega)).trans HQ.out.1
      have hI := comps_blk hc'
      have hB' : Below w.heap.size w (W6.setCell ⟨bp, 6, none⟩ (.int .i64 63)) := HQ.out.2.setCell (p := ⟨bp, 6, none⟩) (by show w.heap.size ≤ bp; omega) _
      have CF := Lib.hid (frame_any (cC := 1) 20 20 3 3 64 64 2 4 4 15 63 0 1 false false false hI (by unfold maxLen; simp))
      have HB := Lib.hid hB'
      clear hc' hI hB'
      refine CF.out.mono ?_
      rintro e w2 ⟨rfl, hb⟩
      rw [show frameF 20 20 3 3 [⟨8, false, 1, 1, none, 0, 0⟩] 64 64 2 4 4 15 63 0 1 false = 0 by decide]
      have HB2 := Lib.hid (HB.out.trans (hb.mono HB.out.size))
      clear hb CF
      go_wp2
      go_ret
      exact ⟨rfl, HB2.out⟩
    · skip
      go_wp2_with fail
      have hc' : (W6.setCell ⟨bp, 7, none⟩ (.int .i64 4)).heap[cb]? = some (.cells #[.int .i64 8, .bool false, .int .i64 1, .int .i64 1, .slice none 0 0] 39 (0, 0)) := (Below.heap_setCell _ _ _ _ (by simp; omega)).trans HQ.out.1
      have hI := comps_blk hc'
      have hB' : Below w.heap.size w (W6.setCell ⟨bp, 7, none⟩ (.int .i64 4)) := HQ.out.2.setCell (p := ⟨bp, 7, none⟩) (by show w.heap.size ≤ bp; omega) _
      have CF := Lib.hid (frame_any (cC := 1) 20 20 3 3 64 64 2 4 4 15 0 4 1 false false false hI (by unfold maxLen; simp))
      have HB := Lib.hid hB'
      clear hc' hI hB'
      refine CF.out.mono ?_
      rintro e w2 ⟨rfl, hb⟩
      rw [show frameF 20 20 3 3 [⟨8, false, 1, 1, none, 0, 0⟩] 64 64 2 4 4 15 0 4 1 false = 0 by decide]
      have HB2 := Lib.hid (HB.out.trans (hb.mono HB.out.size))
      clear hb CF
      go_wp2
      go_ret
      exact ⟨rfl, HB2.out⟩
    · skip
      go_wp2_with fail
      have hc' : (W6.setCell ⟨bp, 8, none⟩ (.int .i64 8)).heap[cb]? = some (.cells #[.int .i64 8, .bool false, .int .i64 1, .int .i64 1, .slice none 0 0] 39 (0, 0)) := (Below.heap_setCell _ _ _ _ (by simp; omega)).trans HQ.out.1
      have hI := comps_blk hc'
      have hB' : Below w.heap.size w (W6.setCell ⟨bp, 8, none⟩ (.int .i64 8)) := HQ.out.2.setCell (p := ⟨bp, 8, none⟩) (by show w.heap.size ≤ bp; omega) _
      have CF := Lib.hid (frame_any (cC := 1) 20 20 3 3 64 64 2 4 4 15 0 0 8 false false false hI (by unfold maxLen; simp))
      have HB := Lib.hid hB'
      clear hc' hI hB'
      refine CF.out.mono ?_
      rintro e w2 ⟨rfl, hb⟩
      rw [show frameF 20 20 3 3 [⟨8, false, 1, 1, none, 0, 0⟩] 64 64 2 4 4 15 0 0 8 false = 0 by decide]
      have HB2 := Lib.hid (HB.out.trans (hb.mono HB.out.size))
      clear hb CF
      go_wp2
      go_ret
      exact ⟨rfl, HB2.out⟩
    · skip
      go_wp2_with fail
      have G0 : Hid (GS w.heap.size w W6 bm bp 20 20 3 3 #[.int .i64 64, .int .i64 64, .int .i64 2, .int .i64 4, .int .i64 4, .int .i64 15, .int .i64 0, .int .i64 0, .int .i64 1, .bool false, .bool false, .bool false] (.slice (some ⟨cb, 0, none⟩) 1 1) (.slice (some ⟨cb, 0, none⟩) 1 1) 1) := Lib.hid ⟨HQ0.out.1, HQ0.out.2, own_plain HQ.out.1 hcw, HQ.out.2, ⟨hne.2.2, by omega, by omega⟩⟩
      clear g0 g1 g2 g3 g4 k0 k1 k2 k3 k4 k5 k6 k7 k8 k9 k10 k11 c0 c1 c2 c3 f0 f1 f2
      go_loopg [105] 5 (fun g v wr => ∃ (j : Nat) (A : Option Addr) (c : Nat), 1 ≤ j ∧ j ≤ 4 ∧ j + g = 6 ∧ Hid (GS w.heap.size w wr bm bp 20 20 3 3 #[.int .i64 64, .int .i64 64, .int .i64 2, .int .i64 4, .int .i64 4, .int .i64 15, .int .i64 0, .int .i64 0, .int .i64 1, .bool false, .bool false, .bool false] (.slice A j c) (.slice A j c) j))
      case atStart => exact ⟨1, _, _, by omega, by omega, by omega, G0⟩
      case round =>
        obtain ⟨j, A, c, hj1, hj2, hjg, HG⟩ := hrel
        clear G0 HQ HQ0
        obtain ⟨gb, cc, hv, hgb, hgl, hcc1, hcc2⟩ := own_form HG.out.o (by omega)
        cases hv
        have hcm : c ≤ 9223372036854775807 := by unfold maxLen at hcc2; omega
        obtain ⟨g0, g1, g2, g3, g4⟩ := img_cells HG.out.m
        by_cases hlt : j < 4
        · have hlt' : (j : Int) < 4 := by omega
          go_wp2_with fail
          clear g0 g1 g2 g3 g4
          refine (wpIn_wide (n := 9)).1 (regionIn_inv (w := wr) (Inv := fun L a' w' => ∃ (z : Nat) (A9 : Option Addr) (c9 : Nat), a' = { tmps := #[.int .i64 a0, .bool false, undef, undef, .bool false, .int .i64 0, .pointer (some ⟨bm, 0, none⟩), .pointer (some ⟨bp, 0, none⟩), .int .i64 1, undef, .bool true, .bool false, .bool false, .tuple #[.agg #[.int .i64 20, .int .i64 20, .int .i64 3, .int .i64 3, .slice (some ⟨cb, 0, none⟩) 1 1], .agg #[.int .i64 64, .int .i64 64, .int .i64 2, .int .i64 4, .int .i64 4, .int .i64 15, .int .i64 0, .int .i64 0, .int .i64 1, .bool false, .bool false, .bool false]], .tuple #[.agg #[.int .i64 20, .int .i64 20, .int .i64 3, .int .i64 3, .slice (some ⟨cb, 0, none⟩) 1 1], .agg #[.int .i64 64, .int .i64 64, .int .i64 2, .int .i64 4, .int .i64 4, .int .i64 15, .int .i64 0, .int .i64 0, .int .i64 1, .bool false, .bool false, .bool false]], .agg #[.int .i64 20, .int .i64 20, .int .i64 3, .int .i64 3, .slice (some ⟨cb, 0, none⟩) 1 1], .agg #[.int .i64 64, .int .i64 64, .int .i64 2, .int .i64 4, .int .i64 4, .int .i64 15, .int .i64 0, .int .i64 0, .int .i64 1, .bool false, .bool false, .bool false], .int .i64 a0, .int .i64 15, .bool false, .bool false, undef, undef, undef, .bool false, .bool false, undef, undef, undef, .bool false, .bool false, undef, undef, undef, .bool false, .bool false, undef, undef, undef, undef, undef, undef, .bool false, .bool false, undef, undef, undef, undef, undef, undef, .bool false, .bool false, undef, undef, undef, undef, undef, undef, .bool false, .bool false, undef, undef, undef, .bool false, .bool false, undef, undef, undef, .bool false, .bool false, undef, undef, undef, .bool false, .bool false, undef, undef, undef, .bool false, .bool false, undef, undef, undef, .bool false, .bool false, undef, undef, undef, .bool false, .bool false, undef, undef, undef, .bool false, .bool false, undef, undef, undef, .bool false, .bool false, undef, undef, undef, .bool true, .bool true, .pointer (some ⟨bm, 4, none⟩), .slice (some ⟨gb, 0, none⟩) j c, .int .i64 (j : Int), .int .i64 0, .int .i64 4, .bool true, bif L 0 then .pointer (some ⟨bm, 4, none⟩) else u111, bif L 1 then .slice (some ⟨gb, 0, none⟩) j c else u112, bif L 2 then .pointer (some ⟨bm, 4, none⟩) else u113, bif L 3 then .slice (some ⟨gb, 0, none⟩) j c else u114, bif L 4 then .pointer (some ⟨gb, 0, none⟩) else u115, bif L 5 then .agg #[.int .i64 8, .bool false, .int .i64 1, .int .i64 1, .slice none 0 0] else u116, bif L 6 then .slice (some ⟨z, 0, none⟩) 1 1 else u117, bif L 7 then .slice A9 (j + 1) c9 else u118, bif L 8 then .pointer (some ⟨bm, 4, none⟩) else u119, undef, undef, undef, undef, undef, undef, undef, undef, undef, undef, undef, undef, undef, undef, undef, undef, undef], defers := [] } ∧ (bif L 9 then ((GS w.heap.size w w' bm bp 20 20 3 3 #[.int .i64 64, .int .i64 64, .int .i64 2, .int .i64 4, .int .i64 4, .int .i64 15, .int .i64 0, .int .i64 0, .int .i64 1, .bool false, .bool false, .bool false] (.slice A9 (j + 1) c9) (.slice A9 (j + 1) c9) (j + 1))) else (bif L 7 then ((GS w.heap.size w w' bm bp 20 20 3 3 #[.int .i64 64, .int .i64 64, .int .i64 2, .int .i64 4, .int .i64 4, .int .i64 15, .int .i64 0, .int .i64 0, .int .i64 1, .bool false, .bool false, .bool false] (.slice (some ⟨gb, 0, none⟩) j c) (.slice A9 (j + 1) c9) (j + 1))) else (bif L 6 then ((GS w.heap.size w w' bm bp 20 20 3 3 #[.int .i64 64, .int .i64 64, .int .i64 2, .int .i64 4, .int .i64 4, .int .i64 15, .int .i64 0, .int .i64 0, .int .i64 1, .bool false, .bool false, .bool false] (.slice (some ⟨gb, 0, none⟩) j c) (.slice (some ⟨gb, 0, none⟩) j c) j ∧ w'.heap[z]? = some (.cells #[.int .i64 8, .bool false, .int .i64 1, .int .i64 1, .slice none 0 0] 39 (0, 0)))) else (GS w.heap.size w w' bm bp 20 20 3 3 #[.int .i64 64, .int .i64 64, .int .i64 2, .int .i64 4, .int .i64 4, .int .i64 15, .int .i64 0, .int .i64 0, .int .i64 1, .bool false, .bool false, .bool false] (.slice (some ⟨gb, 0, none⟩) j c) (.slice (some ⟨gb, 0, none⟩) j c) j))))) (by kernel_rfl) (by kernel_rfl) ?startqa ?stepqa ?finqa)
          case startqa => exact ⟨0, none, 0, rfl, HG.out.below (below_drewN (Below.refl _ _) 1)⟩
          case stepqa =>
            intro i hi L a' w' hI hs hu
            obtain ⟨z, A9, c9, rfl, hph⟩ := hI
            have hL := hu.1
            have hi : i < 10 := hi
            obtain rfl | rfl | rfl | rfl | rfl | rfl | rfl | rfl | rfl | rfl := (by omega : i = 0 ∨ i = 1 ∨ i = 2 ∨ i = 3 ∨ i = 4 ∨ i = 5 ∨ i = 6 ∨ i = 7 ∨ i = 8 ∨ i = 9)
            · skip
              have n7 : L 7 = false := not_yet hL fun h => shut_at hs 1 0 (by kernel_rfl) (shut_at hs 7 1 (by kernel_rfl) (h))
              have n9 : L 9 = false := not_yet hL fun h => shut_at hs 9 0 (by kernel_rfl) (h)
              refine opIn_run (v := .pointer (some ⟨bm, 4, none⟩)) (w' := w') rfl rfl (fun c h => by cases h) (fun _ => trivial) ?_ ⟨z, A9, c9, by simp [Act.put, upd, n7, n9, hL], by simpa [upd] using hph⟩
              simp only [n7, n9, hL, cond_true, cond_false]
              go_simp
            · skip
              have y0 : L 0 = true := up_at hu 0 (by kernel_rfl)
              have n7 : L 7 = false := not_yet hL fun h => shut_at hs 7 1 (by kernel_rfl) (h)
              have n9 : L 9 = false := not_yet hL fun h => shut_at hs 9 1 (by kernel_rfl) (h)
              simp only [y0, n7, n9, hL, cond_true, cond_false] at hph
              have hb1 : GS w.heap.size w w' bm bp 20 20 3 3 #[.int .i64 64, .int .i64 64, .int .i64 2, .int .i64 4, .int .i64 4, .int .i64 15, .int .i64 0, .int .i64 0, .int .i64 1, .bool false, .bool false, .bool false] (.slice (some ⟨gb, 0, none⟩) j c) (.slice (some ⟨gb, 0, none⟩) j c) j := by cases h6 : L 6 <;> simp only [h6, cond_true, cond_false] at hph <;> first | exact hph | exact hph.1
              obtain ⟨m0, m1, m2, m3, m4⟩ := img_cells hb1.m
              refine opIn_run (v := .slice (some ⟨gb, 0, none⟩) j c) (w' := w') rfl rfl (fun c h => by cases h) (fun _ => trivial) ?_ ⟨z, A9, c9, by simp [Act.put, upd, y0, n7, n9, hL], by simp only [upd, y0, n7, n9, hL]; exact hph⟩
              simp only [y0, n7, n9, hL, cond_true, cond_false]
              go_simp
            · skip
              have n6 : L 6 = false := not_yet hL fun h => shut_at hs 3 2 (by kernel_rfl) (shut_at hs 4 3 (by kernel_rfl) (shut_at hs 5 4 (by kernel_rfl) (shut_at hs 6 5 (by kernel_rfl) (h))))
              have n7 : L 7 = false := not_yet hL fun h => shut_at hs 3 2 (by kernel_rfl) (shut_at hs 4 3 (by kernel_rfl) (shut_at hs 5 4 (by kernel_rfl) (shut_at hs 6 5 (by kernel_rfl) (shut_at hs 7 6 (by kernel_rfl) (h)))))
              have n9 : L 9 = false := not_yet hL fun h => shut_at hs 9 2 (by kernel_rfl) (h)
              refine opIn_run (v := .pointer (some ⟨bm, 4, none⟩)) (w' := w') rfl rfl (fun c h => by cases h) (fun _ => trivial) ?_ ⟨z, A9, c9, by simp [Act.put, upd, n6, n7, n9, hL], by simpa [upd] using hph⟩
              simp only [n6, n7, n9, hL, cond_true, cond_false]
              go_simp
            · skip
              have y2 : L 2 = true := up_at hu 2 (by kernel_rfl)
              have n6 : L 6 = false := not_yet hL fun h => shut_at hs 4 3 (by kernel_rfl) (shut_at hs 5 4 (by kernel_rfl) (shut_at hs 6 5 (by kernel_rfl) (h)))
              have n7 : L 7 = false := not_yet hL fun h => shut_at hs 4 3 (by kernel_rfl) (shut_at hs 5 4 (by kernel_rfl) (shut_at hs 6 5 (by kernel_rfl) (shut_at hs 7 6 (by kernel_rfl) (h))))
              have n9 : L 9 = false := not_yet hL fun h => shut_at hs 9 3 (by kernel_rfl) (h)
              simp only [y2, n6, n7, n9, hL, cond_true, cond_false] at hph
              obtain ⟨m0, m1, m2, m3, m4⟩ := img_cells hph.m
              refine opIn_run (v := .slice (some ⟨gb, 0, none⟩) j c) (w' := w') rfl rfl (fun c h => by cases h) (fun _ => trivial) ?_ ⟨z, A9, c9, by simp [Act.put, upd, y2, n6, n7, n9, hL], by simp only [upd, y2, n6, n7, n9, hL]; exact hph⟩
              simp only [y2, n6, n7, n9, hL, cond_true, cond_false]
              go_simp
            · skip
              have y2 : L 2 = true := shut_at hs 3 2 (by kernel_rfl) (up_at hu 3 (by kernel_rfl))
              have y3 : L 3 = true := up_at hu 3 (by kernel_rfl)
              have n6 : L 6 = false := not_yet hL fun h => shut_at hs 5 4 (by kernel_rfl) (shut_at hs 6 5 (by kernel_rfl) (h))
              have n7 : L 7 = false := not_yet hL fun h => shut_at hs 5 4 (by kernel_rfl) (shut_at hs 6 5 (by kernel_rfl) (shut_at hs 7 6 (by kernel_rfl) (h)))
              have n9 : L 9 = false := not_yet hL fun h => shut_at hs 9 4 (by kernel_rfl) (h)
              simp only [y2, y3, n6, n7, n9, hL, cond_true, cond_false] at hph
              have hj0 : (0 : Int) < (j : Int) := by omega
              have hj00 : 0 < j := by omega
              have hjn : ¬ j = 0 := by omega
              refine opIn_run (v := .pointer (some ⟨gb, 0, none⟩)) (w' := w') rfl rfl (fun c h => by cases h) (fun _ => trivial) ?_ ⟨z, A9, c9, by simp [Act.put, upd, y2, y3, n6, n7, n9, hL], by simp only [upd, y2, y3, n6, n7, n9, hL]; exact hph⟩
              simp only [y2, y3, n6, n7, n9, hL, cond_true, cond_false]
              go_simp
            · skip
              have y2 : L 2 = true := shut_at hs 3 2 (by kernel_rfl) (shut_at hs 4 3 (by kernel_rfl) (up_at hu 4 (by kernel_rfl)))
              have y3 : L 3 = true := shut_at hs 4 3 (by kernel_rfl) (up_at hu 4 (by kernel_rfl))
              have y4 : L 4 = true := up_at hu 4 (by kernel_rfl)
              have n6 : L 6 = false := not_yet hL fun h => shut_at hs 6 5 (by kernel_rfl) (h)
              have n7 : L 7 = false := not_yet hL fun h => shut_at hs 6 5 (by kernel_rfl) (shut_at hs 7 6 (by kernel_rfl) (h))
              have n9 : L 9 = false := not_yet hL fun h => shut_at hs 9 5 (by kernel_rfl) (h)
              simp only [y2, y3, y4, n6, n7, n9, hL, cond_true, cond_false] at hph
              obtain ⟨p0, p1, p2, p3, p4⟩ := hph.first (by omega)
              refine opIn_run (v := .agg #[.int .i64 8, .bool false, .int .i64 1, .int .i64 1, .slice none 0 0]) (w' := w') rfl rfl (fun c h => by cases h) (fun _ => trivial) ?_ ⟨z, A9, c9, by simp [Act.put, upd, y2, y3, y4, n6, n7, n9, hL], by simp only [upd, y2, y3, y4, n6, n7, n9, hL]; exact hph⟩
              simp only [y2, y3, y4, n6, n7, n9, hL, cond_true, cond_false]
              go_simp
            · skip
              have y2 : L 2 = true := shut_at hs 3 2 (by kernel_rfl) (shut_at hs 4 3 (by kernel_rfl) (shut_at hs 5 4 (by kernel_rfl) (up_at hu 5 (by kernel_rfl))))
              have y3 : L 3 = true := shut_at hs 4 3 (by kernel_rfl) (shut_at hs 5 4 (by kernel_rfl) (up_at hu 5 (by kernel_rfl)))
              have y4 : L 4 = true := shut_at hs 5 4 (by kernel_rfl) (up_at hu 5 (by kernel_rfl))
              have y5 : L 5 = true := up_at hu 5 (by kernel_rfl)
              have n7 : L 7 = false := not_yet hL fun h => shut_at hs 7 6 (by kernel_rfl) (h)
              have n9 : L 9 = false := not_yet hL fun h => shut_at hs 9 6 (by kernel_rfl) (h)
              simp only [y2, y3, y4, y5, n7, n9, hL, cond_true, cond_false] at hph
              refine opIn_run (v := .slice (some ⟨w'.heap.size, 0, none⟩) 1 1) (w' := w'.alloc (Obj.cells #[.int .i64 8, .bool false, .int .i64 1, .int .i64 1, .slice none 0 0] 39)) rfl rfl (fun c h => by cases h) (fun _ => trivial) ?_ ⟨w'.heap.size, A9, c9, by simp [Act.put, upd, y2, y3, y4, y5, n7, n9, hL], by simp only [upd, y2, y3, y4, y5, n7, n9, hL]; exact ⟨hph.below ((Below.refl _ _).alloc (Nat.le_refl _) _), World.alloc_heap_new w' _⟩⟩
              simp only [y2, y3, y4, y5, n7, n9, hL, cond_true, cond_false]
              go_simp
            · skip
              have y0 : L 0 = true := shut_at hs 1 0 (by kernel_rfl) (up_at hu 1 (by kernel_rfl))
              have y1 : L 1 = true := up_at hu 1 (by kernel_rfl)
              have y2 : L 2 = true := shut_at hs 3 2 (by kernel_rfl) (shut_at hs 4 3 (by kernel_rfl) (shut_at hs 5 4 (by kernel_rfl) (shut_at hs 6 5 (by kernel_rfl) (up_at hu 6 (by kernel_rfl)))))
              have y3 : L 3 = true := shut_at hs 4 3 (by kernel_rfl) (shut_at hs 5 4 (by kernel_rfl) (shut_at hs 6 5 (by kernel_rfl) (up_at hu 6 (by kernel_rfl))))
              have y4 : L 4 = true := shut_at hs 5 4 (by kernel_rfl) (shut_at hs 6 5 (by kernel_rfl) (up_at hu 6 (by kernel_rfl)))
              have y5 : L 5 = true := shut_at hs 6 5 (by kernel_rfl) (up_at hu 6 (by kernel_rfl))
              have y6 : L 6 = true := up_at hu 6 (by kernel_rfl)
              have n9 : L 9 = false := not_yet hL fun h => shut_at hs 9 7 (by kernel_rfl) (h)
              simp only [y0, y1, y2, y3, y4, y5, y6, n9, hL, cond_true, cond_false] at hph
              obtain ⟨v9, w9, hrun9, hown9, hg9, _⟩ := app_comp hph.1.o hph.2 (by have := hph.1.bel.size; omega) (by omega)
              obtain ⟨A9x, c9x, rfl, _, _, _⟩ := own_any hown9
              refine opIn_run (v := .slice A9x (j + 1) c9x) (w' := w9) rfl rfl (fun c h => by cases h) (fun _ => trivial) ?_ ⟨z, A9x, c9x, by simp [Act.put, upd, y0, y1, y2, y3, y4, y5, y6, n9, hL], by simp only [upd, y0, y1, y2, y3, y4, y5, y6, n9, hL]; exact hph.1.grown hg9 hown9⟩
              simp only [y0, y1, y2, y3, y4, y5, y6, n9, hL, cond_true, cond_false]
              go_simp
            · skip
              have y0 : L 0 = true := up_at hu 0 (by kernel_rfl)
              have y1 : L 1 = true := up_at hu 1 (by kernel_rfl)
              have y2 : L 2 = true := up_at hu 2 (by kernel_rfl)
              have y3 : L 3 = true := up_at hu 3 (by kernel_rfl)
              have y4 : L 4 = true := up_at hu 4 (by kernel_rfl)
              have y5 : L 5 = true := up_at hu 5 (by kernel_rfl)
              have y6 : L 6 = true := up_at hu 6 (by kernel_rfl)
              have y7 : L 7 = true := up_at hu 7 (by kernel_rfl)
              have n9 : L 9 = false := not_yet hL fun h => shut_at hs 9 8 (by kernel_rfl) (h)
              refine opIn_run (v := .pointer (some ⟨bm, 4, none⟩)) (w' := w') rfl rfl (fun c h => by cases h) (fun _ => trivial) ?_ ⟨z, A9, c9, by simp [Act.put, upd, y0, y1, y2, y3, y4, y5, y6, y7, n9, hL], by simpa [upd] using hph⟩
              simp only [y0, y1, y2, y3, y4, y5, y6, y7, n9, hL, cond_true, cond_false]
              go_simp
            · skip
              have y0 : L 0 = true := up_at hu 0 (by kernel_rfl)
              have y1 : L 1 = true := up_at hu 1 (by kernel_rfl)
              have y2 : L 2 = true := up_at hu 2 (by kernel_rfl)
              have y3 : L 3 = true := up_at hu 3 (by kernel_rfl)
              have y4 : L 4 = true := up_at hu 4 (by kernel_rfl)
              have y5 : L 5 = true := up_at hu 5 (by kernel_rfl)
              have y6 : L 6 = true := up_at hu 6 (by kernel_rfl)
              have y7 : L 7 = true := up_at hu 7 (by kernel_rfl)
              have y8 : L 8 = true := up_at hu 8 (by kernel_rfl)
              simp only [y0, y1, y2, y3, y4, y5, y6, y7, y8, hL, cond_true, cond_false] at hph
              obtain ⟨m0, m1, m2, m3, m4⟩ := img_cells hph.m
              have kf : w'.frozen? ⟨bm, 4, none⟩ = false := by simp [World.frozen?, hph.m]
              refine opIn_skip (w' := w'.setCell ⟨bm, 4, none⟩ (.slice A9 (j + 1) c9)) rfl rfl (fun c h => by cases h) (fun _ => trivial) ?_ ⟨z, A9, c9, by simp [Act.put, upd, y0, y1, y2, y3, y4, y5, y6, y7, y8, hL], by simp only [upd, y0, y1, y2, y3, y4, y5, y6, y7, y8, hL]; exact hph.setm⟩
              simp only [y0, y1, y2, y3, y4, y5, y6, y7, y8, hL, cond_true, cond_false]
              go_simp
          case finqa =>
            intro L a' w' hall hI
            obtain ⟨z, A9, c9, rfl, hph⟩ := hI
            have l0 := hall 0 (by decide)
            have l1 := hall 1 (by decide)
            have l2 := hall 2 (by decide)
            have l3 := hall 3 (by decide)
            have l4 := hall 4 (by decide)
            have l5 := hall 5 (by decide)
            have l6 := hall 6 (by decide)
            have l7 := hall 7 (by decide)
            have l8 := hall 8 (by decide)
            have l9 := hall 9 (by decide)
            simp only [l0, l1, l2, l3, l4, l5, l6, l7, l8, l9, cond_true] at hph ⊢
            clear l0 l1 l2 l3 l4 l5 l6 l7 l8 l9 hall
            have HG9 := Lib.hid hph
            clear hph
            obtain ⟨wf, hwf⟩ : ∃ wf : World, wf = w' := ⟨_, rfl⟩
            rw [← hwf] at HG9 ⊢
            clear hwf
            go_wp2
            go_roundg (gk - 1)
            case rel => exact ⟨j + 1, _, _, by omega, by omega, by omega, HG9⟩
            case measure => omega
        · obtain rfl : j = 4 := by omega
          obtain ⟨k0, k1, k2, k3, k4, k5, k6, k7, k8, k9, k10, k11⟩ := par_cells HG.out.p
          obtain ⟨hcomp, hc1, hc2⟩ := HG.out.comps (by omega)
          have CF := Lib.hid (frame_any (cC := c) 20 20 3 3 64 64 2 4 4 15 0 0 1 false false false hcomp ⟨by simpa using hc1, hc2⟩)
          rw [List.length_replicate] at CF
          have HB := Lib.hid HG.out.bel
          clear hcomp hc1 hc2
          go_wp2_with fail
          refine CF.out.mono ?_
          rintro e w2 ⟨rfl, hb⟩
          rw [show frameF 20 20 3 3 (List.replicate 4 ⟨8, false, 1, 1, none, 0, 0⟩) 64 64 2 4 4 15 0 0 1 false = 0 by decide]
          have HB2 := Lib.hid (HB.out.trans (hb.mono HB.out.size))
          clear hb CF g0 g1 g2 g3 g4 k0 k1 k2 k3 k4 k5 k6 k7 k8 k9 k10 k11
          go_wp2
          go_ret
          exact ⟨rfl, HB2.out⟩
  case true =>
    go_enter Try.func6, Try.ntmps6
    go_wp2_with fail
    refine (K.out _).mono ?_
    rintro e u0 ⟨rfl, hb⟩
    have HB0 := Lib.hid hb
    clear hb
    go_wp2_with fail
    refine (one_any 20 20 3 3 u0).mono ?_
    rintro e u1 ⟨cb, rfl, hcb, hcc, hb⟩
    have HB1 := Lib.hid (HB0.out.trans (hb.mono HB0.out.size))
    have HC1 := Lib.hid hcc
    have hcw : w.heap.size ≤ cb := Nat.le_trans HB0.out.size hcb
    have hcu : cb < u1.heap.size := (Array.getElem?_eq_some_iff.1 hcc).1
    clear hb hcc
    go_wp2_with fail
    obtain ⟨bm, hbm⟩ : ∃ bm, u1.heap.size = bm := ⟨_, rfl⟩
    obtain ⟨W6, hW6⟩ : ∃ W6, (u1.alloc (Obj.cells #[.int .i64 20, .int .i64 20, .int .i64 3, .int .i64 3, .slice (some ⟨cb, 0, none⟩) 1 1] 24)).alloc (Obj.cells #[.int .i64 64, .int .i64 64, .int .i64 2, .int .i64 4, .int .i64 4, .int .i64 15, .int .i64 0, .int .i64 0, .int .i64 1, .bool false, .bool false, .bool false] 26) = W6 := ⟨_, rfl⟩
    have q0 : W6.heap[bm]? = some (.cells #[.int .i64 20, .int .i64 20, .int .i64 3, .int .i64 3, .slice (some ⟨cb, 0, none⟩) 1 1] 24 (0, 0)) := by
      rw [← hW6, Below.heap_alloc _ _ _ (by simp; omega), ← hbm]; exact World.alloc_heap_new u1 _
    have q1 : W6.heap[bm + 1]? = some (.cells #[.int .i64 64, .int .i64 64, .int .i64 2, .int .i64 4, .int .i64 4, .int .i64 15, .int .i64 0, .int .i64 0, .int .i64 1, .bool false, .bool false, .bool false] 26 (0, 0)) := by
      rw [← hW6, show bm + 1 = (u1.alloc (Obj.cells #[.int .i64 20, .int .i64 20, .int .i64 3, .int .i64 3, .slice (some ⟨cb, 0, none⟩) 1 1] 24)).heap.size by simp; omega]; exact World.alloc_heap_new _ _
    have q2 : W6.heap[cb]? = some (.cells #[.int .i64 8, .bool false, .int .i64 1, .int .i64 1, .slice none 0 0] 39 (0, 0)) := by
      rw [← hW6, Below.heap_alloc _ _ _ (by simp; omega), Below.heap_alloc _ _ _ hcu]; exact HC1.out
    have hB6 : Below w.heap.size w W6 := by rw [← hW6]; exact (HB1.out.alloc HB1.out.size _).alloc (by have := HB1.out.size; simp; omega) _
    rw [hW6]
    rw [hbm]
    obtain ⟨bp, hbp⟩ : ∃ bp, bm + 1 = bp := ⟨_, rfl⟩
    rw [hbp] at q1 ⊢
    have hne : cb < bm ∧ bm < bp ∧ w.heap.size ≤ bm := by have := HB1.out.size; omega
    have HQ : Hid (W6.heap[cb]? = some (.cells #[.int .i64 8, .bool false, .int .i64 1, .int .i64 1, .slice none 0 0] 39 (0, 0)) ∧ Below w.heap.size w W6) := Lib.hid ⟨q2, hB6⟩
    obtain ⟨g0, g1, g2, g3, g4⟩ := img_cells q0
    obtain ⟨k0, k1, k2, k3, k4, k5, k6, k7, k8, k9, k10, k11⟩ := par_cells q1
    have c0 : W6.cell? ⟨cb, 0, none⟩ = some (.int .i64 8) := by simp [World.cell?, q2]
    have c1 : W6.cell? ⟨cb, 1, none⟩ = some (.bool false) := by simp [World.cell?, q2]
    have c2 : W6.cell? ⟨cb, 2, none⟩ = some (.int .i64 1) := by simp [World.cell?, q2]
    have c3 : W6.cell? ⟨cb, 3, none⟩ = some (.int .i64 1) := by simp [World.cell?, q2]
    have f0 : ∀ o, W6.frozen? ⟨bm, o, none⟩ = false := fun o => by simp [World.frozen?, q0]
    have f1 : ∀ o, W6.frozen? ⟨bp, o, none⟩ = false := fun o => by simp [World.frozen?, q1]
    have f2 : ∀ o, W6.frozen? ⟨cb, o, none⟩ = false := fun o => by simp [World.frozen?, q2]
    have HQ0 := Lib.hid (And.intro q0 q1)
    clear hW6 hbm hbp q0 q1 q2 hB6 hcu hcb
    refine (some12 a0 16 _ (by omega) (by omega)).mono ?_
    rintro e w' ⟨r, rfl, hr0, hr1, rfl⟩
    obtain rfl | rfl | rfl | rfl | rfl | rfl | rfl | rfl | rfl | rfl | rfl | rfl | rfl | rfl | rfl | rfl := (by omega : r = 0 ∨ r = 1 ∨ r = 2 ∨ r = 3 ∨ r = 4 ∨ r = 5 ∨ r = 6 ∨ r = 7 ∨ r = 8 ∨ r = 9 ∨ r = 10 ∨ r = 11 ∨ r = 12 ∨ r = 13 ∨ r = 14 ∨ r = 15)
    · skip
      go_wp2_with fail
      have hc' : (W6.setCell ⟨bm, 0, none⟩ (.int .i64 65)).heap[cb]? = some (.cells #[.int .i64 8, .bool false, .int .i64 1, .int .i64 1, .slice none 0 0] 39 (0, 0)) := (Below.heap_setCell _ _ _ _ (by simp; omega)).trans HQ.out.1
      have hI := comps_blk hc'
      have hB' : Below w.heap.size w (W6.setCell ⟨bm, 0, none⟩ (.int .i64 65)) := HQ.out.2.setCell (p := ⟨bm, 0, none⟩) (by show w.heap.size ≤ bm; omega) _
      have CF := Lib.hid (frame_any (cC := 1) 65 20 3 3 64 64 2 4 4 15 0 0 1 false false false hI (by unfold maxLen; simp))
      have HB := Lib.hid hB'
      clear hc' hI hB'
      refine CF.out.mono ?_
      rintro e w2 ⟨rfl, hb⟩
      rw [show frameF 65 20 3 3 [⟨8, false, 1, 1, none, 0, 0⟩] 64 64 2 4 4 15 0 0 1 false = 14 by decide]
      have HB2 := Lib.hid (HB.out.trans (hb.mono HB.out.size))
      clear hb CF
      go_wp2
      go_ret
      exact ⟨rfl, HB2.out⟩
    · skip
      go_wp2_with fail
      have hc' : (W6.setCell ⟨bm, 2, none⟩ (.int .i64 20)).heap[cb]? = some (.cells #[.int .i64 8, .bool false, .int .i64 1, .int .i64 1, .slice none 0 0] 39 (0, 0)) := (Below.heap_setCell _ _ _ _ (by simp; omega)).trans HQ.out.1
      have hI := comps_blk hc'
      have hB' : Below w.heap.size w (W6.setCell ⟨bm, 2, none⟩ (.int .i64 20)) := HQ.out.2.setCell (p := ⟨bm, 2, none⟩) (by show w.heap.size ≤ bm; omega) _
      have CF := Lib.hid (frame_any (cC := 1) 20 20 20 3 64 64 2 4 4 15 0 0 1 false false false hI (by unfold maxLen; simp))
      have HB := Lib.hid hB'
      clear hc' hI hB'
      refine CF.out.mono ?_
      rintro e w2 ⟨rfl, hb⟩
      rw [show frameF 20 20 20 3 [⟨8, false, 1, 1, none, 0, 0⟩] 64 64 2 4 4 15 0 0 1 false = 1 by decide]
      have HB2 := Lib.hid (HB.out.trans (hb.mono HB.out.size))
      clear hb CF
      go_wp2
      go_ret
      exact ⟨rfl, HB2.out⟩
    · skip
      go_wp2_with fail
      have hc' : (W6.setCell ⟨bm, 3, none⟩ (.int .i64 (-1))).heap[cb]? = some (.cells #[.int .i64 8, .bool false, .int .i64 1, .int .i64 1, .slice none 0 0] 39 (0, 0)) := (Below.heap_setCell _ _ _ _ (by simp; omega)).trans HQ.out.1
      have hI := comps_blk hc'
      have hB' : Below w.heap.size w (W6.setCell ⟨bm, 3, none⟩ (.int .i64 (-1))) := HQ.out.2.setCell (p := ⟨bm, 3, none⟩) (by show w.heap.size ≤ bm; omega) _
      have CF := Lib.hid (frame_any (cC := 1) 20 20 3 (-1) 64 64 2 4 4 15 0 0 1 false false false hI (by unfold maxLen; simp))
      have HB := Lib.hid hB'
      clear hc' hI hB'
      refine CF.out.mono ?_
      rintro e w2 ⟨rfl, hb⟩
      rw [show frameF 20 20 3 (-1) [⟨8, false, 1, 1, none, 0, 0⟩] 64 64 2 4 4 15 0 0 1 false = 1 by decide]
      have HB2 := Lib.hid (HB.out.trans (hb.mono HB.out.size))
      clear hb CF
      go_wp2
      go_ret
      exact ⟨rfl, HB2.out⟩
    · skip
      go_wp2_with fail
      have hc' : (W6.setCell ⟨cb, 0, none⟩ (.int .i64 17)).heap[cb]? = some (.cells #[.int .i64 17, .bool false, .int .i64 1, .int .i64 1, .slice none 0 0] 39 (0, 0)) := by rw [blkv_set HQ.out.1]; rfl
      have hI := comps_blk hc'
      have hB' : Below w.heap.size w (W6.setCell ⟨cb, 0, none⟩ (.int .i64 17)) := HQ.out.2.setCell (p := ⟨cb, 0, none⟩) (by show w.heap.size ≤ cb; omega) _
      have CF := Lib.hid (frame_any (cC := 1) 20 20 3 3 64 64 2 4 4 15 0 0 1 false false false hI (by unfold maxLen; simp))
      have HB := Lib.hid hB'
      clear hc' hI hB'
      refine CF.out.mono ?_
      rintro e w2 ⟨rfl, hb⟩
      rw [show frameF 20 20 3 3 [⟨17, false, 1, 1, none, 0, 0⟩] 64 64 2 4 4 15 0 0 1 false = 1 by decide]
      have HB2 := Lib.hid (HB.out.trans (hb.mono HB.out.size))
      clear hb CF
      go_wp2
      go_ret
      exact ⟨rfl, HB2.out⟩
    · skip
      go_wp2_with fail
      have hc' : (W6.setCell ⟨cb, 2, none⟩ (.int .i64 5)).heap[cb]? = some (.cells #[.int .i64 8, .bool false, .int .i64 5, .int .i64 1, .slice none 0 0] 39 (0, 0)) := by rw [blkv_set HQ.out.1]; rfl
      have hI := comps_blk hc'
      have hB' : Below w.heap.size w (W6.setCell ⟨cb, 2, none⟩ (.int .i64 5)) := HQ.out.2.setCell (p := ⟨cb, 2, none⟩) (by show w.heap.size ≤ cb; omega) _
      have CF := Lib.hid (frame_any (cC := 1) 20 20 3 3 64 64 2 4 4 15 0 0 1 false false false hI (by unfold maxLen; simp))
      have HB := Lib.hid hB'
      clear hc' hI hB'
      refine CF.out.mono ?_
      rintro e w2 ⟨rfl, hb⟩
      rw [show frameF 20 20 3 3 [⟨8, false, 5, 1, none, 0, 0⟩] 64 64 2 4 4 15 0 0 1 false = 1 by decide]
      have HB2 := Lib.hid (HB.out.trans (hb.mono HB.out.size))
      clear hb CF
      go_wp2
      go_ret
      exact ⟨rfl, HB2.out⟩
    · skip
      go_wp2_with fail
      have hc' : (W6.setCell ⟨cb, 3, none⟩ (.int .i64 0)).heap[cb]? = some (.cells #[.int .i64 8, .bool false, .int .i64 1, .int .i64 0, .slice none 0 0] 39 (0, 0)) := by rw [blkv_set HQ.out.1]; rfl
      have hI := comps_blk hc'
      have hB' : Below w.heap.size w (W6.setCell ⟨cb, 3, none⟩ (.int .i64 0)) := HQ.out.2.setCell (p := ⟨cb, 3, none⟩) (by show w.heap.size ≤ cb; omega) _
      have CF := Lib.hid (frame_any (cC := 1) 20 20 3 3 64 64 2 4 4 15 0 0 1 false false false hI (by unfold maxLen; simp))
      have HB := Lib.hid hB'
      clear hc' hI hB'
      refine CF.out.mono ?_
      rintro e w2 ⟨rfl, hb⟩
      rw [show frameF 20 20 3 3 [⟨8, false, 1, 0, none, 0, 0⟩] 64 64 2 4 4 15 0 0 1 false = 1 by decide]
      have HB2 := Lib.hid (HB.out.trans (hb.mono HB.out.size))
      clear hb CF
      go_wp2
      go_ret
      exact ⟨rfl, HB2.out⟩
    · skip
      go_wp2_with fail
      have hc' : (W6.setCell ⟨bp, 0, none⟩ (.int .i64 3)).heap[cb]? = some (.cells #[.int .i64 8, .bool false, .int .i64 1, .int .i64 1, .slice none 0 0] 39 (0, 0)) := (Below.heap_setCell _ _ _ _ (by simp; omega)).trans HQ.out.1
      have hI := comps_blk hc'
      have hB' : Below w.heap.size w (W6.setCell ⟨bp, 0, none⟩ (.int .i64 3)) := HQ.out.2.setCell (p := ⟨bp, 0, none⟩) (by show w.heap.size ≤ bp; omega) _
      have CF := Lib.hid (frame_any (cC := 1) 20 20 3 3 3 64 2 4 4 15 0 0 1 false false false hI (by unfold maxLen; simp))
      have HB := Lib.hid hB'
      clear hc' hI hB'
      refine CF.out.mono ?_
      rintro e w2 ⟨rfl, hb⟩
      rw [show frameF 20 20 3 3 [⟨8, false, 1, 1, none, 0, 0⟩] 3 64 2 4 4 15 0 0 1 false = 1 by decide]
      have HB2 := Lib.hid (HB.out.trans (hb.mono HB.out.size))
      clear hb CF
      go_wp2
      go_ret
      exact ⟨rfl, HB2.out⟩
    · skip
      go_wp2_with fail
      have hc' : (W6.setCell ⟨bp, 1, none⟩ (.int .i64 65537)).heap[cb]? = some (.cells #[.int .i64 8, .bool false, .int .i64 1, .int .i64 1, .slice none 0 0] 39 (0, 0)) := (Below.heap_setCell _ _ _ _ (by simp; omega)).trans HQ.out.1
      have hI := comps_blk hc'
      have hB' : Below w.heap.size w (W6.setCell ⟨bp, 1, none⟩ (.int .i64 65537)) := HQ.out.2.setCell (p := ⟨bp, 1, none⟩) (by show w.heap.size ≤ bp; omega) _
      have CF := Lib.hid (frame_any (cC := 1) 20 20 3 3 64 65537 2 4 4 15 0 0 1 false false false hI (by unfold maxLen; simp))
      have HB := Lib.hid hB'
      clear hc' hI hB'
      refine CF.out.mono ?_
      rintro e w2 ⟨rfl, hb⟩
      rw [show frameF 20 20 3 3 [⟨8, false, 1, 1, none, 0, 0⟩] 64 65537 2 4 4 15 0 0 1 false = 1 by decide]
      have HB2 := Lib.hid (HB.out.trans (hb.mono HB.out.size))
      clear hb CF
      go_wp2
      go_ret
      exact ⟨rfl, HB2.out⟩
    · skip
      go_wp2_with fail
      have hc' : (W6.setCell ⟨bp, 2, none⟩ (.int .i64 6)).heap[cb]? = some (.cells #[.int .i64 8, .bool false, .int .i64 1, .int .i64 1, .slice none 0 0] 39 (0, 0)) := (Below.heap_setCell _ _ _ _ (by simp; omega)).trans HQ.out.1
      have hI := comps_blk hc'
      have hB' : Below w.heap.size w (W6.setCell ⟨bp, 2, none⟩ (.int .i64 6)) := HQ.out.2.setCell (p := ⟨bp, 2, none⟩) (by show w.heap.size ≤ bp; omega) _
      have CF := Lib.hid (frame_any (cC := 1) 20 20 3 3 64 64 6 4 4 15 0 0 1 false false false hI (by unfold maxLen; simp))
      have HB := Lib.hid hB'
      clear hc' hI hB'
      refine CF.out.mono ?_
      rintro e w2 ⟨rfl, hb⟩
      rw [show frameF 20 20 3 3 [⟨8, false, 1, 1, none, 0, 0⟩] 64 64 6 4 4 15 0 0 1 false = 1 by decide]
      have HB2 := Lib.hid (HB.out.trans (hb.mono HB.out.size))
      clear hb CF
      go_wp2
      go_ret
      exact ⟨rfl, HB2.out⟩
    · skip
      go_wp2_with fail
      have hc' : (W6.setCell ⟨bp, 3, none⟩ (.int .i64 7)).heap[cb]? = some (.cells #[.int .i64 8, .bool false, .int .i64 1, .int .i64 1, .slice none 0 0] 39 (0, 0)) := (Below.heap_setCell _ _ _ _ (by simp; omega)).trans HQ.out.1
      have hI := comps_blk hc'
      have hB' : Below w.heap.size w (W6.setCell ⟨bp, 3, none⟩ (.int .i64 7)) := HQ.out.2.setCell (p := ⟨bp, 3, none⟩) (by show w.heap.size ≤ bp; omega) _
      have CF := Lib.hid (frame_any (cC := 1) 20 20 3 3 64 64 2 7 4 15 0 0 1 false false false hI (by unfold maxLen; simp))
      have HB := Lib.hid hB'
      clear hc' hI hB'
      refine CF.out.mono ?_
      rintro e w2 ⟨rfl, hb⟩
      rw [show frameF 20 20 3 3 [⟨8, false, 1, 1, none, 0, 0⟩] 64 64 2 7 4 15 0 0 1 false = 1 by decide]
      have HB2 := Lib.hid (HB.out.trans (hb.mono HB.out.size))
      clear hb CF
      go_wp2
      go_ret
      exact ⟨rfl, HB2.out⟩
    · skip
      go_wp2_with fail
      have hc' : (W6.setCell ⟨bp, 4, none⟩ (.int .i64 1)).heap[cb]? = some (.cells #[.int .i64 8, .bool false, .int .i64 1, .int .i64 1, .slice none 0 0] 39 (0, 0)) := (Below.heap_setCell _ _ _ _ (by simp; omega)).trans HQ.out.1
      have hI := comps_blk hc'
      have hB' : Below w.heap.size w (W6.setCell ⟨bp, 4, none⟩ (.int .i64 1)) := HQ.out.2.setCell (p := ⟨bp, 4, none⟩) (by show w.heap.size ≤ bp; omega) _
      have CF := Lib.hid (frame_any (cC := 1) 20 20 3 3 64 64 2 4 1 15 0 0 1 false false false hI (by unfold maxLen; simp))
      have HB := Lib.hid hB'
      clear hc' hI hB'
      refine CF.out.mono ?_
      rintro e w2 ⟨rfl, hb⟩
      rw [show frameF 20 20 3 3 [⟨8, false, 1, 1, none, 0, 0⟩] 64 64 2 4 1 15 0 0 1 false = 1 by decide]
      have HB2 := Lib.hid (HB.out.trans (hb.mono HB.out.size))
      clear hb CF
      go_wp2
      go_ret
      exact ⟨rfl, HB2.out⟩
    · skip
      go_wp2_with fail
      have hc' : (W6.setCell ⟨bp, 5, none⟩ (.int .i64 16)).heap[cb]? = some (.cells #[.int .i64 8, .bool false, .int .i64 1, .int .i64 1, .slice none 0 0] 39 (0, 0)) := (Below.heap_setCell _ _ _ _ (by simp; omega)).trans HQ.out.1
      have hI := comps_blk hc'
      have hB' : Below w.heap.size w (W6.setCell ⟨bp, 5, none⟩ (.int .i64 16)) := HQ.out.2.setCell (p := ⟨bp, 5, none⟩) (by show w.heap.size ≤ bp; omega) _
      have CF := Lib.hid (frame_any (cC := 1) 20 20 3 3 64 64 2 4 4 16 0 0 1 false false false hI (by unfold maxLen; simp))
      have HB := Lib.hid hB'
      clear hc' hI hB'
      refine CF.out.mono ?_
      rintro e w2 ⟨rfl, hb⟩
      rw [show frameF 20 20 3 3 [⟨8, false, 1, 1, none, 0, 0⟩] 64 64 2 4 4 16 0 0 1 false = 1 by decide]
      have HB2 := Lib.hid (HB.out.trans (hb.mono HB.out.size))
      clear hb CF
      go_wp2
      go_ret
      exact ⟨rfl, HB2.out⟩
    · skip
      go_wp2_with fail
      have hc' : (W6.setCell ⟨bp, 6, none⟩ (.int .i64 64)).heap[cb]? = some (.cells #[.int .i64 8, .bool false, .int .i64 1, .int .i64 1, .slice none 0 0] 39 (0, 0)) := (Below.heap_setCell _ _ _ _ (by simp; omega)).trans HQ.out.1
      have hI := comps_blk hc'
      have hB' : Below w.heap.size w (W6.setCell ⟨bp, 6, none⟩ (.int .i64 64)) := HQ.out.2.setCell (p := ⟨bp, 6, none⟩) (by show w.heap.size ≤ bp; omega) _
      have CF := Lib.hid (frame_any (cC := 1) 20 20 3 3 64 64 2 4 4 15 64 0 1 false false false hI (by unfold maxLen; simp))
      have HB := Lib.hid hB'
      clear hc' hI hB'
      refine CF.out.mono ?_
      rintro e w2 ⟨rfl, hb⟩
      rw [show frameF 20 20 3 3 [⟨8, false, 1, 1, none, 0, 0⟩] 64 64 2 4 4 15 64 0 1 false = 1 by decide]
      have HB2 := Lib.hid (HB.out.trans (hb.mono HB.out.size))
      clear hb CF
      go_wp2
      go_ret
      exact ⟨rfl, HB2.out⟩
    · skip
      go_wp2_with fail
      have hc' : (W6.setCell ⟨bp, 7, none⟩ (.int .i64 5)).heap[cb]? = some (.cells #[.int .i64 8, .bool false, .int .i64 1, .int .i64 1, .slice none 0 0] 39 (0, 0)) := (Below.heap_setCell _ _ _ _ (by simp; omega)).trans HQ.out.1
      have hI := comps_blk hc'
      have hB' : Below w.heap.size w (W6.setCell ⟨bp, 7, none⟩ (.int .i64 5)) := HQ.out.2.setCell (p := ⟨bp, 7, none⟩) (by show w.heap.size ≤ bp; omega) _
      have CF := Lib.hid (frame_any (cC := 1) 20 20 3 3 64 64 2 4 4 15 0 5 1 false false false hI (by unfold maxLen; simp))
      have HB := Lib.hid hB'
      clear hc' hI hB'
      refine CF.out.mono ?_
      rintro e w2 ⟨rfl, hb⟩
      rw [show frameF 20 20 3 3 [⟨8, false, 1, 1, none, 0, 0⟩] 64 64 2 4 4 15 0 5 1 false = 1 by decide]
      have HB2 := Lib.hid (HB.out.trans (hb.mono HB.out.size))
      clear hb CF
      go_wp2
      go_ret
      exact ⟨rfl, HB2.out⟩
    · skip
      go_wp2_with fail
      have hc' : (W6.setCell ⟨bp, 8, none⟩ (.int .i64 9)).heap[cb]? = some (.cells #[.int .i64 8, .bool false, .int .i64 1, .int .i64 1, .slice none 0 0] 39 (0, 0)) := (Below.heap_setCell _ _ _ _ (by simp; omega)).trans HQ.out.1
      have hI := comps_blk hc'
      have hB' : Below w.heap.size w (W6.setCell ⟨bp, 8, none⟩ (.int .i64 9)) := HQ.out.2.setCell (p := ⟨bp, 8, none⟩) (by show w.heap.size ≤ bp; omega) _
      have CF := Lib.hid (frame_any (cC := 1) 20 20 3 3 64 64 2 4 4 15 0 0 9 false false false hI (by unfold maxLen; simp))
      have HB := Lib.hid hB'
      clear hc' hI hB'
      refine CF.out.mono ?_
      rintro e w2 ⟨rfl, hb⟩
      rw [show frameF 20 20 3 3 [⟨8, false, 1, 1, none, 0, 0⟩] 64 64 2 4 4 15 0 0 9 false = 1 by decide]
      have HB2 := Lib.hid (HB.out.trans (hb.mono HB.out.size))
      clear hb CF
      go_wp2
      go_ret
      exact ⟨rfl, HB2.out⟩
    · skip
      go_wp2_with fail
      have G0 : Hid (GS w.heap.size w W6 bm bp 20 20 3 3 #[.int .i64 64, .int .i64 64, .int .i64 2, .int .i64 4, .int .i64 4, .int .i64 15, .int .i64 0, .int .i64 0, .int .i64 1, .bool false, .bool false, .bool false] (.slice (some ⟨cb, 0, none⟩) 1 1) (.slice (some ⟨cb, 0, none⟩) 1 1) 1) := Lib.hid ⟨HQ0.out.1, HQ0.out.2, own_plain HQ.out.1 hcw, HQ.out.2, ⟨hne.2.2, by omega, by omega⟩⟩
      clear g0 g1 g2 g3 g4 k0 k1 k2 k3 k4 k5 k6 k7 k8 k9 k10 k11 c0 c1 c2 c3 f0 f1 f2
      go_loopg [105] 5 (fun g v wr => ∃ (j : Nat) (A : Option Addr) (c : Nat), 1 ≤ j ∧ j ≤ 5 ∧ j + g = 6 ∧ Hid (GS w.heap.size w wr bm bp 20 20 3 3 #[.int .i64 64, .int .i64 64, .int .i64 2, .int .i64 4, .int .i64 4, .int .i64 15, .int .i64 0, .int .i64 0, .int .i64 1, .bool false, .bool false, .bool false] (.slice A j c) (.slice A j c) j))
      case atStart => exact ⟨1, _, _, by omega, by omega, by omega, G0⟩
      case round =>
        obtain ⟨j, A, c, hj1, hj2, hjg, HG⟩ := hrel
        clear G0 HQ HQ0
        obtain ⟨gb, cc, hv, hgb, hgl, hcc1, hcc2⟩ := own_form HG.out.o (by omega)
        cases hv
        have hcm : c ≤ 9223372036854775807 := by unfold maxLen at hcc2; omega
        obtain ⟨g0, g1, g2, g3, g4⟩ := img_cells HG.out.m
        by_cases hlt : j < 5
        · have hlt' : (j : Int) < 5 := by omega
          go_wp2_with fail
          clear g0 g1 g2 g3 g4
          refine (wpIn_wide (n := 9)).1 (regionIn_inv (w := wr) (Inv := fun L a' w' => ∃ (z : Nat) (A9 : Option Addr) (c9 : Nat), a' = { tmps := #[.int .i64 a0, .bool true, undef, undef, .bool false, .int .i64 1, .pointer (some ⟨bm, 0, none⟩), .pointer (some ⟨bp, 0, none⟩), .int .i64 1, undef, .bool true, .bool false, .bool true, .tuple #[.agg #[.int .i64 20, .int .i64 20, .int .i64 3, .int .i64 3, .slice (some ⟨cb, 0, none⟩) 1 1], .agg #[.int .i64 64, .int .i64 64, .int .i64 2, .int .i64 4, .int .i64 4, .int .i64 15, .int .i64 0, .int .i64 0, .int .i64 1, .bool false, .bool false, .bool false]], .tuple #[.agg #[.int .i64 20, .int .i64 20, .int .i64 3, .int .i64 3, .slice (some ⟨cb, 0, none⟩) 1 1], .agg #[.int .i64 64, .int .i64 64, .int .i64 2, .int .i64 4, .int .i64 4, .int .i64 15, .int .i64 0, .int .i64 0, .int .i64 1, .bool false, .bool false, .bool false]], .agg #[.int .i64 20, .int .i64 20, .int .i64 3, .int .i64 3, .slice (some ⟨cb, 0, none⟩) 1 1], .agg #[.int .i64 64, .int .i64 64, .int .i64 2, .int .i64 4, .int .i64 4, .int .i64 15, .int .i64 0, .int .i64 0, .int .i64 1, .bool false, .bool false, .bool false], .int .i64 a0, .int .i64 15, .bool false, .bool false, undef, undef, undef, .bool false, .bool false, undef, undef, undef, .bool false, .bool false, undef, undef, undef, .bool false, .bool false, undef, undef, undef, undef, undef, undef, .bool false, .bool false, undef, undef, undef, undef, undef, undef, .bool false, .bool false, undef, undef, undef, undef, undef, undef, .bool false, .bool false, undef, undef, undef, .bool false, .bool false, undef, undef, undef, .bool false, .bool false, undef, undef, undef, .bool false, .bool false, undef, undef, undef, .bool false, .bool false, undef, undef, undef, .bool false, .bool false, undef, undef, undef, .bool false, .bool false, undef, undef, undef, .bool false, .bool false, undef, undef, undef, .bool false, .bool false, undef, undef, undef, .bool true, .bool true, .pointer (some ⟨bm, 4, none⟩), .slice (some ⟨gb, 0, none⟩) j c, .int .i64 (j : Int), .int .i64 1, .int .i64 5, .bool true, bif L 0 then .pointer (some ⟨bm, 4, none⟩) else u111, bif L 1 then .slice (some ⟨gb, 0, none⟩) j c else u112, bif L 2 then .pointer (some ⟨bm, 4, none⟩) else u113, bif L 3 then .slice (some ⟨gb, 0, none⟩) j c else u114, bif L 4 then .pointer (some ⟨gb, 0, none⟩) else u115, bif L 5 then .agg #[.int .i64 8, .bool false, .int .i64 1, .int .i64 1, .slice none 0 0] else u116, bif L 6 then .slice (some ⟨z, 0, none⟩) 1 1 else u117, bif L 7 then .slice A9 (j + 1) c9 else u118, bif L 8 then .pointer (some ⟨bm, 4, none⟩) else u119, undef, undef, undef, undef, undef, undef, undef, undef, undef, undef, undef, undef, undef, undef, undef, undef, undef], defers := [] } ∧ (bif L 9 then ((GS w.heap.size w w' bm bp 20 20 3 3 #[.int .i64 64, .int .i64 64, .int .i64 2, .int .i64 4, .int .i64 4, .int .i64 15, .int .i64 0, .int .i64 0, .int .i64 1, .bool false, .bool false, .bool false] (.slice A9 (j + 1) c9) (.slice A9 (j + 1) c9) (j + 1))) else (bif L 7 then ((GS w.heap.size w w' bm bp 20 20 3 3 #[.int .i64 64, .int .i64 64, .int .i64 2, .int .i64 4, .int .i64 4, .int .i64 15, .int .i64 0, .int .i64 0, .int .i64 1, .bool false, .bool false, .bool false] (.slice (some ⟨gb, 0, none⟩) j c) (.slice A9 (j + 1) c9) (j + 1))) else (bif L 6 then ((GS w.heap.size w w' bm bp 20 20 3 3 #[.int .i64 64, .int .i64 64, .int .i64 2, .int .i64 4, .int .i64 4, .int .i64 15, .int .i64 0, .int .i64 0, .int .i64 1, .bool false, .bool false, .bool false] (.slice (some ⟨gb, 0, none⟩) j c) (.slice (some ⟨gb, 0, none⟩) j c) j ∧ w'.heap[z]? = some (.cells #[.int .i64 8, .bool false, .int .i64 1, .int .i64 1, .slice none 0 0] 39 (0, 0)))) else (GS w.heap.size w w' bm bp 20 20 3 3 #[.int .i64 64, .int .i64 64, .int .i64 2, .int .i64 4, .int .i64 4, .int .i64 15, .int .i64 0, .int .i64 0, .int .i64 1, .bool false, .bool false, .bool false] (.slice (some ⟨gb, 0, none⟩) j c) (.slice (some ⟨gb, 0, none⟩) j c) j))))) (by kernel_rfl) (by kernel_rfl) ?startqb ?stepqb ?finqb)
          case startqb => exact ⟨0, none, 0, rfl, HG.out.below (below_drewN (Below.refl _ _) 1)⟩
          case stepqb =>
            intro i hi L a' w' hI hs hu
            obtain ⟨z, A9, c9, rfl, hph⟩ := hI
            have hL := hu.1
            have hi : i < 10 := hi
            obtain rfl | rfl | rfl | rfl | rfl | rfl | rfl | rfl | rfl | rfl := (by omega : i = 0 ∨ i = 1 ∨ i = 2 ∨ i = 3 ∨ i = 4 ∨ i = 5 ∨ i = 6 ∨ i = 7 ∨ i = 8 ∨ i = 9)
            · skip
              have n7 : L 7 = false := not_yet hL fun h => shut_at hs 1 0 (by kernel_rfl) (shut_at hs 7 1 (by kernel_rfl) (h))
              have n9 : L 9 = false := not_yet hL fun h => shut_at hs 9 0 (by kernel_rfl) (h)
              refine opIn_run (v := .pointer (some ⟨bm, 4, none⟩)) (w' := w') rfl rfl (fun c h => by cases h) (fun _ => trivial) ?_ ⟨z, A9, c9, by simp [Act.put, upd, n7, n9, hL], by simpa [upd] using hph⟩
              simp only [n7, n9, hL, cond_true, cond_false]
              go_simp
            · skip
              have y0 : L 0 = true := up_at hu 0 (by kernel_rfl)
              have n7 : L 7 = false := not_yet hL fun h => shut_at hs 7 1 (by kernel_rfl) (h)
              have n9 : L 9 = false := not_yet hL fun h => shut_at hs 9 1 (by kernel_rfl) (h)
              simp only [y0, n7, n9, hL, cond_true, cond_false] at hph
              have hb1 : GS w.heap.size w w' bm bp 20 20 3 3 #[.int .i64 64, .int .i64 64, .int .i64 2, .int .i64 4, .int .i64 4, .int .i64 15, .int .i64 0, .int .i64 0, .int .i64 1, .bool false, .bool false, .bool false] (.slice (some ⟨gb, 0, none⟩) j c) (.slice (some ⟨gb, 0, none⟩) j c) j := by cases h6 : L 6 <;> simp only [h6, cond_true, cond_false] at hph <;> first | exact hph | exact hph.1
              obtain ⟨m0, m1, m2, m3, m4⟩ := img_cells hb1.m
              refine opIn_run (v := .slice (some ⟨gb, 0, none⟩) j c) (w' := w') rfl rfl (fun c h => by cases h) (fun _ => trivial) ?_ ⟨z, A9, c9, by simp [Act.put, upd, y0, n7, n9, hL], by simp only [upd, y0, n7, n9, hL]; exact hph⟩
              simp only [y0, n7, n9, hL, cond_true, cond_false]
              go_simp
            · skip
              have n6 : L 6 = false := not_yet hL fun h => shut_at hs 3 2 (by kernel_rfl) (shut_at hs 4 3 (by kernel_rfl) (shut_at hs 5 4 (by kernel_rfl) (shut_at hs 6 5 (by kernel_rfl) (h))))
              have n7 : L 7 = false := not_yet hL fun h => shut_at hs 3 2 (by kernel_rfl) (shut_at hs 4 3 (by kernel_rfl) (shut_at hs 5 4 (by kernel_rfl) (shut_at hs 6 5 (by kernel_rfl) (shut_at hs 7 6 (by kernel_rfl) (h)))))
              have n9 : L 9 = false := not_yet hL fun h => shut_at hs 9 2 (by kernel_rfl) (h)
              refine opIn_run (v := .pointer (some ⟨bm, 4, none⟩)) (w' := w') rfl rfl (fun c h => by cases h) (fun _ => trivial) ?_ ⟨z, A9, c9, by simp [Act.put, upd, n6, n7, n9, hL], by simpa [upd] using hph⟩
              simp only [n6, n7, n9, hL, cond_true, cond_false]
              go_simp
            · skip
              have y2 : L 2 = true := up_at hu 2 (by kernel_rfl)
              have n6 : L 6 = false := not_yet hL fun h => shut_at hs 4 3 (by kernel_rfl) (shut_at hs 5 4 (by kernel_rfl) (shut_at hs 6 5 (by kernel_rfl) (h)))
              have n7 : L 7 = false := not_yet hL fun h => shut_at hs 4 3 (by kernel_rfl) (shut_at hs 5 4 (by kernel_rfl) (shut_at hs 6 5 (by kernel_rfl) (shut_at hs 7 6 (by kernel_rfl) (h))))
              have n9 : L 9 = false := not_yet hL fun h => shut_at hs 9 3 (by kernel_rfl) (h)
              simp only [y2, n6, n7, n9, hL, cond_true, cond_false] at hph
              obtain ⟨m0, m1, m2, m3, m4⟩ := img_cells hph.m
              refine opIn_run (v := .slice (some ⟨gb, 0, none⟩) j c) (w' := w') rfl rfl (fun c h => by cases h) (fun _ => trivial) ?_ ⟨z, A9, c9, by simp [Act.put, upd, y2, n6, n7, n9, hL], by simp only [upd, y2, n6, n7, n9, hL]; exact hph⟩
              simp only [y2, n6, n7, n9, hL, cond_true, cond_false]
              go_simp
            · skip
              have y2 : L 2 = true := shut_at hs 3 2 (by kernel_rfl) (up_at hu 3 (by kernel_rfl))
              have y3 : L 3 = true := up_at hu 3 (by kernel_rfl)
              have n6 : L 6 = false := not_yet hL fun h => shut_at hs 5 4 (by kernel_rfl) (shut_at hs 6 5 (by kernel_rfl) (h))
              have n7 : L 7 = false := not_yet hL fun h => shut_at hs 5 4 (by kernel_rfl) (shut_at hs 6 5 (by kernel_rfl) (shut_at hs 7 6 (by kernel_rfl) (h)))
              have n9 : L 9 = false := not_yet hL fun h => shut_at hs 9 4 (by kernel_rfl) (h)
              simp only [y2, y3, n6, n7, n9, hL, cond_true, cond_false] at hph
              have hj0 : (0 : Int) < (j : Int) := by omega
              have hj00 : 0 < j := by omega
              have hjn : ¬ j = 0 := by omega
              refine opIn_run (v := .pointer (some ⟨gb, 0, none⟩)) (w' := w') rfl rfl (fun c h => by cases h) (fun _ => trivial) ?_ ⟨z, A9, c9, by simp [Act.put, upd, y2, y3, n6, n7, n9, hL], by simp only [upd, y2, y3, n6, n7, n9, hL]; exact hph⟩
              simp only [y2, y3, n6, n7, n9, hL, cond_true, cond_false]
              go_simp
            · skip
              have y2 : L 2 = true := shut_at hs 3 2 (by kernel_rfl) (shut_at hs 4 3 (by kernel_rfl) (up_at hu 4 (by kernel_rfl)))
              have y3 : L 3 = true := shut_at hs 4 3 (by kernel_rfl) (up_at hu 4 (by kernel_rfl))
              have y4 : L 4 = true := up_at hu 4 (by kernel_rfl)
              have n6 : L 6 = false := not_yet hL fun h => shut_at hs 6 5 (by kernel_rfl) (h)
              have n7 : L 7 = false := not_yet hL fun h => shut_at hs 6 5 (by kernel_rfl) (shut_at hs 7 6 (by kernel_rfl) (h))
              have n9 : L 9 = false := not_yet hL fun h => shut_at hs 9 5 (by kernel_rfl) (h)
              simp only [y2, y3, y4, n6, n7, n9, hL, cond_true, cond_false] at hph
              obtain ⟨p0, p1, p2, p3, p4⟩ := hph.first (by omega)
              refine opIn_run (v := .agg #[.int .i64 8, .bool false, .int .i64 1, .int .i64 1, .slice none 0 0]) (w' := w') rfl rfl (fun c h => by cases h) (fun _ => trivial) ?_ ⟨z, A9, c9, by simp [Act.put, upd, y2, y3, y4, n6, n7, n9, hL], by simp only [upd, y2, y3, y4, n6, n7, n9, hL]; exact hph⟩
              simp only [y2, y3, y4, n6, n7, n9, hL, cond_true, cond_false]
              go_simp
            · skip
              have y2 : L 2 = true := shut_at hs 3 2 (by kernel_rfl) (shut_at hs 4 3 (by kernel_rfl) (shut_at hs 5 4 (by kernel_rfl) (up_at hu 5 (by kernel_rfl))))
              have y3 : L 3 = true := shut_at hs 4 3 (by kernel_rfl) (shut_at hs 5 4 (by kernel_rfl) (up_at hu 5 (by kernel_rfl)))
              have y4 : L 4 = true := shut_at hs 5 4 (by kernel_rfl) (up_at hu 5 (by kernel_rfl))
              have y5 : L 5 = true := up_at hu 5 (by kernel_rfl)
              have n7 : L 7 = false := not_yet hL fun h => shut_at hs 7 6 (by kernel_rfl) (h)
              have n9 : L 9 = false := not_yet hL fun h => shut_at hs 9 6 (by kernel_rfl) (h)
              simp only [y2, y3, y4, y5, n7, n9, hL, cond_true, cond_false] at hph
              refine opIn_run (v := .slice (some ⟨w'.heap.size, 0, none⟩) 1 1) (w' := w'.alloc (Obj.cells #[.int .i64 8, .bool false, .int .i64 1, .int .i64 1, .slice none 0 0] 39)) rfl rfl (fun c h => by cases h) (fun _ => trivial) ?_ ⟨w'.heap.size, A9, c9, by simp [Act.put, upd, y2, y3, y4, y5, n7, n9, hL], by simp only [upd, y2, y3, y4, y5, n7, n9, hL]; exact ⟨hph.below ((Below.refl _ _).alloc (Nat.le_refl _) _), World.alloc_heap_new w' _⟩⟩
              simp only [y2, y3, y4, y5, n7, n9, hL, cond_true, cond_false]
              go_simp
            · skip
              have y0 : L 0 = true := shut_at hs 1 0 (by kernel_rfl) (up_at hu 1 (by kernel_rfl))
              have y1 : L 1 = true := up_at hu 1 (by kernel_rfl)
              have y2 : L 2 = true := shut_at hs 3 2 (by kernel_rfl) (shut_at hs 4 3 (by kernel_rfl) (shut_at hs 5 4 (by kernel_rfl) (shut_at hs 6 5 (by kernel_rfl) (up_at hu 6 (by kernel_rfl)))))
              have y3 : L 3 = true := shut_at hs 4 3 (by kernel_rfl) (shut_at hs 5 4 (by kernel_rfl) (shut_at hs 6 5 (by kernel_rfl) (up_at hu 6 (by kernel_rfl))))
              have y4 : L 4 = true := shut_at hs 5 4 (by kernel_rfl) (shut_at hs 6 5 (by kernel_rfl) (up_at hu 6 (by kernel_rfl)))
              have y5 : L 5 = true := shut_at hs 6 5 (by kernel_rfl) (up_at hu 6 (by kernel_rfl))
              have y6 : L 6 = true := up_at hu 6 (by kernel_rfl)
              have n9 : L 9 = false := not_yet hL fun h => shut_at hs 9 7 (by kernel_rfl) (h)
              simp only [y0, y1, y2, y3, y4, y5, y6, n9, hL, cond_true, cond_false] at hph
              obtain ⟨v9, w9, hrun9, hown9, hg9, _⟩ := app_comp hph.1.o hph.2 (by have := hph.1.bel.size; omega) (by omega)
              obtain ⟨A9x, c9x, rfl, _, _, _⟩ := own_any hown9
              refine opIn_run (v := .slice A9x (j + 1) c9x) (w' := w9) rfl rfl (fun c h => by cases h) (fun _ => trivial) ?_ ⟨z, A9x, c9x, by simp [Act.put, upd, y0, y1, y2, y3, y4, y5, y6, n9, hL], by simp only [upd, y0, y1, y2, y3, y4, y5, y6, n9, hL]; exact hph.1.grown hg9 hown9⟩
              simp only [y0, y1, y2, y3, y4, y5, y6, n9, hL, cond_true, cond_false]
              go_simp
            · skip
              have y0 : L 0 = true := up_at hu 0 (by kernel_rfl)
              have y1 : L 1 = true := up_at hu 1 (by kernel_rfl)
              have y2 : L 2 = true := up_at hu 2 (by kernel_rfl)
              have y3 : L 3 = true := up_at hu 3 (by kernel_rfl)
              have y4 : L 4 = true := up_at hu 4 (by kernel_rfl)
              have y5 : L 5 = true := up_at hu 5 (by kernel_rfl)
              have y6 : L 6 = true := up_at hu 6 (by kernel_rfl)
              have y7 : L 7 = true := up_at hu 7 (by kernel_rfl)
              have n9 : L 9 = false := not_yet hL fun h => shut_at hs 9 8 (by kernel_rfl) (h)
              refine opIn_run (v := .pointer (some ⟨bm, 4, none⟩)) (w' := w') rfl rfl (fun c h => by cases h) (fun _ => trivial) ?_ ⟨z, A9, c9, by simp [Act.put, upd, y0, y1, y2, y3, y4, y5, y6, y7, n9, hL], by simpa [upd] using hph⟩
              simp only [y0, y1, y2, y3, y4, y5, y6, y7, n9, hL, cond_true, cond_false]
              go_simp
            · skip
              have y0 : L 0 = true := up_at hu 0 (by kernel_rfl)
              have y1 : L 1 = true := up_at hu 1 (by kernel_rfl)
              have y2 : L 2 = true := up_at hu 2 (by kernel_rfl)
              have y3 : L 3 = true := up_at hu 3 (by kernel_rfl)
              have y4 : L 4 = true := up_at hu 4 (by kernel_rfl)
              have y5 : L 5 = true := up_at hu 5 (by kernel_rfl)
              have y6 : L 6 = true := up_at hu 6 (by kernel_rfl)
              have y7 : L 7 = true := up_at hu 7 (by kernel_rfl)
              have y8 : L 8 = true := up_at hu 8 (by kernel_rfl)
              simp only [y0, y1, y2, y3, y4, y5, y6, y7, y8, hL, cond_true, cond_false] at hph
              obtain ⟨m0, m1, m2, m3, m4⟩ := img_cells hph.m
              have kf : w'.frozen? ⟨bm, 4, none⟩ = false := by simp [World.frozen?, hph.m]
              refine opIn_skip (w' := w'.setCell ⟨bm, 4, none⟩ (.slice A9 (j + 1) c9)) rfl rfl (fun c h => by cases h) (fun _ => trivial) ?_ ⟨z, A9, c9, by simp [Act.put, upd, y0, y1, y2, y3, y4, y5, y6, y7, y8, hL], by simp only [upd, y0, y1, y2, y3, y4, y5, y6, y7, y8, hL]; exact hph.setm⟩
              simp only [y0, y1, y2, y3, y4, y5, y6, y7, y8, hL, cond_true, cond_false]
              go_simp
          case finqb =>
            intro L a' w' hall hI
            obtain ⟨z, A9, c9, rfl, hph⟩ := hI
            have l0 := hall 0 (by decide)
            have l1 := hall 1 (by decide)
            have l2 := hall 2 (by decide)
            have l3 := hall 3 (by decide)
            have l4 := hall 4 (by decide)
            have l5 := hall 5 (by decide)
            have l6 := hall 6 (by decide)
            have l7 := hall 7 (by decide)
            have l8 := hall 8 (by decide)
            have l9 := hall 9 (by decide)
            simp only [l0, l1, l2, l3, l4, l5, l6, l7, l8, l9, cond_true] at hph ⊢
            clear l0 l1 l2 l3 l4 l5 l6 l7 l8 l9 hall
            have HG9 := Lib.hid hph
            clear hph
            obtain ⟨wf, hwf⟩ : ∃ wf : World, wf = w' := ⟨_, rfl⟩
            rw [← hwf] at HG9 ⊢
            clear hwf
            go_wp2
            go_roundg (gk - 1)
            case rel => exact ⟨j + 1, _, _, by omega, by omega, by omega, HG9⟩
            case measure => omega
        · obtain rfl : j = 5 := by omega
          obtain ⟨k0, k1, k2, k3, k4, k5, k6, k7, k8, k9, k10, k11⟩ := par_cells HG.out.p
          obtain ⟨hcomp, hc1, hc2⟩ := HG.out.comps (by omega)
          have CF := Lib.hid (frame_any (cC := c) 20 20 3 3 64 64 2 4 4 15 0 0 1 false false false hcomp ⟨by simpa using hc1, hc2⟩)
          rw [List.length_replicate] at CF
          have HB := Lib.hid HG.out.bel
          clear hcomp hc1 hc2
          go_wp2_with fail
          refine CF.out.mono ?_
          rintro e w2 ⟨rfl, hb⟩
          rw [show frameF 20 20 3 3 (List.replicate 5 ⟨8, false, 1, 1, none, 0, 0⟩) 64 64 2 4 4 15 0 0 1 false = 4 by decide]
          have HB2 := Lib.hid (HB.out.trans (hb.mono HB.out.size))
          clear hb CF g0 g1 g2 g3 g4 k0 k1 k2 k3 k4 k5 k6 k7 k8 k9 k10 k11
          go_wp2
          go_ret
          exact ⟨rfl, HB2.out⟩
end Go.Proofs.Ythcpmonahmogaaa
