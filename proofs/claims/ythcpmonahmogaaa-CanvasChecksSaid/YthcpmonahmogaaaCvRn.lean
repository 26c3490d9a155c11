/- canvas: the document's numbers and Frame. -/
import Derived.Test.YthcpmonahmogaaaCvF
import Derived.Test.YthcpmonahmogaaaCvM0
import Derived.Laws.Rows
import Derived.Deep.LoopGhost
import Derived.StillTailTactics
set_option linter.unusedVariables false
set_option linter.unusedSimpArgs false
namespace Go.Proofs.Ythcpmonahmogaaa
open Go.RowKit
set_option maxRecDepth 100000
theorem rb_cell {w : World} {p : Nat} {cs : Array Value} {t : TypeId} (h : w.heap[p]? = some (.cells cs t (0, 0))) (i : Nat) : w.cell? ⟨p, i, none⟩ = cs[i]? := cell_of_row w p i cs t (0, 0) h
theorem allocs2 : ∀ (os : List Obj) (w : World), (os.foldl World.alloc w).heap.size = w.heap.size + os.length ∧ Below w.heap.size w (os.foldl World.alloc w) ∧ ∀ i o, os[i]? = some o → (os.foldl World.alloc w).heap[w.heap.size + i]? = some o
  | [], w => ⟨rfl, Below.refl _ _, fun i o h => by simp at h⟩
  | x :: os, w => by
    obtain ⟨h1, h2, h3⟩ := allocs2 os (w.alloc x)
    have hz : (w.alloc x).heap.size = w.heap.size + 1 := by unfold World.alloc; simp
    have hb : Below w.heap.size w (w.alloc x) := (Below.refl _ _).alloc (Nat.le_refl _) _
    refine ⟨by rw [List.foldl_cons, h1, hz, List.length_cons]; omega, hb.trans (h2.mono hb.size), fun i o h => ?_⟩
    rw [List.foldl_cons]
    cases i with
    | zero =>
      have hx : x = o := by simpa using h
      subst hx
      have h4 := h2.block w.heap.size (by rw [hz]; omega)
      rw [Nat.add_zero, h4]
      unfold World.alloc
      simp
    | succ i =>
      have h4 := h3 i o (by simpa using h)
      rw [hz] at h4
      rw [show w.heap.size + (i + 1) = w.heap.size + 1 + i by omega]
      exact h4
def numF (x y ox oy : Int) (cs : List Cp) (tx ty lv bw bh pr st od ly : Int) (rct : Bool) : Int :=
  if tilesF x y ox oy tx ty ≠ 0 then tilesF x y ox oy tx ty else if codingF lv bw bh pr st od ly ≠ 0 then codingF lv bw bh pr st od ly else if rct = true ∧ alikeF cs = false then 3 else 0
theorem cod_one {lv bw bh pr st od ly : Int} (h : lv < 0 ∨ 5 < lv ∨ bw < 2 ∨ 6 < bw ∨ bh < 2 ∨ 6 < bh ∨ pr < 1 ∨ 15 < pr ∨ st < 0 ∨ 63 < st ∨ od < 0 ∨ 4 < od ∨ ly < 1 ∨ 8 < ly) : codingF lv bw bh pr st od ly = 1 := by
  unfold codingF cutsB inB
  rw [if_neg]
  simp
  omega
theorem cod_zero {lv bw bh pr st od ly : Int} (h : ¬ lv < 0 ∧ ¬ 5 < lv ∧ ¬ bw < 2 ∧ ¬ 6 < bw ∧ ¬ bh < 2 ∧ ¬ 6 < bh ∧ ¬ pr < 1 ∧ ¬ 15 < pr ∧ ¬ st < 0 ∧ ¬ 63 < st ∧ ¬ od < 0 ∧ ¬ 4 < od ∧ ¬ ly < 1 ∧ ¬ 8 < ly) : codingF lv bw bh pr st od ly = 0 := by
  unfold codingF cutsB inB
  rw [if_pos]
  simp
  omega
set_option maxHeartbeats 16000000 in
theorem rnumbers_any {AC : Option Addr} {cC : Nat} {cs : List Cp} {w : World} (x y ox oy tx ty lv bw bh pr st od ly : Int) (rct sop eph : Bool) (h : CompsAt w AC cs) (hl : cs.length ≤ 1000) (hx : 0 ≤ ox ∧ ox < x ∧ x ≤ 64) (hy : 0 ≤ oy ∧ oy < y ∧ y ≤ 64) :
    Calls Try.prog 42 #[.agg #[.int .i64 x, .int .i64 y, .int .i64 ox, .int .i64 oy, .slice AC cs.length cC], .agg #[.int .i64 tx, .int .i64 ty, .int .i64 lv, .int .i64 bw, .int .i64 bh, .int .i64 pr, .int .i64 st, .int .i64 od, .int .i64 ly, .bool rct, .bool sop, .bool eph]] w fun e w' => e = .returned (.int .i64 (numF x y ox oy cs tx ty lv bw bh pr st od ly rct)) ∧ Below w.heap.size w w' := by
  obtain ⟨R, hR⟩ : ∃ R, numF x y ox oy cs tx ty lv bw bh pr st od ly rct = R := ⟨_, rfl⟩
  rw [hR]
  have HR := Lib.hid hR
  have HI := Lib.hid h
  obtain ⟨N, hN⟩ : ∃ N, cs.length = N := ⟨_, rfl⟩
  rw [hN] at hl ⊢
  have HN := Lib.hid hN
  clear hR h hN
  obtain ⟨B, hB⟩ : ∃ B, w.heap.size = B := ⟨_, rfl⟩
  obtain ⟨w1, hw1⟩ : ∃ w1, (w.alloc (.cells #[.int .i64 x, .int .i64 y, .int .i64 ox, .int .i64 oy, .slice AC N cC] 24)).alloc (.cells #[.int .i64 tx, .int .i64 ty, .int .i64 lv, .int .i64 bw, .int .i64 bh, .int .i64 pr, .int .i64 st, .int .i64 od, .int .i64 ly, .bool rct, .bool sop, .bool eph] 26) = w1 := ⟨_, rfl⟩
  have H1 : Hid (Below B w w1 ∧ w1.heap[B]? = some (.cells #[.int .i64 x, .int .i64 y, .int .i64 ox, .int .i64 oy, .slice AC N cC] 24 (0, 0)) ∧ w1.heap[B + 1]? = some (.cells #[.int .i64 tx, .int .i64 ty, .int .i64 lv, .int .i64 bw, .int .i64 bh, .int .i64 pr, .int .i64 st, .int .i64 od, .int .i64 ly, .bool rct, .bool sop, .bool eph] 26 (0, 0)) ∧ w1.heap.size = B + 2) := Lib.hid (by
    have h := allocs2 [Obj.cells #[.int .i64 x, .int .i64 y, .int .i64 ox, .int .i64 oy, .slice AC N cC] 24, Obj.cells #[.int .i64 tx, .int .i64 ty, .int .i64 lv, .int .i64 bw, .int .i64 bh, .int .i64 pr, .int .i64 st, .int .i64 od, .int .i64 ly, .bool rct, .bool sop, .bool eph] 26] w
    rw [show [Obj.cells #[.int .i64 x, .int .i64 y, .int .i64 ox, .int .i64 oy, .slice AC N cC] 24, Obj.cells #[.int .i64 tx, .int .i64 ty, .int .i64 lv, .int .i64 bw, .int .i64 bh, .int .i64 pr, .int .i64 st, .int .i64 od, .int .i64 ly, .bool rct, .bool sop, .bool eph] 26].foldl World.alloc w = w1 from hw1, hB] at h
    exact ⟨h.2.1, h.2.2 0 _ rfl, h.2.2 1 _ rfl, h.1⟩)
  have HE := Lib.hid (And.intro hw1 hB)
  have HW : Hid (Below w.heap.size w w1) := Lib.hid (by rw [hB]; exact H1.out.1)
  clear hw1 hB
  have c0 : w1.cell? ⟨B, 0, none⟩ = some (.int .i64 x) := rb_cell H1.out.2.1 0
  have c1 : w1.cell? ⟨B, 1, none⟩ = some (.int .i64 y) := rb_cell H1.out.2.1 1
  have c2 : w1.cell? ⟨B, 2, none⟩ = some (.int .i64 ox) := rb_cell H1.out.2.1 2
  have c3 : w1.cell? ⟨B, 3, none⟩ = some (.int .i64 oy) := rb_cell H1.out.2.1 3
  have k0 : w1.cell? ⟨B + 1, 0, none⟩ = some (.int .i64 tx) := rb_cell H1.out.2.2.1 0
  have k1 : w1.cell? ⟨B + 1, 1, none⟩ = some (.int .i64 ty) := rb_cell H1.out.2.2.1 1
  go_enter Try.func42, Try.ntmps42
  go_upto_region 1 with fail
  rw [show (w.alloc (.cells #[.int .i64 x, .int .i64 y, .int .i64 ox, .int .i64 oy, .slice AC N cC] 24)).alloc (.cells #[.int .i64 tx, .int .i64 ty, .int .i64 lv, .int .i64 bw, .int .i64 bh, .int .i64 pr, .int .i64 st, .int .i64 od, .int .i64 ly, .bool rct, .bool sop, .bool eph] 26) = w1 from HE.out.1, HE.out.2]
  by_cases t1 : tx ≤ ox
  · have hR : R = 1 := by rw [← HR.out]; unfold numF; rw [show tilesF x y ox oy tx ty = 1 from by unfold tilesF; rw [if_pos (by omega)]]; rfl
    subst hR
    clear HR
    go_wp2
    go_ret
    first | exact HW.out | exact ⟨rfl, HW.out⟩
  by_cases t2 : 65536 < tx
  · have hR : R = 1 := by rw [← HR.out]; unfold numF; rw [show tilesF x y ox oy tx ty = 1 from by unfold tilesF; rw [if_pos (by omega)]]; rfl
    subst hR
    clear HR
    go_wp2
    go_ret
    first | exact HW.out | exact ⟨rfl, HW.out⟩
  by_cases t3 : ty ≤ oy
  · have hR : R = 1 := by rw [← HR.out]; unfold numF; rw [show tilesF x y ox oy tx ty = 1 from by unfold tilesF; rw [if_pos (by omega)]]; rfl
    subst hR
    clear HR
    go_wp2
    go_ret
    first | exact HW.out | exact ⟨rfl, HW.out⟩
  by_cases t4 : 65536 < ty
  · have hR : R = 1 := by rw [← HR.out]; unfold numF; rw [show tilesF x y ox oy tx ty = 1 from by unfold tilesF; rw [if_pos (by omega)]]; rfl
    subst hR
    clear HR
    go_wp2
    go_ret
    first | exact HW.out | exact ⟨rfl, HW.out⟩
  have HTL : Hid (tilesF x y ox oy tx ty = if 16 < ceilF x tx * ceilF y ty then 14 else 0) := Lib.hid (by unfold tilesF; rw [if_neg (by omega)])
  go_upto_region 3 with fail
  have CX := Lib.hid (rceil_any x tx)
  have CY := Lib.hid (rceil_any y ty)
  obtain ⟨wd, hwd⟩ : ∃ wd, w1.drew = wd := ⟨_, rfl⟩
  have b1 : wd.heap = w1.heap := by rw [← hwd]; rfl
  have hd : Below w1.heap.size w1 wd := by rw [← hwd]; exact below_drewN (Below.refl _ _) 1
  have HWD : Hid (Below w.heap.size w wd ∧ Below B w wd ∧ wd.heap[B]? = some (.cells #[.int .i64 x, .int .i64 y, .int .i64 ox, .int .i64 oy, .slice AC N cC] 24 (0, 0)) ∧ wd.heap[B + 1]? = some (.cells #[.int .i64 tx, .int .i64 ty, .int .i64 lv, .int .i64 bw, .int .i64 bh, .int .i64 pr, .int .i64 st, .int .i64 od, .int .i64 ly, .bool rct, .bool sop, .bool eph] 26 (0, 0)) ∧ wd.heap.size = B + 2) := Lib.hid ⟨HW.out.trans (hd.mono HW.out.size), H1.out.1.trans (hd.mono (by have := H1.out.2.2.2; omega)), by rw [b1]; exact H1.out.2.1, by rw [b1]; exact H1.out.2.2.1, by rw [b1]; exact H1.out.2.2.2⟩
  clear b1 hd c0 c1 c2 c3 k0 k1
  have c0 : wd.cell? ⟨B, 0, none⟩ = some (.int .i64 x) := rb_cell HWD.out.2.2.1 0
  have c1 : wd.cell? ⟨B, 1, none⟩ = some (.int .i64 y) := rb_cell HWD.out.2.2.1 1
  have k0 : wd.cell? ⟨B + 1, 0, none⟩ = some (.int .i64 tx) := rb_cell HWD.out.2.2.2.1 0
  have k1 : wd.cell? ⟨B + 1, 1, none⟩ = some (.int .i64 ty) := rb_cell HWD.out.2.2.2.1 1
  have hcb := ceil_bd x tx (by omega) (by omega)
  have hcb2 := ceil_bd y ty (by omega) (by omega)
  have hmul : 0 ≤ ceilF x tx * ceilF y ty ∧ ceilF x tx * ceilF y ty ≤ 1000000 := ⟨Int.mul_nonneg hcb.1 hcb2.1, by
    have h1 : ceilF x tx * ceilF y ty ≤ 1000 * 1000 := Int.mul_le_mul (by omega) (by omega) hcb2.1 (by omega)
    omega⟩
  obtain ⟨cx, hcx⟩ : ∃ c, ceilF x tx = c := ⟨_, rfl⟩
  obtain ⟨cy, hcy⟩ : ∃ c, ceilF y ty = c := ⟨_, rfl⟩
  have C1 := CX.out wd (by omega) (by omega)
  have C2 := CY.out wd (by omega) (by omega)
  rw [hcx] at C1 hmul HTL
  rw [hcy] at C2 hmul HTL
  have q1 : IntKind.i64.wrap (cx * cy) = cx * cy := IntWalk.i64_in _ (by omega)
  refine wp_region_still_lit (by kernel_rfl) (by kernel_rfl) ?_
  rw [show ({ w1 with drawn := w1.drawn + 1 } : World) = wd from hwd]
  repeat still_step
  still_call C1
  repeat still_step
  still_call C2
  repeat still_step
  refine wpStill_nil ?_
  clear q1 C1 C2
  have HCC := Lib.hid hmul
  have HCX := Lib.hid hcx
  have HCY := Lib.hid hcy
  obtain ⟨pr_, hpr_⟩ : ∃ v, cx * cy = v := ⟨_, rfl⟩
  rw [hpr_] at HTL ⊢
  clear hcx hcy hcb hcb2 hmul hpr_ CX CY H1 HE
  by_cases t5 : 16 < pr_
  · have hR : R = 14 := by rw [← HR.out]; unfold numF; rw [HTL.out, if_pos t5]; rfl
    subst hR
    clear HR
    go_wp2
    go_ret
    first | exact HWD.out.1 | exact ⟨rfl, HWD.out.1⟩
  have HT0 : Hid (tilesF x y ox oy tx ty = 0) := Lib.hid (HTL.out.trans (if_neg t5))
  clear HTL
  have k2 : wd.cell? ⟨B + 1, 2, none⟩ = some (.int .i64 lv) := rb_cell HWD.out.2.2.2.1 2
  have k3 : wd.cell? ⟨B + 1, 3, none⟩ = some (.int .i64 bw) := rb_cell HWD.out.2.2.2.1 3
  have k4 : wd.cell? ⟨B + 1, 4, none⟩ = some (.int .i64 bh) := rb_cell HWD.out.2.2.2.1 4
  have k5 : wd.cell? ⟨B + 1, 5, none⟩ = some (.int .i64 pr) := rb_cell HWD.out.2.2.2.1 5
  have k6 : wd.cell? ⟨B + 1, 6, none⟩ = some (.int .i64 st) := rb_cell HWD.out.2.2.2.1 6
  have k7 : wd.cell? ⟨B + 1, 7, none⟩ = some (.int .i64 od) := rb_cell HWD.out.2.2.2.1 7
  have k8 : wd.cell? ⟨B + 1, 8, none⟩ = some (.int .i64 ly) := rb_cell HWD.out.2.2.2.1 8
  have k9 : wd.cell? ⟨B + 1, 9, none⟩ = some (.bool rct) := rb_cell HWD.out.2.2.2.1 9
  go_upto_region 5 with fail
  obtain ⟨TB, hTB⟩ : ∃ TB, decide (lv < 0 ∨ 5 < lv ∨ bw < 2 ∨ 6 < bw ∨ bh < 2 ∨ 6 < bh ∨ pr < 1 ∨ 15 < pr ∨ st < 0 ∨ 63 < st ∨ od < 0 ∨ 4 < od ∨ ly < 1 ∨ 8 < ly) = TB := ⟨_, rfl⟩
  have HTB := Lib.hid hTB
  clear hTB
  go_cut [109] from 8 to 108 (fun v wx => v = .bool TB ∧ wd = wx)
  case first =>
   by_cases u1 : lv < 0
   · have hT : TB = true := by rw [← HTB.out]; exact decide_eq_true (by omega)
     subst hT
     clear HTB
     go_wp2_with fail
     go_meet
     exact ⟨rfl, rfl⟩
   by_cases u2 : 5 < lv
   · have hT : TB = true := by rw [← HTB.out]; exact decide_eq_true (by omega)
     subst hT
     clear HTB
     go_wp2_with fail
     go_meet
     exact ⟨rfl, rfl⟩
   by_cases u3 : bw < 2
   · have hT : TB = true := by rw [← HTB.out]; exact decide_eq_true (by omega)
     subst hT
     clear HTB
     go_wp2_with fail
     go_meet
     exact ⟨rfl, rfl⟩
   by_cases u4 : 6 < bw
   · have hT : TB = true := by rw [← HTB.out]; exact decide_eq_true (by omega)
     subst hT
     clear HTB
     go_wp2_with fail
     go_meet
     exact ⟨rfl, rfl⟩
   by_cases u5 : bh < 2
   · have hT : TB = true := by rw [← HTB.out]; exact decide_eq_true (by omega)
     subst hT
     clear HTB
     go_wp2_with fail
     go_meet
     exact ⟨rfl, rfl⟩
   by_cases u6 : 6 < bh
   · have hT : TB = true := by rw [← HTB.out]; exact decide_eq_true (by omega)
     subst hT
     clear HTB
     go_wp2_with fail
     go_meet
     exact ⟨rfl, rfl⟩
   by_cases u7 : pr < 1
   · have hT : TB = true := by rw [← HTB.out]; exact decide_eq_true (by omega)
     subst hT
     clear HTB
     go_wp2_with fail
     go_meet
     exact ⟨rfl, rfl⟩
   by_cases u8 : 15 < pr
   · have hT : TB = true := by rw [← HTB.out]; exact decide_eq_true (by omega)
     subst hT
     clear HTB
     go_wp2_with fail
     go_meet
     exact ⟨rfl, rfl⟩
   by_cases u9 : st < 0
   · have hT : TB = true := by rw [← HTB.out]; exact decide_eq_true (by omega)
     subst hT
     clear HTB
     go_wp2_with fail
     go_meet
     exact ⟨rfl, rfl⟩
   by_cases u10 : 63 < st
   · have hT : TB = true := by rw [← HTB.out]; exact decide_eq_true (by omega)
     subst hT
     clear HTB
     go_wp2_with fail
     go_meet
     exact ⟨rfl, rfl⟩
   by_cases u11 : od < 0
   · have hT : TB = true := by rw [← HTB.out]; exact decide_eq_true (by omega)
     subst hT
     clear HTB
     go_wp2_with fail
     go_meet
     exact ⟨rfl, rfl⟩
   by_cases u12 : 4 < od
   · have hT : TB = true := by rw [← HTB.out]; exact decide_eq_true (by omega)
     subst hT
     clear HTB
     go_wp2_with fail
     go_meet
     exact ⟨rfl, rfl⟩
   by_cases u13 : ly < 1
   · have hT : TB = true := by rw [← HTB.out]; exact decide_eq_true (by omega)
     subst hT
     clear HTB
     go_wp2_with fail
     go_meet
     exact ⟨rfl, rfl⟩
   by_cases u14 : 8 < ly
   · have hT : TB = true := by rw [← HTB.out]; exact decide_eq_true (by omega)
     subst hT
     clear HTB
     go_wp2_with fail
     go_meet
     exact ⟨rfl, rfl⟩
   have hT : TB = false := by rw [← HTB.out]; exact decide_eq_false (by omega)
   subst hT
   clear HTB
   go_wp2_with fail
   go_meet
   exact ⟨rfl, rfl⟩
  case rest =>
  obtain ⟨rfl, hwc⟩ := hcut
  subst hwc
  cases TB
  case true =>
    have hR : R = 1 := by rw [← HR.out]; unfold numF; rw [HT0.out, cod_one (of_decide_eq_true HTB.out)]; rfl
    subst hR
    clear HR HTB
    go_wp2
    go_ret
    first | exact HWD.out.1 | exact ⟨rfl, HWD.out.1⟩
  have HC0 : Hid (codingF lv bw bh pr st od ly = 0) := Lib.hid (cod_zero (by have := of_decide_eq_false HTB.out; omega))
  clear HTB
  cases rct
  · have hR : R = 0 := by rw [← HR.out]; unfold numF; rw [HT0.out, HC0.out]; rfl
    subst hR
    clear HR
    go_wp2
    go_ret
    first | exact HWD.out.1 | exact ⟨rfl, HWD.out.1⟩
  have HR2 : Hid (R = if alikeF cs = false then 3 else 0) := Lib.hid (by rw [← HR.out]; unfold numF; rw [HT0.out, HC0.out]; simp)
  clear HR
  have c4 : wd.cell? ⟨B, 4, none⟩ = some (.slice AC N cC) := rb_cell HWD.out.2.2.1 4
  by_cases h3 : N < 3
  · have hR : R = 3 := by rw [HR2.out, if_pos (by have h := HN.out; rcases cs with _ | ⟨a, _ | ⟨b, _ | ⟨c, l⟩⟩⟩ <;> first | rfl | (simp at h; omega))]
    have e3 : (N : Int) < 3 := by omega
    subst hR
    clear HR2 h3
    go_wp2
    go_ret
    first | exact HWD.out.1 | exact ⟨rfl, HWD.out.1⟩
  have e3 : ¬ (N : Int) < 3 := by omega
  obtain ⟨a, b, c, l, hcs⟩ : ∃ a b c l, cs = a :: b :: c :: l := by
    have h := HN.out
    rcases cs with _ | ⟨a, _ | ⟨b, _ | ⟨c, l⟩⟩⟩
    · simp at h; omega
    · simp at h; omega
    · simp at h; omega
    · exact ⟨a, b, c, l, rfl⟩
  subst hcs
  obtain ⟨ba, oa, hba, hbl, a0, a1, a2, a3, a4⟩ := HI.out 0 a rfl
  subst hba
  obtain ⟨bb, ob, hb, _, b0, b1, b2, b3, b4⟩ := HI.out 1 b rfl
  injection hb with hb
  injection hb with hb hb'
  subst hb hb'
  obtain ⟨bc, oc, hb, _, m0, m1, m2, m3, m4⟩ := HI.out 2 c rfl
  injection hb with hb
  injection hb with hb hb'
  subst hb hb'
  have HR3 : Hid (R = if (sameC a b && sameC a c) = false then 3 else 0) := HR2
  clear HR2
  obtain ⟨ad, ag, ax, ay, aA, an, ac⟩ := a
  obtain ⟨bd, bg, bx, by', bA, bn, bcp⟩ := b
  obtain ⟨cd, cg, cx', cy', cA, cn, ccp⟩ := c
  simp only [Nat.zero_mul, Nat.add_zero, Nat.one_mul] at a0 a1 a2 a3 a4 b0 b1 b2 b3 b4 m0 m1 m2 m3 m4
  have a0 := (HWD.out.1.cell (p := ⟨ba, _, none⟩) hbl).trans a0
  have a1 := (HWD.out.1.cell (p := ⟨ba, _, none⟩) hbl).trans a1
  have a2 := (HWD.out.1.cell (p := ⟨ba, _, none⟩) hbl).trans a2
  have a3 := (HWD.out.1.cell (p := ⟨ba, _, none⟩) hbl).trans a3
  have a4 := (HWD.out.1.cell (p := ⟨ba, _, none⟩) hbl).trans a4
  have b0 := (HWD.out.1.cell (p := ⟨ba, _, none⟩) hbl).trans b0
  have b1 := (HWD.out.1.cell (p := ⟨ba, _, none⟩) hbl).trans b1
  have b2 := (HWD.out.1.cell (p := ⟨ba, _, none⟩) hbl).trans b2
  have b3 := (HWD.out.1.cell (p := ⟨ba, _, none⟩) hbl).trans b3
  have b4 := (HWD.out.1.cell (p := ⟨ba, _, none⟩) hbl).trans b4
  have m0 := (HWD.out.1.cell (p := ⟨ba, _, none⟩) hbl).trans m0
  have m1 := (HWD.out.1.cell (p := ⟨ba, _, none⟩) hbl).trans m1
  have m2 := (HWD.out.1.cell (p := ⟨ba, _, none⟩) hbl).trans m2
  have m3 := (HWD.out.1.cell (p := ⟨ba, _, none⟩) hbl).trans m3
  have m4 := (HWD.out.1.cell (p := ⟨ba, _, none⟩) hbl).trans m4
  have HBL := Lib.hid hbl
  clear hbl c0 c1 HCC HCX HCY HI HN HT0 HC0 k0 k1 k2 k3 k4 k5 k6 k7 k8 t1 t2 t3 t4 t5 hx hy h3 hwd
  go_upto_region 13 with fail
  obtain ⟨W1, hW1⟩ : ∃ W1, wd.alloc (Obj.cells #[.int .i64 ad, .bool ag, .int .i64 ax, .int .i64 ay, .slice aA an ac] 39) = W1 := ⟨_, rfl⟩
  obtain ⟨P, hP⟩ : ∃ P, wd.heap.size = P := ⟨_, rfl⟩
  have hb1 : W1.heap[P]? = some (.cells #[.int .i64 ad, .bool ag, .int .i64 ax, .int .i64 ay, .slice aA an ac] 39 (0, 0)) := by rw [← hW1, ← hP]; exact World.alloc_heap_new wd _
  have hB1 : Below wd.heap.size wd W1 := by rw [← hW1]; exact (Below.refl _ wd).alloc (Nat.le_refl _) _
  have hmn : W1.cell? ⟨B, 4, none⟩ = some (.slice (some ⟨ba, oa, none⟩) N cC) := (hB1.cell (p := ⟨B, 4, none⟩) (by have h := HWD.out.2.2.2.2; show B < wd.heap.size; omega)).trans c4
  rw [hW1, hP]
  have hbl2 : ba < wd.heap.size := Nat.lt_of_lt_of_le HBL.out HWD.out.1.size
  have HPP : Hid (wd.heap.size = P ∧ P = B + 2) := Lib.hid ⟨hP, by rw [← hP]; exact HWD.out.2.2.2.2⟩
  have ix1 : (1 : Int) < (N : Int) ∧ (2 : Int) < (N : Int) := by omega
  have ix3 : 1 < N ∧ 2 < N := by omega
  obtain ⟨ix1, ix2⟩ := ix1
  obtain ⟨ix3, ix4⟩ := ix3
  clear hW1 hP e3 k9 c4
  go_loopw [6] (fun iv wr => ∃ i : Nat, 1 ≤ i ∧ i ≤ 3 ∧ iv = .int .i64 (i : Int) ∧ wr.heap[P]? = some (.cells #[.int .i64 ad, .bool ag, .int .i64 ax, .int .i64 ay, .slice aA an ac] 39 (0, 0)) ∧ Below wd.heap.size wd wr ∧ wr.cell? ⟨B, 4, none⟩ = some (.slice (some ⟨ba, oa, none⟩) N cC) ∧ Hid (2 ≤ i → sameC ⟨ad, ag, ax, ay, aA, an, ac⟩ ⟨bd, bg, bx, by', bA, bn, bcp⟩ = true) ∧ Hid (3 ≤ i → sameC ⟨ad, ag, ax, ay, aA, an, ac⟩ ⟨cd, cg, cx', cy', cA, cn, ccp⟩ = true)) (fun iv _ => 3 - (intOf iv).toNat)
  case atStart => exact ⟨1, by omega, by omega, rfl, hb1, hB1, hmn, Lib.hid (fun h => absurd h (by omega)), Lib.hid (fun h => absurd h (by omega))⟩
  case round =>
   obtain ⟨i, hi1, hi, rfl, hbx, hB, c4, HP1, HP2⟩ := hrel
   clear hb1 hB1 hmn
   have g0 : wr.cell? ⟨P, 0, none⟩ = some (.int .i64 ad) := rb_cell hbx 0
   have g1 : wr.cell? ⟨P, 1, none⟩ = some (.bool ag) := rb_cell hbx 1
   have g2 : wr.cell? ⟨P, 2, none⟩ = some (.int .i64 ax) := rb_cell hbx 2
   have g3 : wr.cell? ⟨P, 3, none⟩ = some (.int .i64 ay) := rb_cell hbx 3
   have hszw : P < wr.heap.size := (Array.getElem?_eq_some_iff.1 hbx).1
   have HXn : Hid (∀ o2, (wr.alloc o2).heap[P]? = some (.cells #[.int .i64 ad, .bool ag, .int .i64 ax, .int .i64 ay, .slice aA an ac] 39 (0, 0))) := Lib.hid (fun o2 => (Below.heap_alloc wr _ _ hszw).trans hbx)
   have HBn : Hid (∀ o2, Below wd.heap.size wd (wr.alloc o2)) := Lib.hid (fun o2 => hB.alloc hB.size _)
   have HB4 : Hid (∀ o2, (wr.alloc o2).cell? ⟨B, 4, none⟩ = some (.slice (some ⟨ba, oa, none⟩) N cC)) := Lib.hid (fun o2 => (Below.cell ((Below.refl wr.heap.size wr).alloc (Nat.le_refl _) o2) (p := ⟨B, 4, none⟩) (by have h := HPP.out.2; show B < wr.heap.size; omega)).trans c4)
   have HBr : Hid (Below wd.heap.size wd wr) := Lib.hid hB
   have HFN : Hid (∀ v : World, Below wd.heap.size wd v → Below w.heap.size w v) := Lib.hid (fun v h => HWD.out.1.trans (h.mono HWD.out.1.size))
   clear hbx
   rcases (by omega : i = 1 ∨ i = 2 ∨ i = 3) with rfl | rfl | rfl
   · skip
     rw [show ((1 : Nat) : Int) = 1 from rfl]
     have n0 := (hB.cell (p := ⟨ba, oa + 5, none⟩) hbl2).trans b0
     have n1 := (hB.cell (p := ⟨ba, oa + 6, none⟩) hbl2).trans b1
     have n2 := (hB.cell (p := ⟨ba, oa + 7, none⟩) hbl2).trans b2
     have n3 := (hB.cell (p := ⟨ba, oa + 8, none⟩) hbl2).trans b3
     have n4 := (hB.cell (p := ⟨ba, oa + 9, none⟩) hbl2).trans b4
     clear a0 a1 a2 a3 a4 b0 b1 b2 b3 b4 m0 m1 m2 m3 m4 hB
     by_cases q0 : ad = bd
     case neg =>
       have hR : R = 3 := by rw [HR3.out]; simp [sameC, q0]
       subst hR
       clear HR3
       have e0 : (ad != bd) = true := by simp [q0]
       have f0 : decide (ad = bd) = false := by simp [q0]
       have f0' : (ad == bd) = false := by simp [q0]
       clear q0
       go_wp2
       go_ret
       first | exact HFN.out _ (HBn.out _) | exact ⟨rfl, HFN.out _ (HBn.out _)⟩
     case pos =>
       by_cases q1 : ag = bg
       case neg =>
         have hR : R = 3 := by rw [HR3.out]; simp [sameC, q1]
         subst hR
         clear HR3
         have e0 : (ad != bd) = false := by simp [q0]
         have f0 : decide (ad = bd) = true := by simp [q0]
         have f0' : (ad == bd) = true := by simp [q0]
         have e1 : (ag != bg) = true := by simp [q1]
         have f1 : decide (ag = bg) = false := by simp [q1]
         have f1' : (ag == bg) = false := by simp [q1]
         clear q0 q1
         go_wp2
         go_ret
         first | exact HFN.out _ (HBn.out _) | exact ⟨rfl, HFN.out _ (HBn.out _)⟩
       case pos =>
         by_cases q2 : ax = bx
         case neg =>
           have hR : R = 3 := by rw [HR3.out]; simp [sameC, q2]
           subst hR
           clear HR3
           have e0 : (ad != bd) = false := by simp [q0]
           have f0 : decide (ad = bd) = true := by simp [q0]
           have f0' : (ad == bd) = true := by simp [q0]
           have e1 : (ag != bg) = false := by simp [q1]
           have f1 : decide (ag = bg) = true := by simp [q1]
           have f1' : (ag == bg) = true := by simp [q1]
           have e2 : (ax != bx) = true := by simp [q2]
           have f2 : decide (ax = bx) = false := by simp [q2]
           have f2' : (ax == bx) = false := by simp [q2]
           clear q0 q1 q2
           go_wp2
           go_ret
           first | exact HFN.out _ (HBn.out _) | exact ⟨rfl, HFN.out _ (HBn.out _)⟩
         case pos =>
           by_cases q3 : ay = by'
           case neg =>
             have hR : R = 3 := by rw [HR3.out]; simp [sameC, q3]
             subst hR
             clear HR3
             have e0 : (ad != bd) = false := by simp [q0]
             have f0 : decide (ad = bd) = true := by simp [q0]
             have f0' : (ad == bd) = true := by simp [q0]
             have e1 : (ag != bg) = false := by simp [q1]
             have f1 : decide (ag = bg) = true := by simp [q1]
             have f1' : (ag == bg) = true := by simp [q1]
             have e2 : (ax != bx) = false := by simp [q2]
             have f2 : decide (ax = bx) = true := by simp [q2]
             have f2' : (ax == bx) = true := by simp [q2]
             have e3 : (ay != by') = true := by simp [q3]
             have f3 : decide (ay = by') = false := by simp [q3]
             have f3' : (ay == by') = false := by simp [q3]
             clear q0 q1 q2 q3
             go_wp2
             go_ret
             first | exact HFN.out _ (HBn.out _) | exact ⟨rfl, HFN.out _ (HBn.out _)⟩
           case pos =>
             have HS : Hid (sameC ⟨ad, ag, ax, ay, aA, an, ac⟩ ⟨bd, bg, bx, by', bA, bn, bcp⟩ = true) := Lib.hid (by simp [sameC, q0, q1, q2, q3])
             have e0 : (ad != bd) = false := by simp [q0]
             have f0 : decide (ad = bd) = true := by simp [q0]
             have f0' : (ad == bd) = true := by simp [q0]
             have e1 : (ag != bg) = false := by simp [q1]
             have f1 : decide (ag = bg) = true := by simp [q1]
             have f1' : (ag == bg) = true := by simp [q1]
             have e2 : (ax != bx) = false := by simp [q2]
             have f2 : decide (ax = bx) = true := by simp [q2]
             have f2' : (ax == bx) = true := by simp [q2]
             have e3 : (ay != by') = false := by simp [q3]
             have f3 : decide (ay = by') = true := by simp [q3]
             have f3' : (ay == by') = true := by simp [q3]
             clear q0 q1 q2 q3
             go_wp2
             go_roundw
             case rel => exact ⟨2, by omega, by omega, by go_num, HXn.out _, HBn.out _, HB4.out _, Lib.hid (fun _ => HS.out), Lib.hid (fun h => absurd h (by omega))⟩
             case measure => simp [intOf] <;> omega
   · skip
     rw [show ((2 : Nat) : Int) = 2 from rfl]
     have n0 := (hB.cell (p := ⟨ba, oa + 10, none⟩) hbl2).trans m0
     have n1 := (hB.cell (p := ⟨ba, oa + 11, none⟩) hbl2).trans m1
     have n2 := (hB.cell (p := ⟨ba, oa + 12, none⟩) hbl2).trans m2
     have n3 := (hB.cell (p := ⟨ba, oa + 13, none⟩) hbl2).trans m3
     have n4 := (hB.cell (p := ⟨ba, oa + 14, none⟩) hbl2).trans m4
     clear a0 a1 a2 a3 a4 b0 b1 b2 b3 b4 m0 m1 m2 m3 m4 hB
     by_cases q0 : ad = cd
     case neg =>
       have hR : R = 3 := by rw [HR3.out]; simp [sameC, q0]
       subst hR
       clear HR3
       have e0 : (ad != cd) = true := by simp [q0]
       have f0 : decide (ad = cd) = false := by simp [q0]
       have f0' : (ad == cd) = false := by simp [q0]
       clear q0
       go_wp2
       go_ret
       first | exact HFN.out _ (HBn.out _) | exact ⟨rfl, HFN.out _ (HBn.out _)⟩
     case pos =>
       by_cases q1 : ag = cg
       case neg =>
         have hR : R = 3 := by rw [HR3.out]; simp [sameC, q1]
         subst hR
         clear HR3
         have e0 : (ad != cd) = false := by simp [q0]
         have f0 : decide (ad = cd) = true := by simp [q0]
         have f0' : (ad == cd) = true := by simp [q0]
         have e1 : (ag != cg) = true := by simp [q1]
         have f1 : decide (ag = cg) = false := by simp [q1]
         have f1' : (ag == cg) = false := by simp [q1]
         clear q0 q1
         go_wp2
         go_ret
         first | exact HFN.out _ (HBn.out _) | exact ⟨rfl, HFN.out _ (HBn.out _)⟩
       case pos =>
         by_cases q2 : ax = cx'
         case neg =>
           have hR : R = 3 := by rw [HR3.out]; simp [sameC, q2]
           subst hR
           clear HR3
           have e0 : (ad != cd) = false := by simp [q0]
           have f0 : decide (ad = cd) = true := by simp [q0]
           have f0' : (ad == cd) = true := by simp [q0]
           have e1 : (ag != cg) = false := by simp [q1]
           have f1 : decide (ag = cg) = true := by simp [q1]
           have f1' : (ag == cg) = true := by simp [q1]
           have e2 : (ax != cx') = true := by simp [q2]
           have f2 : decide (ax = cx') = false := by simp [q2]
           have f2' : (ax == cx') = false := by simp [q2]
           clear q0 q1 q2
           go_wp2
           go_ret
           first | exact HFN.out _ (HBn.out _) | exact ⟨rfl, HFN.out _ (HBn.out _)⟩
         case pos =>
           by_cases q3 : ay = cy'
           case neg =>
             have hR : R = 3 := by rw [HR3.out]; simp [sameC, q3]
             subst hR
             clear HR3
             have e0 : (ad != cd) = false := by simp [q0]
             have f0 : decide (ad = cd) = true := by simp [q0]
             have f0' : (ad == cd) = true := by simp [q0]
             have e1 : (ag != cg) = false := by simp [q1]
             have f1 : decide (ag = cg) = true := by simp [q1]
             have f1' : (ag == cg) = true := by simp [q1]
             have e2 : (ax != cx') = false := by simp [q2]
             have f2 : decide (ax = cx') = true := by simp [q2]
             have f2' : (ax == cx') = true := by simp [q2]
             have e3 : (ay != cy') = true := by simp [q3]
             have f3 : decide (ay = cy') = false := by simp [q3]
             have f3' : (ay == cy') = false := by simp [q3]
             clear q0 q1 q2 q3
             go_wp2
             go_ret
             first | exact HFN.out _ (HBn.out _) | exact ⟨rfl, HFN.out _ (HBn.out _)⟩
           case pos =>
             have HS : Hid (sameC ⟨ad, ag, ax, ay, aA, an, ac⟩ ⟨cd, cg, cx', cy', cA, cn, ccp⟩ = true) := Lib.hid (by simp [sameC, q0, q1, q2, q3])
             have e0 : (ad != cd) = false := by simp [q0]
             have f0 : decide (ad = cd) = true := by simp [q0]
             have f0' : (ad == cd) = true := by simp [q0]
             have e1 : (ag != cg) = false := by simp [q1]
             have f1 : decide (ag = cg) = true := by simp [q1]
             have f1' : (ag == cg) = true := by simp [q1]
             have e2 : (ax != cx') = false := by simp [q2]
             have f2 : decide (ax = cx') = true := by simp [q2]
             have f2' : (ax == cx') = true := by simp [q2]
             have e3 : (ay != cy') = false := by simp [q3]
             have f3 : decide (ay = cy') = true := by simp [q3]
             have f3' : (ay == cy') = true := by simp [q3]
             clear q0 q1 q2 q3
             go_wp2
             go_roundw
             case rel => exact ⟨3, by omega, by omega, by go_num, HXn.out _, HBn.out _, HB4.out _, Lib.hid (fun _ => HP1.out (by omega)), Lib.hid (fun h => HS.out)⟩
             case measure => simp [intOf] <;> omega
   · have hR : R = 0 := by rw [HR3.out, HP1.out (by omega), HP2.out (by omega)]; rfl
     subst hR
     clear a0 a1 a2 a3 a4 b0 b1 b2 b3 b4 m0 m1 m2 m3 m4 hB HR3
     go_wp2
     go_ret
     first | exact HFN.out _ HBr.out | exact ⟨rfl, HFN.out _ HBr.out⟩
end Go.Proofs.Ythcpmonahmogaaa
