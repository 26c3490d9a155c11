/- canvas: the document's Frame. -/
import Derived.Test.YthcpmonahmogaaaCvRn
set_option linter.unusedVariables false
set_option linter.unusedSimpArgs false
namespace Go.Proofs.Ythcpmonahmogaaa
open Go.RowKit
set_option maxRecDepth 100000
set_option maxHeartbeats 16000000 in
theorem rframe_any {AC : Option Addr} {cC : Nat} {cs : List Cp} {w : World} (x y ox oy tx ty lv bw bh pr st od ly : Int) (rct sop eph : Bool) (h : CompsAt w AC cs) (hl : cs.length ≤ 1000) :
    Calls Try.prog 15 #[.agg #[.int .i64 x, .int .i64 y, .int .i64 ox, .int .i64 oy, .slice AC cs.length cC], .agg #[.int .i64 tx, .int .i64 ty, .int .i64 lv, .int .i64 bw, .int .i64 bh, .int .i64 pr, .int .i64 st, .int .i64 od, .int .i64 ly, .bool rct, .bool sop, .bool eph]] w fun e w' => e = .returned (.int .i64 (frameF x y ox oy cs tx ty lv bw bh pr st od ly rct)) ∧ Below w.heap.size w w' := by
  obtain ⟨R, hR⟩ : ∃ R, frameF x y ox oy cs tx ty lv bw bh pr st od ly rct = R := ⟨_, rfl⟩
  rw [hR]
  have HR := Lib.hid hR
  have HI := Lib.hid h
  have NU := Lib.hid (fun (u : World) (hu : CompsAt u AC cs) (hx : 0 ≤ ox ∧ ox < x ∧ x ≤ 64) (hy : 0 ≤ oy ∧ oy < y ∧ y ≤ 64) => rnumbers_any (cC := cC) x y ox oy tx ty lv bw bh pr st od ly rct sop eph hu hl hx hy)
  obtain ⟨N, hN⟩ : ∃ N, cs.length = N := ⟨_, rfl⟩
  rw [hN] at hl NU ⊢
  have HN := Lib.hid hN
  clear hR h hN
  obtain ⟨B, hB⟩ : ∃ B, w.heap.size = B := ⟨_, rfl⟩
  obtain ⟨w1, hw1⟩ : ∃ w1, (w.alloc (.cells #[.int .i64 x, .int .i64 y, .int .i64 ox, .int .i64 oy, .slice AC N cC] 24)).alloc (.cells #[.int .i64 tx, .int .i64 ty, .int .i64 lv, .int .i64 bw, .int .i64 bh, .int .i64 pr, .int .i64 st, .int .i64 od, .int .i64 ly, .bool rct, .bool sop, .bool eph] 26) = w1 := ⟨_, rfl⟩
  have H1 : Hid (Below B w w1 ∧ w1.heap[B]? = some (.cells #[.int .i64 x, .int .i64 y, .int .i64 ox, .int .i64 oy, .slice AC N cC] 24 (0, 0)) ∧ w1.heap[B + 1]? = some (.cells #[.int .i64 tx, .int .i64 ty, .int .i64 lv, .int .i64 bw, .int .i64 bh, .int .i64 pr, .int .i64 st, .int .i64 od, .int .i64 ly, .bool rct, .bool sop, .bool eph] 26 (0, 0)) ∧ w1.heap.size = B + 2) := Lib.hid (by
    have h := allocs2 [Obj.cells #[.int .i64 x, .int .i64 y, .int .i64 ox, .int .i64 oy, .slice AC N cC] 24, Obj.cells #[.int .i64 tx, .int .i64 ty, .int .i64 lv, .int .i64 bw, .int .i64 bh, .int .i64 pr, .int .i64 st, .int .i64 od, .int .i64 ly, .bool rct, .bool sop, .bool eph] 26] w
    rw [show [Obj.cells #[.int .i64 x, .int .i64 y, .int .i64 ox, .int .i64 oy, .slice AC N cC] 24, Obj.cells #[.int .i64 tx, .int .i64 ty, .int .i64 lv, .int .i64 bw, .int .i64 bh, .int .i64 pr, .int .i64 st, .int .i64 od, .int .i64 ly, .bool rct, .bool sop, .bool eph] 26].foldl World.alloc w = w1 from hw1, hB] at h
    exact ⟨h.2.1, h.2.2 0 _ rfl, h.2.2 1 _ rfl, h.1⟩)
  have HE := Lib.hid (And.intro hw1 hB)
  have HW : Hid (Below w.heap.size w w1) := Lib.hid (by rw [hB]; exact H1.out.1)
  clear hw1 hB
  obtain ⟨c0, c1, c2, c3, c4⟩ := img_cells H1.out.2.1
  go_enter Try.func15, Try.ntmps15
  go_upto_region 1 with fail
  rw [show (w.alloc (.cells #[.int .i64 x, .int .i64 y, .int .i64 ox, .int .i64 oy, .slice AC N cC] 24)).alloc (.cells #[.int .i64 tx, .int .i64 ty, .int .i64 lv, .int .i64 bw, .int .i64 bh, .int .i64 pr, .int .i64 st, .int .i64 od, .int .i64 ly, .bool rct, .bool sop, .bool eph] 26) = w1 from HE.out.1, HE.out.2]
  by_cases t0 : ox < 0
  · have hR : R = 1 := by rw [← HR.out]; unfold frameF; rw [show gridF x y ox oy = 1 from by unfold gridF; rw [if_pos (by omega)]]; rfl
    subst hR
    clear HR
    go_wp2
    go_ret
    first | exact HW.out | exact ⟨rfl, HW.out⟩
  by_cases t1 : oy < 0
  · have hR : R = 1 := by rw [← HR.out]; unfold frameF; rw [show gridF x y ox oy = 1 from by unfold gridF; rw [if_pos (by omega)]]; rfl
    subst hR
    clear HR
    go_wp2
    go_ret
    first | exact HW.out | exact ⟨rfl, HW.out⟩
  by_cases t2 : x ≤ ox
  · have hR : R = 1 := by rw [← HR.out]; unfold frameF; rw [show gridF x y ox oy = 1 from by unfold gridF; rw [if_pos (by omega)]]; rfl
    subst hR
    clear HR
    go_wp2
    go_ret
    first | exact HW.out | exact ⟨rfl, HW.out⟩
  by_cases t3 : y ≤ oy
  · have hR : R = 1 := by rw [← HR.out]; unfold frameF; rw [show gridF x y ox oy = 1 from by unfold gridF; rw [if_pos (by omega)]]; rfl
    subst hR
    clear HR
    go_wp2
    go_ret
    first | exact HW.out | exact ⟨rfl, HW.out⟩
  by_cases s0 : 64 < x
  · have hR : R = 14 := by rw [← HR.out]; unfold frameF; rw [show gridF x y ox oy = 14 from by unfold gridF; rw [if_neg (by omega), if_pos (by omega)]]; rfl
    subst hR
    clear HR
    go_wp2
    go_ret
    first | exact HW.out | exact ⟨rfl, HW.out⟩
  by_cases s1 : 64 < y
  · have hR : R = 14 := by rw [← HR.out]; unfold frameF; rw [show gridF x y ox oy = 14 from by unfold gridF; rw [if_neg (by omega), if_pos (by omega)]]; rfl
    subst hR
    clear HR
    go_wp2
    go_ret
    first | exact HW.out | exact ⟨rfl, HW.out⟩
  have HG : Hid (gridF x y ox oy = 0) := Lib.hid (by unfold gridF; rw [if_neg (by omega), if_neg (by omega)])
  by_cases n0 : N < 1
  · have hR : R = 4 := by rw [← HR.out]; unfold frameF; rw [HG.out, if_neg (by simp), if_pos (by have h := HN.out; omega)]
    subst hR
    clear HR
    have ei : (N : Int) < 1 := by omega
    go_wp2
    go_ret
    first | exact HW.out | exact ⟨rfl, HW.out⟩
  have m0 : ¬ (N : Int) < 1 := by omega
  by_cases n1 : 4 < N
  · have hR : R = 4 := by rw [← HR.out]; unfold frameF; rw [HG.out, if_neg (by simp), if_pos (by have h := HN.out; omega)]
    subst hR
    clear HR
    have ei : (4 : Int) < (N : Int) := by omega
    go_wp2
    go_ret
    first | exact HW.out | exact ⟨rfl, HW.out⟩
  have m1 : ¬ (4 : Int) < (N : Int) := by omega
  have HXY : Hid ((0 ≤ ox ∧ ox < x ∧ x ≤ 64) ∧ (0 ≤ oy ∧ oy < y ∧ y ≤ 64)) := Lib.hid (by omega)
  have HR2 : Hid (R = if cs.all compB = false then 1 else numF x y ox oy cs tx ty lv bw bh pr st od ly rct) := Lib.hid (by
    rw [← HR.out]; unfold frameF numF; rw [HG.out, if_neg (by simp), if_neg (by have h := HN.out; omega)])
  clear HR HG
  go_upto_region 8 with fail
  have HWX : Hid (w1.heap[B]? = some (.cells #[.int .i64 x, .int .i64 y, .int .i64 ox, .int .i64 oy, .slice AC N cC] 24 (0, 0)) ∧ w1.heap[B + 1]? = some (.cells #[.int .i64 tx, .int .i64 ty, .int .i64 lv, .int .i64 bw, .int .i64 bh, .int .i64 pr, .int .i64 st, .int .i64 od, .int .i64 ly, .bool rct, .bool sop, .bool eph] 26 (0, 0)) ∧ w1.heap.size = B + 2) := Lib.hid H1.out.2
  have HBB : Hid (w.heap.size = B) := Lib.hid HE.out.2
  clear c0 c1 c2 c3 c4 t0 t1 t2 t3 s0 s1 n0 n1 m0 m1 H1 HE
  go_loopw [5] (fun iv wr => ∃ i : Nat, i ≤ N ∧ iv = .int .i64 (i : Int) ∧ Hid (wr.heap[B]? = some (.cells #[.int .i64 x, .int .i64 y, .int .i64 ox, .int .i64 oy, .slice AC N cC] 24 (0, 0)) ∧ wr.heap[B + 1]? = some (.cells #[.int .i64 tx, .int .i64 ty, .int .i64 lv, .int .i64 bw, .int .i64 bh, .int .i64 pr, .int .i64 st, .int .i64 od, .int .i64 ly, .bool rct, .bool sop, .bool eph] 26 (0, 0))) ∧ Hid (Below w.heap.size w wr) ∧ Hid (∀ j c, j < i → cs[j]? = some c → compB c = true)) (fun iv _ => N - (intOf iv).toNat)
  case atStart => exact ⟨0, by omega, rfl, Lib.hid ⟨HWX.out.1, HWX.out.2.1⟩, HW, Lib.hid (fun j c hj => absurd hj (by omega))⟩
  case round =>
    obtain ⟨i, hi, rfl, HXi, HBi, HA⟩ := hrel
    clear HW HWX
    obtain ⟨wr', hwr'⟩ : ∃ u, u = wr := ⟨wr, rfl⟩
    subst hwr'
    obtain ⟨g0, g1, g2, g3, g4⟩ := img_cells HXi.out.1
    obtain ⟨k0, k1, k2, k3, k4, k5, k6, k7, k8, k9, k10, k11⟩ := par_cells HXi.out.2
    have hszi : B + 1 < wr'.heap.size := (Array.getElem?_eq_some_iff.1 HXi.out.2).1
    by_cases ci : i < N
    · obtain ⟨c, hcc⟩ : ∃ c, cs[i]? = some c := ⟨_, List.getElem?_eq_getElem (by rw [HN.out]; exact ci)⟩
      obtain ⟨b, o, rfl, hbl, c0, c1, c2, c3, c4⟩ := (HI.out.keep HBi.out) i c hcc
      have ci' : (i : Int) < (N : Int) := by omega
      have HCC := Lib.hid hcc
      have HXn : Hid (∀ o2, (wr'.alloc o2).heap[B]? = some (.cells #[.int .i64 x, .int .i64 y, .int .i64 ox, .int .i64 oy, .slice (some ⟨b, o, none⟩) N cC] 24 (0, 0)) ∧ (wr'.alloc o2).heap[B + 1]? = some (.cells #[.int .i64 tx, .int .i64 ty, .int .i64 lv, .int .i64 bw, .int .i64 bh, .int .i64 pr, .int .i64 st, .int .i64 od, .int .i64 ly, .bool rct, .bool sop, .bool eph] 26 (0, 0))) := Lib.hid (fun o' => ⟨(Below.heap_alloc wr' _ _ (by omega)).trans HXi.out.1, (Below.heap_alloc wr' _ _ hszi).trans HXi.out.2⟩)
      have HBn : Hid (∀ o, Below w.heap.size w (wr'.alloc o)) := Lib.hid (fun o' => HBi.out.alloc HBi.out.size _)
      obtain ⟨cd, csg, cdx, cdy, cA, cn, ccp⟩ := c
      simp only at c0 c1 c2 c3 c4
      have hbad : compB ⟨cd, csg, cdx, cdy, cA, cn, ccp⟩ = false → R = 1 := fun e => by
        rw [HR2.out, if_pos]
        rw [List.all_eq_false]
        exact ⟨_, List.mem_of_getElem? HCC.out, by rw [e]; decide⟩
      have HBD := Lib.hid hbad
      clear hbad hcc g0 g1 g2 g3 k0 k1 k2 k3 k4 k5 k6 k7 k8 k9 k10 k11
      by_cases q0 : cd < 1
      · have hR : R = 1 := HBD.out (by
          cases hh : compB ⟨cd, csg, cdx, cdy, cA, cn, ccp⟩ with
          | false => rfl
          | true =>
            unfold compB inB at hh
            simp at hh
            omega)
        subst hR
        clear HBD HR2
        go_wp2
        go_ret
        first | exact HBn.out _ | exact ⟨rfl, HBn.out _⟩
      by_cases q1 : 16 < cd
      · have hR : R = 1 := HBD.out (by
          cases hh : compB ⟨cd, csg, cdx, cdy, cA, cn, ccp⟩ with
          | false => rfl
          | true =>
            unfold compB inB at hh
            simp at hh
            omega)
        subst hR
        clear HBD HR2
        go_wp2
        go_ret
        first | exact HBn.out _ | exact ⟨rfl, HBn.out _⟩
      by_cases q2 : cdx < 1
      · have hR : R = 1 := HBD.out (by
          cases hh : compB ⟨cd, csg, cdx, cdy, cA, cn, ccp⟩ with
          | false => rfl
          | true =>
            unfold compB inB at hh
            simp at hh
            omega)
        subst hR
        clear HBD HR2
        go_wp2
        go_ret
        first | exact HBn.out _ | exact ⟨rfl, HBn.out _⟩
      by_cases q3 : 4 < cdx
      · have hR : R = 1 := HBD.out (by
          cases hh : compB ⟨cd, csg, cdx, cdy, cA, cn, ccp⟩ with
          | false => rfl
          | true =>
            unfold compB inB at hh
            simp at hh
            omega)
        subst hR
        clear HBD HR2
        go_wp2
        go_ret
        first | exact HBn.out _ | exact ⟨rfl, HBn.out _⟩
      by_cases q4 : cdy < 1
      · have hR : R = 1 := HBD.out (by
          cases hh : compB ⟨cd, csg, cdx, cdy, cA, cn, ccp⟩ with
          | false => rfl
          | true =>
            unfold compB inB at hh
            simp at hh
            omega)
        subst hR
        clear HBD HR2
        go_wp2
        go_ret
        first | exact HBn.out _ | exact ⟨rfl, HBn.out _⟩
      by_cases q5 : 4 < cdy
      · have hR : R = 1 := HBD.out (by
          cases hh : compB ⟨cd, csg, cdx, cdy, cA, cn, ccp⟩ with
          | false => rfl
          | true =>
            unfold compB inB at hh
            simp at hh
            omega)
        subst hR
        clear HBD HR2
        go_wp2
        go_ret
        first | exact HBn.out _ | exact ⟨rfl, HBn.out _⟩
      have HOK : Hid (compB ⟨cd, csg, cdx, cdy, cA, cn, ccp⟩ = true) := Lib.hid (by unfold compB inB; simp; omega)
      go_wp2
      go_roundw
      case rel => exact ⟨i + 1, by omega, by go_num, Lib.hid (HXn.out _), Lib.hid (HBn.out _), Lib.hid (fun j c hj hc => by
        rcases (by omega : j < i ∨ j = i) with hj | rfl
        · exact HA.out j c hj hc
        · rw [HCC.out] at hc
          injection hc with hc
          rw [← hc]
          exact HOK.out)⟩
      case measure => simp [intOf] <;> omega
    · obtain rfl : i = N := by omega
      have ci' : ¬ (i : Int) < (i : Int) := by omega
      have HRN : Hid (R = numF x y ox oy cs tx ty lv bw bh pr st od ly rct) := Lib.hid (by
        rw [HR2.out, if_neg]
        have h : cs.all compB = true := List.all_eq_true.2 (fun c hc => by
          obtain ⟨j, hj, hj2⟩ := List.mem_iff_getElem.1 hc
          exact HA.out j c (by rw [← HN.out]; exact hj) (by rw [List.getElem?_eq_getElem hj, hj2]))
        rw [h]; simp)
      clear HR2
      have HBF : Hid (∀ v : World, Below wr'.heap.size wr' v → Below w.heap.size w v) := Lib.hid (fun v h => HBi.out.trans (h.mono HBi.out.size))
      go_wp2_with fail
      refine (NU.out _ (HI.out.keep HBi.out) HXY.out.1 HXY.out.2).mono ?_
      rintro e w2 ⟨rfl, hb⟩
      rw [← HRN.out]
      have HBE := Lib.hid (HBF.out _ hb)
      clear hb g0 g1 g2 g3 g4 k0 k1 k2 k3 k4 k5 k6 k7 k8 k9 k10 k11
      go_wp2
      go_ret
      first | exact HBE.out | exact ⟨rfl, HBE.out⟩
end Go.Proofs.Ythcpmonahmogaaa
