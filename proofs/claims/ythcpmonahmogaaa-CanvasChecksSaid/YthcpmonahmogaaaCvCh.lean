/- Check of package canvas, by its contract. -/
import Derived.Test.YthcpmonahmogaaaCvF
import Derived.Test.YthcpmonahmogaaaAnyInv
import Derived.Test.YthcpmonahmogaaaCvSm
set_option linter.unusedVariables false
set_option linter.unusedSimpArgs false
namespace Go.Proofs.Ythcpmonahmogaaa
open Go.RowKit
set_option maxRecDepth 100000
/-- What checkSamples says of a component, its part of the picture beside it. -/
def sampC (x y ox oy : Int) (c : Cp) (l : List Int) : Int := smpF c.d.toNat c.sg c.n (ceilF ox c.dx) (ceilF oy c.dy) (ceilF x c.dx) (ceilF y c.dy) l
/-- The first fault of the components' samples, from the j-th on. -/
def firstBad (x y ox oy : Int) (ds : Nat → List Int) : List Cp → Nat → Int
  | [], _ => 0
  | c :: r, j => if sampC x y ox oy c (ds j) = 0 then firstBad x y ox oy ds r (j + 1) else sampC x y ox oy c (ds j)
set_option maxHeartbeats 4000000 in
set_option pp.deepTerms true in
set_option pp.maxSteps 10000000 in
theorem check_any {AC : Option Addr} {cC : Nat} {cs : List Cp} {w : World} (ds : Nat → List Int) (x y ox oy tx ty lv bw bh pr st od ly : Int) (rct sop eph : Bool) (h : CompsAt w AC cs) (hc : cs.length ≤ cC ∧ cC ≤ maxLen)
    (hd : ∀ (i : Nat) (c : Cp), cs[i]? = some c → Lst w w.heap.size c.A ((ds i).map (Value.int .i64)) ∧ (ds i).length = c.n ∧ c.n ≤ 1000000) :
    Calls Try.prog 12 #[.agg #[.int .i64 x, .int .i64 y, .int .i64 ox, .int .i64 oy, .slice AC cs.length cC], .agg #[.int .i64 tx, .int .i64 ty, .int .i64 lv, .int .i64 bw, .int .i64 bh, .int .i64 pr, .int .i64 st, .int .i64 od, .int .i64 ly, .bool rct, .bool sop, .bool eph]] w fun e w' =>
      e = .returned (.int .i64 (if frameF x y ox oy cs tx ty lv bw bh pr st od ly rct = 0 then firstBad x y ox oy ds cs 0 else frameF x y ox oy cs tx ty lv bw bh pr st od ly rct)) ∧ Below w.heap.size w w' := by
  have HI := Lib.hid h
  have HC := Lib.hid hc
  have HD := Lib.hid hd
  have FA := Lib.hid (fun (u : World) (hu : CompsAt u AC cs) => frame_any x y ox oy tx ty lv bw bh pr st od ly rct sop eph hu hc)
  have hcl := hc.1
  have hc2 := hc.2
  unfold maxLen at hc2
  obtain ⟨R, hR⟩ : ∃ R, frameF x y ox oy cs tx ty lv bw bh pr st od ly rct = R := ⟨_, rfl⟩
  rw [hR] at FA ⊢
  have HR := Lib.hid hR
  obtain ⟨N, hN⟩ : ∃ N, cs.length = N := ⟨_, rfl⟩
  rw [hN] at FA hcl ⊢
  have HN := Lib.hid hN
  clear h hc hd hR hN
  go_enter Try.func12, Try.ntmps12
  go_wp2_with fail
  obtain ⟨W0, hW0⟩ : ∃ W0, (w.alloc (Obj.cells #[.int .i64 x, .int .i64 y, .int .i64 ox, .int .i64 oy, .slice AC N cC] 24)).alloc (Obj.cells #[.int .i64 tx, .int .i64 ty, .int .i64 lv, .int .i64 bw, .int .i64 bh, .int .i64 pr, .int .i64 st, .int .i64 od, .int .i64 ly, .bool rct, .bool sop, .bool eph] 26) = W0 := ⟨_, rfl⟩
  have hB : Below w.heap.size w W0 := by rw [← hW0]; exact ((Below.refl _ w).alloc (Nat.le_refl _) _).alloc (by simp) _
  have b1 : W0.heap[w.heap.size]? = some (.cells #[.int .i64 x, .int .i64 y, .int .i64 ox, .int .i64 oy, .slice AC N cC] 24 (0, 0)) := by
    rw [← hW0, Below.heap_alloc _ _ _ (by simp)]; exact World.alloc_heap_new w _
  have hs0 : w.heap.size < W0.heap.size := by rw [← hW0]; simp; omega
  rw [hW0]
  clear hW0
  refine (FA.out W0 (HI.out.keep hB)).mono ?_
  rintro e w1 ⟨rfl, bf⟩
  have HB := Lib.hid (hB.trans (bf.mono (by omega)))
  have b2 := (bf.block w.heap.size hs0).trans b1
  clear FA hB b1 bf
  by_cases hr : R = 0
  · subst hr
    have g0 : w1.cell? ⟨w.heap.size, 0, none⟩ = some (.int .i64 x) := by simp [World.cell?, b2]
    have g1 : w1.cell? ⟨w.heap.size, 1, none⟩ = some (.int .i64 y) := by simp [World.cell?, b2]
    have g2 : w1.cell? ⟨w.heap.size, 2, none⟩ = some (.int .i64 ox) := by simp [World.cell?, b2]
    have g3 : w1.cell? ⟨w.heap.size, 3, none⟩ = some (.int .i64 oy) := by simp [World.cell?, b2]
    have HF : Hid (gridF x y ox oy = 0 ∧ cs.all compB = true) := Lib.hid (by
      have h := HR.out
      unfold frameF at h
      split at h
      · exact absurd h (by assumption)
      rename_i hg
      refine ⟨by omega, ?_⟩
      split at h
      · cases h
      split at h
      · cases h
      · rename_i hk; simpa using hk)
    have hgr := grid_zero HF.out.1
    go_upto_region 5 with fail
    obtain ⟨r, hr⟩ : ∃ r, w1.heap.size = r := ⟨_, rfl⟩
    obtain ⟨W2, hW2⟩ : ∃ W2, w1.alloc (Obj.cells #[.int .i64 ox, .int .i64 oy, .int .i64 x, .int .i64 y] 48) = W2 := ⟨_, rfl⟩
    have hwr : w.heap.size < r := by rw [← hr]; exact World.block_lt_of_cell? w1 _ g0
    have br : W2.heap[r]? = some (.cells #[.int .i64 ox, .int .i64 oy, .int .i64 x, .int .i64 y] 48 (0, 0)) := by rw [← hW2, ← hr]; exact World.alloc_heap_new w1 _
    have hB2 : Below w.heap.size w W2 := by rw [← hW2]; exact HB.out.alloc (by omega) _
    have hrs : r < W2.heap.size := by rw [← hW2, ← hr]; simp
    have g4 : W2.cell? ⟨w.heap.size, 4, none⟩ = some (.slice AC N cC) := by
      rw [← hW2, World.cell?_alloc_lt w1 _ _ (by show w.heap.size < w1.heap.size; omega)]; simp [World.cell?, b2]
    rw [hW2, hr]
    have HB2 := Lib.hid hB2
    have HBR := Lib.hid br
    clear hW2 hr g0 g1 g2 g3 b2 HB br hB2 hs0
    go_wp2
    go_loopw [28] (fun i wr => ∃ j : Nat, j ≤ N ∧ i = .int .i64 (j : Int) ∧ firstBad x y ox oy ds cs 0 = firstBad x y ox oy ds (cs.drop j) j ∧ Below w.heap.size w wr ∧ wr.heap[r]? = some (.cells #[.int .i64 ox, .int .i64 oy, .int .i64 x, .int .i64 y] 48 (0, 0)) ∧ r < wr.heap.size) (fun i _ => N - (intOf i).toNat)
    case atStart => exact ⟨0, by omega, rfl, rfl, HB2.out, HBR.out, hrs⟩
    case round =>
      obtain ⟨j, hj, rfl, hfb, hb, hbr, hlt2⟩ := hrel
      have HFB := Lib.hid hfb
      have HB3 := Lib.hid hb
      have HBR3 := Lib.hid hbr
      clear hfb hb hbr HB2 HBR hrs g4
      by_cases hlt : j < N
      · have hjl : j < cs.length := by have := HN.out; omega
        obtain ⟨cp, hx⟩ : ∃ cp, cs[j] = cp := ⟨_, rfl⟩
        have hx2 : cs[j]? = some cp := by rw [List.getElem?_eq_getElem hjl, hx]
        have HX := Lib.hid hx2
        obtain ⟨bk, o, rfl, hbk, c0, c1, c2, c3, c4⟩ := (HI.out.keep (HB3.out)) j cp hx2
        have h2 : (j : Int) < (N : Int) := by omega
        have h4 : (0 : Int) ≤ (j : Int) := by omega
        obtain ⟨dd, sg, dx, dy, A, n, cap⟩ := cp
        simp only at c0 c1 c2 c3 c4
        clear hx hx2
        -- FACTS
        have hcb : compB ⟨dd, sg, dx, dy, A, n, cap⟩ = true := List.all_eq_true.1 HF.out.2 _ (List.mem_of_getElem? HX.out)
        unfold compB inB at hcb
        simp only [Bool.and_eq_true, decide_eq_true_eq] at hcb
        obtain ⟨d, rfl⟩ : ∃ d : Nat, dd = (d : Int) := ⟨dd.toNat, by omega⟩
        have hd16 : 1 ≤ d ∧ d ≤ 38 := by omega
        have hdx : 1 ≤ dx ∧ dx ≤ 4 := by omega
        have hdy : 1 ≤ dy ∧ dy ≤ 4 := by omega
        obtain ⟨SR, hSR⟩ : ∃ SR, sampC x y ox oy ⟨(d : Int), sg, dx, dy, A, n, cap⟩ (ds j) = SR := ⟨_, rfl⟩
        have HSR := Lib.hid hSR
        have HDR : Hid (cs.drop j = ⟨(d : Int), sg, dx, dy, A, n, cap⟩ :: cs.drop (j + 1)) := Lib.hid (by
          rw [List.drop_eq_getElem_cons hjl]
          have := HX.out
          rw [List.getElem?_eq_getElem hjl] at this
          rw [Option.some.inj this])
        have hDj := HD.out j _ HX.out
        simp only at hDj
        have k1 := ceil_bd ox dx (by omega) (by omega)
        have k2 := ceil_bd oy dy (by omega) (by omega)
        have k3 := ceil_bd x dx (by omega) (by omega)
        have k4 := ceil_bd y dy (by omega) (by omega)
        have m1 : ceilF ox dx ≤ ceilF x dx := ceil_mono (by omega) (by omega)
        have m2 : ceilF oy dy ≤ ceilF y dy := ceil_mono (by omega) (by omega)
        unfold sampC at hSR
        simp only [Int.toNat_natCast] at hSR
        have F6' : ∀ u, Calls Try.prog 21 #[.agg #[.int .i64 ox, .int .i64 oy, .int .i64 x, .int .i64 y], .int .i64 dx, .int .i64 dy] u fun e w' => e = .returned (.agg #[.int .i64 (ceilF ox dx), .int .i64 (ceilF oy dy), .int .i64 (ceilF x dx), .int .i64 (ceilF y dy)]) ∧ Below u.heap.size u w' := fun u => part_any ox oy x y dx dy u (by omega) (by omega) (by omega) (by omega) (by omega) (by omega)
        have F7' : ∀ u, Below w.heap.size w u → Calls Try.prog 34 #[.agg #[.int .i64 (d : Int), .bool sg, .int .i64 dx, .int .i64 dy, .slice A n cap], .agg #[.int .i64 (ceilF ox dx), .int .i64 (ceilF oy dy), .int .i64 (ceilF x dx), .int .i64 (ceilF y dy)]] u fun e w' => e = .returned (.int .i64 SR) ∧ Below u.heap.size u w' := fun u hu => by
          rw [← hSR]
          exact samples_any d sg dx dy (ceilF ox dx) (ceilF oy dy) (ceilF x dx) (ceilF y dy) A n cap (ds j) u ((hDj.1.below hu).more hu.size) hDj.2.1 hd16 hDj.2.2 ⟨k1.1, m1, by omega⟩ ⟨k2.1, m2, by omega⟩
        generalize ceilF ox dx = p0 at *
        generalize ceilF oy dy = p1 at *
        generalize ceilF x dx = p2 at *
        generalize ceilF y dy = p3 at *
        obtain ⟨z, hz⟩ : ∃ z, wr.heap.size = z := ⟨_, rfl⟩
        obtain ⟨V0, hV0⟩ : ∃ V0, wr.alloc (Obj.cells #[.int .i64 (d : Int), .bool sg, .int .i64 dx, .int .i64 dy, .slice A n cap] 39) = V0 := ⟨_, rfl⟩
        have vz : V0.heap[z]? = some (.cells #[.int .i64 (d : Int), .bool sg, .int .i64 dx, .int .i64 dy, .slice A n cap] 39 (0, 0)) := by rw [← hV0, ← hz]; exact World.alloc_heap_new wr _
        have vr : V0.heap[r]? = some (.cells #[.int .i64 ox, .int .i64 oy, .int .i64 x, .int .i64 y] 48 (0, 0)) := by rw [← hV0, Below.heap_alloc _ _ _ hlt2]; exact HBR3.out
        have vB : Below w.heap.size w V0 := by rw [← hV0]; exact HB3.out.alloc HB3.out.size _
        have vs : V0.heap.size = z + 1 := by rw [← hV0, ← hz]; simp
        have hV0' := hV0
        clear hSR hDj k1 k2 k3 k4 m1 m2 hcb
        go_wp2
        try rw [hV0]
        try rw [hz]
        clear hV0 hV0'
        obtain ⟨V, hV⟩ : ∃ V, V0.drew = V := ⟨_, rfl⟩
        have HVR : Hid (V.heap[r]? = some (.cells #[.int .i64 ox, .int .i64 oy, .int .i64 x, .int .i64 y] 48 (0, 0))) := Lib.hid (by rw [← hV]; exact vr)
        have HVZ : Hid (V.heap[z]? = some (.cells #[.int .i64 (d : Int), .bool sg, .int .i64 dx, .int .i64 dy, .slice A n cap] 39 (0, 0))) := Lib.hid (by rw [← hV]; exact vz)
        have HBV : Hid (Below w.heap.size w V) := Lib.hid (by rw [← hV]; exact below_drewN vB 1)
        have Hz : Hid (z < V.heap.size) := Lib.hid (by rw [← hV]; show z < V0.heap.size; omega)
        have Hr : Hid (r < V.heap.size) := Lib.hid (by rw [← hV]; show r < V0.heap.size; omega)
        have HV : Hid ((V.cell? ⟨z, 0, none⟩ = some (.int .i64 (d : Int)) ∧ V.cell? ⟨z, 1, none⟩ = some (.bool sg) ∧ V.cell? ⟨z, 2, none⟩ = some (.int .i64 dx) ∧ V.cell? ⟨z, 3, none⟩ = some (.int .i64 dy) ∧ V.cell? ⟨z, 4, none⟩ = some (.slice A n cap)) ∧ (V.cell? ⟨r, 0, none⟩ = some (.int .i64 ox) ∧ V.cell? ⟨r, 1, none⟩ = some (.int .i64 oy) ∧ V.cell? ⟨r, 2, none⟩ = some (.int .i64 x) ∧ V.cell? ⟨r, 3, none⟩ = some (.int .i64 y))) := Lib.hid (by
          have a := HVZ.out
          have b := HVR.out
          refine ⟨⟨?_, ?_, ?_, ?_, ?_⟩, ?_, ?_, ?_, ?_⟩ <;> simp [World.cell?, a, b])
        have F6 : Hid (∀ u, Below V.heap.size V u → Calls Try.prog 21 #[.agg #[.int .i64 ox, .int .i64 oy, .int .i64 x, .int .i64 y], .int .i64 dx, .int .i64 dy] u fun e w' => e = .returned (.agg #[.int .i64 p0, .int .i64 p1, .int .i64 p2, .int .i64 p3]) ∧ Below u.heap.size u w') := Lib.hid fun u _ => F6' u
        have F7 : Hid (∀ u, Below V.heap.size V u → Calls Try.prog 34 #[.agg #[.int .i64 (d : Int), .bool sg, .int .i64 dx, .int .i64 dy, .slice A n cap], .agg #[.int .i64 p0, .int .i64 p1, .int .i64 p2, .int .i64 p3]] u fun e w' => e = .returned (.int .i64 SR) ∧ Below u.heap.size u w') := Lib.hid fun u hu => F7' u (HBV.out.trans (hu.mono HBV.out.size))
        have HS0 : Hid (Below V.heap.size V V0.drew) := Lib.hid (by rw [hV]; exact Below.refl _ _)
        clear F6' F7' vz vr vB vs hV HB3 HBR3 c0 c1 c2 c3 c4
        -- REGION
        refine (wpIn_wide (n := 9)).1 (regionIn_inv (Inv := fun L a' w' => a' = { tmps := #[.agg #[.int .i64 x, .int .i64 y, .int .i64 ox, .int .i64 oy, .slice (some ⟨bk, o, none⟩) N cC], .agg #[.int .i64 tx, .int .i64 ty, .int .i64 lv, .int .i64 bw, .int .i64 bh, .int .i64 pr, .int .i64 st, .int .i64 od, .int .i64 ly, .bool rct, .bool sop, .bool eph], .pointer (some ⟨w.heap.size, 0, none⟩), .pointer (some ⟨w.heap.size + 1, 0, none⟩), u4, .int .i64 0, .pointer (some ⟨r, 0, none⟩), undef, .pointer (some ⟨z, 0, none⟩), bif L 8 then .int .i64 SR else u9, .agg #[.int .i64 x, .int .i64 y, .int .i64 ox, .int .i64 oy, .slice (some ⟨bk, o, none⟩) N cC], .agg #[.int .i64 tx, .int .i64 ty, .int .i64 lv, .int .i64 bw, .int .i64 bh, .int .i64 pr, .int .i64 st, .int .i64 od, .int .i64 ly, .bool rct, .bool sop, .bool eph], .int .i64 0, .int .i64 0, .bool false, undef, .pointer (some ⟨w.heap.size, 2, none⟩), .int .i64 ox, .pointer (some ⟨w.heap.size, 3, none⟩), .int .i64 oy, .pointer (some ⟨w.heap.size, 0, none⟩), .int .i64 x, .pointer (some ⟨w.heap.size, 1, none⟩), .int .i64 y, .agg #[.int .i64 ox, .int .i64 oy, .int .i64 x, .int .i64 y], .pointer (some ⟨w.heap.size, 4, none⟩), .slice (some ⟨bk, o, none⟩) N cC, .int .i64 (N : Int), .int .i64 (j : Int), .bool true, .pointer (some ⟨bk, o + j * 5, none⟩), .agg #[.int .i64 (d : Int), .bool sg, .int .i64 dx, .int .i64 dy, .slice A n cap], bif L 0 then .agg #[.int .i64 (d : Int), .bool sg, .int .i64 dx, .int .i64 dy, .slice A n cap] else u32, bif L 1 then .agg #[.int .i64 ox, .int .i64 oy, .int .i64 x, .int .i64 y] else u33, bif L 2 then .pointer (some ⟨z, 2, none⟩) else u34, bif L 3 then .int .i64 dx else u35, bif L 4 then .pointer (some ⟨z, 3, none⟩) else u36, bif L 5 then .int .i64 dy else u37, bif L 6 then .agg #[.int .i64 p0, .int .i64 p1, .int .i64 p2, .int .i64 p3] else u38, bif L 7 then .int .i64 SR else u39, u40, u41, u42, u43], defers := [] } ∧ (True) ∧ (bif L 7 then (Below V.heap.size V w') else Below V.heap.size V w')) (by kernel_rfl) (by kernel_rfl) ?start ?step ?fin)
        case start => exact ⟨rfl, trivial, HS0.out⟩
        case step =>
          intro i hi L a' w' hI hs hu
          obtain ⟨rfl, hcm, hph⟩ := hI
          have hL := hu.1
          have hi : i < 9 := hi
          obtain rfl | rfl | rfl | rfl | rfl | rfl | rfl | rfl | rfl := (by omega : i = 0 ∨ i = 1 ∨ i = 2 ∨ i = 3 ∨ i = 4 ∨ i = 5 ∨ i = 6 ∨ i = 7 ∨ i = 8)
          · skip
            have n7 : L 7 = false := not_yet hL fun h => shut_at hs 7 0 (by kernel_rfl) (h)
            have hbw : Below V.heap.size V w' := by simpa [n7] using hph
            have qz0 : w'.cell? ⟨z, 0, none⟩ = some (.int .i64 (d : Int)) := (hbw.cell (p := ⟨z, 0, none⟩) Hz.out).trans HV.out.1.1
            have qz1 : w'.cell? ⟨z, 1, none⟩ = some (.bool sg) := (hbw.cell (p := ⟨z, 1, none⟩) Hz.out).trans HV.out.1.2.1
            have qz2 : w'.cell? ⟨z, 2, none⟩ = some (.int .i64 dx) := (hbw.cell (p := ⟨z, 2, none⟩) Hz.out).trans HV.out.1.2.2.1
            have qz3 : w'.cell? ⟨z, 3, none⟩ = some (.int .i64 dy) := (hbw.cell (p := ⟨z, 3, none⟩) Hz.out).trans HV.out.1.2.2.2.1
            have qz4 : w'.cell? ⟨z, 4, none⟩ = some (.slice A n cap) := (hbw.cell (p := ⟨z, 4, none⟩) Hz.out).trans HV.out.1.2.2.2.2
            refine opIn_run (v := .agg #[.int .i64 (d : Int), .bool sg, .int .i64 dx, .int .i64 dy, .slice A n cap]) (w' := w') rfl rfl (fun c h => by cases h) (fun _ => trivial) ?_ ⟨by simp [Act.put, upd, n7, hL], hcm, by simpa [upd] using hph⟩
            simp only [n7, hL, cond_true, cond_false]
            go_simp
          · skip
            have n7 : L 7 = false := not_yet hL fun h => shut_at hs 6 1 (by kernel_rfl) (shut_at hs 7 6 (by kernel_rfl) (h))
            have hbw : Below V.heap.size V w' := by simpa [n7] using hph
            have qr0 : w'.cell? ⟨r, 0, none⟩ = some (.int .i64 ox) := (hbw.cell (p := ⟨r, 0, none⟩) Hr.out).trans HV.out.2.1
            have qr1 : w'.cell? ⟨r, 1, none⟩ = some (.int .i64 oy) := (hbw.cell (p := ⟨r, 1, none⟩) Hr.out).trans HV.out.2.2.1
            have qr2 : w'.cell? ⟨r, 2, none⟩ = some (.int .i64 x) := (hbw.cell (p := ⟨r, 2, none⟩) Hr.out).trans HV.out.2.2.2.1
            have qr3 : w'.cell? ⟨r, 3, none⟩ = some (.int .i64 y) := (hbw.cell (p := ⟨r, 3, none⟩) Hr.out).trans HV.out.2.2.2.2
            refine opIn_run (v := .agg #[.int .i64 ox, .int .i64 oy, .int .i64 x, .int .i64 y]) (w' := w') rfl rfl (fun c h => by cases h) (fun _ => trivial) ?_ ⟨by simp [Act.put, upd, n7, hL], hcm, by simpa [upd] using hph⟩
            simp only [n7, hL, cond_true, cond_false]
            go_simp
          · skip
            have n7 : L 7 = false := not_yet hL fun h => shut_at hs 3 2 (by kernel_rfl) (shut_at hs 6 3 (by kernel_rfl) (shut_at hs 7 6 (by kernel_rfl) (h)))
            refine opIn_run (v := .pointer (some ⟨z, 2, none⟩)) (w' := w') rfl rfl (fun c h => by cases h) (fun _ => trivial) ?_ ⟨by simp [Act.put, upd, n7, hL], hcm, by simpa [upd] using hph⟩
            simp only [n7, hL, cond_true, cond_false]
            go_simp
          · skip
            have y2 : L 2 = true := up_at hu 2 (by kernel_rfl)
            have n7 : L 7 = false := not_yet hL fun h => shut_at hs 6 3 (by kernel_rfl) (shut_at hs 7 6 (by kernel_rfl) (h))
            have hbw : Below V.heap.size V w' := by simpa [n7] using hph
            have qz2 : w'.cell? ⟨z, 2, none⟩ = some (.int .i64 dx) := (hbw.cell (p := ⟨z, 2, none⟩) Hz.out).trans HV.out.1.2.2.1
            refine opIn_run (v := .int .i64 dx) (w' := w') rfl rfl (fun c h => by cases h) (fun _ => trivial) ?_ ⟨by simp [Act.put, upd, y2, n7, hL], hcm, by simpa [upd] using hph⟩
            simp only [y2, n7, hL, cond_true, cond_false]
            go_simp
          · skip
            have n7 : L 7 = false := not_yet hL fun h => shut_at hs 5 4 (by kernel_rfl) (shut_at hs 6 5 (by kernel_rfl) (shut_at hs 7 6 (by kernel_rfl) (h)))
            refine opIn_run (v := .pointer (some ⟨z, 3, none⟩)) (w' := w') rfl rfl (fun c h => by cases h) (fun _ => trivial) ?_ ⟨by simp [Act.put, upd, n7, hL], hcm, by simpa [upd] using hph⟩
            simp only [n7, hL, cond_true, cond_false]
            go_simp
          · skip
            have y4 : L 4 = true := up_at hu 4 (by kernel_rfl)
            have n7 : L 7 = false := not_yet hL fun h => shut_at hs 6 5 (by kernel_rfl) (shut_at hs 7 6 (by kernel_rfl) (h))
            have hbw : Below V.heap.size V w' := by simpa [n7] using hph
            have qz3 : w'.cell? ⟨z, 3, none⟩ = some (.int .i64 dy) := (hbw.cell (p := ⟨z, 3, none⟩) Hz.out).trans HV.out.1.2.2.2.1
            refine opIn_run (v := .int .i64 dy) (w' := w') rfl rfl (fun c h => by cases h) (fun _ => trivial) ?_ ⟨by simp [Act.put, upd, y4, n7, hL], hcm, by simpa [upd] using hph⟩
            simp only [y4, n7, hL, cond_true, cond_false]
            go_simp
          · skip
            have y1 : L 1 = true := up_at hu 1 (by kernel_rfl)
            have y2 : L 2 = true := shut_at hs 3 2 (by kernel_rfl) (up_at hu 3 (by kernel_rfl))
            have y3 : L 3 = true := up_at hu 3 (by kernel_rfl)
            have y4 : L 4 = true := shut_at hs 5 4 (by kernel_rfl) (up_at hu 5 (by kernel_rfl))
            have y5 : L 5 = true := up_at hu 5 (by kernel_rfl)
            have n7 : L 7 = false := not_yet hL fun h => shut_at hs 7 6 (by kernel_rfl) (h)
            simp only [y1, y2, y3, y4, y5, n7, hL, cond_false, cond_true] at hph
            refine opIn_call (f := 21) (args := #[.agg #[.int .i64 ox, .int .i64 oy, .int .i64 x, .int .i64 y], .int .i64 dx, .int .i64 dy]) (w' := w') rfl rfl (fun c h => by cases h) (fun _ => trivial) rfl ?_ ((callsIn_wide.2 (F6.out w' hph)).mono ?_)
            · simp only [y1, y2, y3, y4, y5, n7, hL, cond_true, cond_false]
              go_simp
            · rintro e w2 ⟨rfl, bx⟩
              exact ⟨_, rfl, by simp [Act.put, upd, y1, y2, y3, y4, y5, n7, hL], trivial, by simp only [upd, y1, y2, y3, y4, y5, n7, hL]; exact hph.trans (bx.mono hph.size)⟩
          · skip
            have y0 : L 0 = true := up_at hu 0 (by kernel_rfl)
            have y1 : L 1 = true := shut_at hs 6 1 (by kernel_rfl) (up_at hu 6 (by kernel_rfl))
            have y2 : L 2 = true := shut_at hs 3 2 (by kernel_rfl) (shut_at hs 6 3 (by kernel_rfl) (up_at hu 6 (by kernel_rfl)))
            have y3 : L 3 = true := shut_at hs 6 3 (by kernel_rfl) (up_at hu 6 (by kernel_rfl))
            have y4 : L 4 = true := shut_at hs 5 4 (by kernel_rfl) (shut_at hs 6 5 (by kernel_rfl) (up_at hu 6 (by kernel_rfl)))
            have y5 : L 5 = true := shut_at hs 6 5 (by kernel_rfl) (up_at hu 6 (by kernel_rfl))
            have y6 : L 6 = true := up_at hu 6 (by kernel_rfl)
            simp only [y0, y1, y2, y3, y4, y5, y6, hL, cond_false, cond_true] at hph
            refine opIn_call (f := 34) (args := #[.agg #[.int .i64 (d : Int), .bool sg, .int .i64 dx, .int .i64 dy, .slice A n cap], .agg #[.int .i64 p0, .int .i64 p1, .int .i64 p2, .int .i64 p3]]) (w' := w') rfl rfl (fun c h => by cases h) (fun _ => trivial) rfl ?_ ((callsIn_wide.2 (F7.out w' hph)).mono ?_)
            · simp only [y0, y1, y2, y3, y4, y5, y6, hL, cond_true, cond_false]
              go_simp
            · rintro e w2 ⟨rfl, bx⟩
              exact ⟨_, rfl, by simp [Act.put, upd, y0, y1, y2, y3, y4, y5, y6, hL], trivial, by simp only [upd, y0, y1, y2, y3, y4, y5, y6, hL]; exact hph.trans (bx.mono hph.size)⟩
          · skip
            have y0 : L 0 = true := up_at hu 0 (by kernel_rfl)
            have y1 : L 1 = true := up_at hu 1 (by kernel_rfl)
            have y2 : L 2 = true := up_at hu 2 (by kernel_rfl)
            have y3 : L 3 = true := up_at hu 3 (by kernel_rfl)
            have y4 : L 4 = true := up_at hu 4 (by kernel_rfl)
            have y5 : L 5 = true := up_at hu 5 (by kernel_rfl)
            have y6 : L 6 = true := up_at hu 6 (by kernel_rfl)
            have y7 : L 7 = true := up_at hu 7 (by kernel_rfl)
            refine opIn_run (v := .int .i64 SR) (w' := w') rfl rfl (fun c h => by cases h) (fun _ => trivial) ?_ ⟨by simp [Act.put, upd, y0, y1, y2, y3, y4, y5, y6, y7, hL], hcm, by simpa [upd] using hph⟩
            simp only [y0, y1, y2, y3, y4, y5, y6, y7, hL, cond_true, cond_false]
            go_simp
        case fin =>
          intro L a' w' hall hI
          obtain ⟨rfl, hcm, hph⟩ := hI
          have l0 := hall 0 (by decide)
          have l1 := hall 1 (by decide)
          have l2 := hall 2 (by decide)
          have l3 := hall 3 (by decide)
          have l4 := hall 4 (by decide)
          have l5 := hall 5 (by decide)
          have l6 := hall 6 (by decide)
          have l7 := hall 7 (by decide)
          have l8 := hall 8 (by decide)
          simp only [l0, l1, l2, l3, l4, l5, l6, l7, l8, cond_true] at hph ⊢
          clear l0 l1 l2 l3 l4 l5 l6 l7 l8 hall
          have HZ := Lib.hid hph
          clear hph hcm F6 F7 HS0
          obtain ⟨U, hU⟩ : ∃ U, w' = U := ⟨_, rfl⟩
          have HBU : Hid (Below w.heap.size w w') := Lib.hid (HBV.out.trans (HZ.out.mono (by have := HBV.out.size; omega)))
          have HRU : Hid (w'.heap[r]? = some (.cells #[.int .i64 ox, .int .i64 oy, .int .i64 x, .int .i64 y] 48 (0, 0))) := Lib.hid ((HZ.out.block r Hr.out).trans HVR.out)
          have hru : r < w'.heap.size := Nat.lt_of_lt_of_le Hr.out HZ.out.size
          clear hU
          by_cases hs : SR = 0
          · subst hs
            go_wp2
            refine ⟨⟨j + 1, by omega, by go_num, ?_, HBU.out, HRU.out, hru⟩, by simp [intOf]; omega⟩
            rw [HFB.out, HDR.out]
            exact if_pos HSR.out
          · have e1 : (SR != 0) = true := by simp [hs]
            have HNS := Lib.hid hs
            clear hs
            go_wp2
            go_ret
            refine ⟨ret_i64 ?_, HBU.out⟩
            rw [HFB.out, HDR.out]
            exact (((if_neg (by rw [HSR.out]; exact HNS.out)).trans HSR.out).symm : SR = firstBad x y ox oy ds (_ :: _) j)
        -- END
      · obtain rfl : j = N := by omega
        have h2 : ¬ (j : Int) < (j : Int) := by omega
        go_wp2
        go_ret
        refine ⟨ret_i64 ?_, HB3.out⟩
        rw [HFB.out, List.drop_of_length_le (by have := HN.out; omega)]
        rfl
  · have e1 : (R != 0) = true := by simp [hr]
    go_wp2
    go_ret
    exact ⟨ret_i64 rfl, HB.out⟩
end Go.Proofs.Ythcpmonahmogaaa
