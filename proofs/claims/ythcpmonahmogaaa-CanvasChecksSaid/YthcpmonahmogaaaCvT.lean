/- canvas: Tiles. -/
import Derived.Test.YthcpmonahmogaaaCvC
import Derived.Test.YthcpmonahmogaaaCvF
set_option linter.unusedVariables false
set_option linter.unusedSimpArgs false
namespace Go.Proofs.Ythcpmonahmogaaa
open Go.RowKit
set_option maxRecDepth 100000
theorem cut0 (r0 r1 r2 r3 x1 y1 wc hc : Int) (wd ht : Nat) (w : World) (ex : x1 = (wd : Int)) (ey : y1 = (ht : Int)) (hx : wd ≤ 64) (hy : ht ≤ 64) (hw : 1 ≤ wc ∧ wc ≤ 100000) (hh : 1 ≤ hc ∧ hc ≤ 100000) :
    Calls Try.prog 45 #[.agg #[.int .i64 r0, .int .i64 r1, .int .i64 r2, .int .i64 r3], .agg #[.int .i64 0, .int .i64 0, .int .i64 x1, .int .i64 y1], .int .i64 wc, .int .i64 hc] w fun e w' => ∃ A c, e = .returned (.slice A (ht * wd) c) ∧
      w'.ownsRow w.heap.size 48 4 (.slice A (ht * wd) c) (ht * wd) ((plP 0 0 wd ht).flatMap fun p => recV (cellR r0 r1 r2 r3 wc hc p)) ∧ Below w.heap.size w w' := by
  subst ex ey
  have hlim : ht * wd ≤ 64 * 64 := Nat.mul_le_mul hy hx
  have h := cut_any r0 r1 r2 r3 0 0 wc hc wd ht w (by omega) (by omega) hw hh (by omega)
  simp only [Int.zero_add] at h
  exact h
theorem tiles_zero {x y ox oy tx ty : Int} (h : tilesF x y ox oy tx ty = 0) : ox < tx ∧ tx ≤ 65536 ∧ oy < ty ∧ ty ≤ 65536 := by
  unfold tilesF at h
  split at h
  · omega
  · omega

set_option maxHeartbeats 8000000 in
set_option pp.deepTerms true in
set_option pp.maxSteps 10000000 in
theorem tilesL (x y ox oy : Int) (AC : Option Addr) (n cC : Nat) (tx ty lv bw bh pr st od ly : Int) (rct sop eph : Bool) (w : World) (hg : gridF x y ox oy = 0) (ht : tilesF x y ox oy tx ty = 0) :
    Calls Try.prog 18 #[.agg #[.int .i64 x, .int .i64 y, .int .i64 ox, .int .i64 oy, .slice AC n cC], .agg #[.int .i64 tx, .int .i64 ty, .int .i64 lv, .int .i64 bw, .int .i64 bh, .int .i64 pr, .int .i64 st, .int .i64 od, .int .i64 ly, .bool rct, .bool sop, .bool eph]] w fun e w' => ∃ A c, e = .returned (.slice A ((ceilF y ty).toNat * (ceilF x tx).toNat) c) ∧
      w'.ownsRow w.heap.size 48 4 (.slice A ((ceilF y ty).toNat * (ceilF x tx).toNat) c) ((ceilF y ty).toNat * (ceilF x tx).toNat) ((plP 0 0 (ceilF x tx).toNat (ceilF y ty).toNat).flatMap fun p => recV (cellR ox oy x y tx ty p)) ∧ Below w.heap.size w w' := by
  obtain ⟨hx, hy⟩ := grid_zero hg
  obtain ⟨t1, t2, t3, t4⟩ := tiles_zero ht
  have b1 := ceil_bd x tx (by omega) (by omega)
  have b2 := ceil_bd y ty (by omega) (by omega)
  have CG := Lib.hid (fun u => grid_any x y ox oy AC n cC u)
  have CT := Lib.hid (fun u => tiles_any x y ox oy AC n cC tx ty lv bw bh pr st od ly rct sop eph u hx hy)
  rw [hg] at CG
  rw [ht] at CT
  have CX := Lib.hid (fun u => ceil_any x tx u (by omega) (by omega))
  have CY := Lib.hid (fun u => ceil_any y ty u (by omega) (by omega))
  have CC := Lib.hid (fun u => cut0 ox oy x y (ceilF x tx) (ceilF y ty) tx ty (ceilF x tx).toNat (ceilF y ty).toNat u (by omega) (by omega) (by omega) (by omega) (by omega) (by omega))
  clear hg ht
  generalize ceilF x tx = u1 at *
  generalize ceilF y ty = u2 at *
  go_enter Try.func18, Try.ntmps18
  go_wp2_with fail
  obtain ⟨X, hX⟩ : ∃ X, (w.alloc (Obj.cells #[.int .i64 x, .int .i64 y, .int .i64 ox, .int .i64 oy, .slice AC n cC] 24)).alloc (Obj.cells #[.int .i64 tx, .int .i64 ty, .int .i64 lv, .int .i64 bw, .int .i64 bh, .int .i64 pr, .int .i64 st, .int .i64 od, .int .i64 ly, .bool rct, .bool sop, .bool eph] 26) = X := ⟨_, rfl⟩
  have hB : Below w.heap.size w X := by rw [← hX]; exact ((Below.refl _ w).alloc (Nat.le_refl _) _).alloc (by simp) _
  have hz : (w.alloc (Obj.cells #[.int .i64 x, .int .i64 y, .int .i64 ox, .int .i64 oy, .slice AC n cC] 24)).heap.size = w.heap.size + 1 := by simp
  have b1' : X.heap[w.heap.size]? = some (.cells #[.int .i64 x, .int .i64 y, .int .i64 ox, .int .i64 oy, .slice AC n cC] 24 (0, 0)) := by
    rw [← hX, Below.heap_alloc _ _ _ (by simp)]; exact World.alloc_heap_new w _
  have b2' : X.heap[w.heap.size + 1]? = some (.cells #[.int .i64 tx, .int .i64 ty, .int .i64 lv, .int .i64 bw, .int .i64 bh, .int .i64 pr, .int .i64 st, .int .i64 od, .int .i64 ly, .bool rct, .bool sop, .bool eph] 26 (0, 0)) := by
    rw [← hX, ← hz]; exact World.alloc_heap_new _ _
  have hzX : w.heap.size + 1 < X.heap.size := (Array.getElem?_eq_some_iff.1 b2').1
  rw [hX]
  refine (CG.out _).mono ?_
  rintro e w1 ⟨rfl, hb⟩
  have HX : Hid (w1.heap[w.heap.size]? = some (.cells #[.int .i64 x, .int .i64 y, .int .i64 ox, .int .i64 oy, .slice AC n cC] 24 (0, 0)) ∧ w1.heap[w.heap.size + 1]? = some (.cells #[.int .i64 tx, .int .i64 ty, .int .i64 lv, .int .i64 bw, .int .i64 bh, .int .i64 pr, .int .i64 st, .int .i64 od, .int .i64 ly, .bool rct, .bool sop, .bool eph] 26 (0, 0))) := Lib.hid ⟨(hb.block _ (by omega)).trans b1', (hb.block _ hzX).trans b2'⟩
  have HB : Hid (Below w.heap.size w w1) := Lib.hid (hB.trans (hb.mono hB.size))
  have hz1 : w.heap.size + 1 < w1.heap.size := by have := hb.size; omega
  clear hX hz b1' b2' hB hb hzX
  obtain ⟨g0, g1, g2, g3, g4⟩ := img_cells HX.out.1
  obtain ⟨k0, k1, k2, k3, k4, k5, k6, k7, k8, k9, k10, k11⟩ := par_cells HX.out.2
  go_wp2_with fail
  refine (CT.out _).mono ?_
  rintro e w2 ⟨rfl, hb⟩
  have HX2 : Hid (w2.heap[w.heap.size]? = some (.cells #[.int .i64 x, .int .i64 y, .int .i64 ox, .int .i64 oy, .slice AC n cC] 24 (0, 0)) ∧ w2.heap[w.heap.size + 1]? = some (.cells #[.int .i64 tx, .int .i64 ty, .int .i64 lv, .int .i64 bw, .int .i64 bh, .int .i64 pr, .int .i64 st, .int .i64 od, .int .i64 ly, .bool rct, .bool sop, .bool eph] 26 (0, 0))) := Lib.hid ⟨(hb.block _ (by omega)).trans HX.out.1, (hb.block _ hz1).trans HX.out.2⟩
  have HB2 : Hid (Below w.heap.size w w2) := Lib.hid (HB.out.trans (hb.mono HB.out.size))
  have hz2 : w.heap.size + 1 < w2.heap.size := by have := hb.size; omega
  clear g0 g1 g2 g3 g4 k0 k1 k2 k3 k4 k5 k6 k7 k8 k9 k10 k11 hb
  obtain ⟨g0, g1, g2, g3, g4⟩ := img_cells HX2.out.1
  obtain ⟨k0, k1, k2, k3, k4, k5, k6, k7, k8, k9, k10, k11⟩ := par_cells HX2.out.2
  go_wp2_with fail
  obtain ⟨b5, hb5⟩ : ∃ b5, w2.heap.size = b5 := ⟨_, rfl⟩
  obtain ⟨W5, hW5⟩ : ∃ W5, w2.alloc (Obj.cells #[.int .i64 ox, .int .i64 oy, .int .i64 x, .int .i64 y] 48) = W5 := ⟨_, rfl⟩
  have q5 : W5.heap[b5]? = some (.cells #[.int .i64 ox, .int .i64 oy, .int .i64 x, .int .i64 y] 48 (0, 0)) := by rw [← hW5, ← hb5]; exact World.alloc_heap_new w2 _
  have q1 : W5.heap[w.heap.size]? = some (.cells #[.int .i64 x, .int .i64 y, .int .i64 ox, .int .i64 oy, .slice AC n cC] 24 (0, 0)) := by rw [← hW5]; exact (Below.heap_alloc w2 _ _ (by omega)).trans HX2.out.1
  have q2 : W5.heap[w.heap.size + 1]? = some (.cells #[.int .i64 tx, .int .i64 ty, .int .i64 lv, .int .i64 bw, .int .i64 bh, .int .i64 pr, .int .i64 st, .int .i64 od, .int .i64 ly, .bool rct, .bool sop, .bool eph] 26 (0, 0)) := by rw [← hW5]; exact (Below.heap_alloc w2 _ _ hz2).trans HX2.out.2
  have hB5 : Below w.heap.size w W5 := by rw [← hW5]; exact HB2.out.alloc HB2.out.size _
  rw [hW5]
  rw [hb5]
  have HQ := Lib.hid (And.intro q1 (And.intro q2 (And.intro q5 hB5)))
  clear g0 g1 g2 g3 g4 k0 k1 k2 k3 k4 k5 k6 k7 k8 k9 k10 k11 hW5 hb5 q1 q2 q5 hB5
  refine (wpIn_wide (n := 9)).1 (regionIn_inv (w := W5) (Inv := fun L a' w' => ∃ (A9 : Option Addr) (c9 : Nat), a' = { tmps := #[.agg #[.int .i64 x, .int .i64 y, .int .i64 ox, .int .i64 oy, .slice AC n cC], .agg #[.int .i64 tx, .int .i64 ty, .int .i64 lv, .int .i64 bw, .int .i64 bh, .int .i64 pr, .int .i64 st, .int .i64 od, .int .i64 ly, .bool rct, .bool sop, .bool eph], .pointer (some ⟨w.heap.size, 0, none⟩), .pointer (some ⟨w.heap.size + 1, 0, none⟩), bif L 17 then .slice A9 (u2.toNat * u1.toNat) c9 else .slice none 0 0, .pointer (some ⟨b5, 0, none⟩), .agg #[.int .i64 x, .int .i64 y, .int .i64 ox, .int .i64 oy, .slice AC n cC], .int .i64 0, .bool false, .bool false, .agg #[.int .i64 x, .int .i64 y, .int .i64 ox, .int .i64 oy, .slice AC n cC], .agg #[.int .i64 tx, .int .i64 ty, .int .i64 lv, .int .i64 bw, .int .i64 bh, .int .i64 pr, .int .i64 st, .int .i64 od, .int .i64 ly, .bool rct, .bool sop, .bool eph], .int .i64 0, .bool false, .bool false, .pointer (some ⟨w.heap.size, 2, none⟩), .int .i64 ox, .pointer (some ⟨w.heap.size, 3, none⟩), .int .i64 oy, .pointer (some ⟨w.heap.size, 0, none⟩), .int .i64 x, .pointer (some ⟨w.heap.size, 1, none⟩), .int .i64 y, .agg #[.int .i64 ox, .int .i64 oy, .int .i64 x, .int .i64 y], bif L 0 then .agg #[.int .i64 ox, .int .i64 oy, .int .i64 x, .int .i64 y] else undef, bif L 1 then .pointer (some ⟨w.heap.size, 0, none⟩) else undef, bif L 2 then .int .i64 x else undef, bif L 3 then .pointer (some ⟨w.heap.size + 1, 0, none⟩) else undef, bif L 4 then .int .i64 tx else undef, bif L 5 then .int .i64 u1 else undef, bif L 6 then .pointer (some ⟨w.heap.size, 1, none⟩) else undef, bif L 7 then .int .i64 y else undef, bif L 8 then .pointer (some ⟨w.heap.size + 1, 1, none⟩) else undef, bif L 9 then .int .i64 ty else undef, bif L 10 then .int .i64 u2 else undef, bif L 11 then .agg #[.int .i64 0, .int .i64 0, .int .i64 u1, .int .i64 u2] else undef, bif L 12 then .pointer (some ⟨w.heap.size + 1, 0, none⟩) else undef, bif L 13 then .int .i64 tx else undef, bif L 14 then .pointer (some ⟨w.heap.size + 1, 1, none⟩) else undef, bif L 15 then .int .i64 ty else undef, bif L 16 then .slice A9 (u2.toNat * u1.toNat) c9 else undef], defers := [] } ∧ (bif L 16 then ((w'.ownsRow w.heap.size 48 4 (.slice A9 (u2.toNat * u1.toNat) c9) (u2.toNat * u1.toNat) ((plP 0 0 u1.toNat u2.toNat).flatMap fun p => recV (cellR ox oy x y tx ty p)) ∧ Below w.heap.size w w')) else (w'.heap[w.heap.size]? = some (.cells #[.int .i64 x, .int .i64 y, .int .i64 ox, .int .i64 oy, .slice AC n cC] 24 (0, 0)) ∧ w'.heap[w.heap.size + 1]? = some (.cells #[.int .i64 tx, .int .i64 ty, .int .i64 lv, .int .i64 bw, .int .i64 bh, .int .i64 pr, .int .i64 st, .int .i64 od, .int .i64 ly, .bool rct, .bool sop, .bool eph] 26 (0, 0)) ∧ w'.heap[b5]? = some (.cells #[.int .i64 ox, .int .i64 oy, .int .i64 x, .int .i64 y] 48 (0, 0)) ∧ Below w.heap.size w w'))) (by kernel_rfl) (by kernel_rfl) ?startq ?stepq ?finq)
  case startq => exact ⟨none, 0, rfl, HQ.out.1, HQ.out.2.1, HQ.out.2.2.1, below_drewN HQ.out.2.2.2 1⟩
  case stepq =>
    intro i hi L a' w' hI hs hu
    obtain ⟨A9, c9, rfl, hph⟩ := hI
    have hL := hu.1
    have hi : i < 18 := hi
    obtain rfl | rfl | rfl | rfl | rfl | rfl | rfl | rfl | rfl | rfl | rfl | rfl | rfl | rfl | rfl | rfl | rfl | rfl := (by omega : i = 0 ∨ i = 1 ∨ i = 2 ∨ i = 3 ∨ i = 4 ∨ i = 5 ∨ i = 6 ∨ i = 7 ∨ i = 8 ∨ i = 9 ∨ i = 10 ∨ i = 11 ∨ i = 12 ∨ i = 13 ∨ i = 14 ∨ i = 15 ∨ i = 16 ∨ i = 17)
    · skip
      have n16 : L 16 = false := not_yet hL fun h => shut_at hs 16 0 (by kernel_rfl) (h)
      have n17 : L 17 = false := not_yet hL fun h => shut_at hs 17 0 (by kernel_rfl) (h)
      try simp only [n16, n17, hL, cond_true, cond_false] at hph
      obtain ⟨k0, k1, k2, k3⟩ := rc_cells hph.2.2.1
      refine opIn_run (v := .agg #[.int .i64 ox, .int .i64 oy, .int .i64 x, .int .i64 y]) (w' := w') rfl rfl (fun c h => by cases h) (fun _ => trivial) ?_ ⟨A9, c9, by simp [Act.put, upd, n16, n17, hL], by simp only [upd, n16, n17, hL]; exact hph⟩
      simp only [n16, n17, hL, cond_true, cond_false]
      go_simp
    · skip
      have n16 : L 16 = false := not_yet hL fun h => shut_at hs 2 1 (by kernel_rfl) (shut_at hs 5 2 (by kernel_rfl) (shut_at hs 10 5 (by kernel_rfl) (shut_at hs 16 10 (by kernel_rfl) (h))))
      have n17 : L 17 = false := not_yet hL fun h => shut_at hs 17 1 (by kernel_rfl) (h)
      refine opIn_run (v := .pointer (some ⟨w.heap.size, 0, none⟩)) (w' := w') rfl rfl (fun c h => by cases h) (fun _ => trivial) ?_ ⟨A9, c9, by simp [Act.put, upd, n16, n17, hL], by simpa [upd] using hph⟩
      simp only [n16, n17, hL, cond_true, cond_false]
      go_simp
    · skip
      have y1 : L 1 = true := up_at hu 1 (by kernel_rfl)
      have n16 : L 16 = false := not_yet hL fun h => shut_at hs 5 2 (by kernel_rfl) (shut_at hs 10 5 (by kernel_rfl) (shut_at hs 16 10 (by kernel_rfl) (h)))
      have n17 : L 17 = false := not_yet hL fun h => shut_at hs 17 2 (by kernel_rfl) (h)
      try simp only [y1, n16, n17, hL, cond_true, cond_false] at hph
      obtain ⟨g0, g1, g2, g3, g4⟩ := img_cells hph.1
      refine opIn_run (v := .int .i64 x) (w' := w') rfl rfl (fun c h => by cases h) (fun _ => trivial) ?_ ⟨A9, c9, by simp [Act.put, upd, y1, n16, n17, hL], by simp only [upd, y1, n16, n17, hL]; exact hph⟩
      simp only [y1, n16, n17, hL, cond_true, cond_false]
      go_simp
    · skip
      have n16 : L 16 = false := not_yet hL fun h => shut_at hs 4 3 (by kernel_rfl) (shut_at hs 5 4 (by kernel_rfl) (shut_at hs 10 5 (by kernel_rfl) (shut_at hs 16 10 (by kernel_rfl) (h))))
      have n17 : L 17 = false := not_yet hL fun h => shut_at hs 17 3 (by kernel_rfl) (h)
      refine opIn_run (v := .pointer (some ⟨w.heap.size + 1, 0, none⟩)) (w' := w') rfl rfl (fun c h => by cases h) (fun _ => trivial) ?_ ⟨A9, c9, by simp [Act.put, upd, n16, n17, hL], by simpa [upd] using hph⟩
      simp only [n16, n17, hL, cond_true, cond_false]
      go_simp
    · skip
      have y3 : L 3 = true := up_at hu 3 (by kernel_rfl)
      have n16 : L 16 = false := not_yet hL fun h => shut_at hs 5 4 (by kernel_rfl) (shut_at hs 10 5 (by kernel_rfl) (shut_at hs 16 10 (by kernel_rfl) (h)))
      have n17 : L 17 = false := not_yet hL fun h => shut_at hs 17 4 (by kernel_rfl) (h)
      try simp only [y3, n16, n17, hL, cond_true, cond_false] at hph
      obtain ⟨k0, k1, k2, k3, k4, k5, k6, k7, k8, k9, k10, k11⟩ := par_cells hph.2.1
      refine opIn_run (v := .int .i64 tx) (w' := w') rfl rfl (fun c h => by cases h) (fun _ => trivial) ?_ ⟨A9, c9, by simp [Act.put, upd, y3, n16, n17, hL], by simp only [upd, y3, n16, n17, hL]; exact hph⟩
      simp only [y3, n16, n17, hL, cond_true, cond_false]
      go_simp
    · skip
      have y1 : L 1 = true := shut_at hs 2 1 (by kernel_rfl) (up_at hu 2 (by kernel_rfl))
      have y2 : L 2 = true := up_at hu 2 (by kernel_rfl)
      have y3 : L 3 = true := shut_at hs 4 3 (by kernel_rfl) (up_at hu 4 (by kernel_rfl))
      have y4 : L 4 = true := up_at hu 4 (by kernel_rfl)
      have n16 : L 16 = false := not_yet hL fun h => shut_at hs 10 5 (by kernel_rfl) (shut_at hs 16 10 (by kernel_rfl) (h))
      have n17 : L 17 = false := not_yet hL fun h => shut_at hs 17 5 (by kernel_rfl) (h)
      try simp only [y1, y2, y3, y4, n16, n17, hL, cond_true, cond_false] at hph
      refine opIn_call (f := 46) (args := #[.int .i64 x, .int .i64 tx]) (w' := w') rfl rfl (fun c h => by cases h) (fun _ => trivial) rfl ?_ ((callsIn_wide.2 (CX.out w')).mono ?_)
      · simp only [y1, y2, y3, y4, n16, n17, hL, cond_true, cond_false]
        go_simp
      · rintro e w2 ⟨rfl, rfl⟩
        exact ⟨_, rfl, A9, c9, by simp [Act.put, upd, y1, y2, y3, y4, n16, n17, hL], by simp only [upd, y1, y2, y3, y4, n16, n17, hL]; exact hph⟩
    · skip
      have n16 : L 16 = false := not_yet hL fun h => shut_at hs 7 6 (by kernel_rfl) (shut_at hs 10 7 (by kernel_rfl) (shut_at hs 16 10 (by kernel_rfl) (h)))
      have n17 : L 17 = false := not_yet hL fun h => shut_at hs 17 6 (by kernel_rfl) (h)
      refine opIn_run (v := .pointer (some ⟨w.heap.size, 1, none⟩)) (w' := w') rfl rfl (fun c h => by cases h) (fun _ => trivial) ?_ ⟨A9, c9, by simp [Act.put, upd, n16, n17, hL], by simpa [upd] using hph⟩
      simp only [n16, n17, hL, cond_true, cond_false]
      go_simp
    · skip
      have y6 : L 6 = true := up_at hu 6 (by kernel_rfl)
      have n16 : L 16 = false := not_yet hL fun h => shut_at hs 10 7 (by kernel_rfl) (shut_at hs 16 10 (by kernel_rfl) (h))
      have n17 : L 17 = false := not_yet hL fun h => shut_at hs 17 7 (by kernel_rfl) (h)
      try simp only [y6, n16, n17, hL, cond_true, cond_false] at hph
      obtain ⟨g0, g1, g2, g3, g4⟩ := img_cells hph.1
      refine opIn_run (v := .int .i64 y) (w' := w') rfl rfl (fun c h => by cases h) (fun _ => trivial) ?_ ⟨A9, c9, by simp [Act.put, upd, y6, n16, n17, hL], by simp only [upd, y6, n16, n17, hL]; exact hph⟩
      simp only [y6, n16, n17, hL, cond_true, cond_false]
      go_simp
    · skip
      have n16 : L 16 = false := not_yet hL fun h => shut_at hs 9 8 (by kernel_rfl) (shut_at hs 10 9 (by kernel_rfl) (shut_at hs 16 10 (by kernel_rfl) (h)))
      have n17 : L 17 = false := not_yet hL fun h => shut_at hs 17 8 (by kernel_rfl) (h)
      refine opIn_run (v := .pointer (some ⟨w.heap.size + 1, 1, none⟩)) (w' := w') rfl rfl (fun c h => by cases h) (fun _ => trivial) ?_ ⟨A9, c9, by simp [Act.put, upd, n16, n17, hL], by simpa [upd] using hph⟩
      simp only [n16, n17, hL, cond_true, cond_false]
      go_simp
    · skip
      have y8 : L 8 = true := up_at hu 8 (by kernel_rfl)
      have n16 : L 16 = false := not_yet hL fun h => shut_at hs 10 9 (by kernel_rfl) (shut_at hs 16 10 (by kernel_rfl) (h))
      have n17 : L 17 = false := not_yet hL fun h => shut_at hs 17 9 (by kernel_rfl) (h)
      try simp only [y8, n16, n17, hL, cond_true, cond_false] at hph
      obtain ⟨k0, k1, k2, k3, k4, k5, k6, k7, k8, k9, k10, k11⟩ := par_cells hph.2.1
      refine opIn_run (v := .int .i64 ty) (w' := w') rfl rfl (fun c h => by cases h) (fun _ => trivial) ?_ ⟨A9, c9, by simp [Act.put, upd, y8, n16, n17, hL], by simp only [upd, y8, n16, n17, hL]; exact hph⟩
      simp only [y8, n16, n17, hL, cond_true, cond_false]
      go_simp
    · skip
      have y1 : L 1 = true := shut_at hs 2 1 (by kernel_rfl) (shut_at hs 5 2 (by kernel_rfl) (up_at hu 5 (by kernel_rfl)))
      have y2 : L 2 = true := shut_at hs 5 2 (by kernel_rfl) (up_at hu 5 (by kernel_rfl))
      have y3 : L 3 = true := shut_at hs 4 3 (by kernel_rfl) (shut_at hs 5 4 (by kernel_rfl) (up_at hu 5 (by kernel_rfl)))
      have y4 : L 4 = true := shut_at hs 5 4 (by kernel_rfl) (up_at hu 5 (by kernel_rfl))
      have y5 : L 5 = true := up_at hu 5 (by kernel_rfl)
      have y6 : L 6 = true := shut_at hs 7 6 (by kernel_rfl) (up_at hu 7 (by kernel_rfl))
      have y7 : L 7 = true := up_at hu 7 (by kernel_rfl)
      have y8 : L 8 = true := shut_at hs 9 8 (by kernel_rfl) (up_at hu 9 (by kernel_rfl))
      have y9 : L 9 = true := up_at hu 9 (by kernel_rfl)
      have n16 : L 16 = false := not_yet hL fun h => shut_at hs 16 10 (by kernel_rfl) (h)
      have n17 : L 17 = false := not_yet hL fun h => shut_at hs 17 10 (by kernel_rfl) (h)
      try simp only [y1, y2, y3, y4, y5, y6, y7, y8, y9, n16, n17, hL, cond_true, cond_false] at hph
      refine opIn_call (f := 46) (args := #[.int .i64 y, .int .i64 ty]) (w' := w') rfl rfl (fun c h => by cases h) (fun _ => trivial) rfl ?_ ((callsIn_wide.2 (CY.out w')).mono ?_)
      · simp only [y1, y2, y3, y4, y5, y6, y7, y8, y9, n16, n17, hL, cond_true, cond_false]
        go_simp
      · rintro e w2 ⟨rfl, rfl⟩
        exact ⟨_, rfl, A9, c9, by simp [Act.put, upd, y1, y2, y3, y4, y5, y6, y7, y8, y9, n16, n17, hL], by simp only [upd, y1, y2, y3, y4, y5, y6, y7, y8, y9, n16, n17, hL]; exact hph⟩
    · skip
      have y1 : L 1 = true := shut_at hs 2 1 (by kernel_rfl) (shut_at hs 5 2 (by kernel_rfl) (up_at hu 5 (by kernel_rfl)))
      have y2 : L 2 = true := shut_at hs 5 2 (by kernel_rfl) (up_at hu 5 (by kernel_rfl))
      have y3 : L 3 = true := shut_at hs 4 3 (by kernel_rfl) (shut_at hs 5 4 (by kernel_rfl) (up_at hu 5 (by kernel_rfl)))
      have y4 : L 4 = true := shut_at hs 5 4 (by kernel_rfl) (up_at hu 5 (by kernel_rfl))
      have y5 : L 5 = true := up_at hu 5 (by kernel_rfl)
      have y6 : L 6 = true := shut_at hs 7 6 (by kernel_rfl) (shut_at hs 10 7 (by kernel_rfl) (up_at hu 10 (by kernel_rfl)))
      have y7 : L 7 = true := shut_at hs 10 7 (by kernel_rfl) (up_at hu 10 (by kernel_rfl))
      have y8 : L 8 = true := shut_at hs 9 8 (by kernel_rfl) (shut_at hs 10 9 (by kernel_rfl) (up_at hu 10 (by kernel_rfl)))
      have y9 : L 9 = true := shut_at hs 10 9 (by kernel_rfl) (up_at hu 10 (by kernel_rfl))
      have y10 : L 10 = true := up_at hu 10 (by kernel_rfl)
      have n16 : L 16 = false := not_yet hL fun h => shut_at hs 16 11 (by kernel_rfl) (h)
      have n17 : L 17 = false := not_yet hL fun h => shut_at hs 17 11 (by kernel_rfl) (h)
      refine opIn_run (v := .agg #[.int .i64 0, .int .i64 0, .int .i64 u1, .int .i64 u2]) (w' := w') rfl rfl (fun c h => by cases h) (fun _ => trivial) ?_ ⟨A9, c9, by simp [Act.put, upd, y1, y2, y3, y4, y5, y6, y7, y8, y9, y10, n16, n17, hL], by simpa [upd] using hph⟩
      simp only [y1, y2, y3, y4, y5, y6, y7, y8, y9, y10, n16, n17, hL, cond_true, cond_false]
      go_simp
    · skip
      have n16 : L 16 = false := not_yet hL fun h => shut_at hs 13 12 (by kernel_rfl) (shut_at hs 16 13 (by kernel_rfl) (h))
      have n17 : L 17 = false := not_yet hL fun h => shut_at hs 17 12 (by kernel_rfl) (h)
      refine opIn_run (v := .pointer (some ⟨w.heap.size + 1, 0, none⟩)) (w' := w') rfl rfl (fun c h => by cases h) (fun _ => trivial) ?_ ⟨A9, c9, by simp [Act.put, upd, n16, n17, hL], by simpa [upd] using hph⟩
      simp only [n16, n17, hL, cond_true, cond_false]
      go_simp
    · skip
      have y12 : L 12 = true := up_at hu 12 (by kernel_rfl)
      have n16 : L 16 = false := not_yet hL fun h => shut_at hs 16 13 (by kernel_rfl) (h)
      have n17 : L 17 = false := not_yet hL fun h => shut_at hs 17 13 (by kernel_rfl) (h)
      try simp only [y12, n16, n17, hL, cond_true, cond_false] at hph
      obtain ⟨k0, k1, k2, k3, k4, k5, k6, k7, k8, k9, k10, k11⟩ := par_cells hph.2.1
      refine opIn_run (v := .int .i64 tx) (w' := w') rfl rfl (fun c h => by cases h) (fun _ => trivial) ?_ ⟨A9, c9, by simp [Act.put, upd, y12, n16, n17, hL], by simp only [upd, y12, n16, n17, hL]; exact hph⟩
      simp only [y12, n16, n17, hL, cond_true, cond_false]
      go_simp
    · skip
      have n16 : L 16 = false := not_yet hL fun h => shut_at hs 15 14 (by kernel_rfl) (shut_at hs 16 15 (by kernel_rfl) (h))
      have n17 : L 17 = false := not_yet hL fun h => shut_at hs 17 14 (by kernel_rfl) (h)
      refine opIn_run (v := .pointer (some ⟨w.heap.size + 1, 1, none⟩)) (w' := w') rfl rfl (fun c h => by cases h) (fun _ => trivial) ?_ ⟨A9, c9, by simp [Act.put, upd, n16, n17, hL], by simpa [upd] using hph⟩
      simp only [n16, n17, hL, cond_true, cond_false]
      go_simp
    · skip
      have y14 : L 14 = true := up_at hu 14 (by kernel_rfl)
      have n16 : L 16 = false := not_yet hL fun h => shut_at hs 16 15 (by kernel_rfl) (h)
      have n17 : L 17 = false := not_yet hL fun h => shut_at hs 17 15 (by kernel_rfl) (h)
      try simp only [y14, n16, n17, hL, cond_true, cond_false] at hph
      obtain ⟨k0, k1, k2, k3, k4, k5, k6, k7, k8, k9, k10, k11⟩ := par_cells hph.2.1
      refine opIn_run (v := .int .i64 ty) (w' := w') rfl rfl (fun c h => by cases h) (fun _ => trivial) ?_ ⟨A9, c9, by simp [Act.put, upd, y14, n16, n17, hL], by simp only [upd, y14, n16, n17, hL]; exact hph⟩
      simp only [y14, n16, n17, hL, cond_true, cond_false]
      go_simp
    · skip
      have y0 : L 0 = true := up_at hu 0 (by kernel_rfl)
      have y1 : L 1 = true := shut_at hs 2 1 (by kernel_rfl) (shut_at hs 5 2 (by kernel_rfl) (shut_at hs 10 5 (by kernel_rfl) (up_at hu 10 (by kernel_rfl))))
      have y2 : L 2 = true := shut_at hs 5 2 (by kernel_rfl) (shut_at hs 10 5 (by kernel_rfl) (up_at hu 10 (by kernel_rfl)))
      have y3 : L 3 = true := shut_at hs 4 3 (by kernel_rfl) (shut_at hs 5 4 (by kernel_rfl) (shut_at hs 10 5 (by kernel_rfl) (up_at hu 10 (by kernel_rfl))))
      have y4 : L 4 = true := shut_at hs 5 4 (by kernel_rfl) (shut_at hs 10 5 (by kernel_rfl) (up_at hu 10 (by kernel_rfl)))
      have y5 : L 5 = true := shut_at hs 10 5 (by kernel_rfl) (up_at hu 10 (by kernel_rfl))
      have y6 : L 6 = true := shut_at hs 7 6 (by kernel_rfl) (shut_at hs 10 7 (by kernel_rfl) (up_at hu 10 (by kernel_rfl)))
      have y7 : L 7 = true := shut_at hs 10 7 (by kernel_rfl) (up_at hu 10 (by kernel_rfl))
      have y8 : L 8 = true := shut_at hs 9 8 (by kernel_rfl) (shut_at hs 10 9 (by kernel_rfl) (up_at hu 10 (by kernel_rfl)))
      have y9 : L 9 = true := shut_at hs 10 9 (by kernel_rfl) (up_at hu 10 (by kernel_rfl))
      have y10 : L 10 = true := up_at hu 10 (by kernel_rfl)
      have y11 : L 11 = true := up_at hu 11 (by kernel_rfl)
      have y12 : L 12 = true := shut_at hs 13 12 (by kernel_rfl) (up_at hu 13 (by kernel_rfl))
      have y13 : L 13 = true := up_at hu 13 (by kernel_rfl)
      have y14 : L 14 = true := shut_at hs 15 14 (by kernel_rfl) (up_at hu 15 (by kernel_rfl))
      have y15 : L 15 = true := up_at hu 15 (by kernel_rfl)
      have n17 : L 17 = false := not_yet hL fun h => shut_at hs 17 16 (by kernel_rfl) (h)
      try simp only [y0, y1, y2, y3, y4, y5, y6, y7, y8, y9, y10, y11, y12, y13, y14, y15, n17, hL, cond_true, cond_false] at hph
      refine opIn_call (f := 45) (args := #[.agg #[.int .i64 ox, .int .i64 oy, .int .i64 x, .int .i64 y], .agg #[.int .i64 0, .int .i64 0, .int .i64 u1, .int .i64 u2], .int .i64 tx, .int .i64 ty]) (w' := w') rfl rfl (fun c h => by cases h) (fun _ => trivial) rfl ?_ ((callsIn_wide.2 (CC.out w')).mono ?_)
      · simp only [y0, y1, y2, y3, y4, y5, y6, y7, y8, y9, y10, y11, y12, y13, y14, y15, n17, hL, cond_true, cond_false]
        go_simp
      · rintro e w2 ⟨A9x, c9x, rfl, ho9, hb9⟩
        exact ⟨_, rfl, A9x, c9x, by simp [Act.put, upd, y0, y1, y2, y3, y4, y5, y6, y7, y8, y9, y10, y11, y12, y13, y14, y15, n17, hL], by simp only [upd, y0, y1, y2, y3, y4, y5, y6, y7, y8, y9, y10, y11, y12, y13, y14, y15, n17, hL]; exact ⟨own_mono ho9 hph.2.2.2.size, hph.2.2.2.trans (hb9.mono hph.2.2.2.size)⟩⟩
    · skip
      have y0 : L 0 = true := up_at hu 0 (by kernel_rfl)
      have y1 : L 1 = true := up_at hu 1 (by kernel_rfl)
      have y2 : L 2 = true := up_at hu 2 (by kernel_rfl)
      have y3 : L 3 = true := up_at hu 3 (by kernel_rfl)
      have y4 : L 4 = true := up_at hu 4 (by kernel_rfl)
      have y5 : L 5 = true := up_at hu 5 (by kernel_rfl)
      have y6 : L 6 = true := up_at hu 6 (by kernel_rfl)
      have y7 : L 7 = true := up_at hu 7 (by kernel_rfl)
      have y8 : L 8 = true := up_at hu 8 (by kernel_rfl)
      have y9 : L 9 = true := up_at hu 9 (by kernel_rfl)
      have y10 : L 10 = true := up_at hu 10 (by kernel_rfl)
      have y11 : L 11 = true := up_at hu 11 (by kernel_rfl)
      have y12 : L 12 = true := up_at hu 12 (by kernel_rfl)
      have y13 : L 13 = true := up_at hu 13 (by kernel_rfl)
      have y14 : L 14 = true := up_at hu 14 (by kernel_rfl)
      have y15 : L 15 = true := up_at hu 15 (by kernel_rfl)
      have y16 : L 16 = true := up_at hu 16 (by kernel_rfl)
      refine opIn_run (v := .slice A9 (u2.toNat * u1.toNat) c9) (w' := w') rfl rfl (fun c h => by cases h) (fun _ => trivial) ?_ ⟨A9, c9, by simp [Act.put, upd, y0, y1, y2, y3, y4, y5, y6, y7, y8, y9, y10, y11, y12, y13, y14, y15, y16, hL], by simpa [upd] using hph⟩
      simp only [y0, y1, y2, y3, y4, y5, y6, y7, y8, y9, y10, y11, y12, y13, y14, y15, y16, hL, cond_true, cond_false]
      go_simp
  case finq =>
    intro L a' w' hall hI
    obtain ⟨A9, c9, rfl, hph⟩ := hI
    have l0 := hall 0 (by decide)
    have l1 := hall 1 (by decide)
    have l2 := hall 2 (by decide)
    have l3 := hall 3 (by decide)
    have l4 := hall 4 (by decide)
    have l5 := hall 5 (by decide)
    have l6 := hall 6 (by decide)
    have l7 := hall 7 (by decide)
    have l8 := hall 8 (by decide)
    have l9 := hall 9 (by decide)
    have l10 := hall 10 (by decide)
    have l11 := hall 11 (by decide)
    have l12 := hall 12 (by decide)
    have l13 := hall 13 (by decide)
    have l14 := hall 14 (by decide)
    have l15 := hall 15 (by decide)
    have l16 := hall 16 (by decide)
    have l17 := hall 17 (by decide)
    simp only [l0, l1, l2, l3, l4, l5, l6, l7, l8, l9, l10, l11, l12, l13, l14, l15, l16, l17, cond_true] at hph ⊢
    clear l0 l1 l2 l3 l4 l5 l6 l7 l8 l9 l10 l11 l12 l13 l14 l15 l16 l17 hall
    have HPH := Lib.hid hph
    clear hph
    obtain ⟨wf, hwf⟩ : ∃ wf : World, wf = w' := ⟨_, rfl⟩
    rw [← hwf] at HPH ⊢
    clear hwf
    go_wp2
    go_ret
    exact ⟨_, _, rfl, HPH.out.1, HPH.out.2⟩
end Go.Proofs.Ythcpmonahmogaaa
