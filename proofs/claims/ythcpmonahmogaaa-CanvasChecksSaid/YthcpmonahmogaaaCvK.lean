/- canvas: the chapter's example; a plain picture. -/
import Derived.Test.YthcpmonahmogaaaCvT
set_option linter.unusedVariables false
set_option linter.unusedSimpArgs false
namespace Go.Proofs.Ythcpmonahmogaaa
open Go.RowKit
set_option maxRecDepth 100000
theorem comps_one {w : World} {b : Nat} (h : w.heap[b]? = some (.cells #[.int .i64 8, .bool false, .int .i64 1, .int .i64 1, .slice none 0 0] 39 (0, 0))) : CompsAt w (some ⟨b, 0, none⟩) [⟨8, false, 1, 1, none, 0, 0⟩] := by
  intro i c e
  rcases i with _ | i
  · simp at e
    subst e
    refine ⟨b, 0, rfl, (Array.getElem?_eq_some_iff.1 h).1, ?_⟩
    simp [World.cell?, h]
  · simp at e
set_option maxHeartbeats 4000000 in
theorem known12 (w : World) : Calls Try.prog 10 #[] w fun e w' => e = .returned (.bool true) ∧ Below w.heap.size w w' := by
  have CT := Lib.hid (fun u => tilesL 5 3 0 0 (some ⟨w.heap.size, 0, none⟩) 1 1 4 4 0 2 2 1 0 0 1 false false false u (by decide) (by decide))
  go_enter Try.func10, Try.ntmps10
  go_wp2_with fail
  obtain ⟨X, hX⟩ : ∃ X, ((w.alloc (Obj.cells #[.int .i64 8, .bool false, .int .i64 1, .int .i64 1, .slice none 0 0] 39)).alloc (Obj.cells #[.int .i64 5, .int .i64 3, .int .i64 0, .int .i64 0, .slice (some ⟨w.heap.size, 0, none⟩) 1 1] 24)).alloc (Obj.cells #[.int .i64 4, .int .i64 4, .int .i64 0, .int .i64 2, .int .i64 2, .int .i64 1, .int .i64 0, .int .i64 0, .int .i64 1, .bool false, .bool false, .bool false] 26) = X := ⟨_, rfl⟩
  have hB : Below w.heap.size w X := by rw [← hX]; exact (((Below.refl _ w).alloc (Nat.le_refl _) _).alloc (by simp) _).alloc (by simp; omega) _
  have kk : ∀ (V : World) (o : Obj) (k : Nat), k < V.heap.size → (V.alloc o).heap[k]? = V.heap[k]? := fun V o k hk => Below.heap_alloc V o k hk
  have nn : ∀ (V : World) (o : Obj) (k : Nat), V.heap.size = k → (V.alloc o).heap[k]? = some o := fun V o k hk => by rw [← hk]; exact World.alloc_heap_new V o
  have q0 : X.heap[w.heap.size]? = some (.cells #[.int .i64 8, .bool false, .int .i64 1, .int .i64 1, .slice none 0 0] 39 (0, 0)) := by rw [← hX, kk _ _ _ (by simp <;> omega), kk _ _ _ (by simp)]; exact World.alloc_heap_new w _
  have q1 : X.heap[w.heap.size + 1]? = some (.cells #[.int .i64 5, .int .i64 3, .int .i64 0, .int .i64 0, .slice (some ⟨w.heap.size, 0, none⟩) 1 1] 24 (0, 0)) := by rw [← hX, kk _ _ _ (by simp)]; exact nn _ _ _ (by simp)
  have q2 : X.heap[w.heap.size + 1 + 1]? = some (.cells #[.int .i64 4, .int .i64 4, .int .i64 0, .int .i64 2, .int .i64 2, .int .i64 1, .int .i64 0, .int .i64 0, .int .i64 1, .bool false, .bool false, .bool false] 26 (0, 0)) := by rw [← hX]; exact nn _ _ _ (by simp)
  have hz : w.heap.size + 1 + 1 < X.heap.size := (Array.getElem?_eq_some_iff.1 q2).1
  rw [hX]
  clear hX kk nn
  refine (CT.out _).mono ?_
  rintro e w1 ⟨A, c, rfl, _, hb⟩
  rw [show (ceilF 3 4).toNat * (ceilF 5 4).toNat = 2 by decide]
  have hI := comps_one ((hb.block _ (by omega)).trans q0)
  obtain ⟨g0, g1, g2, g3, g4⟩ := img_cells ((hb.block _ (by omega)).trans q1)
  obtain ⟨k0, k1, k2, k3, k4, k5, k6, k7, k8, k9, k10, k11⟩ := par_cells ((hb.block _ hz).trans q2)
  have HB := Lib.hid (hB.trans (hb.mono hB.size))
  have CF := Lib.hid (frame_any (cC := 1) 5 3 0 0 4 4 0 2 2 1 0 0 1 false false false hI (by unfold maxLen; simp))
  clear hI hb q0 q1 q2 hB hz
  go_wp2_with fail
  refine CF.out.mono ?_
  rintro e w2 ⟨rfl, hb⟩
  rw [show frameF 5 3 0 0 [⟨8, false, 1, 1, none, 0, 0⟩] 4 4 0 2 2 1 0 0 1 false = 0 by decide]
  have HB2 := Lib.hid (HB.out.trans (hb.mono HB.out.size))
  clear hb g0 g1 g2 g3 g4 k0 k1 k2 k3 k4 k5 k6 k7 k8 k9 k10 k11
  go_wp2
  go_ret
  exact ⟨rfl, HB2.out⟩
set_option maxHeartbeats 4000000 in
theorem one_any (x y ox oy : Int) (w : World) : Calls Try.prog 33 #[.int .i64 x, .int .i64 y, .int .i64 ox, .int .i64 oy] w fun e w' => ∃ b, e = .returned (.tuple #[.agg #[.int .i64 x, .int .i64 y, .int .i64 ox, .int .i64 oy, .slice (some ⟨b, 0, none⟩) 1 1], .agg #[.int .i64 64, .int .i64 64, .int .i64 2, .int .i64 4, .int .i64 4, .int .i64 15, .int .i64 0, .int .i64 0, .int .i64 1, .bool false, .bool false, .bool false]]) ∧
      w.heap.size ≤ b ∧ w'.heap[b]? = some (.cells #[.int .i64 8, .bool false, .int .i64 1, .int .i64 1, .slice none 0 0] 39 (0, 0)) ∧ Below w.heap.size w w' := by
  go_enter Try.func33, Try.ntmps33
  go_wp2
  obtain ⟨X, hX⟩ : ∃ X, (((w.alloc (Obj.cells #[.int .i64 x, .int .i64 y, .int .i64 ox, .int .i64 oy, .slice (some ⟨w.heap.size + 1 + 1, 0, none⟩) 1 1] 24)).alloc (Obj.cells #[.int .i64 64, .int .i64 64, .int .i64 2, .int .i64 4, .int .i64 4, .int .i64 15, .int .i64 0, .int .i64 0, .int .i64 1, .bool false, .bool false, .bool false] 26)).alloc (Obj.cells #[.int .i64 8, .bool false, .int .i64 1, .int .i64 1, .slice none 0 0] 39)).alloc (Obj.cells #[.int .i64 x, .int .i64 y, .int .i64 ox, .int .i64 oy, .slice (some ⟨w.heap.size + 1 + 1, 0, none⟩) 1 1] 24) = X := ⟨_, rfl⟩
  have hB : Below w.heap.size w X := by rw [← hX]; exact ((((Below.refl _ w).alloc (Nat.le_refl _) _).alloc (by simp) _).alloc (by simp; omega) _).alloc (by simp; omega) _
  have kk : ∀ (V : World) (o : Obj) (k : Nat), k < V.heap.size → (V.alloc o).heap[k]? = V.heap[k]? := fun V o k hk => Below.heap_alloc V o k hk
  have nn : ∀ (V : World) (o : Obj) (k : Nat), V.heap.size = k → (V.alloc o).heap[k]? = some o := fun V o k hk => by rw [← hk]; exact World.alloc_heap_new V o
  have q0 : X.heap[w.heap.size]? = some (.cells #[.int .i64 x, .int .i64 y, .int .i64 ox, .int .i64 oy, .slice (some ⟨w.heap.size + 1 + 1, 0, none⟩) 1 1] 24 (0, 0)) := by rw [← hX, kk _ _ _ (by simp <;> omega), kk _ _ _ (by simp <;> omega), kk _ _ _ (by simp)]; exact World.alloc_heap_new w _
  have q1 : X.heap[w.heap.size + 1]? = some (.cells #[.int .i64 64, .int .i64 64, .int .i64 2, .int .i64 4, .int .i64 4, .int .i64 15, .int .i64 0, .int .i64 0, .int .i64 1, .bool false, .bool false, .bool false] 26 (0, 0)) := by rw [← hX, kk _ _ _ (by simp <;> omega), kk _ _ _ (by simp)]; exact nn _ _ _ (by simp)
  have q2 : X.heap[w.heap.size + 1 + 1]? = some (.cells #[.int .i64 8, .bool false, .int .i64 1, .int .i64 1, .slice none 0 0] 39 (0, 0)) := by rw [← hX, kk _ _ _ (by simp)]; exact nn _ _ _ (by simp)
  rw [hX]
  clear hX kk nn
  obtain ⟨g0, g1, g2, g3, g4⟩ := img_cells q0
  obtain ⟨k0, k1, k2, k3, k4, k5, k6, k7, k8, k9, k10, k11⟩ := par_cells q1
  exact bodyPost_ret (v := .tuple #[.agg #[.int .i64 x, .int .i64 y, .int .i64 ox, .int .i64 oy, .slice (some ⟨w.heap.size + 1 + 1, 0, none⟩) 1 1], .agg #[.int .i64 64, .int .i64 64, .int .i64 2, .int .i64 4, .int .i64 4, .int .i64 15, .int .i64 0, .int .i64 0, .int .i64 1, .bool false, .bool false, .bool false]]) (by simp [results, Try.results33, go_sem, g0, g1, g2, g3, g4, k0, k1, k2, k3, k4, k5, k6, k7, k8, k9, k10, k11]) rfl ⟨_, rfl, by omega, q2, hB⟩
set_option maxHeartbeats 400000 in
theorem within12 (a n : Int) (w : World) (hn : 1 ≤ n) (hm : n ≤ 4611686018427387904) :
    Calls Try.prog 17 #[.int .i64 a, .int .i64 n] w fun e w' => e = .returned (.int .i64 (a % n)) ∧ w = w' := by
  have hb := within_bd a n hn
  have hk := within_key a n hn
  have HK := Lib.hid hk
  clear hk
  have h0 : ¬ n = 0 := by omega
  by_cases hc : a.tmod n < 0
  · go_enter Try.func17, Try.ntmps17
    go_wp2
    go_ret
    refine ⟨ret_i64 ?_, rfl⟩
    rw [← HK.out, if_pos (by omega)]
  · go_enter Try.func17, Try.ntmps17
    go_wp2
    go_ret
    refine ⟨ret_i64 ?_, rfl⟩
    rw [← HK.out, if_neg (by omega)]
theorem some12 (a n : Int) (w : World) (hn : 1 ≤ n) (hm : n ≤ 100000) :
    Calls Try.prog 17 #[.int .i64 a, .int .i64 n] w fun e w' => ∃ r : Int, e = .returned (.int .i64 r) ∧ 0 ≤ r ∧ r < n ∧ w = w' :=
  (within12 a n w hn (by omega)).mono fun e w' ⟨he, hw⟩ => ⟨_, he, (within_rng a n hn).1, (within_rng a n hn).2, hw⟩
end Go.Proofs.Ythcpmonahmogaaa
