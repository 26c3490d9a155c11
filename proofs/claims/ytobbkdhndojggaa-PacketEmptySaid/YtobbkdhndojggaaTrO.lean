/- Trees: a new tree, its first level. -/
import Derived.Test.YtobbkdhndojggaaTrN
import Derived.Test.YtobbkdhndojggaaAnyInv
import Derived.Test.YtobbkdhndojggaaApps
import Derived.Outline
import Derived.Maps.AppendAt
set_option linter.unusedVariables false
set_option linter.unusedSimpArgs false
namespace Go.Proofs.Ytobbkdhndojggaa
open Go.RowKit
set_option maxRecDepth 100000
theorem Try.info117 : (Try.prog.info? 117).map (fun i => (i.zero, i.size, i.bytes)) = some (some (.agg #[.int .i64 0, .int .i64 0, .slice none 0 0]), 3, 40) := by kernel_rfl
/-- A table's cells. -/
def tbl (W H I : Nat) : List Value := [.int .i64 (W : Int), .int .i64 (H : Int), .slice (some ⟨I, 0, none⟩) (W * H) (W * H)]
theorem app_tbl {w : World} {base m z : Nat} {v : Value} {xs : List Value} {W H I : Nat} (hown : w.ownsRow base 117 3 v m xs) (hz : w.heap[z]? = some (.cells #[.int .i64 (W : Int), .int .i64 (H : Int), .slice (some ⟨I, 0, none⟩) (W * H) (W * H)] 117 (0, 0))) (hb : base ≤ w.heap.size) (hm : m ≤ 100) :
    ∃ v' w', (appSem #[112, 112] 112 #[v, .slice (some ⟨z, 0, none⟩) 1 1]).run Try.prog w = .ok v' w' ∧ w'.ownsRow base 117 3 v' (m + 1) (xs ++ tbl W H I) ∧ w.grownBy w' v.ownBlock ∧ (v'.ownBlock = v.ownBlock ∨ v'.ownBlock = some w.heap.size) := by
  obtain ⟨i0, hi, hzz⟩ := Option.map_eq_some_iff.1 Try.info117
  simp only [Prod.mk.injEq] at hzz
  obtain ⟨hz0, hz1, hz2⟩ := hzz
  obtain ⟨v', w', hr, hown', hg, _, hat⟩ := run_append_own_at (P := Try.prog) w base 112 112 117 i0 _ 3 40 (by kernel_rfl) hi hz0 hz1 hz2 rfl (by decide) v m xs hown ⟨z, 0, none⟩ 1 1 (tbl W H I) rfl (fun j u hu => by
    rcases j with _ | _ | _ | j
    · simp [tbl] at hu; subst hu; simp [World.cell?, Addr.add, hz]
    · simp [tbl] at hu; subst hu; simp [World.cell?, Addr.add, hz]
    · simp [tbl] at hu; subst hu; simp [World.cell?, Addr.add, hz]
    · simp [tbl] at hu) (fun u hu => by
    simp [tbl] at hu
    rcases hu with rfl | rfl | rfl <;> rfl) (by unfold maxLen; omega) (by omega) hb
  exact ⟨v', w', hr, hown', hg, hat⟩
theorem lt_some {w : World} {b : Nat} {o : Obj} (h : w.heap[b]? = some o) : b < w.heap.size := (Array.getElem?_eq_some_iff.1 h).1

attribute [local go_sem ↓] appSem_eq in
set_option maxHeartbeats 4000000 in
set_option pp.deepTerms true in
set_option pp.maxSteps 10000000 in
theorem newOne (W H N : Nat) (w : World) (hW : 1 ≤ W ∧ W ≤ 64) (hH : 1 ≤ H ∧ H ≤ 64) (hN : W * H = N) (h1 : W ≤ 1 ∧ H ≤ 1) : Calls Try.prog 15 #[.int .i64 (W : Int), .int .i64 (H : Int)] w fun e w' => ∃ L I cl, e = .returned (.pointer (some ⟨w.heap.size, 0, none⟩)) ∧ w'.heap[w.heap.size]? = some (.cells #[.slice (some ⟨L, 0, none⟩) 1 cl] 114 (0, 0)) ∧
      w'.heap[I]? = some (.cells (nodes0 N) 120 (0, 0)) ∧ w.heap.size < I ∧ w'.ownsRow (w.heap.size + 1) 117 3 (.slice (some ⟨L, 0, none⟩) 1 cl) 1 (tbl W H I) ∧ Below w.heap.size w w' := by
  have hnt := fun V => newT W H N V (by omega) hN
  have HT := Lib.hid hnt
  have HN := Lib.hid hN
  have d1 : decide ((W : Int) < 1) = false := by simp; omega
  have d2 : decide ((64 : Int) < (W : Int)) = false := by simp; omega
  have d3 : decide ((H : Int) < 1) = false := by simp; omega
  have d4 : decide ((64 : Int) < (H : Int)) = false := by simp; omega
  clear hnt hN
  go_enter Try.func15, Try.ntmps15
  go_wp2_with fail
  clear d1 d2 d3 d4
  obtain ⟨W1, hW1⟩ : ∃ W1, w.alloc (Obj.cells #[.slice none 0 0] 114) = W1 := ⟨_, rfl⟩
  have hx1 : W1.heap[w.heap.size]? = some (.cells #[.slice none 0 0] 114 (0, 0)) := by rw [← hW1]; exact World.alloc_heap_new w _
  have hs1 : W1.heap.size = w.heap.size + 1 := by rw [← hW1]; simp
  rw [hW1]
  obtain ⟨Y, hYe⟩ : ∃ Y, W1.drew = Y := ⟨_, rfl⟩
  have hxY : Y.heap[w.heap.size]? = some (.cells #[.slice none 0 0] 114 (0, 0)) := by rw [← hYe]; exact hx1
  have hsY : Y.heap.size = w.heap.size + 1 := by rw [← hYe]; exact hs1
  have HBW : Hid (Below w.heap.size w Y) := Lib.hid (by rw [← hYe, ← hW1]; exact below_drewN ((Below.refl _ w).alloc (Nat.le_refl _) _) 1)
  have HYE := Lib.hid hYe
  have HXY := Lib.hid hxY
  clear hYe hW1 hx1 hs1 hxY
  refine (wpIn_wide (n := 9)).1 (regionIn_inv (w := W1) (Inv := fun L a' w' => ∃ (I : Nat) (z : Nat) (A9 : Option Addr) (c9 : Nat), a' = { tmps := #[.int .i64 (W : Int), .int .i64 (H : Int), undef, undef, .pointer none, .pointer (some ⟨w.heap.size, 0, none⟩), .agg #[.slice none 0 0], .pointer (some ⟨w.heap.size, 0, none⟩), .int .i64 (W : Int), .bool false, .bool false, .int .i64 (W : Int), .bool false, .bool false, .bool false, .int .i64 (H : Int), .bool false, .bool false, .bool false, .int .i64 (H : Int), .bool false, .bool false, undef, bif L 0 then .pointer (some ⟨w.heap.size, 0, none⟩) else undef, bif L 1 then .pointer (some ⟨w.heap.size, 0, none⟩) else undef, bif L 2 then .pointer (some ⟨w.heap.size, 0, none⟩) else undef, bif L 3 then .pointer (some ⟨w.heap.size, 0, none⟩) else undef, bif L 4 then .slice none 0 0 else undef, bif L 5 then .int .i64 (W : Int) else undef, bif L 6 then .int .i64 (H : Int) else undef, bif L 7 then .agg #[.int .i64 (W : Int), .int .i64 (H : Int), .slice (some ⟨I, 0, none⟩) N N] else undef, bif L 8 then .slice (some ⟨z, 0, none⟩) 1 1 else undef, bif L 9 then .slice A9 1 c9 else undef, bif L 10 then .pointer (some ⟨w.heap.size, 0, none⟩) else undef, bif L 11 then .pointer (some ⟨w.heap.size, 0, none⟩) else undef, undef, undef, undef, undef, undef, undef, undef, undef, undef, undef, undef, undef, undef, undef, undef, undef, undef, undef, undef, undef, undef, undef, undef, undef, undef], defers := [] } ∧ (Below w.heap.size Y w' ∧ w.heap.size + 1 ≤ w'.heap.size) ∧ (bif L 12 then (w'.heap[w.heap.size]? = some (.cells #[.slice A9 1 c9] 114 (0, 0)) ∧ (w'.heap[I]? = some (.cells (nodes0 N) 120 (0, 0)) ∧ w.heap.size < I) ∧ w'.ownsRow (w.heap.size + 1) 117 3 (.slice A9 1 c9) 1 (tbl W H I)) else (bif L 9 then (w'.heap[w.heap.size]? = some (.cells #[.slice none 0 0] 114 (0, 0)) ∧ (w'.heap[I]? = some (.cells (nodes0 N) 120 (0, 0)) ∧ w.heap.size < I) ∧ w'.ownsRow (w.heap.size + 1) 117 3 (.slice A9 1 c9) 1 (tbl W H I)) else (bif L 8 then (w'.heap[w.heap.size]? = some (.cells #[.slice none 0 0] 114 (0, 0)) ∧ (w'.heap[I]? = some (.cells (nodes0 N) 120 (0, 0)) ∧ w.heap.size < I) ∧ w'.heap[z]? = some (.cells #[.int .i64 (W : Int), .int .i64 (H : Int), .slice (some ⟨I, 0, none⟩) N N] 117 (0, 0))) else (bif L 7 then (w'.heap[w.heap.size]? = some (.cells #[.slice none 0 0] 114 (0, 0)) ∧ w'.heap[I]? = some (.cells (nodes0 N) 120 (0, 0)) ∧ w.heap.size < I) else w'.heap[w.heap.size]? = some (.cells #[.slice none 0 0] 114 (0, 0))))))) (by kernel_rfl) (by kernel_rfl) ?start ?step ?fin)
  case start => exact ⟨0, 0, none, 0, rfl, (by rw [HYE.out]; exact ⟨Below.refl _ _, by omega⟩ : Below w.heap.size Y W1.drew ∧ w.heap.size + 1 ≤ W1.drew.heap.size), (by rw [HYE.out]; exact HXY.out)⟩
  case step =>
    intro i hi L a' w' hI hs hu
    obtain ⟨I, z, A9, c9, rfl, hcm, hph⟩ := hI
    have hL := hu.1
    have hi : i < 13 := hi
    obtain rfl | rfl | rfl | rfl | rfl | rfl | rfl | rfl | rfl | rfl | rfl | rfl | rfl := (by omega : i = 0 ∨ i = 1 ∨ i = 2 ∨ i = 3 ∨ i = 4 ∨ i = 5 ∨ i = 6 ∨ i = 7 ∨ i = 8 ∨ i = 9 ∨ i = 10 ∨ i = 11 ∨ i = 12)
    · skip
      have n12 : L 12 = false := not_yet hL fun h => shut_at hs 12 0 (by kernel_rfl) (h)
      refine opIn_run (v := .pointer (some ⟨w.heap.size, 0, none⟩)) (w' := w') rfl rfl (fun c h => by cases h) (fun _ => trivial) ?_ ⟨I, z, A9, c9, by simp [Act.put, upd, n12, hL], hcm, by simpa [upd] using hph⟩
      simp only [n12, hL, cond_true, cond_false]
      go_simp
    · skip
      have n9 : L 9 = false := not_yet hL fun h => shut_at hs 2 1 (by kernel_rfl) (shut_at hs 3 2 (by kernel_rfl) (shut_at hs 4 3 (by kernel_rfl) (shut_at hs 9 4 (by kernel_rfl) (h))))
      have n12 : L 12 = false := not_yet hL fun h => shut_at hs 12 1 (by kernel_rfl) (h)
      refine opIn_run (v := .pointer (some ⟨w.heap.size, 0, none⟩)) (w' := w') rfl rfl (fun c h => by cases h) (fun _ => trivial) ?_ ⟨I, z, A9, c9, by simp [Act.put, upd, n9, n12, hL], hcm, by simpa [upd] using hph⟩
      simp only [n9, n12, hL, cond_true, cond_false]
      go_simp
    · skip
      have y1 : L 1 = true := up_at hu 1 (by kernel_rfl)
      have n9 : L 9 = false := not_yet hL fun h => shut_at hs 3 2 (by kernel_rfl) (shut_at hs 4 3 (by kernel_rfl) (shut_at hs 9 4 (by kernel_rfl) (h)))
      have n12 : L 12 = false := not_yet hL fun h => shut_at hs 12 2 (by kernel_rfl) (h)
      refine opIn_run (v := .pointer (some ⟨w.heap.size, 0, none⟩)) (w' := w') rfl rfl (fun c h => by cases h) (fun _ => trivial) ?_ ⟨I, z, A9, c9, by simp [Act.put, upd, y1, n9, n12, hL], hcm, by simpa [upd] using hph⟩
      simp only [y1, n9, n12, hL, cond_true, cond_false]
      go_simp
    · skip
      have y1 : L 1 = true := shut_at hs 2 1 (by kernel_rfl) (up_at hu 2 (by kernel_rfl))
      have y2 : L 2 = true := up_at hu 2 (by kernel_rfl)
      have n9 : L 9 = false := not_yet hL fun h => shut_at hs 4 3 (by kernel_rfl) (shut_at hs 9 4 (by kernel_rfl) (h))
      have n12 : L 12 = false := not_yet hL fun h => shut_at hs 12 3 (by kernel_rfl) (h)
      refine opIn_run (v := .pointer (some ⟨w.heap.size, 0, none⟩)) (w' := w') rfl rfl (fun c h => by cases h) (fun _ => trivial) ?_ ⟨I, z, A9, c9, by simp [Act.put, upd, y1, y2, n9, n12, hL], hcm, by simpa [upd] using hph⟩
      simp only [y1, y2, n9, n12, hL, cond_true, cond_false]
      go_simp
    · skip
      have y1 : L 1 = true := shut_at hs 2 1 (by kernel_rfl) (shut_at hs 3 2 (by kernel_rfl) (up_at hu 3 (by kernel_rfl)))
      have y2 : L 2 = true := shut_at hs 3 2 (by kernel_rfl) (up_at hu 3 (by kernel_rfl))
      have y3 : L 3 = true := up_at hu 3 (by kernel_rfl)
      have n9 : L 9 = false := not_yet hL fun h => shut_at hs 9 4 (by kernel_rfl) (h)
      have n12 : L 12 = false := not_yet hL fun h => shut_at hs 12 4 (by kernel_rfl) (h)
      simp only [y1, y2, y3, n9, n12, hL, cond_true, cond_false] at hph
      have hbx : w'.heap[w.heap.size]? = some (.cells #[.slice none 0 0] 114 (0, 0)) := by cases h7 : L 7 <;> cases h8 : L 8 <;> simp only [h7, h8, cond_true, cond_false] at hph <;> first | exact hph | exact hph.1
      have k0 : w'.cell? ⟨w.heap.size, 0, none⟩ = some (.slice none 0 0) := by simp [World.cell?, hbx]
      refine opIn_run (v := .slice none 0 0) (w' := w') rfl rfl (fun c h => by cases h) (fun _ => trivial) ?_ ⟨I, z, A9, c9, by simp [Act.put, upd, y1, y2, y3, n9, n12, hL], hcm, by simp only [upd, y1, y2, y3, n9, n12, hL]; exact hph⟩
      simp only [y1, y2, y3, n9, n12, hL, cond_true, cond_false]
      go_simp
    · skip
      have n7 : L 7 = false := not_yet hL fun h => shut_at hs 7 5 (by kernel_rfl) (h)
      have n8 : L 8 = false := not_yet hL fun h => shut_at hs 7 5 (by kernel_rfl) (shut_at hs 8 7 (by kernel_rfl) (h))
      have n9 : L 9 = false := not_yet hL fun h => shut_at hs 7 5 (by kernel_rfl) (shut_at hs 9 7 (by kernel_rfl) (h))
      have n12 : L 12 = false := not_yet hL fun h => shut_at hs 12 5 (by kernel_rfl) (h)
      refine opIn_run (v := .int .i64 (W : Int)) (w' := w') rfl rfl (fun c h => by cases h) (fun _ => trivial) ?_ ⟨I, z, A9, c9, by simp [Act.put, upd, n7, n8, n9, n12, hL], hcm, by simpa [upd] using hph⟩
      simp only [n7, n8, n9, n12, hL, cond_true, cond_false]
      go_simp
    · skip
      have n7 : L 7 = false := not_yet hL fun h => shut_at hs 7 6 (by kernel_rfl) (h)
      have n8 : L 8 = false := not_yet hL fun h => shut_at hs 7 6 (by kernel_rfl) (shut_at hs 8 7 (by kernel_rfl) (h))
      have n9 : L 9 = false := not_yet hL fun h => shut_at hs 7 6 (by kernel_rfl) (shut_at hs 9 7 (by kernel_rfl) (h))
      have n12 : L 12 = false := not_yet hL fun h => shut_at hs 12 6 (by kernel_rfl) (h)
      refine opIn_run (v := .int .i64 (H : Int)) (w' := w') rfl rfl (fun c h => by cases h) (fun _ => trivial) ?_ ⟨I, z, A9, c9, by simp [Act.put, upd, n7, n8, n9, n12, hL], hcm, by simpa [upd] using hph⟩
      simp only [n7, n8, n9, n12, hL, cond_true, cond_false]
      go_simp
    · skip
      have y5 : L 5 = true := up_at hu 5 (by kernel_rfl)
      have y6 : L 6 = true := up_at hu 6 (by kernel_rfl)
      have n8 : L 8 = false := not_yet hL fun h => shut_at hs 8 7 (by kernel_rfl) (h)
      have n9 : L 9 = false := not_yet hL fun h => shut_at hs 9 7 (by kernel_rfl) (h)
      have n12 : L 12 = false := not_yet hL fun h => shut_at hs 12 7 (by kernel_rfl) (h)
      simp only [y5, y6, n8, n9, n12, hL, cond_true, cond_false] at hph
      refine opIn_call (f := 46) (args := #[.int .i64 (W : Int), .int .i64 (H : Int)]) (w' := w') rfl rfl (fun c h => by cases h) (fun _ => trivial) rfl ?_ ((callsIn_wide.2 (HT.out w')).mono ?_)
      · simp only [y5, y6, n8, n9, n12, hL, cond_true, cond_false]
        go_simp
      · rintro e w2 ⟨rfl, hn9, hb9⟩
        exact ⟨_, rfl, w'.heap.size + 1, z, A9, c9, by simp [Act.put, upd, y5, y6, n8, n9, n12, hL], ⟨hcm.1.trans (hb9.mono (by omega)), by have := hb9.size; omega⟩, by simp only [upd, y5, y6, n8, n9, n12, hL]; exact ⟨(hb9.block _ (by omega)).trans hph, hn9, by omega⟩⟩
    · skip
      have y5 : L 5 = true := shut_at hs 7 5 (by kernel_rfl) (up_at hu 7 (by kernel_rfl))
      have y6 : L 6 = true := shut_at hs 7 6 (by kernel_rfl) (up_at hu 7 (by kernel_rfl))
      have y7 : L 7 = true := up_at hu 7 (by kernel_rfl)
      have n9 : L 9 = false := not_yet hL fun h => shut_at hs 9 8 (by kernel_rfl) (h)
      have n12 : L 12 = false := not_yet hL fun h => shut_at hs 12 8 (by kernel_rfl) (h)
      simp only [y5, y6, y7, n9, n12, hL, cond_true, cond_false] at hph
      refine opIn_run (v := .slice (some ⟨w'.heap.size, 0, none⟩) 1 1) (w' := w'.alloc (Obj.cells #[.int .i64 (W : Int), .int .i64 (H : Int), .slice (some ⟨I, 0, none⟩) N N] 117)) rfl rfl (fun c h => by cases h) (fun _ => trivial) ?_ ⟨I, w'.heap.size, A9, c9, by simp [Act.put, upd, y5, y6, y7, n9, n12, hL], ⟨hcm.1.alloc (by omega) _, by simp; omega⟩, by simp only [upd, y5, y6, y7, n9, n12, hL]; exact ⟨(Below.heap_alloc w' _ _ (by omega)).trans hph.1, ⟨(Below.heap_alloc w' _ _ (lt_some hph.2.1)).trans hph.2.1, hph.2.2⟩, World.alloc_heap_new w' _⟩⟩
      simp only [y5, y6, y7, n9, n12, hL, cond_true, cond_false]
      go_simp
    · skip
      have y1 : L 1 = true := shut_at hs 2 1 (by kernel_rfl) (shut_at hs 3 2 (by kernel_rfl) (shut_at hs 4 3 (by kernel_rfl) (up_at hu 4 (by kernel_rfl))))
      have y2 : L 2 = true := shut_at hs 3 2 (by kernel_rfl) (shut_at hs 4 3 (by kernel_rfl) (up_at hu 4 (by kernel_rfl)))
      have y3 : L 3 = true := shut_at hs 4 3 (by kernel_rfl) (up_at hu 4 (by kernel_rfl))
      have y4 : L 4 = true := up_at hu 4 (by kernel_rfl)
      have y5 : L 5 = true := shut_at hs 7 5 (by kernel_rfl) (up_at hu 7 (by kernel_rfl))
      have y6 : L 6 = true := shut_at hs 7 6 (by kernel_rfl) (up_at hu 7 (by kernel_rfl))
      have y7 : L 7 = true := up_at hu 7 (by kernel_rfl)
      have y8 : L 8 = true := up_at hu 8 (by kernel_rfl)
      have n12 : L 12 = false := not_yet hL fun h => shut_at hs 12 9 (by kernel_rfl) (h)
      simp only [y1, y2, y3, y4, y5, y6, y7, y8, n12, hL, cond_true, cond_false] at hph
      have hown0 : w'.ownsRow (w.heap.size + 1) 117 3 (.slice none 0 0) 0 [] := World.ownsRow_nil _ _ _ _
      have hz9 := hph.2.2
      rw [← HN.out] at hz9
      obtain ⟨v9, w9, hrun9, hown9, hg9, _⟩ := app_tbl hown0 hz9 (by omega) (by omega)
      rw [Nat.zero_add, List.nil_append] at hown9
      obtain ⟨A9x, c9x, rfl, _, _, _⟩ := own_any hown9
      have hb9 : Below (w'.heap.size) w' w9 := (Below.refl _ w').grown hg9 (Nat.le_refl _) (by simp [Value.ownBlock])
      refine opIn_run (v := .slice A9x 1 c9x) (w' := w9) rfl rfl (fun c h => by cases h) (fun _ => trivial) ?_ ⟨I, z, A9x, c9x, by simp [Act.put, upd, y1, y2, y3, y4, y5, y6, y7, y8, n12, hL], ⟨hcm.1.trans (hb9.mono (by omega)), by have := hb9.size; omega⟩, by simp only [upd, y1, y2, y3, y4, y5, y6, y7, y8, n12, hL]; exact ⟨(hb9.block _ (by omega)).trans hph.1, ⟨(hb9.block _ (lt_some hph.2.1.1)).trans hph.2.1.1, hph.2.1.2⟩, hown9⟩⟩
      simp only [y1, y2, y3, y4, y5, y6, y7, y8, n12, hL, cond_true, cond_false]
      go_simp
    · skip
      have y0 : L 0 = true := up_at hu 0 (by kernel_rfl)
      have y1 : L 1 = true := up_at hu 1 (by kernel_rfl)
      have y2 : L 2 = true := up_at hu 2 (by kernel_rfl)
      have y3 : L 3 = true := up_at hu 3 (by kernel_rfl)
      have y4 : L 4 = true := up_at hu 4 (by kernel_rfl)
      have y5 : L 5 = true := up_at hu 5 (by kernel_rfl)
      have y6 : L 6 = true := up_at hu 6 (by kernel_rfl)
      have y7 : L 7 = true := up_at hu 7 (by kernel_rfl)
      have y8 : L 8 = true := up_at hu 8 (by kernel_rfl)
      have y9 : L 9 = true := up_at hu 9 (by kernel_rfl)
      have n12 : L 12 = false := not_yet hL fun h => shut_at hs 11 10 (by kernel_rfl) (shut_at hs 12 11 (by kernel_rfl) (h))
      refine opIn_run (v := .pointer (some ⟨w.heap.size, 0, none⟩)) (w' := w') rfl rfl (fun c h => by cases h) (fun _ => trivial) ?_ ⟨I, z, A9, c9, by simp [Act.put, upd, y0, y1, y2, y3, y4, y5, y6, y7, y8, y9, n12, hL], hcm, by simpa [upd] using hph⟩
      simp only [y0, y1, y2, y3, y4, y5, y6, y7, y8, y9, n12, hL, cond_true, cond_false]
      go_simp
    · skip
      have y0 : L 0 = true := up_at hu 0 (by kernel_rfl)
      have y1 : L 1 = true := up_at hu 1 (by kernel_rfl)
      have y2 : L 2 = true := up_at hu 2 (by kernel_rfl)
      have y3 : L 3 = true := up_at hu 3 (by kernel_rfl)
      have y4 : L 4 = true := up_at hu 4 (by kernel_rfl)
      have y5 : L 5 = true := up_at hu 5 (by kernel_rfl)
      have y6 : L 6 = true := up_at hu 6 (by kernel_rfl)
      have y7 : L 7 = true := up_at hu 7 (by kernel_rfl)
      have y8 : L 8 = true := up_at hu 8 (by kernel_rfl)
      have y9 : L 9 = true := up_at hu 9 (by kernel_rfl)
      have y10 : L 10 = true := up_at hu 10 (by kernel_rfl)
      have n12 : L 12 = false := not_yet hL fun h => shut_at hs 12 11 (by kernel_rfl) (h)
      refine opIn_run (v := .pointer (some ⟨w.heap.size, 0, none⟩)) (w' := w') rfl rfl (fun c h => by cases h) (fun _ => trivial) ?_ ⟨I, z, A9, c9, by simp [Act.put, upd, y0, y1, y2, y3, y4, y5, y6, y7, y8, y9, y10, n12, hL], hcm, by simpa [upd] using hph⟩
      simp only [y0, y1, y2, y3, y4, y5, y6, y7, y8, y9, y10, n12, hL, cond_true, cond_false]
      go_simp
    · skip
      have y0 : L 0 = true := up_at hu 0 (by kernel_rfl)
      have y1 : L 1 = true := up_at hu 1 (by kernel_rfl)
      have y2 : L 2 = true := up_at hu 2 (by kernel_rfl)
      have y3 : L 3 = true := up_at hu 3 (by kernel_rfl)
      have y4 : L 4 = true := up_at hu 4 (by kernel_rfl)
      have y5 : L 5 = true := up_at hu 5 (by kernel_rfl)
      have y6 : L 6 = true := up_at hu 6 (by kernel_rfl)
      have y7 : L 7 = true := up_at hu 7 (by kernel_rfl)
      have y8 : L 8 = true := up_at hu 8 (by kernel_rfl)
      have y9 : L 9 = true := up_at hu 9 (by kernel_rfl)
      have y10 : L 10 = true := shut_at hs 11 10 (by kernel_rfl) (up_at hu 11 (by kernel_rfl))
      have y11 : L 11 = true := up_at hu 11 (by kernel_rfl)
      simp only [y0, y1, y2, y3, y4, y5, y6, y7, y8, y9, y10, y11, hL, cond_true, cond_false] at hph
      have k0 : w'.cell? ⟨w.heap.size, 0, none⟩ = some (.slice none 0 0) := by simp [World.cell?, hph.1]
      have kf : w'.frozen? ⟨w.heap.size, 0, none⟩ = false := by simp [World.frozen?, hph.1]
      refine opIn_skip (w' := w'.setCell ⟨w.heap.size, 0, none⟩ (.slice A9 1 c9)) rfl rfl (fun c h => by cases h) (fun _ => trivial) ?_ ⟨I, z, A9, c9, by simp [Act.put, upd, y0, y1, y2, y3, y4, y5, y6, y7, y8, y9, y10, y11, hL], ⟨hcm.1.setCell (p := ⟨w.heap.size, 0, none⟩) (Nat.le_refl _) _, by simp [World.setCell]; omega⟩, by simp only [upd, y0, y1, y2, y3, y4, y5, y6, y7, y8, y9, y10, y11, hL]; exact ⟨by simp [World.setCell, Array.getElem?_modify, hph.1], ⟨(Below.heap_setCell _ _ _ _ (by simp; omega)).trans hph.2.1.1, hph.2.1.2⟩, ownsRow_keep hph.2.2 (by simp [World.setCell]) (fun b e => Below.heap_setCell _ _ _ _ (by have := own_lt hph.2.2 e; simp; omega))⟩⟩
      simp only [y0, y1, y2, y3, y4, y5, y6, y7, y8, y9, y10, y11, hL, cond_true, cond_false]
      go_simp
  case fin =>
    intro L a' w' hall hI
    obtain ⟨I, z, A9, c9, rfl, hcm, hph⟩ := hI
    have l0 := hall 0 (by decide)
    have l1 := hall 1 (by decide)
    have l2 := hall 2 (by decide)
    have l3 := hall 3 (by decide)
    have l4 := hall 4 (by decide)
    have l5 := hall 5 (by decide)
    have l6 := hall 6 (by decide)
    have l7 := hall 7 (by decide)
    have l8 := hall 8 (by decide)
    have l9 := hall 9 (by decide)
    have l10 := hall 10 (by decide)
    have l11 := hall 11 (by decide)
    have l12 := hall 12 (by decide)
    simp only [l0, l1, l2, l3, l4, l5, l6, l7, l8, l9, l10, l11, l12, cond_true] at hph ⊢
    clear l0 l1 l2 l3 l4 l5 l6 l7 l8 l9 l10 l11 l12 hall
    obtain ⟨L, cl, hv, _, _, _⟩ := own_form hph.2.2 (by omega)
    cases hv
    have HH := Lib.hid hph
    have HC := Lib.hid hcm.1
    clear hph hcm
    obtain ⟨wf, hwf⟩ : ∃ wf : World, wf = w' := ⟨_, rfl⟩
    rw [← hwf] at HH HC ⊢
    clear hwf
    go_wp2
    go_loopw [0, 1] (fun a b wr => a = .int .i64 (W : Int) ∧ b = .int .i64 (H : Int) ∧ Hid (wf = wr)) (fun _ _ _ => 0)
    case atStart => exact ⟨rfl, rfl, Lib.hid rfl⟩
    case round =>
      obtain ⟨rfl, rfl, hw⟩ := hrel
      obtain rfl := hw.out
      have e1 : decide ((1 : Int) < (W : Int)) = false := by simp; omega
      have e2 : decide ((1 : Int) < (H : Int)) = false := by simp; omega
      have e3 : ¬ (1 : Int) < (W : Int) := by omega
      have e4 : ¬ (1 : Int) < (H : Int) := by omega
      go_wp2
      go_ret
      exact ⟨rfl, L, I, _, HH.out.1, HH.out.2.1.1, HH.out.2.1.2, HH.out.2.2, HBW.out.trans HC.out⟩
end Go.Proofs.Ytobbkdhndojggaa
