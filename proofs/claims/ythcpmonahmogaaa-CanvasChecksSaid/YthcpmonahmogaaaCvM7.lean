/- canvas: the reference's Bands. -/
import Derived.Test.YthcpmonahmogaaaCvM6
import Derived.Test.YthcpmonahmogaaaAnyRk
set_option linter.unusedVariables false
set_option linter.unusedSimpArgs false
namespace Go.Proofs.Ythcpmonahmogaaa
open Go.RowKit
set_option maxRecDepth 100000
theorem blk_cell {w : World} {p : Nat} {cs : Array Value} {t : TypeId} (h : w.heap[p]? = some (.cells cs t (0, 0))) (i : Nat) : w.cell? ⟨p, i, none⟩ = cs[i]? := cell_of_row w p i cs t (0, 0) h
def ovR (r : Int × Int × Int × Int) (n ax ay : Int) : Int × Int × Int × Int := (ceilF (r.1 - ax) n, ceilF (r.2.1 - ay) n, ceilF (r.2.2.1 - ax) n, ceilF (r.2.2.2 - ay) n)
def bandsR (r : Int × Int × Int × Int) (lv k : Nat) : List (Int × Int × Int × Int) :=
  if k = 0 then [overN r ((2 ^ lv : Nat) : Int)] else [ovR r ((2 ^ (lv - k + 1) : Nat) : Int) (((2 ^ (lv - k + 1) : Nat) : Int) / 2) 0, ovR r ((2 ^ (lv - k + 1) : Nat) : Int) 0 (((2 ^ (lv - k + 1) : Nat) : Int) / 2), ovR r ((2 ^ (lv - k + 1) : Nat) : Int) (((2 ^ (lv - k + 1) : Nat) : Int) / 2) (((2 ^ (lv - k + 1) : Nat) : Int) / 2)]
def bandsK (k : Nat) : List Int := if k = 0 then [0] else [1, 2, 3]
theorem lst_new (w : World) (l : List Int) : Lst (w.alloc (.cells (l.map (Value.int .i64)).toArray 3)) (w.alloc (.cells (l.map (Value.int .i64)).toArray 3)).heap.size (some ⟨w.heap.size, 0, none⟩) (l.map (Value.int .i64)) := by
  intro i u hu
  refine ⟨w.heap.size, 0, rfl, by simp, ?_⟩
  rw [blk_cell (World.alloc_heap_new w _) (0 + i)]
  simpa using hu
theorem lst_blk {w : World} {z : Nat} {l : List Int} (h : w.heap[z]? = some (.cells (l.map (Value.int .i64)).toArray 3 (0, 0))) : Lst w w.heap.size (some ⟨z, 0, none⟩) (l.map (Value.int .i64)) := by
  intro i u hu
  refine ⟨z, 0, rfl, (Array.getElem?_eq_some_iff.1 h).1, ?_⟩
  rw [blk_cell h (0 + i)]
  simpa using hu
theorem rcl_new {w : World} {z : Nat} (rs : List (Int × Int × Int × Int)) {c : Nat} (h : w.heap[z]? = some (.cells (rs.flatMap recV).toArray 48 (0, 0))) : RcL w w.heap.size (.slice (some ⟨z, 0, none⟩) rs.length c) rs := by
  refine ⟨_, c, rfl, fun i r e => ?_⟩
  obtain ⟨k0, k1, k2, k3⟩ := flat_recV rs i r e
  have hz : z < w.heap.size := (Array.getElem?_eq_some_iff.1 h).1
  refine ⟨z, 0, rfl, hz, ?_, ?_, ?_, ?_⟩
  · rw [blk_cell h]; simpa using k0
  · rw [blk_cell h]; simpa using k1
  · rw [blk_cell h]; simpa using k2
  · rw [blk_cell h]; simpa using k3
structure B3 (Y w' : World) (l0 l1 : Bool) (z0 z1 : Nat) (I R : Array Value) : Prop where
  bel : Below Y.heap.size Y w'
  i : l0 = true → w'.heap[z0]? = some (.cells I 3 (0, 0))
  r : l1 = true → w'.heap[z1]? = some (.cells R 48 (0, 0))
section
variable {Y w' w2 : World} {l0 l1 : Bool} {z0 z1 : Nat} {I R : Array Value}
theorem B3.below (h : B3 Y w' l0 l1 z0 z1 I R) (hb : Below w'.heap.size w' w2) : B3 Y w2 l0 l1 z0 z1 I R :=
  ⟨h.bel.trans (hb.mono h.bel.size), fun e => (hb.block _ (Array.getElem?_eq_some_iff.1 (h.i e)).1).trans (h.i e), fun e => (hb.block _ (Array.getElem?_eq_some_iff.1 (h.r e)).1).trans (h.r e)⟩
theorem B3.int (h : B3 Y w' l0 l1 z0 z1 I R) : B3 Y (w'.alloc (.cells I 3)) true l1 w'.heap.size z1 I R :=
  ⟨h.bel.alloc h.bel.size _, fun _ => World.alloc_heap_new w' _, fun e => (Below.heap_alloc _ _ _ (Array.getElem?_eq_some_iff.1 (h.r e)).1).trans (h.r e)⟩
theorem B3.rect (h : B3 Y w' l0 l1 z0 z1 I R) : B3 Y (w'.alloc (.cells R 48)) l0 true z0 w'.heap.size I R :=
  ⟨h.bel.alloc h.bel.size _, fun e => (Below.heap_alloc _ _ _ (Array.getElem?_eq_some_iff.1 (h.i e)).1).trans (h.i e), fun _ => World.alloc_heap_new w' _⟩
end
set_option maxHeartbeats 4000000 in
set_option pp.deepTerms true in
set_option pp.maxSteps 10000000 in
theorem rbands_any (r : Int × Int × Int × Int) (lv k : Nat) (w : World) (hr : inN r 1000) (hk : k ≤ lv ∧ lv ≤ 15) :
    Calls Try.prog 25 #[rA r, .int .i64 (lv : Int), .int .i64 (k : Int)] w fun e w' => ∃ A1 c1 A2 c2, e = .returned (.tuple #[.slice A1 (bandsK k).length c1, .slice A2 (bandsR r lv k).length c2]) ∧ Lst w' w'.heap.size A1 ((bandsK k).map (Value.int .i64)) ∧ RcL w' w'.heap.size (.slice A2 (bandsR r lv k).length c2) (bandsR r lv k) ∧ Below w.heap.size w w' := by
  by_cases hk0 : k = 0
  · subst hk0
    have RS := Lib.hid (fun u => rres_any r lv 0 u hr ⟨by omega, by omega⟩)
    unfold bandsK bandsR
    rw [if_pos rfl, if_pos rfl]
    rw [Nat.sub_zero] at RS
    generalize ((2 ^ lv : Nat) : Int) = n at *
    obtain ⟨q, hq⟩ : ∃ q, overN r n = q := ⟨_, rfl⟩
    rw [hq] at RS ⊢
    clear hq hr
    obtain ⟨x0, v0, x1, v1⟩ := r
    obtain ⟨q0, q1, q2, q3⟩ := q
    unfold rA at RS ⊢
    simp only at RS ⊢
    go_enter Try.func25, Try.ntmps25
    go_wp2_with fail
    obtain ⟨X, hX⟩ : ∃ X, (w.alloc (Obj.cells #[.int .i64 x0, .int .i64 v0, .int .i64 x1, .int .i64 v1] 48)).alloc (Obj.cells #[.int .i64 0] 3) = X := ⟨_, rfl⟩
    have hB : Below w.heap.size w X := by rw [← hX]; exact ((Below.refl _ w).alloc (Nat.le_refl _) _).alloc (by simp) _
    obtain ⟨B, hBe⟩ : ∃ B, w.heap.size = B := ⟨_, rfl⟩
    have hL : Lst X X.heap.size (some ⟨B + 1, 0, none⟩) (([0] : List Int).map (Value.int .i64)) := by
      have := lst_new (w.alloc (Obj.cells #[.int .i64 x0, .int .i64 v0, .int .i64 x1, .int .i64 v1] 48)) [0]
      rw [← hX, ← hBe]
      simpa using this
    rw [hX, hBe]
    have HB := Lib.hid hB
    have HL := Lib.hid hL
    have HBE := Lib.hid hBe
    clear hX hB hL
    refine (RS.out _).mono ?_
    rintro e Y ⟨rfl, hY⟩
    have HBY := Lib.hid (HB.out.trans (hY.mono HB.out.size))
    have HLY : Hid (Lst Y Y.heap.size (some ⟨B + 1, 0, none⟩) (([0] : List Int).map (Value.int .i64))) := Lib.hid ((HL.out.below hY).more hY.size)
    clear hY RS HB HL
    have b5 : Below Y.heap.size Y (Y.alloc (Obj.cells #[.int .i64 q0, .int .i64 q1, .int .i64 q2, .int .i64 q3] 48)) := (Below.refl _ _).alloc (Nat.le_refl _) _
    have HR : Hid (RcL (Y.alloc (Obj.cells #[.int .i64 q0, .int .i64 q1, .int .i64 q2, .int .i64 q3] 48)) (Y.alloc (Obj.cells #[.int .i64 q0, .int .i64 q1, .int .i64 q2, .int .i64 q3] 48)).heap.size (.slice (some ⟨Y.heap.size, 0, none⟩) 1 1) [(q0, q1, q2, q3)]) := Lib.hid (rcl_new [(q0, q1, q2, q3)] (by simpa [recV] using World.alloc_heap_new Y (Obj.cells #[.int .i64 q0, .int .i64 q1, .int .i64 q2, .int .i64 q3] 48)))
    have HL5 := Lib.hid ((HLY.out.below b5).more b5.size)
    have HB5 := Lib.hid (HBY.out.trans (b5.mono HBY.out.size))
    clear b5 HBY HLY
    go_wp2
    go_ret2
    exact ⟨_, _, _, _, rfl, HL5.out, HR.out, by rw [HBE.out]; rw [HBE.out] at HB5; exact HB5.out⟩
  · have hp := pow16 (lv - k + 1) (by omega)
    have hp2 : 0 ≤ ((2 ^ (lv - k + 1) : Nat) : Int) / 2 ∧ ((2 ^ (lv - k + 1) : Nat) : Int) / 2 ≤ 65536 := by omega
    have WP := w64_pow (lv - k + 1) (by omega)
    unfold bandsK bandsR
    rw [if_neg hk0, if_neg hk0]
    obtain ⟨m, hm⟩ : ∃ m, lv - k + 1 = m := ⟨_, rfl⟩
    rw [hm] at hp hp2 WP ⊢
    obtain ⟨n, hn⟩ : ∃ n, ((2 ^ m : Nat) : Int) = n := ⟨_, rfl⟩
    rw [hn] at hp hp2 WP ⊢
    have HWP := Lib.hid WP
    clear hn WP
    obtain ⟨nh, hn2⟩ : ∃ nh, n / 2 = nh := ⟨_, rfl⟩
    rw [hn2] at hp2 ⊢
    have s2 : IntKind.i64.wrap (n.tdiv 2) = nh := by rw [Int.tdiv_eq_ediv_of_nonneg (by omega), hn2]; exact IntWalk.i64_in _ (by omega)
    have s3 : IntKind.i64.wrap ((lv : Int) - (k : Int)) = (lv : Int) - (k : Int) := IntWalk.i64_in _ (by omega)
    have s4 : IntKind.i64.wrap ((lv : Int) - (k : Int) + 1) = (m : Int) := by rw [IntWalk.i64_in _ (by omega)]; omega
    have s5 : (lv : Int) - (k : Int) + 1 = (m : Int) := by omega
    have s6 : (k == 0) = false := by simpa using hk0
    have s7 : ¬ (k : Int) = 0 := by omega
    have s8 : IntKind.i64.wrap (m : Int) = (m : Int) := IntWalk.i64_in _ (by omega)
    have hm0 : (0 : Int) ≤ (m : Int) ∧ (m : Int) ≤ 16 := by omega
    have HN2 := Lib.hid (And.intro hn2 s2)
    clear hn2 hm s2
    obtain ⟨h0, h1, h2, h3⟩ := hr
    obtain ⟨x0, v0, x1, v1⟩ := r
    simp only at h0 h1 h2 h3
    obtain ⟨q1, hq1⟩ : ∃ q, ovR (x0, v0, x1, v1) n nh 0 = q := ⟨_, rfl⟩
    obtain ⟨q2, hq2⟩ : ∃ q, ovR (x0, v0, x1, v1) n 0 nh = q := ⟨_, rfl⟩
    obtain ⟨q3, hq3⟩ : ∃ q, ovR (x0, v0, x1, v1) n nh nh = q := ⟨_, rfl⟩
    have O1 : Hid (∀ u, Calls Try.prog 51 #[.agg #[.int .i64 x0, .int .i64 v0, .int .i64 x1, .int .i64 v1], .int .i64 n, .int .i64 n, .int .i64 nh, .int .i64 0] u fun e w' => e = .returned (rA q1) ∧ Below u.heap.size u w') := Lib.hid fun u => by
      rw [← hq1]; exact rover2_any x0 v0 x1 v1 n n nh 0 u (by omega) (by omega) (by omega) (by omega) h0 h1 h2 h3
    have O2 : Hid (∀ u, Calls Try.prog 51 #[.agg #[.int .i64 x0, .int .i64 v0, .int .i64 x1, .int .i64 v1], .int .i64 n, .int .i64 n, .int .i64 0, .int .i64 nh] u fun e w' => e = .returned (rA q2) ∧ Below u.heap.size u w') := Lib.hid fun u => by
      rw [← hq2]; exact rover2_any x0 v0 x1 v1 n n 0 nh u (by omega) (by omega) (by omega) (by omega) h0 h1 h2 h3
    have O3 : Hid (∀ u, Calls Try.prog 51 #[.agg #[.int .i64 x0, .int .i64 v0, .int .i64 x1, .int .i64 v1], .int .i64 n, .int .i64 n, .int .i64 nh, .int .i64 nh] u fun e w' => e = .returned (rA q3) ∧ Below u.heap.size u w') := Lib.hid fun u => by
      rw [← hq3]; exact rover2_any x0 v0 x1 v1 n n nh nh u (by omega) (by omega) (by omega) (by omega) h0 h1 h2 h3
    rw [hq1, hq2, hq3]
    clear hq1 hq2 hq3 h0 h1 h2 h3 hp2
    obtain ⟨a1, b1, c1, d1⟩ := q1
    obtain ⟨a2, b2, c2, d2⟩ := q2
    obtain ⟨a3, b3, c3, d3⟩ := q3
    unfold rA at O1 O2 O3 ⊢
    simp only at O1 O2 O3 ⊢
    go_enter Try.func25, Try.ntmps25
    go_upto_region 4 with fail
    rw [HWP.out]
    obtain ⟨X, hX⟩ : ∃ X, w.alloc (Obj.cells #[.int .i64 x0, .int .i64 v0, .int .i64 x1, .int .i64 v1] 48) = X := ⟨_, rfl⟩
    have hB : Below w.heap.size w X := by rw [← hX]; exact (Below.refl _ w).alloc (Nat.le_refl _) _
    obtain ⟨B, hBe⟩ : ∃ B, w.heap.size = B := ⟨_, rfl⟩
    have hb : X.heap[B]? = some (.cells #[.int .i64 x0, .int .i64 v0, .int .i64 x1, .int .i64 v1] 48 (0, 0)) := by rw [← hX, ← hBe]; exact World.alloc_heap_new w _
    rw [hX, hBe]
    have HF : Hid (X.cell? ⟨B, 0, none⟩ = some (.int .i64 x0) ∧ X.cell? ⟨B, 1, none⟩ = some (.int .i64 v0) ∧ X.cell? ⟨B, 2, none⟩ = some (.int .i64 x1) ∧ X.cell? ⟨B, 3, none⟩ = some (.int .i64 v1) ∧ B < X.heap.size) := Lib.hid ⟨blk_cell hb 0, blk_cell hb 1, blk_cell hb 2, blk_cell hb 3, (Array.getElem?_eq_some_iff.1 hb).1⟩
    have HB := Lib.hid hB
    have HBE := Lib.hid hBe
    clear hX hB hBe hb HWP s3 s4 s5 s6 s7 s8
    refine (wpIn_wide (n := 9)).1 (regionIn_a (w := X) (Inv := fun L a' w' => ∃ (z0 : Nat) (z1 : Nat), a' = { tmps := #[.agg #[.int .i64 x0, .int .i64 v0, .int .i64 x1, .int .i64 v1], .int .i64 (lv : Int), .int .i64 (k : Int), .pointer (some ⟨B, 0, none⟩), undef, undef, bif L 22 then .slice (some ⟨z0, 0, none⟩) 3 3 else .slice none 0 0, bif L 23 then .slice (some ⟨z1, 0, none⟩) 3 3 else .slice none 0 0, .int .i64 n, .int .i64 (k : Int), .bool ((k : Int) == 0), undef, undef, undef, undef, undef, .int .i64 (lv : Int), .int .i64 (k : Int), .int .i64 ((lv : Int) - (k : Int)), .int .i64 (m : Int), .int .u64 (m : Int), .int .i64 n, bif L 0 then .slice (some ⟨z0, 0, none⟩) 3 3 else undef, bif L 1 then .agg #[.int .i64 x0, .int .i64 v0, .int .i64 x1, .int .i64 v1] else undef, bif L 2 then .int .i64 n else undef, bif L 3 then .int .i64 n else undef, bif L 4 then .int .i64 n else undef, bif L 5 then .int .i64 nh else undef, bif L 6 then .agg #[.int .i64 a1, .int .i64 b1, .int .i64 c1, .int .i64 d1] else undef, bif L 7 then .agg #[.int .i64 x0, .int .i64 v0, .int .i64 x1, .int .i64 v1] else undef, bif L 8 then .int .i64 n else undef, bif L 9 then .int .i64 n else undef, bif L 10 then .int .i64 n else undef, bif L 11 then .int .i64 nh else undef, bif L 12 then .agg #[.int .i64 a2, .int .i64 b2, .int .i64 c2, .int .i64 d2] else undef, bif L 13 then .agg #[.int .i64 x0, .int .i64 v0, .int .i64 x1, .int .i64 v1] else undef, bif L 14 then .int .i64 n else undef, bif L 15 then .int .i64 n else undef, bif L 16 then .int .i64 n else undef, bif L 17 then .int .i64 nh else undef, bif L 18 then .int .i64 n else undef, bif L 19 then .int .i64 nh else undef, bif L 20 then .agg #[.int .i64 a3, .int .i64 b3, .int .i64 c3, .int .i64 d3] else undef, bif L 21 then .slice (some ⟨z1, 0, none⟩) 3 3 else undef], defers := [] } ∧ B3 X w' (L 0) (L 21) z0 z1 #[.int .i64 1, .int .i64 2, .int .i64 3] #[.int .i64 a1, .int .i64 b1, .int .i64 c1, .int .i64 d1, .int .i64 a2, .int .i64 b2, .int .i64 c2, .int .i64 d2, .int .i64 a3, .int .i64 b3, .int .i64 c3, .int .i64 d3]) (by kernel_rfl) (by kernel_rfl) ?start ?step ?fin)
    case start => exact ⟨0, 0, rfl, below_drewN (Below.refl _ X) 1, fun e => (by cases e), fun e => (by cases e)⟩
    case step =>
      intro i hi L a' w' hI hs hu
      obtain ⟨z0, z1, rfl, hph⟩ := hI
      have hL := hu.1
      have hi : i < 24 := hi
      obtain rfl | rfl | rfl | rfl | rfl | rfl | rfl | rfl | rfl | rfl | rfl | rfl | rfl | rfl | rfl | rfl | rfl | rfl | rfl | rfl | rfl | rfl | rfl | rfl := (by omega : i = 0 ∨ i = 1 ∨ i = 2 ∨ i = 3 ∨ i = 4 ∨ i = 5 ∨ i = 6 ∨ i = 7 ∨ i = 8 ∨ i = 9 ∨ i = 10 ∨ i = 11 ∨ i = 12 ∨ i = 13 ∨ i = 14 ∨ i = 15 ∨ i = 16 ∨ i = 17 ∨ i = 18 ∨ i = 19 ∨ i = 20 ∨ i = 21 ∨ i = 22 ∨ i = 23)
      · skip
        have n22 : L 22 = false := not_yet hL fun h => shut_at hs 22 0 (by kernel_rfl) (h)
        have n23 : L 23 = false := not_yet hL fun h => shut_at hs 23 0 (by kernel_rfl) (h)
        try simp only [n22, n23, hL, cond_true, cond_false] at hph
        refine opIn_run (v := .slice (some ⟨w'.heap.size, 0, none⟩) 3 3) (w' := w'.alloc (Obj.cells #[.int .i64 1, .int .i64 2, .int .i64 3] 3)) rfl rfl (fun c h => by cases h) (fun _ => trivial) ?_ ⟨w'.heap.size, z1, by simp [Act.put, upd, n22, n23, hL], (by simpa [upd] using hph.int)⟩
        simp only [n22, n23, hL, cond_true, cond_false]
        clear hph
        go_simp
      · skip
        have n22 : L 22 = false := not_yet hL fun h => shut_at hs 6 1 (by kernel_rfl) (shut_at hs 12 6 (by kernel_rfl) (shut_at hs 20 12 (by kernel_rfl) (shut_at hs 22 20 (by kernel_rfl) (h))))
        have n23 : L 23 = false := not_yet hL fun h => shut_at hs 23 1 (by kernel_rfl) (h)
        try simp only [n22, n23, hL, cond_true, cond_false] at hph
        have g0 := (hph.bel.cell (p := ⟨B, 0, none⟩) HF.out.2.2.2.2).trans HF.out.1
        have g1 := (hph.bel.cell (p := ⟨B, 1, none⟩) HF.out.2.2.2.2).trans HF.out.2.1
        have g2 := (hph.bel.cell (p := ⟨B, 2, none⟩) HF.out.2.2.2.2).trans HF.out.2.2.1
        have g3 := (hph.bel.cell (p := ⟨B, 3, none⟩) HF.out.2.2.2.2).trans HF.out.2.2.2.1
        refine opIn_run (v := .agg #[.int .i64 x0, .int .i64 v0, .int .i64 x1, .int .i64 v1]) (w' := w') rfl rfl (fun c h => by cases h) (fun _ => trivial) ?_ ⟨z0, z1, by simp [Act.put, upd, n22, n23, hL], by simpa [upd] using hph⟩
        simp only [n22, n23, hL, cond_true, cond_false]
        go_simp
      · skip
        have n22 : L 22 = false := not_yet hL fun h => shut_at hs 6 2 (by kernel_rfl) (shut_at hs 12 6 (by kernel_rfl) (shut_at hs 20 12 (by kernel_rfl) (shut_at hs 22 20 (by kernel_rfl) (h))))
        have n23 : L 23 = false := not_yet hL fun h => shut_at hs 23 2 (by kernel_rfl) (h)
        refine opIn_run (v := .int .i64 n) (w' := w') rfl rfl (fun c h => by cases h) (fun _ => trivial) ?_ ⟨z0, z1, by simp [Act.put, upd, n22, n23, hL], by simpa [upd] using hph⟩
        simp only [n22, n23, hL, cond_true, cond_false]
        go_simp
      · skip
        have n22 : L 22 = false := not_yet hL fun h => shut_at hs 6 3 (by kernel_rfl) (shut_at hs 12 6 (by kernel_rfl) (shut_at hs 20 12 (by kernel_rfl) (shut_at hs 22 20 (by kernel_rfl) (h))))
        have n23 : L 23 = false := not_yet hL fun h => shut_at hs 23 3 (by kernel_rfl) (h)
        refine opIn_run (v := .int .i64 n) (w' := w') rfl rfl (fun c h => by cases h) (fun _ => trivial) ?_ ⟨z0, z1, by simp [Act.put, upd, n22, n23, hL], by simpa [upd] using hph⟩
        simp only [n22, n23, hL, cond_true, cond_false]
        go_simp
      · skip
        have n22 : L 22 = false := not_yet hL fun h => shut_at hs 5 4 (by kernel_rfl) (shut_at hs 6 5 (by kernel_rfl) (shut_at hs 12 6 (by kernel_rfl) (shut_at hs 20 12 (by kernel_rfl) (shut_at hs 22 20 (by kernel_rfl) (h)))))
        have n23 : L 23 = false := not_yet hL fun h => shut_at hs 23 4 (by kernel_rfl) (h)
        refine opIn_run (v := .int .i64 n) (w' := w') rfl rfl (fun c h => by cases h) (fun _ => trivial) ?_ ⟨z0, z1, by simp [Act.put, upd, n22, n23, hL], by simpa [upd] using hph⟩
        simp only [n22, n23, hL, cond_true, cond_false]
        go_simp
      · skip
        have y4 : L 4 = true := up_at hu 4 (by kernel_rfl)
        have n22 : L 22 = false := not_yet hL fun h => shut_at hs 6 5 (by kernel_rfl) (shut_at hs 12 6 (by kernel_rfl) (shut_at hs 20 12 (by kernel_rfl) (shut_at hs 22 20 (by kernel_rfl) (h))))
        have n23 : L 23 = false := not_yet hL fun h => shut_at hs 23 5 (by kernel_rfl) (h)
        try simp only [y4, n22, n23, hL, cond_true, cond_false] at hph
        have s2 := HN2.out.2
        refine opIn_run (v := .int .i64 nh) (w' := w') rfl rfl (fun c h => by cases h) (fun _ => trivial) ?_ ⟨z0, z1, by simp [Act.put, upd, y4, n22, n23, hL], by simpa [upd] using hph⟩
        simp only [y4, n22, n23, hL, cond_true, cond_false]
        go_simp
      · skip
        have y1 : L 1 = true := up_at hu 1 (by kernel_rfl)
        have y2 : L 2 = true := up_at hu 2 (by kernel_rfl)
        have y3 : L 3 = true := up_at hu 3 (by kernel_rfl)
        have y4 : L 4 = true := shut_at hs 5 4 (by kernel_rfl) (up_at hu 5 (by kernel_rfl))
        have y5 : L 5 = true := up_at hu 5 (by kernel_rfl)
        have n22 : L 22 = false := not_yet hL fun h => shut_at hs 12 6 (by kernel_rfl) (shut_at hs 20 12 (by kernel_rfl) (shut_at hs 22 20 (by kernel_rfl) (h)))
        have n23 : L 23 = false := not_yet hL fun h => shut_at hs 23 6 (by kernel_rfl) (h)
        try simp only [y1, y2, y3, y4, y5, n22, n23, hL, cond_true, cond_false] at hph
        refine opIn_call (f := 51) (args := #[.agg #[.int .i64 x0, .int .i64 v0, .int .i64 x1, .int .i64 v1], .int .i64 n, .int .i64 n, .int .i64 nh, .int .i64 0]) (w' := w') rfl rfl (fun c h => by cases h) (fun _ => trivial) rfl ?_ ((callsIn_wide.2 (O1.out w')).mono ?_)
        · simp only [y1, y2, y3, y4, y5, n22, n23, hL, cond_true, cond_false]
          go_simp
        · rintro e w2 ⟨rfl, hb⟩
          exact ⟨_, rfl, z0, z1, by simp [Act.put, upd, y1, y2, y3, y4, y5, n22, n23, hL], (by simpa [upd] using hph.below hb)⟩
      · skip
        have n22 : L 22 = false := not_yet hL fun h => shut_at hs 12 7 (by kernel_rfl) (shut_at hs 20 12 (by kernel_rfl) (shut_at hs 22 20 (by kernel_rfl) (h)))
        have n23 : L 23 = false := not_yet hL fun h => shut_at hs 23 7 (by kernel_rfl) (h)
        try simp only [n22, n23, hL, cond_true, cond_false] at hph
        have g0 := (hph.bel.cell (p := ⟨B, 0, none⟩) HF.out.2.2.2.2).trans HF.out.1
        have g1 := (hph.bel.cell (p := ⟨B, 1, none⟩) HF.out.2.2.2.2).trans HF.out.2.1
        have g2 := (hph.bel.cell (p := ⟨B, 2, none⟩) HF.out.2.2.2.2).trans HF.out.2.2.1
        have g3 := (hph.bel.cell (p := ⟨B, 3, none⟩) HF.out.2.2.2.2).trans HF.out.2.2.2.1
        refine opIn_run (v := .agg #[.int .i64 x0, .int .i64 v0, .int .i64 x1, .int .i64 v1]) (w' := w') rfl rfl (fun c h => by cases h) (fun _ => trivial) ?_ ⟨z0, z1, by simp [Act.put, upd, n22, n23, hL], by simpa [upd] using hph⟩
        simp only [n22, n23, hL, cond_true, cond_false]
        go_simp
      · skip
        have n22 : L 22 = false := not_yet hL fun h => shut_at hs 12 8 (by kernel_rfl) (shut_at hs 20 12 (by kernel_rfl) (shut_at hs 22 20 (by kernel_rfl) (h)))
        have n23 : L 23 = false := not_yet hL fun h => shut_at hs 23 8 (by kernel_rfl) (h)
        refine opIn_run (v := .int .i64 n) (w' := w') rfl rfl (fun c h => by cases h) (fun _ => trivial) ?_ ⟨z0, z1, by simp [Act.put, upd, n22, n23, hL], by simpa [upd] using hph⟩
        simp only [n22, n23, hL, cond_true, cond_false]
        go_simp
      · skip
        have n22 : L 22 = false := not_yet hL fun h => shut_at hs 12 9 (by kernel_rfl) (shut_at hs 20 12 (by kernel_rfl) (shut_at hs 22 20 (by kernel_rfl) (h)))
        have n23 : L 23 = false := not_yet hL fun h => shut_at hs 23 9 (by kernel_rfl) (h)
        refine opIn_run (v := .int .i64 n) (w' := w') rfl rfl (fun c h => by cases h) (fun _ => trivial) ?_ ⟨z0, z1, by simp [Act.put, upd, n22, n23, hL], by simpa [upd] using hph⟩
        simp only [n22, n23, hL, cond_true, cond_false]
        go_simp
      · skip
        have n22 : L 22 = false := not_yet hL fun h => shut_at hs 11 10 (by kernel_rfl) (shut_at hs 12 11 (by kernel_rfl) (shut_at hs 20 12 (by kernel_rfl) (shut_at hs 22 20 (by kernel_rfl) (h))))
        have n23 : L 23 = false := not_yet hL fun h => shut_at hs 23 10 (by kernel_rfl) (h)
        refine opIn_run (v := .int .i64 n) (w' := w') rfl rfl (fun c h => by cases h) (fun _ => trivial) ?_ ⟨z0, z1, by simp [Act.put, upd, n22, n23, hL], by simpa [upd] using hph⟩
        simp only [n22, n23, hL, cond_true, cond_false]
        go_simp
      · skip
        have y10 : L 10 = true := up_at hu 10 (by kernel_rfl)
        have n22 : L 22 = false := not_yet hL fun h => shut_at hs 12 11 (by kernel_rfl) (shut_at hs 20 12 (by kernel_rfl) (shut_at hs 22 20 (by kernel_rfl) (h)))
        have n23 : L 23 = false := not_yet hL fun h => shut_at hs 23 11 (by kernel_rfl) (h)
        try simp only [y10, n22, n23, hL, cond_true, cond_false] at hph
        have s2 := HN2.out.2
        refine opIn_run (v := .int .i64 nh) (w' := w') rfl rfl (fun c h => by cases h) (fun _ => trivial) ?_ ⟨z0, z1, by simp [Act.put, upd, y10, n22, n23, hL], by simpa [upd] using hph⟩
        simp only [y10, n22, n23, hL, cond_true, cond_false]
        go_simp
      · skip
        have y1 : L 1 = true := shut_at hs 6 1 (by kernel_rfl) (up_at hu 6 (by kernel_rfl))
        have y2 : L 2 = true := shut_at hs 6 2 (by kernel_rfl) (up_at hu 6 (by kernel_rfl))
        have y3 : L 3 = true := shut_at hs 6 3 (by kernel_rfl) (up_at hu 6 (by kernel_rfl))
        have y4 : L 4 = true := shut_at hs 5 4 (by kernel_rfl) (shut_at hs 6 5 (by kernel_rfl) (up_at hu 6 (by kernel_rfl)))
        have y5 : L 5 = true := shut_at hs 6 5 (by kernel_rfl) (up_at hu 6 (by kernel_rfl))
        have y6 : L 6 = true := up_at hu 6 (by kernel_rfl)
        have y7 : L 7 = true := up_at hu 7 (by kernel_rfl)
        have y8 : L 8 = true := up_at hu 8 (by kernel_rfl)
        have y9 : L 9 = true := up_at hu 9 (by kernel_rfl)
        have y10 : L 10 = true := shut_at hs 11 10 (by kernel_rfl) (up_at hu 11 (by kernel_rfl))
        have y11 : L 11 = true := up_at hu 11 (by kernel_rfl)
        have n22 : L 22 = false := not_yet hL fun h => shut_at hs 20 12 (by kernel_rfl) (shut_at hs 22 20 (by kernel_rfl) (h))
        have n23 : L 23 = false := not_yet hL fun h => shut_at hs 23 12 (by kernel_rfl) (h)
        try simp only [y1, y2, y3, y4, y5, y6, y7, y8, y9, y10, y11, n22, n23, hL, cond_true, cond_false] at hph
        refine opIn_call (f := 51) (args := #[.agg #[.int .i64 x0, .int .i64 v0, .int .i64 x1, .int .i64 v1], .int .i64 n, .int .i64 n, .int .i64 0, .int .i64 nh]) (w' := w') rfl rfl (fun c h => by cases h) (fun _ => trivial) rfl ?_ ((callsIn_wide.2 (O2.out w')).mono ?_)
        · simp only [y1, y2, y3, y4, y5, y6, y7, y8, y9, y10, y11, n22, n23, hL, cond_true, cond_false]
          go_simp
        · rintro e w2 ⟨rfl, hb⟩
          exact ⟨_, rfl, z0, z1, by simp [Act.put, upd, y1, y2, y3, y4, y5, y6, y7, y8, y9, y10, y11, n22, n23, hL], (by simpa [upd] using hph.below hb)⟩
      · skip
        have n22 : L 22 = false := not_yet hL fun h => shut_at hs 20 13 (by kernel_rfl) (shut_at hs 22 20 (by kernel_rfl) (h))
        have n23 : L 23 = false := not_yet hL fun h => shut_at hs 23 13 (by kernel_rfl) (h)
        try simp only [n22, n23, hL, cond_true, cond_false] at hph
        have g0 := (hph.bel.cell (p := ⟨B, 0, none⟩) HF.out.2.2.2.2).trans HF.out.1
        have g1 := (hph.bel.cell (p := ⟨B, 1, none⟩) HF.out.2.2.2.2).trans HF.out.2.1
        have g2 := (hph.bel.cell (p := ⟨B, 2, none⟩) HF.out.2.2.2.2).trans HF.out.2.2.1
        have g3 := (hph.bel.cell (p := ⟨B, 3, none⟩) HF.out.2.2.2.2).trans HF.out.2.2.2.1
        refine opIn_run (v := .agg #[.int .i64 x0, .int .i64 v0, .int .i64 x1, .int .i64 v1]) (w' := w') rfl rfl (fun c h => by cases h) (fun _ => trivial) ?_ ⟨z0, z1, by simp [Act.put, upd, n22, n23, hL], by simpa [upd] using hph⟩
        simp only [n22, n23, hL, cond_true, cond_false]
        go_simp
      · skip
        have n22 : L 22 = false := not_yet hL fun h => shut_at hs 20 14 (by kernel_rfl) (shut_at hs 22 20 (by kernel_rfl) (h))
        have n23 : L 23 = false := not_yet hL fun h => shut_at hs 23 14 (by kernel_rfl) (h)
        refine opIn_run (v := .int .i64 n) (w' := w') rfl rfl (fun c h => by cases h) (fun _ => trivial) ?_ ⟨z0, z1, by simp [Act.put, upd, n22, n23, hL], by simpa [upd] using hph⟩
        simp only [n22, n23, hL, cond_true, cond_false]
        go_simp
      · skip
        have n22 : L 22 = false := not_yet hL fun h => shut_at hs 20 15 (by kernel_rfl) (shut_at hs 22 20 (by kernel_rfl) (h))
        have n23 : L 23 = false := not_yet hL fun h => shut_at hs 23 15 (by kernel_rfl) (h)
        refine opIn_run (v := .int .i64 n) (w' := w') rfl rfl (fun c h => by cases h) (fun _ => trivial) ?_ ⟨z0, z1, by simp [Act.put, upd, n22, n23, hL], by simpa [upd] using hph⟩
        simp only [n22, n23, hL, cond_true, cond_false]
        go_simp
      · skip
        have n22 : L 22 = false := not_yet hL fun h => shut_at hs 17 16 (by kernel_rfl) (shut_at hs 20 17 (by kernel_rfl) (shut_at hs 22 20 (by kernel_rfl) (h)))
        have n23 : L 23 = false := not_yet hL fun h => shut_at hs 23 16 (by kernel_rfl) (h)
        refine opIn_run (v := .int .i64 n) (w' := w') rfl rfl (fun c h => by cases h) (fun _ => trivial) ?_ ⟨z0, z1, by simp [Act.put, upd, n22, n23, hL], by simpa [upd] using hph⟩
        simp only [n22, n23, hL, cond_true, cond_false]
        go_simp
      · skip
        have y16 : L 16 = true := up_at hu 16 (by kernel_rfl)
        have n22 : L 22 = false := not_yet hL fun h => shut_at hs 20 17 (by kernel_rfl) (shut_at hs 22 20 (by kernel_rfl) (h))
        have n23 : L 23 = false := not_yet hL fun h => shut_at hs 23 17 (by kernel_rfl) (h)
        try simp only [y16, n22, n23, hL, cond_true, cond_false] at hph
        have s2 := HN2.out.2
        refine opIn_run (v := .int .i64 nh) (w' := w') rfl rfl (fun c h => by cases h) (fun _ => trivial) ?_ ⟨z0, z1, by simp [Act.put, upd, y16, n22, n23, hL], by simpa [upd] using hph⟩
        simp only [y16, n22, n23, hL, cond_true, cond_false]
        go_simp
      · skip
        have n22 : L 22 = false := not_yet hL fun h => shut_at hs 19 18 (by kernel_rfl) (shut_at hs 20 19 (by kernel_rfl) (shut_at hs 22 20 (by kernel_rfl) (h)))
        have n23 : L 23 = false := not_yet hL fun h => shut_at hs 23 18 (by kernel_rfl) (h)
        refine opIn_run (v := .int .i64 n) (w' := w') rfl rfl (fun c h => by cases h) (fun _ => trivial) ?_ ⟨z0, z1, by simp [Act.put, upd, n22, n23, hL], by simpa [upd] using hph⟩
        simp only [n22, n23, hL, cond_true, cond_false]
        go_simp
      · skip
        have y18 : L 18 = true := up_at hu 18 (by kernel_rfl)
        have n22 : L 22 = false := not_yet hL fun h => shut_at hs 20 19 (by kernel_rfl) (shut_at hs 22 20 (by kernel_rfl) (h))
        have n23 : L 23 = false := not_yet hL fun h => shut_at hs 23 19 (by kernel_rfl) (h)
        try simp only [y18, n22, n23, hL, cond_true, cond_false] at hph
        have s2 := HN2.out.2
        refine opIn_run (v := .int .i64 nh) (w' := w') rfl rfl (fun c h => by cases h) (fun _ => trivial) ?_ ⟨z0, z1, by simp [Act.put, upd, y18, n22, n23, hL], by simpa [upd] using hph⟩
        simp only [y18, n22, n23, hL, cond_true, cond_false]
        go_simp
      · skip
        have y1 : L 1 = true := shut_at hs 6 1 (by kernel_rfl) (shut_at hs 12 6 (by kernel_rfl) (up_at hu 12 (by kernel_rfl)))
        have y2 : L 2 = true := shut_at hs 6 2 (by kernel_rfl) (shut_at hs 12 6 (by kernel_rfl) (up_at hu 12 (by kernel_rfl)))
        have y3 : L 3 = true := shut_at hs 6 3 (by kernel_rfl) (shut_at hs 12 6 (by kernel_rfl) (up_at hu 12 (by kernel_rfl)))
        have y4 : L 4 = true := shut_at hs 5 4 (by kernel_rfl) (shut_at hs 6 5 (by kernel_rfl) (shut_at hs 12 6 (by kernel_rfl) (up_at hu 12 (by kernel_rfl))))
        have y5 : L 5 = true := shut_at hs 6 5 (by kernel_rfl) (shut_at hs 12 6 (by kernel_rfl) (up_at hu 12 (by kernel_rfl)))
        have y6 : L 6 = true := shut_at hs 12 6 (by kernel_rfl) (up_at hu 12 (by kernel_rfl))
        have y7 : L 7 = true := shut_at hs 12 7 (by kernel_rfl) (up_at hu 12 (by kernel_rfl))
        have y8 : L 8 = true := shut_at hs 12 8 (by kernel_rfl) (up_at hu 12 (by kernel_rfl))
        have y9 : L 9 = true := shut_at hs 12 9 (by kernel_rfl) (up_at hu 12 (by kernel_rfl))
        have y10 : L 10 = true := shut_at hs 11 10 (by kernel_rfl) (shut_at hs 12 11 (by kernel_rfl) (up_at hu 12 (by kernel_rfl)))
        have y11 : L 11 = true := shut_at hs 12 11 (by kernel_rfl) (up_at hu 12 (by kernel_rfl))
        have y12 : L 12 = true := up_at hu 12 (by kernel_rfl)
        have y13 : L 13 = true := up_at hu 13 (by kernel_rfl)
        have y14 : L 14 = true := up_at hu 14 (by kernel_rfl)
        have y15 : L 15 = true := up_at hu 15 (by kernel_rfl)
        have y16 : L 16 = true := shut_at hs 17 16 (by kernel_rfl) (up_at hu 17 (by kernel_rfl))
        have y17 : L 17 = true := up_at hu 17 (by kernel_rfl)
        have y18 : L 18 = true := shut_at hs 19 18 (by kernel_rfl) (up_at hu 19 (by kernel_rfl))
        have y19 : L 19 = true := up_at hu 19 (by kernel_rfl)
        have n22 : L 22 = false := not_yet hL fun h => shut_at hs 22 20 (by kernel_rfl) (h)
        have n23 : L 23 = false := not_yet hL fun h => shut_at hs 23 20 (by kernel_rfl) (h)
        try simp only [y1, y2, y3, y4, y5, y6, y7, y8, y9, y10, y11, y12, y13, y14, y15, y16, y17, y18, y19, n22, n23, hL, cond_true, cond_false] at hph
        refine opIn_call (f := 51) (args := #[.agg #[.int .i64 x0, .int .i64 v0, .int .i64 x1, .int .i64 v1], .int .i64 n, .int .i64 n, .int .i64 nh, .int .i64 nh]) (w' := w') rfl rfl (fun c h => by cases h) (fun _ => trivial) rfl ?_ ((callsIn_wide.2 (O3.out w')).mono ?_)
        · simp only [y1, y2, y3, y4, y5, y6, y7, y8, y9, y10, y11, y12, y13, y14, y15, y16, y17, y18, y19, n22, n23, hL, cond_true, cond_false]
          go_simp
        · rintro e w2 ⟨rfl, hb⟩
          exact ⟨_, rfl, z0, z1, by simp [Act.put, upd, y1, y2, y3, y4, y5, y6, y7, y8, y9, y10, y11, y12, y13, y14, y15, y16, y17, y18, y19, n22, n23, hL], (by simpa [upd] using hph.below hb)⟩
      · skip
        have y1 : L 1 = true := shut_at hs 6 1 (by kernel_rfl) (up_at hu 6 (by kernel_rfl))
        have y2 : L 2 = true := shut_at hs 6 2 (by kernel_rfl) (up_at hu 6 (by kernel_rfl))
        have y3 : L 3 = true := shut_at hs 6 3 (by kernel_rfl) (up_at hu 6 (by kernel_rfl))
        have y4 : L 4 = true := shut_at hs 5 4 (by kernel_rfl) (shut_at hs 6 5 (by kernel_rfl) (up_at hu 6 (by kernel_rfl)))
        have y5 : L 5 = true := shut_at hs 6 5 (by kernel_rfl) (up_at hu 6 (by kernel_rfl))
        have y6 : L 6 = true := up_at hu 6 (by kernel_rfl)
        have y7 : L 7 = true := shut_at hs 12 7 (by kernel_rfl) (up_at hu 12 (by kernel_rfl))
        have y8 : L 8 = true := shut_at hs 12 8 (by kernel_rfl) (up_at hu 12 (by kernel_rfl))
        have y9 : L 9 = true := shut_at hs 12 9 (by kernel_rfl) (up_at hu 12 (by kernel_rfl))
        have y10 : L 10 = true := shut_at hs 11 10 (by kernel_rfl) (shut_at hs 12 11 (by kernel_rfl) (up_at hu 12 (by kernel_rfl)))
        have y11 : L 11 = true := shut_at hs 12 11 (by kernel_rfl) (up_at hu 12 (by kernel_rfl))
        have y12 : L 12 = true := up_at hu 12 (by kernel_rfl)
        have y13 : L 13 = true := shut_at hs 20 13 (by kernel_rfl) (up_at hu 20 (by kernel_rfl))
        have y14 : L 14 = true := shut_at hs 20 14 (by kernel_rfl) (up_at hu 20 (by kernel_rfl))
        have y15 : L 15 = true := shut_at hs 20 15 (by kernel_rfl) (up_at hu 20 (by kernel_rfl))
        have y16 : L 16 = true := shut_at hs 17 16 (by kernel_rfl) (shut_at hs 20 17 (by kernel_rfl) (up_at hu 20 (by kernel_rfl)))
        have y17 : L 17 = true := shut_at hs 20 17 (by kernel_rfl) (up_at hu 20 (by kernel_rfl))
        have y18 : L 18 = true := shut_at hs 19 18 (by kernel_rfl) (shut_at hs 20 19 (by kernel_rfl) (up_at hu 20 (by kernel_rfl)))
        have y19 : L 19 = true := shut_at hs 20 19 (by kernel_rfl) (up_at hu 20 (by kernel_rfl))
        have y20 : L 20 = true := up_at hu 20 (by kernel_rfl)
        have n23 : L 23 = false := not_yet hL fun h => shut_at hs 23 21 (by kernel_rfl) (h)
        try simp only [y1, y2, y3, y4, y5, y6, y7, y8, y9, y10, y11, y12, y13, y14, y15, y16, y17, y18, y19, y20, n23, hL, cond_true, cond_false] at hph
        refine opIn_run (v := .slice (some ⟨w'.heap.size, 0, none⟩) 3 3) (w' := w'.alloc (Obj.cells #[.int .i64 a1, .int .i64 b1, .int .i64 c1, .int .i64 d1, .int .i64 a2, .int .i64 b2, .int .i64 c2, .int .i64 d2, .int .i64 a3, .int .i64 b3, .int .i64 c3, .int .i64 d3] 48)) rfl rfl (fun c h => by cases h) (fun _ => trivial) ?_ ⟨z0, w'.heap.size, by simp [Act.put, upd, y1, y2, y3, y4, y5, y6, y7, y8, y9, y10, y11, y12, y13, y14, y15, y16, y17, y18, y19, y20, n23, hL], (by simpa [upd] using hph.rect)⟩
        simp only [y1, y2, y3, y4, y5, y6, y7, y8, y9, y10, y11, y12, y13, y14, y15, y16, y17, y18, y19, y20, n23, hL, cond_true, cond_false]
        clear hph
        go_simp
      · skip
        have y0 : L 0 = true := up_at hu 0 (by kernel_rfl)
        have y1 : L 1 = true := shut_at hs 6 1 (by kernel_rfl) (shut_at hs 12 6 (by kernel_rfl) (shut_at hs 20 12 (by kernel_rfl) (up_at hu 20 (by kernel_rfl))))
        have y2 : L 2 = true := shut_at hs 6 2 (by kernel_rfl) (shut_at hs 12 6 (by kernel_rfl) (shut_at hs 20 12 (by kernel_rfl) (up_at hu 20 (by kernel_rfl))))
        have y3 : L 3 = true := shut_at hs 6 3 (by kernel_rfl) (shut_at hs 12 6 (by kernel_rfl) (shut_at hs 20 12 (by kernel_rfl) (up_at hu 20 (by kernel_rfl))))
        have y4 : L 4 = true := shut_at hs 5 4 (by kernel_rfl) (shut_at hs 6 5 (by kernel_rfl) (shut_at hs 12 6 (by kernel_rfl) (shut_at hs 20 12 (by kernel_rfl) (up_at hu 20 (by kernel_rfl)))))
        have y5 : L 5 = true := shut_at hs 6 5 (by kernel_rfl) (shut_at hs 12 6 (by kernel_rfl) (shut_at hs 20 12 (by kernel_rfl) (up_at hu 20 (by kernel_rfl))))
        have y6 : L 6 = true := shut_at hs 12 6 (by kernel_rfl) (shut_at hs 20 12 (by kernel_rfl) (up_at hu 20 (by kernel_rfl)))
        have y7 : L 7 = true := shut_at hs 12 7 (by kernel_rfl) (shut_at hs 20 12 (by kernel_rfl) (up_at hu 20 (by kernel_rfl)))
        have y8 : L 8 = true := shut_at hs 12 8 (by kernel_rfl) (shut_at hs 20 12 (by kernel_rfl) (up_at hu 20 (by kernel_rfl)))
        have y9 : L 9 = true := shut_at hs 12 9 (by kernel_rfl) (shut_at hs 20 12 (by kernel_rfl) (up_at hu 20 (by kernel_rfl)))
        have y10 : L 10 = true := shut_at hs 11 10 (by kernel_rfl) (shut_at hs 12 11 (by kernel_rfl) (shut_at hs 20 12 (by kernel_rfl) (up_at hu 20 (by kernel_rfl))))
        have y11 : L 11 = true := shut_at hs 12 11 (by kernel_rfl) (shut_at hs 20 12 (by kernel_rfl) (up_at hu 20 (by kernel_rfl)))
        have y12 : L 12 = true := shut_at hs 20 12 (by kernel_rfl) (up_at hu 20 (by kernel_rfl))
        have y13 : L 13 = true := shut_at hs 20 13 (by kernel_rfl) (up_at hu 20 (by kernel_rfl))
        have y14 : L 14 = true := shut_at hs 20 14 (by kernel_rfl) (up_at hu 20 (by kernel_rfl))
        have y15 : L 15 = true := shut_at hs 20 15 (by kernel_rfl) (up_at hu 20 (by kernel_rfl))
        have y16 : L 16 = true := shut_at hs 17 16 (by kernel_rfl) (shut_at hs 20 17 (by kernel_rfl) (up_at hu 20 (by kernel_rfl)))
        have y17 : L 17 = true := shut_at hs 20 17 (by kernel_rfl) (up_at hu 20 (by kernel_rfl))
        have y18 : L 18 = true := shut_at hs 19 18 (by kernel_rfl) (shut_at hs 20 19 (by kernel_rfl) (up_at hu 20 (by kernel_rfl)))
        have y19 : L 19 = true := shut_at hs 20 19 (by kernel_rfl) (up_at hu 20 (by kernel_rfl))
        have y20 : L 20 = true := up_at hu 20 (by kernel_rfl)
        have n23 : L 23 = false := not_yet hL fun h => shut_at hs 23 22 (by kernel_rfl) (h)
        refine opIn_run (v := .slice (some ⟨z0, 0, none⟩) 3 3) (w' := w') rfl rfl (fun c h => by cases h) (fun _ => trivial) ?_ ⟨z0, z1, by simp [Act.put, upd, y0, y1, y2, y3, y4, y5, y6, y7, y8, y9, y10, y11, y12, y13, y14, y15, y16, y17, y18, y19, y20, n23, hL], by simpa [upd] using hph⟩
        simp only [y0, y1, y2, y3, y4, y5, y6, y7, y8, y9, y10, y11, y12, y13, y14, y15, y16, y17, y18, y19, y20, n23, hL, cond_true, cond_false]
        go_simp
      · skip
        have y0 : L 0 = true := up_at hu 0 (by kernel_rfl)
        have y1 : L 1 = true := up_at hu 1 (by kernel_rfl)
        have y2 : L 2 = true := up_at hu 2 (by kernel_rfl)
        have y3 : L 3 = true := up_at hu 3 (by kernel_rfl)
        have y4 : L 4 = true := up_at hu 4 (by kernel_rfl)
        have y5 : L 5 = true := up_at hu 5 (by kernel_rfl)
        have y6 : L 6 = true := up_at hu 6 (by kernel_rfl)
        have y7 : L 7 = true := up_at hu 7 (by kernel_rfl)
        have y8 : L 8 = true := up_at hu 8 (by kernel_rfl)
        have y9 : L 9 = true := up_at hu 9 (by kernel_rfl)
        have y10 : L 10 = true := up_at hu 10 (by kernel_rfl)
        have y11 : L 11 = true := up_at hu 11 (by kernel_rfl)
        have y12 : L 12 = true := up_at hu 12 (by kernel_rfl)
        have y13 : L 13 = true := up_at hu 13 (by kernel_rfl)
        have y14 : L 14 = true := up_at hu 14 (by kernel_rfl)
        have y15 : L 15 = true := up_at hu 15 (by kernel_rfl)
        have y16 : L 16 = true := up_at hu 16 (by kernel_rfl)
        have y17 : L 17 = true := up_at hu 17 (by kernel_rfl)
        have y18 : L 18 = true := up_at hu 18 (by kernel_rfl)
        have y19 : L 19 = true := up_at hu 19 (by kernel_rfl)
        have y20 : L 20 = true := up_at hu 20 (by kernel_rfl)
        have y21 : L 21 = true := up_at hu 21 (by kernel_rfl)
        have y22 : L 22 = true := up_at hu 22 (by kernel_rfl)
        refine opIn_run (v := .slice (some ⟨z1, 0, none⟩) 3 3) (w' := w') rfl rfl (fun c h => by cases h) (fun _ => trivial) ?_ ⟨z0, z1, by simp [Act.put, upd, y0, y1, y2, y3, y4, y5, y6, y7, y8, y9, y10, y11, y12, y13, y14, y15, y16, y17, y18, y19, y20, y21, y22, hL], by simpa [upd] using hph⟩
        simp only [y0, y1, y2, y3, y4, y5, y6, y7, y8, y9, y10, y11, y12, y13, y14, y15, y16, y17, y18, y19, y20, y21, y22, hL, cond_true, cond_false]
        go_simp
    case fin =>
      intro L a' w' hall hI
      obtain ⟨z0, z1, rfl, hph⟩ := hI
      have l0 := hall 0 (by decide)
      have l1 := hall 1 (by decide)
      have l2 := hall 2 (by decide)
      have l3 := hall 3 (by decide)
      have l4 := hall 4 (by decide)
      have l5 := hall 5 (by decide)
      have l6 := hall 6 (by decide)
      have l7 := hall 7 (by decide)
      have l8 := hall 8 (by decide)
      have l9 := hall 9 (by decide)
      have l10 := hall 10 (by decide)
      have l11 := hall 11 (by decide)
      have l12 := hall 12 (by decide)
      have l13 := hall 13 (by decide)
      have l14 := hall 14 (by decide)
      have l15 := hall 15 (by decide)
      have l16 := hall 16 (by decide)
      have l17 := hall 17 (by decide)
      have l18 := hall 18 (by decide)
      have l19 := hall 19 (by decide)
      have l20 := hall 20 (by decide)
      have l21 := hall 21 (by decide)
      have l22 := hall 22 (by decide)
      have l23 := hall 23 (by decide)
      simp only [l0, l1, l2, l3, l4, l5, l6, l7, l8, l9, l10, l11, l12, l13, l14, l15, l16, l17, l18, l19, l20, l21, l22, l23, cond_true] at hph ⊢
      clear l0 l1 l2 l3 l4 l5 l6 l7 l8 l9 l10 l11 l12 l13 l14 l15 l16 l17 l18 l19 l20 l21 l22 l23 hall
      have hi := hph.i rfl
      have hr := hph.r rfl
      have hbe := hph.bel
      have HBB : Hid (Below B w w') := Lib.hid (by rw [← HBE.out]; exact HB.out.trans (hbe.mono HB.out.size))
      have HLI : Hid (Lst w' w'.heap.size (some ⟨z0, 0, none⟩) (([1, 2, 3] : List Int).map (Value.int .i64))) := Lib.hid (lst_blk (l := [1, 2, 3]) hi)
      have HRC : Hid (RcL w' w'.heap.size (.slice (some ⟨z1, 0, none⟩) 3 3) [(a1, b1, c1, d1), (a2, b2, c2, d2), (a3, b3, c3, d3)]) := Lib.hid (rcl_new [(a1, b1, c1, d1), (a2, b2, c2, d2), (a3, b3, c3, d3)] hr)
      clear hi hr hbe hph HF HB O1 O2 O3
      go_wp2
      go_ret2
      exact ⟨_, _, _, _, rfl, HLI.out, HRC.out, by rw [HBE.out]; exact HBB.out⟩
end Go.Proofs.Ythcpmonahmogaaa
