/- ColorGray, ColorSwaps, walked. -/
import Derived.Test.YtgplaikcahpiiaaColKnown
set_option linter.unusedVariables false
namespace Go.Proofs.Ytgplaikcahpiiaa
open Go.RowKit

theorem map_getD (f : Int → Int) (l : List Int) (n : Nat) (h : l.length = n) : (List.range n).map (fun i => f (l.getD i 0)) = l.map f := by
  apply List.ext_getElem?
  intro i
  rw [List.getElem?_map, List.getElem?_map]
  rcases Nat.lt_or_ge i n with hi | hi
  · rw [List.getElem?_range hi, List.getElem?_eq_getElem (by omega)]; show some (f (l.getD i 0)) = some (f _); rw [List.getD_eq_getElem?_getD, List.getElem?_eq_getElem (by omega)]; rfl
  · rw [List.getElem?_eq_none (by simpa using hi), List.getElem?_eq_none (by omega)]; rfl
theorem gray_y {x : List Int} {n : Nat} (h : x.length = n) : map3 turnF x x x n = x := by
  unfold map3
  have := map_getD (fun a => turnF a a a) x n h
  rw [this]
  have e : (fun a => turnF a a a) = id := by funext a; unfold turnF; simp; omega
  rw [e, List.map_id]
theorem gray_u {x : List Int} {n : Nat} : map2 subF x x n = List.replicate n 0 := by
  unfold map2
  apply List.ext_getElem?
  intro i
  rw [List.getElem?_map]
  rcases Nat.lt_or_ge i n with hi | hi
  · rw [List.getElem?_range hi, List.getElem?_replicate_of_lt hi]; simp [subF]
  · rw [List.getElem?_eq_none (by simpa using hi), List.getElem?_eq_none (by simpa using hi)]; rfl
theorem rowF_big (l : List Int) : Rng 1099511627776 (rowF l) := rng_of (by omega) fun x hx => by have := rowF_rng x hx; omega
theorem rowI_made (w : World) (n : Nat) (hn : n ≤ 1000) : RowI (w.alloc (.cells (madeCells #[.int .i64 0] n) 3)) (some ⟨w.heap.size, 0, none⟩) n n (List.replicate n 0) := by
  have h := World.ownsRow_lit (base := w.heap.size) (e := 3) (size := 1) w (madeCells #[Value.int IntKind.i64 0] n) n (by simp) (by unfold maxLen; omega) (by rw [size_madeCells]; simp)
  rw [toList_madeCells_one] at h
  have e : List.replicate n (Value.int .i64 0) = (List.replicate n (0 : Int)).map (Value.int .i64) := by simp
  rw [e] at h
  obtain ⟨A, c, hv, hr⟩ := rowI_own h
  injection hv with h1 _ h2
  subst h1 h2
  exact hr

set_option maxHeartbeats 2000000 in
theorem walk_colorGray (a0 : Option Addr) (len0 cap0 : Nat) (z0 : List Int) (w : World) (w0 : IsRow .i64 w a0 len0 cap0 z0) :
    Calls Try.prog 6 #[.slice a0 len0 cap0] w fun e w' => e = .returned (.bool true) ∧ Below w.heap.size w w' := by
  have H0 := Lib.hid (rowI_is w0)
  clear w0
  have hmk : ∀ (u : World) (q : Nat), q ≤ 1000 → (Instr.makeSlice 22 (.int .i64 (q : Int)) (.int .i64 (q : Int))).run Try.prog u = .ok (.slice (some ⟨u.heap.size, 0, none⟩) q q) (u.alloc (.cells (madeCells #[.int .i64 0] q) 3)) := fun u q hq =>
    run_make_row' 22 3 (.int .i64 0) 8 Try.underlying22 Try.info3 rfl .i64 .i64 q (by omega) (by omega) u
  go_enter Try.func6, Try.ntmps6
  go_wp2_with fail
  refine (known11 _).mono ?_
  rintro e w1 ⟨rfl, d1⟩
  go_wp2_with fail
  refine (row9 (H0.out.keep d1 (Nat.le_refl _))).mono ?_
  rintro e w2 ⟨A1, c1, rfl, h2, d2⟩
  have d12 := d1.trans (d2.mono d1.size)
  have hq : min 60 len0 ≤ 1000 := by omega
  generalize min 60 len0 = n at *
  go_wp2_with fail
  refine (turn_any h2 h2 h2 hq (rowF_big _) (rowF_big _) (rowF_big _)).mono ?_
  rintro e w3 ⟨B1, e1, B2, e2, B3, e3, rfl, g1, g2, g3, d3⟩
  rw [gray_y h2.1] at g1
  rw [gray_u] at g2 g3
  have d13 := d12.trans (d3.mono d12.size)
  have h3 := h2.keep d3 (Nat.le_refl _)
  clear d1 d2 d12 d3 h2
  go_wp2_with fail
  refine (ints_yes g1 h3).mono ?_
  rintro e w4 ⟨rfl, d4⟩
  have g2 := g2.drew d4
  have g3 := g3.drew d4
  have d14 := Drew.to d13 d4
  clear g1 h3 d4 d13
  have m1 := fun u => hmk u n hq
  clear hmk
  go_wp2_with fail
  refine (ints_yes (g2.keep ((Below.refl _ _).alloc (Nat.le_refl _) _) (Nat.le_refl _)) (rowI_made w4 n hq)).mono ?_
  rintro e w5 ⟨rfl, d5⟩
  have hb5 : Below w4.heap.size w4 w5 := Drew.to ((Below.refl _ _).alloc (Nat.le_refl _) _) d5
  have g3 := g3.keep hb5 (Nat.le_refl _)
  have d15 := d14.trans (hb5.mono d14.size)
  clear g2 d5 d14 hb5
  go_wp2_with fail
  refine (ints_yes (g3.keep ((Below.refl _ _).alloc (Nat.le_refl _) _) (Nat.le_refl _)) (rowI_made w5 n hq)).mono ?_
  rintro e w6 ⟨rfl, d6⟩
  have hb6 : Below w5.heap.size w5 w6 := Drew.to ((Below.refl _ _).alloc (Nat.le_refl _) _) d6
  have d16 := d15.trans (hb6.mono d15.size)
  clear g3 d6 d15 hb6
  go_wp2
  go_ret
  exact ⟨rfl, d16⟩

theorem Tri.keep {w w' : World} {A1 A2 A3 : Option Addr} {c1 c2 c3 n B : Nat} {x y z : List Int} (h : Tri w A1 c1 A2 c2 A3 c3 n x y z) (hb : Below B w w') (hB : w.heap.size ≤ B) : Tri w' A1 c1 A2 c2 A3 c3 n x y z :=
  ⟨h.1, h.2.1.keep hb hB, h.2.2.1.keep hb hB, h.2.2.2.1.keep hb hB, h.2.2.2.2⟩
theorem Tri.turn {w : World} {A1 A2 A3 : Option Addr} {c1 c2 c3 n : Nat} {x y z : List Int} (h : Tri w A1 c1 A2 c2 A3 c3 n x y z) :
    Calls Try.prog 20 #[.slice A1 n c1, .slice A2 n c2, .slice A3 n c3] w fun e w' => ∃ B1 e1 B2 e2 B3 e3, e = .returned (.tuple #[.slice B1 n e1, .slice B2 n e2, .slice B3 n e3]) ∧
      RowI w' B1 n e1 (map3 turnF x y z n) ∧ RowI w' B2 n e2 (map2 subF z y n) ∧ RowI w' B3 n e3 (map2 subF x y n) ∧ Below w.heap.size w w' := by
  obtain ⟨h0, h1, h2, h3, r1, r2, r3⟩ := h
  exact turn_any h1 h2 h3 (by omega) (rng_mono r1 (by omega)) (rng_mono r2 (by omega)) (rng_mono r3 (by omega))
theorem turn_swap (x y z : List Int) (n : Nat) : map3 turnF z y x n = map3 turnF x y z n := by
  unfold map3 turnF
  congr 1
  funext i
  omega

set_option maxHeartbeats 2000000 in
theorem walk_colorSwaps (a0 : Option Addr) (len0 cap0 : Nat) (z0 : List Int) (a1 : Option Addr) (len1 cap1 : Nat) (z1 : List Int) (a2 : Option Addr) (len2 cap2 : Nat) (z2 : List Int) (w : World) (w0 : IsRow .i64 w a0 len0 cap0 z0) (w1 : IsRow .i64 w a1 len1 cap1 z1) (w2 : IsRow .i64 w a2 len2 cap2 z2) :
    Calls Try.prog 10 #[.slice a0 len0 cap0, .slice a1 len1 cap1, .slice a2 len2 cap2] w fun e w' => e = .returned (.bool true) ∧ Below w.heap.size w w' := by
  have H0 := Lib.hid (rowI_is w0)
  have H1 := Lib.hid (rowI_is w1)
  have H2 := Lib.hid (rowI_is w2)
  clear w0 w1 w2
  go_enter Try.func10, Try.ntmps10
  go_wp2_with fail
  refine (known11 _).mono ?_
  rintro e w1 ⟨rfl, d1⟩
  go_wp2_with fail
  refine (three_any (H0.out.keep d1 (Nat.le_refl _)) (H1.out.keep d1 (Nat.le_refl _)) (H2.out.keep d1 (Nat.le_refl _))).mono ?_
  rintro e w2 ⟨A1, c1, A2, c2, A3, c3, n, x, y, z, rfl, ht, d2⟩
  have d2 := d1.trans (d2.mono d1.size)
  clear d1
  go_wp2_with fail
  refine ht.turn.mono ?_
  rintro e w3 ⟨B1, e1, B2, e2, B3, e3, rfl, g1, g2, g3, d3⟩
  have ht3 := ht.keep d3 (Nat.le_refl _)
  have d3 := d2.trans (d3.mono d2.size)
  clear d2 ht
  go_wp2_with fail
  obtain ⟨h0, h1, h2, h3, r1, r2, r3⟩ := ht3
  refine (turn_any h3 h2 h1 (by omega) (rng_mono r3 (by omega)) (rng_mono r2 (by omega)) (rng_mono r1 (by omega))).mono ?_
  rintro e w4 ⟨C1, f1, C2, f2, C3, f3, rfl, k1, k2, k3, d4⟩
  rw [turn_swap] at k1
  have g1 := g1.keep d4 (Nat.le_refl _)
  have g2 := g2.keep d4 (Nat.le_refl _)
  have g3 := g3.keep d4 (Nat.le_refl _)
  have d4 := d3.trans (d4.mono d3.size)
  clear d3 h1 h2 h3 r1 r2 r3
  go_wp2_with fail
  refine (ints_yes g1 k1).mono ?_
  rintro e w5 ⟨rfl, d5⟩
  have g2 := g2.drew d5
  have g3 := g3.drew d5
  have k2 := k2.drew d5
  have k3 := k3.drew d5
  have d5 := Drew.to d4 d5
  clear g1 k1 d4
  go_wp2_with fail
  refine (ints_yes g2 k3).mono ?_
  rintro e w6 ⟨rfl, d6⟩
  have g3 := g3.drew d6
  have k2 := k2.drew d6
  have d6 := Drew.to d5 d6
  clear g2 k3 d5
  go_wp2_with fail
  refine (ints_yes g3 k2).mono ?_
  rintro e w7 ⟨rfl, d7⟩
  have d7 := Drew.to d6 d7
  clear g3 k2 d6
  go_wp2
  go_ret
  exact ⟨rfl, d7⟩
end Go.Proofs.Ytgplaikcahpiiaa
