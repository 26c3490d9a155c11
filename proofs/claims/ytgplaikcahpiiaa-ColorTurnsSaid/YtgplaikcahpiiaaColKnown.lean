/- known, within, three of chapter 11's laws. -/
import Derived.Test.YtgplaikcahpiiaaTurn
set_option linter.unusedVariables false
namespace Go.Proofs.Ytgplaikcahpiiaa
open Go.RowKit

theorem rowI_one {w : World} {b : Nat} {x : Int} (hb : b < w.heap.size) (h : w.cell? ⟨b, 0, none⟩ = some (.int .i64 x)) : RowI w (some ⟨b, 0, none⟩) 1 1 [x] := by
  refine ⟨rfl, Nat.le_refl _, by unfold maxLen; omega, by simp, ?_⟩
  intro i u hu
  rcases i with _ | i
  · simp at hu; subst hu; exact ⟨b, 0, rfl, hb, h⟩
  · simp at hu
theorem rng_one (K x : Int) (h : -K ≤ x ∧ x ≤ K) (h0 : 0 ≤ K) : Rng K [x] := by
  intro i
  rcases i with _ | i
  · exact h
  · simp; omega
theorem rng_mono {K K' : Int} {l : List Int} (h : Rng K l) (hk : K ≤ K') : Rng K' l := fun i => by have := h i; omega
theorem rng_of {K : Int} {l : List Int} (h0 : 0 ≤ K) (h : ∀ x ∈ l, -K ≤ x ∧ x ≤ K) : Rng K l := fun i => by
  rw [List.getD_eq_getElem?_getD]
  rcases Nat.lt_or_ge i l.length with hi | hi
  · rw [List.getElem?_eq_getElem hi]; exact h _ (List.getElem_mem _)
  · rw [List.getElem?_eq_none hi]; simp; omega
theorem rng_take {K : Int} {l : List Int} (h0 : 0 ≤ K) (h : ∀ x ∈ l, -K ≤ x ∧ x ≤ K) (k : Nat) : Rng K (l.take k) := rng_of h0 fun x hx => h x (List.mem_of_mem_take hx)

set_option maxHeartbeats 2000000 in
theorem known11 (w : World) : Calls Try.prog 11 #[] w fun e w' => e = .returned (.bool true) ∧ Below w.heap.size w w' := by
  go_enter Try.func11, Try.ntmps11
  go_wp2_with fail
  obtain ⟨W, hW⟩ : ∃ W, (((w.alloc (Obj.cells #[.int .i64 1] 3)).alloc (Obj.cells #[.int .i64 2] 3)).alloc (Obj.cells #[.int .i64 3] 3)) = W := ⟨_, rfl⟩
  have hb0 : Below w.heap.size w W := by
    rw [← hW]; exact (((((Below.refl _ _).alloc (Nat.le_refl _) _).alloc (by simp) _).alloc (by simp; omega) _))
  have hs : W.heap.size = w.heap.size + 1 + 1 + 1 := by rw [← hW]; show Array.size (Array.push (Array.push (Array.push w.heap _) _) _) = _; rw [Array.size_push, Array.size_push, Array.size_push]
  have g1 : W.cell? ⟨w.heap.size, 0, none⟩ = some (.int .i64 1) := by
    rw [← hW, World.cell?_alloc_past _ _ _ (by simp; omega), World.cell?_alloc_past _ _ _ (by simp), World.cell?_alloc_new]; rfl
  have g2 : W.cell? ⟨w.heap.size + 1, 0, none⟩ = some (.int .i64 2) := by
    rw [← hW, World.cell?_alloc_past _ _ _ (by simp), World.cell?_alloc_at _ _ _ _ (by simp)]; rfl
  have g3 : W.cell? ⟨w.heap.size + 1 + 1, 0, none⟩ = some (.int .i64 3) := by
    rw [← hW, World.cell?_alloc_at _ _ _ _ (by simp)]; rfl
  rw [hW]
  refine (turn_any (rowI_one (by omega) g1) (rowI_one (by omega) g2) (rowI_one (by omega) g3) (by omega) (rng_one _ _ (by omega) (by omega)) (rng_one _ _ (by omega) (by omega)) (rng_one _ _ (by omega) (by omega))).mono ?_
  rintro e w1 ⟨A1, c1, A2, c2, A3, c3, rfl, h1, h2, h3, d1⟩
  obtain ⟨b1, o1, rfl, q1, r1⟩ := h1.cell (k := 0) (by omega)
  obtain ⟨b2, o2, rfl, q2, r2⟩ := h2.cell (k := 0) (by omega)
  obtain ⟨b3, o3, rfl, q3, r3⟩ := h3.cell (k := 0) (by omega)
  change w1.cell? ⟨b1, o1, none⟩ = some (.int .i64 2) at r1
  change w1.cell? ⟨b2, o2, none⟩ = some (.int .i64 1) at r2
  change w1.cell? ⟨b3, o3, none⟩ = some (.int .i64 (-1)) at r3
  have hb1 := hb0.trans (d1.mono hb0.size)
  clear hb0 d1 h1 h2 h3 g1 g2 g3 hW hs
  go_wp2
  go_ret
  exact ⟨rfl, hb1⟩

set_option maxHeartbeats 400000 in
theorem within11 (a n : Int) (w : World) (hn : 1 ≤ n) (hm : n ≤ 4611686018427387904) :
    Calls Try.prog 12 #[.int .i64 a, .int .i64 n] w fun e w' => e = .returned (.int .i64 (a % n)) ∧ w = w' := by
  have hb := within_bd a n hn
  have hk := within_key a n hn
  have HK := Lib.hid hk
  clear hk
  have h0 : ¬ n = 0 := by omega
  by_cases hc : a.tmod n < 0
  · go_enter Try.func12, Try.ntmps12
    go_wp2
    go_ret
    refine ⟨ret_i64 ?_, rfl⟩
    rw [← HK.out, if_pos (by omega)]
  · go_enter Try.func12, Try.ntmps12
    go_wp2
    go_ret
    refine ⟨ret_i64 ?_, rfl⟩
    rw [← HK.out, if_neg (by omega)]

/-- Three rows of one length. -/
def Tri (w : World) (A1 : Option Addr) (c1 : Nat) (A2 : Option Addr) (c2 : Nat) (A3 : Option Addr) (c3 : Nat) (n : Nat) (x y z : List Int) : Prop :=
  n ≤ 60 ∧ RowI w A1 n c1 x ∧ RowI w A2 n c2 y ∧ RowI w A3 n c3 z ∧ Rng 524288 x ∧ Rng 524288 y ∧ Rng 524288 z
theorem Tri.of {w : World} {A1 A2 A3 : Option Addr} {c1 c2 c3 n p q r : Nat} {x y z : List Int} (h1 : RowI w A1 p c1 (rowF x)) (h2 : RowI w A2 q c2 (rowF y)) (h3 : RowI w A3 r c3 (rowF z)) (hn : n ≤ 60) (hp : n ≤ p) (hq : n ≤ q) (hr : n ≤ r) :
    Tri w A1 c1 A2 c2 A3 c3 n ((rowF x).take n) ((rowF y).take n) ((rowF z).take n) :=
  ⟨hn, h1.take hp (Or.inr hp), h2.take hq (Or.inr hq), h3.take hr (Or.inr hr), rng_take (by omega) (fun x hx => by have := rowF_rng x hx; omega) n, rng_take (by omega) (fun x hx => by have := rowF_rng x hx; omega) n, rng_take (by omega) (fun x hx => by have := rowF_rng x hx; omega) n⟩

set_option maxHeartbeats 4000000 in
theorem three_any {A B C : Option Addr} {na nb nc ca cb cc : Nat} {a b c : List Int} {w : World} (ha : RowI w A na ca a) (hb : RowI w B nb cb b) (hc : RowI w C nc cc c) :
    Calls Try.prog 19 #[.slice A na ca, .slice B nb cb, .slice C nc cc] w fun e w' => ∃ A1 c1 A2 c2 A3 c3 n x y z, e = .returned (.tuple #[.slice A1 n c1, .slice A2 n c2, .slice A3 n c3]) ∧
      Tri w' A1 c1 A2 c2 A3 c3 n x y z ∧ Below w.heap.size w w' := by
  have HA := Lib.hid ha
  have HB := Lib.hid hb
  have HC := Lib.hid hc
  clear ha hb hc
  have hp : min 60 na ≤ 60 := by omega
  have hq : min 60 nb ≤ 60 := by omega
  have hr : min 60 nc ≤ 60 := by omega
  go_enter Try.func19, Try.ntmps19
  go_wp2_with fail
  refine (row9 HA.out).mono ?_
  rintro e w1 ⟨A1, c1, rfl, h1, d1⟩
  go_wp2_with fail
  refine (row9 (HB.out.keep d1 (Nat.le_refl _))).mono ?_
  rintro e w2 ⟨A2, c2, rfl, h2, d2⟩
  have d12 := d1.trans (d2.mono d1.size)
  go_wp2_with fail
  refine (row9 (HC.out.keep d12 (Nat.le_refl _))).mono ?_
  rintro e w3 ⟨A3, c3, rfl, h3, d3⟩
  have d123 := d12.trans (d3.mono d12.size)
  have h1 := (h1.keep d2 (Nat.le_refl _)).keep d3 (Nat.le_refl _)
  have h2 := h2.keep d3 (Nat.le_refl _)
  clear d1 d2 d12 d3
  generalize min 60 na = p at *
  generalize min 60 nb = q at *
  generalize min 60 nc = r at *
  have k1 := h1.2.1
  have k2 := h2.2.1
  have k3 := h3.2.1
  have H1 := Lib.hid h1
  have H2 := Lib.hid h2
  have H3 := Lib.hid h3
  clear h1 h2 h3
  by_cases q1 : (q : Int) < (p : Int)
  · by_cases r1 : (r : Int) < (q : Int)
    · go_wp2
      go_quiet (fail)
      go_wp2
      go_ret3
      exact ⟨A1, c1, A2, c2, A3, c3, r, _, _, _, rfl, Tri.of (H1.out.drew (Drew.mk _ _)) (H2.out.drew (Drew.mk _ _)) (H3.out.drew (Drew.mk _ _)) (by omega) (by omega) (by omega) (by omega), Drew.to d123 (Drew.mk _ _)⟩
    · go_wp2
      go_quiet (fail)
      go_wp2
      go_ret3
      exact ⟨A1, c1, A2, c2, A3, c3, q, _, _, _, rfl, Tri.of (H1.out.drew (Drew.mk _ _)) (H2.out.drew (Drew.mk _ _)) (H3.out.drew (Drew.mk _ _)) (by omega) (by omega) (by omega) (by omega), Drew.to d123 (Drew.mk _ _)⟩
  · by_cases r1 : (r : Int) < (p : Int)
    · go_wp2
      go_quiet (fail)
      go_wp2
      go_ret3
      exact ⟨A1, c1, A2, c2, A3, c3, r, _, _, _, rfl, Tri.of (H1.out.drew (Drew.mk _ _)) (H2.out.drew (Drew.mk _ _)) (H3.out.drew (Drew.mk _ _)) (by omega) (by omega) (by omega) (by omega), Drew.to d123 (Drew.mk _ _)⟩
    · go_wp2
      go_quiet (fail)
      go_wp2
      go_ret3
      exact ⟨A1, c1, A2, c2, A3, c3, p, _, _, _, rfl, Tri.of (H1.out.drew (Drew.mk _ _)) (H2.out.drew (Drew.mk _ _)) (H3.out.drew (Drew.mk _ _)) (by omega) (by omega) (by omega) (by omega), Drew.to d123 (Drew.mk _ _)⟩
end Go.Proofs.Ytgplaikcahpiiaa
