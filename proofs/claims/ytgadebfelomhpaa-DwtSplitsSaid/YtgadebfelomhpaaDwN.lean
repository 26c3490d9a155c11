/- The lines of a plane, down and across, by their contracts. -/
import Derived.Test.YtgadebfelomhpaaDwC
set_option linter.unusedVariables false
set_option linter.unusedSimpArgs false
namespace Go.Proofs.Ytgadebfelomhpaa
open Go.RowKit

/-- A plane of the caller's own. -/
def PlO (lo : Nat) (w : World) (A : Option Addr) (c : Nat) (g : Geo) (P : Nat → Nat → Int) : Prop := w.ownsRow lo 3 1 (.slice A (g.w * g.h) c) (g.w * g.h) ((flat g.w g.h P).map (Value.int .i64))
theorem PlO.row {lo : Nat} {w : World} {A : Option Addr} {c : Nat} {g : Geo} {P : Nat → Nat → Int} (h : PlO lo w A c g P) : RowI w A (g.w * g.h) c (flat g.w g.h P) := RowO.row h
theorem PlO.congr {lo : Nat} {w : World} {A : Option Addr} {c : Nat} {g : Geo} {P Q : Nat → Nat → Int} (h : PlO lo w A c g P) (hq : ∀ x y, x < g.w → y < g.h → P x y = Q x y) : PlO lo w A c g Q := by
  unfold PlO at *; rw [← flat_congr hq]; exact h
theorem PlO.empty {lo : Nat} {w w' : World} {A : Option Addr} {c : Nat} {g : Geo} {P Q : Nat → Nat → Int} (h : PlO lo w A c g P) (h0 : g.w = 0 ∨ g.h = 0) (hb : Below w.heap.size w w') : PlO lo w' A c g Q := by
  have hz : g.w * g.h = 0 := by rcases h0 with e | e <;> rw [e] <;> simp
  have e : ∀ P, flat g.w g.h P = [] := fun P => List.eq_nil_of_length_eq_zero (by rw [flat_len]; exact hz)
  unfold PlO at *
  rw [e] at h ⊢
  exact World.ownsRow.kept h (grown_of_below hb none) (by
    cases A with
    | none => exact Or.inl rfl
    | some a => exact Or.inr (by simp [Value.ownBlock]))
theorem bdL_of {f : Nat → Int} {n : Nat} {K : Int} (hK : 0 ≤ K) (hK2 : K ≤ 1073741824) (h : ∀ i, i < n → -K ≤ f i ∧ f i ≤ K) : BdL (ranged f n) := fun i => by
  have := ranged_bdK hK h i
  omega
theorem own_blk {lo n c : Nat} {w : World} {A : Option Addr} {xs : List Value} (h : w.ownsRow lo 3 1 (.slice A n c) n xs) (hn : 0 < n) : ∃ q, A = some ⟨q, 0, none⟩ ∧ lo ≤ q ∧ q < w.heap.size := by
  obtain ⟨q, cap, hv, h1, h2, _⟩ := own_form h hn
  injection hv with hv
  exact ⟨q, hv, h1, h2⟩
theorem RC.grown {w w' : World} {b : Nat} {g : Geo} {row : Option Nat} (h : RC w b g) (hg : w.grownBy w' row) (hb : some b ≠ row) : RC w' b g :=
  ⟨hg.cell h.1 hb, hg.cell h.2.1 hb, hg.cell h.2.2.1 hb, hg.cell h.2.2.2 hb⟩

theorem cols_any (k : Nat) (hk : Enters Try.prog k) (F : List Int → List Int) (b lo c : Nat) (A : Option Addr) (g : Geo) (P : Nat → Nat → Int) (K : Int) (w : World) (hK : 0 ≤ K ∧ K ≤ 1073741824)
    (hw : g.w ≤ 300 ∧ g.h ≤ 300) (hbd : Bd K g.w g.h P) (hr : RC w b g) (hA : ∀ q, A = some ⟨q, 0, none⟩ → b ≠ q) (hown : PlO lo w A c g P)
    (hF : ∀ A cc w1 l, RC w1 b g → RowI w1 A g.h cc l → BdL l → Calls Try.prog k #[.slice A g.h cc, .pointer (some ⟨b, 0, none⟩)] w1 fun e w2 => ∃ A' c', e = .returned (.slice A' g.h c') ∧ RowO w1.heap.size w2 A' g.h c' (F l) ∧ Below w1.heap.size w1 w2) :
    Calls Try.prog 35 #[.slice A (g.w * g.h) c, .int .i64 (g.w : Int), .int .i64 1, .int .i64 (g.h : Int), .int .i64 (g.w : Int), .func (.func k) #[] #[.pointer (some ⟨b, 0, none⟩)]] w fun e w' => e = .returned (.tuple #[]) ∧
      PlO lo w' A c g (fun x y => (F (ranged (fun y => P x y) g.h)).getD y 0) ∧ w.grownBy w' (Value.slice A (g.w * g.h) c).ownBlock := by
  have hmm := Nat.mul_le_mul hw.1 hw.2
  by_cases h0 : g.w = 0 ∨ g.h = 0
  · refine (lines_none k #[.pointer (some ⟨b, 0, none⟩)] hk _ g.w 1 g.h g.w w (by omega) (by omega) h0 (fun A cc w1 hb1 hr1 => ?_)).mono ?_
    · refine (hF A cc w1 [] (hr.keep hb1 hr.block) hr1 (fun i => by simp)).mono ?_
      rintro e w2 ⟨A', c', rfl, _, hb⟩
      exact ⟨A', c', rfl, hb⟩
    · rintro e w' ⟨rfl, hb⟩
      exact ⟨rfl, hown.empty h0 hb, grown_of_below hb _⟩
  · have hn : 0 < g.w * g.h := Nat.mul_pos (by omega) (by omega)
    obtain ⟨q, rfl, hq1, hq2⟩ := own_blk hown hn
    have hw0 : 0 < g.w := by omega
    have hbq := hA q rfl
    refine (lines_any k #[.pointer (some ⟨b, 0, none⟩)] hk q (g.w * g.h) c g.w 1 g.h g.w lo (fun m => P (m % g.w) (m / g.w)) F (fun m => m % g.w) (fun m => m / g.w) w (by omega) (by omega) (by omega) (by omega) (by omega) hown ?_ ?_ ?_).mono ?_
    · intro i j hi hj
      rw [Nat.mul_one, Nat.add_comm]
      exact ⟨spot_lt hi hj, spot_mod j hi, spot_div j hi⟩
    · intro m hm
      refine ⟨Nat.mod_lt _ hw0, Nat.div_lt_of_lt_mul hm, ?_⟩
      rw [Nat.mul_one, Nat.mul_comm, Nat.mod_add_div]
    · intro i A cc w1 hi hg1 hrow
      have e : ranged (fun j => P ((i * 1 + j * g.w) % g.w) ((i * 1 + j * g.w) / g.w)) g.h = ranged (fun y => P i y) g.h := ranged_congr fun j _ => by
        rw [Nat.mul_one, Nat.add_comm, spot_mod j hi, spot_div j hi]
      rw [e] at hrow ⊢
      exact hF A cc w1 _ (hr.grown hg1 (by intro e; injection e with e; exact hbq e)) hrow (bdL_of hK.1 hK.2 fun y hy => hbd i y hi hy)
    · rintro e w' ⟨rfl, ho, hg⟩
      refine ⟨rfl, ?_, hg⟩
      have e : ranged (fun m => (F (ranged (fun j => P ((m % g.w * 1 + j * g.w) % g.w) ((m % g.w * 1 + j * g.w) / g.w)) g.h)).getD (m / g.w) 0) (g.w * g.h) = flat g.w g.h (fun x y => (F (ranged (fun y => P x y) g.h)).getD y 0) := ranged_congr fun m _ => by
        have hm := Nat.mod_lt m hw0
        rw [ranged_congr (s := fun y => P (m % g.w) y) fun j _ => by rw [Nat.mul_one, Nat.add_comm, spot_mod j hm, spot_div j hm]]
      unfold PlO
      rw [← e]
      exact ho
theorem rows_any (k : Nat) (hk : Enters Try.prog k) (F : List Int → List Int) (b lo c : Nat) (A : Option Addr) (g : Geo) (P : Nat → Nat → Int) (K : Int) (w : World) (hK : 0 ≤ K ∧ K ≤ 1073741824)
    (hw : g.w ≤ 300 ∧ g.h ≤ 300) (hbd : Bd K g.w g.h P) (hr : RC w b g) (hA : ∀ q, A = some ⟨q, 0, none⟩ → b ≠ q) (hown : PlO lo w A c g P)
    (hF : ∀ A cc w1 l, RC w1 b g → RowI w1 A g.w cc l → BdL l → Calls Try.prog k #[.slice A g.w cc, .pointer (some ⟨b, 0, none⟩)] w1 fun e w2 => ∃ A' c', e = .returned (.slice A' g.w c') ∧ RowO w1.heap.size w2 A' g.w c' (F l) ∧ Below w1.heap.size w1 w2) :
    Calls Try.prog 35 #[.slice A (g.w * g.h) c, .int .i64 (g.h : Int), .int .i64 (g.w : Int), .int .i64 (g.w : Int), .int .i64 1, .func (.func k) #[] #[.pointer (some ⟨b, 0, none⟩)]] w fun e w' => e = .returned (.tuple #[]) ∧
      PlO lo w' A c g (fun x y => (F (ranged (fun x => P x y) g.w)).getD x 0) ∧ w.grownBy w' (Value.slice A (g.w * g.h) c).ownBlock := by
  have hmm := Nat.mul_le_mul hw.1 hw.2
  by_cases h0 : g.w = 0 ∨ g.h = 0
  · refine (lines_none k #[.pointer (some ⟨b, 0, none⟩)] hk _ g.h g.w g.w 1 w (by omega) (by omega) (by omega) (fun A cc w1 hb1 hr1 => ?_)).mono ?_
    · refine (hF A cc w1 [] (hr.keep hb1 hr.block) hr1 (fun i => by simp)).mono ?_
      rintro e w2 ⟨A', c', rfl, _, hb⟩
      exact ⟨A', c', rfl, hb⟩
    · rintro e w' ⟨rfl, hb⟩
      exact ⟨rfl, hown.empty h0 hb, grown_of_below hb _⟩
  · have hn : 0 < g.w * g.h := Nat.mul_pos (by omega) (by omega)
    obtain ⟨q, rfl, hq1, hq2⟩ := own_blk hown hn
    have hw0 : 0 < g.w := by omega
    have hbq := hA q rfl
    refine (lines_any k #[.pointer (some ⟨b, 0, none⟩)] hk q (g.w * g.h) c g.h g.w g.w 1 lo (fun m => P (m % g.w) (m / g.w)) F (fun m => m / g.w) (fun m => m % g.w) w (by omega) (by omega) (by omega) (by omega) (by omega) hown ?_ ?_ ?_).mono ?_
    · intro i j hi hj
      rw [Nat.mul_one]
      exact ⟨spot_lt hj hi, spot_div i hj, spot_mod i hj⟩
    · intro m hm
      refine ⟨Nat.div_lt_of_lt_mul hm, Nat.mod_lt _ hw0, ?_⟩
      rw [Nat.mul_one, Nat.mul_comm, Nat.div_add_mod]
    · intro i A cc w1 hi hg1 hrow
      have e : ranged (fun j => P ((i * g.w + j * 1) % g.w) ((i * g.w + j * 1) / g.w)) g.w = ranged (fun x => P x i) g.w := ranged_congr fun j hj => by
        rw [Nat.mul_one, spot_mod i hj, spot_div i hj]
      rw [e] at hrow ⊢
      exact hF A cc w1 _ (hr.grown hg1 (by intro e; injection e with e; exact hbq e)) hrow (bdL_of hK.1 hK.2 fun x hx => hbd x i hx hi)
    · rintro e w' ⟨rfl, ho, hg⟩
      refine ⟨rfl, ?_, hg⟩
      have e : ranged (fun m => (F (ranged (fun j => P ((m / g.w * g.w + j * 1) % g.w) ((m / g.w * g.w + j * 1) / g.w)) g.w)).getD (m % g.w) 0) (g.w * g.h) = flat g.w g.h (fun x y => (F (ranged (fun x => P x y) g.w)).getD x 0) := ranged_congr fun m _ => by
        rw [ranged_congr (s := fun x => P x (m / g.w)) fun j hj => by rw [Nat.mul_one, spot_mod _ hj, spot_div _ hj]]
      unfold PlO
      rw [← e]
      exact ho
end Go.Proofs.Ytgadebfelomhpaa
