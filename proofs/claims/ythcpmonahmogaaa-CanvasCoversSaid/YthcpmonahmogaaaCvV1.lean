/- canvas: which places were seen: in memory, and counted. -/
import Derived.Test.YthcpmonahmogaaaCvV0
import Derived.Test.YthcpmonahmogaaaReg4
set_option linter.unusedVariables false
set_option linter.unusedSimpArgs false
namespace Go.Proofs.Ythcpmonahmogaaa
open Go.RowKit
set_option maxRecDepth 100000
/-- Bools as cells. -/
def bA (n : Nat) (V : Nat → Bool) : Array Value := ((List.range n).map fun i => Value.bool (V i)).toArray
theorem bA_size (n : Nat) (V : Nat → Bool) : (bA n V).size = n := by simp [bA]
theorem bA_get {n : Nat} {V : Nat → Bool} {i : Nat} (h : i < n) : (bA n V)[i]? = some (.bool (V i)) := by
  simp [bA, List.getElem?_range h]
def putV (V : Nat → Bool) (i : Nat) : Nat → Bool := fun j => V j || Nat.beq j i
theorem bA_put {n : Nat} {V : Nat → Bool} {i : Nat} (h : i < n) : (bA n V).setIfInBounds i (.bool true) = bA n (putV V i) := by
  apply Array.ext_getElem?
  intro j
  by_cases hj : j < n
  · by_cases e : i = j
    · subst e
      rw [Array.getElem?_setIfInBounds_self_of_lt (by rw [bA_size]; exact h), bA_get h]
      simp [putV]
    · rw [Array.getElem?_setIfInBounds_ne e, bA_get hj, bA_get hj]
      have : Nat.beq j i = false := by
        cases hb : Nat.beq j i
        · rfl
        · exact absurd (Nat.eq_of_beq_eq_true hb).symm e
      simp [putV, this]
  · rw [Array.getElem?_eq_none (by rw [Array.size_setIfInBounds, bA_size]; omega), Array.getElem?_eq_none (by rw [bA_size]; omega)]
def cntV (V : Nat → Bool) : Nat → Nat
  | 0 => 0
  | n + 1 => cntV V n + (if V n = true then 1 else 0)
theorem cntV_ext {V V' : Nat → Bool} : ∀ n, (∀ i, i < n → V i = V' i) → cntV V n = cntV V' n
  | 0, _ => rfl
  | n + 1, h => by rw [cntV, cntV, cntV_ext n (fun i hi => h i (by omega)), h n (by omega)]
theorem cntV_none {V : Nat → Bool} : ∀ n, (∀ i, i < n → V i = false) → cntV V n = 0
  | 0, _ => rfl
  | n + 1, h => by rw [cntV, cntV_none n (fun i hi => h i (by omega)), h n (by omega)]; rfl
theorem cntV_all {V : Nat → Bool} : ∀ n, (∀ i, i < n → V i = true) → cntV V n = n
  | 0, _ => rfl
  | n + 1, h => by rw [cntV, cntV_all n (fun i hi => h i (by omega)), h n (by omega)]; rfl
theorem cntV_le (V : Nat → Bool) : ∀ n, cntV V n ≤ n
  | 0 => Nat.le_refl _
  | n + 1 => by
    have := cntV_le V n
    rw [cntV]
    split <;> omega
theorem cntV_put {V : Nat → Bool} {i : Nat} (h0 : V i = false) : ∀ n, i < n → cntV (putV V i) n = cntV V n + 1
  | 0, h => by omega
  | n + 1, h => by
    rw [cntV, cntV]
    by_cases e : i = n
    · subst e
      have h1 : cntV (putV V i) i = cntV V i := cntV_ext i (fun j hj => by
        have : Nat.beq j i = false := by
          cases hb : Nat.beq j i
          · rfl
          · exact absurd (Nat.eq_of_beq_eq_true hb) (by omega)
        simp [putV, this])
      rw [h1, h0]
      simp [putV]
    · rw [cntV_put h0 n (by omega)]
      have : Nat.beq n i = false := by
        cases hb : Nat.beq n i
        · rfl
        · exact absurd (Nat.eq_of_beq_eq_true hb).symm e
      have h2 : putV V i n = V n := by simp [putV, this]
      rw [h2]
      omega
/-- A band's places by their numbers. -/
def atF (b : Rc4) (x y : Int) : Nat := ((y - b.2.1) * (b.2.2.1 - b.1) + x - b.1).toNat
theorem at_lt {b : Rc4} {x y : Int} (h : inR b x y) : ((atF b x y : Nat) : Int) = (y - b.2.1) * (b.2.2.1 - b.1) + x - b.1 ∧ ((atF b x y : Nat) : Int) < (b.2.2.1 - b.1) * (b.2.2.2 - b.2.1) := by
  obtain ⟨h1, h2, h3, h4⟩ := h
  have p0 : 0 ≤ (y - b.2.1) * (b.2.2.1 - b.1) := Int.mul_nonneg (by omega) (by omega)
  have p1 : (y - b.2.1) * (b.2.2.1 - b.1) ≤ (b.2.2.2 - b.2.1 - 1) * (b.2.2.1 - b.1) := Int.mul_le_mul_of_nonneg_right (by omega) (by omega)
  have p2 : (b.2.2.2 - b.2.1 - 1) * (b.2.2.1 - b.1) = (b.2.2.2 - b.2.1) * (b.2.2.1 - b.1) - (b.2.2.1 - b.1) := by rw [Int.sub_mul (b.2.2.2 - b.2.1) 1, Int.one_mul]
  rw [p2] at p1
  rw [Int.mul_comm (b.2.2.1 - b.1) (b.2.2.2 - b.2.1)]
  unfold atF
  omega
theorem at_inj {b : Rc4} {x y x' y' : Int} (h : inR b x y) (h' : inR b x' y') (e : atF b x y = atF b x' y') : x = x' ∧ y = y' := by
  have a1 := (at_lt h).1
  have a2 := (at_lt h').1
  obtain ⟨h1, h2, h3, h4⟩ := h
  obtain ⟨g1, g2, g3, g4⟩ := h'
  rw [e, a2] at a1
  have hw : 0 < b.2.2.1 - b.1 := by omega
  have key : ∀ u v p q : Int, 0 ≤ p → p < b.2.2.1 - b.1 → 0 ≤ q → q < b.2.2.1 - b.1 → u * (b.2.2.1 - b.1) + p = v * (b.2.2.1 - b.1) + q → u = v := fun u v p q p0 p1 q0 q1 he => by
    have e1 : (u * (b.2.2.1 - b.1) + p) / (b.2.2.1 - b.1) = u := by rw [Int.add_comm, Int.add_mul_ediv_right _ _ (by omega), Int.ediv_eq_zero_of_lt p0 p1]; omega
    have e2 : (v * (b.2.2.1 - b.1) + q) / (b.2.2.1 - b.1) = v := by rw [Int.add_comm, Int.add_mul_ediv_right _ _ (by omega), Int.ediv_eq_zero_of_lt q0 q1]; omega
    rw [← e1, ← e2, he]
  have hy := key (y - b.2.1) (y' - b.2.1) (x - b.1) (x' - b.1) (by omega) (by omega) (by omega) (by omega) (by omega)
  rw [hy] at a1
  omega
theorem at_of {b : Rc4} (hb : b.1 ≤ b.2.2.1 ∧ b.2.1 ≤ b.2.2.2) {i : Nat} (hi : (i : Int) < (b.2.2.1 - b.1) * (b.2.2.2 - b.2.1)) : ∃ x y, inR b x y ∧ atF b x y = i := by
  have hw : 0 < b.2.2.1 - b.1 := by
    rcases Int.lt_or_le 0 (b.2.2.1 - b.1) with h | h
    · exact h
    · have : b.2.2.1 - b.1 = 0 := by omega
      rw [this, Int.zero_mul] at hi
      omega
  have e := Int.mul_ediv_add_emod (i : Int) (b.2.2.1 - b.1)
  have m0 := Int.emod_nonneg (i : Int) (show b.2.2.1 - b.1 ≠ 0 by omega)
  have m1 := Int.emod_lt_of_pos (i : Int) hw
  have d0 : 0 ≤ (i : Int) / (b.2.2.1 - b.1) := Int.ediv_nonneg (by omega) (by omega)
  have d1 : (i : Int) / (b.2.2.1 - b.1) < b.2.2.2 - b.2.1 := Int.ediv_lt_of_lt_mul hw (by rw [Int.mul_comm]; exact hi)
  generalize (i : Int) / (b.2.2.1 - b.1) = q at *
  generalize (i : Int) % (b.2.2.1 - b.1) = m at *
  have hin : inR b (b.1 + m) (b.2.1 + q) := ⟨by omega, by omega, by omega, by omega⟩
  refine ⟨b.1 + m, b.2.1 + q, hin, ?_⟩
  have h1 := (at_lt hin).1
  rw [show b.2.1 + q - b.2.1 = q by omega, Int.mul_comm q] at h1
  omega
/-- Just the places of which P holds were seen. -/
def SeenIs (b : Rc4) (V : Nat → Bool) (P : Int → Int → Prop) : Prop := ∀ x y, inR b x y → (V (atF b x y) = true ↔ P x y)
theorem seen_put {b : Rc4} {V : Nat → Bool} {P Q : Int → Int → Prop} {x0 y0 : Int} (h : SeenIs b V P) (h0 : inR b x0 y0) (hQ : ∀ x y, inR b x y → (Q x y ↔ P x y ∨ (x = x0 ∧ y = y0))) : SeenIs b (putV V (atF b x0 y0)) Q := fun x y hxy => by
  rw [hQ x y hxy, ← h x y hxy]
  unfold putV
  rw [Bool.or_eq_true]
  constructor
  · rintro (h1 | h1)
    · exact Or.inl h1
    · exact Or.inr (at_inj hxy h0 (Nat.eq_of_beq_eq_true h1))
  · rintro (h1 | ⟨rfl, rfl⟩)
    · exact Or.inl h1
    · exact Or.inr (Nat.beq_refl _)
theorem seen_ext {b : Rc4} {V : Nat → Bool} {P Q : Int → Int → Prop} (h : SeenIs b V P) (hQ : ∀ x y, inR b x y → (Q x y ↔ P x y)) : SeenIs b V Q := fun x y hxy => (h x y hxy).trans (hQ x y hxy).symm
theorem Try.info4 : (Try.prog.info? 4).map (fun i => (i.zero, i.size, i.bytes)) = some (some (.bool false), 1, 1) := by kernel_rfl
theorem hmkB (u : World) (q : Nat) (hq : q ≤ 5000) : (Instr.makeSlice 59 (.int .i64 (q : Int)) (.int .i64 (q : Int))).run Try.prog u = .ok (.slice (some ⟨u.heap.size, 0, none⟩) q q) (u.alloc (.cells (bA q fun _ => false) 4)) := by
  obtain ⟨i, hi, hzz⟩ := Option.map_eq_some_iff.1 Try.info4
  simp only [Prod.mk.injEq] at hzz
  obtain ⟨hz, hs, hb⟩ := hzz
  have hr := run_make (P := Try.prog) u 59 4 i (.bool false) (by kernel_rfl) hi hz .i64 .i64 q q (by omega) (Int.le_refl _) (by rw [hb]; omega) (by omega)
  simp only [Int.toNat_natCast, hs, Nat.mul_one] at hr
  rw [hr]
  have e : ∀ n, madeCells #[.bool false] n = bA n fun _ => false := fun n => by
    unfold madeCells bA
    apply Array.ext
    · simp
    · intro j h1 h2
      simp [Nat.mod_one]
  rw [show (Value.bool false).cells = #[.bool false] from rfl, e]
end Go.Proofs.Ythcpmonahmogaaa
