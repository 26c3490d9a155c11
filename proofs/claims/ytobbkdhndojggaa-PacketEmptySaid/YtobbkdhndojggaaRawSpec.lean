/- Raw bits: what the writer and the reader of chapter 5 do, as plain arithmetic. -/
import Derived.Test.YtobbkdhndojggaaArith
set_option linter.unusedVariables false
namespace Go.Proofs.Ytobbkdhndojggaa
open Go.RowKit
set_option maxRecDepth 100000

/-- The bits of a new byte. -/
def wnew (it : List Int) : Nat := if it.getLastD 0 = 255 then 7 else 8
/-- The writer's bytes, and how many bits of the last one are free: one bit more. -/
def wstep (s : List Int × Nat) (b : Int) : List Int × Nat :=
  if s.2 = 0 then (s.1 ++ [(b % 2) * 2 ^ (wnew s.1 - 1)], wnew s.1 - 1)
  else (s.1.dropLast ++ [s.1.getLastD 0 + (b % 2) * 2 ^ (s.2 - 1)], s.2 - 1)
def wrun (bs : List Int) : List Int × Nat := bs.foldl wstep ([], 0)
theorem wrun_snoc (bs : List Int) (b : Int) : wrun (bs ++ [b]) = wstep (wrun bs) b := by simp [wrun]
theorem wnew_rng (it : List Int) : 7 ≤ wnew it ∧ wnew it ≤ 8 := by unfold wnew; split <;> omega

theorem pow_pos' (n : Nat) : (1 : Int) ≤ 2 ^ n := by
  have : ((2 ^ n : Nat) : Int) = (2 : Int) ^ n := by simp
  have h : 1 ≤ (2 : Nat) ^ n := Nat.one_le_two_pow
  omega
theorem pow_succ' (n : Nat) : (2 : Int) ^ (n + 1) = 2 * 2 ^ n := by rw [Int.pow_succ]; omega
theorem pow_le' {m n : Nat} (h : m ≤ n) : (2 : Int) ^ m ≤ 2 ^ n := by
  have e1 : ((2 ^ m : Nat) : Int) = (2 : Int) ^ m := by simp
  have e2 : ((2 ^ n : Nat) : Int) = (2 : Int) ^ n := by simp
  have h : (2 : Nat) ^ m ≤ 2 ^ n := Nat.pow_le_pow_right (by decide) h
  omega

/-- What always holds of the writer. -/
structure WOk (s : List Int × Nat) : Prop where
  free : s.2 ≤ 7
  none : s.1 = [] → s.2 = 0
  rng : ∀ x ∈ s.1, 0 ≤ x ∧ x ≤ 255
  low : s.1.getLastD 0 % 2 ^ s.2 = 0
  behind : ∀ (i : Nat), s.1[i]? = some (255 : Int) → ∀ x : Int, s.1[i + 1]? = some x → x ≤ 127

theorem last_of {l : List Int} (h : l ≠ []) : l = l.dropLast ++ [l.getLastD 0] := by
  have h1 := (List.dropLast_concat_getLast h).symm
  rw [List.getLastD_eq_getLast?, List.getLast?_eq_some_getLast h]
  exact h1
theorem lastD_snoc (l : List Int) (x : Int) : (l ++ [x]).getLastD 0 = x := by simp
theorem mul_pow_mod {q : Int} {f : Nat} : q * 2 ^ f % 2 ^ f = 0 := Int.mul_emod_left q _
theorem split_pow {a : Int} {f : Nat} (h : a % 2 ^ f = 0) : a = a / 2 ^ f * 2 ^ f := by
  have := Int.mul_ediv_add_emod a (2 ^ f)
  rw [h, Int.add_zero, Int.mul_comm] at this
  exact this.symm

theorem WOk.step {s : List Int × Nat} (h : WOk s) (b : Int) : WOk (wstep s b) := by
  have hb := Int.emod_nonneg b (show (2 : Int) ≠ 0 by omega)
  have hb2 := Int.emod_lt_of_pos b (show (0 : Int) < 2 by omega)
  unfold wstep
  by_cases h0 : s.2 = 0
  · rw [if_pos h0]
    have hw := wnew_rng s.1
    obtain ⟨f, hf⟩ : ∃ f, wnew s.1 - 1 = f := ⟨_, rfl⟩
    have hf7 : f ≤ 7 := by omega
    have p1 := pow_pos' f
    have p2 := pow_le' hf7
    have p7 : (2 : Int) ^ 7 = 128 := by decide
    have hx0 : 0 ≤ b % 2 * 2 ^ f := Int.mul_nonneg hb (by omega)
    have hx1 : b % 2 * 2 ^ f ≤ 2 ^ f := by
      have : b % 2 * 2 ^ f ≤ 1 * 2 ^ f := Int.mul_le_mul_of_nonneg_right (by omega) (by omega)
      omega
    refine ⟨by simpa [hf] using hf7, fun e => by simp at e, ?_, ?_, ?_⟩
    · intro x hx
      simp only [hf, List.mem_append, List.mem_singleton] at hx
      rcases hx with hx | hx
      · exact h.rng x hx
      · omega
    · show (s.1 ++ [b % 2 * 2 ^ (wnew s.1 - 1)]).getLastD 0 % 2 ^ (wnew s.1 - 1) = 0
      rw [lastD_snoc]; exact mul_pow_mod
    · intro i hi x hx
      show x ≤ 127
      simp only [hf] at hi hx
      rcases Nat.lt_or_ge (i + 1) s.1.length with hl | hl
      · rw [List.getElem?_append_left (by omega)] at hi
        rw [List.getElem?_append_left hl] at hx
        exact h.behind i hi x hx
      · rcases Nat.lt_or_ge i s.1.length with hl2 | hl2
        · have hil : i + 1 = s.1.length := by omega
          rw [List.getElem?_append_left hl2] at hi
          rw [List.getElem?_append_right (by omega), show i + 1 - s.1.length = 0 from by omega] at hx
          simp at hx
          have hlast : s.1.getLastD 0 = 255 := by
            rw [List.getLastD_eq_getLast?, List.getLast?_eq_getElem?, show s.1.length - 1 = i from by omega, hi]; rfl
          have : f = 6 := by
            have : wnew s.1 = 7 := if_pos hlast
            omega
          subst this
          have : (2 : Int) ^ 6 = 64 := by decide
          omega
        · rw [List.getElem?_append_right (by omega), List.getElem?_eq_none (by simp; omega)] at hx
          cases hx
  · rw [if_neg h0]
    have hne : s.1 ≠ [] := fun e => h0 (h.none e)
    obtain ⟨f, hf⟩ : ∃ f, s.2 = f + 1 := ⟨s.2 - 1, by omega⟩
    have hl := last_of hne
    have hlr := h.rng (s.1.getLastD 0) (by rw [List.getLastD_eq_getLast?, List.getLast?_eq_some_getLast hne]; exact List.getLast_mem hne)
    have hlow := h.low
    rw [hf] at hlow ⊢
    rw [show f + 1 - 1 = f from rfl]
    generalize hd : s.1.dropLast = d at *
    generalize hlv : s.1.getLastD 0 = v at *
    have hfree := h.free
    have p1 := pow_pos' f
    have ps := pow_succ' f
    have sp := split_pow hlow
    have q0 : 0 ≤ v / 2 ^ (f + 1) := Int.ediv_nonneg hlr.1 (by omega)
    generalize hq : v / 2 ^ (f + 1) = q at *
    have hx0 : 0 ≤ b % 2 * 2 ^ f := Int.mul_nonneg hb (by omega)
    have hx1 : b % 2 * 2 ^ f ≤ 2 ^ f := by
      have : b % 2 * 2 ^ f ≤ 1 * 2 ^ f := Int.mul_le_mul_of_nonneg_right (by omega) (by omega)
      omega
    -- q * 2^(f+1) + 2^f stays within any power of two above
    have grow : ∀ m : Nat, f + 1 ≤ m → v < 2 ^ m → v + b % 2 * 2 ^ f < 2 ^ m := by
      intro m hm hv
      obtain ⟨t, rfl⟩ : ∃ t, m = f + 1 + t := ⟨m - (f + 1), by omega⟩
      rw [Int.pow_add] at hv ⊢
      rw [sp] at hv ⊢
      have hq1 : q < 2 ^ t := by
        rw [Int.mul_comm (2 ^ (f + 1))] at hv
        exact Int.lt_of_mul_lt_mul_right hv (by omega)
      have : (q + 1) * 2 ^ (f + 1) ≤ 2 ^ t * 2 ^ (f + 1) := Int.mul_le_mul_of_nonneg_right (by omega) (by omega)
      rw [Int.add_mul, Int.one_mul] at this
      rw [Int.mul_comm (2 ^ (f + 1)) (2 ^ t)]
      omega
    have p8 : (2 : Int) ^ 8 = 256 := by decide
    have p7 : (2 : Int) ^ 7 = 128 := by decide
    refine ⟨by show f ≤ 7; omega, fun e => by simp at e, ?_, ?_, ?_⟩
    · intro x hx
      simp only [List.mem_append, List.mem_singleton] at hx
      rcases hx with hx | hx
      · exact h.rng x (by rw [hl]; exact List.mem_append_left _ hx)
      · have := grow 8 (by omega) (by omega)
        omega
    · show (d ++ [v + b % 2 * 2 ^ f]).getLastD 0 % 2 ^ f = 0
      rw [lastD_snoc, sp, ps, show q * (2 * 2 ^ f) + b % 2 * 2 ^ f = (2 * q + b % 2) * 2 ^ f from by rw [Int.add_mul, Int.mul_comm 2 q, Int.mul_assoc]]
      exact mul_pow_mod
    · intro i hi x hx
      rcases Nat.lt_or_ge (i + 1) d.length with hl1 | hl1
      · rw [List.getElem?_append_left (by omega)] at hi
        rw [List.getElem?_append_left hl1] at hx
        refine h.behind i ?_ x ?_
        · rw [hl, List.getElem?_append_left (by omega)]; exact hi
        · rw [hl, List.getElem?_append_left hl1]; exact hx
      · rcases Nat.lt_or_ge i d.length with hl2 | hl2
        · rw [List.getElem?_append_left hl2] at hi
          rw [List.getElem?_append_right (by omega), show i + 1 - d.length = 0 from by omega] at hx
          simp at hx
          have hb127 := h.behind i (by rw [hl, List.getElem?_append_left hl2]; exact hi) v (by rw [hl, List.getElem?_append_right (by omega), show i + 1 - d.length = 0 from by omega]; rfl)
          have := grow 7 (by omega) (by omega)
          omega
        · rw [List.getElem?_append_right (by omega), List.getElem?_eq_none (by simp; omega)] at hx
          cases hx
theorem wrun_ok (bs : List Int) : WOk (wrun bs) := by
  have base : WOk (([], 0) : List Int × Nat) := ⟨by simp, fun _ => rfl, by simp, by simp, by simp⟩
  unfold wrun
  suffices ∀ (bs : List Int) (s : List Int × Nat), WOk s → WOk (bs.foldl wstep s) from this bs _ base
  intro bs
  induction bs with
  | nil => intro s h; exact h
  | cons b bs ih => intro s h; exact ih _ (h.step b)

/-- The reader: which byte stands at a place. -/
def byteAt (l : List Int) (i : Nat) : Int := l.getD i 255
def rstep (F : List Int) (r : Nat × Nat) : Nat × Nat := if r.2 = 0 then (r.1 + 1, (if byteAt F r.1 = 255 then 7 else 8) - 1) else (r.1, r.2 - 1)
def rbit (F : List Int) (r : Nat × Nat) : Int := byteAt F r.1 / 2 ^ r.2 % 2
end Go.Proofs.Ytobbkdhndojggaa
