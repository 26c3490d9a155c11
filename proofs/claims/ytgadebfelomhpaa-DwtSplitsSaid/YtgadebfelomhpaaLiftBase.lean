/- Clone, starts, beside, second of package lift, by their contracts. -/
import Derived.Test.YtgadebfelomhpaaRowL
import Derived.Shelf.Abstract
import Derived.OneCell
import Derived.BigQuiet
import Derived.Deep.QuietTactic
set_option linter.unusedVariables false
namespace Go.Proofs.Ytgadebfelomhpaa
open Go.RowKit

def ranged (r : Nat → Int) (n : Nat) : List Int := (List.range n).map r
theorem ranged_len (r : Nat → Int) (n : Nat) : (ranged r n).length = n := by simp [ranged]
theorem ranged_get (r : Nat → Int) (n i : Nat) (h : i < n) : (ranged r n)[i]? = some (r i) := by
  unfold ranged; rw [List.getElem?_map, List.getElem?_range h]; rfl
theorem ranged_congr {r s : Nat → Int} {n : Nat} (h : ∀ i, i < n → r i = s i) : ranged r n = ranged s n := by
  unfold ranged
  apply List.map_congr_left
  intro i hi
  exact h i (by simpa using hi)
theorem ranged_of (l : List Int) (n : Nat) (h : l.length = n) : ranged (fun i => l.getD i 0) n = l := by
  apply List.ext_getElem?
  intro i
  rcases Nat.lt_or_ge i n with hi | hi
  · rw [ranged_get _ _ _ hi, List.getD_eq_getElem?_getD, List.getElem?_eq_getElem (by omega)]; rfl
  · rw [List.getElem?_eq_none (by rw [ranged_len]; exact hi), List.getElem?_eq_none (by omega)]
theorem ranged_set (r : Nat → Int) (n m : Nat) (u : Int) (h : m < n) : (ranged r n).set m u = ranged (fun i => if i = m then u else r i) n := by
  apply List.ext_getElem?
  intro i
  by_cases e : m = i
  · subst e
    rw [List.getElem?_set_self (by rw [ranged_len]; exact h), ranged_get _ _ _ h, if_pos rfl]
  · rw [List.getElem?_set_ne e]
    rcases Nat.lt_or_ge i n with hi | hi
    · rw [ranged_get _ _ _ hi, ranged_get _ _ _ hi, if_neg (by omega)]
    · rw [List.getElem?_eq_none (by rw [ranged_len]; exact hi), List.getElem?_eq_none (by rw [ranged_len]; exact hi)]

set_option maxHeartbeats 1000000 in
theorem clone_int {A : Option Addr} {n c : Nat} {l : List Int} {w : World} (h : RowI w A n c l) (hn : n ≤ 1000) :
    Calls Try.prog 23 #[.slice A n c] w fun e w' => ∃ v, e = .returned v ∧ w'.ownsRow w.heap.size 3 1 v n (l.map (Value.int .i64)) ∧ Below w.heap.size w w' := by
  have qT : ∀ (w : World) (a : Option Addr) (n c n' c' : Nat), (binOp .eql 24 (.slice a n c) (.slice none n' c')).run Try.prog w = .ok (.bool a.isNone) w := fun w a n c n' c' => Lib.run_eql_slice_nil w _ _ a n c n' c' Try.underlying24
  obtain ⟨i0, hi, hz0, hz1, hz2⟩ := info_parts Try.info3
  rcases A with _ | a
  · obtain ⟨rfl, rfl⟩ := h.2.2.2.1 rfl
    obtain rfl : l = [] := List.eq_nil_of_length_eq_zero h.1
    go_enter Try.func23, Try.ntmps23
    go_wp2
    go_ret
    exact ⟨_, rfl, World.ownsRow_nil _ _ _ _, Below.refl _ _⟩
  · have hcells := h.2.2.2.2.add rfl
    have HC := Lib.hid hcells
    have hwl := Lib.hid h.1
    clear hcells h
    go_enter Try.func23, Try.ntmps23
    go_wp2_with (at_builtin; refine wpList_append_own _ rfl (.tmp 5) (.tmp 6) 24 rfl w.heap.size 3 i0 (.int .i64 0) 1 8 Try.underlying24 hi hz0 hz1 hz2 rfl (by decide) (.slice (some ⟨w.heap.size, 0, none⟩) 0 0) 0 [] rfl (World.ownsRow_made w #[] 0 (Nat.le_refl _) (by unfold maxLen; omega) rfl) a n c (l.map (Value.int .i64)) rfl ?k1 ?k2 (ints_oneCell .i64 l) ?k3 ?k4 ?k5 ?_)
    case k1 => rw [List.length_map, hwl.out]; simp
    case k2 =>
      intro j u hu
      exact (World.cell?_alloc_lt w _ _ (World.block_lt_of_cell? w _ (HC.out j u hu))).trans (HC.out j u hu)
    case k3 => unfold maxLen; omega
    case k4 => omega
    case k5 => simp
    intro v1 w1 hown hg _
    go_wp2
    go_ret
    refine ⟨v1, rfl, by simpa using hown, ?_⟩
    exact ((Below.refl _ _).alloc (Nat.le_refl _) _).grown hg (by simp) (by simp [Value.ownBlock])

theorem and_one (a : Int) (h : 0 ≤ a) : bits .and .i64 a 1 = a % 2 := by
  show IntKind.i64.wrap ((BitVec.ofInt 64 a &&& BitVec.ofInt 64 1).toNat : Int) = _
  have e1 : (BitVec.ofInt 64 (1 : Int)).toNat = 1 := by decide
  rw [BitVec.toNat_and, e1, Nat.and_one_is_mod, BitVec.toNat_ofInt]
  have h64 : ((a % (2 ^ 64 : Nat)).toNat : Int) = a % (2 ^ 64 : Nat) := Int.toNat_of_nonneg (Int.emod_nonneg _ (by decide))
  have e2 : (((a % ((2 ^ 64 : Nat) : Int)).toNat % 2 : Nat) : Int) = a % 2 := by
    rw [Int.natCast_emod, h64]
    omega
  rw [e2]
  exact IntWalk.i64_in _ (by omega)
set_option maxHeartbeats 1000000 in
theorem starts_any (a : Int) (e o : Nat) (w : World) (h : 0 ≤ a) (he : a % 2 = e) (ho : o + e = 1) :
    Calls Try.prog 48 #[.int .i64 a] w fun r w' => r = .returned (.tuple #[.int .i64 (e : Int), .int .i64 (o : Int)]) ∧ w = w' := by
  have hoe : (o : Int) = 1 - (e : Int) := by omega
  have h1 : bits .and .i64 a 1 = e := by rw [and_one a h, he]
  have e1 : e ≤ 1 := by omega
  rw [hoe]
  clear he hoe ho
  go_enter Try.func48, Try.ntmps48
  go_wp2
  go_ret2
  exact ⟨rfl, rfl⟩

/-- The neighbours of a place. -/
def loI (i : Nat) : Nat := if i = 0 then 1 else i - 1
def hiI (n i : Nat) : Nat := if i + 1 = n then n - 2 else i + 1

set_option maxHeartbeats 1000000 in
theorem around_any (pl pb g n c i : Nat) (a b : Int) (w : World) (hn : 2 ≤ n) (hn2 : n ≤ 1000) (hi : i < n)
    (h1 : w.cell? ⟨pl, 0, none⟩ = some (.int .i64 ((n : Int) - 1))) (h2 : w.cell? ⟨pb, 0, none⟩ = some (.slice (some ⟨g, 0, none⟩) n c))
    (ha : w.cell? ⟨g, loI i, none⟩ = some (.int .i64 a)) (hb : w.cell? ⟨g, hiI n i, none⟩ = some (.int .i64 b))
    (ra : -1099511627776 ≤ a ∧ a ≤ 1099511627776) (rb : -1099511627776 ≤ b ∧ b ≤ 1099511627776) :
    Calls Try.prog 57 #[.int .i64 (i : Int), .pointer (some ⟨pl, 0, none⟩), .pointer (some ⟨pb, 0, none⟩)] w fun e w' => e = .returned (.int .i64 (a + b)) ∧ Drew w w' := by
  have e1 : IntKind.i64.wrap (a + b) = a + b := IntWalk.i64_in _ (by omega)
  by_cases c0 : i = 0
  · subst c0
    have k1 : loI 0 = 1 := rfl
    have k2 : hiI n 0 = 1 := by unfold hiI; rw [if_neg (by omega)]
    rw [k1] at ha
    rw [k2] at hb
    have q0 : ((0 : Int) == (n : Int) - 1) = false := by simp; omega
    have q1 : (1 : Int) < (n : Int) := by omega
    obtain rfl : a = b := by rw [ha] at hb; injection hb with hb; injection hb
    go_enter Try.func57, Try.ntmps57
    go_wp2
    go_quiet (fail)
    go_wp2
    go_ret
    exact ⟨rfl, Drew.mk _ _⟩
  · by_cases c1 : i + 1 = n
    · have k1 : loI i = i - 1 := by unfold loI; rw [if_neg c0]
      have k2 : hiI n i = i - 1 := by unfold hiI; rw [if_pos c1]; omega
      rw [k1] at ha
      rw [k2] at hb
      obtain ⟨m, rfl⟩ : ∃ m, i = m + 1 := ⟨i - 1, by omega⟩
      rw [show m + 1 - 1 = m from rfl] at ha hb
      obtain rfl : a = b := by rw [ha] at hb; injection hb with hb; injection hb
      obtain rfl : n = m + 2 := by omega
      have q0 : ((m : Int) + 1 == 0) = false := by simp; omega
      have q1 : ((m : Int) + 1 == (m : Int) + 2 - 1) = true := by simp; omega
      have q2 : (0 : Int) ≤ (m : Int) := by omega
      have q3 : (m : Int) < (m : Int) + 2 := by omega
      go_enter Try.func57, Try.ntmps57
      go_wp2
      go_quiet (fail)
      go_wp2
      go_ret
      exact ⟨rfl, Drew.mk _ _⟩
    · have k1 : loI i = i - 1 := by unfold loI; rw [if_neg c0]
      have k2 : hiI n i = i + 1 := by unfold hiI; rw [if_neg c1]
      rw [k1] at ha
      rw [k2] at hb
      obtain ⟨m, rfl⟩ : ∃ m, i = m + 1 := ⟨i - 1, by omega⟩
      rw [show m + 1 - 1 = m from rfl] at ha
      have q0 : ((m : Int) + 1 == 0) = false := by simp; omega
      have q1 : ((m : Int) + 1 == (n : Int) - 1) = false := by simp; omega
      have q2 : (0 : Int) ≤ (m : Int) := by omega
      have q3 : (m : Int) < (n : Int) := by omega
      have q4 : (m : Int) + 1 + 1 < (n : Int) := by omega
      go_enter Try.func57, Try.ntmps57
      go_wp2
      go_quiet (fail)
      go_wp2
      go_ret
      exact ⟨rfl, Drew.mk _ _⟩
end Go.Proofs.Ytgadebfelomhpaa
