/- Turn, Back, Shift, Unshift of package color, by their contracts. -/
import Derived.Test.YtgplaikcahpiiaaRowI
import Derived.Test.YtgplaikcahpiiaaEach
import Derived.BigQuiet
import Derived.Deep.QuietTactic
set_option linter.unusedVariables false
namespace Go.Proofs.Ytgplaikcahpiiaa
open Go.RowKit

theorem enters31 : Enters Try.prog 31 := enters_of Try.func31 (by kernel_rfl) rfl
theorem enters32 : Enters Try.prog 32 := enters_of Try.func32 (by kernel_rfl) rfl
theorem enters33 : Enters Try.prog 33 := enters_of Try.func33 (by kernel_rfl) rfl
theorem enters34 : Enters Try.prog 34 := enters_of Try.func34 (by kernel_rfl) rfl
theorem enters29 : Enters Try.prog 29 := enters_of Try.func29 (by kernel_rfl) rfl
theorem enters30 : Enters Try.prog 30 := enters_of Try.func30 (by kernel_rfl) rfl

/-- each, on lists that were just laid into a row. -/
theorem each_new (k : Nat) (fr : Array Value) (g : List Int → Int) (w : World) (b : Nat) (ls : List (Option Addr × Nat × List Int)) (n m : Nat)
    (hm : ls.length = m) (hm1 : 1 ≤ m) (hm3 : m ≤ 3) (hn : n ≤ 1000) (hk : Enters Try.prog k)
    (hbw : b = w.heap.size) (hl : ∀ p ∈ ls, RowI w p.1 n p.2.1 p.2.2)
    (hf : ∀ i x w1, i < n → Below w.heap.size w w1 → (∀ j u, (col ls i)[j]? = some u → w1.cell? ⟨x, j, none⟩ = some (.int .i64 u)) →
      Calls Try.prog k (#[.slice (some ⟨x, 0, none⟩) m m] ++ fr) w1 fun e w2 => e = .returned (.int .i64 (g (col ls i))) ∧ Drew w1 w2) :
    Calls Try.prog 28 #[.func (.func k) #[] fr, .slice (some ⟨b, 0, none⟩) m m] (w.alloc (.cells (ls.map fun p => Value.slice p.1 n p.2.1).toArray 22)) fun e w' =>
      ∃ A c, e = .returned (.slice A n c) ∧ RowI w' A n c (outL g ls n) ∧ Below w.heap.size w w' := by
  subst hbw
  have hb0 : Below w.heap.size w (w.alloc (.cells (ls.map fun p => Value.slice p.1 n p.2.1).toArray 22)) := (Below.refl _ _).alloc (Nat.le_refl _) _
  refine (each_any k fr g _ w.heap.size ls n m hm hm1 hm3 hn hk (by simp) (fun j p hp => ?_) (fun p hp => ⟨(hl p hp).1, ((hl p hp).keep hb0 (Nat.le_refl _)).2.2.2.2⟩) (fun i x w1 hi hb hx => hf i x w1 hi (hb0.trans (hb.mono hb0.size)) hx)).mono ?_
  · rw [World.cell?_alloc_new, List.getElem?_toArray, List.getElem?_map, hp]; rfl
  · rintro e w' ⟨v, rfl, hown, hb⟩
    obtain ⟨A, c, rfl, hr⟩ := rowI_own hown
    exact ⟨A, c, rfl, hr, hb0.trans (hb.mono hb0.size)⟩

/-- Three rows, place by place. -/
def map3 (f : Int → Int → Int → Int) (a b c : List Int) (n : Nat) : List Int := (List.range n).map fun i => f (a.getD i 0) (b.getD i 0) (c.getD i 0)
def map2 (f : Int → Int → Int) (a b : List Int) (n : Nat) : List Int := (List.range n).map fun i => f (a.getD i 0) (b.getD i 0)
def map1 (f : Int → Int) (a : List Int) (n : Nat) : List Int := (List.range n).map fun i => f (a.getD i 0)
def Rng (K : Int) (l : List Int) : Prop := ∀ i, -K ≤ l.getD i 0 ∧ l.getD i 0 ≤ K

set_option maxHeartbeats 1000000 in
theorem turn1_any (x : Nat) (a b c : Int) (w : World) (ha : -1099511627776 ≤ a ∧ a ≤ 1099511627776) (hb : -1099511627776 ≤ b ∧ b ≤ 1099511627776) (hc : -1099511627776 ≤ c ∧ c ≤ 1099511627776)
    (h0 : w.cell? ⟨x, 0, none⟩ = some (.int .i64 a)) (h1 : w.cell? ⟨x, 1, none⟩ = some (.int .i64 b)) (h2 : w.cell? ⟨x, 2, none⟩ = some (.int .i64 c)) :
    Calls Try.prog 31 #[.slice (some ⟨x, 0, none⟩) 3 3] w fun e w' => e = .returned (.int .i64 ((a + 2 * b + c) / 4)) ∧ Drew w w' := by
  have e1 : IntKind.i64.wrap (2 * b) = 2 * b := IntWalk.i64_in _ (by omega)
  have e2 : IntKind.i64.wrap (a + 2 * b) = a + 2 * b := IntWalk.i64_in _ (by omega)
  have e3 : IntKind.i64.wrap (a + 2 * b + c) = a + 2 * b + c := IntWalk.i64_in _ (by omega)
  go_enter Try.func31, Try.ntmps31
  go_wp2
  go_quiet (fail)
  go_wp2
  go_ret
  exact ⟨ret_i64 (by first | rfl | omega), Drew.mk _ _⟩
set_option maxHeartbeats 1000000 in
theorem back1_any (x : Nat) (a b c : Int) (w : World) (ha : -1099511627776 ≤ a ∧ a ≤ 1099511627776) (hb : -1099511627776 ≤ b ∧ b ≤ 1099511627776) (hc : -1099511627776 ≤ c ∧ c ≤ 1099511627776)
    (h0 : w.cell? ⟨x, 0, none⟩ = some (.int .i64 a)) (h1 : w.cell? ⟨x, 1, none⟩ = some (.int .i64 b)) (h2 : w.cell? ⟨x, 2, none⟩ = some (.int .i64 c)) :
    Calls Try.prog 33 #[.slice (some ⟨x, 0, none⟩) 3 3] w fun e w' => e = .returned (.int .i64 (a - (b + c) / 4)) ∧ Drew w w' := by
  have e1 : IntKind.i64.wrap (b + c) = b + c := IntWalk.i64_in _ (by omega)
  have e2 : IntKind.i64.wrap (a - (b + c) / 4) = a - (b + c) / 4 := IntWalk.i64_in _ (by omega)
  go_enter Try.func33, Try.ntmps33
  go_wp2
  go_quiet (fail)
  go_wp2
  go_ret
  exact ⟨ret_i64 (by first | rfl | omega), Drew.mk _ _⟩
set_option maxHeartbeats 1000000 in
theorem minus_any (x : Nat) (a b : Int) (w : World) (ha : -1099511627776 ≤ a ∧ a ≤ 1099511627776) (hb : -1099511627776 ≤ b ∧ b ≤ 1099511627776)
    (h0 : w.cell? ⟨x, 0, none⟩ = some (.int .i64 a)) (h1 : w.cell? ⟨x, 1, none⟩ = some (.int .i64 b)) :
    Calls Try.prog 32 #[.slice (some ⟨x, 0, none⟩) 2 2] w fun e w' => e = .returned (.int .i64 (a - b)) ∧ Drew w w' := by
  have e1 : IntKind.i64.wrap (a - b) = a - b := IntWalk.i64_in _ (by omega)
  go_enter Try.func32, Try.ntmps32
  go_wp2
  go_quiet (fail)
  go_wp2
  go_ret
  exact ⟨rfl, Drew.mk _ _⟩
set_option maxHeartbeats 1000000 in
theorem plus_any (x : Nat) (a b : Int) (w : World) (ha : -1099511627776 ≤ a ∧ a ≤ 1099511627776) (hb : -1099511627776 ≤ b ∧ b ≤ 1099511627776)
    (h0 : w.cell? ⟨x, 0, none⟩ = some (.int .i64 a)) (h1 : w.cell? ⟨x, 1, none⟩ = some (.int .i64 b)) :
    Calls Try.prog 34 #[.slice (some ⟨x, 0, none⟩) 2 2] w fun e w' => e = .returned (.int .i64 (a + b)) ∧ Drew w w' := by
  have e1 : IntKind.i64.wrap (a + b) = a + b := IntWalk.i64_in _ (by omega)
  go_enter Try.func34, Try.ntmps34
  go_wp2
  go_quiet (fail)
  go_wp2
  go_ret
  exact ⟨rfl, Drew.mk _ _⟩
set_option maxHeartbeats 1000000 in
theorem shift1_any (x p : Nat) (a v : Int) (w : World) (ha : -1099511627776 ≤ a ∧ a ≤ 1099511627776) (hv : -1099511627776 ≤ v ∧ v ≤ 1099511627776)
    (h0 : w.cell? ⟨x, 0, none⟩ = some (.int .i64 a)) (h1 : w.cell? ⟨p, 0, none⟩ = some (.int .i64 v)) :
    Calls Try.prog 29 #[.slice (some ⟨x, 0, none⟩) 1 1, .pointer (some ⟨p, 0, none⟩)] w fun e w' => e = .returned (.int .i64 (a - v)) ∧ Drew w w' := by
  have e1 : IntKind.i64.wrap (a - v) = a - v := IntWalk.i64_in _ (by omega)
  go_enter Try.func29, Try.ntmps29
  go_wp2
  go_quiet (fail)
  go_wp2
  go_ret
  exact ⟨rfl, Drew.mk _ _⟩
set_option maxHeartbeats 1000000 in
theorem unshift1_any (x p q r : Nat) (a v lo hi : Int) (w : World) (ha : -1099511627776 ≤ a ∧ a ≤ 1099511627776) (hv : -1099511627776 ≤ v ∧ v ≤ 1099511627776)
    (h0 : w.cell? ⟨x, 0, none⟩ = some (.int .i64 a)) (h1 : w.cell? ⟨p, 0, none⟩ = some (.int .i64 lo)) (h2 : w.cell? ⟨q, 0, none⟩ = some (.int .i64 hi)) (h3 : w.cell? ⟨r, 0, none⟩ = some (.int .i64 v)) :
    Calls Try.prog 30 #[.slice (some ⟨x, 0, none⟩) 1 1, .pointer (some ⟨p, 0, none⟩), .pointer (some ⟨q, 0, none⟩), .pointer (some ⟨r, 0, none⟩)] w fun e w' => e = .returned (.int .i64 (max lo (min hi (a + v)))) ∧ Drew w w' := by
  have e1 : IntKind.i64.wrap (a + v) = a + v := IntWalk.i64_in _ (by omega)
  by_cases q1 : a + v < hi
  · by_cases q2 : lo < a + v
    · go_enter Try.func30, Try.ntmps30
      go_wp2
      go_quiet (fail)
      go_wp2
      go_ret
      exact ⟨ret_i64 (by omega), Drew.mk _ _⟩
    · go_enter Try.func30, Try.ntmps30
      go_wp2
      go_quiet (fail)
      go_wp2
      go_ret
      exact ⟨ret_i64 (by omega), Drew.mk _ _⟩
  · by_cases q2 : lo < hi
    · go_enter Try.func30, Try.ntmps30
      go_wp2
      go_quiet (fail)
      go_wp2
      go_ret
      exact ⟨ret_i64 (by omega), Drew.mk _ _⟩
    · go_enter Try.func30, Try.ntmps30
      go_wp2
      go_quiet (fail)
      go_wp2
      go_ret
      exact ⟨ret_i64 (by omega), Drew.mk _ _⟩
end Go.Proofs.Ytgplaikcahpiiaa
