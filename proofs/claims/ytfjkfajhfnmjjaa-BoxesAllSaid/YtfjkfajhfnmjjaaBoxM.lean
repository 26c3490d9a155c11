/- Package boxes: what a box says of bytes, as mathematics; the Reader beside next's own block. -/
import Derived.Test.YtfjkfajhfnmjjaaBytesGet
import Derived.Test.YtfjkfajhfnmjjaaStr
set_option linter.unusedVariables false
set_option linter.unusedSimpArgs false
namespace Go.Proofs.Ytfjkfajhfnmjjaa
open Go.RowKit
/-- A box: its kind, its bytes, what is left; or the error. -/
inductive Nxt where
  | err (e : Int)
  | box (k d r : List Int)
def nxtB (n : Int) (hd : Nat) (k r : List Int) : Nxt :=
  if n < 0 then .err 8 else if n < hd then .err 15 else if (r.length : Int) < n - hd then .err 8 else .box k (r.take (n - hd).toNat) (r.drop (n - hd).toNat)
def num (l : List Int) : Int := wrap64 (numL 0 l)
def nxt (l : List Int) : Nxt :=
  if l.length < 8 then .err 8
  else if num (l.take 4) = 0 then nxtB l.length 8 ((l.drop 4).take 4) (l.drop 8)
  else if num (l.take 4) = 1 then (if l.length < 16 then .err 8 else nxtB (num ((l.drop 8).take 8)) 16 ((l.drop 4).take 4) (l.drop 16))
  else nxtB (num (l.take 4)) 8 ((l.drop 4).take 4) (l.drop 8)
theorem numL_of (l : List Int) (h : ∀ x ∈ l, 0 ≤ x ∧ x ≤ 255) (hl : l.length ≤ 4) : 0 ≤ numL 0 l ∧ numL 0 l < 256 ^ l.length := by
  have key : ∀ (l : List Int) (a : Int) (k : Nat), (∀ x ∈ l, 0 ≤ x ∧ x ≤ 255) → 0 ≤ a → a < 256 ^ k → k + l.length ≤ 4 → 0 ≤ numL a l ∧ numL a l < 256 ^ (k + l.length) := by
    intro l
    induction l with
    | nil => intro a k _ h0 h1 _; exact ⟨h0, h1⟩
    | cons x l ih =>
      intro a k hb h0 h1 hk
      have hx := hb x (by simp)
      have hk4 : k ≤ 3 := by simp only [List.length_cons] at hk; omega
      have h256 : (256 : Int) ^ k ≤ 16777216 := by
        rcases (by omega : k = 0 ∨ k = 1 ∨ k = 2 ∨ k = 3) with rfl | rfl | rfl | rfl <;> decide
      have e : a * 256 % 18446744073709551616 + x = a * 256 + x := by omega
      have hs : numL a (x :: l) = numL (a * 256 + x) l := by show numL (a * 256 % 18446744073709551616 + x) l = _; rw [e]
      rw [hs]
      have := ih (a * 256 + x) (k + 1) (fun y hy => hb y (by simp [hy])) (by omega) (by rw [Int.pow_succ]; omega) (by simp only [List.length_cons] at hk; omega)
      rw [List.length_cons, show k + (l.length + 1) = k + 1 + l.length by omega]
      exact this
  have := key l 0 0 h (Int.le_refl _) (by decide) (by omega)
  rw [Nat.zero_add] at this
  exact this
theorem num4 (l : List Int) (h : ∀ x ∈ l, 0 ≤ x ∧ x ≤ 255) (hl : l.length = 4) : 0 ≤ num l ∧ num l < 4294967296 := by
  have := numL_of l h (by omega)
  rw [hl] at this
  have e : num l = numL 0 l := IntWalk.wrap64_in _ (by have : (256 : Int) ^ 4 = 4294967296 := by decide
                                                       omega)
  rw [e]
  have h4 : (256 : Int) ^ 4 = 4294967296 := by decide
  omega
/-- The Reader, and next's own block. -/
structure Nx (w wk : World) (lo p : Nat) (l : List Int) (err : Int) (kd : Value) (V : Value) : Prop where
  rd : Rd wk lo p l err
  g : w.grownBy wk (some p)
  b : wk.heap[w.heap.size]? = some (.cells #[kd, V] 42 (0, 0))
  pl : p < w.heap.size
section
variable {w wk w' : World} {lo p : Nat} {l : List Int} {err : Int} {kd V : Value}
theorem Nx.keep (h : Nx w wk lo p l err kd V) {l' : List Int} {err' : Int} (hr : Rd w' lo p l' err') (hg : wk.grownBy w' (some p)) : Nx w w' lo p l' err' kd V :=
  ⟨hr, grown_trans h.g hg, (hg.block _ (blk_lt h.b) (by have := h.pl; intro e; injection e with e; omega)).trans h.b, h.pl⟩
theorem Nx.left (h : Nx w wk lo p l err kd V) (hl : l.length ≤ 1000000) : Calls Try.prog 24 #[.pointer (some ⟨p, 0, none⟩)] wk fun e w' => e = .returned (.int .i64 (if err = 0 then l.length else 0)) ∧ wk = w' := left_any h.rd (by omega)
theorem Nx.get_yes (h : Nx w wk lo p l 0 kd V) (n : Nat) (hs : 1 ≤ n ∧ n ≤ 8) (hn : n ≤ l.length) (hl : l.length ≤ 1000000) (hb : ∀ x ∈ l, 0 ≤ x ∧ x ≤ 255) : Calls Try.prog 27 #[.pointer (some ⟨p, 0, none⟩), .int .i64 n] wk fun e w' => e = .returned (.int .i64 (num (l.take n))) ∧ Nx w w' lo p (l.drop n) 0 kd V :=
  (Go.Proofs.Ytfjkfajhfnmjjaa.get_yes n h.rd hs hn (by omega) hb).mono fun e w' ⟨he, h1, h2⟩ => ⟨he, h.keep h1 h2⟩
theorem Nx.get_no (h : Nx w wk lo p l err kd V) (n : Nat) (hs : 1 ≤ n ∧ n ≤ 8) (hn : l.length < n ∨ err ≠ 0) (hl : l.length ≤ 1000000) : Calls Try.prog 27 #[.pointer (some ⟨p, 0, none⟩), .int .i64 n] wk fun e w' => e = .returned (.int .i64 0) ∧ ((err = 0 ∨ err = 8) → Nx w w' lo p l 8 kd V) :=
  (Go.Proofs.Ytfjkfajhfnmjjaa.get_no (n : Int) h.rd (by omega) (by omega)).mono fun e w' ⟨he, h1, _, h2⟩ => ⟨he, fun h8 => by
    have e8 : mayE (decide (1 ≤ (n : Int) ∧ (n : Int) ≤ 8)) n l.length err = 8 := by
      unfold mayE failE
      rw [show decide (1 ≤ (n : Int) ∧ (n : Int) ≤ 8) = true by simp; omega]
      rcases h8 with rfl | rfl
      · rw [if_neg (by simp), if_pos (by omega)]; rfl
      · rw [if_neg (by simp)]; split <;> rfl
    rw [e8] at h1
    exact h.keep h1 h2⟩
theorem Nx.take_yes (h : Nx w wk lo p l 0 kd V) (n : Nat) (hn : n ≤ l.length) (hl : l.length ≤ 1000000) : Calls Try.prog 28 #[.pointer (some ⟨p, 0, none⟩), .int .i64 n] wk fun e w' => ∃ v, e = .returned v ∧ (∃ base, w.heap.size < base ∧ w'.ownsRow base 5 1 v n ((l.take n).map (Value.int .u8))) ∧ Nx w w' lo p (l.drop n) 0 kd V :=
  (Go.Proofs.Ytfjkfajhfnmjjaa.take_yes n h.rd hn (by omega)).mono fun e w' ⟨v, he, ho, h1, h2⟩ => ⟨v, he, ⟨_, blk_lt h.b, ho⟩, h.keep h1 h2⟩
theorem Nx.take_no (h : Nx w wk lo p l err kd V) (n : Int) (hn : 0 ≤ n) (hno : (l.length : Int) < n ∨ err ≠ 0) (hl : l.length ≤ 1000000) : Calls Try.prog 28 #[.pointer (some ⟨p, 0, none⟩), .int .i64 n] wk fun e w' => e = .returned (.slice none 0 0) ∧ ((err = 0 ∨ err = 8) → Nx w w' lo p l 8 kd V) :=
  (Go.Proofs.Ytfjkfajhfnmjjaa.take_no n h.rd (by omega) (by omega)).mono fun e w' ⟨he, h1, _, h2⟩ => ⟨he, fun h8 => by
    have e8 : mayE (decide (0 ≤ n)) n l.length err = 8 := by
      unfold mayE failE
      rw [show decide (0 ≤ n) = true by simp; omega]
      rcases h8 with rfl | rfl
      · rw [if_neg (by simp), if_pos (by omega)]; rfl
      · rw [if_neg (by simp)]; split <;> rfl
    rw [e8] at h1
    exact h.keep h1 h2⟩
theorem Nx.fin (h : Nx w wk lo p l err kd V) (hl : l.length ≤ 1000000) : Calls Try.prog 29 #[.pointer (some ⟨p, 0, none⟩)] wk fun e w' => e = .returned (.int .i64 (endE l.length err)) ∧ Nx w w' lo p l err kd V ∧ Drew wk w' :=
  (end_any h.rd (by omega)).mono fun e w' ⟨he, n, hw⟩ => ⟨he, by
    have hb : Below wk.heap.size wk w' := by rw [hw]; exact below_drewN (Below.refl _ wk) n
    exact h.keep (h.rd.below hb h.rd.lt) (grown_below hb (Nat.le_refl _)), n, hw⟩
end
end Go.Proofs.Ytfjkfajhfnmjjaa
