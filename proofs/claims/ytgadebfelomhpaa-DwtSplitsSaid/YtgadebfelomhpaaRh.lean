/- half, lows of waveletref10; rows of rows in front of rows of rows. -/
import Derived.Test.YtgadebfelomhpaaRc3
set_option linter.unusedVariables false
set_option linter.unusedSimpArgs false
namespace Go.Proofs.Ytgadebfelomhpaa
open Go.RowKit

set_option maxHeartbeats 2000000 in
theorem lows_any (x n m : Nat) (b : Int) (w : World) (hx : x ≤ 100000) (hn : n ≤ 1000) (hb : (x : Int) + (n : Int) = b) (hm : lowN (x % 2) n = m) :
    Calls Try.prog 28 #[.int .i64 (x : Int), .int .i64 b] w fun e w' => e = .returned (.int .i64 (m : Int)) ∧ w' = w := by
  have hv : (b + 1) / 2 - ((x : Int) + 1) / 2 = (m : Int) := by
    unfold lowN at hm
    omega
  have HV := Lib.hid hv
  have hb2 : 0 ≤ b ∧ b ≤ 101000 := by omega
  clear hb hm hv
  go_enter Try.func28, Try.ntmps28
  go_wp2
  go_ret
  exact ⟨ret_i64 (by have := HV.out; omega), rfl⟩
set_option maxHeartbeats 2000000 in
set_option maxRecDepth 100000 in
theorem rhalf_any (g : Geo) (w : World) (h : g.w ≤ 300 ∧ g.h ≤ 300) (hx : g.x ≤ 100000 ∧ g.y ≤ 100000) :
    Calls Try.prog 30 #[rectV g] w fun e w' => e = .returned (rectV g.half) ∧ Below w.heap.size w w' := by
  obtain ⟨x, y, gw, gh⟩ := g
  simp only at h hx
  have r1 : (x + gw + 1) / 2 = (x + 1) / 2 + lowN (x % 2) gw := by unfold lowN; omega
  have r2 : (y + gh + 1) / 2 = (y + 1) / 2 + lowN (y % 2) gh := by unfold lowN; omega
  unfold rectV Geo.half
  simp only
  rw [← r1, ← r2]
  obtain ⟨b0, h0⟩ : ∃ a : Int, (((x + 1) / 2 : Nat) : Int) = a := ⟨_, rfl⟩
  obtain ⟨b1, h1⟩ : ∃ a : Int, (((y + 1) / 2 : Nat) : Int) = a := ⟨_, rfl⟩
  obtain ⟨b2, h2⟩ : ∃ a : Int, (((x + gw + 1) / 2 : Nat) : Int) = a := ⟨_, rfl⟩
  obtain ⟨b3, h3⟩ : ∃ a : Int, (((y + gh + 1) / 2 : Nat) : Int) = a := ⟨_, rfl⟩
  obtain ⟨a0, k0⟩ : ∃ a : Int, (x : Int) = a := ⟨_, rfl⟩
  obtain ⟨a1, k1⟩ : ∃ a : Int, (y : Int) = a := ⟨_, rfl⟩
  obtain ⟨a2, k2⟩ : ∃ a : Int, ((x + gw : Nat) : Int) = a := ⟨_, rfl⟩
  obtain ⟨a3, k3⟩ : ∃ a : Int, ((y + gh : Nat) : Int) = a := ⟨_, rfl⟩
  have e0 : (a0 + 1) / 2 = b0 := by omega
  have e1 : (a1 + 1) / 2 = b1 := by omega
  have e2 : (a2 + 1) / 2 = b2 := by omega
  have e3 : (a3 + 1) / 2 = b3 := by omega
  have p0 : 0 ≤ a0 ∧ a0 ≤ 200000 := by omega
  have p1 : 0 ≤ a1 ∧ a1 ≤ 200000 := by omega
  have p2 : 0 ≤ a2 ∧ a2 ≤ 200000 := by omega
  have p3 : 0 ≤ a3 ∧ a3 ≤ 200000 := by omega
  rw [k0, k1, k2, k3, h0, h1, h2, h3]
  clear k0 k1 k2 k3 h0 h1 h2 h3 r1 r2
  go_enter Try.func30, Try.ntmps30
  go_wp2
  obtain ⟨X, hX⟩ : ∃ X, (w.alloc (Obj.cells #[.int .i64 a0, .int .i64 a1, .int .i64 a2, .int .i64 a3] 23)).alloc (Obj.cells #[.int .i64 b0, .int .i64 b1, .int .i64 b2, .int .i64 b3] 23) = X := ⟨_, rfl⟩
  have hB : Below w.heap.size w X := by rw [← hX]; exact ((Below.refl _ w).alloc (Nat.le_refl _) _).alloc (by simp) _
  have hz : (w.alloc (Obj.cells #[.int .i64 a0, .int .i64 a1, .int .i64 a2, .int .i64 a3] 23)).heap.size = w.heap.size + 1 := by simp
  have b2' : X.heap[w.heap.size + 1]? = some (.cells #[.int .i64 b0, .int .i64 b1, .int .i64 b2, .int .i64 b3] 23 (0, 0)) := by
    rw [← hX, ← hz]; exact World.alloc_heap_new _ _
  have k0 : X.cell? ⟨w.heap.size + 1, 0, none⟩ = some (.int .i64 b0) := by simp [World.cell?, b2']
  have k1 : X.cell? ⟨w.heap.size + 1, 1, none⟩ = some (.int .i64 b1) := by simp [World.cell?, b2']
  have k2 : X.cell? ⟨w.heap.size + 1, 2, none⟩ = some (.int .i64 b2) := by simp [World.cell?, b2']
  have k3 : X.cell? ⟨w.heap.size + 1, 3, none⟩ = some (.int .i64 b3) := by simp [World.cell?, b2']
  rw [hX]
  clear hX hz b2'
  exact bodyPost_ret (v := .agg #[.int .i64 b0, .int .i64 b1, .int .i64 b2, .int .i64 b3]) (by simp [results, Try.results30, go_sem, k0, k1, k2, k3]) rfl ⟨rfl, hB⟩
/-- Rows of rows appended to some of the caller's own. -/
theorem app_rows {w : World} {base base' n m : Nat} {v hv : Value} {vs us : List Value} (hown : w.ownsRow base 24 1 v n vs) (h : w.ownsRow base' 24 1 hv m us) (hone : ∀ u ∈ us, u.oneCell' = true) (hb : base ≤ w.heap.size) (hlen : n + m ≤ 1000) :
    ∃ v' w', (appSem #[30, 30] 30 #[v, hv]).run Try.prog w = .ok v' w' ∧ w'.ownsRow base 24 1 v' (n + m) (vs ++ us) ∧ w.grownBy w' v.ownBlock ∧ (v'.ownBlock = v.ownBlock ∨ v'.ownBlock = some w.heap.size) := by
  obtain ⟨i0, hi, hz0, hz1, hz2⟩ := info_parts Try.info24
  obtain ⟨S, cs, rfl, hA, hc, hm⟩ := own_any h
  have hul : us.length = m := by have := h.1; rw [Nat.mul_one] at this; exact this
  cases hS : S with
  | none =>
    subst hS
    obtain ⟨rfl, rfl⟩ := hA rfl
    obtain rfl : us = [] := List.eq_nil_of_length_eq_zero hul
    have hrun := run_append_owned_none (P := Try.prog) (w := w) base 30 30 24 i0 1 Try.underlying30 hi v n _ hown
    exact ⟨v, w, hrun, by simpa using hown, World.grownBy.refl _ _, Or.inl rfl⟩
  | some a =>
    subst hS
    obtain ⟨v', w', hr, hown', hg, _, hat⟩ := run_append_own_at (P := Try.prog) w base 30 30 24 i0 (.slice none 0 0) 1 24 Try.underlying30 hi hz0 hz1 hz2 rfl (by decide) v n _ hown a m cs us (by rw [hul]; simp)
      ((Lst.own h).add rfl) hone (by unfold maxLen; omega) (by omega) hb
    exact ⟨v', w', hr, hown', hg, hat⟩
/-- The bands behind the lowest. -/
def upK (g : Geo) (P : Nat → Nat → Int) : Nat → List (List Int)
  | 0 => []
  | k + 1 => highs g P k ++ upK g P k
theorem upK_len (g : Geo) (P : Nat → Nat → Int) (k : Nat) : (upK g P k).length = 3 * k := by
  induction k with
  | zero => rfl
  | succ k ih => unfold upK; rw [List.length_append, ih, highs_len]; omega
theorem bands_up (g : Geo) (P : Nat → Nat → Int) (n : Nat) : bandsL g P n = lowest g P n :: upK g P n := by
  have h : ∀ k, k ≤ n → bandsK g P n k ++ upK g P (n - k) = lowest g P n :: upK g P n := by
    intro k
    induction k with
    | zero => intro _; rfl
    | succ k ih =>
      intro hk
      rw [← ih (by omega)]
      have e1 : upK g P (n - k) = highs g P (n - 1 - k) ++ upK g P (n - (k + 1)) := by
        rw [show n - k = (n - (k + 1)) + 1 from by omega, show n - 1 - k = n - (k + 1) from by omega]; rfl
      have e2 : bandsK g P n (k + 1) = bandsK g P n k ++ highs g P (n - 1 - k) := rfl
      rw [e1, e2, List.append_assoc]
  have := h n (Nat.le_refl _)
  rw [Nat.sub_self] at this
  rw [← this]
  unfold bandsL
  exact (List.append_nil _).symm
end Go.Proofs.Ytgadebfelomhpaa
