/- One byte appended onto a row: the elder slice of that row reads as before. -/
import Derived.Test.YtjnmdfnankcboaaOnly
import Derived.Laws.Append
import Derived.Laws.AppendOwn
import Derived.Laws.Tables
set_option linter.unusedVariables false
namespace Go.Proofs.Ytjnmdfnankcboaa
open Go.RowKit

/-- v is an elder slice v0, with more behind it: in v0's own row, or in another one. -/
structure Ont (lo : Nat) (w : World) (v0 : Value) (n0 : Nat) (xs0 : List Value) (v : Value) (n : Nat) (xs : List Value) : Prop where
  old : w.ownsRow lo 5 1 v0 n0 xs0
  now : w.ownsRow lo 5 1 v n xs
  le : n0 ≤ n
  pre : xs.take n0 = xs0
  same : ∀ g c, v = .slice (some ⟨g, 0, none⟩) n c → v0.ownBlock = some g → v0 = .slice (some ⟨g, 0, none⟩) n0 c

theorem app1 {lo : Nat} {w : World} {v0 : Value} {n0 : Nat} {xs0 : List Value} {g n cap : Nat} {xs : List Value} (x : Value) (h : Ont lo w v0 n0 xs0 (.slice (some ⟨g, 0, none⟩) n cap) n xs) (h1 : x.oneCell' = true) (hn : n ≤ 100000) (hlo : lo ≤ w.heap.size) {ad : Addr} (hx : w.cell? ad = some x) :
    ∃ g' cap' w', (Builtin.append_ #[22, 22] 22 #[.slice (some ⟨g, 0, none⟩) n cap, .slice (some ad) 1 1]).run Try.prog w = .ok (.slice (some ⟨g', 0, none⟩) (n + 1) cap') w' ∧
      Ont lo w' v0 n0 xs0 (.slice (some ⟨g', 0, none⟩) (n + 1) cap') (n + 1) (xs ++ [x]) ∧ Only (fun k => k = g ∨ w.heap.size ≤ k) w w' ∧ (g' = g ∨ w.heap.size ≤ g') := by
  obtain ⟨i0, hi, hz0, hz1, hz2⟩ := info_parts Try.info5
  obtain ⟨hold, hnow, hle, hpre, hsame⟩ := h
  have hnow' := hnow
  obtain ⟨hlen, hn2⟩ := hnow
  rcases hn2 with ⟨hv, _⟩ | ⟨g1, cap1, cur, hv, hbg, hg, hnc, hcm, hcs, htake⟩
  · cases hv
  · injection hv with hva _ hvc
    injection hva with hva
    injection hva with hva _ _
    subst hva hvc
    rw [Nat.mul_one] at hlen hcs htake
    have hnews : ∀ j u, [x][j]? = some u → w.cell? (ad.add j) = some u := fun j u hu => by
      rcases j with _ | j
      · simp at hu; subst hu; simpa [Addr.add] using hx
      · simp at hu
    have hone : ∀ u ∈ [x], u.oneCell' = true := fun u hu => by simp at hu; subst hu; exact h1
    by_cases hroom : n + 1 ≤ cap
    · have hr := run_append_room (P := Try.prog) w 22 22 5 i0 Try.underlying22 hi g n cap cur hg ad 1 1 [x] (by rw [hz1]; rfl) hnews hone hroom (by rw [hz1]; simp; omega)
      rw [hz1, Nat.mul_one] at hr
      have hl1 : (cur.toList.take n).length = n := by rw [List.length_take, Array.length_toList]; omega
      have hnewtake : (cur.toList.take n ++ [x] ++ cur.toList.drop (n + [x].length)).take (n + 1) = xs ++ [x] := by
        rw [show n + 1 = (cur.toList.take n ++ [x]).length from by simp [hl1], List.take_left, htake]
      have hh := setRow_heap w g cur (cur.toList.take n ++ [x] ++ cur.toList.drop (n + [x].length)).toArray 5 (0, 0) hg
      have hsz : ((cur.toList.take n ++ [x] ++ cur.toList.drop (n + [x].length)).toArray).size = cap := by
        simp; omega
      refine ⟨g, cap, _, hr, ⟨?_, ⟨by simp [hlen], Or.inr ⟨g, cap, _, rfl, hbg, hh, hroom, hcm, by rw [hsz, Nat.mul_one], by
        rw [Nat.mul_one]; exact hnewtake⟩⟩, by omega, ?_, ?_⟩, ⟨rfl, rfl, rfl, by simp, fun k hk => setRow_other w g k _ (fun e => hk (Or.inl e))⟩, Or.inl rfl⟩
      · by_cases hb : v0.ownBlock = some g
        · have hv0 := hsame g cap rfl hb
          subst hv0
          obtain ⟨hl0, ho⟩ := hold
          rw [Nat.mul_one] at hl0
          refine ⟨by rw [Nat.mul_one]; exact hl0, Or.inr ⟨g, cap, _, rfl, hbg, hh, by omega, hcm, by rw [hsz, Nat.mul_one], ?_⟩⟩
          rw [Nat.mul_one]
          have : (cur.toList.take n ++ [x] ++ cur.toList.drop (n + [x].length)).take n0 = ((cur.toList.take n ++ [x] ++ cur.toList.drop (n + [x].length)).take (n + 1)).take n0 := by rw [List.take_take, Nat.min_eq_left (by omega)]
          rw [show (cur.toList.take n ++ [x] ++ cur.toList.drop (n + [x].length)).toArray.toList = cur.toList.take n ++ [x] ++ cur.toList.drop (n + [x].length) from rfl, this, hnewtake, List.take_append_of_le_length (by omega)]
          exact hpre
        · exact ownsRow_keep hold (by simp) (fun k hk => setRow_other w g k _ (fun e => hb (by rw [hk, e])))
      · rw [List.take_append_of_le_length (by omega)]; exact hpre
      · intro g2 c2 he hb2
        injection he with hea _ hec
        injection hea with hea
        injection hea with hea _ _
        subst hea hec
        exact hsame _ _ rfl hb2
    · have holds : ∀ j u, xs[j]? = some u → w.cell? ((⟨g, 0, none⟩ : Addr).add j) = some u := hnow'.cells (g := g) rfl
      have hr := run_append_grow (P := Try.prog) w 22 22 5 i0 (.int .u8 0) Try.underlying22 hi hz0 ⟨g, 0, none⟩ n cap xs (by rw [hz1, Nat.mul_one]; exact hlen) holds ad 1 1 [x] (by rw [hz1]; rfl) hnews (by omega) (by omega) (growslice_fits (by omega) (by rw [hz2]; omega))
      have hge := grownCap_ge w (n + 1) cap 5
      have hcm2 : grownCap w (n + 1) cap 5 ≤ maxLen := grownCap_le_maxLen w (n + 1) cap 5 (by unfold maxLen; omega)
      generalize hW : w.drew.alloc (.cells (xs.toArray ++ [x].toArray ++ Builtin.zeroCells (Value.int .u8 0).cells (grownCap w (n + 1) cap 5 - (n + 1))) 5) = W at *
      have hh : W.heap[w.heap.size]? = some (.cells (xs.toArray ++ [x].toArray ++ Builtin.zeroCells (Value.int .u8 0).cells (grownCap w (n + 1) cap 5 - (n + 1))) 5 (0, 0)) := by rw [← hW]; exact heap_alloc_new w.drew _
      have hoth : ∀ k, k < w.heap.size → W.heap[k]? = w.heap[k]? := fun k hk => by rw [← hW]; exact Below.heap_alloc w.drew _ k hk
      have hws : w.heap.size ≤ W.heap.size := by rw [← hW]; simp
      have hzc : (Builtin.zeroCells (Value.int .u8 0).cells (grownCap w (n + 1) cap 5 - (n + 1))).size = grownCap w (n + 1) cap 5 - (n + 1) := by rw [size_zeroCells]; simp [Value.cells]
      refine ⟨w.heap.size, _, W, hr, ⟨ownsRow_keep hold hws (fun k hk => hoth k (own_lt hold hk).2), ⟨by simp [hlen], Or.inr ⟨w.heap.size, _, _, rfl, hlo, hh, hge, hcm2, ?_, ?_⟩⟩, by omega, ?_, ?_⟩, ⟨by rw [← hW]; rfl, by rw [← hW]; rfl, by rw [← hW]; rfl, hws, fun k hk => hoth k (by simp at hk; omega)⟩, Or.inr (Nat.le_refl _)⟩
      · rw [Array.size_append, Array.size_append, hzc]; simp; omega
      · simp only [Array.toList_append, List.append_assoc]
        rw [← List.append_assoc, Nat.mul_one, show n + 1 = (xs.toArray.toList ++ [x].toArray.toList).length from by simp [hlen]]
        exact List.take_left
      · rw [List.take_append_of_le_length (by omega)]; exact hpre
      · intro g2 c2 he hb2
        injection he with hea _ hec
        injection hea with hea
        injection hea with hea _ _
        subst hea
        exact absurd (own_lt hold hb2).2 (by omega)
end Go.Proofs.Ytjnmdfnankcboaa
