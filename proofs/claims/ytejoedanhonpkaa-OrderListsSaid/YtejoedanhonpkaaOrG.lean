/- Packets in order: a tile's geometry. -/
import Derived.Test.YtejoedanhonpkaaOrQ0
set_option linter.unusedVariables false
set_option linter.unusedSimpArgs false
namespace Go.Proofs.Ytejoedanhonpkaa
open Go.RowKit
set_option maxRecDepth 100000
def ptF (t : Int × Int × Int × Int) (d : Int × Int) : Int × Int × Int × Int := (ceilF t.1 d.1, ceilF t.2.1 d.2, ceilF t.2.2.1 d.1, ceilF t.2.2.2 d.2)
def rsF (t : Int × Int × Int × Int) (d : Int × Int) (lv r : Nat) : Int × Int × Int × Int := overN (ptF t d) ((2 ^ (lv - r) : Nat) : Int)
def Ord4 (t : Int × Int × Int × Int) : Prop := t.1 ≤ t.2.2.1 ∧ t.2.1 ≤ t.2.2.2
theorem ptF_in {t : Int × Int × Int × Int} {d : Int × Int} {m : Int} (h : inN t m) (h1 : 1 ≤ d.1) (h2 : 1 ≤ d.2) : inN (ptF t d) m := by
  obtain ⟨a, b, c, e⟩ := h
  have g1 := ceil_bd t.1 d.1 a.1 h1
  have g2 := ceil_bd t.2.1 d.2 b.1 h2
  have g3 := ceil_bd t.2.2.1 d.1 c.1 h1
  have g4 := ceil_bd t.2.2.2 d.2 e.1 h2
  unfold inN ptF
  simp only
  omega
theorem overN_in {t : Int × Int × Int × Int} {n m : Int} (h : inN t m) (hn : 1 ≤ n) : inN (overN t n) m := by
  obtain ⟨a, b, c, e⟩ := h
  have g1 := ceil_bd t.1 n a.1 hn
  have g2 := ceil_bd t.2.1 n b.1 hn
  have g3 := ceil_bd t.2.2.1 n c.1 hn
  have g4 := ceil_bd t.2.2.2 n e.1 hn
  unfold inN overN
  simp only
  omega
theorem ptF_ord {t : Int × Int × Int × Int} {d : Int × Int} (h : Ord4 t) (h1 : 1 ≤ d.1) (h2 : 1 ≤ d.2) : Ord4 (ptF t d) := ⟨ceil_mono h.1 h1, ceil_mono h.2 h2⟩
theorem overN_ord {t : Int × Int × Int × Int} {n : Int} (h : Ord4 t) (hn : 1 ≤ n) : Ord4 (overN t n) := ⟨ceil_mono h.1 hn, ceil_mono h.2 hn⟩
theorem two_pos (n : Nat) : 1 ≤ ((2 ^ n : Nat) : Int) := by have : 0 < 2 ^ n := Nat.pow_pos (by omega); omega
theorem rsF_in {t : Int × Int × Int × Int} {d : Int × Int} {m : Int} (lv r : Nat) (h : inN t m) (h1 : 1 ≤ d.1) (h2 : 1 ≤ d.2) : inN (rsF t d lv r) m := overN_in (ptF_in h h1 h2) (two_pos _)
theorem rsF_ord {t : Int × Int × Int × Int} {d : Int × Int} (lv r : Nat) (h : Ord4 t) (h1 : 1 ≤ d.1) (h2 : 1 ≤ d.2) : Ord4 (rsF t d lv r) := overN_ord (ptF_ord h h1 h2) (two_pos _)
theorem pc_bd {z : Int × Int × Int × Int} {m : Int} (N : Int) (hN : 1 ≤ N) (hm : 0 ≤ m) (hz : inN z m) (hle : Ord4 z) : (0 ≤ (pcF z N).1 ∧ (pcF z N).1 ≤ m) ∧ (0 ≤ (pcF z N).2 ∧ (pcF z N).2 ≤ m) := by
  obtain ⟨z0, z1, z2, z3⟩ := z
  obtain ⟨h0, h1, h2, h3⟩ := hz
  simp only [Ord4] at h0 h1 h2 h3 hle
  unfold pcF
  simp only
  split
  · omega
  · have a0 : 0 ≤ z0 / N := Int.ediv_nonneg (by omega) (by omega)
    have a1 : 0 ≤ z1 / N := Int.ediv_nonneg (by omega) (by omega)
    have b0 := ceil_bd z2 N (by omega) hN
    have b1 := ceil_bd z3 N (by omega) hN
    have c0 : z0 / N ≤ z2 / N := Int.ediv_le_ediv (by omega) (by omega)
    have c1 : z1 / N ≤ z3 / N := Int.ediv_le_ediv (by omega) (by omega)
    have d0 : z2 / N ≤ ceilF z2 N := by unfold ceilF; split <;> omega
    have d1 : z3 / N ≤ ceilF z3 N := by unfold ceilF; split <;> omega
    simp only
    omega
def dAt (ds : List (Int × Int)) (c : Nat) : Int × Int := ds.getD c (1, 1)
def wdF (t : Int × Int × Int × Int) (ds : List (Int × Int)) (lv pr c r : Nat) : Nat := (pcF (rsF t (dAt ds c) lv r) ((2 ^ pr : Nat) : Int)).1.toNat
def htF (t : Int × Int × Int × Int) (ds : List (Int × Int)) (lv pr c r : Nat) : Nat := (pcF (rsF t (dAt ds c) lv r) ((2 ^ pr : Nat) : Int)).2.toNat
def geo (t : Int × Int × Int × Int) (ds : List (Int × Int)) (lv pr : Nat) : GE where
  nc := ds.length
  lv := lv
  wh := fun c r => wdF t ds lv pr c r * htF t ds lv pr c r
  dn := fun c r k => spotF t.2.1 (rsF t (dAt ds c) lv r).2.1 (dAt ds c).2 ((2 ^ pr : Nat) : Int) ((2 ^ (pr + lv - r) : Nat) : Int) (k / wdF t ds lv pr c r)
  ac := fun c r k => spotF t.1 (rsF t (dAt ds c) lv r).1 (dAt ds c).1 ((2 ^ pr : Nat) : Int) ((2 ^ (pr + lv - r) : Nat) : Int) (k % wdF t ds lv pr c r)
theorem geo_pc {t : Int × Int × Int × Int} {ds : List (Int × Int)} {lv pr c r : Nat} (h : inN t 255) (ho : Ord4 t) (h1 : 1 ≤ (dAt ds c).1) (h2 : 1 ≤ (dAt ds c).2) :
    pcF (rsF t (dAt ds c) lv r) ((2 ^ pr : Nat) : Int) = ((wdF t ds lv pr c r : Int), (htF t ds lv pr c r : Int)) ∧ wdF t ds lv pr c r ≤ 255 ∧ htF t ds lv pr c r ≤ 255 := by
  have hb := pc_bd (z := rsF t (dAt ds c) lv r) (m := 255) ((2 ^ pr : Nat) : Int) (two_pos _) (by omega) (rsF_in lv r h h1 h2) (rsF_ord lv r ho h1 h2)
  unfold wdF htF
  generalize pcF (rsF t (dAt ds c) lv r) ((2 ^ pr : Nat) : Int) = z at hb ⊢
  obtain ⟨a, b⟩ := z
  simp only at hb ⊢
  refine ⟨?_, by omega, by omega⟩
  rw [Int.toNat_of_nonneg hb.1.1, Int.toNat_of_nonneg hb.2.1]
/-- As the iterators yield them. -/
def layL (s : Pk) (j : Nat) : List Pk := (List.range j).map s.at
def precL (G : GE) (n c r k : Nat) : List Pk := (List.range k).flatMap fun k => layL (G.pk 0 c r k) n
def resL (G : GE) (n c r : Nat) : List Pk := (List.range r).flatMap fun r => precL G n c r (G.wh c r)
def compL (G : GE) (n i : Nat) : List Pk := (List.range i).flatMap fun c => resL G n c (G.lv + 1)
theorem flatMap_le {α β : Type} (f : α → List β) (B : Nat) : ∀ l : List α, (∀ x ∈ l, (f x).length ≤ B) → (l.flatMap f).length ≤ l.length * B
  | [], _ => by simp
  | a :: l, h => by
    rw [List.flatMap_cons, List.length_append, List.length_cons, Nat.succ_mul]
    have := flatMap_le f B l (fun x hx => h x (List.mem_cons_of_mem _ hx))
    have := h a List.mem_cons_self
    omega
theorem layL_len (s : Pk) (j : Nat) : (layL s j).length = j := by simp [layL]
theorem precL_len (G : GE) (n c r k : Nat) : (precL G n c r k).length ≤ k * n := by
  have := flatMap_le (fun k => layL (G.pk 0 c r k) n) n (List.range k) (fun x _ => Nat.le_of_eq (layL_len _ _))
  rwa [List.length_range] at this
theorem resL_len (G : GE) (n c r B : Nat) (h : ∀ r, G.wh c r ≤ B) : (resL G n c r).length ≤ r * (B * n) := by
  have := flatMap_le (fun r => precL G n c r (G.wh c r)) (B * n) (List.range r) (fun x _ => Nat.le_trans (precL_len G n c x _) (Nat.mul_le_mul_right n (h x)))
  rwa [List.length_range] at this
theorem compL_len (G : GE) (n i B : Nat) (h : ∀ c r, c < i → G.wh c r ≤ B) : (compL G n i).length ≤ i * ((G.lv + 1) * (B * n)) := by
  have := flatMap_le (fun c => resL G n c (G.lv + 1)) ((G.lv + 1) * (B * n)) (List.range i) (fun x hx => resL_len G n x (G.lv + 1) B (fun r => h x r (List.mem_range.1 hx)))
  rwa [List.length_range] at this
theorem compL_all (G : GE) (n : Nat) : compL G n G.nc = G.pks n := by
  unfold compL resL precL layL GE.pks GE.spots
  simp only [List.flatMap_assoc, List.flatMap_map]
theorem layL_succ (s : Pk) (j : Nat) : layL s (j + 1) = layL s j ++ [s.at j] := by simp [layL, List.range_succ]
theorem precL_succ (G : GE) (n c r k : Nat) : precL G n c r (k + 1) = precL G n c r k ++ layL (G.pk 0 c r k) n := by simp [precL, List.range_succ]
theorem resL_succ (G : GE) (n c r : Nat) : resL G n c (r + 1) = resL G n c r ++ precL G n c r (G.wh c r) := by simp [resL, List.range_succ]
theorem compL_succ (G : GE) (n i : Nat) : compL G n (i + 1) = compL G n i ++ resL G n i (G.lv + 1) := by simp [compL, List.range_succ]
end Go.Proofs.Ytejoedanhonpkaa
