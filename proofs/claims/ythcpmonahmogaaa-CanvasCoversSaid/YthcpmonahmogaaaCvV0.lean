/- canvas: tiles, bands and blocks cover their rectangles: mathematics. -/
import Derived.Test.YthcpmonahmogaaaCvR0
set_option linter.unusedVariables false
set_option linter.unusedSimpArgs false
namespace Go.Proofs.Ythcpmonahmogaaa
open Go.RowKit
set_option maxRecDepth 100000
def areaR (r : Rc4) : Int := (r.2.2.1 - r.1) * (r.2.2.2 - r.2.1)
def sumA : List Rc4 → Int
  | [] => 0
  | r :: l => areaR r + sumA l
theorem sumA_app : ∀ a b : List Rc4, sumA (a ++ b) = sumA a + sumA b
  | [], b => by simp [sumA]
  | r :: a, b => by rw [List.cons_append, sumA, sumA, sumA_app a b]; omega
theorem sumA_take (l : List Rc4) (i : Nat) (r : Rc4) (h : l[i]? = some r) : sumA (l.take (i + 1)) = sumA (l.take i) + areaR r := by
  rw [List.take_add_one, h, sumA_app]
  simp [sumA]
/-- One side of the tiles. -/
def tS (x ox tx : Int) (i : Nat) : Int := minJ (((i : Int) + 1) * tx) x - maxJ ((i : Int) * tx) ox
def tSum (x ox tx : Int) : Nat → Int
  | 0 => 0
  | k + 1 => tSum x ox tx k + tS x ox tx k
theorem tSum_is {x ox tx : Int} {wd : Nat} (h : 0 ≤ ox ∧ ox < x) (ht : ox < tx) (hw : ceilF x tx = (wd : Int)) : ∀ k, 1 ≤ k → k ≤ wd → tSum x ox tx k = minJ ((k : Int) * tx) x - ox
  | 0, h0, _ => by omega
  | 1, _, _ => by
    unfold tSum tSum tS maxJ
    rw [show ((0 : Nat) : Int) = 0 from rfl, show ((1 : Nat) : Int) = 1 from rfl, show (0 : Int) + 1 = 1 from rfl, Int.zero_mul, Int.zero_add]
    by_cases e : (0 : Int) < ox
    · rw [if_pos e]; try omega
    · rw [if_neg e]; try omega
  | k + 2, _, hk => by
    have ih := tSum_is h ht hw (k + 1) (by omega) (by omega)
    have h1 : ((k + 1 : Nat) : Int) * tx < x := (lt_ceil (by omega)).2 (by rw [hw]; omega)
    have h2 : tx ≤ ((k + 1 : Nat) : Int) * tx := by
      have := Int.mul_le_mul_of_nonneg_right (show (1 : Int) ≤ ((k + 1 : Nat) : Int) by omega) (show 0 ≤ tx by omega)
      omega
    rw [tSum, ih]
    unfold tS
    rw [show ((k + 2 : Nat) : Int) = ((k + 1 : Nat) : Int) + 1 by omega]
    have e1 : maxJ (((k + 1 : Nat) : Int) * tx) ox = ((k + 1 : Nat) : Int) * tx := by unfold maxJ; rw [if_neg (by omega)]
    have e2 : minJ (((k + 1 : Nat) : Int) * tx) x = ((k + 1 : Nat) : Int) * tx := by unfold minJ; rw [if_neg (by omega)]
    rw [e1, e2]
    omega
theorem tSum_all {x ox tx : Int} {wd : Nat} (h : 0 ≤ ox ∧ ox < x) (ht : ox < tx) (hw : ceilF x tx = (wd : Int)) : tSum x ox tx wd = x - ox := by
  have h0 : (0 : Int) < ceilF x tx := (lt_ceil (by omega)).1 (by omega)
  rw [tSum_is h ht hw wd (by omega) (Nat.le_refl _)]
  have h1 : ¬ ((wd : Int) * tx < x) := fun hc => by
    have := (lt_ceil (show 1 ≤ tx by omega)).1 hc
    omega
  unfold minJ
  split <;> omega
theorem rrow_area (x y ox oy tx ty : Int) (j : Nat) : ∀ k, sumA (rrow x y ox oy tx ty j k) = tSum x ox tx k * tS y oy ty j
  | 0 => by simp [rrow, sumA, tSum]
  | k + 1 => by
    rw [rrow_succ, sumA_app, rrow_area x y ox oy tx ty j k, tSum, Int.add_mul]
    simp only [sumA, Int.add_zero]
    rfl
theorem rtls_area (x y ox oy tx ty : Int) (wd : Nat) : ∀ m, sumA (rtls x y ox oy tx ty wd m) = tSum x ox tx wd * tSum y oy ty m
  | 0 => by simp [rtls, sumA, tSum]
  | m + 1 => by rw [rtls_succ, sumA_app, rtls_area x y ox oy tx ty wd m, rrow_area, tSum, Int.mul_add]
theorem tiles_area {x y ox oy tx ty : Int} {wd ht : Nat} (hx : 0 ≤ ox ∧ ox < x) (hy : 0 ≤ oy ∧ oy < y) (htx : ox < tx) (hty : oy < ty) (hwd : ceilF x tx = (wd : Int)) (hht : ceilF y ty = (ht : Int)) : sumA (rtls x y ox oy tx ty wd ht) = (x - ox) * (y - oy) := by
  rw [rtls_area, tSum_all hx htx hwd, tSum_all hy hty hht]
/-- Halving what is rounded up. -/
theorem half_ceil {a d : Int} (hd : 1 ≤ d) : ceilF a (2 * d) = -((-(ceilF a d)) / 2) ∧ ceilF (a - d) (2 * d) = -((1 - ceilF a d) / 2) := by
  rw [ceil_eq hd, ceil_eq (show 1 ≤ 2 * d by omega), ceil_eq (show 1 ≤ 2 * d by omega)]
  have e : ∀ z : Int, z / (2 * d) = (z / d) / 2 := fun z => by rw [Int.mul_comm, Int.ediv_ediv_of_nonneg (by omega)]
  refine ⟨?_, ?_⟩
  · rw [e]; omega
  · rw [e, show -(a - d) = -a + 1 * d by omega, Int.add_mul_ediv_right _ _ (by omega)]
    omega
theorem pow_half (n : Nat) : ((2 ^ (n + 1) : Nat) : Int) = 2 * ((2 ^ n : Nat) : Int) ∧ ((2 ^ (n + 1) : Nat) : Int) / 2 = ((2 ^ n : Nat) : Int) := by
  rw [Nat.pow_succ]
  omega
/-- The areas of a resolution's bands, with the next lower resolution's. -/
theorem bands_area (p : Rc4) (lv r : Nat) (hr : r + 1 ≤ lv) : areaR (overN p ((2 ^ (lv - (r + 1)) : Nat) : Int)) = areaR (overN p ((2 ^ (lv - r) : Nat) : Int)) + sumA (bandsR p lv (r + 1)) := by
  obtain ⟨a0, a1, a2, a3⟩ := p
  obtain ⟨m, hm⟩ : ∃ m, lv - (r + 1) = m := ⟨_, rfl⟩
  have e1 : lv - r = m + 1 := by omega
  have hd : 1 ≤ ((2 ^ m : Nat) : Int) := by have := Nat.pow_pos (n := m) (show 0 < 2 by omega); omega
  have hp := pow_half m
  unfold bandsR
  rw [if_neg (by omega), hm, e1, hp.2, hp.1]
  generalize ((2 ^ m : Nat) : Int) = d at *
  simp only [sumA, areaR, overN, ovR, Int.sub_zero, Int.add_zero]
  rw [(half_ceil (a := a0) hd).1, (half_ceil (a := a1) hd).1, (half_ceil (a := a2) hd).1, (half_ceil (a := a3) hd).1, (half_ceil (a := a0) hd).2, (half_ceil (a := a1) hd).2, (half_ceil (a := a2) hd).2, (half_ceil (a := a3) hd).2]
  generalize ceilF a0 d = A0
  generalize ceilF a1 d = A1
  generalize ceilF a2 d = A2
  generalize ceilF a3 d = A3
  have key : ∀ A : Int, -((-A) / 2) + -((1 - A) / 2) = A := fun A => by omega
  have k0 := key A0; have k1 := key A1; have k2 := key A2; have k3 := key A3
  generalize -((-A0) / 2) = l0 at *
  generalize -((-A1) / 2) = l1 at *
  generalize -((-A2) / 2) = l2 at *
  generalize -((-A3) / 2) = l3 at *
  generalize -((1 - A0) / 2) = h0 at *
  generalize -((1 - A1) / 2) = h1 at *
  generalize -((1 - A2) / 2) = h2 at *
  generalize -((1 - A3) / 2) = h3 at *
  rw [← k0, ← k1, ← k2, ← k3, show l2 + h2 - (l0 + h0) = (l2 - l0) + (h2 - h0) by omega, show l3 + h3 - (l1 + h1) = (l3 - l1) + (h3 - h1) by omega, Int.add_mul, Int.mul_add, Int.mul_add]
  omega
def bSum (p : Rc4) (lv : Nat) : Nat → Int
  | 0 => 0
  | r + 1 => bSum p lv r + sumA (bandsR p lv r)
theorem bSum_is (p : Rc4) (lv : Nat) : ∀ r, r ≤ lv → bSum p lv (r + 1) = areaR (overN p ((2 ^ (lv - r) : Nat) : Int))
  | 0, _ => by
    simp only [bSum, Int.zero_add]
    unfold bandsR
    rw [if_pos rfl]
    simp [sumA]
  | r + 1, h => by rw [bSum, bSum_is p lv r (by omega), bands_area p lv r h]
theorem bSum_all (p : Rc4) (lv : Nat) : bSum p lv (lv + 1) = areaR p := by
  rw [bSum_is p lv lv (Nat.le_refl _), Nat.sub_self]
  obtain ⟨a0, a1, a2, a3⟩ := p
  have h1 : ∀ a : Int, ceilF a ((2 ^ 0 : Nat) : Int) = a := fun a => by rw [ceil_eq (by decide)]; simp
  unfold overN
  simp only [h1]
/-- Where a place lies: its precinct, and its block there. -/
def inR (r : Rc4) (x y : Int) : Prop := r.1 ≤ x ∧ x < r.2.2.1 ∧ r.2.1 ≤ y ∧ y < r.2.2.2
def pOf (z : Rc4) (pr r : Nat) (x y : Int) : Nat :=
  (y / ((2 ^ qF pr r : Nat) : Int) - z.2.1 / ((2 ^ pr : Nat) : Int)).toNat * (pcF z ((2 ^ pr : Nat) : Int)).1.toNat + (x / ((2 ^ qF pr r : Nat) : Int) - z.1 / ((2 ^ pr : Nat) : Int)).toNat
def bOfP (p : Rc4) (X Y x y : Int) : Nat := (y / Y - p.2.1 / Y).toNat * (ceilF p.2.2.1 X - p.1 / X).toNat + (x / X - p.1 / X).toNat
def bOf (b z : Rc4) (pr bw bh r k : Nat) (x y : Int) : Nat := bOfP (partF b z pr r k) (cellX bw (qF pr r)) (cellX bh (qF pr r)) x y
/-- A band's side over its resolution's side: each place is in a column of precincts. -/
def SideOk (b0 b2 z0 z2 n N : Int) : Prop := ∀ x, b0 ≤ x → x < b2 → z0 / N ≤ x / n ∧ x / n < ceilF z2 N ∧ z0 < z2
theorem ceil_mul {a n : Int} (hn : 1 ≤ n) : a ≤ ceilF a n * n := by
  rw [ceil_eq hn, Int.neg_mul]
  have := Int.ediv_mul_le (-a) (show n ≠ 0 by omega)
  omega
theorem side0 {z0 z2 n : Int} (hn : 1 ≤ n) : SideOk z0 z2 z0 z2 n n := fun x h1 h2 => by
  refine ⟨Int.ediv_le_ediv (by omega) h1, ?_, by omega⟩
  have := Int.ediv_mul_le x (show n ≠ 0 by omega)
  exact (lt_ceil hn).1 (by omega)
theorem side1 {z0 z2 n e : Int} (hn : 1 ≤ n) (he : e = 0 ∨ e = 1) : SideOk (-((e - z0) / 2)) (-((e - z2) / 2)) z0 z2 n (2 * n) := fun x h1 h2 => by
  have g1 : z0 / 2 ≤ x := by omega
  have g2 : x < -((-z2) / 2) := by omega
  refine ⟨?_, ?_, by omega⟩
  · rw [← Int.ediv_ediv_of_nonneg (by omega)]
    exact Int.ediv_le_ediv (by omega) g1
  · have h3 := ceil_mul (a := z2) (show 1 ≤ 2 * n by omega)
    generalize ceilF z2 (2 * n) = M at *
    have h4 : M * (2 * n) = 2 * (M * n) := by rw [Int.mul_left_comm]
    rw [h4] at h3
    exact Int.ediv_lt_of_lt_mul (by omega) (by omega)
theorem div_is {x a n : Int} (hn : 1 ≤ n) : x / n = a ↔ a * n ≤ x ∧ x < (a + 1) * n := by
  have h1 : a ≤ x / n ↔ a * n ≤ x := Int.le_ediv_iff_mul_le (by omega)
  have h2 : x / n < a + 1 ↔ x < (a + 1) * n := Int.ediv_lt_iff_lt_mul (by omega)
  omega
theorem in_cell {p : Rc4} {X Y a c x y : Int} (hX : 1 ≤ X) (hY : 1 ≤ Y) : inR (cellR p.1 p.2.1 p.2.2.1 p.2.2.2 X Y (a, c)) x y ↔ inR p x y ∧ x / X = a ∧ y / Y = c := by
  rw [div_is hX, div_is hY]
  unfold inR cellR maxJ minJ
  dsimp only
  generalize a * X = u0
  generalize (a + 1) * X = u1
  generalize c * Y = u2
  generalize (c + 1) * Y = u3
  constructor
  · intro h
    revert h
    split <;> split <;> split <;> split <;> intro h <;> omega
  · intro h
    split <;> split <;> split <;> split <;> omega
theorem in_part {b z : Rc4} {pr r k : Nat} {x y : Int} : inR (partF b z pr r k) x y ↔ inR b x y ∧ x / ((2 ^ qF pr r : Nat) : Int) = z.1 / ((2 ^ pr : Nat) : Int) + ((k % (pcF z ((2 ^ pr : Nat) : Int)).1.toNat : Nat) : Int) ∧ y / ((2 ^ qF pr r : Nat) : Int) = z.2.1 / ((2 ^ pr : Nat) : Int) + ((k / (pcF z ((2 ^ pr : Nat) : Int)).1.toNat : Nat) : Int) := by
  have hn : 1 ≤ ((2 ^ qF pr r : Nat) : Int) := by have := Nat.pow_pos (n := qF pr r) (show 0 < 2 by omega); omega
  exact in_cell (p := b) hn hn
theorem in_blks {p : Rc4} {X Y : Int} (hX : 1 ≤ X) (hY : 1 ≤ Y) {i : Nat} {rr : Rc4} (h : (blksF p X Y)[i]? = some rr) (x y : Int) : inR rr x y ↔ inR p x y ∧ bOfP p X Y x y = i := by
  have hlen : (blksF p X Y).length = (ceilF p.2.2.2 Y - p.2.1 / Y).toNat * (ceilF p.2.2.1 X - p.1 / X).toNat := by unfold blksF; rw [List.length_map, plP_len]
  have hi : i < (ceilF p.2.2.2 Y - p.2.1 / Y).toNat * (ceilF p.2.2.1 X - p.1 / X).toNat := by rw [← hlen]; exact (List.getElem?_eq_some_iff.1 h).1
  obtain ⟨wd, hwd⟩ : ∃ wd : Nat, (ceilF p.2.2.1 X - p.1 / X).toNat = wd := ⟨_, rfl⟩
  rw [hwd] at hi
  have hw : 0 < wd := by
    rcases Nat.eq_zero_or_pos wd with e | e
    · rw [e, Nat.mul_zero] at hi; omega
    · exact e
  unfold blksF at h
  rw [hwd, List.getElem?_map, plP_get _ _ wd hw _ i hi] at h
  have h := Option.some.inj h
  subst h
  rw [in_cell hX hY]
  unfold bOfP
  rw [hwd]
  have hd := Nat.div_add_mod i wd
  have hm := Nat.mod_lt i hw
  constructor
  · rintro ⟨h1, h2, h3⟩
    refine ⟨h1, ?_⟩
    rw [h2, h3, show p.2.1 / Y + ((i / wd : Nat) : Int) - p.2.1 / Y = ((i / wd : Nat) : Int) by omega, show p.1 / X + ((i % wd : Nat) : Int) - p.1 / X = ((i % wd : Nat) : Int) by omega, Int.toNat_natCast, Int.toNat_natCast, Nat.mul_comm]
    exact hd
  · rintro ⟨h1, h2⟩
    refine ⟨h1, ?_⟩
    have hx1 : p.1 / X ≤ x / X := Int.ediv_le_ediv (by omega) h1.1
    have hy1 : p.2.1 / Y ≤ y / Y := Int.ediv_le_ediv (by omega) h1.2.2.1
    have hx2 : x / X < ceilF p.2.2.1 X := (lt_ceil hX).1 (by have := Int.ediv_mul_le x (show X ≠ 0 by omega); have := h1.2.1; omega)
    obtain ⟨u, hu⟩ : ∃ u : Nat, x / X - p.1 / X = (u : Int) := ⟨(x / X - p.1 / X).toNat, by omega⟩
    obtain ⟨v, hv⟩ : ∃ v : Nat, y / Y - p.2.1 / Y = (v : Int) := ⟨(y / Y - p.2.1 / Y).toNat, by omega⟩
    rw [hu, hv, Int.toNat_natCast, Int.toNat_natCast] at h2
    have hul : u < wd := by omega
    have e1 : i % wd = u := by rw [← h2, Nat.add_comm, Nat.mul_comm, Nat.add_mul_mod_self_left, Nat.mod_eq_of_lt hul]
    have e2 : i / wd = v := by rw [← h2, Nat.add_comm, Nat.mul_comm, Nat.add_mul_div_left _ _ hw, Nat.div_eq_of_lt hul, Nat.zero_add]
    rw [e1, e2]
    omega
theorem blks_lt {p : Rc4} {X Y : Int} (hX : 1 ≤ X) (hY : 1 ≤ Y) {x y : Int} (h1 : inR p x y) : bOfP p X Y x y < (blksF p X Y).length := by
  unfold blksF
  rw [List.length_map, plP_len]
  unfold bOfP
  have hx1 : p.1 / X ≤ x / X := Int.ediv_le_ediv (by omega) h1.1
  have hy1 : p.2.1 / Y ≤ y / Y := Int.ediv_le_ediv (by omega) h1.2.2.1
  have hx2 : x / X < ceilF p.2.2.1 X := (lt_ceil hX).1 (by have := Int.ediv_mul_le x (show X ≠ 0 by omega); have := h1.2.1; omega)
  have hy2 : y / Y < ceilF p.2.2.2 Y := (lt_ceil hY).1 (by have := Int.ediv_mul_le y (show Y ≠ 0 by omega); have := h1.2.2.2; omega)
  have h3 : (x / X - p.1 / X).toNat < (ceilF p.2.2.1 X - p.1 / X).toNat := by omega
  have h4 : (y / Y - p.2.1 / Y).toNat + 1 ≤ (ceilF p.2.2.2 Y - p.2.1 / Y).toNat := by omega
  have h5 := Nat.mul_le_mul_right (ceilF p.2.2.1 X - p.1 / X).toNat h4
  rw [Nat.add_mul, Nat.one_mul] at h5
  omega
/-- What a band over its resolution has. -/
structure BandOk (b z : Rc4) (pr r : Nat) : Prop where
  sx : SideOk b.1 b.2.2.1 z.1 z.2.2.1 ((2 ^ qF pr r : Nat) : Int) ((2 ^ pr : Nat) : Int)
  sy : SideOk b.2.1 b.2.2.2 z.2.1 z.2.2.2 ((2 ^ qF pr r : Nat) : Int) ((2 ^ pr : Nat) : Int)
theorem BandOk.col {b z : Rc4} {pr r : Nat} (H : BandOk b z pr r) {x y : Int} (h : inR b x y) : ∃ i j W T : Nat, x / ((2 ^ qF pr r : Nat) : Int) = z.1 / ((2 ^ pr : Nat) : Int) + (i : Int) ∧ y / ((2 ^ qF pr r : Nat) : Int) = z.2.1 / ((2 ^ pr : Nat) : Int) + (j : Int) ∧ (pcF z ((2 ^ pr : Nat) : Int)).1 = (W : Int) ∧ (pcF z ((2 ^ pr : Nat) : Int)).2 = (T : Int) ∧ i < W ∧ j < T ∧ pOf z pr r x y = j * W + i := by
  obtain ⟨a1, a2, a3⟩ := H.sx x h.1 h.2.1
  obtain ⟨b1, b2, b3⟩ := H.sy y h.2.2.1 h.2.2.2
  have e : pcF z ((2 ^ pr : Nat) : Int) = (ceilF z.2.2.1 ((2 ^ pr : Nat) : Int) - z.1 / ((2 ^ pr : Nat) : Int), ceilF z.2.2.2 ((2 ^ pr : Nat) : Int) - z.2.1 / ((2 ^ pr : Nat) : Int)) := by unfold pcF; rw [if_neg (by omega)]
  unfold pOf
  rw [e]
  dsimp only
  generalize x / ((2 ^ qF pr r : Nat) : Int) = X at *
  generalize y / ((2 ^ qF pr r : Nat) : Int) = Y at *
  generalize z.1 / ((2 ^ pr : Nat) : Int) = Z at *
  generalize z.2.1 / ((2 ^ pr : Nat) : Int) = Z' at *
  generalize ceilF z.2.2.1 ((2 ^ pr : Nat) : Int) = C at *
  generalize ceilF z.2.2.2 ((2 ^ pr : Nat) : Int) = C' at *
  exact ⟨(X - Z).toNat, (Y - Z').toNat, (C - Z).toNat, (C' - Z').toNat, by omega, by omega, by omega, by omega, by omega, by omega, rfl⟩
theorem cellX_pos (m q : Nat) : 1 ≤ cellX m q := by
  unfold cellX
  have := Nat.pow_pos (n := min m q) (show 0 < 2 by omega)
  omega
/-- A block holds just the places of its number. -/
theorem cov_in {b z : Rc4} {pr bw bh r k i : Nat} (H : BandOk b z pr r) {rr : Rc4} (h : (blkF b z pr bw bh r k).1[i]? = some rr) (x y : Int) : inR rr x y ↔ inR b x y ∧ pOf z pr r x y = k ∧ bOf b z pr bw bh r k x y = i := by
  unfold blkF at h
  split at h
  · simp at h
  · rename_i hc
    rw [in_blks (cellX_pos _ _) (cellX_pos _ _) h x y]
    have key : inR (partF b z pr r k) x y ↔ inR b x y ∧ pOf z pr r x y = k := by
      rw [in_part]
      constructor
      · rintro ⟨h1, h2, h3⟩
        refine ⟨h1, ?_⟩
        obtain ⟨i', j', W, T, e1, e2, e3, e4, l1, l2, e5⟩ := H.col h1
        rw [e3, Int.toNat_natCast] at h2 h3
        have f1 : k % W = i' := by omega
        have f2 : k / W = j' := by omega
        rw [e5, ← f1, ← f2, Nat.mul_comm]
        exact Nat.div_add_mod k W
      · rintro ⟨h1, h2⟩
        obtain ⟨i', j', W, T, e1, e2, e3, e4, l1, l2, e5⟩ := H.col h1
        rw [e3, Int.toNat_natCast]
        rw [e5] at h2
        have f1 : k % W = i' := by rw [← h2, Nat.add_comm, Nat.mul_comm, Nat.add_mul_mod_self_left, Nat.mod_eq_of_lt l1]
        have f2 : k / W = j' := by rw [← h2, Nat.add_comm, Nat.mul_comm, Nat.add_mul_div_left _ _ (by omega), Nat.div_eq_of_lt l1, Nat.zero_add]
        rw [f1, f2]
        exact ⟨h1, e1, e2⟩
    rw [key, and_assoc]
    rfl
/-- Each place of a band is in a block of a precinct. -/
theorem cov_all {b z : Rc4} {pr bw bh r : Nat} (H : BandOk b z pr r) {x y : Int} (h : inR b x y) : ((pOf z pr r x y : Nat) : Int) < (pcF z ((2 ^ pr : Nat) : Int)).1 * (pcF z ((2 ^ pr : Nat) : Int)).2 ∧ bOf b z pr bw bh r (pOf z pr r x y) x y < (blkF b z pr bw bh r (pOf z pr r x y)).1.length := by
  obtain ⟨i', j', W, T, e1, e2, e3, e4, l1, l2, e5⟩ := H.col h
  have hlt : j' * W + i' < T * W := by
    have := Nat.mul_le_mul_right W (show j' + 1 ≤ T from l2)
    rw [Nat.add_mul, Nat.one_mul] at this
    omega
  have h0 : ((pOf z pr r x y : Nat) : Int) < (pcF z ((2 ^ pr : Nat) : Int)).1 * (pcF z ((2 ^ pr : Nat) : Int)).2 := by
    rw [e3, e4, e5, ← Int.natCast_mul, Nat.mul_comm W T]
    omega
  refine ⟨h0, ?_⟩
  have hin : inR (partF b z pr r (pOf z pr r x y)) x y := by
    rw [in_part, e3, Int.toNat_natCast, e5]
    have f1 : (j' * W + i') % W = i' := by rw [Nat.add_comm, Nat.mul_comm, Nat.add_mul_mod_self_left, Nat.mod_eq_of_lt l1]
    have f2 : (j' * W + i') / W = j' := by rw [Nat.add_comm, Nat.mul_comm, Nat.add_mul_div_left _ _ (by omega), Nat.div_eq_of_lt l1, Nat.zero_add]
    rw [f1, f2]
    exact ⟨h, e1, e2⟩
  unfold blkF
  rw [if_neg]
  · exact blks_lt (cellX_pos _ _) (cellX_pos _ _) hin
  · rintro (hc | hc)
    · omega
    · unfold emptyB at hc
      simp only [decide_eq_true_eq] at hc
      unfold inR at hin
      omega
/-- The bands of a resolution are over it. -/
theorem bands_over (p : Rc4) (lv r pr : Nat) (hr : r ≤ lv) (hpr : 1 ≤ pr) : ∀ b ∈ bandsR p lv r, BandOk b (overN p ((2 ^ (lv - r) : Nat) : Int)) pr r := by
  intro b hb
  obtain ⟨a0, a1, a2, a3⟩ := p
  have hn : ∀ m : Nat, 1 ≤ ((2 ^ m : Nat) : Int) := fun m => by have := Nat.pow_pos (n := m) (show 0 < 2 by omega); omega
  unfold bandsR at hb
  by_cases h0 : r = 0
  · subst h0
    rw [if_pos rfl, List.mem_singleton] at hb
    subst hb
    have e : qF pr 0 = pr := by unfold qF; rw [if_pos rfl]
    exact ⟨by rw [e]; exact side0 (hn _), by rw [e]; exact side0 (hn _)⟩
  · obtain ⟨m, hm⟩ : ∃ m, lv - r = m := ⟨_, rfl⟩
    have hp := pow_half m
    have e : qF pr r = pr - 1 := by unfold qF; rw [if_neg h0]
    have e2 : ((2 ^ pr : Nat) : Int) = 2 * ((2 ^ (pr - 1) : Nat) : Int) := by
      have := (pow_half (pr - 1)).1
      rwa [show pr - 1 + 1 = pr by omega] at this
    rw [if_neg h0, hm, hp.2, hp.1] at hb
    have s0 : ∀ a a' : Int, SideOk (ceilF (a - 0) (2 * ((2 ^ m : Nat) : Int))) (ceilF (a' - 0) (2 * ((2 ^ m : Nat) : Int))) (ceilF a ((2 ^ m : Nat) : Int)) (ceilF a' ((2 ^ m : Nat) : Int)) ((2 ^ qF pr r : Nat) : Int) ((2 ^ pr : Nat) : Int) := fun a a' => by
      rw [Int.sub_zero, Int.sub_zero, (half_ceil (a := a) (hn m)).1, (half_ceil (a := a') (hn m)).1, e, e2]
      have := side1 (z0 := ceilF a ((2 ^ m : Nat) : Int)) (z2 := ceilF a' ((2 ^ m : Nat) : Int)) (e := 0) (hn (pr - 1)) (Or.inl rfl)
      simpa using this
    have s1 : ∀ a a' : Int, SideOk (ceilF (a - ((2 ^ m : Nat) : Int)) (2 * ((2 ^ m : Nat) : Int))) (ceilF (a' - ((2 ^ m : Nat) : Int)) (2 * ((2 ^ m : Nat) : Int))) (ceilF a ((2 ^ m : Nat) : Int)) (ceilF a' ((2 ^ m : Nat) : Int)) ((2 ^ qF pr r : Nat) : Int) ((2 ^ pr : Nat) : Int) := fun a a' => by
      rw [(half_ceil (a := a) (hn m)).2, (half_ceil (a := a') (hn m)).2, e, e2]
      exact side1 (hn (pr - 1)) (Or.inr rfl)
    rw [hm]
    simp only [List.mem_cons, List.not_mem_nil, or_false] at hb
    rcases hb with rfl | rfl | rfl
    · exact ⟨s1 _ _, s0 _ _⟩
    · exact ⟨s0 _ _, s1 _ _⟩
    · exact ⟨s1 _ _, s1 _ _⟩
end Go.Proofs.Ythcpmonahmogaaa
