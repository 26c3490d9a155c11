/- Planes, split and joined: the mathematics. -/
import Derived.Test.YtgadebfelomhpaaLiftAll
set_option linter.unusedVariables false
namespace Go.Proofs.Ytgadebfelomhpaa
open Go.RowKit

/-- Planes, by columns and rows. -/
def flat (w h : Nat) (P : Nat → Nat → Int) : List Int := ranged (fun k => P (k % w) (k / w)) (w * h)
theorem flat_len (w h : Nat) (P : Nat → Nat → Int) : (flat w h P).length = w * h := ranged_len _ _
theorem flat_congr {w h : Nat} {P Q : Nat → Nat → Int} (hq : ∀ x y, x < w → y < h → P x y = Q x y) : flat w h P = flat w h Q :=
  ranged_congr fun k hk => by
    have hw : 0 < w := by rcases Nat.eq_zero_or_pos w with e | e; · subst e; simp at hk
                          · exact e
    exact hq _ _ (Nat.mod_lt _ hw) (Nat.div_lt_of_lt_mul hk)
theorem flat_getD {w h x y : Nat} (P : Nat → Nat → Int) (hx : x < w) (hy : y < h) : (flat w h P).getD (y * w + x) 0 = P x y := by
  unfold flat
  have hk : y * w + x < w * h := by
    have : (y + 1) * w ≤ h * w := Nat.mul_le_mul_right w hy
    rw [Nat.mul_comm w h, Nat.succ_mul] at *
    omega
  rw [ranged_getD _ hk, Nat.mul_comm y w, Nat.mul_add_mod, Nat.mod_eq_of_lt hx, Nat.mul_add_div (by omega), Nat.div_eq_of_lt hx, Nat.add_zero]
theorem spot_lt {w h x y : Nat} (hx : x < w) (hy : y < h) : y * w + x < w * h := by
  have : (y + 1) * w ≤ h * w := Nat.mul_le_mul_right w hy
  rw [Nat.mul_comm w h, Nat.succ_mul] at *
  omega
theorem spot_mod {w x : Nat} (y : Nat) (hx : x < w) : (y * w + x) % w = x := by
  rw [Nat.mul_comm y w, Nat.mul_add_mod, Nat.mod_eq_of_lt hx]
theorem spot_div {w x : Nat} (y : Nat) (hx : x < w) : (y * w + x) / w = y := by
  rw [Nat.mul_comm y w, Nat.mul_add_div (by omega), Nat.div_eq_of_lt hx, Nat.add_zero]

def colsF (e h : Nat) (P : Nat → Nat → Int) : Nat → Nat → Int := fun x y => (SP e h (ranged (fun y => P x y) h)).getD y 0
def rowsF (e w : Nat) (P : Nat → Nat → Int) : Nat → Nat → Int := fun x y => (SP e w (ranged (fun x => P x y) w)).getD x 0
def ucolsF (e h : Nat) (P : Nat → Nat → Int) : Nat → Nat → Int := fun x y => (JN e h (ranged (fun y => P x y) h)).getD y 0
def urowsF (e w : Nat) (P : Nat → Nat → Int) : Nat → Nat → Int := fun x y => (JN e w (ranged (fun x => P x y) w)).getD x 0
theorem urows_rows {e w x y : Nat} (P : Nat → Nat → Int) (he : e ≤ 1) (hx : x < w) : urowsF e w (rowsF e w P) x y = P x y := by
  unfold urowsF
  have : ranged (fun x => rowsF e w P x y) w = SP e w (ranged (fun x => P x y) w) := ranged_of _ _ (sp_len he (ranged_len _ _))
  rw [this, jn_sp he (ranged_len _ _), ranged_getD _ hx]
theorem ucols_cols {e h x y : Nat} (P : Nat → Nat → Int) (he : e ≤ 1) (hy : y < h) : ucolsF e h (colsF e h P) x y = P x y := by
  unfold ucolsF
  have : ranged (fun y => colsF e h P x y) h = SP e h (ranged (fun y => P x y) h) := ranged_of _ _ (sp_len he (ranged_len _ _))
  rw [this, jn_sp he (ranged_len _ _), ranged_getD _ hy]

/-- A rectangle: its first column and row, its sides. -/
structure Geo where
  x : Nat
  y : Nat
  w : Nat
  h : Nat
def lowN (e n : Nat) : Nat := (n + 1 - e) / 2
def Geo.half (g : Geo) : Geo := ⟨(g.x + 1) / 2, (g.y + 1) / 2, lowN (g.x % 2) g.w, lowN (g.y % 2) g.h⟩
def liftP (g : Geo) (P : Nat → Nat → Int) : Nat → Nat → Int := rowsF (g.x % 2) g.w (colsF (g.y % 2) g.h P)
def itG (g : Geo) : Nat → Geo
  | 0 => g
  | k + 1 => (itG g k).half
def itP (g : Geo) (P : Nat → Nat → Int) : Nat → Nat → Nat → Int
  | 0 => P
  | k + 1 => liftP (itG g k) (itP g P k)
def subF (a b : Nat) (P : Nat → Nat → Int) : Nat → Nat → Int := fun x y => P (a + x) (b + y)
/-- The first place, and the sides, of a band. -/
def qX (g : Geo) (kind : Nat) : Nat := if kind % 2 = 1 then g.half.w else 0
def qY (g : Geo) (kind : Nat) : Nat := if kind / 2 = 1 then g.half.h else 0
def qW (g : Geo) (kind : Nat) : Nat := if kind % 2 = 1 then g.w - g.half.w else g.half.w
def qH (g : Geo) (kind : Nat) : Nat := if kind / 2 = 1 then g.h - g.half.h else g.half.h
def quar (g : Geo) (Q : Nat → Nat → Int) (kind : Nat) : List Int := flat (qW g kind) (qH g kind) (subF (qX g kind) (qY g kind) Q)
def highs (g : Geo) (P : Nat → Nat → Int) (k : Nat) : List (List Int) := [quar (itG g k) (itP g P (k + 1)) 1, quar (itG g k) (itP g P (k + 1)) 2, quar (itG g k) (itP g P (k + 1)) 3]
def lowest (g : Geo) (P : Nat → Nat → Int) (k : Nat) : List Int := flat (itG g k).w (itG g k).h (itP g P k)
/-- The bands: what was split off from step n - 1 down to step n - k. -/
def bandsK (g : Geo) (P : Nat → Nat → Int) (n : Nat) : Nat → List (List Int)
  | 0 => [lowest g P n]
  | k + 1 => bandsK g P n k ++ highs g P (n - 1 - k)
def bandsL (g : Geo) (P : Nat → Nat → Int) (n : Nat) : List (List Int) := bandsK g P n n
theorem bandsK_len (g : Geo) (P : Nat → Nat → Int) (n k : Nat) : (bandsK g P n k).length = 3 * k + 1 := by
  induction k with
  | zero => rfl
  | succ k ih => unfold bandsK; rw [List.length_append, ih]; show _ + 3 = _; omega
theorem lowN_le (e n : Nat) : lowN e n ≤ n := by unfold lowN; omega
theorem half_w (g : Geo) : g.half.w ≤ g.w := lowN_le _ _
theorem half_h (g : Geo) : g.half.h ≤ g.h := lowN_le _ _
theorem itG_le (g : Geo) (k : Nat) : (itG g k).w ≤ g.w ∧ (itG g k).h ≤ g.h := by
  induction k with
  | zero => exact ⟨Nat.le_refl _, Nat.le_refl _⟩
  | succ k ih => exact ⟨Nat.le_trans (half_w _) ih.1, Nat.le_trans (half_h _) ih.2⟩
theorem quar_low (g : Geo) (Q : Nat → Nat → Int) : quar g Q 0 = flat g.half.w g.half.h Q := by
  unfold quar
  have e1 : qW g 0 = g.half.w := rfl
  have e2 : qH g 0 = g.half.h := rfl
  have e3 : qX g 0 = 0 := rfl
  have e4 : qY g 0 = 0 := rfl
  rw [e1, e2, e3, e4]
  exact flat_congr fun x y _ _ => by unfold subF; rw [Nat.zero_add, Nat.zero_add]
theorem bandsK_at (g : Geo) (P : Nat → Nat → Int) (n k i : Nat) (hi : i < k) : (bandsK g P n k)[3 * i + 1]? = some (quar (itG g (n - 1 - i)) (itP g P (n - 1 - i + 1)) 1) ∧ (bandsK g P n k)[3 * i + 2]? = some (quar (itG g (n - 1 - i)) (itP g P (n - 1 - i + 1)) 2) ∧ (bandsK g P n k)[3 * i + 3]? = some (quar (itG g (n - 1 - i)) (itP g P (n - 1 - i + 1)) 3) := by
  induction k with
  | zero => omega
  | succ k ih =>
    unfold bandsK
    have hl := bandsK_len g P n k
    by_cases e : i = k
    · subst e
      refine ⟨?_, ?_, ?_⟩
      · rw [List.getElem?_append_right (by omega), hl, show 3 * i + 1 - (3 * i + 1) = 0 from by omega]; rfl
      · rw [List.getElem?_append_right (by omega), hl, show 3 * i + 2 - (3 * i + 1) = 1 from by omega]; rfl
      · rw [List.getElem?_append_right (by omega), hl, show 3 * i + 3 - (3 * i + 1) = 2 from by omega]; rfl
    · have := ih (by omega)
      rw [List.getElem?_append_left (by omega), List.getElem?_append_left (by omega), List.getElem?_append_left (by omega)]
      exact this
theorem bandsK_zero (g : Geo) (P : Nat → Nat → Int) (n k : Nat) : (bandsK g P n k)[0]? = some (lowest g P n) := by
  induction k with
  | zero => rfl
  | succ k ih => unfold bandsK; rw [List.getElem?_append_left (by rw [bandsK_len]; omega)]; exact ih
/-- Bounds. -/
def Bd (K : Int) (w h : Nat) (P : Nat → Nat → Int) : Prop := ∀ x y, x < w → y < h → -K ≤ P x y ∧ P x y ≤ K
theorem split_bdK {e n : Nat} {r : Nat → Int} {K : Int} (he : e ≤ 1) (hn : 2 ≤ n) (hK : 0 ≤ K) (h : ∀ i, i < n → -K ≤ r i ∧ r i ≤ K) : ∀ i, i < n → -(2 * K + 1) ≤ lowF e n r i ∧ lowF e n r i ≤ 2 * K + 1 := by
  intro i hi
  have b1 := pass_bd (s := 1 - e) (K' := 2 * K + 1) hn h (by omega) (h := hP) (fun x a b hx ha hb => by unfold hP; omega)
  unfold lowF
  by_cases hp : i % 2 = e
  · have l1 := lo_par hn hp hi
    have l2 := hi_par hn hp hi
    have c0 : passF hP (1 - e) n r i = r i := if_neg (by omega)
    have c1 := b1 _ l1.1
    have c2 := b1 _ l2.1
    have := h i hi
    show _ ≤ (if i % 2 = e then _ else _) ∧ (if i % 2 = e then _ else _) ≤ _
    rw [if_pos hp, c0]
    unfold hU
    omega
  · have c : passF hU e n (passF hP (1 - e) n r) i = passF hP (1 - e) n r i := if_neg hp
    rw [c]; exact b1 i hi
theorem sp_bdK {e n : Nat} {l : List Int} {K : Int} (he : e ≤ 1) (hK : 0 ≤ K) (hl : l.length = n) (h : ∀ i, -K ≤ l.getD i 0 ∧ l.getD i 0 ≤ K) : ∀ i, -(2 * K + 1) ≤ (SP e n l).getD i 0 ∧ (SP e n l).getD i 0 ≤ 2 * K + 1 := by
  intro i
  unfold SP
  by_cases hn : n ≤ 1
  · rw [if_pos hn]
    by_cases h1 : e = 1
    · rw [if_pos h1, List.getD_eq_getElem?_getD, List.getElem?_map]
      have := h i
      rw [List.getD_eq_getElem?_getD] at this
      cases hx : l[i]? with
      | none => simp; omega
      | some x => rw [hx] at this; simp at this ⊢; omega
    · rw [if_neg h1]; have := h i; omega
  · rw [if_neg hn]
    have b := split_bdK (e := e) (n := n) (r := fun i => l.getD i 0) he (by omega) hK (fun i _ => h i)
    rcases Nat.lt_or_ge i n with hi | hi
    · rcases Nat.lt_or_ge i ((n + 1 - e) / 2) with h1 | h1
      · rw [split_low h1]; exact b _ (by omega)
      · obtain ⟨j, rfl⟩ : ∃ j, i = (n + 1 - e) / 2 + j := ⟨i - (n + 1 - e) / 2, by omega⟩
        rw [split_high (by omega)]; exact b _ (by omega)
    · rw [List.getD_eq_getElem?_getD, List.getElem?_eq_none (by rw [split_len _ he]; exact hi)]; simp; omega
theorem ranged_bdK {f : Nat → Int} {n : Nat} {K : Int} (h0 : 0 ≤ K) (h : ∀ i, i < n → -K ≤ f i ∧ f i ≤ K) : ∀ i, -K ≤ (ranged f n).getD i 0 ∧ (ranged f n).getD i 0 ≤ K := fun i => by
  rcases Nat.lt_or_ge i n with hi | hi
  · rw [ranged_getD _ hi]; exact h i hi
  · rw [List.getD_eq_getElem?_getD, List.getElem?_eq_none (by rw [ranged_len]; exact hi)]; simp; omega
theorem cols_bd {e w h : Nat} {P : Nat → Nat → Int} {K : Int} (he : e ≤ 1) (hK : 0 ≤ K) (b : Bd K w h P) : Bd (2 * K + 1) w h (colsF e h P) := fun x y hx hy =>
  sp_bdK he hK (ranged_len _ _) (ranged_bdK hK fun i hi => b x i hx hi) y
theorem rows_bd {e w h : Nat} {P : Nat → Nat → Int} {K : Int} (he : e ≤ 1) (hK : 0 ≤ K) (b : Bd K w h P) : Bd (2 * K + 1) w h (rowsF e w P) := fun x y hx hy =>
  sp_bdK he hK (ranged_len _ _) (ranged_bdK hK fun i hi => b i y hi hy) x
theorem lift_bd {g : Geo} {P : Nat → Nat → Int} {K : Int} (hK : 0 ≤ K) (b : Bd K g.w g.h P) : Bd (4 * K + 3) g.w g.h (liftP g P) := by
  have := rows_bd (e := g.x % 2) (by omega) (by omega) (cols_bd (e := g.y % 2) (by omega) hK b)
  rw [show 2 * (2 * K + 1) + 1 = 4 * K + 3 from by omega] at this
  exact this
theorem Bd.less {K : Int} {w h w' h' : Nat} {P : Nat → Nat → Int} (b : Bd K w h P) (hw : w' ≤ w) (hh : h' ≤ h) : Bd K w' h' P := fun x y hx hy => b x y (by omega) (by omega)
theorem Bd.more {K K' : Int} {w h : Nat} {P : Nat → Nat → Int} (b : Bd K w h P) (hK : K ≤ K') : Bd K' w h P := fun x y hx hy => by have := b x y hx hy; omega
def bdG (K : Int) : Nat → Int
  | 0 => K
  | k + 1 => 4 * bdG K k + 3
theorem bdG_pos {K : Int} (h : 0 ≤ K) (k : Nat) : 0 ≤ bdG K k := by induction k with
  | zero => exact h
  | succ k ih => unfold bdG; omega
theorem bdG_6 {k : Nat} (h : k < 5) : bdG 600000 k ≤ 500000000 := by
  have : k = 0 ∨ k = 1 ∨ k = 2 ∨ k = 3 ∨ k = 4 := by omega
  rcases this with rfl | rfl | rfl | rfl | rfl <;> decide
theorem itP_bdG {g : Geo} {P : Nat → Nat → Int} {K : Int} (hK : 0 ≤ K) (b : Bd K g.w g.h P) (k : Nat) : Bd (bdG K k) (itG g k).w (itG g k).h (itP g P k) := by
  induction k with
  | zero => exact b
  | succ k ih => exact (lift_bd (bdG_pos hK k) ih).less (half_w _) (half_h _)
theorem itP_lift_bdG {g : Geo} {P : Nat → Nat → Int} {K : Int} (hK : 0 ≤ K) (b : Bd K g.w g.h P) (k : Nat) : Bd (bdG K (k + 1)) (itG g k).w (itG g k).h (itP g P (k + 1)) :=
  lift_bd (bdG_pos hK k) (itP_bdG hK b k)
def bdK : Nat → Int
  | 0 => 600000
  | k + 1 => 4 * bdK k + 3
theorem bdK_pos (k : Nat) : 0 ≤ bdK k := by induction k with
  | zero => decide
  | succ k ih => unfold bdK; omega
theorem bdK_le {k : Nat} (h : k ≤ 5) : bdK k ≤ 700000000 := by
  have : k = 0 ∨ k = 1 ∨ k = 2 ∨ k = 3 ∨ k = 4 ∨ k = 5 := by omega
  rcases this with rfl | rfl | rfl | rfl | rfl | rfl <;> decide
theorem bdK_lt {k : Nat} (h : k < 5) : bdK k ≤ 500000000 := by
  have : k = 0 ∨ k = 1 ∨ k = 2 ∨ k = 3 ∨ k = 4 := by omega
  rcases this with rfl | rfl | rfl | rfl | rfl <;> decide
theorem itP_bd {g : Geo} {P : Nat → Nat → Int} (b : Bd 600000 g.w g.h P) (k : Nat) : Bd (bdK k) (itG g k).w (itG g k).h (itP g P k) := by
  induction k with
  | zero => exact b
  | succ k ih => exact (lift_bd (bdK_pos k) ih).less (half_w _) (half_h _)
theorem itP_lift_bd {g : Geo} {P : Nat → Nat → Int} (b : Bd 600000 g.w g.h P) (k : Nat) : Bd (bdK (k + 1)) (itG g k).w (itG g k).h (itP g P (k + 1)) :=
  lift_bd (bdK_pos k) (itP_bd b k)
end Go.Proofs.Ytgadebfelomhpaa
