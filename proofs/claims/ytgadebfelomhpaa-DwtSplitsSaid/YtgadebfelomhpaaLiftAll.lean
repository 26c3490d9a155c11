/- Split and Join of package lift at rows of any length: their mathematics. -/
import Derived.Test.YtgadebfelomhpaaLiftSmall
set_option linter.unusedVariables false
namespace Go.Proofs.Ytgadebfelomhpaa
open Go.RowKit

def SP (e n : Nat) (l : List Int) : List Int := if n ≤ 1 then (if e = 1 then l.map (2 * ·) else l) else splitL e n fun i => l.getD i 0
def JN (e n : Nat) (l : List Int) : List Int := if n ≤ 1 then (if e = 1 then l.map (· / 2) else l) else ranged (joinF e n l) n
theorem split_all {A : Option Addr} {n c : Nat} {l : List Int} {w : World} (a : Int) (e : Nat) (h : RowI w A n c l) (ha : 0 ≤ a) (he : a % 2 = e) (hn2 : n ≤ 1000) (hr : ∀ i, -1073741824 ≤ l.getD i 0 ∧ l.getD i 0 ≤ 1073741824) :
    Calls Try.prog 37 #[.int .i64 a, .slice A n c] w fun r w' => ∃ A' c', r = .returned (.slice A' n c') ∧ RowO w.heap.size w' A' n c' (SP e n l) ∧ Below w.heap.size w w' := by
  by_cases hn : n ≤ 1
  · rw [show SP e n l = _ from if_pos hn]; exact split_small a e h ha he hn hr
  · rw [show SP e n l = _ from if_neg hn]; exact split_any a e h ha he (by omega) hn2 (fun i _ => hr i)
theorem join_all {A : Option Addr} {n c : Nat} {l : List Int} {w : World} (a : Int) (e : Nat) (h : RowI w A n c l) (ha : 0 ≤ a) (he : a % 2 = e) (hn2 : n ≤ 1000) (hr : ∀ i, -1073741824 ≤ l.getD i 0 ∧ l.getD i 0 ≤ 1073741824) :
    Calls Try.prog 43 #[.int .i64 a, .slice A n c] w fun r w' => ∃ A' c', r = .returned (.slice A' n c') ∧ RowO w.heap.size w' A' n c' (JN e n l) ∧ Below w.heap.size w w' := by
  by_cases hn : n ≤ 1
  · rw [show JN e n l = _ from if_pos hn]; exact join_small a e h ha he hn hr
  · rw [show JN e n l = _ from if_neg hn]; exact join_any a e h ha he (by omega) hn2 (fun i => by have := hr i; omega)

theorem pass_congr {h : Int → Int → Int} {s n : Nat} {r q : Nat → Int} (hn : 2 ≤ n) (hq : ∀ i, i < n → r i = q i) : ∀ i, i < n → passF h s n r i = passF h s n q i := fun i hi => by
  unfold passF
  by_cases hp : i % 2 = s
  · rw [if_pos hp, if_pos hp, hq i hi, hq _ (lo_par hn hp hi).1, hq _ (hi_par hn hp hi).1]
  · rw [if_neg hp, if_neg hp, hq i hi]
theorem pass_inv {h h' : Int → Int → Int} {s n : Nat} {r : Nat → Int} (hn : 2 ≤ n) (hh : ∀ x s, h' (h x s) s = x) : ∀ i, i < n → passF h' s n (passF h s n r) i = r i := fun i hi => by
  by_cases hp : i % 2 = s
  · have e0 : passF h s n r i = h (r i) (r (loI i) + r (hiI n i)) := if_pos hp
    have e1 : passF h s n r (loI i) = r (loI i) := if_neg (lo_par hn hp hi).2
    have e2 : passF h s n r (hiI n i) = r (hiI n i) := if_neg (hi_par hn hp hi).2
    show (if i % 2 = s then _ else _) = _
    rw [if_pos hp, e0, e1, e2, hh]
  · have e0 : passF h s n r i = r i := if_neg hp
    show (if i % 2 = s then _ else _) = _
    rw [if_neg hp, e0]
theorem getD_app {a b : List Int} {i : Nat} (h : i < a.length) : (a ++ b).getD i 0 = a.getD i 0 := by
  rw [List.getD_eq_getElem?_getD, List.getElem?_append_left h, List.getD_eq_getElem?_getD]
theorem getD_app2 {a b : List Int} {i n : Nat} (h : a.length = n) : (a ++ b).getD (n + i) 0 = b.getD i 0 := by
  rw [List.getD_eq_getElem?_getD, List.getElem?_append_right (by omega), List.getD_eq_getElem?_getD, show n + i - a.length = i from by omega]
theorem ranged_getD (f : Nat → Int) {n i : Nat} (h : i < n) : (ranged f n).getD i 0 = f i := by
  rw [List.getD_eq_getElem?_getD, ranged_get _ _ _ h]; rfl
theorem split_low {e n j : Nat} {r : Nat → Int} (h : j < (n + 1 - e) / 2) : (splitL e n r).getD j 0 = lowF e n r (e + 2 * j) := by
  unfold splitL
  rw [getD_app (by rw [ranged_len]; exact h), ranged_getD _ h]
theorem split_high {e n j : Nat} {r : Nat → Int} (h : j < (n + 1 - (1 - e)) / 2) : (splitL e n r).getD ((n + 1 - e) / 2 + j) 0 = lowF e n r (1 - e + 2 * j) := by
  unfold splitL
  rw [getD_app2 (by rw [ranged_len]), ranged_getD _ h]
theorem lay_split {e n : Nat} {r : Nat → Int} (he : e ≤ 1) : ∀ i, i < n → layF e n (splitL e n r) i = lowF e n r i := fun i hi => by
  unfold layF
  by_cases hp : i % 2 = e
  · rw [if_pos hp, split_low (by omega), show e + 2 * (i / 2) = i from by omega]
  · rw [if_neg hp, split_high (by omega), show 1 - e + 2 * (i / 2) = i from by omega]
theorem join_split {e n : Nat} {r : Nat → Int} (he : e ≤ 1) (hn : 2 ≤ n) : ∀ i, i < n → joinF e n (splitL e n r) i = r i := fun i hi => by
  unfold joinF
  have e1 : ∀ i, i < n → passF hV e n (layF e n (splitL e n r)) i = passF hP (1 - e) n r i := fun i hi => by
    rw [pass_congr hn (lay_split he) i hi]
    exact pass_inv hn (fun x s => by unfold hU hV; omega) i hi
  rw [pass_congr hn e1 i hi]
  exact pass_inv hn (fun x s => by unfold hP hQ; omega) i hi
theorem jn_sp {e n : Nat} {l : List Int} (he : e ≤ 1) (hl : l.length = n) : JN e n (SP e n l) = l := by
  unfold JN SP
  by_cases hn : n ≤ 1
  · rw [if_pos hn, if_pos hn]
    by_cases h1 : e = 1
    · rw [if_pos h1, if_pos h1, List.map_map]
      have : ((fun x : Int => x / 2) ∘ fun x => 2 * x) = id := by funext x; simp
      rw [this, List.map_id]
    · rw [if_neg h1, if_neg h1]
  · rw [if_neg hn, if_neg hn, ranged_congr (join_split he (by omega))]
    exact ranged_of l n hl
theorem split_bd {e n : Nat} {r : Nat → Int} (he : e ≤ 1) (hn : 2 ≤ n) (h : ∀ i, i < n → -16777216 ≤ r i ∧ r i ≤ 16777216) : ∀ i, i < n → -1073741824 ≤ lowF e n r i ∧ lowF e n r i ≤ 1073741824 := by
  have b1 := pass_bd (s := 1 - e) (K' := 67108864) hn h (by omega) (h := hP) (fun x a b hx ha hb => by unfold hP; omega)
  exact pass_bd (s := e) hn b1 (by omega) (h := hU) (fun x a b hx ha hb => by unfold hU; omega)
theorem sp_bd {e n : Nat} {l : List Int} (he : e ≤ 1) (hl : l.length = n) (h : ∀ i, -16777216 ≤ l.getD i 0 ∧ l.getD i 0 ≤ 16777216) : ∀ i, -1073741824 ≤ (SP e n l).getD i 0 ∧ (SP e n l).getD i 0 ≤ 1073741824 := by
  intro i
  unfold SP
  by_cases hn : n ≤ 1
  · rw [if_pos hn]
    by_cases h1 : e = 1
    · rw [if_pos h1, List.getD_eq_getElem?_getD, List.getElem?_map]
      have := h i
      rw [List.getD_eq_getElem?_getD] at this
      cases hx : l[i]? with
      | none => simp
      | some x => rw [hx] at this; simp at this ⊢; omega
    · rw [if_neg h1]; have := h i; omega
  · rw [if_neg hn]
    have b := split_bd (e := e) (n := n) (r := fun i => l.getD i 0) he (by omega) (fun i _ => h i)
    rcases Nat.lt_or_ge i n with hi | hi
    · rcases Nat.lt_or_ge i ((n + 1 - e) / 2) with h1 | h1
      · rw [split_low h1]; exact b _ (by omega)
      · obtain ⟨j, rfl⟩ : ∃ j, i = (n + 1 - e) / 2 + j := ⟨i - (n + 1 - e) / 2, by omega⟩
        rw [split_high (by omega)]; exact b _ (by omega)
    · rw [List.getD_eq_getElem?_getD, List.getElem?_eq_none (by rw [split_len _ he]; exact hi)]; simp
theorem sp_len {e n : Nat} {l : List Int} (he : e ≤ 1) (hl : l.length = n) : (SP e n l).length = n := by
  unfold SP
  by_cases hn : n ≤ 1
  · rw [if_pos hn]; split <;> simp [hl]
  · rw [if_neg hn, split_len _ he]
theorem row_bd (l : List Int) : ∀ i, -16777216 ≤ (rowF l).getD i 0 ∧ (rowF l).getD i 0 ≤ 16777216 := fun i => by
  rw [List.getD_eq_getElem?_getD]
  rcases Nat.lt_or_ge i (rowF l).length with hi | hi
  · rw [List.getElem?_eq_getElem hi]
    have := rowF_rng _ (List.getElem_mem hi)
    simp only [Option.getD_some]
    omega
  · rw [List.getElem?_eq_none hi]; simp

theorem rowI_arr {w : World} {b : Nat} {l : List Int} (hl : l.length ≤ 1000) (hb : b < w.heap.size) (h : ∀ i u, l[i]? = some u → w.cell? ⟨b, i, none⟩ = some (.int .i64 u)) : RowI w (some ⟨b, 0, none⟩) l.length l.length l := by
  refine ⟨rfl, Nat.le_refl _, by unfold maxLen; omega, by simp, ?_⟩
  intro i u hu
  rw [List.getElem?_map] at hu
  cases hx : l[i]? with
  | none => rw [hx] at hu; simp at hu
  | some x =>
    rw [hx] at hu; simp at hu; subst hu
    exact ⟨b, 0, rfl, hb, by rw [Nat.zero_add]; exact h i x hx⟩
theorem rowI_new (w : World) (l : List Int) (hl : l.length ≤ 1000) : RowI (w.alloc (Obj.cells (l.map (Value.int .i64)).toArray 3)) (some ⟨w.heap.size, 0, none⟩) l.length l.length l :=
  rowI_arr hl (by simp) fun i u hu => by rw [World.cell?_alloc_new, List.getElem?_toArray, List.getElem?_map, hu]; rfl

end Go.Proofs.Ytgadebfelomhpaa
