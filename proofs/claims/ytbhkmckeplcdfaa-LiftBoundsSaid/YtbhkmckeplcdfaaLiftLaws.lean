/- known of chapter 9's laws; LiftBack, LiftShifts, LiftOne, LiftTwo, walked. -/
import Derived.Test.YtbhkmckeplcdfaaLiftSmall
set_option linter.unusedVariables false
namespace Go.Proofs.Ytbhkmckeplcdfaa
open Go.RowKit

def SP (e n : Nat) (l : List Int) : List Int := if n ≤ 1 then (if e = 1 then l.map (2 * ·) else l) else splitL e n fun i => l.getD i 0
def JN (e n : Nat) (l : List Int) : List Int := if n ≤ 1 then (if e = 1 then l.map (· / 2) else l) else ranged (joinF e n l) n
theorem split_all {A : Option Addr} {n c : Nat} {l : List Int} {w : World} (a : Int) (e : Nat) (h : RowI w A n c l) (ha : 0 ≤ a) (he : a % 2 = e) (hn2 : n ≤ 1000) (hr : ∀ i, -1073741824 ≤ l.getD i 0 ∧ l.getD i 0 ≤ 1073741824) :
    Calls Try.prog 17 #[.int .i64 a, .slice A n c] w fun r w' => ∃ A' c', r = .returned (.slice A' n c') ∧ RowI w' A' n c' (SP e n l) ∧ Below w.heap.size w w' := by
  by_cases hn : n ≤ 1
  · rw [show SP e n l = _ from if_pos hn]; exact split_small a e h ha he hn hr
  · rw [show SP e n l = _ from if_neg hn]; exact split_any a e h ha he (by omega) hn2 (fun i _ => hr i)
theorem join_all {A : Option Addr} {n c : Nat} {l : List Int} {w : World} (a : Int) (e : Nat) (h : RowI w A n c l) (ha : 0 ≤ a) (he : a % 2 = e) (hn2 : n ≤ 1000) (hr : ∀ i, -1073741824 ≤ l.getD i 0 ∧ l.getD i 0 ≤ 1073741824) :
    Calls Try.prog 16 #[.int .i64 a, .slice A n c] w fun r w' => ∃ A' c', r = .returned (.slice A' n c') ∧ RowI w' A' n c' (JN e n l) ∧ Below w.heap.size w w' := by
  by_cases hn : n ≤ 1
  · rw [show JN e n l = _ from if_pos hn]; exact join_small a e h ha he hn hr
  · rw [show JN e n l = _ from if_neg hn]; exact join_any a e h ha he (by omega) hn2 (fun i => by have := hr i; omega)

theorem pass_congr {h : Int → Int → Int} {s n : Nat} {r q : Nat → Int} (hn : 2 ≤ n) (hq : ∀ i, i < n → r i = q i) : ∀ i, i < n → passF h s n r i = passF h s n q i := fun i hi => by
  unfold passF
  by_cases hp : i % 2 = s
  · rw [if_pos hp, if_pos hp, hq i hi, hq _ (lo_par hn hp hi).1, hq _ (hi_par hn hp hi).1]
  · rw [if_neg hp, if_neg hp, hq i hi]
theorem pass_inv {h h' : Int → Int → Int} {s n : Nat} {r : Nat → Int} (hn : 2 ≤ n) (hh : ∀ x s, h' (h x s) s = x) : ∀ i, i < n → passF h' s n (passF h s n r) i = r i := fun i hi => by
  by_cases hp : i % 2 = s
  · have e0 : passF h s n r i = h (r i) (r (loI i) + r (hiI n i)) := if_pos hp
    have e1 : passF h s n r (loI i) = r (loI i) := if_neg (lo_par hn hp hi).2
    have e2 : passF h s n r (hiI n i) = r (hiI n i) := if_neg (hi_par hn hp hi).2
    show (if i % 2 = s then _ else _) = _
    rw [if_pos hp, e0, e1, e2, hh]
  · have e0 : passF h s n r i = r i := if_neg hp
    show (if i % 2 = s then _ else _) = _
    rw [if_neg hp, e0]
theorem getD_app {a b : List Int} {i : Nat} (h : i < a.length) : (a ++ b).getD i 0 = a.getD i 0 := by
  rw [List.getD_eq_getElem?_getD, List.getElem?_append_left h, List.getD_eq_getElem?_getD]
theorem getD_app2 {a b : List Int} {i n : Nat} (h : a.length = n) : (a ++ b).getD (n + i) 0 = b.getD i 0 := by
  rw [List.getD_eq_getElem?_getD, List.getElem?_append_right (by omega), List.getD_eq_getElem?_getD, show n + i - a.length = i from by omega]
theorem ranged_getD (f : Nat → Int) {n i : Nat} (h : i < n) : (ranged f n).getD i 0 = f i := by
  rw [List.getD_eq_getElem?_getD, ranged_get _ _ _ h]; rfl
theorem split_low {e n j : Nat} {r : Nat → Int} (h : j < (n + 1 - e) / 2) : (splitL e n r).getD j 0 = lowF e n r (e + 2 * j) := by
  unfold splitL
  rw [getD_app (by rw [ranged_len]; exact h), ranged_getD _ h]
theorem split_high {e n j : Nat} {r : Nat → Int} (h : j < (n + 1 - (1 - e)) / 2) : (splitL e n r).getD ((n + 1 - e) / 2 + j) 0 = lowF e n r (1 - e + 2 * j) := by
  unfold splitL
  rw [getD_app2 (by rw [ranged_len]), ranged_getD _ h]
theorem lay_split {e n : Nat} {r : Nat → Int} (he : e ≤ 1) : ∀ i, i < n → layF e n (splitL e n r) i = lowF e n r i := fun i hi => by
  unfold layF
  by_cases hp : i % 2 = e
  · rw [if_pos hp, split_low (by omega), show e + 2 * (i / 2) = i from by omega]
  · rw [if_neg hp, split_high (by omega), show 1 - e + 2 * (i / 2) = i from by omega]
theorem join_split {e n : Nat} {r : Nat → Int} (he : e ≤ 1) (hn : 2 ≤ n) : ∀ i, i < n → joinF e n (splitL e n r) i = r i := fun i hi => by
  unfold joinF
  have e1 : ∀ i, i < n → passF hV e n (layF e n (splitL e n r)) i = passF hP (1 - e) n r i := fun i hi => by
    rw [pass_congr hn (lay_split he) i hi]
    exact pass_inv hn (fun x s => by unfold hU hV; omega) i hi
  rw [pass_congr hn e1 i hi]
  exact pass_inv hn (fun x s => by unfold hP hQ; omega) i hi
theorem jn_sp {e n : Nat} {l : List Int} (he : e ≤ 1) (hl : l.length = n) : JN e n (SP e n l) = l := by
  unfold JN SP
  by_cases hn : n ≤ 1
  · rw [if_pos hn, if_pos hn]
    by_cases h1 : e = 1
    · rw [if_pos h1, if_pos h1, List.map_map]
      have : ((fun x : Int => x / 2) ∘ fun x => 2 * x) = id := by funext x; simp
      rw [this, List.map_id]
    · rw [if_neg h1, if_neg h1]
  · rw [if_neg hn, if_neg hn, ranged_congr (join_split he (by omega))]
    exact ranged_of l n hl
theorem split_bd {e n : Nat} {r : Nat → Int} (he : e ≤ 1) (hn : 2 ≤ n) (h : ∀ i, i < n → -16777216 ≤ r i ∧ r i ≤ 16777216) : ∀ i, i < n → -1073741824 ≤ lowF e n r i ∧ lowF e n r i ≤ 1073741824 := by
  have b1 := pass_bd (s := 1 - e) (K' := 67108864) hn h (by omega) (h := hP) (fun x a b hx ha hb => by unfold hP; omega)
  exact pass_bd (s := e) hn b1 (by omega) (h := hU) (fun x a b hx ha hb => by unfold hU; omega)
theorem sp_bd {e n : Nat} {l : List Int} (he : e ≤ 1) (hl : l.length = n) (h : ∀ i, -16777216 ≤ l.getD i 0 ∧ l.getD i 0 ≤ 16777216) : ∀ i, -1073741824 ≤ (SP e n l).getD i 0 ∧ (SP e n l).getD i 0 ≤ 1073741824 := by
  intro i
  unfold SP
  by_cases hn : n ≤ 1
  · rw [if_pos hn]
    by_cases h1 : e = 1
    · rw [if_pos h1, List.getD_eq_getElem?_getD, List.getElem?_map]
      have := h i
      rw [List.getD_eq_getElem?_getD] at this
      cases hx : l[i]? with
      | none => simp
      | some x => rw [hx] at this; simp at this ⊢; omega
    · rw [if_neg h1]; have := h i; omega
  · rw [if_neg hn]
    have b := split_bd (e := e) (n := n) (r := fun i => l.getD i 0) he (by omega) (fun i _ => h i)
    rcases Nat.lt_or_ge i n with hi | hi
    · rcases Nat.lt_or_ge i ((n + 1 - e) / 2) with h1 | h1
      · rw [split_low h1]; exact b _ (by omega)
      · obtain ⟨j, rfl⟩ : ∃ j, i = (n + 1 - e) / 2 + j := ⟨i - (n + 1 - e) / 2, by omega⟩
        rw [split_high (by omega)]; exact b _ (by omega)
    · rw [List.getD_eq_getElem?_getD, List.getElem?_eq_none (by rw [split_len _ he]; exact hi)]; simp
theorem sp_len {e n : Nat} {l : List Int} (he : e ≤ 1) (hl : l.length = n) : (SP e n l).length = n := by
  unfold SP
  by_cases hn : n ≤ 1
  · rw [if_pos hn]; split <;> simp [hl]
  · rw [if_neg hn, split_len _ he]
theorem row_bd (l : List Int) : ∀ i, -16777216 ≤ (rowF l).getD i 0 ∧ (rowF l).getD i 0 ≤ 16777216 := fun i => by
  rw [List.getD_eq_getElem?_getD]
  rcases Nat.lt_or_ge i (rowF l).length with hi | hi
  · rw [List.getElem?_eq_getElem hi]
    have := rowF_rng _ (List.getElem_mem hi)
    simp only [Option.getD_some]
    omega
  · rw [List.getElem?_eq_none hi]; simp

theorem rowI_arr {w : World} {b : Nat} {l : List Int} (hl : l.length ≤ 1000) (hb : b < w.heap.size) (h : ∀ i u, l[i]? = some u → w.cell? ⟨b, i, none⟩ = some (.int .i64 u)) : RowI w (some ⟨b, 0, none⟩) l.length l.length l := by
  refine ⟨rfl, Nat.le_refl _, by unfold maxLen; omega, by simp, ?_⟩
  intro i u hu
  rw [List.getElem?_map] at hu
  cases hx : l[i]? with
  | none => rw [hx] at hu; simp at hu
  | some x =>
    rw [hx] at hu; simp at hu; subst hu
    exact ⟨b, 0, rfl, hb, by rw [Nat.zero_add]; exact h i x hx⟩
theorem rowI_new (w : World) (l : List Int) (hl : l.length ≤ 1000) : RowI (w.alloc (Obj.cells (l.map (Value.int .i64)).toArray 3)) (some ⟨w.heap.size, 0, none⟩) l.length l.length l :=
  rowI_arr hl (by simp) fun i u hu => by rw [World.cell?_alloc_new, List.getElem?_toArray, List.getElem?_map, hu]; rfl

set_option maxHeartbeats 2000000 in
theorem known9 (w : World) : Calls Try.prog 12 #[] w fun e w' => e = .returned (.bool true) ∧ Below w.heap.size w w' := by
  go_enter Try.func12, Try.ntmps12
  go_wp2_with fail
  have hb0 : Below w.heap.size w (w.alloc (Obj.cells (([5, 5, 5] : List Int).map (Value.int .i64)).toArray 3)) := (Below.refl _ _).alloc (Nat.le_refl _) _
  refine (split_all 0 0 (show RowI (w.alloc (Obj.cells (([5, 5, 5] : List Int).map (Value.int .i64)).toArray 3)) (some ⟨w.heap.size, 0, none⟩) 3 3 [5, 5, 5] from rowI_new w [5, 5, 5] (by decide)) (by omega) (by omega) (by decide) (fun i => by rcases i with _ | _ | _ | i <;> simp)).mono ?_
  rintro e w1 ⟨A1, c1, rfl, h1, d1⟩
  rw [show SP 0 3 [5, 5, 5] = [5, 5, 0] from by decide] at h1
  obtain ⟨b1, o1, rfl, q1, r1⟩ := h1.cell (k := 0) (by decide)
  obtain ⟨b2, o2, hA, q2, r2⟩ := h1.cell (k := 1) (by decide)
  obtain ⟨b3, o3, hA3, q3, r3⟩ := h1.cell (k := 2) (by decide)
  injection hA with hA
  injection hA with hA1 hA2
  injection hA3 with hA3
  injection hA3 with hA31 hA32
  subst hA1 hA2 hA31 hA32
  change w1.cell? ⟨b1, o1, none⟩ = some (.int .i64 5) at r1
  change w1.cell? ⟨b1, o1 + 1, none⟩ = some (.int .i64 5) at r2
  change w1.cell? ⟨b1, o1 + 2, none⟩ = some (.int .i64 0) at r3
  have hb1 := hb0.trans (d1.mono hb0.size)
  clear hb0 d1 h1
  go_wp2
  go_ret
  exact ⟨rfl, hb1⟩

set_option maxHeartbeats 2000000 in
theorem walk_liftBack (a0 : Int) (a1 : Option Addr) (len1 cap1 : Nat) (z1 : List Int) (w : World) (w0 : (Lit.int .i64 a0).wf = true) (w1 : IsRow .i64 w a1 len1 cap1 z1) :
    Calls Try.prog 3 #[.int .i64 a0, .slice a1 len1 cap1] w fun e w' => e = .returned (.bool true) ∧ Below w.heap.size w w' := by
  have H1 := Lib.hid (rowI_is w1)
  clear w0 w1
  go_enter Try.func3, Try.ntmps3
  go_wp2_with fail
  refine (known9 _).mono ?_
  rintro e w1 ⟨rfl, b1⟩
  go_wp2_with fail
  refine (within9 _ _ _ (by omega) (by omega)).mono ?_
  rintro e w' ⟨rfl, rfl⟩
  have ha : 0 ≤ a0 % 1048576 := by omega
  generalize a0 % 1048576 = a at *
  obtain ⟨e0, he⟩ : ∃ e0 : Nat, a % 2 = e0 := ⟨(a % 2).toNat, by omega⟩
  have he1 : e0 ≤ 1 := by omega
  go_wp2_with fail
  refine (row9 (H1.out.keep b1 (Nat.le_refl _))).mono ?_
  rintro e w2 ⟨A, c, rfl, h, b2⟩
  have b2 := b1.trans (b2.mono b1.size)
  have hn : min 60 len1 ≤ 1000 := by omega
  have hbd := row_bd (z1.take len1)
  generalize min 60 len1 = n at *
  generalize rowF (z1.take len1) = l at *
  clear b1 H1
  have HR := Lib.hid hbd
  clear hbd
  go_wp2_with fail
  refine (split_all a e0 h ha he hn (fun i => by have := HR.out i; omega)).mono ?_
  rintro e w3 ⟨A3, c3, rfl, h3, b3⟩
  have h := h.keep b3 (Nat.le_refl _)
  have b3 := b2.trans (b3.mono b2.size)
  clear b2
  go_wp2_with fail
  refine (join_all a e0 h3 ha he hn (sp_bd he1 h.1 HR.out)).mono ?_
  rintro e w4 ⟨A4, c4, rfl, h4, b4⟩
  have h := h.keep b4 (Nat.le_refl _)
  have b4 := b3.trans (b4.mono b3.size)
  rw [jn_sp he1 h.1] at h4
  clear b3 h3
  go_wp2_with fail
  refine (ints_yes h4 h).mono ?_
  rintro e w5 ⟨rfl, d5⟩
  have b5 := Drew.to b4 d5
  go_wp2
  go_ret
  exact ⟨rfl, b5⟩

set_option maxHeartbeats 2000000 in
theorem walk_liftShifts (a0 : Int) (a1 : Option Addr) (len1 cap1 : Nat) (z1 : List Int) (a2 : Int) (w : World) (w0 : (Lit.int .i64 a0).wf = true) (w1 : IsRow .i64 w a1 len1 cap1 z1) (w2 : (Lit.int .i64 a2).wf = true) :
    Calls Try.prog 5 #[.int .i64 a0, .slice a1 len1 cap1, .int .i64 a2] w fun e w' => e = .returned (.bool true) ∧ Below w.heap.size w w' := by
  have H1 := Lib.hid (rowI_is w1)
  clear w0 w1 w2
  go_enter Try.func5, Try.ntmps5
  go_wp2_with fail
  refine (known9 _).mono ?_
  rintro e w1 ⟨rfl, b1⟩
  go_wp2_with fail
  refine (within9 _ _ _ (by omega) (by omega)).mono ?_
  rintro e w' ⟨rfl, rfl⟩
  have ha : 0 ≤ a0 % 1000 ∧ a0 % 1000 < 1000 := by omega
  generalize a0 % 1000 = a at *
  go_wp2_with fail
  refine (within9 _ _ _ (by omega) (by omega)).mono ?_
  rintro e w' ⟨rfl, rfl⟩
  have hk : 0 ≤ a2 % 500 ∧ a2 % 500 < 500 := by omega
  generalize a2 % 500 = k at *
  obtain ⟨e0, he⟩ : ∃ e0 : Nat, a % 2 = e0 := ⟨(a % 2).toNat, by omega⟩
  have he1 : e0 ≤ 1 := by omega
  go_wp2_with fail
  refine (row9 (H1.out.keep b1 (Nat.le_refl _))).mono ?_
  rintro e w2 ⟨A, c, rfl, h, b2⟩
  have b2 := b1.trans (b2.mono b1.size)
  have hn : min 60 len1 ≤ 1000 := by omega
  have hbd := row_bd (z1.take len1)
  generalize min 60 len1 = n at *
  generalize rowF (z1.take len1) = l at *
  clear b1 H1
  have HR := Lib.hid hbd
  clear hbd
  go_wp2_with fail
  refine (split_all a e0 h ha.1 he hn (fun i => by have := HR.out i; omega)).mono ?_
  rintro e w3 ⟨A3, c3, rfl, h3, b3⟩
  have h := h.keep b3 (Nat.le_refl _)
  have b3 := b2.trans (b3.mono b2.size)
  clear b2
  go_wp2_with fail
  refine (split_all _ e0 h (by omega) (by omega) hn (fun i => by have := HR.out i; omega)).mono ?_
  rintro e w4 ⟨A4, c4, rfl, h4, b4⟩
  have h := h.keep b4 (Nat.le_refl _)
  have h3 := h3.keep b4 (Nat.le_refl _)
  have b4 := b3.trans (b4.mono b3.size)
  clear b3
  go_wp2_with fail
  refine (ints_yes h3 h4).mono ?_
  rintro e w5 ⟨rfl, d5⟩
  have h := h.drew d5
  have b5 := Drew.to b4 d5
  clear h3 h4 b4
  go_wp2_with fail
  refine (join_all a e0 h ha.1 he hn (fun i => by have := HR.out i; omega)).mono ?_
  rintro e w6 ⟨A6, c6, rfl, h6, b6⟩
  have h := h.keep b6 (Nat.le_refl _)
  have b6 := b5.trans (b6.mono b5.size)
  clear b5
  go_wp2_with fail
  refine (join_all _ e0 h (by omega) (by omega) hn (fun i => by have := HR.out i; omega)).mono ?_
  rintro e w7 ⟨A7, c7, rfl, h7, b7⟩
  have h6 := h6.keep b7 (Nat.le_refl _)
  have b7 := b6.trans (b7.mono b6.size)
  clear b6
  go_wp2_with fail
  refine (ints_yes h6 h7).mono ?_
  rintro e w8 ⟨rfl, d8⟩
  have b8 := Drew.to b7 d8
  go_wp2
  go_ret
  exact ⟨rfl, b8⟩

set_option maxHeartbeats 2000000 in
theorem walk_liftOne (a0 : Int) (a1 : Int) (w : World) (w0 : (Lit.int .i64 a0).wf = true) (w1 : (Lit.int .i64 a1).wf = true) :
    Calls Try.prog 11 #[.int .i64 a0, .int .i64 a1] w fun e w' => e = .returned (.bool true) ∧ Below w.heap.size w w' := by
  clear w0 w1
  go_enter Try.func11, Try.ntmps11
  go_wp2_with fail
  refine (known9 _).mono ?_
  rintro e w1 ⟨rfl, b1⟩
  go_wp2_with fail
  refine (within9 _ _ _ (by omega) (by omega)).mono ?_
  rintro e w' ⟨rfl, rfl⟩
  have ha : 0 ≤ a0 % 1048576 := by omega
  have ha2 : a0 % 1048576 < 1048576 := by omega
  generalize a0 % 1048576 = a at *
  obtain ⟨e0, he⟩ : ∃ e0 : Nat, a % 2 = e0 := ⟨(a % 2).toNat, by omega⟩
  have he1 : e0 ≤ 1 := by omega
  go_wp2_with fail
  refine (within9 _ _ _ (by omega) (by omega)).mono ?_
  rintro e w' ⟨rfl, rfl⟩
  have hx : 0 ≤ a1 % 1048576 ∧ a1 % 1048576 < 1048576 := by omega
  generalize a1 % 1048576 = x0 at *
  obtain ⟨x, hxx⟩ : ∃ x, x0 - 524288 = x := ⟨_, rfl⟩
  have hr : ∀ i, -1073741824 ≤ ([x] : List Int).getD i 0 ∧ ([x] : List Int).getD i 0 ≤ 1073741824 := fun i => by rcases i with _ | i <;> simp <;> omega
  have HR := Lib.hid hr
  clear hr
  go_wp2_with fail
  have hb1 : Below w1.heap.size w1 (w1.alloc (Obj.cells (([x] : List Int).map (Value.int .i64)).toArray 3)) := (Below.refl _ _).alloc (Nat.le_refl _) _
  refine (split_all a e0 (show RowI (w1.alloc (Obj.cells (([x] : List Int).map (Value.int .i64)).toArray 3)) (some ⟨w1.heap.size, 0, none⟩) 1 1 [x] from rowI_new w1 [x] (by simp)) ha he (by omega) HR.out).mono ?_
  rintro e w3 ⟨A3, c3, rfl, h3, b3⟩
  have b3 := b1.trans ((hb1.trans (b3.mono hb1.size)).mono b1.size)
  clear b1 hb1
  go_wp2_with fail
  have hb1 : Below w3.heap.size w3 (w3.alloc (Obj.cells (([x] : List Int).map (Value.int .i64)).toArray 3)) := (Below.refl _ _).alloc (Nat.le_refl _) _
  refine (join_all a e0 (show RowI (w3.alloc (Obj.cells (([x] : List Int).map (Value.int .i64)).toArray 3)) (some ⟨w3.heap.size, 0, none⟩) 1 1 [x] from rowI_new w3 [x] (by simp)) ha he (by omega) HR.out).mono ?_
  rintro e w4 ⟨A4, c4, rfl, h4, b4⟩
  have hb4 := hb1.trans (b4.mono hb1.size)
  have h3 := h3.keep hb4 (Nat.le_refl _)
  have b4 := b3.trans (hb4.mono b3.size)
  clear b3 hb1 hb4
  rcases Nat.lt_or_ge e0 1 with h0 | h0
  · obtain rfl : e0 = 0 := by omega
    have ht : a.tmod 2 = 0 := by rw [Int.tmod_eq_emod_of_nonneg ha]; omega
    obtain ⟨p3, o3, rfl, _, f3⟩ := h3.cell (k := 0) (by omega)
    obtain ⟨p4, o4, rfl, _, f4⟩ := h4.cell (k := 0) (by omega)
    change w4.cell? ⟨p3, o3, none⟩ = some (.int .i64 x) at f3
    change w4.cell? ⟨p4, o4, none⟩ = some (.int .i64 x) at f4
    have hbx : (x == x) = true := beq_self_eq_true _
    clear h3 h4
    go_wp2
    go_ret
    exact ⟨rfl, b4⟩
  · obtain rfl : e0 = 1 := by omega
    have ht : (a.tmod 2 == 0) = false := by rw [Int.tmod_eq_emod_of_nonneg ha, he]; rfl
    have h3' := h3
    obtain ⟨p3, o3, rfl, _, f3⟩ := h3.cell (k := 0) (by omega)
    obtain ⟨p4, o4, rfl, _, f4⟩ := h4.cell (k := 0) (by omega)
    change w4.cell? ⟨p3, o3, none⟩ = some (.int .i64 (2 * x)) at f3
    change w4.cell? ⟨p4, o4, none⟩ = some (.int .i64 (x / 2)) at f4
    have hx2 : -524288 ≤ x ∧ x ≤ 524288 := by omega
    have H3 := Lib.hid h3'
    clear h3 h4 h3' hxx
    have hb1 : (2 * x == 2 * x) = true := beq_self_eq_true _
    have hb2 : (x / 2 == x / 2) = true := beq_self_eq_true _
    have hb3 : (x == x) = true := beq_self_eq_true _
    go_wp2_with fail
    refine (join_all a 1 H3.out ha he (by omega) (fun i => by
      rcases i with _ | i
      · show -1073741824 ≤ 2 * x ∧ 2 * x ≤ 1073741824
        omega
      · show -1073741824 ≤ ([] : List Int).getD i 0 ∧ ([] : List Int).getD i 0 ≤ 1073741824
        simp)).mono ?_
    rintro e w5 ⟨A5, c5, rfl, h5, b5⟩
    rw [show JN 1 1 (SP 1 1 [x]) = [x] from jn_sp (by omega) rfl] at h5
    obtain ⟨p5, o5, rfl, _, f5⟩ := h5.cell (k := 0) (by omega)
    change w5.cell? ⟨p5, o5, none⟩ = some (.int .i64 x) at f5
    have b5 := b4.trans (b5.mono b4.size)
    clear h5 H3 b4
    go_wp2
    go_ret
    exact ⟨rfl, b5⟩
end Go.Proofs.Ytbhkmckeplcdfaa
