/- Trees: Decode follows Encode; what Set keeps. -/
import Derived.Test.YthgbnkcbcepjdaaTrDc
set_option linter.unusedVariables false
set_option linter.unusedSimpArgs false
namespace Go.Proofs.Ythgbnkcbcepjdaa
open Go.RowKit
theorem loopE_pre (b : Int) : ∀ (F : Nat) (bs : List Int) (nd : Nd), ∃ e, (loopN estepB b F (bs, nd)).1 = bs ++ e := by
  intro F
  induction F with
  | zero => intro bs nd; exact ⟨[], by simp [loopN]⟩
  | succ F ih =>
    intro bs nd
    by_cases hc : nd.low < b ∧ nd.said = false
    · rw [loopN_go (x := (bs, nd)) hc]
      obtain ⟨e, he⟩ := ih (nxt estepB (bs, nd)).1 (nxt estepB (bs, nd)).2
      exact ⟨(if nd.low < nd.num then 0 else 1) :: e, by rw [show nxt estepB (bs, nd) = ((nxt estepB (bs, nd)).1, (nxt estepB (bs, nd)).2) from rfl, he]; simp [nxt, estepB]⟩
    · exact ⟨[], by rw [loopN_stop (x := (bs, nd)) hc]; simp⟩
theorem walkE_pre (b : Int) (F W0 x y : Nat) : ∀ (j : Nat) (bs : List Int) (T : TT) (lo : Int), ∃ e, (walkT estepB b F W0 x y j (bs, T, lo)).1 = bs ++ e := by
  intro j
  induction j with
  | zero => intro bs T lo; exact ⟨[], by simp [walkT]⟩
  | succ j ih =>
    intro bs T lo
    rw [walkT]
    obtain ⟨e1, h1⟩ := loopE_pre b F bs ⟨(T j (y / 2 ^ j * dimF W0 j + x / 2 ^ j)).num, maxI (T j (y / 2 ^ j * dimF W0 j + x / 2 ^ j)).low lo, (T j (y / 2 ^ j * dimF W0 j + x / 2 ^ j)).said⟩
    simp only
    rw [h1]
    obtain ⟨e2, h2⟩ := ih (bs ++ e1) _ _
    exact ⟨e1 ++ e2, by rw [h2]; simp⟩
theorem not_cut {a t : List Int} : endE (bytesF (wrun (a ++ t)).1) (bat a) ≠ 8 := by
  have hF := bytesF_ok (wrun_ok (a ++ t))
  have hl : (wrun a).1.length ≤ (wrun (a ++ t)).1.length := by
    rcases a with _ | ⟨x, a⟩
    · simp [wrun]
    · exact (ext_app (a := x :: a) (by simp) t).len
  have hlF : (wrun (a ++ t)).1.length ≤ (bytesF (wrun (a ++ t)).1).length := by
    unfold bytesF; split <;> simp
  generalize bytesF (wrun (a ++ t)).1 = F at *
  have hn : ¬ F.length < endN F (bat a) := by
    unfold endN bat
    simp only
    split
    · rename_i h255
      intro hlt
      have hne : 0 < (wrun a).1.length := by
        rcases Nat.eq_zero_or_pos (wrun a).1.length with h | h
        · rw [h] at h255; simp [curF] at h255
        · exact h
      rw [curF_pos _ hne] at h255
      exact hF.2.1 ((wrun a).1.length - 1) (by omega) h255
    · omega
  unfold endE
  rw [if_neg hn]
  split <;> omega
theorem sim_loop {bs F : List Int} (hF : F = bytesF (wrun bs).1) (b : Int) : ∀ (fuel : Nat) (a : List Int) (num low un : Int) (said : Bool), low ≤ num → (said = true → un = num) → (∃ t, bs = (loopN estepB b fuel (a, ⟨num, low, said⟩)).1 ++ t) →
    (loopN (dstep F b) b fuel (bat a, ⟨un, low, said⟩)).1 = bat (loopN estepB b fuel (a, ⟨num, low, said⟩)).1 ∧ (loopN (dstep F b) b fuel (bat a, ⟨un, low, said⟩)).2.low = (loopN estepB b fuel (a, ⟨num, low, said⟩)).2.low ∧
    (loopN (dstep F b) b fuel (bat a, ⟨un, low, said⟩)).2.said = (loopN estepB b fuel (a, ⟨num, low, said⟩)).2.said ∧ (loopN estepB b fuel (a, ⟨num, low, said⟩)).2.num = num ∧
    ((loopN estepB b fuel (a, ⟨num, low, said⟩)).2.said = true → (loopN (dstep F b) b fuel (bat a, ⟨un, low, said⟩)).2.num = num) ∧ (loopN estepB b fuel (a, ⟨num, low, said⟩)).2.low ≤ num ∧ low ≤ (loopN estepB b fuel (a, ⟨num, low, said⟩)).2.low := by
  intro fuel
  induction fuel with
  | zero => intro a num low un said h1 h2 h3; exact ⟨rfl, rfl, rfl, rfl, h2, h1, Int.le_refl _⟩
  | succ fuel ih =>
    intro a num low un said h1 h2 h3
    by_cases hc : low < b ∧ said = false
    · have hce : loopN estepB b (fuel + 1) (a, ⟨num, low, said⟩) = loopN estepB b fuel (nxt estepB (a, ⟨num, low, said⟩)) := loopN_go (x := (a, ⟨num, low, said⟩)) hc fuel
      have hcd : loopN (dstep F b) b (fuel + 1) (bat a, ⟨un, low, said⟩) = loopN (dstep F b) b fuel (nxt (dstep F b) (bat a, ⟨un, low, said⟩)) := loopN_go (x := (bat a, ⟨un, low, said⟩)) hc fuel
      rw [hce] at h3 ⊢
      rw [hcd]
      obtain ⟨hlb, rfl⟩ := hc
      obtain ⟨t, ht⟩ := h3
      by_cases hn : low < num
      · have hx : nxt estepB (a, ⟨num, low, false⟩) = (a ++ [0], ⟨num, low + 1, false⟩) := by
          unfold nxt estepB
          rw [show decide (num ≤ low) = false by simp; omega]
          simp [hn]
        rw [hx] at ht ⊢
        obtain ⟨e, he⟩ := loopE_pre b fuel (a ++ [0]) ⟨num, low + 1, false⟩
        have hbs : bs = a ++ 0 :: (e ++ t) := by rw [ht, he]; simp
        have hr := read_bit (a := a) (b := 0) (t := e ++ t)
        rw [← hbs, ← hF] at hr
        have hnc := not_cut (a := a ++ [0]) (t := e ++ t)
        rw [show a ++ [0] ++ (e ++ t) = bs by rw [hbs]; simp, ← hF] at hnc
        have hy : nxt (dstep F b) (bat a, ⟨un, low, false⟩) = (bat (a ++ [0]), ⟨un, low + 1, false⟩) := by
          unfold nxt dstep
          rw [hr.1, hr.2]
          simp [hnc]
        rw [hy]
        obtain ⟨i1, i2, i3, i4, i5, i6, i7⟩ := ih (a ++ [0]) num (low + 1) un false (by omega) (by simp) ⟨t, ht⟩
        exact ⟨i1, i2, i3, i4, i5, i6, by omega⟩
      · have hx : nxt estepB (a, ⟨num, low, false⟩) = (a ++ [1], ⟨num, low, true⟩) := by
          unfold nxt estepB
          rw [show decide (num ≤ low) = true by simp; omega]
          simp [hn]
        rw [hx] at ht ⊢
        obtain ⟨e, he⟩ := loopE_pre b fuel (a ++ [1]) ⟨num, low, true⟩
        have hbs : bs = a ++ 1 :: (e ++ t) := by rw [ht, he]; simp
        have hr := read_bit (a := a) (b := 1) (t := e ++ t)
        rw [← hbs, ← hF] at hr
        have hy : nxt (dstep F b) (bat a, ⟨un, low, false⟩) = (bat (a ++ [1]), ⟨low, low, true⟩) := by
          unfold nxt dstep
          rw [hr.1, hr.2]
          simp
        rw [hy]
        exact ih (a ++ [1]) num low low true h1 (fun _ => by omega) ⟨t, ht⟩
    · rw [loopN_stop (x := (a, ⟨num, low, said⟩)) hc, loopN_stop (x := (bat a, ⟨un, low, said⟩)) hc]
      exact ⟨rfl, rfl, rfl, rfl, h2, h1, Int.le_refl _⟩
/-- Where a node of a level stands on the way to (x, y). -/
def idx (W0 i x y : Nat) : Nat := y / 2 ^ i * dimF W0 i + x / 2 ^ i
def Sim (Tt Tu : TT) : Prop := ∀ i m, (Tu i m).low = (Tt i m).low ∧ (Tu i m).said = (Tt i m).said ∧ ((Tt i m).said = true → (Tu i m).num = (Tt i m).num)
def LowNum (T : TT) : Prop := ∀ i m, 0 ≤ (T i m).low ∧ (T i m).low ≤ (T i m).num
theorem sim_walk {bs F : List Int} (hF : F = bytesF (wrun bs).1) (b : Int) (W0 x y : Nat) : ∀ (j : Nat) (a : List Int) (Tt Tu : TT) (lo : Int), Sim Tt Tu → LowNum Tt → (∀ i, i + 1 < j → (Tt (i + 1) (idx W0 (i + 1) x y)).num ≤ (Tt i (idx W0 i x y)).num) → 0 ≤ lo → (∀ i, i + 1 = j → lo ≤ (Tt i (idx W0 i x y)).num) →
    (∃ t, bs = (walkT estepB b (b.toNat + 2) W0 x y j (a, Tt, lo)).1 ++ t) →
    (walkT (dstep F b) b (b.toNat + 2) W0 x y j (bat a, Tu, lo)).1 = bat (walkT estepB b (b.toNat + 2) W0 x y j (a, Tt, lo)).1 ∧ Sim (walkT estepB b (b.toNat + 2) W0 x y j (a, Tt, lo)).2.1 (walkT (dstep F b) b (b.toNat + 2) W0 x y j (bat a, Tu, lo)).2.1 ∧
    LowNum (walkT estepB b (b.toNat + 2) W0 x y j (a, Tt, lo)).2.1 ∧ (∀ i m, ((walkT estepB b (b.toNat + 2) W0 x y j (a, Tt, lo)).2.1 i m).num = (Tt i m).num) ∧
    (1 ≤ j → ((walkT estepB b (b.toNat + 2) W0 x y j (a, Tt, lo)).2.1 0 (idx W0 0 x y)).said = ((Tt 0 (idx W0 0 x y)).said || decide ((Tt 0 (idx W0 0 x y)).num < b))) := by
  intro j
  induction j with
  | zero => intro a Tt Tu lo h1 h2 h3 h4 h5 h6; exact ⟨rfl, h1, h2, fun _ _ => rfl, fun h => absurd h (by omega)⟩
  | succ j ih =>
    intro a Tt Tu lo h1 h2 h3 h4 h5 h6
    have hlo := h5 j rfl
    have hnd := h2 j (idx W0 j x y)
    obtain ⟨s1, s2, s3⟩ := h1 j (idx W0 j x y)
    rw [walkT] at h6
    rw [walkT, walkT]
    simp only at h6 ⊢
    rw [show y / 2 ^ j * dimF W0 j + x / 2 ^ j = idx W0 j x y from rfl] at h6 ⊢
    rw [s1, s2]
    have hmx : maxI (Tt j (idx W0 j x y)).low lo ≤ (Tt j (idx W0 j x y)).num ∧ 0 ≤ maxI (Tt j (idx W0 j x y)).low lo := by unfold maxI; split <;> omega
    obtain ⟨t, ht⟩ := h6
    obtain ⟨e, he⟩ := walkE_pre b (b.toNat + 2) W0 x y j (loopN estepB b (b.toNat + 2) (a, ⟨(Tt j (idx W0 j x y)).num, maxI (Tt j (idx W0 j x y)).low lo, (Tt j (idx W0 j x y)).said⟩)).1 (Tt.upd j (idx W0 j x y) (loopN estepB b (b.toNat + 2) (a, ⟨(Tt j (idx W0 j x y)).num, maxI (Tt j (idx W0 j x y)).low lo, (Tt j (idx W0 j x y)).said⟩)).2) (loopN estepB b (b.toNat + 2) (a, ⟨(Tt j (idx W0 j x y)).num, maxI (Tt j (idx W0 j x y)).low lo, (Tt j (idx W0 j x y)).said⟩)).2.low
    have hs := sim_loop hF b (b.toNat + 2) a (Tt j (idx W0 j x y)).num (maxI (Tt j (idx W0 j x y)).low lo) (Tu j (idx W0 j x y)).num (Tt j (idx W0 j x y)).said hmx.1 s3 ⟨e ++ t, by rw [ht, he]; simp⟩
    have hsd : (loopN estepB b (b.toNat + 2) (a, ⟨(Tt j (idx W0 j x y)).num, maxI (Tt j (idx W0 j x y)).low lo, (Tt j (idx W0 j x y)).said⟩)).2.said = ((Tt j (idx W0 j x y)).said || decide ((Tt j (idx W0 j x y)).num < b)) := by
      cases hsaid : (Tt j (idx W0 j x y)).said with
      | true => rw [loopE_said]; rfl
      | false =>
        rw [loopE _ _ _ _ _ hmx.1 (by omega)]
        split
        · rename_i h; simp [h]
        · rename_i h; simp [h]
    generalize loopN estepB b (b.toNat + 2) (a, ⟨(Tt j (idx W0 j x y)).num, maxI (Tt j (idx W0 j x y)).low lo, (Tt j (idx W0 j x y)).said⟩) = E at *
    generalize loopN (dstep F b) b (b.toNat + 2) (bat a, ⟨(Tu j (idx W0 j x y)).num, maxI (Tt j (idx W0 j x y)).low lo, (Tt j (idx W0 j x y)).said⟩) = D at *
    obtain ⟨Ea, En⟩ := E
    obtain ⟨Da, Dn⟩ := D
    simp only at hs hsd ht he ⊢
    obtain ⟨i1, i2, i3, i4, i5, i6, i7⟩ := hs
    rw [i1, i2]
    have hnum : ∀ i m, (Tt.upd j (idx W0 j x y) En i m).num = (Tt i m).num := by
      intro i m
      unfold TT.upd
      split
      · rename_i h; rw [h.1, h.2, i4]
      · rfl
    have hsim : Sim (Tt.upd j (idx W0 j x y) En) (Tu.upd j (idx W0 j x y) Dn) := by
      intro i m
      unfold TT.upd
      split
      · exact ⟨i2, i3, fun h => by rw [i5 h, i4]⟩
      · exact h1 i m
    have hln : LowNum (Tt.upd j (idx W0 j x y) En) := by
      intro i m
      unfold TT.upd
      split
      · exact ⟨by omega, by omega⟩
      · exact h2 i m
    obtain ⟨r1, r2, r3, r4, r5⟩ := ih Ea (Tt.upd j (idx W0 j x y) En) (Tu.upd j (idx W0 j x y) Dn) En.low hsim hln (fun i hi => by rw [hnum, hnum]; exact h3 i (by omega)) (by omega) (fun i hi => by
      rw [hnum]
      have := h3 i (by omega)
      rw [hi] at this
      omega) ⟨t, ht⟩
    refine ⟨r1, r2, r3, fun i m => (r4 i m).trans (hnum i m), fun _ => ?_⟩
    rcases Nat.eq_zero_or_pos j with hj | hj
    · subst hj
      show (Tt.upd 0 (idx W0 0 x y) En 0 (idx W0 0 x y)).said = _
      rw [TT.upd_self]
      exact hsd
    · rw [r5 hj, hnum, TT.upd_ne _ _ _ _ (by omega)]
/-- What holds of a tree that was only set. -/
def SetOk (W0 H0 d : Nat) (T : TT) : Prop := (∀ i m, (T i m).low = 0 ∧ (T i m).said = false ∧ 0 ≤ (T i m).num) ∧ ∀ x y, x < W0 → y < H0 → ∀ i, i + 1 < d → (T (i + 1) (idx W0 (i + 1) x y)).num ≤ (T i (idx W0 i x y)).num
theorem SetOk.zero (W0 H0 d : Nat) : SetOk W0 H0 d T0 := ⟨fun i m => ⟨rfl, rfl, Int.le_refl _⟩, fun x y _ _ i _ => Int.le_refl _⟩
theorem idx_inj {W0 i x y x' y' : Nat} (hx : x < W0) (hx' : x' < W0) (h : idx W0 i x y = idx W0 i x' y') : x / 2 ^ i = x' / 2 ^ i ∧ y / 2 ^ i = y' / 2 ^ i := by
  have h1 := dimF_lt W0 i x hx
  have h2 := dimF_lt W0 i x' hx'
  unfold idx at h
  generalize dimF W0 i = D at *
  generalize x / 2 ^ i = X at *
  generalize x' / 2 ^ i = X' at *
  generalize y / 2 ^ i = Y at *
  generalize y' / 2 ^ i = Y' at *
  have e1 : (Y * D + X) / D = Y := by rw [Nat.mul_comm, Nat.mul_add_div (by omega), Nat.div_eq_of_lt h1]; rfl
  have e2 : (Y' * D + X') / D = Y' := by rw [Nat.mul_comm, Nat.mul_add_div (by omega), Nat.div_eq_of_lt h2]; rfl
  have hY : Y = Y' := by rw [← e1, ← e2, h]
  subst hY
  exact ⟨by omega, rfl⟩
theorem rowM_le (f : Nat → Int) (W x y : Nat) (n : Int) : ∀ (c : Nat), rowM f W x y n c ≤ n ∧ ∀ q, q < c → rowM f W x y n c ≤ f (y * W + (x + q)) := by
  intro c
  induction c with
  | zero => exact ⟨Int.le_refl _, fun q h => absurd h (by omega)⟩
  | succ c ih =>
    have h1 : rowM f W x y n (c + 1) ≤ rowM f W x y n c ∧ rowM f W x y n (c + 1) ≤ f (y * W + (x + c)) := by
      rw [rowM]; unfold minI; split <;> omega
    refine ⟨by omega, fun q hq => ?_⟩
    rcases Nat.lt_or_ge q c with h | h
    · have := ih.2 q h; omega
    · rw [show q = c by omega]; exact h1.2
theorem leastG_le (f : Nat → Int) (W x y rW : Nat) (n : Int) : ∀ (r : Nat), leastG f W x y rW n r ≤ n ∧ ∀ p q, p < r → q < rW → leastG f W x y rW n r ≤ f ((y + p) * W + (x + q)) := by
  intro r
  induction r with
  | zero => exact ⟨Int.le_refl _, fun p q h => absurd h (by omega)⟩
  | succ r ih =>
    have h := rowM_le f W x (y + r) (leastG f W x y rW n r) rW
    rw [leastG]
    refine ⟨by have := ih.1; omega, fun p q hp hq => ?_⟩
    rcases Nat.lt_or_ge p r with h' | h'
    · have := ih.2 p q h' hq; omega
    · rw [show p = r by omega]; exact h.2 q hq
theorem rowM_nn (f : Nat → Int) (W x y : Nat) (n : Int) (hn : 0 ≤ n) (hf : ∀ m, 0 ≤ f m) : ∀ (c : Nat), 0 ≤ rowM f W x y n c := by
  intro c
  induction c with
  | zero => exact hn
  | succ c ih => rw [rowM]; unfold minI; have := hf (y * W + (x + c)); split <;> omega
theorem leastG_nn (f : Nat → Int) (W x y rW : Nat) (n : Int) (hn : 0 ≤ n) (hf : ∀ m, 0 ≤ f m) : ∀ (r : Nat), 0 ≤ leastG f W x y rW n r := by
  intro r
  induction r with
  | zero => exact hn
  | succ r ih => rw [leastG]; exact rowM_nn f W x _ _ ih hf _
/-- The least of four is no more than each of them. -/
theorem leastT_le {T : TT} {W0 H0 i x y : Nat} (hx : x < W0) (hy : y < H0) : leastT T W0 H0 i (2 * (x / 2 ^ (i + 1))) (2 * (y / 2 ^ (i + 1))) ≤ (T i (idx W0 i x y)).num := by
  have hx1 := dimF_lt W0 i x hx
  have hy1 := dimF_lt H0 i y hy
  have ex := half_pow x i
  have ey := half_pow y i
  unfold leastT idx
  have h := (leastG_le (fun m => (T i m).num) (dimF W0 i) (2 * (x / 2 ^ (i + 1))) (2 * (y / 2 ^ (i + 1))) (min 2 (dimF W0 i - 2 * (x / 2 ^ (i + 1)))) (T i (2 * (y / 2 ^ (i + 1)) * dimF W0 i + 2 * (x / 2 ^ (i + 1)))).num (min 2 (dimF H0 i - 2 * (y / 2 ^ (i + 1))))).2 (y / 2 ^ i - 2 * (y / 2 ^ (i + 1))) (x / 2 ^ i - 2 * (x / 2 ^ (i + 1))) (by omega) (by omega)
  rw [show 2 * (y / 2 ^ (i + 1)) + (y / 2 ^ i - 2 * (y / 2 ^ (i + 1))) = y / 2 ^ i by omega, show 2 * (x / 2 ^ (i + 1)) + (x / 2 ^ i - 2 * (x / 2 ^ (i + 1))) = x / 2 ^ i by omega] at h
  exact h
theorem setUp_ok {W0 H0 d x0 y0 : Nat} {T : TT} (hx0 : x0 < W0) (hy0 : y0 < H0) (h0 : ∀ i m, (T i m).low = 0 ∧ (T i m).said = false ∧ 0 ≤ (T i m).num)
    (h1 : ∀ x y, x < W0 → y < H0 → ∀ l, l + 1 < d → ¬ (l = 0 ∧ idx W0 0 x y = idx W0 0 x0 y0) → (T (l + 1) (idx W0 (l + 1) x y)).num ≤ (T l (idx W0 l x y)).num) : ∀ i, i + 1 ≤ d →
    (∀ l m, (setUp T W0 H0 x0 y0 i l m).low = 0 ∧ (setUp T W0 H0 x0 y0 i l m).said = false ∧ 0 ≤ (setUp T W0 H0 x0 y0 i l m).num) ∧
    (∀ x y, x < W0 → y < H0 → ∀ l, l + 1 < d → ¬ (l = i ∧ idx W0 i x y = idx W0 i x0 y0) → (setUp T W0 H0 x0 y0 i (l + 1) (idx W0 (l + 1) x y)).num ≤ (setUp T W0 H0 x0 y0 i l (idx W0 l x y)).num) ∧ ∀ m, (setUp T W0 H0 x0 y0 i 0 m) = T 0 m := by
  intro i
  induction i with
  | zero => intro _; exact ⟨h0, h1, fun _ => rfl⟩
  | succ i ih =>
    intro hi
    obtain ⟨a1, a2, a3⟩ := ih (by omega)
    rw [setUp]
    rw [show y0 / 2 ^ (i + 1) * dimF W0 (i + 1) + x0 / 2 ^ (i + 1) = idx W0 (i + 1) x0 y0 from rfl]
    have hle : ∀ x y, x < W0 → y < H0 → idx W0 (i + 1) x y = idx W0 (i + 1) x0 y0 → leastT (setUp T W0 H0 x0 y0 i) W0 H0 i (2 * (x0 / 2 ^ (i + 1))) (2 * (y0 / 2 ^ (i + 1))) ≤ (setUp T W0 H0 x0 y0 i i (idx W0 i x y)).num := by
      intro x y hx hy he
      obtain ⟨ex, ey⟩ := idx_inj hx hx0 he
      rw [← ex, ← ey]
      exact leastT_le hx hy
    have hnn : 0 ≤ leastT (setUp T W0 H0 x0 y0 i) W0 H0 i (2 * (x0 / 2 ^ (i + 1))) (2 * (y0 / 2 ^ (i + 1))) := leastG_nn _ _ _ _ _ _ (a1 _ _).2.2 (fun m => (a1 i m).2.2) _
    generalize setUp T W0 H0 x0 y0 i = S at *
    generalize leastT S W0 H0 i (2 * (x0 / 2 ^ (i + 1))) (2 * (y0 / 2 ^ (i + 1))) = v at *
    refine ⟨fun l m => ?_, fun x y hx hy l hl hne => ?_, fun m => by rw [TT.upd_ne _ _ _ _ (by omega)]; exact a3 m⟩
    · unfold TT.upd
      split
      · exact ⟨(a1 _ _).1, (a1 _ _).2.1, hnn⟩
      · exact a1 l m
    · by_cases hli : l = i
      · subst hli
        rw [TT.upd_ne S (l + 1) _ _ (a := l) (by omega)]
        by_cases hp : idx W0 (l + 1) x y = idx W0 (l + 1) x0 y0
        · rw [hp, TT.upd_self]
          exact hle x y hx hy hp
        · rw [TT.upd_ne _ _ _ _ (by rintro ⟨_, h⟩; exact hp h)]
          refine a2 x y hx hy l hl (fun h => hp ?_)
          obtain ⟨ex, ey⟩ := idx_inj hx hx0 h.2
          unfold idx
          rw [← half_pow x, ← half_pow y, ← half_pow x0, ← half_pow y0, ex, ey]
      · by_cases hl2 : l = i + 1
        · subst hl2
          have hc : idx W0 (i + 1) x y ≠ idx W0 (i + 1) x0 y0 := fun h => hne ⟨rfl, h⟩
          rw [TT.upd_ne _ _ _ _ (by omega), TT.upd_ne _ _ _ _ (by rintro ⟨_, h⟩; exact hc h)]
          exact a2 x y hx hy (i + 1) hl (by omega)
        · rw [TT.upd_ne _ _ _ _ (by omega), TT.upd_ne _ _ _ _ (by omega)]
          exact a2 x y hx hy l hl (by omega)
theorem set_ok {W0 H0 d k : Nat} {T : TT} (h : SetOk W0 H0 d T) (hd : 1 ≤ d) (hW : 1 ≤ W0) (hk : k < W0 * H0) (n : Int) (hn : 0 ≤ n) : SetOk W0 H0 d (setM T W0 H0 d k n) ∧ (∀ m, ((setM T W0 H0 d k n) 0 m).num = if m = k then n else (T 0 m).num) := by
  obtain ⟨k1, k2, k3⟩ := leaf_in hW hk
  have hix : idx W0 0 (k % W0) (k / W0) = k := by unfold idx; simp [dimF]; exact k3
  obtain ⟨b1, b2, b3⟩ := setUp_ok (T := T.upd 0 k ⟨n, (T 0 k).low, (T 0 k).said⟩) (d := d) k1 k2 (fun i m => by
    unfold TT.upd
    split
    · exact ⟨(h.1 0 k).1, (h.1 0 k).2.1, hn⟩
    · exact h.1 i m) (fun x y hx hy l hl hne => by
    rw [TT.upd_ne _ _ _ _ (by omega)]
    by_cases hl0 : l = 0
    · subst hl0
      rw [TT.upd_ne _ _ _ _ (by rintro ⟨_, e⟩; exact hne ⟨rfl, by rw [hix]; exact e⟩)]
      exact h.2 x y hx hy 0 hl
    · rw [TT.upd_ne _ _ _ _ (by omega)]
      exact h.2 x y hx hy l hl) (d - 1) (by omega)
  refine ⟨⟨b1, fun x y hx hy l hl => b2 x y hx hy l hl (by omega)⟩, fun m => ?_⟩
  unfold setM
  rw [b3 m]
  unfold TT.upd
  by_cases hm : m = k
  · rw [if_pos ⟨rfl, hm⟩, if_pos hm]
  · rw [if_neg (by rintro ⟨_, h⟩; exact hm h), if_neg hm]
end Go.Proofs.Ythgbnkcbcepjdaa
