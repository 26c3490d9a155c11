/- Trees: all numbers alike (TreeShort): the mathematics. -/
import Derived.Test.YthgbnkcbcepjdaaTrSim
set_option linter.unusedVariables false
set_option linter.unusedSimpArgs false
namespace Go.Proofs.Ythgbnkcbcepjdaa
open Go.RowKit
theorem dimF_back (W : Nat) : ∀ (i X : Nat), X < dimF W i → ∃ x, x < W ∧ x / 2 ^ i = X := by
  intro i
  induction i with
  | zero => intro X h; exact ⟨X, h, by simp⟩
  | succ i ih =>
    intro X h
    have h2 : X < (dimF W i + 1) / 2 := h
    obtain ⟨x, hx, e⟩ := ih (2 * X) (by omega)
    exact ⟨x, hx, by rw [← half_pow, e]; omega⟩
theorem rowM_at (f : Nat → Int) (W x y : Nat) (n : Int) : ∀ (c : Nat), rowM f W x y n c = n ∨ ∃ q, q < c ∧ rowM f W x y n c = f (y * W + (x + q)) := by
  intro c
  induction c with
  | zero => exact .inl rfl
  | succ c ih =>
    rw [rowM]
    unfold minI
    split
    · exact .inr ⟨c, by omega, rfl⟩
    · rcases ih with h | ⟨q, h1, h2⟩
      · exact .inl h
      · exact .inr ⟨q, by omega, h2⟩
theorem leastG_at (f : Nat → Int) (W x y rW : Nat) (n : Int) : ∀ (r : Nat), leastG f W x y rW n r = n ∨ ∃ p q, p < r ∧ q < rW ∧ leastG f W x y rW n r = f ((y + p) * W + (x + q)) := by
  intro r
  induction r with
  | zero => exact .inl rfl
  | succ r ih =>
    rw [leastG]
    rcases rowM_at f W x (y + r) (leastG f W x y rW n r) rW with h | ⟨q, h1, h2⟩
    · rw [h]
      rcases ih with h | ⟨p, q, h1, h2, h3⟩
      · exact .inl h
      · exact .inr ⟨p, q, by omega, h2, h3⟩
    · exact .inr ⟨r, q, by omega, h1, h2⟩
/-- The least of four is one of them. -/
theorem leastT_at {T : TT} {W0 H0 i x y : Nat} (hx : x < W0) (hy : y < H0) : ∃ x' y', x' < W0 ∧ y' < H0 ∧ x' / 2 ^ (i + 1) = x / 2 ^ (i + 1) ∧ y' / 2 ^ (i + 1) = y / 2 ^ (i + 1) ∧
    leastT T W0 H0 i (2 * (x / 2 ^ (i + 1))) (2 * (y / 2 ^ (i + 1))) = (T i (idx W0 i x' y')).num := by
  have hx1 := dimF_lt W0 i x hx
  have hy1 := dimF_lt H0 i y hy
  have ex := half_pow x i
  have ey := half_pow y i
  have key : ∃ p q, 2 * (y / 2 ^ (i + 1)) + p < dimF H0 i ∧ 2 * (x / 2 ^ (i + 1)) + q < dimF W0 i ∧ p < 2 ∧ q < 2 ∧ leastT T W0 H0 i (2 * (x / 2 ^ (i + 1))) (2 * (y / 2 ^ (i + 1))) = (T i ((2 * (y / 2 ^ (i + 1)) + p) * dimF W0 i + (2 * (x / 2 ^ (i + 1)) + q))).num := by
    unfold leastT
    rcases leastG_at (fun m => (T i m).num) (dimF W0 i) (2 * (x / 2 ^ (i + 1))) (2 * (y / 2 ^ (i + 1))) (min 2 (dimF W0 i - 2 * (x / 2 ^ (i + 1)))) (T i (2 * (y / 2 ^ (i + 1)) * dimF W0 i + 2 * (x / 2 ^ (i + 1)))).num (min 2 (dimF H0 i - 2 * (y / 2 ^ (i + 1)))) with h | ⟨p, q, h1, h2, h3⟩
    · exact ⟨0, 0, by omega, by omega, by omega, by omega, h⟩
    · exact ⟨p, q, by omega, by omega, by omega, by omega, h3⟩
  obtain ⟨p, q, h1, h2, h3, h4, h5⟩ := key
  obtain ⟨x', hx', ex'⟩ := dimF_back W0 i _ h2
  obtain ⟨y', hy', ey'⟩ := dimF_back H0 i _ h1
  refine ⟨x', y', hx', hy', by rw [← half_pow, ex']; omega, by rw [← half_pow, ey']; omega, ?_⟩
  rw [h5]
  unfold idx
  rw [ex', ey']
/-- A node's number is that of one below it. -/
def Att (W0 H0 d : Nat) (P : Nat → Nat → Nat → Prop) (T : TT) : Prop := ∀ x y, x < W0 → y < H0 → ∀ l, l + 1 < d → ¬ P l x y → ∃ x' y', x' < W0 ∧ y' < H0 ∧ x' / 2 ^ (l + 1) = x / 2 ^ (l + 1) ∧ y' / 2 ^ (l + 1) = y / 2 ^ (l + 1) ∧ (T (l + 1) (idx W0 (l + 1) x y)).num = (T l (idx W0 l x' y')).num
theorem idx_par {W0 i x y x' y' : Nat} (hx : x < W0) (hx' : x' < W0) (h : idx W0 i x y = idx W0 i x' y') : idx W0 (i + 1) x y = idx W0 (i + 1) x' y' := by
  obtain ⟨ex, ey⟩ := idx_inj hx hx' h
  unfold idx
  rw [← half_pow x, ← half_pow y, ← half_pow x', ← half_pow y', ex, ey]
theorem setUp_att {W0 H0 d x0 y0 : Nat} {T : TT} (hx0 : x0 < W0) (hy0 : y0 < H0) (h1 : Att W0 H0 d (fun l x y => l = 0 ∧ idx W0 1 x y = idx W0 1 x0 y0) T) : ∀ i, i + 1 ≤ d →
    Att W0 H0 d (fun l x y => l = i ∧ idx W0 (i + 1) x y = idx W0 (i + 1) x0 y0) (setUp T W0 H0 x0 y0 i) := by
  intro i
  induction i with
  | zero => intro _; exact h1
  | succ i ih =>
    intro hi
    have a2 := ih (by omega)
    rw [setUp]
    rw [show y0 / 2 ^ (i + 1) * dimF W0 (i + 1) + x0 / 2 ^ (i + 1) = idx W0 (i + 1) x0 y0 from rfl]
    obtain ⟨xa, ya, hxa, hya, exa, eya, hv⟩ := leastT_at (T := setUp T W0 H0 x0 y0 i) (i := i) hx0 hy0
    generalize setUp T W0 H0 x0 y0 i = S at *
    generalize leastT S W0 H0 i (2 * (x0 / 2 ^ (i + 1))) (2 * (y0 / 2 ^ (i + 1))) = v at *
    intro x y hx hy l hl hne
    by_cases hli : l = i
    · subst hli
      by_cases hp : idx W0 (l + 1) x y = idx W0 (l + 1) x0 y0
      · obtain ⟨ex, ey⟩ := idx_inj hx hx0 hp
        refine ⟨xa, ya, hxa, hya, by rw [exa, ex], by rw [eya, ey], ?_⟩
        rw [hp, TT.upd_self, TT.upd_ne _ _ _ _ (by omega)]
        exact hv
      · obtain ⟨x', y', q1, q2, q3, q4, q5⟩ := a2 x y hx hy l hl (fun h => hp h.2)
        refine ⟨x', y', q1, q2, q3, q4, ?_⟩
        rw [TT.upd_ne _ _ _ _ (by rintro ⟨_, h⟩; exact hp h), TT.upd_ne _ _ _ _ (by omega)]
        exact q5
    · obtain ⟨x', y', q1, q2, q3, q4, q5⟩ := a2 x y hx hy l hl (fun h => hli h.1)
      refine ⟨x', y', q1, q2, q3, q4, ?_⟩
      by_cases hl2 : l = i + 1
      · subst hl2
        rw [TT.upd_ne _ _ _ _ (by omega), TT.upd_ne _ _ _ _ (by
          rintro ⟨_, h⟩
          apply hne
          refine ⟨rfl, ?_⟩
          rw [← idx_par q1 hx0 h]
          unfold idx
          rw [q3, q4])]
        exact q5
      · rw [TT.upd_ne _ _ _ _ (by omega), TT.upd_ne _ _ _ _ (by omega)]
        exact q5
def Att0 (W0 H0 d : Nat) (T : TT) : Prop := Att W0 H0 d (fun _ _ _ => False) T
theorem set_att {W0 H0 d k : Nat} {T : TT} (h : Att0 W0 H0 d T) (hd : 1 ≤ d) (hW : 1 ≤ W0) (hk : k < W0 * H0) (n : Int) : Att0 W0 H0 d (setM T W0 H0 d k n) := by
  obtain ⟨k1, k2, k3⟩ := leaf_in hW hk
  have hix : idx W0 0 (k % W0) (k / W0) = k := by unfold idx; simp [dimF]; exact k3
  have hb := setUp_att (T := T.upd 0 k ⟨n, (T 0 k).low, (T 0 k).said⟩) (d := d) k1 k2 (fun x y hx hy l hl hne => by
    obtain ⟨x', y', q1, q2, q3, q4, q5⟩ := h x y hx hy l hl (fun h => h)
    refine ⟨x', y', q1, q2, q3, q4, ?_⟩
    rw [TT.upd_ne _ _ _ _ (by omega)]
    by_cases hl0 : l = 0
    · subst hl0
      rw [TT.upd_ne _ _ _ _ (by
        rintro ⟨_, e⟩
        apply hne
        refine ⟨rfl, ?_⟩
        rw [← hix] at e
        have := idx_par q1 k1 e
        rw [← this]
        unfold idx
        rw [q3, q4])]
      exact q5
    · rw [TT.upd_ne _ _ _ _ (by omega)]
      exact q5) (d - 1) (by omega)
  exact fun x y hx hy l hl hne => hb x y hx hy l hl (by omega)
theorem Att0.zero (W0 H0 d : Nat) : Att0 W0 H0 d T0 := fun x y hx hy l hl _ => ⟨x, y, hx, hy, rfl, rfl, rfl⟩
theorem att_all {W0 H0 d : Nat} {T : TT} {n : Int} (h : Att0 W0 H0 d T) (h0 : ∀ m, m < W0 * H0 → (T 0 m).num = n) : ∀ i, i < d → ∀ x y, x < W0 → y < H0 → (T i (idx W0 i x y)).num = n := by
  intro i
  induction i with
  | zero =>
    intro _ x y hx hy
    apply h0
    unfold idx
    simp only [dimF, Nat.pow_zero, Nat.div_one]
    have : y * W0 + W0 ≤ H0 * W0 := by
      have := Nat.mul_le_mul_right W0 (show y + 1 ≤ H0 by omega)
      rw [Nat.succ_mul] at this
      omega
    rw [Nat.mul_comm W0 H0]
    omega
  | succ i ih =>
    intro hi x y hx hy
    obtain ⟨x', y', q1, q2, q3, q4, q5⟩ := h x y hx hy i hi (fun h => h)
    rw [q5]
    exact ih (by omega) x' y' q1 q2
/-- How many nodes are said. -/
def rowC (T : TT) (i : Nat) : Nat → Nat
  | 0 => 0
  | m + 1 => rowC T i m + if (T i m).said then 1 else 0
def cntS (W0 H0 : Nat) (T : TT) : Nat → Nat
  | 0 => 0
  | i + 1 => cntS W0 H0 T i + rowC T i (dimF W0 i * dimF H0 i)
def cntA (W0 H0 : Nat) : Nat → Nat
  | 0 => 0
  | i + 1 => cntA W0 H0 i + dimF W0 i * dimF H0 i
theorem rowC_same {T T' : TT} {i : Nat} : ∀ M, (∀ m, m < M → (T' i m).said = (T i m).said) → rowC T' i M = rowC T i M := by
  intro M
  induction M with
  | zero => intro _; rfl
  | succ M ih => intro h; rw [rowC, rowC, ih (fun m hm => h m (by omega)), h M (by omega)]
theorem rowC_one {T T' : TT} {i m0 : Nat} : ∀ M, m0 < M → (∀ m, m ≠ m0 → (T' i m).said = (T i m).said) → (T i m0).said = false → (T' i m0).said = true → rowC T' i M = rowC T i M + 1 := by
  intro M
  induction M with
  | zero => intro h; omega
  | succ M ih =>
    intro h hne h0 h1
    rw [rowC, rowC]
    by_cases e : m0 = M
    · subst e
      rw [rowC_same m0 (fun m hm => hne m (by omega)), h0, h1]
      rfl
    · rw [ih (by omega) hne h0 h1, hne M (fun h => e h.symm)]
      omega
theorem rowC_all {T : TT} {i : Nat} : ∀ M, (∀ m, m < M → (T i m).said = true) → rowC T i M = M := by
  intro M
  induction M with
  | zero => intro _; rfl
  | succ M ih => intro h; rw [rowC, ih (fun m hm => h m (by omega)), h M (by omega)]; rfl
theorem cntS_same {W0 H0 : Nat} {T T' : TT} : ∀ d, (∀ i, i < d → ∀ m, (T' i m).said = (T i m).said) → cntS W0 H0 T' d = cntS W0 H0 T d := by
  intro d
  induction d with
  | zero => intro _; rfl
  | succ d ih => intro h; rw [cntS, cntS, ih (fun i hi => h i (by omega)), rowC_same _ (fun m _ => h d (by omega) m)]
theorem cntS_one {W0 H0 i0 m0 : Nat} {T T' : TT} (hm : m0 < dimF W0 i0 * dimF H0 i0) (h0 : (T i0 m0).said = false) (h1 : (T' i0 m0).said = true) (hne : ∀ i m, ¬ (i = i0 ∧ m = m0) → (T' i m).said = (T i m).said) : ∀ d, i0 < d → cntS W0 H0 T' d = cntS W0 H0 T d + 1 := by
  intro d
  induction d with
  | zero => intro h; omega
  | succ d ih =>
    intro h
    rw [cntS, cntS]
    by_cases e : i0 = d
    · subst e
      rw [cntS_same i0 (fun i hi m => hne i m (by omega)), rowC_one _ hm (fun m hm => hne i0 m (by omega)) h0 h1]
      omega
    · rw [ih (by omega), rowC_same _ (fun m _ => hne d m (by omega))]
      omega
theorem cntS_all {W0 H0 : Nat} {T : TT} : ∀ d, (∀ i, i < d → ∀ m, m < dimF W0 i * dimF H0 i → (T i m).said = true) → cntS W0 H0 T d = cntA W0 H0 d := by
  intro d
  induction d with
  | zero => intro _; rfl
  | succ d ih => intro h; rw [cntS, cntA, ih (fun i hi => h i (by omega)), rowC_all _ (h d (by omega))]
/-- All nodes bear n; what is said is said in full. -/
def Sd (W0 H0 d : Nat) (n : Nat) (T : TT) : Prop := ∀ i, i < d → ∀ x y, x < W0 → y < H0 → (T i (idx W0 i x y)).num = (n : Int) ∧ 0 ≤ (T i (idx W0 i x y)).low ∧ (T i (idx W0 i x y)).low ≤ (n : Int) ∧ ((T i (idx W0 i x y)).said = true → (T i (idx W0 i x y)).low = (n : Int))
theorem Sd.upd {W0 H0 d n j x y : Nat} {T : TT} (h : Sd W0 H0 d n T) : Sd W0 H0 d n (T.upd j (idx W0 j x y) ⟨(n : Int), (n : Int), true⟩) := by
  intro i hi x' y' hx' hy'
  unfold TT.upd
  split
  · exact ⟨rfl, by simp only; omega, by simp only; omega, fun _ => rfl⟩
  · exact h i hi x' y' hx' hy'
theorem idx_in {W0 H0 i x y : Nat} (hx : x < W0) (hy : y < H0) : idx W0 i x y < dimF W0 i * dimF H0 i := by
  have h1 := dimF_lt W0 i x hx
  have h2 := dimF_lt H0 i y hy
  unfold idx
  have := Nat.mul_le_mul_right (dimF W0 i) (show y / 2 ^ i + 1 ≤ dimF H0 i by omega)
  rw [Nat.succ_mul] at this
  rw [Nat.mul_comm (dimF W0 i) (dimF H0 i)]
  omega
/-- A walk below a node that is said. -/
theorem walkS {W0 H0 d n x y : Nat} (hx : x < W0) (hy : y < H0) : ∀ (j : Nat) (a : List Int) (T : TT), j ≤ d → Sd W0 H0 d n T →
    ∃ c, (walkT estepB ((n : Int) + 1) (((n : Int) + 1).toNat + 2) W0 x y j (a, T, (n : Int))).1 = a ++ List.replicate c 1 ∧ cntS W0 H0 (walkT estepB ((n : Int) + 1) (((n : Int) + 1).toNat + 2) W0 x y j (a, T, (n : Int))).2.1 d = cntS W0 H0 T d + c ∧
      Sd W0 H0 d n (walkT estepB ((n : Int) + 1) (((n : Int) + 1).toNat + 2) W0 x y j (a, T, (n : Int))).2.1 ∧ (∀ i m, (T i m).said = true → ((walkT estepB ((n : Int) + 1) (((n : Int) + 1).toNat + 2) W0 x y j (a, T, (n : Int))).2.1 i m).said = true) ∧
      ∀ i, i < j → ((walkT estepB ((n : Int) + 1) (((n : Int) + 1).toNat + 2) W0 x y j (a, T, (n : Int))).2.1 i (idx W0 i x y)).said = true := by
  intro j
  induction j with
  | zero => intro a T _ hS; exact ⟨0, by simp [walkT], rfl, hS, fun _ _ h => h, fun i h => absurd h (by omega)⟩
  | succ j ih =>
    intro a T hj hS
    obtain ⟨s1, s2, s3, s4⟩ := hS j (by omega) x y hx hy
    rw [walkT]
    simp only
    rw [show y / 2 ^ j * dimF W0 j + x / 2 ^ j = idx W0 j x y from rfl, s1]
    have hmx : maxI (T j (idx W0 j x y)).low (n : Int) = (n : Int) := by unfold maxI; split <;> omega
    rw [hmx]
    have hu := hS.upd (j := j) (x := x) (y := y)
    cases hsd : (T j (idx W0 j x y)).said with
    | true =>
      rw [loopE_said]
      simp only
      obtain ⟨c, r1, r2, r3, r4, r5⟩ := ih a _ (by omega) hu
      have hsm : ∀ i m, ((T.upd j (idx W0 j x y) ⟨(n : Int), (n : Int), true⟩) i m).said = (T i m).said := by
        intro i m
        unfold TT.upd
        split
        · rename_i h; rw [h.1, h.2, hsd]
        · rfl
      refine ⟨c, r1, by rw [r2, cntS_same d (fun i _ m => hsm i m)], r3, fun i m h => r4 i m (by rw [hsm]; exact h), fun i hi => ?_⟩
      by_cases e : i = j
      · subst e; exact r4 i _ (by rw [TT.upd_self])
      · exact r5 i (by omega)
    | false =>
      rw [loopE _ _ _ _ _ (Int.le_refl _) (by omega), if_pos (by omega)]
      simp only [Int.sub_self, Int.toNat_zero, List.replicate_zero, List.append_nil]
      obtain ⟨c, r1, r2, r3, r4, r5⟩ := ih (a ++ [1]) _ (by omega) hu
      have hon : cntS W0 H0 (T.upd j (idx W0 j x y) ⟨(n : Int), (n : Int), true⟩) d = cntS W0 H0 T d + 1 :=
        cntS_one (idx_in hx hy) hsd (by rw [TT.upd_self]) (fun i m h => by rw [TT.upd_ne _ _ _ _ h]) d (by omega)
      refine ⟨c + 1, by rw [r1, List.replicate_succ]; simp, by rw [r2, hon]; omega, r3, fun i m h => r4 i m ?_, fun i hi => ?_⟩
      · unfold TT.upd
        split
        · rfl
        · exact h
      · by_cases e : i = j
        · subst e; exact r4 i _ (by rw [TT.upd_self])
        · exact r5 i (by omega)
end Go.Proofs.Ythgbnkcbcepjdaa
