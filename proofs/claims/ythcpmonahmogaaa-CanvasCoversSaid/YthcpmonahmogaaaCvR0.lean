/- canvas: blocks in their grid: mathematics. -/
import Derived.Test.YthcpmonahmogaaaCvQ0
set_option linter.unusedVariables false
set_option linter.unusedSimpArgs false
namespace Go.Proofs.Ythcpmonahmogaaa
open Go.RowKit
set_option maxRecDepth 100000
theorem plP_get (x0 y0 : Int) (wd : Nat) (hw : 0 < wd) : ∀ (ht i : Nat), i < ht * wd → (plP x0 y0 wd ht)[i]? = some (x0 + ((i % wd : Nat) : Int), y0 + ((i / wd : Nat) : Int))
  | 0, i, h => by simp at h
  | m + 1, i, h => by
    rw [plP]
    rcases Nat.lt_or_ge i (m * wd) with hi | hi
    · rw [List.getElem?_append_left (by rw [plP_len]; exact hi)]
      exact plP_get x0 y0 wd hw m i hi
    · rw [List.getElem?_append_right (by rw [plP_len]; exact hi), plP_len]
      rw [Nat.succ_mul] at h
      have h2 : i - m * wd < wd := by omega
      have e1 : i / wd = m := by
        rw [Nat.div_eq_iff hw]
        have : wd * m = m * wd := Nat.mul_comm _ _
        constructor <;> omega
      have e2 : i % wd = i - m * wd := by
        have := Nat.div_add_mod i wd
        rw [e1] at this
        have h3 : wd * m = m * wd := Nat.mul_comm _ _
        omega
      rw [e1, e2]
      unfold rowP
      rw [List.getElem?_map, List.getElem?_range h2]
      rfl
/-- A grid's line over a rectangle's side: the cell a of the side from p to q. -/
theorem cell_side {p q x a : Int} (hx : 1 ≤ x) (hp : 0 ≤ p ∧ p < q) (ha : p / x ≤ a ∧ a < ceilF q x) :
    maxJ p (a * x) < minJ q ((a + 1) * x) ∧ maxJ p (a * x) / x = a ∧ (minJ q ((a + 1) * x) - 1) / x = a ∧ p ≤ maxJ p (a * x) ∧ minJ q ((a + 1) * x) ≤ q ∧
    (p / x < a → maxJ p (a * x) = a * x) ∧ (a + 1 < ceilF q x → minJ q ((a + 1) * x) = (a + 1) * x) ∧ 0 ≤ a := by
  have h1 : a * x < q := (lt_ceil hx).2 ha.2
  have h0 : 0 ≤ p / x := Int.ediv_nonneg hp.1 (by omega)
  have h2 : (a + 1) * x = a * x + x := by rw [Int.add_mul, Int.one_mul]
  have h3 : p < (p / x + 1) * x := by
    have := Int.lt_ediv_add_one_mul_self p (show 0 < x by omega)
    exact this
  have h4 : (p / x + 1) * x ≤ (a + 1) * x := Int.mul_le_mul_of_nonneg_right (by omega) (by omega)
  have hax : 0 ≤ a * x := Int.mul_nonneg (by omega) (by omega)
  have dv : ∀ z : Int, a * x ≤ z → z < a * x + x → z / x = a := fun z g1 g2 => by
    have e : z = (z - a * x) + a * x := by omega
    rw [e, Int.add_mul_ediv_right _ _ (by omega), Int.ediv_eq_zero_of_lt (by omega) (by omega)]
    omega
  have m1 : maxJ p (a * x) = p ∨ maxJ p (a * x) = a * x := by unfold maxJ; split <;> simp
  have m2 : p ≤ maxJ p (a * x) ∧ a * x ≤ maxJ p (a * x) := by unfold maxJ; split <;> omega
  have m3 : minJ q ((a + 1) * x) ≤ q ∧ minJ q ((a + 1) * x) ≤ (a + 1) * x := by unfold minJ; split <;> omega
  have m4 : minJ q ((a + 1) * x) = q ∨ minJ q ((a + 1) * x) = (a + 1) * x := by unfold minJ; split <;> simp
  refine ⟨?_, ?_, ?_, m2.1, m3.1, ?_, ?_, by omega⟩
  · rcases m1 with e | e <;> rcases m4 with e' | e' <;> rw [e, e'] <;> omega
  · exact dv _ m2.2 (by rcases m1 with e | e <;> rw [e] <;> omega)
  · exact dv _ (by rcases m4 with e' | e' <;> rw [e'] <;> omega) (by omega)
  · intro hlt
    have h5 : (p / x + 1) * x ≤ a * x := Int.mul_le_mul_of_nonneg_right (by omega) (by omega)
    unfold maxJ
    split <;> omega
  · intro hlt
    have h5 : (a + 1) * x < q := (lt_ceil hx).2 hlt
    unfold minJ
    split <;> omega
/-- What the law asks of one block of a row of so many columns. -/
structure BkOk (x y : Int) (wd : Nat) (bs : List Rc4) (i : Nat) (r : Rc4) : Prop where
  ok : RcOk 25 r
  pos : r.1 < r.2.2.1 ∧ r.2.1 < r.2.2.2
  gx : r.1 / x = (r.2.2.1 - 1) / x
  gy : r.2.1 / y = (r.2.2.2 - 1) / y
  left : 0 < i % wd → ∃ s, bs[i - 1]? = some s ∧ r.1 = s.2.2.1 ∧ r.2.1 = s.2.1
  up : wd ≤ i → ∃ s, bs[i - wd]? = some s ∧ r.2.1 = s.2.2.2
set_option maxHeartbeats 1000000 in
theorem blks_facts {p : Rc4} {x y : Int} (hx : 1 ≤ x) (hy : 1 ≤ y) (h0 : 0 ≤ p.1 ∧ p.1 < p.2.2.1 ∧ p.2.2.1 ≤ 25) (h1 : 0 ≤ p.2.1 ∧ p.2.1 < p.2.2.2 ∧ p.2.2.2 ≤ 25) :
    ∃ wd ht : Nat, wideF p x = (wd : Int) ∧ 1 ≤ wd ∧ (blksF p x y).length = ht * wd ∧ ∀ i r, (blksF p x y)[i]? = some r → BkOk x y wd (blksF p x y) i r := by
  have c0 : p.1 / x < ceilF p.2.2.1 x := by
    have : (p.1 / x) * x < p.2.2.1 := by have := Int.ediv_mul_le p.1 (show x ≠ 0 by omega); omega
    exact (lt_ceil hx).1 this
  have c1 : p.2.1 / y < ceilF p.2.2.2 y := by
    have : (p.2.1 / y) * y < p.2.2.2 := by have := Int.ediv_mul_le p.2.1 (show y ≠ 0 by omega); omega
    exact (lt_ceil hy).1 this
  obtain ⟨wd, hwd⟩ : ∃ wd : Nat, (ceilF p.2.2.1 x - p.1 / x).toNat = wd := ⟨_, rfl⟩
  obtain ⟨ht, hht⟩ : ∃ ht : Nat, (ceilF p.2.2.2 y - p.2.1 / y).toNat = ht := ⟨_, rfl⟩
  have hw1 : 1 ≤ wd := by omega
  have hlen : (blksF p x y).length = ht * wd := by
    unfold blksF
    rw [List.length_map, plP_len, hwd, hht]
  have get : ∀ i, i < ht * wd → (blksF p x y)[i]? = some (cellR p.1 p.2.1 p.2.2.1 p.2.2.2 x y (p.1 / x + ((i % wd : Nat) : Int), p.2.1 / y + ((i / wd : Nat) : Int))) := fun i hi => by
    unfold blksF
    rw [hwd, hht, List.getElem?_map, plP_get _ _ wd hw1 ht i hi]
    rfl
  refine ⟨wd, ht, by unfold wideF; omega, hw1, hlen, fun i r hr => ?_⟩
  have hi : i < ht * wd := by rw [← hlen]; exact (List.getElem?_eq_some_iff.1 hr).1
  have g0 := get i hi
  rw [hr] at g0
  have key1 : 0 < i % wd → (blksF p x y)[i - 1]? = some (cellR p.1 p.2.1 p.2.2.1 p.2.2.2 x y (p.1 / x + ((i % wd - 1 : Nat) : Int), p.2.1 / y + ((i / wd : Nat) : Int))) := fun hpos => by
    have e := Nat.div_add_mod i wd
    have hml : i % wd < wd := Nat.mod_lt _ hw1
    have h2 : i - 1 = wd * (i / wd) + (i % wd - 1) := by omega
    rw [get (i - 1) (by omega)]
    have hlt : i % wd - 1 < wd := Nat.lt_of_le_of_lt (Nat.sub_le _ _) hml
    rw [show (i - 1) % wd = i % wd - 1 by rw [h2, Nat.mul_add_mod, Nat.mod_eq_of_lt hlt], show (i - 1) / wd = i / wd by rw [h2, Nat.mul_add_div hw1, Nat.div_eq_of_lt hlt]; rfl]
  have key2 : wd ≤ i → 1 ≤ i / wd ∧ (blksF p x y)[i - wd]? = some (cellR p.1 p.2.1 p.2.2.1 p.2.2.2 x y (p.1 / x + ((i % wd : Nat) : Int), p.2.1 / y + ((i / wd - 1 : Nat) : Int))) := fun hpos => by
    refine ⟨Nat.div_pos hpos hw1, ?_⟩
    rw [get (i - wd) (by omega)]
    rw [show (i - wd) % wd = i % wd from (Nat.mod_eq_sub_mod hpos).symm, show (i - wd) / wd = i / wd - 1 by rw [Nat.div_eq_sub_div hw1 hpos]; rfl]
  have hm : i % wd < wd := Nat.mod_lt _ hw1
  have hd : i / wd < ht := Nat.div_lt_of_lt_mul (by rw [Nat.mul_comm]; exact hi)
  have hmz : i % wd = 0 ∨ 0 < i % wd := by omega
  obtain ⟨m, hme⟩ : ∃ m, i % wd = m := ⟨_, rfl⟩
  obtain ⟨d, hde⟩ : ∃ d, i / wd = d := ⟨_, rfl⟩
  rw [hme] at g0 key1 key2 hm
  rw [hde] at g0 key1 key2 hd
  have hwd2 : ceilF p.2.2.1 x = p.1 / x + (wd : Int) := by clear g0 key1 key2 get hlen; omega
  have hht2 : ceilF p.2.2.2 y = p.2.1 / y + (ht : Int) := by clear g0 key1 key2 get hlen; omega
  have sx' : 0 < m → _ := fun hpos => cell_side (p := p.1) (q := p.2.2.1) (a := p.1 / x + ((m - 1 : Nat) : Int)) hx ⟨h0.1, h0.2.1⟩ (by clear g0 key1 key2 get hlen; omega)
  have sy' : 1 ≤ d → _ := fun hpos => cell_side (p := p.2.1) (q := p.2.2.2) (a := p.2.1 / y + ((d - 1 : Nat) : Int)) hy ⟨h1.1, h1.2.1⟩ (by clear g0 key1 key2 get hlen; omega)
  have hr := Option.some.inj g0
  have sx := cell_side (p := p.1) (q := p.2.2.1) (a := p.1 / x + (m : Int)) hx ⟨h0.1, h0.2.1⟩ (by omega)
  have sy := cell_side (p := p.2.1) (q := p.2.2.2) (a := p.2.1 / y + (d : Int)) hy ⟨h1.1, h1.2.1⟩ (by omega)
  subst hr
  unfold cellR
  refine ⟨?_, ?_, ?_, ?_, ?_, ?_⟩
  · unfold RcOk inN
    dsimp only
    omega
  · exact ⟨sx.1, sy.1⟩
  · exact sx.2.1.trans sx.2.2.1.symm
  · exact sy.2.1.trans sy.2.2.1.symm
  · intro hpos
    rw [hme] at hpos
    refine ⟨_, key1 hpos, ?_, rfl⟩
    clear g0 key1 key2 get hlen
    show maxJ p.1 ((p.1 / x + (m : Int)) * x) = minJ p.2.2.1 ((p.1 / x + ((m - 1 : Nat) : Int) + 1) * x)
    rw [sx.2.2.2.2.2.1 (by omega), (sx' hpos).2.2.2.2.2.2.1 (by omega), show p.1 / x + ((m - 1 : Nat) : Int) + 1 = p.1 / x + (m : Int) by omega]
  · intro hpos
    obtain ⟨h5, h6⟩ := key2 hpos
    refine ⟨_, h6, ?_⟩
    clear g0 key1 key2 get hlen h6
    show maxJ p.2.1 ((p.2.1 / y + (d : Int)) * y) = minJ p.2.2.2 ((p.2.1 / y + ((d - 1 : Nat) : Int) + 1) * y)
    rw [sy.2.2.2.2.2.1 (by omega), (sy' h5).2.2.2.2.2.2.1 (by omega), show p.2.1 / y + ((d - 1 : Nat) : Int) + 1 = p.2.1 / y + (d : Int) by omega]
/-- What the law asks of the blocks of a precinct. -/
theorem blk_facts {b z : Rc4} {pr bw bh r k : Nat} (hb : RcOk 25 b) {BL : List Rc4} {bwd : Int} (h1 : (blkF b z pr bw bh r k).1 = BL) (h2 : (blkF b z pr bw bh r k).2 = bwd) :
    (bwd = 0 ∧ BL = []) ∨ ∃ wd ht : Nat, bwd = (wd : Int) ∧ 1 ≤ wd ∧ BL.length = ht * wd ∧ ∀ i r', BL[i]? = some r' → BkOk (cellX bw (qF pr r)) (cellX bh (qF pr r)) wd BL i r' := by
  unfold blkF at h1 h2
  split at h1
  · rename_i hc
    rw [if_pos hc] at h2
    left
    exact ⟨h2.symm, h1.symm⟩
  · rename_i hc
    rw [if_neg hc] at h2
    right
    have hx : ∀ m, 1 ≤ cellX m (qF pr r) := fun m => by
      unfold cellX
      have := Nat.pow_pos (n := min m (qF pr r)) (show 0 < 2 by omega)
      omega
    have he : ¬ (emptyB (partF b z pr r k) = true) := fun h => hc (Or.inr h)
    unfold emptyB at he
    simp only [decide_eq_true_eq, not_or, Int.not_le] at he
    obtain ⟨p, hp⟩ : ∃ p, partF b z pr r k = p := ⟨_, rfl⟩
    have h0 : 0 ≤ p.1 ∧ 0 ≤ p.2.1 ∧ p.2.2.1 ≤ 25 ∧ p.2.2.2 ≤ 25 := by
      obtain ⟨⟨a1, a2, a3, a4⟩, _, _⟩ := hb
      rw [← hp]
      unfold partF maxJ minJ
      dsimp only
      refine ⟨?_, ?_, ?_, ?_⟩ <;> split <;> omega
    rw [hp] at he h1 h2
    obtain ⟨wd, ht, e1, e2, e3, e4⟩ := blks_facts (p := p) (hx bw) (hx bh) ⟨h0.1, he.1, h0.2.2.1⟩ ⟨h0.2.1, he.2, h0.2.2.2⟩
    simp only at h1 h2
    rw [h1] at e3 e4
    exact ⟨wd, ht, h2.symm.trans e1, e2, e3, e4⟩
end Go.Proofs.Ythcpmonahmogaaa
