/- canvas: what the laws share: tiles both ways, bounds of rectangles. -/
import Derived.Test.YthcpmonahmogaaaCvMk
import Derived.Test.YthcpmonahmogaaaCvO1
import Derived.Test.YthcpmonahmogaaaCvO2
import Derived.Test.YthcpmonahmogaaaCvT
import Derived.Test.YthcpmonahmogaaaCvM9
set_option linter.unusedVariables false
set_option linter.unusedSimpArgs false
namespace Go.Proofs.Ythcpmonahmogaaa
open Go.RowKit
set_option maxRecDepth 100000
theorem IsRow.below {k : IntKind} {w w' : World} {a : Option Addr} {len cap : Nat} {zs : List Int} (h : IsRow k w a len cap zs) (hb : Below w.heap.size w w') : IsRow k w' a len cap zs := by
  rcases h with h | ⟨x, h1, h2, h3, h4, h5, h6⟩
  · exact Or.inl h
  · refine Or.inr ⟨x, h1, h2, h3, h4, fun i hi => ?_, h6⟩
    exact (hb.cell (World.block_lt_of_cell? w _ (h5 i hi))).trans (h5 i hi)
theorem maxJ_comm (a b : Int) : maxJ a b = maxJ b a := by unfold maxJ; split <;> split <;> omega
theorem minJ_comm (a b : Int) : minJ a b = minJ b a := by unfold minJ; split <;> split <;> omega
theorem rtls_cell (x y ox oy tx ty : Int) (wd : Nat) : ∀ ht : Nat, rtls x y ox oy tx ty wd ht = (plP 0 0 wd ht).map fun q => cellR ox oy x y tx ty q
  | 0 => rfl
  | m + 1 => by
    rw [rtls_succ, rtls_cell x y ox oy tx ty wd m, plP, List.map_append]
    congr 1
    unfold rrow rowP
    rw [List.map_map]
    apply List.map_congr_left
    intro i _
    show rtl x y ox oy tx ty i m = cellR ox oy x y tx ty (0 + (i : Int), 0 + (m : Int))
    unfold rtl cellR
    dsimp only
    rw [Int.zero_add, Int.zero_add, maxJ_comm ox, maxJ_comm oy, minJ_comm x, minJ_comm y]
def RcOk (m : Int) (r : Rc4) : Prop := inN r m ∧ r.1 ≤ r.2.2.1 ∧ r.2.1 ≤ r.2.2.2
theorem ceil_eq {a y : Int} (hy : 1 ≤ y) : ceilF a y = -((-a) / y) := by
  unfold ceilF
  have e1 := Int.mul_ediv_add_emod a y
  have hr0 := Int.emod_nonneg a (show y ≠ 0 by omega)
  have hlt := Int.emod_lt_of_pos a (show 0 < y by omega)
  generalize a / y = q at *
  generalize a % y = r at *
  subst e1
  by_cases c : 0 < r
  · rw [if_pos c, show -(y * q + r) = (y - r) + y * (-(q + 1)) by rw [Int.mul_neg, Int.mul_add, Int.mul_one]; omega, Int.add_mul_ediv_left _ _ (by omega), Int.ediv_eq_zero_of_lt (by omega) (by omega)]
    omega
  · rw [if_neg c, show -(y * q + r) = 0 + y * (-q) by rw [Int.mul_neg]; omega, Int.add_mul_ediv_left _ _ (by omega), Int.ediv_eq_zero_of_lt (by omega) (by omega)]
    omega
theorem ceil_ge0 {a y : Int} (hy : 1 ≤ y) (h : -y < a) : 0 ≤ ceilF a y := by
  rw [ceil_eq hy]
  have : (-a) / y < 1 := Int.ediv_lt_of_lt_mul (by omega) (by omega)
  omega
theorem ceil_le {a y m : Int} (hy : 1 ≤ y) (h : a ≤ m) (hm : 0 ≤ m) : ceilF a y ≤ m := by
  have h1 := ceil_mono h hy
  have h2 := ceil_bd m y hm hy
  omega
theorem over_ok {m : Int} {r : Rc4} (h : RcOk m r) (dx dy : Int) (hx : 1 ≤ dx) (hy : 1 ≤ dy) (hm : 0 ≤ m) : RcOk m (ceilF r.1 dx, ceilF r.2.1 dy, ceilF r.2.2.1 dx, ceilF r.2.2.2 dy) := by
  obtain ⟨⟨a1, a2, a3, a4⟩, b1, b2⟩ := h
  exact ⟨⟨⟨ceil_ge0 hx (by omega), ceil_le hx a1.2 hm⟩, ⟨ceil_ge0 hy (by omega), ceil_le hy a2.2 hm⟩, ⟨ceil_ge0 hx (by omega), ceil_le hx a3.2 hm⟩, ⟨ceil_ge0 hy (by omega), ceil_le hy a4.2 hm⟩⟩, ceil_mono b1 hx, ceil_mono b2 hy⟩
theorem ovR_ok {m : Int} {r : Rc4} (h : RcOk m r) (n ax ay : Int) (hn : 1 ≤ n) (h1 : 0 ≤ ax ∧ ax < n) (h2 : 0 ≤ ay ∧ ay < n) (hm : 0 ≤ m) : RcOk m (ovR r n ax ay) := by
  obtain ⟨⟨a1, a2, a3, a4⟩, b1, b2⟩ := h
  exact ⟨⟨⟨ceil_ge0 hn (by omega), ceil_le hn (by omega) hm⟩, ⟨ceil_ge0 hn (by omega), ceil_le hn (by omega) hm⟩, ⟨ceil_ge0 hn (by omega), ceil_le hn (by omega) hm⟩, ⟨ceil_ge0 hn (by omega), ceil_le hn (by omega) hm⟩⟩, ceil_mono (by omega) hn, ceil_mono (by omega) hn⟩
theorem bands_ok {m : Int} {r : Rc4} (h : RcOk m r) (lv k : Nat) (hl : lv ≤ 15) (hm : 0 ≤ m) : ∀ b ∈ bandsR r lv k, RcOk m b := by
  intro b hb
  unfold bandsR at hb
  split at hb
  · simp only [List.mem_singleton] at hb
    subst hb
    exact over_ok h _ _ (pow16 lv (by omega)).1 (pow16 lv (by omega)).1 hm
  · have hp := pow16 (lv - k + 1) (by omega)
    have h2 : 2 ≤ ((2 ^ (lv - k + 1) : Nat) : Int) := by
      rw [Nat.pow_succ]
      have := Nat.pow_pos (n := lv - k) (show 0 < 2 by omega)
      omega
    simp only [List.mem_cons, List.not_mem_nil, or_false] at hb
    rcases hb with rfl | rfl | rfl
    · exact ovR_ok h _ _ _ hp.1 (by omega) (by omega) hm
    · exact ovR_ok h _ _ _ hp.1 (by omega) (by omega) hm
    · exact ovR_ok h _ _ _ hp.1 (by omega) (by omega) hm
theorem bands_len (r : Rc4) (lv k : Nat) : (bandsR r lv k).length ≤ 3 ∧ 1 ≤ (bandsR r lv k).length ∧ (bandsK k).length = (bandsR r lv k).length := by
  unfold bandsR bandsK
  split <;> simp
theorem tile_of {x y ox oy tx ty : Int} {wd : Nat} : ∀ (ht : Nat) (r : Rc4), r ∈ rtls x y ox oy tx ty wd ht → ∃ a b : Nat, a < wd ∧ b < ht ∧ r = rtl x y ox oy tx ty a b
  | 0, r, h => by simp [rtls] at h
  | m + 1, r, h => by
    rw [rtls_succ, List.mem_append] at h
    rcases h with h | h
    · obtain ⟨a, b, h1, h2, h3⟩ := tile_of m r h
      exact ⟨a, b, h1, by omega, h3⟩
    · unfold rrow at h
      obtain ⟨a, ha, rfl⟩ := List.mem_map.1 h
      exact ⟨a, m, by simpa using ha, by omega, rfl⟩
theorem tile_ok {x y ox oy tx ty s : Int} {wd ht : Nat} (hx : 0 ≤ ox ∧ ox < x ∧ x ≤ s) (hy : 0 ≤ oy ∧ oy < y ∧ y ≤ s) (htx : ox < tx) (hty : oy < ty) (hwd : ceilF x tx = (wd : Int)) (hht : ceilF y ty = (ht : Int)) :
    ∀ r ∈ rtls x y ox oy tx ty wd ht, RcOk s r ∧ (ox ≤ r.1 ∧ r.1 < r.2.2.1 ∧ r.2.2.1 ≤ x) ∧ (oy ≤ r.2.1 ∧ r.2.1 < r.2.2.2 ∧ r.2.2.2 ≤ y) := by
  intro r hr
  obtain ⟨a, b, ha, hb, rfl⟩ := tile_of ht r hr
  have h1 : (a : Int) * tx < x := (lt_ceil (by omega)).2 (by rw [hwd]; omega)
  have h2 : (b : Int) * ty < y := (lt_ceil (by omega)).2 (by rw [hht]; omega)
  have h3 : 0 ≤ (a : Int) * tx := Int.mul_nonneg (by omega) (by omega)
  have h4 : 0 ≤ (b : Int) * ty := Int.mul_nonneg (by omega) (by omega)
  have e1 : ((a : Int) + 1) * tx = (a : Int) * tx + tx := by rw [Int.add_mul, Int.one_mul]
  have e2 : ((b : Int) + 1) * ty = (b : Int) * ty + ty := by rw [Int.add_mul, Int.one_mul]
  unfold RcOk inN rtl maxJ minJ
  dsimp only
  rw [e1, e2]
  refine ⟨⟨⟨?_, ?_, ?_, ?_⟩, ?_, ?_⟩, ⟨?_, ?_, ?_⟩, ⟨?_, ?_, ?_⟩⟩ <;> repeat' split
  all_goals omega
theorem frame_tiles {x y ox oy tx ty : Int} (hx : 0 ≤ ox ∧ ox < x ∧ x ≤ 64) (hy : 0 ≤ oy ∧ oy < y ∧ y ≤ 64) (htx : ox < tx ∧ tx ≤ 832) (hty : oy < ty ∧ ty ≤ 832) (hc : cntT x y tx ty ≤ 6) : gridF x y ox oy = 0 ∧ tilesF x y ox oy tx ty = 0 := by
  have b1 := ceil_bd x tx (by omega) (by omega)
  have b2 := ceil_bd y ty (by omega) (by omega)
  unfold cntT at hc
  refine ⟨by unfold gridF; rw [if_neg (by omega), if_neg (by omega)], ?_⟩
  unfold tilesF
  rw [if_neg (by omega), if_neg]
  obtain ⟨a, ha⟩ : ∃ a : Nat, ceilF x tx = (a : Int) := ⟨(ceilF x tx).toNat, by omega⟩
  obtain ⟨b, hb⟩ : ∃ b : Nat, ceilF y ty = (b : Int) := ⟨(ceilF y ty).toNat, by omega⟩
  rw [ha, hb] at hc ⊢
  rw [Int.toNat_natCast, Int.toNat_natCast, Nat.mul_comm] at hc
  rw [← Int.natCast_mul]
  omega
theorem blk_len {b z : Rc4} (pr bw bh r k : Nat) (hb : RcOk 25 b) : (blkF b z pr bw bh r k).1.length ≤ 1000 := by
  unfold blkF
  split
  · simp
  · obtain ⟨⟨a1, a2, a3, a4⟩, _, _⟩ := hb
    obtain ⟨p, hp⟩ : ∃ p, partF b z pr r k = p := ⟨_, rfl⟩
    have h0 : 0 ≤ p.1 ∧ 0 ≤ p.2.1 ∧ p.2.2.1 ≤ 25 ∧ p.2.2.2 ≤ 25 := by
      rw [← hp]
      unfold partF maxJ minJ
      dsimp only
      refine ⟨?_, ?_, ?_, ?_⟩ <;> split <;> omega
    rw [hp]
    have key : ∀ (m : Nat) (a c : Int), 0 ≤ a → c ≤ 25 → (ceilF c (cellX m (qF pr r)) - a / cellX m (qF pr r)).toNat ≤ 25 := fun m a c ha hc => by
      have hx : 1 ≤ cellX m (qF pr r) := by
        unfold cellX
        have := Nat.pow_pos (n := min m (qF pr r)) (show 0 < 2 by omega)
        omega
      have e1 := ceil_le hx hc (by omega)
      have e2 : 0 ≤ a / cellX m (qF pr r) := Int.ediv_nonneg ha (by omega)
      omega
    unfold blksF
    rw [List.length_map, plP_len]
    have := Nat.mul_le_mul (key bh p.2.1 p.2.2.2 h0.2.1 h0.2.2.2) (key bw p.1 p.2.2.1 h0.1 h0.2.2.1)
    omega
end Go.Proofs.Ythcpmonahmogaaa
