/- The statement BytesEnds of chapter 1, walked. -/
import Derived.Test.YtjnmdfnankcboaaBytesGet
set_option linter.unusedVariables false
namespace Go.Proofs.Ytjnmdfnankcboaa
open Go.RowKit

/-- The numbers of a row, as they came in. -/
theorem row_u8 {w : World} {a : Option Addr} {len cap : Nat} {zs : List Int} (h : IsRow .u8 w a len cap zs) : ∀ x ∈ zs.take len, 0 ≤ x ∧ x ≤ 255 := by
  rcases h with ⟨rfl, rfl, rfl, rfl⟩ | ⟨x, rfl, hl, hm, hz, hc, hw⟩
  · simp
  · intro y hy
    have := hw y (List.mem_of_mem_take hy)
    have hmin : IntKind.u8.min = 0 := rfl
    have hmax : IntKind.u8.max = 255 := rfl
    simp only [Lit.wf, Bool.and_eq_true, decide_eq_true_eq] at this
    omega

theorem Rd.drew {w w' : World} {lo p : Nat} {l : List Int} {err : Int} (h : Rd w lo p l err) (d : Drew w w') : Rd w' lo p l err := by
  obtain ⟨n, rfl⟩ := d
  exact h
theorem end_is {n : Nat} {e : Int} (h : e ≠ 0) : endE n e = e := if_neg (by omega)

set_option maxHeartbeats 2000000 in
theorem walk_bytesEnds (a0 : Option Addr) (len0 cap0 : Nat) (z0 : List Int) (a1 : Int) (w : World) (w0 : IsRow .u8 w a0 len0 cap0 z0) (w1 : (Lit.int .i64 a1).wf = true) :
    Calls Try.prog 6 #[.slice a0 len0 cap0, .int .i64 a1] w fun e w' => e = .returned (.bool true) ∧ Below w.heap.size w w' := by
  have hl := lst_of_row w0
  obtain ⟨hlen, hlc, hcm, hnil⟩ := row_len w0
  have hb8 := row_u8 w0
  clear w0 w1
  generalize hz : z0.take len0 = l at *
  clear hz
  unfold maxLen at hcm
  have HL := Lib.hid hl
  have HLen := Lib.hid hlen
  have HNil := Lib.hid hnil
  have HB8 := Lib.hid hb8
  clear hl hlen hnil hb8
  by_cases c : len0 ≤ 100
  · go_enter Try.func6, Try.ntmps6
    go_wp2_with fail
    refine (known1 _).mono ?_
    rintro e w1 ⟨rfl, h1⟩
    have s1 := h1.size
    go_wp2_with fail
    refine (new_any a0 len0 cap0 l _ HLen.out HNil.out ((HL.out.below h1).more s1) (by omega)).mono ?_
    rintro e w2 ⟨p, rfl, hp, hb2⟩
    have h2 : Below w.heap.size w w2 := h1.trans (hb2.mono s1)
    have s2 := h2.size
    have lp := hp.lt
    go_wp2_with fail
    refine (new_any a0 len0 cap0 l _ HLen.out HNil.out ((HL.out.below h2).more s2) (by omega)).mono ?_
    rintro e w3 ⟨q, rfl, hq, hb3⟩
    have h3 : Below w.heap.size w w3 := h2.trans (hb3.mono s2)
    have s3 := h3.size
    have hp3 := hp.below hb3 lp
    have lq := hq.lt
    have lo1 := hq.1
    clear hp hb2
    go_wp2_with fail
    refine (new_any a0 len0 cap0 l _ HLen.out HNil.out ((HL.out.below h3).more s3) (by omega)).mono ?_
    rintro e w4 ⟨o, rfl, ho, hb4⟩
    have h4 : Below w.heap.size w w4 := h3.trans (hb4.mono s3)
    have s4 := h4.size
    have hp4 := hp3.below hb4 (by have := hb3.size; omega)
    have hq4 := hq.below hb4 lq
    have lo2 := ho.1
    have z23 := hb3.size
    have z34 := hb4.size
    have hll : l.length ≤ 140737488351232 := by rw [HLen.out]; omega
    have LL := Lib.hid hll
    have P1 := Lib.hid hp4.1
    clear hp3 hq hb3 hb4 h2 h3 hll
    go_wp2_with fail
    refine (some1 _ _ _ (by omega) (by omega)).mono ?_
    rintro e w' ⟨u, rfl, u0, u1, rfl⟩
    have m1 := Lib.hid (show mayE (decide (0 ≤ (len0 : Int) + 1 + u)) ((len0 : Int) + 1 + u) l.length 0 = 8 from by
      have := HLen.out
      rw [decide_eq_true (by omega)]; unfold mayE failE; rw [if_neg (by simp), if_pos (by omega)]; rfl)
    go_wp2_with fail
    refine (take_no _ hp4 (Or.inr (Or.inl (by have := HLen.out; omega))) LL.out).mono ?_
    rintro e w5 ⟨rfl, hp5, _, hg5⟩
    rw [m1.out] at hp5
    have hq5 := hq4.grown hg5 (Or.inl (by omega))
    have ho5 := ho.grown hg5 (Or.inl (by omega))
    have h5 := h4.grown hg5 s4 (by intro k hk; injection hk with hk; have := P1.out; omega)
    have s5 := h5.size
    clear hp4 hq4 ho hg5 h4
    go_wp2_with fail
    refine (some1 _ _ _ (by omega) (by omega)).mono ?_
    rintro e w' ⟨v, rfl, v0, v1, rfl⟩
    have m2 := Lib.hid (show mayE (decide (1 ≤ 9 + v ∧ 9 + v ≤ 8)) (9 + v) l.length 0 = 1 from by
      rw [decide_eq_false (by omega)]; rfl)
    go_wp2_with fail
    refine (get_no _ hq5 (Or.inl (by omega)) LL.out).mono ?_
    rintro e w6 ⟨rfl, hq6, _, hg6⟩
    rw [m2.out] at hq6
    have hp6 := hp5.grown hg6 (Or.inr (by omega))
    have ho6 := ho5.grown hg6 (Or.inl (by omega))
    have h6 := h5.grown hg6 s5 (by intro k hk; injection hk with hk; omega)
    have s6 := h6.size
    clear hp5 hq5 ho5 hg6 h5
    go_wp2_with fail
    refine (some1 _ _ _ (by omega) (by omega)).mono ?_
    rintro e w' ⟨x, rfl, x0, x1, rfl⟩
    have m3 := Lib.hid (show mayE (decide (0 ≤ -1 - x)) (-1 - x) l.length 0 = 1 from by
      rw [decide_eq_false (by omega)]; rfl)
    go_wp2_with fail
    refine (take_no _ ho6 (Or.inl (by omega)) LL.out).mono ?_
    rintro e w7 ⟨rfl, ho7, _, hg7⟩
    rw [m3.out] at ho7
    have hp7 := hp6.grown hg7 (Or.inr (by omega))
    have hq7 := hq6.grown hg7 (Or.inr (by omega))
    have h7 := h6.grown hg7 s6 (by intro k hk; injection hk with hk; omega)
    have s7 := h7.size
    clear hp6 hq6 ho6 hg7 h6
    go_wp2_with fail
    refine (end_any hp7 LL.out).mono ?_
    rintro e w8 ⟨he, d8⟩
    rw [end_is (by decide)] at he
    subst he
    have hp8 := hp7.drew d8
    have hq8 := hq7.drew d8
    have ho8 := ho7.drew d8
    have h8 := Drew.to h7 d8
    clear hp7 hq7 ho7 d8 h7
    go_wp2_with fail
    refine (end_any hq8 LL.out).mono ?_
    rintro e w9 ⟨he, d9⟩
    rw [end_is (by decide)] at he
    subst he
    have hp9 := hp8.drew d9
    have hq9 := hq8.drew d9
    have ho9 := ho8.drew d9
    have h9 := Drew.to h8 d9
    clear hp8 hq8 ho8 d9 h8
    go_wp2_with fail
    refine (end_any ho9 LL.out).mono ?_
    rintro e w10 ⟨he, d10⟩
    rw [end_is (by decide)] at he
    subst he
    have hp10 := hp9.drew d10
    have hq10 := hq9.drew d10
    have h10 := Drew.to h9 d10
    have s10 := h10.size
    clear hp9 hq9 ho9 d10 h9
    go_wp2_with fail
    refine (left_any hp10 LL.out).mono ?_
    rintro e w' ⟨he, rfl⟩
    rw [if_neg (by decide)] at he
    subst he
    go_wp2_with fail
    refine (get_no 1 hp10 (Or.inr (Or.inr (by decide))) LL.out).mono ?_
    rintro e w11 ⟨rfl, _, _, hg11⟩
    have hq11 := hq10.grown hg11 (Or.inl (by omega))
    have h11 := h10.grown hg11 s10 (by intro k hk; injection hk with hk; have := P1.out; omega)
    have s11 := h11.size
    clear hp10 hq10 hg11 h10
    go_wp2_with fail
    refine (take_no 0 hq11 (Or.inr (Or.inr (by decide))) LL.out).mono ?_
    rintro e w12 ⟨rfl, _, _, hg12⟩
    have h12 := h11.grown hg12 s11 (by intro k hk; injection hk with hk; omega)
    clear hq11 hg12 h11
    go_wp2
    go_ret
    exact ⟨rfl, h12⟩
  · go_enter Try.func6, Try.ntmps6
    go_wp2_with fail
    refine (known1 _).mono ?_
    rintro e w1 ⟨rfl, h1⟩
    go_wp2
    go_ret
    exact ⟨rfl, h1⟩

end Go.Proofs.Ytjnmdfnankcboaa
