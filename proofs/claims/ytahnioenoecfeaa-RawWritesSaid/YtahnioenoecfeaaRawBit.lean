/- Bit of package raw's Reader, by its contract. -/
import Derived.Test.YtahnioenoecfeaaRawR
set_option linter.unusedVariables false
namespace Go.Proofs.Ytahnioenoecfeaa
open Go.RowKit

theorem Rr.drew {w : World} {lo p : Nat} {F : List Int} {r : Nat × Nat} (h : Rr w lo p F r) (n : Nat) : Rr (w.drewN n) lo p F r := h
theorem now_quiet {w : World} {lo p : Nat} {F : List Int} {r : Nat × Nat} (h : Rr w lo p F r) (i : Nat) (hl : F.length ≤ 100000) (nq : Nat) :
    Calls Try.prog 25 #[.pointer (some ⟨p, 0, none⟩), .int .i64 (i : Int)] (w.drewN nq) fun e w'' => e = .returned (.int .u8 (byteAt F i)) ∧ ∃ q, w'' = w.drewN q :=
  (now_any (h.drew nq) i hl).mono fun e w'' ⟨he, n, hn⟩ => ⟨he, nq + n, by rw [hn, World.drewN_drewN]⟩

set_option maxHeartbeats 4000000 in
theorem rbit_any {w : World} {lo p : Nat} {F : List Int} {r : Nat × Nat} (h : Rr w lo p F r) (hl : F.length ≤ 100000) (h1 : r.1 ≤ 200000) (h2 : r.2 ≤ 8) (hF : ∀ i, 0 ≤ byteAt F i ∧ byteAt F i ≤ 255) :
    Calls Try.prog 21 #[.pointer (some ⟨p, 0, none⟩)] w fun e w' => e = .returned (.int .i64 (rbit F (rstep F r))) ∧ Rr w' lo p F (rstep F r) ∧ Below lo w w' := by
  obtain ⟨a, l⟩ := r
  obtain ⟨hp, V, hb, hown⟩ := h
  have hVp := blk_not_row hb (by decide) hown
  unfold rstep
  simp only at h1 h2
  by_cases h0 : l = 0
  · subst h0
    rw [if_pos rfl]
    have c3 := blk_cell hb 3
    have z3 := blk_frozen hb 3
    simp at c3
    have hb1 := blk_set hb 3 (.int .i64 8)
    have own1 := ownsRow_setCell_other hown (a := ⟨p, 3, none⟩) hVp (.int .i64 8)
    have B1 : Below lo w (w.setCell ⟨p, 3, none⟩ (.int .i64 8)) := (Below.refl _ _).setCell (p := ⟨p, 3, none⟩) hp _
    generalize hW1 : w.setCell ⟨p, 3, none⟩ (.int .i64 8) = W1 at *
    have hb1' : W1.heap[p]? = some (.cells #[V, .int .u8 255, .int .i64 (a : Int), .int .i64 8] 50 (0, 0)) := hb1
    have NQ := Lib.hid (now_quiet (w := W1) (lo := lo) (p := p) (F := F) (r := (a, 8)) ⟨hp, V, hb1', own1⟩ a hl)
    have c2 := blk_cell hb1' 2
    simp at c2
    have HB1 := Lib.hid hb1'
    have HO1 := Lib.hid own1
    clear hb hown hb1 hb1' own1
    have hFa := hF a
    by_cases hfull : byteAt F a = 255
    · rw [if_pos hfull, show 7 - 1 = 6 from rfl]
      have hbt : (byteAt F a == 255) = true := by rw [hfull]; rfl
      have hb0 := hFa
      go_enter Try.func21, Try.ntmps21
      go_wp2
      go_quiet ((go_at_call 25; exact NQ.out _))
      obtain ⟨W2, hW2⟩ : ∃ W2, W1.drewN nq = W2 := ⟨_, rfl⟩
      have HB2 : Hid (W2.heap[p]? = some (.cells #[V, .int .u8 255, .int .i64 (a : Int), .int .i64 8] 50 (0, 0))) := by rw [← hW2]; exact HB1.out
      have HO2 : Hid (W2.ownsRow lo 5 1 V F.length (F.map (Value.int .u8))) := by rw [← hW2]; exact HO1.out
      have B2 : Below lo w W2 := by rw [← hW2]; exact below_drewN B1 nq
      rw [hW2]
      clear hW2 HB1 HO1 B1 NQ c2 c3 z3
      have e3 := blk_cell HB2.out 3
      have y3 := blk_frozen HB2.out 3
      simp at e3
      have hb3 := blk_set HB2.out 3 (.int .i64 7)
      have own3 := ownsRow_setCell_other HO2.out (a := ⟨p, 3, none⟩) hVp (.int .i64 7)
      have B3 := B2.setCell (p := ⟨p, 3, none⟩) hp (.int .i64 7)
      generalize hW3 : W2.setCell ⟨p, 3, none⟩ (.int .i64 7) = W3 at *
      have HB3 : Hid (W3.heap[p]? = some (.cells #[V, .int .u8 255, .int .i64 (a : Int), .int .i64 7] 50 (0, 0))) := hb3
      have HO3 := Lib.hid own3
      clear hb3 own3
      have f2 := blk_cell HB3.out 2
      have x2 := blk_frozen HB3.out 2
      simp at f2
      have hb4 := blk_set HB3.out 2 (.int .i64 ((a : Int) + 1))
      have own4 := ownsRow_setCell_other HO3.out (a := ⟨p, 2, none⟩) hVp (.int .i64 ((a : Int) + 1))
      have B4 := B3.setCell (p := ⟨p, 2, none⟩) hp (.int .i64 ((a : Int) + 1))
      generalize hW4 : W3.setCell ⟨p, 2, none⟩ (.int .i64 ((a : Int) + 1)) = W4 at *
      have hb4' : W4.heap[p]? = some (.cells #[V, .int .u8 255, .int .i64 ((a : Int) + 1), .int .i64 7] 50 (0, 0)) := hb4
      have f3 := blk_cell hb4' 3
      have x3 := blk_frozen hb4' 3
      simp at f3
      have hb5 := blk_set hb4' 3 (.int .i64 6)
      have own5 := ownsRow_setCell_other own4 (a := ⟨p, 3, none⟩) hVp (.int .i64 6)
      have B5 := B4.setCell (p := ⟨p, 3, none⟩) hp (.int .i64 6)
      generalize hW5 : W4.setCell ⟨p, 3, none⟩ (.int .i64 6) = W5 at *
      have hb5' : W5.heap[p]? = some (.cells #[V, .int .u8 255, .int .i64 ((a + 1 : Nat) : Int), .int .i64 ((6 : Nat) : Int)] 50 (0, 0)) := hb5
      have NQ5 : Hid (∀ nq, Calls Try.prog 25 #[.pointer (some ⟨p, 0, none⟩), .int .i64 ((a : Int) + 1)] (W5.drewN nq) fun e w'' => e = .returned (.int .u8 (byteAt F (a + 1))) ∧ ∃ q, w'' = W5.drewN q) := now_quiet (w := W5) (lo := lo) (p := p) (F := F) (r := (a + 1, 6)) ⟨hp, V, hb5', own5⟩ (a + 1) hl
      have d2 : W5.cell? ⟨p, 2, none⟩ = some (.int .i64 ((a : Int) + 1)) := blk_cell hb5' 2
      have d3 : W5.cell? ⟨p, 3, none⟩ = some (.int .i64 6) := blk_cell hb5' 3
      have hRR : Hid (∀ n, Rr (W5.drewN n) lo p F (a + 1, 6)) := fun n => ⟨hp, V, hb5', own5⟩
      have hb1' := hF (a + 1)
      have hrb : Hid (rbit F (a + 1, 6) = byteAt F (a + 1) / 2 ^ 6 % 2) := rfl
      have hand := and_bit (byteAt F (a + 1) / 64)
      generalize byteAt F (a + 1) = x at *
      clear hb4 hb4' own4 hb5 hb5' own5 HB2 HO2 HB3 HO3 B2 B3 B4
      go_wp2
      go_quiet ((go_at_call 25; exact NQ5.out _))
      go_wp2
      go_ret
      refine ⟨ret_i64 ?_, hRR.out nq, below_drewN B5 nq⟩
      rw [hrb.out]
      first | rfl | (rw [show (2 : Int) ^ 6 = 64 from by decide]) | (rw [show (2 : Int) ^ 7 = 128 from by decide])
    · rw [if_neg hfull, show 8 - 1 = 7 from rfl]
      have hbt : (byteAt F a == 255) = false := by simpa using hfull
      have hb0 := hFa
      go_enter Try.func21, Try.ntmps21
      go_wp2
      go_quiet ((go_at_call 25; exact NQ.out _))
      obtain ⟨W2, hW2⟩ : ∃ W2, W1.drewN nq = W2 := ⟨_, rfl⟩
      have HB2 : Hid (W2.heap[p]? = some (.cells #[V, .int .u8 255, .int .i64 (a : Int), .int .i64 8] 50 (0, 0))) := by rw [← hW2]; exact HB1.out
      have HO2 : Hid (W2.ownsRow lo 5 1 V F.length (F.map (Value.int .u8))) := by rw [← hW2]; exact HO1.out
      have B2 : Below lo w W2 := by rw [← hW2]; exact below_drewN B1 nq
      rw [hW2]
      clear hW2 HB1 HO1 B1 NQ c2 c3 z3
      obtain ⟨W3, hW3⟩ : ∃ W3, W3 = W2 := ⟨_, rfl⟩
      subst hW3
      have HB3 : Hid (W3.heap[p]? = some (.cells #[V, .int .u8 255, .int .i64 (a : Int), .int .i64 8] 50 (0, 0))) := HB2
      have HO3 := HO2
      have B3 := B2
      have f2 := blk_cell HB3.out 2
      have x2 := blk_frozen HB3.out 2
      simp at f2
      have hb4 := blk_set HB3.out 2 (.int .i64 ((a : Int) + 1))
      have own4 := ownsRow_setCell_other HO3.out (a := ⟨p, 2, none⟩) hVp (.int .i64 ((a : Int) + 1))
      have B4 := B3.setCell (p := ⟨p, 2, none⟩) hp (.int .i64 ((a : Int) + 1))
      generalize hW4 : W3.setCell ⟨p, 2, none⟩ (.int .i64 ((a : Int) + 1)) = W4 at *
      have hb4' : W4.heap[p]? = some (.cells #[V, .int .u8 255, .int .i64 ((a : Int) + 1), .int .i64 8] 50 (0, 0)) := hb4
      have f3 := blk_cell hb4' 3
      have x3 := blk_frozen hb4' 3
      simp at f3
      have hb5 := blk_set hb4' 3 (.int .i64 7)
      have own5 := ownsRow_setCell_other own4 (a := ⟨p, 3, none⟩) hVp (.int .i64 7)
      have B5 := B4.setCell (p := ⟨p, 3, none⟩) hp (.int .i64 7)
      generalize hW5 : W4.setCell ⟨p, 3, none⟩ (.int .i64 7) = W5 at *
      have hb5' : W5.heap[p]? = some (.cells #[V, .int .u8 255, .int .i64 ((a + 1 : Nat) : Int), .int .i64 ((7 : Nat) : Int)] 50 (0, 0)) := hb5
      have NQ5 : Hid (∀ nq, Calls Try.prog 25 #[.pointer (some ⟨p, 0, none⟩), .int .i64 ((a : Int) + 1)] (W5.drewN nq) fun e w'' => e = .returned (.int .u8 (byteAt F (a + 1))) ∧ ∃ q, w'' = W5.drewN q) := now_quiet (w := W5) (lo := lo) (p := p) (F := F) (r := (a + 1, 7)) ⟨hp, V, hb5', own5⟩ (a + 1) hl
      have d2 : W5.cell? ⟨p, 2, none⟩ = some (.int .i64 ((a : Int) + 1)) := blk_cell hb5' 2
      have d3 : W5.cell? ⟨p, 3, none⟩ = some (.int .i64 7) := blk_cell hb5' 3
      have hRR : Hid (∀ n, Rr (W5.drewN n) lo p F (a + 1, 7)) := fun n => ⟨hp, V, hb5', own5⟩
      have hb1' := hF (a + 1)
      have hrb : Hid (rbit F (a + 1, 7) = byteAt F (a + 1) / 2 ^ 7 % 2) := rfl
      have hand := and_bit (byteAt F (a + 1) / 128)
      generalize byteAt F (a + 1) = x at *
      clear hb4 hb4' own4 hb5 hb5' own5 HB2 HO2 HB3 HO3 B2 B3 B4
      go_wp2
      go_quiet ((go_at_call 25; exact NQ5.out _))
      go_wp2
      go_ret
      refine ⟨ret_i64 ?_, hRR.out nq, below_drewN B5 nq⟩
      rw [hrb.out]
      first | rfl | (rw [show (2 : Int) ^ 6 = 64 from by decide]) | (rw [show (2 : Int) ^ 7 = 128 from by decide])
  · rw [if_neg h0]
    obtain ⟨k, rfl⟩ : ∃ k, l = k + 1 := ⟨l - 1, by omega⟩
    rw [show k + 1 - 1 = k from rfl]
    have hkb : ((k : Int) + 1 == 0) = false := by simp; omega
    have c3 := blk_cell hb 3
    have z3 := blk_frozen hb 3
    simp at c3
    have hb5 := blk_set hb 3 (.int .i64 (k : Int))
    have own5 := ownsRow_setCell_other hown (a := ⟨p, 3, none⟩) hVp (.int .i64 (k : Int))
    have B5 : Below lo w (w.setCell ⟨p, 3, none⟩ (.int .i64 (k : Int))) := (Below.refl _ _).setCell (p := ⟨p, 3, none⟩) hp _
    generalize hW5 : w.setCell ⟨p, 3, none⟩ (.int .i64 (k : Int)) = W5 at *
    have hb5' : W5.heap[p]? = some (.cells #[V, .int .u8 255, .int .i64 (a : Int), .int .i64 (k : Int)] 50 (0, 0)) := hb5
    have NQ5 := Lib.hid (now_quiet (w := W5) (lo := lo) (p := p) (F := F) (r := (a, k)) ⟨hp, V, hb5', own5⟩ a hl)
    have d2 := blk_cell hb5' 2
    have d3 := blk_cell hb5' 3
    simp at d2 d3
    have hRR : Hid (∀ n, Rr (W5.drewN n) lo p F (a, k)) := fun n => ⟨hp, V, hb5', own5⟩
    have hand := and_bit (byteAt F a / 2 ^ k)
    have hb0 := hF a
    have hrb : Hid (rbit F (a, k) = byteAt F a / 2 ^ k % 2) := rfl
    generalize byteAt F a = x at *
    clear hb hown hb5 hb5' own5
    go_enter Try.func21, Try.ntmps21
    go_wp2
    go_quiet ((go_at_call 25; exact NQ5.out _))
    go_wp2
    go_ret
    refine ⟨ret_i64 ?_, hRR.out nq, below_drewN B5 nq⟩
    have q0 : 0 ≤ x / 2 ^ k := Int.ediv_nonneg hb0.1 (by have := pow_pos' k; omega)
    have q1 : x / 2 ^ k ≤ x := Int.ediv_le_self _ hb0.1
    rw [hrb.out, IntWalk.wrap64_in _ (by omega), hand]
end Go.Proofs.Ytahnioenoecfeaa
