/- The Reader of package bits: its methods by their contracts. -/
import Derived.Test.YtobbkdhndojggaaBitX
set_option linter.unusedVariables false
namespace Go.Proofs.Ytobbkdhndojggaa
open Go.RowKit
set_option maxRecDepth 100000

/-- Where a Reader stands: bytes begun, bits left of the last of them, whether one was bad. -/
structure RS where
  n : Nat
  l : Nat
  bad : Bool
/-- Block p is a Reader of the bytes F. -/
def Rb (w : World) (lo p : Nat) (F : List Int) (s : RS) : Prop :=
  lo ≤ p ∧ ∃ V, w.heap[p]? = some (.cells #[V, .int .i64 (s.n : Int), .int .i64 (s.l : Int), .bool s.bad] 145 (0, 0)) ∧ w.ownsRow lo 5 1 V F.length (F.map (Value.int .u8))
theorem Rb.drew {w : World} {lo p : Nat} {F : List Int} {s : RS} (h : Rb w lo p F s) (n : Nat) : Rb (w.drewN n) lo p F s := h
theorem Rb.lt {w : World} {lo p : Nat} {F : List Int} {s : RS} (h : Rb w lo p F s) : p < w.heap.size := by
  obtain ⟨_, V, hb, _⟩ := h
  exact blk_lt hb
def rsnext (F : List Int) (s : RS) : RS := ⟨(pstep F (s.n, s.l)).1, (pstep F (s.n, s.l)).2, s.bad || (decide (s.l = 0) && decide (curF F s.n = 255) && decide (128 ≤ curF F (pstep F (s.n, s.l)).1))⟩
def rsbit (F : List Int) (s : RS) : Int := curF F (rsnext F s).n / 2 ^ (rsnext F s).l % 2
theorem pstep_rng (F : List Int) (s : Nat × Nat) (h : s.2 ≤ 8) : (pstep F s).2 ≤ 7 ∧ (pstep F s).1 ≤ s.1 + 1 := by
  obtain ⟨a, b⟩ := s
  simp only at h
  unfold pstep
  by_cases h0 : b = 0
  · rw [if_pos h0]
    show (if curF F a = 255 then 7 else 8) - 1 ≤ 7 ∧ a + 1 ≤ a + 1
    split <;> omega
  · rw [if_neg h0]
    show b - 1 ≤ 7 ∧ a ≤ a + 1
    omega
theorem curF_rng {F : List Int} (h : ∀ x ∈ F, 0 ≤ x ∧ x ≤ 255) (i : Nat) : 0 ≤ curF F i ∧ curF F i ≤ 255 := by
  unfold curF
  split
  · omega
  · rw [List.getD_eq_getElem?_getD]
    rcases Nat.lt_or_ge (i - 1) F.length with hi | hi
    · rw [List.getElem?_eq_getElem hi]; exact h _ (List.getElem_mem hi)
    · rw [List.getElem?_eq_none hi]; decide

set_option maxHeartbeats 1000000 in
theorem brnew_any {A : Option Addr} {n c : Nat} {F : List Int} {w : World} (hl : F.length = n) (hA : A = none → n = 0 ∧ c = 0) {B : Nat} (h : Lst w B A (F.map (Value.int .u8))) (hn : n ≤ 100000) :
    Calls Try.prog 41 #[.slice A n c] w fun e w' => ∃ p, e = .returned (.pointer (some ⟨p, 0, none⟩)) ∧ Rb w' w.heap.size p F ⟨0, 0, false⟩ ∧ Below w.heap.size w w' := by
  go_enter Try.func41, Try.ntmps41
  go_wp2_with fail
  refine (clone_u8 A n c _ _ _ (by simpa using hl) hA h (ints_oneCell .u8 F) (by omega)).mono ?_
  rintro e w1 ⟨v, rfl, hown, hb⟩
  obtain ⟨A', cap', rfl, hA', hc1, hc2⟩ := own_any hown
  have HO := Lib.hid hown
  have HL := Lib.hid hl
  clear hown hl hA hA' h
  go_wp2
  go_ret
  refine ⟨_, rfl, ⟨hb.size, _, heap_alloc_new w1 _, ?_⟩, hb.alloc hb.size _⟩
  rw [HL.out]
  exact HO.out.alloc _

set_option maxHeartbeats 400000 in
theorem follows_any (w : World) (a b : Int) : Calls Try.prog 69 #[.int .u8 a, .int .u8 b] w fun e w' => e = .returned (.bool (!(decide (a = 255) && decide (128 ≤ b)))) ∧ w = w' := by
  by_cases h1 : a = 255
  · subst h1
    by_cases h2 : 128 ≤ b
    · have h3 : ¬ b < 128 := by omega
      go_enter Try.func69, Try.ntmps69
      go_wp2
      go_ret
      exact ⟨ret_bool (by simp), rfl⟩
    · have h3 : b < 128 := by omega
      go_enter Try.func69, Try.ntmps69
      go_wp2
      go_ret
      exact ⟨ret_bool (by simp [h2]), rfl⟩
  · have h4 : (a == 255) = false := by simpa using h1
    go_enter Try.func69, Try.ntmps69
    go_wp2
    go_ret
    exact ⟨ret_bool (by simp [h1]), rfl⟩

set_option maxHeartbeats 4000000 in
theorem rb_bit {w : World} {lo p : Nat} {F : List Int} {s : RS} (h : Rb w lo p F s) (hl : F.length ≤ 100000) (h1 : s.n ≤ 90000) (h2 : s.l ≤ 8) (hF : ∀ x ∈ F, 0 ≤ x ∧ x ≤ 255) :
    Calls Try.prog 67 #[.pointer (some ⟨p, 0, none⟩)] w fun e w' => e = .returned (.int .i64 (rsbit F s)) ∧ Rb w' lo p F (rsnext F s) ∧ Only (· = p) w w' := by
  obtain ⟨n, l, bad⟩ := s
  obtain ⟨hp, V, hb, hown⟩ := h
  simp only at h1 h2
  have hVp := blk_not_row hb (by decide) hown
  have hps := pstep_rng F (n, l) h2
  unfold rsbit rsnext
  simp only
  have CU := Lib.hid (current_any (w := w) (p := p) (n := n) (V := V) (F := F) (by have := blk_cell hb 0; simpa using this) (by have := blk_cell hb 1; simpa using this) hown hl (by omega))
  have PA : Hid (∀ w2 : World, w2.heap[p]? = some (.cells #[V, .int .i64 (n : Int), .int .i64 (l : Int), .bool bad] 145 (0, 0)) → w2.ownsRow lo 5 1 V F.length (F.map (Value.int .u8)) → Calls Try.prog 57 #[.pointer (some ⟨p, 0, none⟩)] w2 fun e w' => e = .returned (.int .i64 ((pstep F (n, l)).2 : Int)) ∧ w'.heap[p]? = some (.cells #[V, .int .i64 ((pstep F (n, l)).1 : Int), .int .i64 ((pstep F (n, l)).2 : Int), .bool bad] 145 (0, 0)) ∧ w'.ownsRow lo 5 1 V F.length (F.map (Value.int .u8)) ∧ Only (· = p) w2 w') := Lib.hid (fun w2 a b => passR a b hl (by omega) h2)
  generalize pstep F (n, l) = q at *
  obtain ⟨n1, l1⟩ := q
  simp only at hps PA ⊢
  have CU2 : Hid (∀ w2 : World, w2.heap[p]? = some (.cells #[V, .int .i64 (n1 : Int), .int .i64 (l1 : Int), .bool bad] 145 (0, 0)) → w2.ownsRow lo 5 1 V F.length (F.map (Value.int .u8)) → Calls Try.prog 58 #[.pointer (some ⟨p, 0, none⟩)] w2 fun e w' => e = .returned (.int .u8 (curF F n1)) ∧ Drew w2 w') := Lib.hid (fun w2 a b => current_any (w := w2) (p := p) (n := n1) (V := V) (F := F) (by have := blk_cell a 0; simpa using this) (by have := blk_cell a 1; simpa using this) b hl (by omega))
  have hx := curF_rng hF n1
  generalize curF F n1 = x at *
  generalize curF F n = y at *
  have hand := and_bit (x / 2 ^ l1)
  have q0 : 0 ≤ x / 2 ^ l1 := Int.ediv_nonneg hx.1 (by have := pow_pos' l1; omega)
  have q1 : x / 2 ^ l1 ≤ x := Int.ediv_le_self _ hx.1
  have HB := Lib.hid hb
  have HO := Lib.hid hown
  have HND := Lib.hid hand
  clear hb hown hand
  by_cases h0 : l = 0
  · subst h0
    have FO := Lib.hid (fun w2 => follows_any w2 y x)
    by_cases hbd : (decide (y = 255) && decide (128 ≤ x)) = true
    · go_enter Try.func67, Try.ntmps67
      go_wp2_with fail
      refine CU.out.mono ?_
      rintro e w1 ⟨rfl, dn, hd⟩
      have HB1 : Hid (w1.heap[p]? = some (.cells #[V, .int .i64 (n : Int), .int .i64 (0 : Int), .bool bad] 145 (0, 0))) := by rw [hd]; exact HB.out
      have HO1 : Hid (w1.ownsRow lo 5 1 V F.length (F.map (Value.int .u8))) := by rw [hd]; exact HO.out
      have B1 : Only (· = p) w w1 := by rw [hd]; exact only_drewN (Only.refl _ _) dn
      have c2 := blk_cell HB1.out 2
      simp at c2
      clear hd HB HO CU
      go_wp2_with fail
      refine (PA.out _ HB1.out HO1.out).mono ?_
      rintro e w2 ⟨rfl, hb2, ho2, B2⟩
      have B2 := B1.trans B2
      have HB2 := Lib.hid hb2
      have HO2 := Lib.hid ho2
      clear hb2 ho2 HB1 HO1 B1 PA c2
      go_wp2_with fail
      refine (CU2.out _ HB2.out HO2.out).mono ?_
      rintro e w3 ⟨rfl, dn, hd⟩
      have HB3 : Hid (w3.heap[p]? = some (.cells #[V, .int .i64 (n1 : Int), .int .i64 (l1 : Int), .bool bad] 145 (0, 0))) := by rw [hd]; exact HB2.out
      have HO3 : Hid (w3.ownsRow lo 5 1 V F.length (F.map (Value.int .u8))) := by rw [hd]; exact HO2.out
      have B3 : Only (· = p) w w3 := by rw [hd]; exact only_drewN B2 dn
      clear hd HB2 HO2 B2 CU2
      have z3 := blk_frozen HB3.out 3
      have c3 := blk_cell HB3.out 3
      simp at c3
      go_wp2_with fail
      refine (FO.out _).mono ?_
      rintro e w3' ⟨rfl, rfl⟩
      rw [hbd]
      have e4b := blk_set HB3.out 3 (.bool true)
      have e4o := ownsRow_setCell_other HO3.out (a := ⟨p, 3, none⟩) hVp (.bool true)
      have B4 := B3.setCell (p := ⟨p, 3, none⟩) (show p = p from rfl) (.bool true)
      generalize e4w : w3.setCell ⟨p, 3, none⟩ (.bool true) = W4 at *
      have HB4 : Hid (W4.heap[p]? = some (.cells #[V, .int .i64 (n1 : Int), .int .i64 (l1 : Int), .bool true] 145 (0, 0))) := e4b
      have HO4 := Lib.hid e4o
      clear e4b e4o HB3 HO3 B3 FO
      go_wp2
      go_ret
      refine ⟨ret_i64 ?_, ⟨hp, V, ?_, HO4.out⟩, B4⟩
      · rw [← HND.out]
      · have key : ∀ b', b' = true → W4.heap[p]? = some (.cells #[V, .int .i64 (n1 : Int), .int .i64 (l1 : Int), .bool b'] 145 (0, 0)) := fun b' hb' => by rw [hb']; exact HB4.out
        exact key _ (by simp at hbd; simp [hbd])
    · have hbd : (decide (y = 255) && decide (128 ≤ x)) = false := by simpa using hbd
      go_enter Try.func67, Try.ntmps67
      go_wp2_with fail
      refine CU.out.mono ?_
      rintro e w1 ⟨rfl, dn, hd⟩
      have HB1 : Hid (w1.heap[p]? = some (.cells #[V, .int .i64 (n : Int), .int .i64 (0 : Int), .bool bad] 145 (0, 0))) := by rw [hd]; exact HB.out
      have HO1 : Hid (w1.ownsRow lo 5 1 V F.length (F.map (Value.int .u8))) := by rw [hd]; exact HO.out
      have B1 : Only (· = p) w w1 := by rw [hd]; exact only_drewN (Only.refl _ _) dn
      have c2 := blk_cell HB1.out 2
      simp at c2
      clear hd HB HO CU
      go_wp2_with fail
      refine (PA.out _ HB1.out HO1.out).mono ?_
      rintro e w2 ⟨rfl, hb2, ho2, B2⟩
      have B2 := B1.trans B2
      have HB2 := Lib.hid hb2
      have HO2 := Lib.hid ho2
      clear hb2 ho2 HB1 HO1 B1 PA c2
      go_wp2_with fail
      refine (CU2.out _ HB2.out HO2.out).mono ?_
      rintro e w3 ⟨rfl, dn, hd⟩
      have HB3 : Hid (w3.heap[p]? = some (.cells #[V, .int .i64 (n1 : Int), .int .i64 (l1 : Int), .bool bad] 145 (0, 0))) := by rw [hd]; exact HB2.out
      have HO3 : Hid (w3.ownsRow lo 5 1 V F.length (F.map (Value.int .u8))) := by rw [hd]; exact HO2.out
      have B3 : Only (· = p) w w3 := by rw [hd]; exact only_drewN B2 dn
      clear hd HB2 HO2 B2 CU2
      go_wp2_with fail
      refine (FO.out _).mono ?_
      rintro e w3' ⟨rfl, rfl⟩
      rw [hbd]
      go_wp2
      go_ret
      refine ⟨ret_i64 ?_, ⟨hp, V, ?_, HO3.out⟩, B3⟩
      · rw [← HND.out]
      · have key : ∀ b', b' = bad → w3.heap[p]? = some (.cells #[V, .int .i64 (n1 : Int), .int .i64 (l1 : Int), .bool b'] 145 (0, 0)) := fun b' hb' => by rw [hb']; exact HB3.out
        exact key _ (by simp at hbd; simp; intro h1 h2; have := hbd h1; omega)
  · have hlb : ((l : Int) == 0) = false := by simpa using h0
    go_enter Try.func67, Try.ntmps67
    go_wp2_with fail
    refine CU.out.mono ?_
    rintro e w1 ⟨rfl, dn, hd⟩
    have HB1 : Hid (w1.heap[p]? = some (.cells #[V, .int .i64 (n : Int), .int .i64 (l : Int), .bool bad] 145 (0, 0))) := by rw [hd]; exact HB.out
    have HO1 : Hid (w1.ownsRow lo 5 1 V F.length (F.map (Value.int .u8))) := by rw [hd]; exact HO.out
    have B1 : Only (· = p) w w1 := by rw [hd]; exact only_drewN (Only.refl _ _) dn
    have c2 := blk_cell HB1.out 2
    simp at c2
    clear hd HB HO CU
    go_wp2_with fail
    refine (PA.out _ HB1.out HO1.out).mono ?_
    rintro e w2 ⟨rfl, hb2, ho2, B2⟩
    have B2 := B1.trans B2
    have HB2 := Lib.hid hb2
    have HO2 := Lib.hid ho2
    clear hb2 ho2 HB1 HO1 B1 PA c2
    go_wp2_with fail
    refine (CU2.out _ HB2.out HO2.out).mono ?_
    rintro e w3 ⟨rfl, dn, hd⟩
    have HB3 : Hid (w3.heap[p]? = some (.cells #[V, .int .i64 (n1 : Int), .int .i64 (l1 : Int), .bool bad] 145 (0, 0))) := by rw [hd]; exact HB2.out
    have HO3 : Hid (w3.ownsRow lo 5 1 V F.length (F.map (Value.int .u8))) := by rw [hd]; exact HO2.out
    have B3 : Only (· = p) w w3 := by rw [hd]; exact only_drewN B2 dn
    clear hd HB2 HO2 B2 CU2
    go_wp2
    go_ret
    refine ⟨ret_i64 ?_, ⟨hp, V, ?_, HO3.out⟩, B3⟩
    · rw [← HND.out]
    · rw [show (bad || (decide (l = 0) && decide (y = 255) && decide (128 ≤ x))) = bad from by simp [h0]]
      exact HB3.out
end Go.Proofs.Ytobbkdhndojggaa
