/- The cursor of package bits: at, current, pass; for a Writer and for a Reader. -/
import Derived.Test.YtobbkdhndojggaaMem
import Derived.Test.YtobbkdhndojggaaOnly
import Derived.Test.YtobbkdhndojggaaRawSpec
import Derived.Test.YtobbkdhndojggaaClone8
import Derived.OneCell
import Derived.BigQuiet
import Derived.Deep.QuietTactic
import Derived.StillTailTactics
set_option linter.unusedVariables false
namespace Go.Proofs.Ytobbkdhndojggaa
open Go.RowKit
set_option maxRecDepth 100000

theorem blk_cell {w : World} {p : Nat} {cs : Array Value} {t : TypeId} (h : w.heap[p]? = some (.cells cs t (0, 0))) (i : Nat) : w.cell? ⟨p, i, none⟩ = cs[i]? := cell_of_row w p i cs t (0, 0) h
theorem blk_frozen {w : World} {p : Nat} {cs : Array Value} {t : TypeId} (h : w.heap[p]? = some (.cells cs t (0, 0))) (i : Nat) : w.frozen? ⟨p, i, none⟩ = false := by simp [World.frozen?, h]
theorem blk_lt {w : World} {p : Nat} {o : Obj} (h : w.heap[p]? = some o) : p < w.heap.size := (Array.getElem?_eq_some_iff.1 h).1
theorem blk_set {w : World} {p : Nat} {cs : Array Value} {t : TypeId} (h : w.heap[p]? = some (.cells cs t (0, 0))) (i : Nat) (u : Value) :
    (w.setCell ⟨p, i, none⟩ u).heap[p]? = some (.cells (cs.setIfInBounds i u) t (0, 0)) := by
  simp [World.setCell, Array.getElem?_modify, h]
theorem blk_not_row {w : World} {p : Nat} {cs : Array Value} {t e : TypeId} (h : w.heap[p]? = some (.cells cs t (0, 0))) (hte : t ≠ e) {base size k : Nat} {v : Value} {xs : List Value} (hr : w.ownsRow base e size v k xs) : v.ownBlock ≠ some p := by
  rcases hr.2 with ⟨rfl, _⟩ | ⟨g, cap, cur, rfl, _, hgb, _⟩
  · simp [Value.ownBlock]
  · intro e'
    obtain rfl : g = p := by simpa [Value.ownBlock] using e'
    rw [h] at hgb
    simp at hgb
    exact hte hgb.2
theorem and_bit (a : Int) : bits .and .i64 a 1 = a % 2 := by
  show IntKind.i64.wrap ((BitVec.ofInt 64 a &&& BitVec.ofInt 64 1).toNat : Int) = _
  have e1 : (BitVec.ofInt 64 (1 : Int)).toNat = 1 := by decide
  rw [BitVec.toNat_and, e1, Nat.and_one_is_mod, BitVec.toNat_ofInt]
  have h64 : ((a % (2 ^ 64 : Nat)).toNat : Int) = a % (2 ^ 64 : Nat) := Int.toNat_of_nonneg (Int.emod_nonneg _ (by decide))
  have e2 : (((a % ((2 ^ 64 : Nat) : Int)).toNat % 2 : Nat) : Int) = a % 2 := by
    rw [Int.natCast_emod, h64]
    omega
  rw [e2]
  exact IntWalk.i64_in _ (by omega)
theorem or8 (v x : Nat) (f : Nat) (hf : f ≤ 7) (hv : v % 2 ^ (f + 1) = 0) (hv2 : v < 256) (hx : x ≤ 1) : bits .or .u8 (v : Int) ((x * 2 ^ f : Nat) : Int) = ((v + x * 2 ^ f : Nat) : Int) := by
  have H : ∀ f : Fin 8, ∀ x : Fin 2, ∀ v : Fin 256, v.val % 2 ^ (f.val + 1) = 0 → bits .or .u8 (v.val : Int) ((x.val * 2 ^ f.val : Nat) : Int) = ((v.val + x.val * 2 ^ f.val : Nat) : Int) := by decide +kernel
  exact H ⟨f, by omega⟩ ⟨x, by omega⟩ ⟨v, hv2⟩ hv

/-- The byte that was begun last, of n. -/
def curF (F : List Int) (n : Nat) : Int := if n = 0 then 0 else F.getD (n - 1) 0
def pstep (F : List Int) (s : Nat × Nat) : Nat × Nat := if s.2 = 0 then (s.1 + 1, (if curF F s.1 = 255 then 7 else 8) - 1) else (s.1, s.2 - 1)

set_option maxHeartbeats 1000000 in
theorem at_any {w : World} {lo p : Nat} {V : Value} {F : List Int} (c0 : w.cell? ⟨p, 0, none⟩ = some V) (hv : w.ownsRow lo 5 1 V F.length (F.map (Value.int .u8))) (i : Nat) (hl : F.length ≤ 100000) :
    Calls Try.prog 70 #[.pointer (some ⟨p, 0, none⟩), .int .i64 (i : Int)] w fun e w' => e = .returned (.int .u8 (F.getD i 0)) ∧ w = w' := by
  have i0 : ¬ (i : Int) < 0 := by omega
  by_cases c1 : i < F.length
  · obtain ⟨g, c, rfl, hg, hgl, hcm, _⟩ := own_form hv (by omega)
    have f1 := hv.cellAt i (by omega)
    have e1 : (F.map (Value.int .u8))[i]? = some (.int .u8 (F.getD i 0)) := by
      rw [List.getElem?_map, List.getD_eq_getElem?_getD, List.getElem?_eq_getElem c1]; rfl
    rw [e1] at f1
    have c2 : (i : Int) < (F.length : Int) := by omega
    have c3 : ¬ (F.length : Int) ≤ (i : Int) := by omega
    clear hv e1
    generalize F.getD i 0 = x at *
    go_enter Try.func70, Try.ntmps70
    go_wp2
    go_ret
    exact ⟨rfl, rfl⟩
  · obtain ⟨A, c, rfl, _, _, _⟩ := own_any hv
    have e1 : F.getD i 0 = 0 := by rw [List.getD_eq_getElem?_getD, List.getElem?_eq_none (by omega)]; rfl
    rw [e1]
    have c3 : (F.length : Int) ≤ (i : Int) := by omega
    clear hv e1
    go_enter Try.func70, Try.ntmps70
    go_wp2
    go_ret
    exact ⟨rfl, rfl⟩

set_option maxHeartbeats 1000000 in
theorem at_none {w : World} {p : Nat} : Calls Try.prog 70 #[.pointer (some ⟨p, 0, none⟩), .int .i64 (-1)] w fun e w' => e = .returned (.int .u8 0) ∧ w = w' := by
  go_enter Try.func70, Try.ntmps70
  go_wp2
  go_ret
  exact ⟨rfl, rfl⟩

set_option maxHeartbeats 1000000 in
theorem current_any {w : World} {lo p n : Nat} {V : Value} {F : List Int} (c0 : w.cell? ⟨p, 0, none⟩ = some V) (c1 : w.cell? ⟨p, 1, none⟩ = some (.int .i64 (n : Int))) (hv : w.ownsRow lo 5 1 V F.length (F.map (Value.int .u8))) (hl : F.length ≤ 100000) (hn : n ≤ 1000000) :
    Calls Try.prog 58 #[.pointer (some ⟨p, 0, none⟩)] w fun e w' => e = .returned (.int .u8 (curF F n)) ∧ Drew w w' := by
  by_cases h0 : n = 0
  · subst h0
    rw [show curF F 0 = 0 from rfl]
    have AT : Hid (∀ nq, Calls Try.prog 70 #[.pointer (some ⟨p, 0, none⟩), .int .i64 (-1)] (w.drewN nq) fun e w'' => e = .returned (.int .u8 0) ∧ ∃ q, w'' = w.drewN q) := fun nq =>
      at_none.mono fun e w'' ⟨he, hw⟩ => ⟨he, nq, hw.symm⟩
    clear hv c0
    go_enter Try.func58, Try.ntmps58
    go_wp2
    go_quiet ((go_at_call 70; exact AT.out _))
    go_wp2
    go_ret
    exact ⟨rfl, Drew.mk _ _⟩
  · obtain ⟨m, rfl⟩ : ∃ m, n = m + 1 := ⟨n - 1, by omega⟩
    rw [show curF F (m + 1) = F.getD m 0 from rfl]
    have AT : Hid (∀ nq, Calls Try.prog 70 #[.pointer (some ⟨p, 0, none⟩), .int .i64 (m : Int)] (w.drewN nq) fun e w'' => e = .returned (.int .u8 (F.getD m 0)) ∧ ∃ q, w'' = w.drewN q) := fun nq =>
      (at_any (w := w.drewN nq) c0 hv m hl).mono fun e w'' ⟨he, hw⟩ => ⟨he, nq, hw.symm⟩
    clear hv c0
    generalize F.getD m 0 = x at *
    go_enter Try.func58, Try.ntmps58
    go_wp2
    go_quiet ((go_at_call 70; exact AT.out _))
    go_wp2
    go_ret
    exact ⟨rfl, Drew.mk _ _⟩

set_option maxHeartbeats 2000000 in
theorem passW {w : World} {lo p n l : Nat} {V : Value} {F : List Int} (hb : w.heap[p]? = some (.cells #[V, .int .i64 (n : Int), .int .i64 (l : Int)] 135 (0, 0))) (hv : w.ownsRow lo 5 1 V F.length (F.map (Value.int .u8))) (hl : F.length ≤ 100000) (hn : n ≤ 100000) (hl8 : l ≤ 8) :
    Calls Try.prog 57 #[.pointer (some ⟨p, 0, none⟩)] w fun e w' => e = .returned (.int .i64 ((pstep F (n, l)).2 : Int)) ∧ w'.heap[p]? = some (.cells #[V, .int .i64 ((pstep F (n, l)).1 : Int), .int .i64 ((pstep F (n, l)).2 : Int)] 135 (0, 0)) ∧ w'.ownsRow lo 5 1 V F.length (F.map (Value.int .u8)) ∧ Only (· = p) w w' := by
  have hVp := blk_not_row hb (by decide) hv
  unfold pstep
  have HB1 := Lib.hid hb
  have HO1 := Lib.hid hv
  have B1 : Only (· = p) w w := Only.refl _ _
  by_cases h0 : l = 0
  · subst h0
    simp only [if_pos]
    clear hb hv
    have e1c := blk_cell HB1.out 2
    have e1z := blk_frozen HB1.out 2
    simp at e1c
    have e1b := blk_set HB1.out 2 (.int .i64 8)
    have e1o := ownsRow_setCell_other HO1.out (a := ⟨p, 2, none⟩) hVp (.int .i64 8)
    have B2 := B1.setCell (p := ⟨p, 2, none⟩) (show p = p from rfl) (.int .i64 8)
    generalize e1w : w.setCell ⟨p, 2, none⟩ (.int .i64 8) = W2 at *
    have HB2 : Hid (W2.heap[p]? = some (.cells #[V, .int .i64 (n : Int), .int .i64 8] 135 (0, 0))) := e1b
    have HO2 := Lib.hid e1o
    clear e1b e1o HB1 HO1 B1
    have CU := Lib.hid (current_any (w := W2) (p := p) (n := n) (V := V) (F := F) (by have := blk_cell HB2.out 0; simpa using this) (by have := blk_cell HB2.out 1; simpa using this) HO2.out hl (by omega))
    by_cases hc : curF F n = 255
    · have hcb : (curF F n == 255) = true := by simpa using hc
      rw [if_pos hc, show 7 - 1 = 6 from rfl]
      have HC := Lib.hid hc
      clear hc
      generalize curF F n = cc at *
      go_enter Try.func57, Try.ntmps57
      go_wp2_with fail
      refine CU.out.mono ?_
      rintro e W3 ⟨rfl, dn, hd⟩
      have HB3 : Hid (W3.heap[p]? = some (.cells #[V, .int .i64 (n : Int), .int .i64 8] 135 (0, 0))) := by rw [hd]; exact HB2.out
      have HO3 : Hid (W3.ownsRow lo 5 1 V F.length (F.map (Value.int .u8))) := by rw [hd]; exact HO2.out
      have B3 : Only (· = p) w W3 := by rw [hd]; exact only_drewN B2 dn
      clear hd HB2 HO2 B2 CU
      have e3c := blk_cell HB3.out 2
      have e3z := blk_frozen HB3.out 2
      simp at e3c
      have e3b := blk_set HB3.out 2 (.int .i64 7)
      have e3o := ownsRow_setCell_other HO3.out (a := ⟨p, 2, none⟩) hVp (.int .i64 7)
      have B4 := B3.setCell (p := ⟨p, 2, none⟩) (show p = p from rfl) (.int .i64 7)
      generalize e3w : W3.setCell ⟨p, 2, none⟩ (.int .i64 7) = W4 at *
      have HB4 : Hid (W4.heap[p]? = some (.cells #[V, .int .i64 (n : Int), .int .i64 7] 135 (0, 0))) := e3b
      have HO4 := Lib.hid e3o
      clear e3b e3o HB3 HO3 B3
      have q1 := blk_cell HB4.out 1
      simp at q1
      have e4c := blk_cell HB4.out 1
      have e4z := blk_frozen HB4.out 1
      simp at e4c
      have e4b := blk_set HB4.out 1 (.int .i64 ((n : Int) + 1))
      have e4o := ownsRow_setCell_other HO4.out (a := ⟨p, 1, none⟩) hVp (.int .i64 ((n : Int) + 1))
      have B5 := B4.setCell (p := ⟨p, 1, none⟩) (show p = p from rfl) (.int .i64 ((n : Int) + 1))
      generalize e4w : W4.setCell ⟨p, 1, none⟩ (.int .i64 ((n : Int) + 1)) = W5 at *
      have HB5 : Hid (W5.heap[p]? = some (.cells #[V, .int .i64 ((n : Int) + 1), .int .i64 7] 135 (0, 0))) := e4b
      have HO5 := Lib.hid e4o
      clear e4b e4o HB4 HO4 B4
      have e5c := blk_cell HB5.out 2
      have e5z := blk_frozen HB5.out 2
      simp at e5c
      have e5b := blk_set HB5.out 2 (.int .i64 6)
      have e5o := ownsRow_setCell_other HO5.out (a := ⟨p, 2, none⟩) hVp (.int .i64 6)
      have B6 := B5.setCell (p := ⟨p, 2, none⟩) (show p = p from rfl) (.int .i64 6)
      generalize e5w : W5.setCell ⟨p, 2, none⟩ (.int .i64 6) = W6 at *
      have HB6 : Hid (W6.heap[p]? = some (.cells #[V, .int .i64 ((n + 1 : Nat) : Int), .int .i64 ((6 : Nat) : Int)] 135 (0, 0))) := e5b
      have HO6 := Lib.hid e5o
      clear e5b e5o HB5 HO5 B5
      have q6 := blk_cell HB6.out 2
      simp at q6
      go_wp2
      go_ret
      exact ⟨rfl, HB6.out, HO6.out, B6⟩
    · have hcb : (curF F n == 255) = false := by simpa using hc
      rw [if_neg hc, show 8 - 1 = 7 from rfl]
      have HC := Lib.hid hc
      clear hc
      generalize curF F n = cc at *
      go_enter Try.func57, Try.ntmps57
      go_wp2_with fail
      refine CU.out.mono ?_
      rintro e W4 ⟨rfl, dn, hd⟩
      have HB4 : Hid (W4.heap[p]? = some (.cells #[V, .int .i64 (n : Int), .int .i64 8] 135 (0, 0))) := by rw [hd]; exact HB2.out
      have HO4 : Hid (W4.ownsRow lo 5 1 V F.length (F.map (Value.int .u8))) := by rw [hd]; exact HO2.out
      have B4 : Only (· = p) w W4 := by rw [hd]; exact only_drewN B2 dn
      clear hd HB2 HO2 B2 CU
      have q1 := blk_cell HB4.out 1
      simp at q1
      have e4c := blk_cell HB4.out 1
      have e4z := blk_frozen HB4.out 1
      simp at e4c
      have e4b := blk_set HB4.out 1 (.int .i64 ((n : Int) + 1))
      have e4o := ownsRow_setCell_other HO4.out (a := ⟨p, 1, none⟩) hVp (.int .i64 ((n : Int) + 1))
      have B5 := B4.setCell (p := ⟨p, 1, none⟩) (show p = p from rfl) (.int .i64 ((n : Int) + 1))
      generalize e4w : W4.setCell ⟨p, 1, none⟩ (.int .i64 ((n : Int) + 1)) = W5 at *
      have HB5 : Hid (W5.heap[p]? = some (.cells #[V, .int .i64 ((n : Int) + 1), .int .i64 8] 135 (0, 0))) := e4b
      have HO5 := Lib.hid e4o
      clear e4b e4o HB4 HO4 B4
      have e5c := blk_cell HB5.out 2
      have e5z := blk_frozen HB5.out 2
      simp at e5c
      have e5b := blk_set HB5.out 2 (.int .i64 7)
      have e5o := ownsRow_setCell_other HO5.out (a := ⟨p, 2, none⟩) hVp (.int .i64 7)
      have B6 := B5.setCell (p := ⟨p, 2, none⟩) (show p = p from rfl) (.int .i64 7)
      generalize e5w : W5.setCell ⟨p, 2, none⟩ (.int .i64 7) = W6 at *
      have HB6 : Hid (W6.heap[p]? = some (.cells #[V, .int .i64 ((n + 1 : Nat) : Int), .int .i64 ((7 : Nat) : Int)] 135 (0, 0))) := e5b
      have HO6 := Lib.hid e5o
      clear e5b e5o HB5 HO5 B5
      have q6 := blk_cell HB6.out 2
      simp at q6
      go_wp2
      go_ret
      exact ⟨rfl, HB6.out, HO6.out, B6⟩
  · obtain ⟨k, rfl⟩ : ∃ k, l = k + 1 := ⟨l - 1, by omega⟩
    simp only [if_neg (Nat.succ_ne_zero k)]
    have hkb : ((k : Int) + 1 == 0) = false := by simp; omega
    rw [show k + 1 - 1 = k from rfl]
    clear hb hv
    have e1c := blk_cell HB1.out 2
    have e1z := blk_frozen HB1.out 2
    simp at e1c
    have e1b := blk_set HB1.out 2 (.int .i64 (k : Int))
    have e1o := ownsRow_setCell_other HO1.out (a := ⟨p, 2, none⟩) hVp (.int .i64 (k : Int))
    have B2 := B1.setCell (p := ⟨p, 2, none⟩) (show p = p from rfl) (.int .i64 (k : Int))
    generalize e1w : w.setCell ⟨p, 2, none⟩ (.int .i64 (k : Int)) = W2 at *
    have HB2 : Hid (W2.heap[p]? = some (.cells #[V, .int .i64 (n : Int), .int .i64 (k : Int)] 135 (0, 0))) := e1b
    have HO2 := Lib.hid e1o
    clear e1b e1o HB1 HO1 B1
    have q6 := blk_cell HB2.out 2
    simp at q6
    go_enter Try.func57, Try.ntmps57
    go_wp2
    go_ret
    exact ⟨rfl, HB2.out, HO2.out, B2⟩

set_option maxHeartbeats 2000000 in
theorem passR {w : World} {lo p n l : Nat} {V : Value} {bad : Bool} {F : List Int} (hb : w.heap[p]? = some (.cells #[V, .int .i64 (n : Int), .int .i64 (l : Int), .bool bad] 145 (0, 0))) (hv : w.ownsRow lo 5 1 V F.length (F.map (Value.int .u8))) (hl : F.length ≤ 100000) (hn : n ≤ 100000) (hl8 : l ≤ 8) :
    Calls Try.prog 57 #[.pointer (some ⟨p, 0, none⟩)] w fun e w' => e = .returned (.int .i64 ((pstep F (n, l)).2 : Int)) ∧ w'.heap[p]? = some (.cells #[V, .int .i64 ((pstep F (n, l)).1 : Int), .int .i64 ((pstep F (n, l)).2 : Int), .bool bad] 145 (0, 0)) ∧ w'.ownsRow lo 5 1 V F.length (F.map (Value.int .u8)) ∧ Only (· = p) w w' := by
  have hVp := blk_not_row hb (by decide) hv
  unfold pstep
  have HB1 := Lib.hid hb
  have HO1 := Lib.hid hv
  have B1 : Only (· = p) w w := Only.refl _ _
  by_cases h0 : l = 0
  · subst h0
    simp only [if_pos]
    clear hb hv
    have e1c := blk_cell HB1.out 2
    have e1z := blk_frozen HB1.out 2
    simp at e1c
    have e1b := blk_set HB1.out 2 (.int .i64 8)
    have e1o := ownsRow_setCell_other HO1.out (a := ⟨p, 2, none⟩) hVp (.int .i64 8)
    have B2 := B1.setCell (p := ⟨p, 2, none⟩) (show p = p from rfl) (.int .i64 8)
    generalize e1w : w.setCell ⟨p, 2, none⟩ (.int .i64 8) = W2 at *
    have HB2 : Hid (W2.heap[p]? = some (.cells #[V, .int .i64 (n : Int), .int .i64 8, .bool bad] 145 (0, 0))) := e1b
    have HO2 := Lib.hid e1o
    clear e1b e1o HB1 HO1 B1
    have CU := Lib.hid (current_any (w := W2) (p := p) (n := n) (V := V) (F := F) (by have := blk_cell HB2.out 0; simpa using this) (by have := blk_cell HB2.out 1; simpa using this) HO2.out hl (by omega))
    by_cases hc : curF F n = 255
    · have hcb : (curF F n == 255) = true := by simpa using hc
      rw [if_pos hc, show 7 - 1 = 6 from rfl]
      have HC := Lib.hid hc
      clear hc
      generalize curF F n = cc at *
      go_enter Try.func57, Try.ntmps57
      go_wp2_with fail
      refine CU.out.mono ?_
      rintro e W3 ⟨rfl, dn, hd⟩
      have HB3 : Hid (W3.heap[p]? = some (.cells #[V, .int .i64 (n : Int), .int .i64 8, .bool bad] 145 (0, 0))) := by rw [hd]; exact HB2.out
      have HO3 : Hid (W3.ownsRow lo 5 1 V F.length (F.map (Value.int .u8))) := by rw [hd]; exact HO2.out
      have B3 : Only (· = p) w W3 := by rw [hd]; exact only_drewN B2 dn
      clear hd HB2 HO2 B2 CU
      have e3c := blk_cell HB3.out 2
      have e3z := blk_frozen HB3.out 2
      simp at e3c
      have e3b := blk_set HB3.out 2 (.int .i64 7)
      have e3o := ownsRow_setCell_other HO3.out (a := ⟨p, 2, none⟩) hVp (.int .i64 7)
      have B4 := B3.setCell (p := ⟨p, 2, none⟩) (show p = p from rfl) (.int .i64 7)
      generalize e3w : W3.setCell ⟨p, 2, none⟩ (.int .i64 7) = W4 at *
      have HB4 : Hid (W4.heap[p]? = some (.cells #[V, .int .i64 (n : Int), .int .i64 7, .bool bad] 145 (0, 0))) := e3b
      have HO4 := Lib.hid e3o
      clear e3b e3o HB3 HO3 B3
      have q1 := blk_cell HB4.out 1
      simp at q1
      have e4c := blk_cell HB4.out 1
      have e4z := blk_frozen HB4.out 1
      simp at e4c
      have e4b := blk_set HB4.out 1 (.int .i64 ((n : Int) + 1))
      have e4o := ownsRow_setCell_other HO4.out (a := ⟨p, 1, none⟩) hVp (.int .i64 ((n : Int) + 1))
      have B5 := B4.setCell (p := ⟨p, 1, none⟩) (show p = p from rfl) (.int .i64 ((n : Int) + 1))
      generalize e4w : W4.setCell ⟨p, 1, none⟩ (.int .i64 ((n : Int) + 1)) = W5 at *
      have HB5 : Hid (W5.heap[p]? = some (.cells #[V, .int .i64 ((n : Int) + 1), .int .i64 7, .bool bad] 145 (0, 0))) := e4b
      have HO5 := Lib.hid e4o
      clear e4b e4o HB4 HO4 B4
      have e5c := blk_cell HB5.out 2
      have e5z := blk_frozen HB5.out 2
      simp at e5c
      have e5b := blk_set HB5.out 2 (.int .i64 6)
      have e5o := ownsRow_setCell_other HO5.out (a := ⟨p, 2, none⟩) hVp (.int .i64 6)
      have B6 := B5.setCell (p := ⟨p, 2, none⟩) (show p = p from rfl) (.int .i64 6)
      generalize e5w : W5.setCell ⟨p, 2, none⟩ (.int .i64 6) = W6 at *
      have HB6 : Hid (W6.heap[p]? = some (.cells #[V, .int .i64 ((n + 1 : Nat) : Int), .int .i64 ((6 : Nat) : Int), .bool bad] 145 (0, 0))) := e5b
      have HO6 := Lib.hid e5o
      clear e5b e5o HB5 HO5 B5
      have q6 := blk_cell HB6.out 2
      simp at q6
      go_wp2
      go_ret
      exact ⟨rfl, HB6.out, HO6.out, B6⟩
    · have hcb : (curF F n == 255) = false := by simpa using hc
      rw [if_neg hc, show 8 - 1 = 7 from rfl]
      have HC := Lib.hid hc
      clear hc
      generalize curF F n = cc at *
      go_enter Try.func57, Try.ntmps57
      go_wp2_with fail
      refine CU.out.mono ?_
      rintro e W4 ⟨rfl, dn, hd⟩
      have HB4 : Hid (W4.heap[p]? = some (.cells #[V, .int .i64 (n : Int), .int .i64 8, .bool bad] 145 (0, 0))) := by rw [hd]; exact HB2.out
      have HO4 : Hid (W4.ownsRow lo 5 1 V F.length (F.map (Value.int .u8))) := by rw [hd]; exact HO2.out
      have B4 : Only (· = p) w W4 := by rw [hd]; exact only_drewN B2 dn
      clear hd HB2 HO2 B2 CU
      have q1 := blk_cell HB4.out 1
      simp at q1
      have e4c := blk_cell HB4.out 1
      have e4z := blk_frozen HB4.out 1
      simp at e4c
      have e4b := blk_set HB4.out 1 (.int .i64 ((n : Int) + 1))
      have e4o := ownsRow_setCell_other HO4.out (a := ⟨p, 1, none⟩) hVp (.int .i64 ((n : Int) + 1))
      have B5 := B4.setCell (p := ⟨p, 1, none⟩) (show p = p from rfl) (.int .i64 ((n : Int) + 1))
      generalize e4w : W4.setCell ⟨p, 1, none⟩ (.int .i64 ((n : Int) + 1)) = W5 at *
      have HB5 : Hid (W5.heap[p]? = some (.cells #[V, .int .i64 ((n : Int) + 1), .int .i64 8, .bool bad] 145 (0, 0))) := e4b
      have HO5 := Lib.hid e4o
      clear e4b e4o HB4 HO4 B4
      have e5c := blk_cell HB5.out 2
      have e5z := blk_frozen HB5.out 2
      simp at e5c
      have e5b := blk_set HB5.out 2 (.int .i64 7)
      have e5o := ownsRow_setCell_other HO5.out (a := ⟨p, 2, none⟩) hVp (.int .i64 7)
      have B6 := B5.setCell (p := ⟨p, 2, none⟩) (show p = p from rfl) (.int .i64 7)
      generalize e5w : W5.setCell ⟨p, 2, none⟩ (.int .i64 7) = W6 at *
      have HB6 : Hid (W6.heap[p]? = some (.cells #[V, .int .i64 ((n + 1 : Nat) : Int), .int .i64 ((7 : Nat) : Int), .bool bad] 145 (0, 0))) := e5b
      have HO6 := Lib.hid e5o
      clear e5b e5o HB5 HO5 B5
      have q6 := blk_cell HB6.out 2
      simp at q6
      go_wp2
      go_ret
      exact ⟨rfl, HB6.out, HO6.out, B6⟩
  · obtain ⟨k, rfl⟩ : ∃ k, l = k + 1 := ⟨l - 1, by omega⟩
    simp only [if_neg (Nat.succ_ne_zero k)]
    have hkb : ((k : Int) + 1 == 0) = false := by simp; omega
    rw [show k + 1 - 1 = k from rfl]
    clear hb hv
    have e1c := blk_cell HB1.out 2
    have e1z := blk_frozen HB1.out 2
    simp at e1c
    have e1b := blk_set HB1.out 2 (.int .i64 (k : Int))
    have e1o := ownsRow_setCell_other HO1.out (a := ⟨p, 2, none⟩) hVp (.int .i64 (k : Int))
    have B2 := B1.setCell (p := ⟨p, 2, none⟩) (show p = p from rfl) (.int .i64 (k : Int))
    generalize e1w : w.setCell ⟨p, 2, none⟩ (.int .i64 (k : Int)) = W2 at *
    have HB2 : Hid (W2.heap[p]? = some (.cells #[V, .int .i64 (n : Int), .int .i64 (k : Int), .bool bad] 145 (0, 0))) := e1b
    have HO2 := Lib.hid e1o
    clear e1b e1o HB1 HO1 B1
    have q6 := blk_cell HB2.out 2
    simp at q6
    go_enter Try.func57, Try.ntmps57
    go_wp2
    go_ret
    exact ⟨rfl, HB2.out, HO2.out, B2⟩
end Go.Proofs.Ytobbkdhndojggaa
