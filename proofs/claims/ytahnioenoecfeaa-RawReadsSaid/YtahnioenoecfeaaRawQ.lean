/- The reference's Reader of chapter 5, by its contracts. -/
import Derived.Test.YtahnioenoecfeaaRawRo
import Derived.Test.YtahnioenoecfeaaRawKnown
import Derived.Test.YtahnioenoecfeaaClone8
set_option linter.unusedVariables false
namespace Go.Proofs.Ytahnioenoecfeaa
open Go.RowKit

/-- The reference's reader: how many bytes were begun, the current one, how many of its bits are left. -/
structure QS where
  p : Nat
  c : Int
  l : Nat
def qtop (s : QS) : Nat := if 0 < s.p ∧ s.c = 255 then 7 else 8
def qstep (F : List Int) (s : QS) : QS :=
  if s.l = 0 then if F.length ≤ s.p then s else ⟨s.p + 1, byteAt F s.p, qtop s - 1⟩ else ⟨s.p, s.c, s.l - 1⟩
def qbit (F : List Int) (s : QS) : Int := if s.l = 0 ∧ F.length ≤ s.p then 1 else (qstep F s).c / 2 ^ (qstep F s).l % 2

/-- The reader of the program and that of the reference stand alike. -/
def QRel (F : List Int) (r : Nat × Nat) (s : QS) : Prop :=
  s.p ≤ F.length ∧ s.l ≤ 7 ∧ ((s.p = 0 ∧ s.l = 0 ∧ r = (0, 8)) ∨ (0 < s.p ∧ r = (s.p - 1, s.l) ∧ s.c = byteAt F (s.p - 1)) ∨ (s.p = F.length ∧ s.l = 0 ∧ r.2 ≤ 8 ∧ 8 * F.length + r.2 ≤ 8 * (r.1 + 1)))
theorem qrel_step {F : List Int} {r : Nat × Nat} {s : QS} (h : QRel F r s) : qbit F s = rbit F (rstep F r) ∧ QRel F (rstep F r) (qstep F s) := by
  obtain ⟨p, c, l⟩ := s
  obtain ⟨h1, h2, h3⟩ := h
  simp only at h1 h2 h3
  by_cases hl : l = 0
  · subst hl
    by_cases hp : F.length ≤ p
    · have e1 : qstep F ⟨p, c, 0⟩ = ⟨p, c, 0⟩ := by unfold qstep; rw [if_pos rfl, if_pos hp]
      have e2 : qbit F ⟨p, c, 0⟩ = 1 := by unfold qbit; rw [if_pos ⟨rfl, hp⟩]
      have hr : r.2 ≤ 8 ∧ 8 * F.length + r.2 ≤ 8 * (r.1 + 1) := by
        rcases h3 with ⟨a, _, e⟩ | ⟨a, e, _⟩ | ⟨_, _, a, b⟩
        · subst e; constructor <;> (simp; try omega)
        · subst e; constructor <;> (simp; try omega)
        · exact ⟨a, b⟩
      have o := ones_behind hr.1 hr.2
      obtain ⟨u1, u2, u3, u4, u5⟩ := rstep_use (F := F) hr.1
      rw [e1, e2, o]
      exact ⟨rfl, h1, by simp, Or.inr (Or.inr ⟨by simp; omega, rfl, by omega, by omega⟩)⟩
    · have e1 : qstep F ⟨p, c, 0⟩ = ⟨p + 1, byteAt F p, qtop ⟨p, c, 0⟩ - 1⟩ := by unfold qstep; rw [if_pos rfl, if_neg hp]
      have e2 : qbit F ⟨p, c, 0⟩ = byteAt F p / 2 ^ (qtop ⟨p, c, 0⟩ - 1) % 2 := by unfold qbit; rw [if_neg (by simp; omega), e1]
      have e3 : rstep F r = (p, qtop ⟨p, c, 0⟩ - 1) := by
        rcases h3 with ⟨a, _, e⟩ | ⟨a, e, ec⟩ | ⟨a, _⟩
        · subst e; subst a
          have : qtop ⟨0, c, 0⟩ = 8 := if_neg (by simp)
          rw [this]; rfl
        · subst e
          unfold rstep qtop
          simp only
          rw [if_pos True.intro, ← ec]
          have e4 : p - 1 + 1 = p := by omega
          by_cases h255 : c = 255
          · rw [if_pos h255, if_pos ⟨a, h255⟩, e4]
          · rw [if_neg h255, if_neg (fun h => h255 h.2), e4]
        · omega
      rw [e1, e2, e3]
      have hq : qtop ⟨p, c, 0⟩ ≤ 8 := by unfold qtop; split <;> omega
      exact ⟨rfl, by show p + 1 ≤ F.length; omega, by show qtop ⟨p, c, 0⟩ - 1 ≤ 7; omega, Or.inr (Or.inl ⟨by show 0 < p + 1; omega, rfl, rfl⟩)⟩
  · have e1 : qstep F ⟨p, c, l⟩ = ⟨p, c, l - 1⟩ := by unfold qstep; rw [if_neg hl]
    have e2 : qbit F ⟨p, c, l⟩ = c / 2 ^ (l - 1) % 2 := by unfold qbit; rw [if_neg (fun h => hl h.1), e1]
    rcases h3 with ⟨_, a, _⟩ | ⟨a, e, ec⟩ | ⟨_, a, _⟩
    · exact absurd a hl
    · subst e
      have e3 : rstep F (p - 1, l) = (p - 1, l - 1) := by unfold rstep; rw [if_neg hl]
      rw [e1, e2, e3, ec]
      exact ⟨rfl, h1, by show l - 1 ≤ 7; omega, Or.inr (Or.inl ⟨a, rfl, rfl⟩)⟩
    · exact absurd a hl

/-- Block q is such a reader of the bytes F. -/
def Qr (w : World) (lo q : Nat) (F : List Int) (s : QS) : Prop :=
  lo ≤ q ∧ ∃ V, w.heap[q]? = some (.cells #[V, .int .i64 (s.p : Int), .int .i64 s.c, .int .i64 (s.l : Int)] 52 (0, 0)) ∧ w.ownsRow lo 5 1 V F.length (F.map (Value.int .u8))
theorem Qr.drew {w : World} {lo q : Nat} {F : List Int} {s : QS} (h : Qr w lo q F s) (n : Nat) : Qr (w.drewN n) lo q F s := h
theorem Qr.keep {w w' : World} {lo q p : Nat} {F : List Int} {s : QS} (h : Qr w lo q F s) (o : Only (· = p) w w') (hp : p < lo) : Qr w' lo q F s := by
  obtain ⟨hq, V, hb1, hown⟩ := h
  exact ⟨hq, V, (o.block q (by omega)).trans hb1, ownsRow_keep hown o.size (fun k hk => o.block k (by have := (hown.lt k hk).1; omega))⟩
theorem Qr.below {w w' : World} {lo lo' q : Nat} {F : List Int} {s : QS} (h : Qr w lo q F s) (hb : Below lo' w w') (hl : w.heap.size ≤ lo') : Qr w' lo q F s := by
  obtain ⟨hq, V, hb1, hown⟩ := h
  exact ⟨hq, V, (hb.block q (by have := blk_lt hb1; omega)).trans hb1, ownsRow_keep hown hb.size (fun k hk => hb.block k (by have := (hown.lt k hk).2; omega))⟩

set_option maxHeartbeats 1000000 in
theorem qnew_any {A : Option Addr} {n c : Nat} {F : List Int} {w : World} (hl : F.length = n) (hA : A = none → n = 0 ∧ c = 0) {B : Nat} (h : Lst w B A (F.map (Value.int .u8))) (hn : n ≤ 100000) :
    Calls Try.prog 20 #[.slice A n c] w fun e w' => ∃ q, e = .returned (.pointer (some ⟨q, 0, none⟩)) ∧ Qr w' w.heap.size q F ⟨0, 0, 0⟩ ∧ Below w.heap.size w w' := by
  have HL := Lib.hid hl
  have HA := Lib.hid hA
  have HF := Lib.hid h
  clear hl hA h
  go_enter Try.func20, Try.ntmps20
  go_wp2_with (at_builtin; refine wpList_clone8 rfl (.tmp 3) (.tmp 4) rfl rfl rfl HL.out HA.out HF.out hn ?_)
  intro V cv w1 hown hb
  have HO := Lib.hid hown
  clear hown
  go_wp2
  go_ret
  refine ⟨_, rfl, ⟨hb.size, _, heap_alloc_new w1 _, ?_⟩, hb.alloc hb.size _⟩
  rw [HL.out]
  exact HO.out.alloc _

set_option maxHeartbeats 4000000 in
theorem qbit_only {w : World} {lo q : Nat} {F : List Int} {s : QS} (h : Qr w lo q F s) (hl : F.length ≤ 100000) (h1 : s.p ≤ F.length) (h2 : s.l ≤ 7) (h3 : 0 ≤ s.c ∧ s.c ≤ 255) (hF : ∀ i, 0 ≤ byteAt F i ∧ byteAt F i ≤ 255) :
    Calls Try.prog 22 #[.pointer (some ⟨q, 0, none⟩)] w fun e w' => e = .returned (.int .i64 (qbit F s)) ∧ Qr w' lo q F (qstep F s) ∧ Only (· = q) w w' := by
  obtain ⟨p, c, l⟩ := s
  obtain ⟨hq, V, hb, hown⟩ := h
  simp only at h1 h2 h3 hb
  have hVq := blk_not_row hb (by decide) hown
  by_cases h0 : l = 0
  · subst h0
    by_cases hp : F.length ≤ p
    · have e1 : qstep F ⟨p, c, 0⟩ = ⟨p, c, 0⟩ := by unfold qstep; rw [if_pos rfl, if_pos hp]
      have e2 : qbit F ⟨p, c, 0⟩ = 1 := by unfold qbit; rw [if_pos ⟨rfl, hp⟩]
      obtain ⟨A, cv, rfl, _, _, _⟩ := own_any hown
      have c0 := blk_cell hb 0
      have c1 := blk_cell hb 1
      have c3 := blk_cell hb 3
      simp at c0 c1 c3
      have HQ : Hid (∀ n, Qr (w.drewN n) lo q F ⟨p, c, 0⟩) := fun n => ⟨hq, _, hb, hown⟩
      have hpi : (F.length : Int) ≤ (p : Int) := by omega
      rw [e1, e2]
      clear hb hown e1 e2
      go_enter Try.func22, Try.ntmps22
      go_wp2
      go_quiet (fail)
      go_wp2
      go_ret
      exact ⟨rfl, HQ.out nq, only_drewN (Only.refl _ _) nq⟩
    · have e3 : qstep F ⟨p, c, 0⟩ = ⟨p + 1, byteAt F p, qtop ⟨p, c, 0⟩ - 1⟩ := by unfold qstep; rw [if_pos rfl, if_neg hp]
      have e4 : qbit F ⟨p, c, 0⟩ = byteAt F p / 2 ^ (qtop ⟨p, c, 0⟩ - 1) % 2 := by unfold qbit; rw [if_neg (by simp; omega), e3]
      obtain ⟨g, cv, rfl, hg, hgl, hcv, _⟩ := own_form hown (by omega)
      have hx := hF p
      have c0 := blk_cell hb 0
      have c1 := blk_cell hb 1
      have c2 := blk_cell hb 2
      have c3 := blk_cell hb 3
      have z3 := blk_frozen hb 3
      simp at c0 c1 c2 c3
      have hpi : ¬ (F.length : Int) ≤ (p : Int) := by omega
      have hpl : (p : Int) < (F.length : Int) := by omega
      have hb1 := blk_set hb 3 (.int .i64 8)
      have own1 := ownsRow_setCell_other hown (a := ⟨q, 3, none⟩) hVq (.int .i64 8)
      have B1 : Only (· = q) w (w.setCell ⟨q, 3, none⟩ (.int .i64 8)) := (Only.refl (· = q) _).setCell (p := ⟨q, 3, none⟩) (show q = q from rfl) _
      obtain ⟨T, hT⟩ : ∃ T, qtop ⟨p, c, 0⟩ = T := ⟨_, rfl⟩
      obtain ⟨x, hxe⟩ : ∃ x, byteAt F p = x := ⟨_, rfl⟩
      rw [e3, e4, hT, hxe]
      rw [hxe] at hx
      have HT := Lib.hid hT
      have HX := Lib.hid hxe
      clear e3 e4 hT hxe
      go_enter Try.func22, Try.ntmps22
      go_wp2
      go_quiet (fail)
      rw [show w.drewN nq = w.drewN nq from rfl]
      obtain ⟨W0, hW0⟩ : ∃ W0, w.drewN nq = W0 := ⟨_, rfl⟩
      have HB0 : Hid (W0.heap[q]? = some (.cells #[.slice (some ⟨g, 0, none⟩) F.length cv, .int .i64 (p : Int), .int .i64 c, .int .i64 0] 52 (0, 0))) := by rw [← hW0]; exact hb
      have HO0 : Hid (W0.ownsRow lo 5 1 (.slice (some ⟨g, 0, none⟩) F.length cv) F.length (F.map (Value.int .u8))) := by rw [← hW0]; exact hown
      have B0 : Only (· = q) w W0 := by rw [← hW0]; exact only_drewN (Only.refl _ _) nq
      rw [hW0]
      clear hW0 hb hown hb1 own1 B1 c0 c1 c2 c3 z3
      have c3 := blk_cell HB0.out 3
      have z3 := blk_frozen HB0.out 3
      simp at c3
      have hb1 := blk_set HB0.out 3 (.int .i64 8)
      have own1 := ownsRow_setCell_other HO0.out (a := ⟨q, 3, none⟩) hVq (.int .i64 8)
      have B1 := B0.setCell (p := ⟨q, 3, none⟩) (show q = q from rfl) (.int .i64 8)
      generalize hW1 : W0.setCell ⟨q, 3, none⟩ (.int .i64 8) = W1 at *
      have hb1' : W1.heap[q]? = some (.cells #[.slice (some ⟨g, 0, none⟩) F.length cv, .int .i64 (p : Int), .int .i64 c, .int .i64 8] 52 (0, 0)) := hb1
      have k1 := blk_cell hb1' 1
      have k2 := blk_cell hb1' 2
      simp at k1 k2
      by_cases hs : 0 < p ∧ c = 255
      · have ht : qtop ⟨p, c, 0⟩ = 7 := if_pos hs
        obtain rfl : T = 7 := by rw [← HT.out, ht]
        have hs1 : (0 : Int) < (p : Int) := by omega
        have hs2 : (c == 255) = true := by simpa using hs.2
        have k3 := blk_cell hb1' 3
        have m3 := blk_frozen hb1' 3
        simp at k3
        have hb2 := blk_set hb1' 3 (.int .i64 7)
        have own2 := ownsRow_setCell_other own1 (a := ⟨q, 3, none⟩) hVq (.int .i64 7)
        have BX := B1.setCell (p := ⟨q, 3, none⟩) (show q = q from rfl) (.int .i64 7)
        have HBx := Lib.hid hb2
        have HOx := Lib.hid own2
        clear hb1 hb1' own1 hb2 own2 HB0 HO0 B0 B1 ht hs HT
        generalize hW2 : W1.setCell ⟨q, 3, none⟩ (.int .i64 7) = W2 at *
        have HB2 : Hid (W2.heap[q]? = some (.cells #[.slice (some ⟨g, 0, none⟩) F.length cv, .int .i64 (p : Int), .int .i64 c, .int .i64 7] 52 (0, 0))) := HBx
        have HO2 := HOx
        have B2 := BX
        clear HBx HOx BX
        have d0 := blk_cell HB2.out 0
        have d1 := blk_cell HB2.out 1
        have d2 := blk_cell HB2.out 2
        have d3 := blk_cell HB2.out 3
        have z2 := blk_frozen HB2.out 2
        simp at d0 d1 d2 d3
        have f1 := HO2.out.cellAt p (by omega)
        have e5 : (F.map (Value.int .u8))[p]? = some (.int .u8 x) := by
          rw [← HX.out]
          unfold byteAt
          rw [List.getElem?_map, List.getD_eq_getElem?_getD, List.getElem?_eq_getElem (by omega)]; rfl
        rw [e5] at f1
        clear e5
        go_wp2
        refine wp_region_still_tail 14 (by kernel_rfl) (by kernel_rfl) ?_
        simp only [List.take_succ_cons, List.take_zero, List.drop_succ_cons, List.drop_zero]
        repeat still_step
        refine wpStill_nil ?_
        change wpList _ _ _ _ _ W2.drew
        have HB3 : Hid (W2.drew.heap[q]? = some (.cells #[.slice (some ⟨g, 0, none⟩) F.length cv, .int .i64 (p : Int), .int .i64 c, .int .i64 7] 52 (0, 0))) := HB2.out
        have HO3 : Hid (W2.drew.ownsRow lo 5 1 (.slice (some ⟨g, 0, none⟩) F.length cv) F.length (F.map (Value.int .u8))) := HO2.out
        have B3 : Only (· = q) w W2.drew := only_drewN B2 1
        have z3 : W2.drew.frozen? ⟨q, 2, none⟩ = false := z2
        have y2 : W2.drew.cell? ⟨q, 2, none⟩ = some (.int .i64 c) := d2
        clear f1 HB2 HO2 B2 d0 d1 d2 d3 z2
        generalize W2.drew = W3 at *
        have hb4 := blk_set HB3.out 2 (.int .i64 x)
        have own4 := ownsRow_setCell_other HO3.out (a := ⟨q, 2, none⟩) hVq (.int .i64 x)
        have B4 := B3.setCell (p := ⟨q, 2, none⟩) (show q = q from rfl) (.int .i64 x)
        generalize hW4 : W3.setCell ⟨q, 2, none⟩ (.int .i64 x) = W4 at *
        have hb4' : W4.heap[q]? = some (.cells #[.slice (some ⟨g, 0, none⟩) F.length cv, .int .i64 (p : Int), .int .i64 x, .int .i64 7] 52 (0, 0)) := hb4
        have u1 := blk_cell hb4' 1
        have v1 := blk_frozen hb4' 1
        simp at u1
        have hb5 := blk_set hb4' 1 (.int .i64 ((p : Int) + 1))
        have own5 := ownsRow_setCell_other own4 (a := ⟨q, 1, none⟩) hVq (.int .i64 ((p : Int) + 1))
        have B5 := B4.setCell (p := ⟨q, 1, none⟩) (show q = q from rfl) (.int .i64 ((p : Int) + 1))
        generalize hW5 : W4.setCell ⟨q, 1, none⟩ (.int .i64 ((p : Int) + 1)) = W5 at *
        have hb5' : W5.heap[q]? = some (.cells #[.slice (some ⟨g, 0, none⟩) F.length cv, .int .i64 ((p : Int) + 1), .int .i64 x, .int .i64 7] 52 (0, 0)) := hb5
        have u3 := blk_cell hb5' 3
        have v3 := blk_frozen hb5' 3
        simp at u3
        have hb6 := blk_set hb5' 3 (.int .i64 6)
        have own6 := ownsRow_setCell_other own5 (a := ⟨q, 3, none⟩) hVq (.int .i64 6)
        have B6 := B5.setCell (p := ⟨q, 3, none⟩) (show q = q from rfl) (.int .i64 6)
        generalize hW6 : W5.setCell ⟨q, 3, none⟩ (.int .i64 6) = W6 at *
        have hb6' : W6.heap[q]? = some (.cells #[.slice (some ⟨g, 0, none⟩) F.length cv, .int .i64 ((p + 1 : Nat) : Int), .int .i64 x, .int .i64 ((6 : Nat) : Int)] 52 (0, 0)) := hb6
        have t2 : W6.cell? ⟨q, 2, none⟩ = some (.int .i64 x) := blk_cell hb6' 2
        have t3 : W6.cell? ⟨q, 3, none⟩ = some (.int .i64 6) := blk_cell hb6' 3
        have HQ : Hid (∀ n, Qr (W6.drewN n) lo q F ⟨p + 1, x, 6⟩) := fun n => ⟨hq, _, hb6', own6⟩
        have hand := and_bit (x / 64)
        clear hb4 hb4' own4 hb5 hb5' own5 hb6 hb6' own6 HB3 HO3 B3 B4 B5
        go_wp2
        go_quiet (fail)
        go_wp2
        go_ret
        refine ⟨ret_i64 ?_, HQ.out nq, only_drewN B6 nq⟩
        first | rfl | (rw [show (2 : Int) ^ 6 = 64 from by decide]) | (rw [show (2 : Int) ^ 7 = 128 from by decide])
      · have ht : qtop ⟨p, c, 0⟩ = 8 := if_neg hs
        obtain rfl : T = 8 := by rw [← HT.out, ht]
        have BX := B1
        have HBx := Lib.hid hb1'
        have HOx := Lib.hid own1
        clear hb1 hb1' own1 HB0 HO0 B0 B1 ht HT
        by_cases hs1 : 0 < p
        · have hs2 : (c == 255) = false := by
            have : c ≠ 255 := fun e => hs ⟨hs1, e⟩
            simpa using this
          have hs1i : (0 : Int) < (p : Int) := by omega
          clear hs
          have HB2 : Hid (W1.heap[q]? = some (.cells #[.slice (some ⟨g, 0, none⟩) F.length cv, .int .i64 (p : Int), .int .i64 c, .int .i64 8] 52 (0, 0))) := HBx
          have HO2 := HOx
          have B2 := BX
          clear HBx HOx BX
          have d0 := blk_cell HB2.out 0
          have d1 := blk_cell HB2.out 1
          have d2 := blk_cell HB2.out 2
          have d3 := blk_cell HB2.out 3
          have z2 := blk_frozen HB2.out 2
          simp at d0 d1 d2 d3
          have f1 := HO2.out.cellAt p (by omega)
          have e5 : (F.map (Value.int .u8))[p]? = some (.int .u8 x) := by
            rw [← HX.out]
            unfold byteAt
            rw [List.getElem?_map, List.getD_eq_getElem?_getD, List.getElem?_eq_getElem (by omega)]; rfl
          rw [e5] at f1
          clear e5
          go_wp2
          refine wp_region_still_tail 14 (by kernel_rfl) (by kernel_rfl) ?_
          simp only [List.take_succ_cons, List.take_zero, List.drop_succ_cons, List.drop_zero]
          repeat still_step
          refine wpStill_nil ?_
          change wpList _ _ _ _ _ W1.drew
          have HB3 : Hid (W1.drew.heap[q]? = some (.cells #[.slice (some ⟨g, 0, none⟩) F.length cv, .int .i64 (p : Int), .int .i64 c, .int .i64 8] 52 (0, 0))) := HB2.out
          have HO3 : Hid (W1.drew.ownsRow lo 5 1 (.slice (some ⟨g, 0, none⟩) F.length cv) F.length (F.map (Value.int .u8))) := HO2.out
          have B3 : Only (· = q) w W1.drew := only_drewN B2 1
          have z3 : W1.drew.frozen? ⟨q, 2, none⟩ = false := z2
          have y2 : W1.drew.cell? ⟨q, 2, none⟩ = some (.int .i64 c) := d2
          clear f1 HB2 HO2 B2 d0 d1 d2 d3 z2
          generalize W1.drew = W3 at *
          have hb4 := blk_set HB3.out 2 (.int .i64 x)
          have own4 := ownsRow_setCell_other HO3.out (a := ⟨q, 2, none⟩) hVq (.int .i64 x)
          have B4 := B3.setCell (p := ⟨q, 2, none⟩) (show q = q from rfl) (.int .i64 x)
          generalize hW4 : W3.setCell ⟨q, 2, none⟩ (.int .i64 x) = W4 at *
          have hb4' : W4.heap[q]? = some (.cells #[.slice (some ⟨g, 0, none⟩) F.length cv, .int .i64 (p : Int), .int .i64 x, .int .i64 8] 52 (0, 0)) := hb4
          have u1 := blk_cell hb4' 1
          have v1 := blk_frozen hb4' 1
          simp at u1
          have hb5 := blk_set hb4' 1 (.int .i64 ((p : Int) + 1))
          have own5 := ownsRow_setCell_other own4 (a := ⟨q, 1, none⟩) hVq (.int .i64 ((p : Int) + 1))
          have B5 := B4.setCell (p := ⟨q, 1, none⟩) (show q = q from rfl) (.int .i64 ((p : Int) + 1))
          generalize hW5 : W4.setCell ⟨q, 1, none⟩ (.int .i64 ((p : Int) + 1)) = W5 at *
          have hb5' : W5.heap[q]? = some (.cells #[.slice (some ⟨g, 0, none⟩) F.length cv, .int .i64 ((p : Int) + 1), .int .i64 x, .int .i64 8] 52 (0, 0)) := hb5
          have u3 := blk_cell hb5' 3
          have v3 := blk_frozen hb5' 3
          simp at u3
          have hb6 := blk_set hb5' 3 (.int .i64 7)
          have own6 := ownsRow_setCell_other own5 (a := ⟨q, 3, none⟩) hVq (.int .i64 7)
          have B6 := B5.setCell (p := ⟨q, 3, none⟩) (show q = q from rfl) (.int .i64 7)
          generalize hW6 : W5.setCell ⟨q, 3, none⟩ (.int .i64 7) = W6 at *
          have hb6' : W6.heap[q]? = some (.cells #[.slice (some ⟨g, 0, none⟩) F.length cv, .int .i64 ((p + 1 : Nat) : Int), .int .i64 x, .int .i64 ((7 : Nat) : Int)] 52 (0, 0)) := hb6
          have t2 : W6.cell? ⟨q, 2, none⟩ = some (.int .i64 x) := blk_cell hb6' 2
          have t3 : W6.cell? ⟨q, 3, none⟩ = some (.int .i64 7) := blk_cell hb6' 3
          have HQ : Hid (∀ n, Qr (W6.drewN n) lo q F ⟨p + 1, x, 7⟩) := fun n => ⟨hq, _, hb6', own6⟩
          have hand := and_bit (x / 128)
          clear hb4 hb4' own4 hb5 hb5' own5 hb6 hb6' own6 HB3 HO3 B3 B4 B5
          go_wp2
          go_quiet (fail)
          go_wp2
          go_ret
          refine ⟨ret_i64 ?_, HQ.out nq, only_drewN B6 nq⟩
          first | rfl | (rw [show (2 : Int) ^ 6 = 64 from by decide]) | (rw [show (2 : Int) ^ 7 = 128 from by decide])
        · have hs1i : ¬ (0 : Int) < (p : Int) := by omega
          clear hs
          have HB2 : Hid (W1.heap[q]? = some (.cells #[.slice (some ⟨g, 0, none⟩) F.length cv, .int .i64 (p : Int), .int .i64 c, .int .i64 8] 52 (0, 0))) := HBx
          have HO2 := HOx
          have B2 := BX
          clear HBx HOx BX
          have d0 := blk_cell HB2.out 0
          have d1 := blk_cell HB2.out 1
          have d2 := blk_cell HB2.out 2
          have d3 := blk_cell HB2.out 3
          have z2 := blk_frozen HB2.out 2
          simp at d0 d1 d2 d3
          have f1 := HO2.out.cellAt p (by omega)
          have e5 : (F.map (Value.int .u8))[p]? = some (.int .u8 x) := by
            rw [← HX.out]
            unfold byteAt
            rw [List.getElem?_map, List.getD_eq_getElem?_getD, List.getElem?_eq_getElem (by omega)]; rfl
          rw [e5] at f1
          clear e5
          go_wp2
          refine wp_region_still_tail 14 (by kernel_rfl) (by kernel_rfl) ?_
          simp only [List.take_succ_cons, List.take_zero, List.drop_succ_cons, List.drop_zero]
          repeat still_step
          refine wpStill_nil ?_
          change wpList _ _ _ _ _ W1.drew
          have HB3 : Hid (W1.drew.heap[q]? = some (.cells #[.slice (some ⟨g, 0, none⟩) F.length cv, .int .i64 (p : Int), .int .i64 c, .int .i64 8] 52 (0, 0))) := HB2.out
          have HO3 : Hid (W1.drew.ownsRow lo 5 1 (.slice (some ⟨g, 0, none⟩) F.length cv) F.length (F.map (Value.int .u8))) := HO2.out
          have B3 : Only (· = q) w W1.drew := only_drewN B2 1
          have z3 : W1.drew.frozen? ⟨q, 2, none⟩ = false := z2
          have y2 : W1.drew.cell? ⟨q, 2, none⟩ = some (.int .i64 c) := d2
          clear f1 HB2 HO2 B2 d0 d1 d2 d3 z2
          generalize W1.drew = W3 at *
          have hb4 := blk_set HB3.out 2 (.int .i64 x)
          have own4 := ownsRow_setCell_other HO3.out (a := ⟨q, 2, none⟩) hVq (.int .i64 x)
          have B4 := B3.setCell (p := ⟨q, 2, none⟩) (show q = q from rfl) (.int .i64 x)
          generalize hW4 : W3.setCell ⟨q, 2, none⟩ (.int .i64 x) = W4 at *
          have hb4' : W4.heap[q]? = some (.cells #[.slice (some ⟨g, 0, none⟩) F.length cv, .int .i64 (p : Int), .int .i64 x, .int .i64 8] 52 (0, 0)) := hb4
          have u1 := blk_cell hb4' 1
          have v1 := blk_frozen hb4' 1
          simp at u1
          have hb5 := blk_set hb4' 1 (.int .i64 ((p : Int) + 1))
          have own5 := ownsRow_setCell_other own4 (a := ⟨q, 1, none⟩) hVq (.int .i64 ((p : Int) + 1))
          have B5 := B4.setCell (p := ⟨q, 1, none⟩) (show q = q from rfl) (.int .i64 ((p : Int) + 1))
          generalize hW5 : W4.setCell ⟨q, 1, none⟩ (.int .i64 ((p : Int) + 1)) = W5 at *
          have hb5' : W5.heap[q]? = some (.cells #[.slice (some ⟨g, 0, none⟩) F.length cv, .int .i64 ((p : Int) + 1), .int .i64 x, .int .i64 8] 52 (0, 0)) := hb5
          have u3 := blk_cell hb5' 3
          have v3 := blk_frozen hb5' 3
          simp at u3
          have hb6 := blk_set hb5' 3 (.int .i64 7)
          have own6 := ownsRow_setCell_other own5 (a := ⟨q, 3, none⟩) hVq (.int .i64 7)
          have B6 := B5.setCell (p := ⟨q, 3, none⟩) (show q = q from rfl) (.int .i64 7)
          generalize hW6 : W5.setCell ⟨q, 3, none⟩ (.int .i64 7) = W6 at *
          have hb6' : W6.heap[q]? = some (.cells #[.slice (some ⟨g, 0, none⟩) F.length cv, .int .i64 ((p + 1 : Nat) : Int), .int .i64 x, .int .i64 ((7 : Nat) : Int)] 52 (0, 0)) := hb6
          have t2 : W6.cell? ⟨q, 2, none⟩ = some (.int .i64 x) := blk_cell hb6' 2
          have t3 : W6.cell? ⟨q, 3, none⟩ = some (.int .i64 7) := blk_cell hb6' 3
          have HQ : Hid (∀ n, Qr (W6.drewN n) lo q F ⟨p + 1, x, 7⟩) := fun n => ⟨hq, _, hb6', own6⟩
          have hand := and_bit (x / 128)
          clear hb4 hb4' own4 hb5 hb5' own5 hb6 hb6' own6 HB3 HO3 B3 B4 B5
          go_wp2
          go_quiet (fail)
          go_wp2
          go_ret
          refine ⟨ret_i64 ?_, HQ.out nq, only_drewN B6 nq⟩
          first | rfl | (rw [show (2 : Int) ^ 6 = 64 from by decide]) | (rw [show (2 : Int) ^ 7 = 128 from by decide])
  · obtain ⟨k, rfl⟩ : ∃ k, l = k + 1 := ⟨l - 1, by omega⟩
    have e1 : qstep F ⟨p, c, k + 1⟩ = ⟨p, c, k⟩ := by unfold qstep; rw [if_neg (by simp)]; rfl
    have e2 : qbit F ⟨p, c, k + 1⟩ = c / 2 ^ k % 2 := by unfold qbit; rw [if_neg (by simp), e1]
    rw [e1, e2]
    have hkb : ((k : Int) + 1 == 0) = false := by simp; omega
    have c3 := blk_cell hb 3
    have z3 := blk_frozen hb 3
    simp at c3
    have hb5 := blk_set hb 3 (.int .i64 (k : Int))
    have own5 := ownsRow_setCell_other hown (a := ⟨q, 3, none⟩) hVq (.int .i64 (k : Int))
    have B5 : Only (· = q) w (w.setCell ⟨q, 3, none⟩ (.int .i64 (k : Int))) := (Only.refl (· = q) _).setCell (p := ⟨q, 3, none⟩) (show q = q from rfl) _
    generalize hW5 : w.setCell ⟨q, 3, none⟩ (.int .i64 (k : Int)) = W5 at *
    have hb5' : W5.heap[q]? = some (.cells #[V, .int .i64 (p : Int), .int .i64 c, .int .i64 (k : Int)] 52 (0, 0)) := hb5
    have d2 := blk_cell hb5' 2
    have d3 := blk_cell hb5' 3
    simp at d2 d3
    have HQ : Hid (∀ n, Qr (W5.drewN n) lo q F ⟨p, c, k⟩) := fun n => ⟨hq, V, hb5', own5⟩
    have hand := and_bit (c / 2 ^ k)
    clear hb hown hb5 hb5' own5 e1 e2
    go_enter Try.func22, Try.ntmps22
    go_wp2
    go_quiet (fail)
    go_wp2
    go_ret
    refine ⟨ret_i64 ?_, HQ.out nq, only_drewN B5 nq⟩
    have q0 : 0 ≤ c / 2 ^ k := Int.ediv_nonneg h3.1 (by have := pow_pos' k; omega)
    have q1 : c / 2 ^ k ≤ c := Int.ediv_le_self _ h3.1
    first | rfl | rw [IntWalk.wrap64_in _ (by omega), hand]
end Go.Proofs.Ytahnioenoecfeaa
