/- Bit of package raw's Writer, where a byte is begun. -/
import Derived.Test.YtahnioenoecfeaaRawW
set_option linter.unusedVariables false
namespace Go.Proofs.Ytahnioenoecfeaa
open Go.RowKit

set_option maxHeartbeats 4000000 in
theorem bit_new {w : World} {lo p : Nat} {it : List Int} {b : Int} (h : Wr w lo p it 0) (hl : it.length ≤ 100000) (hlo : lo ≤ w.heap.size) :
    Calls Try.prog 13 #[.pointer (some ⟨p, 0, none⟩), .int .i64 b] w fun e w' => e = .returned (.tuple #[]) ∧ Wr w' lo p (it ++ [b % 2 * 2 ^ (wnew it - 1)]) (wnew it - 1) ∧ Below lo w w' := by
  obtain ⟨i0, hi, hz0, hz1, hz2⟩ := info_parts Try.info5
  obtain ⟨hp, V, hb, hown⟩ := h
  have c0 := blk_cell hb 2
  have z0 := blk_frozen hb 2
  simp at c0
  have hband := and_bit b
  have hx := Int.emod_nonneg b (show (2 : Int) ≠ 0 by omega)
  have hx2 := Int.emod_lt_of_pos b (show (0 : Int) < 2 by omega)
  obtain ⟨x, hxx⟩ : ∃ x : Nat, b % 2 = x := ⟨(b % 2).toNat, by omega⟩
  rw [hxx] at hband ⊢
  have hx1 : x ≤ 1 := by omega
  clear hx hx2 hxx
  by_cases hf : it.getLastD 0 = 255
  · have hw : wnew it = 7 := if_pos hf
    rw [hw, show 7 - 1 = 6 from rfl, show (2 : Int) ^ 6 = 64 from by decide]
    have hb1 := blk_set hb 2 (.int .i64 8)
    have own1 := ownsRow_setCell_other hown (a := ⟨p, 2, none⟩) (by have := blk_not_row hb (by decide) hown; simpa using this) (.int .i64 8)
    have B1 : Below lo w (w.setCell ⟨p, 2, none⟩ (.int .i64 8)) := (Below.refl _ _).setCell (p := ⟨p, 2, none⟩) hp _
    have s1 : w.heap.size ≤ (w.setCell ⟨p, 2, none⟩ (.int .i64 8)).heap.size := by simp [World.setCell]
    generalize hW1 : w.setCell ⟨p, 2, none⟩ (.int .i64 8) = W1 at *
    have wr1 : Wr W1 lo p it 8 := ⟨hp, V, hb1, own1⟩
    have FC := Lib.hid (full_any wr1 hl)
    have hb1' : W1.heap[p]? = some (.cells #[V, .int .u8 0, .int .i64 8] 45 (0, 0)) := hb1
    have d2 := blk_cell hb1' 2
    have y2 := blk_frozen hb1' 2
    simp at d2
    clear wr1 hb hown hb1
    have HB1 := Lib.hid hb1'
    have HO1 := Lib.hid own1
    clear hb1' own1
    go_enter Try.func13, Try.ntmps13
    go_wp2_with fail
    refine FC.out.mono ?_
    rintro e w2 ⟨rfl, dn, hd⟩
    rw [decide_eq_true hf]
    have HB2 : Hid (w2.heap[p]? = some (.cells #[V, .int .u8 0, .int .i64 8] 45 (0, 0))) := by rw [hd]; exact HB1.out
    have HO2 : Hid (w2.ownsRow lo 5 1 V it.length (it.map (Value.int .u8))) := by rw [hd]; exact HO1.out
    have B2 : Below lo w w2 := by rw [hd]; exact below_drewN B1 dn
    have s2 : w.heap.size ≤ w2.heap.size := by rw [hd]; exact s1
    clear hd HB1 HO1 B1 d2 y2 FC
    have c2 := blk_cell HB2.out 2
    have z2 := blk_frozen HB2.out 2
    simp at c2
    have HB3' := blk_set HB2.out 2 (.int .i64 7)
    have HO3' := ownsRow_setCell_other HO2.out (a := ⟨p, 2, none⟩) (by have := blk_not_row HB2.out (by decide) HO2.out; simpa using this) (.int .i64 7)
    have B3 := B2.setCell (p := ⟨p, 2, none⟩) hp (.int .i64 7)
    have s3 : w.heap.size ≤ (w2.setCell ⟨p, 2, none⟩ (.int .i64 7)).heap.size := by simpa [World.setCell] using s2
    generalize hW3 : w2.setCell ⟨p, 2, none⟩ (.int .i64 7) = w3 at *
    have HB3 : Hid (w3.heap[p]? = some (.cells #[V, .int .u8 0, .int .i64 7] 45 (0, 0))) := HB3'
    have HO3 := Lib.hid HO3'
    clear HB3' HO3' HB2 HO2 B2 s2
    obtain ⟨A, c, rfl, _, _, _⟩ := own_any HO3.out
    have c0 := blk_cell HB3.out 0
    have z0 := blk_frozen HB3.out 0
    simp at c0
    have hlo3 : lo ≤ w3.heap.size := Nat.le_trans hlo s3
    go_wp2_with (at_builtin; refine wpList_append_own _ rfl _ _ 30 rfl lo 5 i0 (.int .u8 0) 1 1 Try.underlying30 hi hz0 hz1 hz2 rfl (by decide) _ _ _ rfl (HO3.out.alloc _) ⟨w3.heap.size, 0, none⟩ 1 1 [.int .u8 0] rfl rfl (cell_one_new _ _ _) ?k2 ?k3 ?k4 ?k5 ?_)
    case k2 => intro u hu; simp at hu; subst hu; rfl
    case k3 => unfold maxLen; omega
    case k4 => omega
    case k5 => simp; omega
    intro v4 w4 hown4 hg4 _
    have hb3a : (w3.alloc (Obj.cells #[.int .u8 0] 5)).heap[p]? = some (.cells #[.slice A it.length c, .int .u8 0, .int .i64 7] 45 (0, 0)) := (Below.heap_alloc w3 _ p (blk_lt HB3.out)).trans HB3.out
    have hb4 : w4.heap[p]? = some (.cells #[.slice A it.length c, .int .u8 0, .int .i64 7] 45 (0, 0)) := (hg4.block p (blk_lt hb3a) (by have := blk_not_row hb3a (by decide) (HO3.out.alloc _); exact fun h => this h.symm)).trans hb3a
    have B4 : Below lo w w4 := (B3.alloc hlo3 _).grown hg4 (by simp; omega) (fun k hk => (HO3.out.lt k hk).1)
    have e4 : it.map (Value.int .u8) ++ [Value.int .u8 0] = (it ++ [0]).map (Value.int .u8) := by simp
    rw [e4] at hown4
    obtain ⟨g, c4, rfl, hg, hgl, hcm, _⟩ := own_form hown4 (by omega)
    have hpg : g ≠ p := by
      have := blk_not_row hb4 (by decide) hown4
      simpa [Value.ownBlock] using this
    have c4' := blk_cell hb4 0
    have z4 := blk_frozen hb4 0
    simp at c4'
    have hb5 := blk_set hb4 0 (.slice (some ⟨g, 0, none⟩) (it.length + 1) c4)
    have own5 := ownsRow_setCell_other hown4 (a := ⟨p, 0, none⟩) (by simp [Value.ownBlock]; exact hpg) (.slice (some ⟨g, 0, none⟩) (it.length + 1) c4)
    have B5 := B4.setCell (p := ⟨p, 0, none⟩) hp (.slice (some ⟨g, 0, none⟩) (it.length + 1) c4)
    generalize hW5 : w4.setCell ⟨p, 0, none⟩ (.slice (some ⟨g, 0, none⟩) (it.length + 1) c4) = W5 at *
    have hb5' : W5.heap[p]? = some (.cells #[.slice (some ⟨g, 0, none⟩) (it.length + 1) c4, .int .u8 0, .int .i64 7] 45 (0, 0)) := hb5
    have c5 := blk_cell hb5' 2
    have z5 := blk_frozen hb5' 2
    simp at c5
    have hb6 := blk_set hb5' 2 (.int .i64 6)
    have own6 := ownsRow_setCell_other own5 (a := ⟨p, 2, none⟩) (by simp [Value.ownBlock]; exact hpg) (.int .i64 6)
    have B6 := B5.setCell (p := ⟨p, 2, none⟩) hp (.int .i64 6)
    generalize hW6 : W5.setCell ⟨p, 2, none⟩ (.int .i64 6) = W6 at *
    have hb6' : W6.heap[p]? = some (.cells #[.slice (some ⟨g, 0, none⟩) (it.length + 1) c4, .int .u8 0, .int .i64 6] 45 (0, 0)) := hb6
    have d0 := blk_cell hb6' 0
    have d2 := blk_cell hb6' 2
    simp at d0 d2
    have f1 := own6.cellAt it.length (by omega)
    have e1 : ((it ++ [0]).map (Value.int .u8))[it.length]? = some (.int .u8 0) := by
      rw [List.getElem?_map, List.getElem?_append_right (by omega), show it.length - it.length = 0 from by omega]; rfl
    rw [e1] at f1
    have f2 := own6.frozenAt it.length
    have HB := Lib.hid hb6'
    have HO := Lib.hid own6
    have wm : IntKind.i64.wrap (it.length : Int) = (it.length : Int) := IntWalk.i64_in _ (by omega)
    have im : (it.length : Int) < (it.length : Int) + 1 := by omega
    have im0 : (0 : Int) ≤ (it.length : Int) := by omega
    have wx : IntKind.u8.wrap (x : Int) = (x : Int) := IntWalk.u8_in _ (by omega)
    clear hown4 hg4 hb3a hb4 hb5 hb5' own5 hb6 hb6' own6 e1 e4 HB3 HO3
    go_wp2
    refine wp_region_still_tail 24 (by kernel_rfl) (by kernel_rfl) ?_
    simp only [List.take_succ_cons, List.take_zero, List.drop_succ_cons, List.drop_zero]
    repeat still_step
    refine wpStill_nil ?_
    change wpList _ _ _ _ _ W6.drew
    have g1 : W6.drew.cell? ⟨g, it.length, none⟩ = some (.int .u8 0) := f1
    have g2 : W6.drew.frozen? ⟨g, it.length, none⟩ = false := f2
    have HB7 : Hid (W6.drew.heap[p]? = some (.cells #[.slice (some ⟨g, 0, none⟩) (it.length + 1) c4, .int .u8 0, .int .i64 6] 45 (0, 0))) := HB.out
    have HO7 : Hid (W6.drew.ownsRow lo 5 1 (.slice (some ⟨g, 0, none⟩) (it.length + 1) c4) (it.length + 1) ((it ++ [0]).map (Value.int .u8))) := HO.out
    have B7 : Below lo w W6.drew := below_drewN B6 1
    clear f1 f2 HB HO B6 d0 d2
    generalize W6.drew = W7 at *
    have hor : bits .or .u8 0 ((x : Int) * 64) = (x : Int) * 64 := by
      have h := or8 0 x 6 (by omega) (by decide) (by omega) hx1
      have e1 : (2 : Nat) ^ 6 = 64 := by decide
      rw [e1] at h
      have e2 : ((x * 64 : Nat) : Int) = (x : Int) * 64 := by simp
      have e3 : ((0 + x * 64 : Nat) : Int) = (x : Int) * 64 := by simp
      rw [e2, e3] at h
      exact h
    have HOR := Lib.hid hor
    clear hor
    go_wp2
    go_end0
    have S := HO7.out.stored it.length (.int .u8 ((x : Int) * 64))
    have S1 := S.1
    have es : ((it ++ [0]).map (Value.int .u8)).set it.length (.int .u8 ((x : Int) * 64)) = (it ++ [(x : Int) * 64]).map (Value.int .u8) := by
      rw [← List.map_set, List.set_append_right _ _ (Nat.le_refl _), Nat.sub_self]; rfl
    rw [es] at S1
    rw [HOR.out]
    refine ⟨rfl, ⟨hp, .slice (some ⟨g, 0, none⟩) (it.length + 1) c4, ?_, ?_⟩, B7.setCell (p := ⟨g, it.length, none⟩) hg _⟩
    · rw [S.2.block p (blk_lt HB7.out) (by simpa using fun e => hpg e.symm)]
      exact HB7.out
    · rw [show (it ++ [(x : Int) * 64]).length = it.length + 1 from by simp]
      exact S1
  · have hw : wnew it = 8 := if_neg hf
    rw [hw, show 8 - 1 = 7 from rfl, show (2 : Int) ^ 7 = 128 from by decide]
    have hb1 := blk_set hb 2 (.int .i64 8)
    have own1 := ownsRow_setCell_other hown (a := ⟨p, 2, none⟩) (by have := blk_not_row hb (by decide) hown; simpa using this) (.int .i64 8)
    have B1 : Below lo w (w.setCell ⟨p, 2, none⟩ (.int .i64 8)) := (Below.refl _ _).setCell (p := ⟨p, 2, none⟩) hp _
    have s1 : w.heap.size ≤ (w.setCell ⟨p, 2, none⟩ (.int .i64 8)).heap.size := by simp [World.setCell]
    generalize hW1 : w.setCell ⟨p, 2, none⟩ (.int .i64 8) = W1 at *
    have wr1 : Wr W1 lo p it 8 := ⟨hp, V, hb1, own1⟩
    have FC := Lib.hid (full_any wr1 hl)
    have hb1' : W1.heap[p]? = some (.cells #[V, .int .u8 0, .int .i64 8] 45 (0, 0)) := hb1
    have d2 := blk_cell hb1' 2
    have y2 := blk_frozen hb1' 2
    simp at d2
    clear wr1 hb hown hb1
    have HB1 := Lib.hid hb1'
    have HO1 := Lib.hid own1
    clear hb1' own1
    go_enter Try.func13, Try.ntmps13
    go_wp2_with fail
    refine FC.out.mono ?_
    rintro e w2 ⟨rfl, dn, hd⟩
    rw [decide_eq_false hf]
    have HB2 : Hid (w2.heap[p]? = some (.cells #[V, .int .u8 0, .int .i64 8] 45 (0, 0))) := by rw [hd]; exact HB1.out
    have HO2 : Hid (w2.ownsRow lo 5 1 V it.length (it.map (Value.int .u8))) := by rw [hd]; exact HO1.out
    have B2 : Below lo w w2 := by rw [hd]; exact below_drewN B1 dn
    have s2 : w.heap.size ≤ w2.heap.size := by rw [hd]; exact s1
    clear hd HB1 HO1 B1 d2 y2 FC
    have HB3 := HB2
    have HO3 := HO2
    have B3 := B2
    have s3 := s2
    obtain ⟨A, c, rfl, _, _, _⟩ := own_any HO3.out
    have c0 := blk_cell HB3.out 0
    have z0 := blk_frozen HB3.out 0
    simp at c0
    have hlo3 : lo ≤ w2.heap.size := Nat.le_trans hlo s3
    go_wp2_with (at_builtin; refine wpList_append_own _ rfl _ _ 30 rfl lo 5 i0 (.int .u8 0) 1 1 Try.underlying30 hi hz0 hz1 hz2 rfl (by decide) _ _ _ rfl (HO3.out.alloc _) ⟨w2.heap.size, 0, none⟩ 1 1 [.int .u8 0] rfl rfl (cell_one_new _ _ _) ?k2 ?k3 ?k4 ?k5 ?_)
    case k2 => intro u hu; simp at hu; subst hu; rfl
    case k3 => unfold maxLen; omega
    case k4 => omega
    case k5 => simp; omega
    intro v4 w4 hown4 hg4 _
    have hb3a : (w2.alloc (Obj.cells #[.int .u8 0] 5)).heap[p]? = some (.cells #[.slice A it.length c, .int .u8 0, .int .i64 8] 45 (0, 0)) := (Below.heap_alloc w2 _ p (blk_lt HB3.out)).trans HB3.out
    have hb4 : w4.heap[p]? = some (.cells #[.slice A it.length c, .int .u8 0, .int .i64 8] 45 (0, 0)) := (hg4.block p (blk_lt hb3a) (by have := blk_not_row hb3a (by decide) (HO3.out.alloc _); exact fun h => this h.symm)).trans hb3a
    have B4 : Below lo w w4 := (B3.alloc hlo3 _).grown hg4 (by simp; omega) (fun k hk => (HO3.out.lt k hk).1)
    have e4 : it.map (Value.int .u8) ++ [Value.int .u8 0] = (it ++ [0]).map (Value.int .u8) := by simp
    rw [e4] at hown4
    obtain ⟨g, c4, rfl, hg, hgl, hcm, _⟩ := own_form hown4 (by omega)
    have hpg : g ≠ p := by
      have := blk_not_row hb4 (by decide) hown4
      simpa [Value.ownBlock] using this
    have c4' := blk_cell hb4 0
    have z4 := blk_frozen hb4 0
    simp at c4'
    have hb5 := blk_set hb4 0 (.slice (some ⟨g, 0, none⟩) (it.length + 1) c4)
    have own5 := ownsRow_setCell_other hown4 (a := ⟨p, 0, none⟩) (by simp [Value.ownBlock]; exact hpg) (.slice (some ⟨g, 0, none⟩) (it.length + 1) c4)
    have B5 := B4.setCell (p := ⟨p, 0, none⟩) hp (.slice (some ⟨g, 0, none⟩) (it.length + 1) c4)
    generalize hW5 : w4.setCell ⟨p, 0, none⟩ (.slice (some ⟨g, 0, none⟩) (it.length + 1) c4) = W5 at *
    have hb5' : W5.heap[p]? = some (.cells #[.slice (some ⟨g, 0, none⟩) (it.length + 1) c4, .int .u8 0, .int .i64 8] 45 (0, 0)) := hb5
    have c5 := blk_cell hb5' 2
    have z5 := blk_frozen hb5' 2
    simp at c5
    have hb6 := blk_set hb5' 2 (.int .i64 7)
    have own6 := ownsRow_setCell_other own5 (a := ⟨p, 2, none⟩) (by simp [Value.ownBlock]; exact hpg) (.int .i64 7)
    have B6 := B5.setCell (p := ⟨p, 2, none⟩) hp (.int .i64 7)
    generalize hW6 : W5.setCell ⟨p, 2, none⟩ (.int .i64 7) = W6 at *
    have hb6' : W6.heap[p]? = some (.cells #[.slice (some ⟨g, 0, none⟩) (it.length + 1) c4, .int .u8 0, .int .i64 7] 45 (0, 0)) := hb6
    have d0 := blk_cell hb6' 0
    have d2 := blk_cell hb6' 2
    simp at d0 d2
    have f1 := own6.cellAt it.length (by omega)
    have e1 : ((it ++ [0]).map (Value.int .u8))[it.length]? = some (.int .u8 0) := by
      rw [List.getElem?_map, List.getElem?_append_right (by omega), show it.length - it.length = 0 from by omega]; rfl
    rw [e1] at f1
    have f2 := own6.frozenAt it.length
    have HB := Lib.hid hb6'
    have HO := Lib.hid own6
    have wm : IntKind.i64.wrap (it.length : Int) = (it.length : Int) := IntWalk.i64_in _ (by omega)
    have im : (it.length : Int) < (it.length : Int) + 1 := by omega
    have im0 : (0 : Int) ≤ (it.length : Int) := by omega
    have wx : IntKind.u8.wrap (x : Int) = (x : Int) := IntWalk.u8_in _ (by omega)
    clear hown4 hg4 hb3a hb4 hb5 hb5' own5 hb6 hb6' own6 e1 e4 HB3 HO3
    go_wp2
    refine wp_region_still_tail 24 (by kernel_rfl) (by kernel_rfl) ?_
    simp only [List.take_succ_cons, List.take_zero, List.drop_succ_cons, List.drop_zero]
    repeat still_step
    refine wpStill_nil ?_
    change wpList _ _ _ _ _ W6.drew
    have g1 : W6.drew.cell? ⟨g, it.length, none⟩ = some (.int .u8 0) := f1
    have g2 : W6.drew.frozen? ⟨g, it.length, none⟩ = false := f2
    have HB7 : Hid (W6.drew.heap[p]? = some (.cells #[.slice (some ⟨g, 0, none⟩) (it.length + 1) c4, .int .u8 0, .int .i64 7] 45 (0, 0))) := HB.out
    have HO7 : Hid (W6.drew.ownsRow lo 5 1 (.slice (some ⟨g, 0, none⟩) (it.length + 1) c4) (it.length + 1) ((it ++ [0]).map (Value.int .u8))) := HO.out
    have B7 : Below lo w W6.drew := below_drewN B6 1
    clear f1 f2 HB HO B6 d0 d2
    generalize W6.drew = W7 at *
    have hor : bits .or .u8 0 ((x : Int) * 128) = (x : Int) * 128 := by
      have h := or8 0 x 7 (by omega) (by decide) (by omega) hx1
      have e1 : (2 : Nat) ^ 7 = 128 := by decide
      rw [e1] at h
      have e2 : ((x * 128 : Nat) : Int) = (x : Int) * 128 := by simp
      have e3 : ((0 + x * 128 : Nat) : Int) = (x : Int) * 128 := by simp
      rw [e2, e3] at h
      exact h
    have HOR := Lib.hid hor
    clear hor
    go_wp2
    go_end0
    have S := HO7.out.stored it.length (.int .u8 ((x : Int) * 128))
    have S1 := S.1
    have es : ((it ++ [0]).map (Value.int .u8)).set it.length (.int .u8 ((x : Int) * 128)) = (it ++ [(x : Int) * 128]).map (Value.int .u8) := by
      rw [← List.map_set, List.set_append_right _ _ (Nat.le_refl _), Nat.sub_self]; rfl
    rw [es] at S1
    rw [HOR.out]
    refine ⟨rfl, ⟨hp, .slice (some ⟨g, 0, none⟩) (it.length + 1) c4, ?_, ?_⟩, B7.setCell (p := ⟨g, it.length, none⟩) hg _⟩
    · rw [S.2.block p (blk_lt HB7.out) (by simpa using fun e => hpg e.symm)]
      exact HB7.out
    · rw [show (it ++ [(x : Int) * 128]).length = it.length + 1 from by simp]
      exact S1
end Go.Proofs.Ytahnioenoecfeaa
