/- The Writer of package raw, beside other objects. -/
import Derived.Test.YtahnioenoecfeaaRawNew
import Derived.Test.YtahnioenoecfeaaOnly
set_option linter.unusedVariables false
namespace Go.Proofs.Ytahnioenoecfeaa
open Go.RowKit

/-- Block p is a Writer, all of whose blocks are of P. -/
def Wo (P : Nat → Prop) (w : World) (p : Nat) (it : List Int) (fr : Nat) : Prop :=
  P p ∧ ∃ V, w.heap[p]? = some (.cells #[V, .int .u8 0, .int .i64 (fr : Int)] 45 (0, 0)) ∧ w.ownsRow 0 5 1 V it.length (it.map (Value.int .u8)) ∧ ∀ k, V.ownBlock = some k → P k
theorem Wo.wr {P : Nat → Prop} {w : World} {p : Nat} {it : List Int} {fr : Nat} (h : Wo P w p it fr) : Wr w 0 p it fr := by
  obtain ⟨_, V, hb, hv, _⟩ := h
  exact ⟨Nat.zero_le _, V, hb, hv⟩
theorem Wo.imp {P Q : Nat → Prop} {w : World} {p : Nat} {it : List Int} {fr : Nat} (h : Wo P w p it fr) (hPQ : ∀ k, k < w.heap.size → P k → Q k) : Wo Q w p it fr := by
  obtain ⟨hp, V, hb, hv, hV⟩ := h
  exact ⟨hPQ _ (blk_lt hb) hp, V, hb, hv, fun k hk => hPQ _ (hv.lt k hk).2 (hV k hk)⟩
theorem Wo.keep {P : Nat → Prop} {w w' : World} {p : Nat} {it : List Int} {fr : Nat} (h : Wo P w p it fr) (hs : w.heap.size ≤ w'.heap.size) (hk : ∀ k, P k → w'.heap[k]? = w.heap[k]?) : Wo P w' p it fr := by
  obtain ⟨hp, V, hb, hv, hV⟩ := h
  exact ⟨hp, V, (hk p hp).trans hb, ownsRow_keep hv hs (fun k h => hk k (hV k h)), hV⟩
theorem Wr.wo {w : World} {lo p : Nat} {it : List Int} {fr : Nat} (h : Wr w lo p it fr) : Wo (fun k => lo ≤ k ∧ k < w.heap.size) w p it fr := by
  obtain ⟨hp, V, hb, hv⟩ := h
  exact ⟨⟨hp, blk_lt hb⟩, V, hb, own_zero hv, fun k hk => hv.lt k hk⟩

set_option maxHeartbeats 2000000 in
theorem wo_old {w : World} {P : Nat → Prop} {p : Nat} {d : List Int} {v b : Int} {f : Nat} (h : Wo P w p (d ++ [v]) (f + 1)) (hf : f ≤ 6) (hv : 0 ≤ v ∧ v ≤ 255) (hlow : v % 2 ^ (f + 1) = 0) (hl : d.length ≤ 100000) (hP : ∀ k, w.heap.size ≤ k → P k) :
    Calls Try.prog 13 #[.pointer (some ⟨p, 0, none⟩), .int .i64 b] w fun e w' => e = .returned (.tuple #[]) ∧ Wo P w' p (d ++ [v + b % 2 * 2 ^ f]) f ∧ Only P w w' := by
  obtain ⟨hp, V, hb, hown, hVP⟩ := h
  obtain ⟨m, hm⟩ : ∃ m, d.length = m := ⟨_, rfl⟩
  have hlen : (d ++ [v]).length = m + 1 := by simp [hm]
  rw [hlen] at hown
  obtain ⟨g, c, rfl, _, hgl, hcm, _⟩ := own_form hown (by omega)
  have hg : P g := hVP g rfl
  have hpg : g ≠ p := by
    have := blk_not_row hb (by decide) hown
    simpa [Value.ownBlock] using this
  have c0 := blk_cell hb 0
  have c2 := blk_cell hb 2
  simp at c0 c2
  have z2 := blk_frozen hb 2
  have hb1 := blk_set hb 2 (.int .i64 (f : Int))
  have own1 := ownsRow_setCell_other hown (a := ⟨p, 2, none⟩) (by simp [Value.ownBlock]; exact hpg) (.int .i64 (f : Int))
  have B1 : Only P w (w.setCell ⟨p, 2, none⟩ (.int .i64 (f : Int))) := (Only.refl _ _).setCell (p := ⟨p, 2, none⟩) hp _
  have hband := and_bit b
  have hx := Int.emod_nonneg b (show (2 : Int) ≠ 0 by omega)
  have hx2 := Int.emod_lt_of_pos b (show (0 : Int) < 2 by omega)
  obtain ⟨x, hxx⟩ : ∃ x : Nat, b % 2 = x := ⟨(b % 2).toNat, by omega⟩
  rw [hxx] at hband ⊢
  have hx1 : x ≤ 1 := by omega
  generalize hW : w.setCell ⟨p, 2, none⟩ (.int .i64 (f : Int)) = W at *
  have d0 := blk_cell hb1 0
  have d2 := blk_cell hb1 2
  simp at d0 d2
  have f1 := own1.cellAt m (by omega)
  have e1 : ((d ++ [v]).map (Value.int .u8))[m]? = some (.int .u8 v) := by
    rw [List.getElem?_map, List.getElem?_append_right (by omega), show m - d.length = 0 from by omega]; rfl
  rw [e1] at f1
  have f2 := own1.frozenAt m
  have HB := Lib.hid hb1
  have HO := Lib.hid own1
  have wm : IntKind.i64.wrap (m : Int) = (m : Int) := IntWalk.i64_in _ (by omega)
  have im : (m : Int) < (m : Int) + 1 := by omega
  have im0 : (0 : Int) ≤ (m : Int) := by omega
  have wx : IntKind.u8.wrap (x : Int) = (x : Int) := IntWalk.u8_in _ (by omega)
  clear hb hown hb1 own1 e1 hx hx2 hxx hlen
  go_enter Try.func13, Try.ntmps13
  go_wp2
  refine wp_region_still_tail 24 (by kernel_rfl) (by kernel_rfl) ?_
  simp only [List.take_succ_cons, List.take_zero, List.drop_succ_cons, List.drop_zero]
  repeat still_step
  refine wpStill_nil ?_
  change wpList _ _ _ _ _ W.drew
  have g1 : W.drew.cell? ⟨g, m, none⟩ = some (.int .u8 v) := f1
  have g2 : W.drew.frozen? ⟨g, m, none⟩ = false := f2
  have HB2 : Hid (W.drew.heap[p]? = _) := HB.out
  have HO2 : Hid (W.drew.ownsRow 0 5 1 (.slice (some ⟨g, 0, none⟩) (m + 1) c) (m + 1) ((d ++ [v]).map (Value.int .u8))) := HO.out
  have B2 : Only P w W.drew := only_drewN B1 1
  clear f1 f2 HB HO B1 d0 d2
  generalize W.drew = W2 at *
  have hor : bits .or .u8 v ((x : Int) * 2 ^ f % 256) = v + (x : Int) * 2 ^ f := by
    obtain ⟨y, rfl⟩ := Int.eq_ofNat_of_zero_le hv.1
    have p6 : (2 : Nat) ^ f ≤ 2 ^ 6 := Nat.pow_le_pow_right (by decide) hf
    have p64 : (2 : Nat) ^ 6 = 64 := by decide
    have hxf : x * 2 ^ f < 256 := by
      have : x * 2 ^ f ≤ 1 * 2 ^ f := Nat.mul_le_mul_right _ hx1
      omega
    have e0 : (x : Int) * 2 ^ f = ((x * 2 ^ f : Nat) : Int) := by simp
    have hy : y % 2 ^ (f + 1) = 0 := by
      have e2 : ((2 : Int) ^ (f + 1)) = ((2 ^ (f + 1) : Nat) : Int) := by simp
      rw [e2] at hlow
      omega
    rw [e0, show ((x * 2 ^ f : Nat) : Int) % 256 = ((x * 2 ^ f : Nat) : Int) from by omega, or8 y x f (by omega) hy (by omega) hx1]
    rfl
  have HOR := Lib.hid hor
  clear hor
  go_wp2
  go_end0
  rw [HOR.out]
  have S := HO2.out.stored m (.int .u8 (v + (x : Int) * 2 ^ f))
  have S1 := S.1
  have es : ((d ++ [v]).map (Value.int .u8)).set m (.int .u8 (v + (x : Int) * 2 ^ f)) = (d ++ [v + (x : Int) * 2 ^ f]).map (Value.int .u8) := by
    rw [← List.map_set, List.set_append_right _ _ (by omega), show m - d.length = 0 from by omega]; rfl
  rw [es] at S1
  refine ⟨rfl, ⟨hp, .slice (some ⟨g, 0, none⟩) (m + 1) c, ?_, ?_, fun k hk => by injection hk with hk; rw [← hk]; exact hg⟩, B2.setCell (p := ⟨g, m, none⟩) hg _⟩
  · rw [S.2.block p (blk_lt HB2.out) (by simpa using fun e => hpg e.symm)]
    exact HB2.out
  · rw [show (d ++ [v + (x : Int) * 2 ^ f]).length = m + 1 from by simp [hm]]
    exact S1
set_option maxHeartbeats 4000000 in
theorem wo_new {w : World} {P : Nat → Prop} {p : Nat} {it : List Int} {b : Int} (h : Wo P w p it 0) (hl : it.length ≤ 100000) (hP : ∀ k, w.heap.size ≤ k → P k) :
    Calls Try.prog 13 #[.pointer (some ⟨p, 0, none⟩), .int .i64 b] w fun e w' => e = .returned (.tuple #[]) ∧ Wo P w' p (it ++ [b % 2 * 2 ^ (wnew it - 1)]) (wnew it - 1) ∧ Only P w w' := by
  obtain ⟨i0, hi, hz0, hz1, hz2⟩ := info_parts Try.info5
  obtain ⟨hp, V, hb, hown, hVP⟩ := h
  have c0 := blk_cell hb 2
  have z0 := blk_frozen hb 2
  simp at c0
  have hband := and_bit b
  have hx := Int.emod_nonneg b (show (2 : Int) ≠ 0 by omega)
  have hx2 := Int.emod_lt_of_pos b (show (0 : Int) < 2 by omega)
  obtain ⟨x, hxx⟩ : ∃ x : Nat, b % 2 = x := ⟨(b % 2).toNat, by omega⟩
  rw [hxx] at hband ⊢
  have hx1 : x ≤ 1 := by omega
  clear hx hx2 hxx
  by_cases hf : it.getLastD 0 = 255
  · have hw : wnew it = 7 := if_pos hf
    rw [hw, show 7 - 1 = 6 from rfl, show (2 : Int) ^ 6 = 64 from by decide]
    have hb1 := blk_set hb 2 (.int .i64 8)
    have own1 := ownsRow_setCell_other hown (a := ⟨p, 2, none⟩) (by have := blk_not_row hb (by decide) hown; simpa using this) (.int .i64 8)
    have B1 : Only P w (w.setCell ⟨p, 2, none⟩ (.int .i64 8)) := (Only.refl _ _).setCell (p := ⟨p, 2, none⟩) hp _
    have s1 : w.heap.size ≤ (w.setCell ⟨p, 2, none⟩ (.int .i64 8)).heap.size := by simp [World.setCell]
    generalize hW1 : w.setCell ⟨p, 2, none⟩ (.int .i64 8) = W1 at *
    have wr1 : Wr W1 0 p it 8 := ⟨Nat.zero_le _, V, hb1, own1⟩
    have FC := Lib.hid (full_any wr1 hl)
    have hb1' : W1.heap[p]? = some (.cells #[V, .int .u8 0, .int .i64 8] 45 (0, 0)) := hb1
    have d2 := blk_cell hb1' 2
    have y2 := blk_frozen hb1' 2
    simp at d2
    clear wr1 hb hown hb1
    have HB1 := Lib.hid hb1'
    have HO1 := Lib.hid own1
    clear hb1' own1
    go_enter Try.func13, Try.ntmps13
    go_wp2_with fail
    refine FC.out.mono ?_
    rintro e w2 ⟨rfl, dn, hd⟩
    rw [decide_eq_true hf]
    have HB2 : Hid (w2.heap[p]? = some (.cells #[V, .int .u8 0, .int .i64 8] 45 (0, 0))) := by rw [hd]; exact HB1.out
    have HO2 : Hid (w2.ownsRow 0 5 1 V it.length (it.map (Value.int .u8))) := by rw [hd]; exact HO1.out
    have B2 : Only P w w2 := by rw [hd]; exact only_drewN B1 dn
    have s2 : w.heap.size ≤ w2.heap.size := by rw [hd]; exact s1
    clear hd HB1 HO1 B1 d2 y2 FC
    have c2 := blk_cell HB2.out 2
    have z2 := blk_frozen HB2.out 2
    simp at c2
    have HB3' := blk_set HB2.out 2 (.int .i64 7)
    have HO3' := ownsRow_setCell_other HO2.out (a := ⟨p, 2, none⟩) (by have := blk_not_row HB2.out (by decide) HO2.out; simpa using this) (.int .i64 7)
    have B3 := B2.setCell (p := ⟨p, 2, none⟩) hp (.int .i64 7)
    have s3 : w.heap.size ≤ (w2.setCell ⟨p, 2, none⟩ (.int .i64 7)).heap.size := by simpa [World.setCell] using s2
    generalize hW3 : w2.setCell ⟨p, 2, none⟩ (.int .i64 7) = w3 at *
    have HB3 : Hid (w3.heap[p]? = some (.cells #[V, .int .u8 0, .int .i64 7] 45 (0, 0))) := HB3'
    have HO3 := Lib.hid HO3'
    clear HB3' HO3' HB2 HO2 B2 s2
    obtain ⟨A, c, rfl, _, _, _⟩ := own_any HO3.out
    have c0 := blk_cell HB3.out 0
    have z0 := blk_frozen HB3.out 0
    simp at c0
    have hP3 : ∀ k, w3.heap.size ≤ k → P k := fun k hk => hP k (Nat.le_trans s3 hk)
    go_wp2_with (at_builtin; refine wpList_append_own_at _ rfl _ _ 30 rfl 0 5 i0 (.int .u8 0) 1 1 Try.underlying30 hi hz0 hz1 hz2 rfl (by decide) _ _ _ rfl (HO3.out.alloc _) ⟨w3.heap.size, 0, none⟩ 1 1 [.int .u8 0] rfl rfl (cell_one_new _ _ _) ?k2 ?k3 ?k4 ?k5 ?_)
    case k2 => intro u hu; simp at hu; subst hu; rfl
    case k3 => unfold maxLen; omega
    case k4 => omega
    case k5 => exact Nat.zero_le _
    intro v4 w4 hown4 hg4 _ hat4
    have hb3a : (w3.alloc (Obj.cells #[.int .u8 0] 5)).heap[p]? = some (.cells #[.slice A it.length c, .int .u8 0, .int .i64 7] 45 (0, 0)) := (Below.heap_alloc w3 _ p (blk_lt HB3.out)).trans HB3.out
    have hb4 : w4.heap[p]? = some (.cells #[.slice A it.length c, .int .u8 0, .int .i64 7] 45 (0, 0)) := (hg4.block p (blk_lt hb3a) (by have := blk_not_row hb3a (by decide) (HO3.out.alloc _); exact fun h => this h.symm)).trans hb3a
    have B4 : Only P w w4 := (B3.alloc (hP3 _ (Nat.le_refl _)) _).grown hg4 (fun k hk => hP3 k (Nat.le_trans (by simp) hk)) (fun k hk => hVP k hk)
    have e4 : it.map (Value.int .u8) ++ [Value.int .u8 0] = (it ++ [0]).map (Value.int .u8) := by simp
    rw [e4] at hown4
    obtain ⟨g, c4, rfl, _, hgl, hcm, _⟩ := own_form hown4 (by omega)
    have hg : P g := by
      rcases hat4 with e | e
      · exact hVP g e.symm
      · have : g = _ := Option.some.inj e
        rw [this]; exact hP3 _ (by simp)
    clear hat4
    have hpg : g ≠ p := by
      have := blk_not_row hb4 (by decide) hown4
      simpa [Value.ownBlock] using this
    have c4' := blk_cell hb4 0
    have z4 := blk_frozen hb4 0
    simp at c4'
    have hb5 := blk_set hb4 0 (.slice (some ⟨g, 0, none⟩) (it.length + 1) c4)
    have own5 := ownsRow_setCell_other hown4 (a := ⟨p, 0, none⟩) (by simp [Value.ownBlock]; exact hpg) (.slice (some ⟨g, 0, none⟩) (it.length + 1) c4)
    have B5 := B4.setCell (p := ⟨p, 0, none⟩) hp (.slice (some ⟨g, 0, none⟩) (it.length + 1) c4)
    generalize hW5 : w4.setCell ⟨p, 0, none⟩ (.slice (some ⟨g, 0, none⟩) (it.length + 1) c4) = W5 at *
    have hb5' : W5.heap[p]? = some (.cells #[.slice (some ⟨g, 0, none⟩) (it.length + 1) c4, .int .u8 0, .int .i64 7] 45 (0, 0)) := hb5
    have c5 := blk_cell hb5' 2
    have z5 := blk_frozen hb5' 2
    simp at c5
    have hb6 := blk_set hb5' 2 (.int .i64 6)
    have own6 := ownsRow_setCell_other own5 (a := ⟨p, 2, none⟩) (by simp [Value.ownBlock]; exact hpg) (.int .i64 6)
    have B6 := B5.setCell (p := ⟨p, 2, none⟩) hp (.int .i64 6)
    generalize hW6 : W5.setCell ⟨p, 2, none⟩ (.int .i64 6) = W6 at *
    have hb6' : W6.heap[p]? = some (.cells #[.slice (some ⟨g, 0, none⟩) (it.length + 1) c4, .int .u8 0, .int .i64 6] 45 (0, 0)) := hb6
    have d0 := blk_cell hb6' 0
    have d2 := blk_cell hb6' 2
    simp at d0 d2
    have f1 := own6.cellAt it.length (by omega)
    have e1 : ((it ++ [0]).map (Value.int .u8))[it.length]? = some (.int .u8 0) := by
      rw [List.getElem?_map, List.getElem?_append_right (by omega), show it.length - it.length = 0 from by omega]; rfl
    rw [e1] at f1
    have f2 := own6.frozenAt it.length
    have HB := Lib.hid hb6'
    have HO := Lib.hid own6
    have wm : IntKind.i64.wrap (it.length : Int) = (it.length : Int) := IntWalk.i64_in _ (by omega)
    have im : (it.length : Int) < (it.length : Int) + 1 := by omega
    have im0 : (0 : Int) ≤ (it.length : Int) := by omega
    have wx : IntKind.u8.wrap (x : Int) = (x : Int) := IntWalk.u8_in _ (by omega)
    clear hown4 hg4 hb3a hb4 hb5 hb5' own5 hb6 hb6' own6 e1 e4 HB3 HO3
    go_wp2
    refine wp_region_still_tail 24 (by kernel_rfl) (by kernel_rfl) ?_
    simp only [List.take_succ_cons, List.take_zero, List.drop_succ_cons, List.drop_zero]
    repeat still_step
    refine wpStill_nil ?_
    change wpList _ _ _ _ _ W6.drew
    have g1 : W6.drew.cell? ⟨g, it.length, none⟩ = some (.int .u8 0) := f1
    have g2 : W6.drew.frozen? ⟨g, it.length, none⟩ = false := f2
    have HB7 : Hid (W6.drew.heap[p]? = some (.cells #[.slice (some ⟨g, 0, none⟩) (it.length + 1) c4, .int .u8 0, .int .i64 6] 45 (0, 0))) := HB.out
    have HO7 : Hid (W6.drew.ownsRow 0 5 1 (.slice (some ⟨g, 0, none⟩) (it.length + 1) c4) (it.length + 1) ((it ++ [0]).map (Value.int .u8))) := HO.out
    have B7 : Only P w W6.drew := only_drewN B6 1
    clear f1 f2 HB HO B6 d0 d2
    generalize W6.drew = W7 at *
    have hor : bits .or .u8 0 ((x : Int) * 64) = (x : Int) * 64 := by
      have h := or8 0 x 6 (by omega) (by decide) (by omega) hx1
      have e1 : (2 : Nat) ^ 6 = 64 := by decide
      rw [e1] at h
      have e2 : ((x * 64 : Nat) : Int) = (x : Int) * 64 := by simp
      have e3 : ((0 + x * 64 : Nat) : Int) = (x : Int) * 64 := by simp
      rw [e2, e3] at h
      exact h
    have HOR := Lib.hid hor
    clear hor
    go_wp2
    go_end0
    have S := HO7.out.stored it.length (.int .u8 ((x : Int) * 64))
    have S1 := S.1
    have es : ((it ++ [0]).map (Value.int .u8)).set it.length (.int .u8 ((x : Int) * 64)) = (it ++ [(x : Int) * 64]).map (Value.int .u8) := by
      rw [← List.map_set, List.set_append_right _ _ (Nat.le_refl _), Nat.sub_self]; rfl
    rw [es] at S1
    rw [HOR.out]
    refine ⟨rfl, ⟨hp, .slice (some ⟨g, 0, none⟩) (it.length + 1) c4, ?_, ?_, fun k hk => by injection hk with hk; rw [← hk]; exact hg⟩, B7.setCell (p := ⟨g, it.length, none⟩) hg _⟩
    · rw [S.2.block p (blk_lt HB7.out) (by simpa using fun e => hpg e.symm)]
      exact HB7.out
    · rw [show (it ++ [(x : Int) * 64]).length = it.length + 1 from by simp]
      exact S1
  · have hw : wnew it = 8 := if_neg hf
    rw [hw, show 8 - 1 = 7 from rfl, show (2 : Int) ^ 7 = 128 from by decide]
    have hb1 := blk_set hb 2 (.int .i64 8)
    have own1 := ownsRow_setCell_other hown (a := ⟨p, 2, none⟩) (by have := blk_not_row hb (by decide) hown; simpa using this) (.int .i64 8)
    have B1 : Only P w (w.setCell ⟨p, 2, none⟩ (.int .i64 8)) := (Only.refl _ _).setCell (p := ⟨p, 2, none⟩) hp _
    have s1 : w.heap.size ≤ (w.setCell ⟨p, 2, none⟩ (.int .i64 8)).heap.size := by simp [World.setCell]
    generalize hW1 : w.setCell ⟨p, 2, none⟩ (.int .i64 8) = W1 at *
    have wr1 : Wr W1 0 p it 8 := ⟨Nat.zero_le _, V, hb1, own1⟩
    have FC := Lib.hid (full_any wr1 hl)
    have hb1' : W1.heap[p]? = some (.cells #[V, .int .u8 0, .int .i64 8] 45 (0, 0)) := hb1
    have d2 := blk_cell hb1' 2
    have y2 := blk_frozen hb1' 2
    simp at d2
    clear wr1 hb hown hb1
    have HB1 := Lib.hid hb1'
    have HO1 := Lib.hid own1
    clear hb1' own1
    go_enter Try.func13, Try.ntmps13
    go_wp2_with fail
    refine FC.out.mono ?_
    rintro e w2 ⟨rfl, dn, hd⟩
    rw [decide_eq_false hf]
    have HB2 : Hid (w2.heap[p]? = some (.cells #[V, .int .u8 0, .int .i64 8] 45 (0, 0))) := by rw [hd]; exact HB1.out
    have HO2 : Hid (w2.ownsRow 0 5 1 V it.length (it.map (Value.int .u8))) := by rw [hd]; exact HO1.out
    have B2 : Only P w w2 := by rw [hd]; exact only_drewN B1 dn
    have s2 : w.heap.size ≤ w2.heap.size := by rw [hd]; exact s1
    clear hd HB1 HO1 B1 d2 y2 FC
    have HB3 := HB2
    have HO3 := HO2
    have B3 := B2
    have s3 := s2
    obtain ⟨A, c, rfl, _, _, _⟩ := own_any HO3.out
    have c0 := blk_cell HB3.out 0
    have z0 := blk_frozen HB3.out 0
    simp at c0
    have hP3 : ∀ k, w2.heap.size ≤ k → P k := fun k hk => hP k (Nat.le_trans s3 hk)
    go_wp2_with (at_builtin; refine wpList_append_own_at _ rfl _ _ 30 rfl 0 5 i0 (.int .u8 0) 1 1 Try.underlying30 hi hz0 hz1 hz2 rfl (by decide) _ _ _ rfl (HO3.out.alloc _) ⟨w2.heap.size, 0, none⟩ 1 1 [.int .u8 0] rfl rfl (cell_one_new _ _ _) ?k2 ?k3 ?k4 ?k5 ?_)
    case k2 => intro u hu; simp at hu; subst hu; rfl
    case k3 => unfold maxLen; omega
    case k4 => omega
    case k5 => exact Nat.zero_le _
    intro v4 w4 hown4 hg4 _ hat4
    have hb3a : (w2.alloc (Obj.cells #[.int .u8 0] 5)).heap[p]? = some (.cells #[.slice A it.length c, .int .u8 0, .int .i64 8] 45 (0, 0)) := (Below.heap_alloc w2 _ p (blk_lt HB3.out)).trans HB3.out
    have hb4 : w4.heap[p]? = some (.cells #[.slice A it.length c, .int .u8 0, .int .i64 8] 45 (0, 0)) := (hg4.block p (blk_lt hb3a) (by have := blk_not_row hb3a (by decide) (HO3.out.alloc _); exact fun h => this h.symm)).trans hb3a
    have B4 : Only P w w4 := (B3.alloc (hP3 _ (Nat.le_refl _)) _).grown hg4 (fun k hk => hP3 k (Nat.le_trans (by simp) hk)) (fun k hk => hVP k hk)
    have e4 : it.map (Value.int .u8) ++ [Value.int .u8 0] = (it ++ [0]).map (Value.int .u8) := by simp
    rw [e4] at hown4
    obtain ⟨g, c4, rfl, _, hgl, hcm, _⟩ := own_form hown4 (by omega)
    have hg : P g := by
      rcases hat4 with e | e
      · exact hVP g e.symm
      · have : g = _ := Option.some.inj e
        rw [this]; exact hP3 _ (by simp)
    clear hat4
    have hpg : g ≠ p := by
      have := blk_not_row hb4 (by decide) hown4
      simpa [Value.ownBlock] using this
    have c4' := blk_cell hb4 0
    have z4 := blk_frozen hb4 0
    simp at c4'
    have hb5 := blk_set hb4 0 (.slice (some ⟨g, 0, none⟩) (it.length + 1) c4)
    have own5 := ownsRow_setCell_other hown4 (a := ⟨p, 0, none⟩) (by simp [Value.ownBlock]; exact hpg) (.slice (some ⟨g, 0, none⟩) (it.length + 1) c4)
    have B5 := B4.setCell (p := ⟨p, 0, none⟩) hp (.slice (some ⟨g, 0, none⟩) (it.length + 1) c4)
    generalize hW5 : w4.setCell ⟨p, 0, none⟩ (.slice (some ⟨g, 0, none⟩) (it.length + 1) c4) = W5 at *
    have hb5' : W5.heap[p]? = some (.cells #[.slice (some ⟨g, 0, none⟩) (it.length + 1) c4, .int .u8 0, .int .i64 8] 45 (0, 0)) := hb5
    have c5 := blk_cell hb5' 2
    have z5 := blk_frozen hb5' 2
    simp at c5
    have hb6 := blk_set hb5' 2 (.int .i64 7)
    have own6 := ownsRow_setCell_other own5 (a := ⟨p, 2, none⟩) (by simp [Value.ownBlock]; exact hpg) (.int .i64 7)
    have B6 := B5.setCell (p := ⟨p, 2, none⟩) hp (.int .i64 7)
    generalize hW6 : W5.setCell ⟨p, 2, none⟩ (.int .i64 7) = W6 at *
    have hb6' : W6.heap[p]? = some (.cells #[.slice (some ⟨g, 0, none⟩) (it.length + 1) c4, .int .u8 0, .int .i64 7] 45 (0, 0)) := hb6
    have d0 := blk_cell hb6' 0
    have d2 := blk_cell hb6' 2
    simp at d0 d2
    have f1 := own6.cellAt it.length (by omega)
    have e1 : ((it ++ [0]).map (Value.int .u8))[it.length]? = some (.int .u8 0) := by
      rw [List.getElem?_map, List.getElem?_append_right (by omega), show it.length - it.length = 0 from by omega]; rfl
    rw [e1] at f1
    have f2 := own6.frozenAt it.length
    have HB := Lib.hid hb6'
    have HO := Lib.hid own6
    have wm : IntKind.i64.wrap (it.length : Int) = (it.length : Int) := IntWalk.i64_in _ (by omega)
    have im : (it.length : Int) < (it.length : Int) + 1 := by omega
    have im0 : (0 : Int) ≤ (it.length : Int) := by omega
    have wx : IntKind.u8.wrap (x : Int) = (x : Int) := IntWalk.u8_in _ (by omega)
    clear hown4 hg4 hb3a hb4 hb5 hb5' own5 hb6 hb6' own6 e1 e4 HB3 HO3
    go_wp2
    refine wp_region_still_tail 24 (by kernel_rfl) (by kernel_rfl) ?_
    simp only [List.take_succ_cons, List.take_zero, List.drop_succ_cons, List.drop_zero]
    repeat still_step
    refine wpStill_nil ?_
    change wpList _ _ _ _ _ W6.drew
    have g1 : W6.drew.cell? ⟨g, it.length, none⟩ = some (.int .u8 0) := f1
    have g2 : W6.drew.frozen? ⟨g, it.length, none⟩ = false := f2
    have HB7 : Hid (W6.drew.heap[p]? = some (.cells #[.slice (some ⟨g, 0, none⟩) (it.length + 1) c4, .int .u8 0, .int .i64 7] 45 (0, 0))) := HB.out
    have HO7 : Hid (W6.drew.ownsRow 0 5 1 (.slice (some ⟨g, 0, none⟩) (it.length + 1) c4) (it.length + 1) ((it ++ [0]).map (Value.int .u8))) := HO.out
    have B7 : Only P w W6.drew := only_drewN B6 1
    clear f1 f2 HB HO B6 d0 d2
    generalize W6.drew = W7 at *
    have hor : bits .or .u8 0 ((x : Int) * 128) = (x : Int) * 128 := by
      have h := or8 0 x 7 (by omega) (by decide) (by omega) hx1
      have e1 : (2 : Nat) ^ 7 = 128 := by decide
      rw [e1] at h
      have e2 : ((x * 128 : Nat) : Int) = (x : Int) * 128 := by simp
      have e3 : ((0 + x * 128 : Nat) : Int) = (x : Int) * 128 := by simp
      rw [e2, e3] at h
      exact h
    have HOR := Lib.hid hor
    clear hor
    go_wp2
    go_end0
    have S := HO7.out.stored it.length (.int .u8 ((x : Int) * 128))
    have S1 := S.1
    have es : ((it ++ [0]).map (Value.int .u8)).set it.length (.int .u8 ((x : Int) * 128)) = (it ++ [(x : Int) * 128]).map (Value.int .u8) := by
      rw [← List.map_set, List.set_append_right _ _ (Nat.le_refl _), Nat.sub_self]; rfl
    rw [es] at S1
    rw [HOR.out]
    refine ⟨rfl, ⟨hp, .slice (some ⟨g, 0, none⟩) (it.length + 1) c4, ?_, ?_, fun k hk => by injection hk with hk; rw [← hk]; exact hg⟩, B7.setCell (p := ⟨g, it.length, none⟩) hg _⟩
    · rw [S.2.block p (blk_lt HB7.out) (by simpa using fun e => hpg e.symm)]
      exact HB7.out
    · rw [show (it ++ [(x : Int) * 128]).length = it.length + 1 from by simp]
      exact S1
theorem wo_bit {P : Nat → Prop} {w : World} {p : Nat} {s : List Int × Nat} {b : Int} (h : Wo P w p s.1 s.2) (ok : WOk s) (hl : s.1.length ≤ 100000) (hP : ∀ k, w.heap.size ≤ k → P k) :
    Calls Try.prog 13 #[.pointer (some ⟨p, 0, none⟩), .int .i64 b] w fun e w' => e = .returned (.tuple #[]) ∧ Wo P w' p (wstep s b).1 (wstep s b).2 ∧ Only P w w' := by
  obtain ⟨it, fr⟩ := s
  unfold wstep
  by_cases h0 : fr = 0
  · subst h0
    rw [if_pos rfl]
    exact wo_new h hl hP
  · rw [if_neg h0]
    have hne : it ≠ [] := fun e => h0 (ok.none e)
    obtain ⟨f, rfl⟩ : ∃ f, fr = f + 1 := ⟨fr - 1, by omega⟩
    have hlast := last_of hne
    have hr := ok.rng (it.getLastD 0) (by rw [List.getLastD_eq_getLast?, List.getLast?_eq_some_getLast hne]; exact List.getLast_mem hne)
    have hf := ok.free
    have hlow := ok.low
    have hlen : it.dropLast.length ≤ 100000 := by rw [List.length_dropLast]; simp at hl; omega
    have h' : Wo P w p (it.dropLast ++ [it.getLastD 0]) (f + 1) := by rw [← hlast]; exact h
    exact wo_old h' (by simp at hf; omega) hr hlow hlen hP
end Go.Proofs.Ytahnioenoecfeaa
