/- The Writer of package bits: its methods by their contracts. -/
import Derived.Test.YtobbkdhndojggaaBitC
import Derived.Deep.Onto
set_option linter.unusedVariables false
namespace Go.Proofs.Ytobbkdhndojggaa
open Go.RowKit
set_option maxRecDepth 100000

/-- Block p is a Writer, all of whose blocks are of P: its bytes are it, of the last of them fr bits are free. -/
def Wb (P : Nat → Prop) (w : World) (p : Nat) (it : List Int) (fr : Nat) : Prop :=
  P p ∧ ∃ V, w.heap[p]? = some (.cells #[V, .int .i64 (it.length : Int), .int .i64 (fr : Int)] 135 (0, 0)) ∧ w.ownsRow 0 5 1 V it.length (it.map (Value.int .u8)) ∧ ∀ k, V.ownBlock = some k → P k
section
variable {P Q : Nat → Prop} {w w' : World} {p : Nat} {it : List Int} {fr : Nat}
theorem Wb.imp (h : Wb P w p it fr) (hPQ : ∀ k, k < w.heap.size → P k → Q k) : Wb Q w p it fr := by
  obtain ⟨hp, V, hb, hv, hV⟩ := h
  exact ⟨hPQ _ (blk_lt hb) hp, V, hb, hv, fun k hk => hPQ _ (hv.lt k hk).2 (hV k hk)⟩
theorem Wb.keep (h : Wb P w p it fr) (hs : w.heap.size ≤ w'.heap.size) (hk : ∀ k, P k → w'.heap[k]? = w.heap[k]?) : Wb P w' p it fr := by
  obtain ⟨hp, V, hb, hv, hV⟩ := h
  exact ⟨hp, V, (hk p hp).trans hb, ownsRow_keep hv hs (fun k h => hk k (hV k h)), hV⟩
theorem Wb.drew (h : Wb P w p it fr) (n : Nat) : Wb P (w.drewN n) p it fr := h
theorem Wb.lt (h : Wb P w p it fr) : p < w.heap.size := by
  obtain ⟨_, V, hb, _⟩ := h
  exact blk_lt hb
end
theorem orx (v : Int) (x : Nat) (f : Nat) (hf : f ≤ 7) (h0 : 0 ≤ v) (h1 : v ≤ 255) (hv : v % 2 ^ (f + 1) = 0) (hx : x ≤ 1) : bits .or .u8 v ((x : Int) * 2 ^ f % 256) = v + (x : Int) * 2 ^ f := by
  obtain ⟨y, rfl⟩ := Int.eq_ofNat_of_zero_le h0
  have p6 : (2 : Nat) ^ f ≤ 2 ^ 7 := Nat.pow_le_pow_right (by decide) hf
  have p64 : (2 : Nat) ^ 7 = 128 := by decide
  have hxf : x * 2 ^ f < 256 := by
    have : x * 2 ^ f ≤ 1 * 2 ^ f := Nat.mul_le_mul_right _ hx
    omega
  have e0 : (x : Int) * 2 ^ f = ((x * 2 ^ f : Nat) : Int) := by simp
  have hy : y % 2 ^ (f + 1) = 0 := by
    have e2 : ((2 : Int) ^ (f + 1)) = ((2 ^ (f + 1) : Nat) : Int) := by simp
    rw [e2] at hv
    omega
  rw [e0, show ((x * 2 ^ f : Nat) : Int) % 256 = ((x * 2 ^ f : Nat) : Int) from by omega, or8 y x f (by omega) hy (by omega) hx]
  rfl
theorem curF_last (it : List Int) : curF it it.length = it.getLastD 0 := by
  unfold curF
  rw [List.getLastD_eq_getLast?, List.getLast?_eq_getElem?]
  split
  · rename_i h; rw [List.eq_nil_of_length_eq_zero h]; rfl
  · rw [List.getD_eq_getElem?_getD]

set_option maxHeartbeats 1000000 in
theorem bnew_any (w : World) : Calls Try.prog 34 #[] w fun e w' => ∃ p, e = .returned (.pointer (some ⟨p, 0, none⟩)) ∧ Wb (fun k => w.heap.size ≤ k ∧ k < w'.heap.size) w' p [] 0 ∧ Below w.heap.size w w' := by
  go_enter Try.func34, Try.ntmps34
  go_wp2
  go_ret
  exact ⟨_, rfl, ⟨⟨Nat.le_refl _, by simp⟩, _, heap_alloc_new w _, World.ownsRow_nil _ _ _ _, by simp [Value.ownBlock]⟩, (Below.refl _ _).alloc (Nat.le_refl _) _⟩

set_option maxHeartbeats 4000000 in
theorem wb_old {P : Nat → Prop} {w : World} {p : Nat} {d : List Int} {v b : Int} {f : Nat} (h : Wb P w p (d ++ [v]) (f + 1)) (hf : f ≤ 6) (hv : 0 ≤ v ∧ v ≤ 255) (hlow : v % 2 ^ (f + 1) = 0) (hl : d.length ≤ 90000) (hP : ∀ k, w.heap.size ≤ k → P k) :
    Calls Try.prog 36 #[.pointer (some ⟨p, 0, none⟩), .int .i64 b] w fun e w' => e = .returned (.tuple #[]) ∧ Wb P w' p (d ++ [v + b % 2 * 2 ^ f]) f ∧ Only P w w' := by
  obtain ⟨hp, V, hb, hown, hVP⟩ := h
  obtain ⟨m, hm⟩ : ∃ m, d.length = m := ⟨_, rfl⟩
  have hlen : (d ++ [v]).length = m + 1 := by simp [hm]
  have PA := Lib.hid (passW hb hown (by omega) (by omega) (by omega))
  rw [show pstep (d ++ [v]) ((d ++ [v]).length, f + 1) = (m + 1, f) from by rw [hlen]; unfold pstep; rw [if_neg (Nat.succ_ne_zero f)]; rfl] at PA
  rw [hlen] at PA hown
  obtain ⟨g, c, rfl, _, hgl, hcm, _⟩ := own_form hown (by omega)
  have hg : P g := hVP g rfl
  have hpg : g ≠ p := by
    have := blk_not_row hb (by decide) hown
    simpa [Value.ownBlock] using this
  have hband := and_bit b
  have hx := Int.emod_nonneg b (show (2 : Int) ≠ 0 by omega)
  have hx2 := Int.emod_lt_of_pos b (show (0 : Int) < 2 by omega)
  obtain ⟨x, hxx⟩ : ∃ x : Nat, b % 2 = x := ⟨(b % 2).toNat, by omega⟩
  rw [hxx] at hband ⊢
  have hx1 : x ≤ 1 := by omega
  have HVR := Lib.hid (And.intro hv.1 (And.intro hv.2 hlow))
  clear hb hown hx hx2 hxx hlen
  go_enter Try.func36, Try.ntmps36
  go_wp2_with fail
  refine PA.out.mono ?_
  rintro e W2 ⟨rfl, hb2, ho2, o2⟩
  have HB2 : Hid (W2.heap[p]? = some (.cells #[.slice (some ⟨g, 0, none⟩) (m + 1) c, .int .i64 ((m : Int) + 1), .int .i64 (f : Int)] 135 (0, 0))) := hb2
  have HO2 := Lib.hid ho2
  have B2 : Only P w W2 := o2.mono (fun k hk => by subst hk; exact hp)
  have c0 := blk_cell HB2.out 0
  have c1 := blk_cell HB2.out 1
  simp at c0 c1
  clear hb2 ho2 o2 PA
  go_wp2
  go_quiet (fail)
  obtain ⟨W3, hW3⟩ : ∃ W3, W2.drewN nq = W3 := ⟨_, rfl⟩
  have HB3 : Hid (W3.heap[p]? = some (.cells #[.slice (some ⟨g, 0, none⟩) (m + 1) c, .int .i64 ((m : Int) + 1), .int .i64 (f : Int)] 135 (0, 0))) := by rw [← hW3]; exact HB2.out
  have HO3 : Hid (W3.ownsRow 0 5 1 (.slice (some ⟨g, 0, none⟩) (m + 1) c) (m + 1) ((d ++ [v]).map (Value.int .u8))) := by rw [← hW3]; exact HO2.out
  have BW : Only P w W3 := by rw [← hW3]; exact only_drewN B2 nq
  rw [hW3]
  clear hW3 HB2 HO2 B2 c0 c1
  have e1 : ((d ++ [v]).map (Value.int .u8))[m]? = some (.int .u8 v) := by
    rw [List.getElem?_map, List.getElem?_append_right (by omega), show m - d.length = 0 from by omega]; rfl
  have f1 := HO3.out.cellAt m (by omega)
  rw [e1] at f1
  have f2 := HO3.out.frozenAt m
  have d0 := blk_cell HB3.out 0
  have d1 := blk_cell HB3.out 1
  simp at d0 d1
  have wm : IntKind.i64.wrap (m : Int) = (m : Int) := IntWalk.i64_in _ (by omega)
  have im : (m : Int) < (m : Int) + 1 := by omega
  have im0 : (0 : Int) ≤ (m : Int) := by omega
  have wx : IntKind.u8.wrap (x : Int) = (x : Int) := IntWalk.u8_in _ (by omega)
  clear e1
  go_wp2
  refine wp_region_still_tail 21 (by kernel_rfl) (by kernel_rfl) ?_
  simp only [List.take_succ_cons, List.take_zero, List.drop_succ_cons, List.drop_zero]
  repeat still_step
  refine wpStill_nil ?_
  change wpList _ _ _ _ _ W3.drew
  have g1 : W3.drew.cell? ⟨g, m, none⟩ = some (.int .u8 v) := f1
  have g2 : W3.drew.frozen? ⟨g, m, none⟩ = false := f2
  have HBx : Hid (W3.drew.heap[p]? = some (.cells #[.slice (some ⟨g, 0, none⟩) (m + 1) c, .int .i64 ((m : Int) + 1), .int .i64 (f : Int)] 135 (0, 0))) := HB3.out
  have HOx : Hid (W3.drew.ownsRow 0 5 1 (.slice (some ⟨g, 0, none⟩) (m + 1) c) (m + 1) ((d ++ [v]).map (Value.int .u8))) := HO3.out
  have BX : Only P w W3.drew := only_drewN BW 1
  clear f1 f2 HB3 HO3 BW d0 d1
  generalize W3.drew = WX at *
  have HOR := Lib.hid (orx v x f (by omega) HVR.out.1 HVR.out.2.1 HVR.out.2.2 hx1)
  go_wp2
  go_end0
  rw [HOR.out]
  have S := HOx.out.stored m (.int .u8 (v + (x : Int) * 2 ^ f))
  have S1 := S.1
  have es : ((d ++ [v]).map (Value.int .u8)).set m (.int .u8 (v + (x : Int) * 2 ^ f)) = (d ++ [v + (x : Int) * 2 ^ f]).map (Value.int .u8) := by
    rw [← List.map_set, List.set_append_right _ _ (by omega), show m - d.length = 0 from by omega]; rfl
  rw [es] at S1
  have hlen2 : (d ++ [v + (x : Int) * 2 ^ f]).length = m + 1 := by simp [hm]
  refine ⟨rfl, ⟨hp, .slice (some ⟨g, 0, none⟩) (m + 1) c, ?_, ?_, fun k hk => by injection hk with hk; rw [← hk]; exact hg⟩, BX.setCell (p := ⟨g, m, none⟩) hg _⟩
  · rw [hlen2, S.2.block p (blk_lt HBx.out) (by simpa using fun e => hpg e.symm)]
    exact HBx.out
  · rw [hlen2]
    exact S1

set_option maxHeartbeats 8000000 in
theorem wb_new {P : Nat → Prop} {w : World} {p : Nat} {d : List Int} {b : Int} (h : Wb P w p d 0) (hl : d.length ≤ 90000) (hP : ∀ k, w.heap.size ≤ k → P k) :
    Calls Try.prog 36 #[.pointer (some ⟨p, 0, none⟩), .int .i64 b] w fun e w' => e = .returned (.tuple #[]) ∧ Wb P w' p (d ++ [b % 2 * 2 ^ (wnew d - 1)]) (wnew d - 1) ∧ Only P w w' := by
  obtain ⟨i0, hi, hz0, hz1, hz2⟩ := info_parts Try.info5
  obtain ⟨hp, V, hb, hown, hVP⟩ := h
  obtain ⟨m, hm⟩ : ∃ m, d.length = m := ⟨_, rfl⟩
  have hwn := wnew_rng d
  obtain ⟨f, hf⟩ : ∃ f, wnew d - 1 = f := ⟨_, rfl⟩
  have PA := Lib.hid (passW hb hown (by omega) (by omega) (by omega))
  rw [show pstep d (d.length, 0) = (m + 1, f) from by unfold pstep; rw [if_pos rfl, curF_last, ← hf, ← hm]; rfl] at PA
  have hVp := blk_not_row hb (by decide) hown
  rw [hm] at PA hown
  rw [hf]
  have hf7 : f ≤ 7 := by omega
  have hband := and_bit b
  have hx := Int.emod_nonneg b (show (2 : Int) ≠ 0 by omega)
  have hx2 := Int.emod_lt_of_pos b (show (0 : Int) < 2 by omega)
  obtain ⟨x, hxx⟩ : ∃ x : Nat, b % 2 = x := ⟨(b % 2).toNat, by omega⟩
  rw [hxx] at hband ⊢
  have hx1 : x ≤ 1 := by omega
  have HVR : Hid ((0 : Int) ≤ 0 ∧ (0 : Int) ≤ 255 ∧ (0 : Int) % 2 ^ (f + 1) = 0) := ⟨by omega, by omega, by simp⟩
  obtain ⟨A, c, rfl, _, _, _⟩ := own_any hown
  clear hb hown hx hx2 hxx hf hwn
  go_enter Try.func36, Try.ntmps36
  go_wp2_with fail
  refine PA.out.mono ?_
  rintro e W2 ⟨rfl, hb2, ho2, o2⟩
  have HB2 : Hid (W2.heap[p]? = some (.cells #[.slice A m c, .int .i64 ((m : Int) + 1), .int .i64 (f : Int)] 135 (0, 0))) := hb2
  have HO2 := Lib.hid ho2
  have B2 : Only P w W2 := o2.mono (fun k hk => by subst hk; exact hp)
  have c0 := blk_cell HB2.out 0
  have c1 := blk_cell HB2.out 1
  simp at c0 c1
  have im1 : (m : Int) < (m : Int) + 1 := by omega
  clear hb2 ho2 o2 PA
  go_wp2
  go_quiet (fail)
  obtain ⟨W3, hW3⟩ : ∃ W3, W2.drewN nq = W3 := ⟨_, rfl⟩
  have HB3 : Hid (W3.heap[p]? = some (.cells #[.slice A m c, .int .i64 ((m : Int) + 1), .int .i64 (f : Int)] 135 (0, 0))) := by rw [← hW3]; exact HB2.out
  have HO3 : Hid (W3.ownsRow 0 5 1 (.slice A m c) m (d.map (Value.int .u8))) := by rw [← hW3]; exact HO2.out
  have B3 : Only P w W3 := by rw [← hW3]; exact only_drewN B2 nq
  rw [hW3]
  have s3 := B3.size
  clear hW3 HB2 HO2 B2 c0 c1
  have c0 := blk_cell HB3.out 0
  have z0 := blk_frozen HB3.out 0
  simp at c0
  have hP3 : ∀ k, W3.heap.size ≤ k → P k := fun k hk => hP k (Nat.le_trans s3 hk)
  go_wp2_with (at_builtin; refine wpList_append_own_at _ rfl _ _ 27 rfl 0 5 i0 (.int .u8 0) 1 1 Try.underlying27 hi hz0 hz1 hz2 rfl (by decide) _ _ _ rfl (HO3.out.alloc _) ⟨W3.heap.size, 0, none⟩ 1 1 [.int .u8 0] rfl rfl (cell_one_new _ _ _) ?k2 ?k3 ?k4 ?k5 ?_)
  case k2 => intro u hu; simp at hu; subst hu; rfl
  case k3 => unfold maxLen; omega
  case k4 => omega
  case k5 => exact Nat.zero_le _
  intro v4 w4 hown4 hg4 _ hat4
  have hb3a : (W3.alloc (Obj.cells #[.int .u8 0] 5)).heap[p]? = some (.cells #[.slice A m c, .int .i64 ((m : Int) + 1), .int .i64 (f : Int)] 135 (0, 0)) := (Below.heap_alloc W3 _ p (blk_lt HB3.out)).trans HB3.out
  have hb4 : w4.heap[p]? = some (.cells #[.slice A m c, .int .i64 ((m : Int) + 1), .int .i64 (f : Int)] 135 (0, 0)) := (hg4.block p (blk_lt hb3a) (fun h => hVp h.symm)).trans hb3a
  have B4 : Only P w w4 := (B3.alloc (hP3 _ (Nat.le_refl _)) _).grown hg4 (fun k hk => hP3 k (Nat.le_trans (by simp) hk)) (fun k hk => hVP k hk)
  have e4 : d.map (Value.int .u8) ++ [Value.int .u8 0] = (d ++ [0]).map (Value.int .u8) := by simp
  rw [e4] at hown4
  obtain ⟨g, c4, rfl, _, hgl, hcm, _⟩ := own_form hown4 (by omega)
  have hg : P g := by
    rcases hat4 with e | e
    · exact hVP g e.symm
    · have : g = _ := Option.some.inj e
      rw [this]; exact hP3 _ (by simp)
  clear hat4
  have hpg : g ≠ p := by
    have := blk_not_row hb4 (by decide) hown4
    simpa [Value.ownBlock] using this
  have c4' := blk_cell hb4 0
  have z4 := blk_frozen hb4 0
  simp at c4'
  have hb5 := blk_set hb4 0 (.slice (some ⟨g, 0, none⟩) (m + 1) c4)
  have own5 := ownsRow_setCell_other hown4 (a := ⟨p, 0, none⟩) (by simp [Value.ownBlock]; exact hpg) (.slice (some ⟨g, 0, none⟩) (m + 1) c4)
  have BW := B4.setCell (p := ⟨p, 0, none⟩) hp (.slice (some ⟨g, 0, none⟩) (m + 1) c4)
  generalize hW5 : w4.setCell ⟨p, 0, none⟩ (.slice (some ⟨g, 0, none⟩) (m + 1) c4) = W5 at *
  have HB5 : Hid (W5.heap[p]? = some (.cells #[.slice (some ⟨g, 0, none⟩) (m + 1) c4, .int .i64 ((m : Int) + 1), .int .i64 (f : Int)] 135 (0, 0))) := hb5
  have HO5 := Lib.hid own5
  clear hown4 hg4 hb3a hb4 hb5 own5 e4 HB3 HO3 B3 B4
  have e1 : ((d ++ [0]).map (Value.int .u8))[m]? = some (.int .u8 0) := by
    rw [List.getElem?_map, List.getElem?_append_right (by omega), show m - d.length = 0 from by omega]; rfl
  have f1 := HO5.out.cellAt m (by omega)
  rw [e1] at f1
  have f2 := HO5.out.frozenAt m
  have d0 := blk_cell HB5.out 0
  have d1 := blk_cell HB5.out 1
  simp at d0 d1
  have wm : IntKind.i64.wrap (m : Int) = (m : Int) := IntWalk.i64_in _ (by omega)
  have im : (m : Int) < (m : Int) + 1 := by omega
  have im0 : (0 : Int) ≤ (m : Int) := by omega
  have wx : IntKind.u8.wrap (x : Int) = (x : Int) := IntWalk.u8_in _ (by omega)
  clear e1
  go_wp2
  refine wp_region_still_tail 21 (by kernel_rfl) (by kernel_rfl) ?_
  simp only [List.take_succ_cons, List.take_zero, List.drop_succ_cons, List.drop_zero]
  repeat still_step
  refine wpStill_nil ?_
  change wpList _ _ _ _ _ W5.drew
  have g1 : W5.drew.cell? ⟨g, m, none⟩ = some (.int .u8 0) := f1
  have g2 : W5.drew.frozen? ⟨g, m, none⟩ = false := f2
  have HBx : Hid (W5.drew.heap[p]? = some (.cells #[.slice (some ⟨g, 0, none⟩) (m + 1) c4, .int .i64 ((m : Int) + 1), .int .i64 (f : Int)] 135 (0, 0))) := HB5.out
  have HOx : Hid (W5.drew.ownsRow 0 5 1 (.slice (some ⟨g, 0, none⟩) (m + 1) c4) (m + 1) ((d ++ [0]).map (Value.int .u8))) := HO5.out
  have BX : Only P w W5.drew := only_drewN BW 1
  clear f1 f2 HB5 HO5 BW d0 d1
  generalize W5.drew = WX at *
  have HOR := Lib.hid (orx 0 x f (by omega) HVR.out.1 HVR.out.2.1 HVR.out.2.2 hx1)
  go_wp2
  go_end0
  rw [HOR.out]
  have S := HOx.out.stored m (.int .u8 (0 + (x : Int) * 2 ^ f))
  have S1 := S.1
  have es : ((d ++ [0]).map (Value.int .u8)).set m (.int .u8 (0 + (x : Int) * 2 ^ f)) = (d ++ [0 + (x : Int) * 2 ^ f]).map (Value.int .u8) := by
    rw [← List.map_set, List.set_append_right _ _ (by omega), show m - d.length = 0 from by omega]; rfl
  rw [es] at S1
  have hlen2 : (d ++ [0 + (x : Int) * 2 ^ f]).length = m + 1 := by simp [hm]
  rw [Int.zero_add] at S1 S hlen2 es
  rw [Int.zero_add]
  refine ⟨rfl, ⟨hp, .slice (some ⟨g, 0, none⟩) (m + 1) c4, ?_, ?_, fun k hk => by injection hk with hk; rw [← hk]; exact hg⟩, BX.setCell (p := ⟨g, m, none⟩) hg _⟩
  · rw [hlen2, S.2.block p (blk_lt HBx.out) (by simpa using fun e => hpg e.symm)]
    exact HBx.out
  · rw [hlen2]
    exact S1
theorem wb_bit {P : Nat → Prop} {w : World} {p : Nat} {s : List Int × Nat} {b : Int} (h : Wb P w p s.1 s.2) (ok : WOk s) (hl : s.1.length ≤ 90000) (hP : ∀ k, w.heap.size ≤ k → P k) :
    Calls Try.prog 36 #[.pointer (some ⟨p, 0, none⟩), .int .i64 b] w fun e w' => e = .returned (.tuple #[]) ∧ Wb P w' p (wstep s b).1 (wstep s b).2 ∧ Only P w w' := by
  obtain ⟨it, fr⟩ := s
  unfold wstep
  by_cases h0 : fr = 0
  · subst h0
    rw [if_pos rfl]
    exact wb_new h hl hP
  · rw [if_neg h0]
    have hne : it ≠ [] := fun e => h0 (ok.none e)
    obtain ⟨f, rfl⟩ : ∃ f, fr = f + 1 := ⟨fr - 1, by omega⟩
    have hlast := last_of hne
    have hr := ok.rng (it.getLastD 0) (by rw [List.getLastD_eq_getLast?, List.getLast?_eq_some_getLast hne]; exact List.getLast_mem hne)
    have hf := ok.free
    have hlow := ok.low
    have hlen : it.dropLast.length ≤ 90000 := by rw [List.length_dropLast]; simp at hl; omega
    have h' : Wb P w p (it.dropLast ++ [it.getLastD 0]) (f + 1) := by rw [← hlast]; exact h
    exact wb_old h' (by simp at hf; omega) hr hlow hlen hP
end Go.Proofs.Ytobbkdhndojggaa
