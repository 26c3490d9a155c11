/- marks: coding, the content of the second segment. -/
import Derived.Test.YtlbfjaifemnkpaaMkW3
import Derived.Laws.Rows
set_option linter.unusedVariables false
set_option linter.unusedSimpArgs false
namespace Go.Proofs.Ytlbfjaifemnkpaa
open Go.RowKit Go.Shelf
attribute [local go_sem ↓] appSem_eq
set_option maxRecDepth 100000
/-- The bytes of a row laid again and again. -/
def repL (L : List Int) (m n : Nat) : List Int := (List.range n).map fun i => L.getD (i % m) 0
theorem repL_len (L : List Int) (m n : Nat) : (repL L m n).length = n := by simp [repL]
theorem rep_lst {w : World} {g n m : Nat} {L : List Int} {t : TypeId} (hm : L.length = m) (h : w.heap[g]? = some (.cells (repC (.int .u8 0) (pat_u8 L) n n).toArray t (0, 0))) : Lst w w.heap.size (some ⟨g, 0, none⟩) ((repL L m n).map (Value.int .u8)) := by
  intro i u hu
  have hi : i < n := by
    rcases Nat.lt_or_ge i n with h | h
    · exact h
    · rw [List.getElem?_eq_none (by rw [List.length_map, repL_len]; exact h)] at hu; cases hu
  refine ⟨g, 0, rfl, blk_lt h, ?_⟩
  rw [rb_cell h (0 + i), Nat.zero_add, List.getElem?_toArray, repC_get hi, if_pos hi]
  rw [repL, List.map_map, List.getElem?_map, List.getElem?_range hi] at hu
  rw [← hu]
  simp [pat_u8, hm]
def codL (LV BW BH PR ST OD LY : Int) (RC SO EP : Bool) (k : Nat) : List Int :=
  fldL 1 [1 + (if SO then 2 else 0) + (if EP then 4 else 0), OD] ++ fldL 2 [LY] ++ fldL 1 [if RC then 1 else 0, LV, BW - 2, BH - 2, ST, 1] ++ repL (fldL 1 [17 * PR]) 1 k
theorem codL_len (LV BW BH PR ST OD LY : Int) (RC SO EP : Bool) (k : Nat) : (codL LV BW BH PR ST OD LY RC SO EP k).length = 10 + k := by
  unfold codL
  rw [List.length_append, List.length_append, List.length_append, fldL_len, fldL_len, fldL_len, repL_len]
  simp
set_option maxHeartbeats 8000000 in
theorem coding_any (TX TY LV BW BH PR ST OD LY : Int) (RC SO EP : Bool) (k : Nat) (w : World) (hLV : LV + 1 = (k : Int)) (hk : k ≤ 6) (hBW : 0 ≤ BW ∧ BW ≤ 1000) (hBH : 0 ≤ BH ∧ BH ≤ 1000) (hPR : 0 ≤ PR ∧ PR ≤ 1000) :
    Calls Try.prog 25 #[.agg #[.int .i64 TX, .int .i64 TY, .int .i64 LV, .int .i64 BW, .int .i64 BH, .int .i64 PR, .int .i64 ST, .int .i64 OD, .int .i64 LY, .bool RC, .bool SO, .bool EP]] w fun e w' => ∃ v, e = .returned v ∧ By w.heap.size w' v (codL LV BW BH PR ST OD LY RC SO EP k) ∧ Below w.heap.size w w' := by
  obtain ⟨a, ha⟩ : ∃ a : Int, (if SO = true then (2 : Int) else 0) = a := ⟨_, rfl⟩
  obtain ⟨b, hb⟩ : ∃ b : Int, (if EP = true then (4 : Int) else 0) = b := ⟨_, rfl⟩
  obtain ⟨c, hc⟩ : ∃ c : Int, (if RC = true then (1 : Int) else 0) = c := ⟨_, rfl⟩
  have hab : 0 ≤ a ∧ a ≤ 2 := by rw [← ha]; split <;> omega
  have hbb : 0 ≤ b ∧ b ≤ 4 := by rw [← hb]; split <;> omega
  have WA : Hid (∀ u, Calls Try.prog 51 #[.bool SO, .int .i64 2] u fun e w' => e = .returned (.int .i64 a) ∧ u = w') := Lib.hid fun u => by have := when_any SO 2 u; rw [ha] at this; exact this
  have WB : Hid (∀ u, Calls Try.prog 51 #[.bool EP, .int .i64 4] u fun e w' => e = .returned (.int .i64 b) ∧ u = w') := Lib.hid fun u => by have := when_any EP 4 u; rw [hb] at this; exact this
  have WC : Hid (∀ u, Calls Try.prog 51 #[.bool RC, .int .i64 1] u fun e w' => e = .returned (.int .i64 c) ∧ u = w') := Lib.hid fun u => by have := when_any RC 1 u; rw [hc] at this; exact this
  unfold codL
  rw [ha, hb, hc]
  clear ha hb hc
  have HW : Hid (IntKind.i64.wrap (1 + a) = 1 + a ∧ IntKind.i64.wrap (1 + a + b) = 1 + a + b ∧ IntKind.i64.wrap (BW - 2) = BW - 2 ∧ IntKind.i64.wrap (BH - 2) = BH - 2 ∧ IntKind.i64.wrap (17 * PR) = 17 * PR ∧ IntKind.i64.wrap (LV + 1) = (k : Int)) := Lib.hid ⟨IntWalk.i64_in _ (by omega), IntWalk.i64_in _ (by omega), IntWalk.i64_in _ (by omega), IntWalk.i64_in _ (by omega), IntWalk.i64_in _ (by omega), by rw [hLV]; exact IntWalk.i64_in _ (by omega)⟩
  have HK6 := Lib.hid hk
  clear hLV hk hBW hBH hPR hab hbb
  obtain ⟨B, hB⟩ : ∃ B, w.heap.size = B := ⟨_, rfl⟩
  obtain ⟨w1, hw1⟩ : ∃ w1, w.alloc (.cells #[.int .i64 TX, .int .i64 TY, .int .i64 LV, .int .i64 BW, .int .i64 BH, .int .i64 PR, .int .i64 ST, .int .i64 OD, .int .i64 LY, .bool RC, .bool SO, .bool EP] 31) = w1 := ⟨_, rfl⟩
  have H1 : Hid (Below B w w1 ∧ w1.heap[B]? = some (.cells #[.int .i64 TX, .int .i64 TY, .int .i64 LV, .int .i64 BW, .int .i64 BH, .int .i64 PR, .int .i64 ST, .int .i64 OD, .int .i64 LY, .bool RC, .bool SO, .bool EP] 31 (0, 0)) ∧ B ≤ w1.heap.size) := Lib.hid ⟨by rw [← hw1, ← hB]; exact (Below.refl _ _).alloc (Nat.le_refl _) _, by rw [← hw1, ← hB]; exact World.alloc_heap_new w _, by rw [← hw1, ← hB]; simp⟩
  have HE := Lib.hid (And.intro hw1 hB)
  clear hw1 hB
  obtain ⟨B1, hB1⟩ : ∃ B1, w1.heap.size = B1 := ⟨_, rfl⟩
  have SZ : Hid (∀ u : World, Below B1 w1 u → B1 ≤ u.heap.size) := Lib.hid fun u hb => by have := hb.size; rw [hB1] at this; exact this
  have KB : Hid (∀ u : World, Below B1 w1 u → u.heap[B]? = some (.cells #[.int .i64 TX, .int .i64 TY, .int .i64 LV, .int .i64 BW, .int .i64 BH, .int .i64 PR, .int .i64 ST, .int .i64 OD, .int .i64 LY, .bool RC, .bool SO, .bool EP] 31 (0, 0))) := Lib.hid fun u hb => (hb.block B (by rw [← hB1]; exact blk_lt H1.out.2.1)).trans H1.out.2.1
  have HB1 := Lib.hid hB1
  have HR1 : Hid (Below B1 w1 w1) := Lib.hid (Below.refl _ _)
  clear hB1
  have NF : Hid (∀ (s : Nat) (l : List Int) (u : World), 1 ≤ s ∧ s ≤ 8 → l.length ≤ 1000 → Below B1 w1 u → Calls Try.prog 22 #[.int .i64 (s : Int), .slice (some ⟨u.heap.size, 0, none⟩) l.length l.length] (u.alloc (.cells (l.map (Value.int .i64)).toArray 3)) fun e w' => ∃ A' n' c', e = .returned (.slice A' n' c') ∧ By u.heap.size w' (.slice A' n' c') (fldL s l) ∧ Below u.heap.size u w') := Lib.hid fun s l u hs hl hb => by
    have hba : Below u.heap.size u (u.alloc (.cells (l.map (Value.int .i64)).toArray 3)) := (Below.refl _ _).alloc (Nat.le_refl _) _
    refine (fields_any s l.length l.length (some ⟨u.heap.size, 0, none⟩) l _ hs rfl hl (lst_news u l)).mono ?_
    rintro e w' ⟨v, rfl, hy, hb2⟩
    obtain ⟨A', c', rfl, _⟩ := By.form hy
    exact ⟨A', _, c', rfl, hy.low hba.size, hba.trans (hb2.mono hba.size)⟩
  go_enter Try.func25, Try.ntmps25
  go_upto_region 1 with fail
  rw [show w.alloc _ = w1 from HE.out.1, HE.out.2]
  obtain ⟨VL, hVL⟩ : ∃ VL : Nat × (Option Addr × Nat × Nat) → List (Nat × Nat × Value), VL = fun z => [(0, 4, .pointer (some ⟨B, 10, none⟩)), (1, 5, .bool SO), (2, 6, .int .i64 a), (3, 7, .int .i64 (1 + a)), (4, 8, .pointer (some ⟨B, 11, none⟩)), (5, 9, .bool EP), (6, 10, .int .i64 b), (7, 11, .int .i64 (1 + a + b)), (8, 12, .pointer (some ⟨B, 7, none⟩)), (9, 13, .int .i64 OD), (10, 14, .slice (some ⟨z.1, 0, none⟩) 2 2), (11, 15, .slice z.2.1 z.2.2.1 z.2.2.2), (12, 3, .slice z.2.1 z.2.2.1 z.2.2.2)] := ⟨_, rfl⟩
  have hok : ∀ z, manyOk 50 (VL z) := fun z => by rw [hVL]; exact okB_ok rfl
  have HVL := Lib.hid hVL
  have hvi : ∀ z, ∀ x ∈ VL z, x.1 < 13 := fun z => by rw [hVL]; exact ltB_ok rfl
  have HOK := Lib.hid hok
  have HVI := Lib.hid hvi
  clear hVL hok hvi
  refine (wpIn_wide (n := 9)).1 (regionIn_many (N := 50) (w := _) VL (fun L z w' => (Below B1 w1 w' ∧ (L 10 = true → Lst w' w'.heap.size (some ⟨z.1, 0, none⟩) (([1 + a + b, OD] : List Int).map (Value.int .i64))) ∧ (L 11 = true → By B1 w' (.slice z.2.1 z.2.2.1 z.2.2.2) (fldL 1 [1 + a + b, OD]))) ∧ True) [(1, .pointer (some ⟨B, 0, none⟩))] (by kernel_rfl) (by kernel_rfl) rfl (by simp only [List.forall_mem_cons, List.not_mem_nil, false_imp_iff, implies_true, and_true]; exact rfl) HVI.out (0, (none, 0, 0)) ?start ?step ?fin)
  case start => exact ⟨⟨HR1.out.drew, fun h => (by cases h), fun h => (by cases h)⟩, trivial⟩
  case step =>
    intro gg_ hgN hgF ii_ hii_ L z w' hph hs hu
    obtain ⟨hcm, hph⟩ := hph
    have hF1 := hgF (1, .pointer (some ⟨B, 0, none⟩)) (by simp)
    have hL := hu.1
    have hii_ : ii_ < 13 := hii_
    clear hgF
    obtain rfl | rfl | rfl | rfl | rfl | rfl | rfl | rfl | rfl | rfl | rfl | rfl | rfl := (by omega : ii_ = 0 ∨ ii_ = 1 ∨ ii_ = 2 ∨ ii_ = 3 ∨ ii_ = 4 ∨ ii_ = 5 ∨ ii_ = 6 ∨ ii_ = 7 ∨ ii_ = 8 ∨ ii_ = 9 ∨ ii_ = 10 ∨ ii_ = 11 ∨ ii_ = 12)
    · skip
      have n10 : L 10 = false := not_yet hL fun h => shut_at hs 1 0 (by kernel_rfl) (shut_at hs 2 1 (by kernel_rfl) (shut_at hs 3 2 (by kernel_rfl) (shut_at hs 7 3 (by kernel_rfl) (shut_at hs 10 7 (by kernel_rfl) (h)))))
      have n11 : L 11 = false := not_yet hL fun h => shut_at hs 1 0 (by kernel_rfl) (shut_at hs 2 1 (by kernel_rfl) (shut_at hs 6 2 (by kernel_rfl) (shut_at hs 11 6 (by kernel_rfl) (h))))
      have n12 : L 12 = false := not_yet hL fun h => shut_at hs 12 0 (by kernel_rfl) (h)
      have e1 : (many gg_ L (VL z))[1]?.getD undef = .pointer (some ⟨B, 0, none⟩) := many_out3 hgN (HOK.out z) (by rw [HVL.out]; rfl) hF1
      refine opIn_run (v := .pointer (some ⟨B, 10, none⟩)) (w' := w') rfl rfl (fun c h => by cases h) (fun _ => trivial) ?_ ⟨z, by exact many_put3 (HOK.out _) (by rw [HVL.out]; rfl) hL, hcm, hph⟩
      go_simp
    · skip
      have y0 : L 0 = true := up_at hu 0 (by kernel_rfl)
      have n10 : L 10 = false := not_yet hL fun h => shut_at hs 2 1 (by kernel_rfl) (shut_at hs 3 2 (by kernel_rfl) (shut_at hs 7 3 (by kernel_rfl) (shut_at hs 10 7 (by kernel_rfl) (h))))
      have n11 : L 11 = false := not_yet hL fun h => shut_at hs 2 1 (by kernel_rfl) (shut_at hs 6 2 (by kernel_rfl) (shut_at hs 11 6 (by kernel_rfl) (h)))
      have n12 : L 12 = false := not_yet hL fun h => shut_at hs 12 1 (by kernel_rfl) (h)
      have hcell : w'.cell? ⟨B, 10, none⟩ = some (.bool SO) := rb_cell (KB.out _ hcm.1) 10
      have e4 : (many gg_ L (VL z))[4]?.getD undef = .pointer (some ⟨B, 10, none⟩) := many_eval3 hgN (HOK.out z) (by rw [HVL.out]; rfl) y0
      refine opIn_run (v := .bool SO) (w' := w') rfl rfl (fun c h => by cases h) (fun _ => trivial) ?_ ⟨z, by exact many_put3 (HOK.out _) (by rw [HVL.out]; rfl) hL, hcm, hph⟩
      go_simp
    · skip
      have y1 : L 1 = true := up_at hu 1 (by kernel_rfl)
      have n10 : L 10 = false := not_yet hL fun h => shut_at hs 3 2 (by kernel_rfl) (shut_at hs 7 3 (by kernel_rfl) (shut_at hs 10 7 (by kernel_rfl) (h)))
      have n11 : L 11 = false := not_yet hL fun h => shut_at hs 6 2 (by kernel_rfl) (shut_at hs 11 6 (by kernel_rfl) (h))
      have n12 : L 12 = false := not_yet hL fun h => shut_at hs 12 2 (by kernel_rfl) (h)
      have e5 : (many gg_ L (VL z))[5]?.getD undef = .bool SO := many_eval3 hgN (HOK.out z) (by rw [HVL.out]; rfl) y1
      refine opIn_call (f := 51) (args := #[.bool SO, .int .i64 2]) (w' := w') rfl rfl (fun c h => by cases h) (fun _ => trivial) rfl (by go_simp) ((callsIn_wide.2 (WA.out w')).mono ?_)
      rintro e w2 ⟨rfl, rfl⟩
      exact ⟨_, rfl, z, by exact many_put3 (HOK.out _) (by rw [HVL.out]; rfl) hL, hcm, trivial⟩
    · skip
      have y2 : L 2 = true := up_at hu 2 (by kernel_rfl)
      have n10 : L 10 = false := not_yet hL fun h => shut_at hs 7 3 (by kernel_rfl) (shut_at hs 10 7 (by kernel_rfl) (h))
      have n11 : L 11 = false := not_yet hL fun h => shut_at hs 7 3 (by kernel_rfl) (shut_at hs 10 7 (by kernel_rfl) (shut_at hs 11 10 (by kernel_rfl) (h)))
      have n12 : L 12 = false := not_yet hL fun h => shut_at hs 12 3 (by kernel_rfl) (h)
      have q1 := HW.out.1
      have e6 : (many gg_ L (VL z))[6]?.getD undef = .int .i64 a := many_eval3 hgN (HOK.out z) (by rw [HVL.out]; rfl) y2
      refine opIn_run (v := .int .i64 (1 + a)) (w' := w') rfl rfl (fun c h => by cases h) (fun _ => trivial) ?_ ⟨z, by exact many_put3 (HOK.out _) (by rw [HVL.out]; rfl) hL, hcm, hph⟩
      go_simp
    · skip
      have n10 : L 10 = false := not_yet hL fun h => shut_at hs 5 4 (by kernel_rfl) (shut_at hs 6 5 (by kernel_rfl) (shut_at hs 7 6 (by kernel_rfl) (shut_at hs 10 7 (by kernel_rfl) (h))))
      have n11 : L 11 = false := not_yet hL fun h => shut_at hs 5 4 (by kernel_rfl) (shut_at hs 6 5 (by kernel_rfl) (shut_at hs 11 6 (by kernel_rfl) (h)))
      have n12 : L 12 = false := not_yet hL fun h => shut_at hs 12 4 (by kernel_rfl) (h)
      have e1 : (many gg_ L (VL z))[1]?.getD undef = .pointer (some ⟨B, 0, none⟩) := many_out3 hgN (HOK.out z) (by rw [HVL.out]; rfl) hF1
      refine opIn_run (v := .pointer (some ⟨B, 11, none⟩)) (w' := w') rfl rfl (fun c h => by cases h) (fun _ => trivial) ?_ ⟨z, by exact many_put3 (HOK.out _) (by rw [HVL.out]; rfl) hL, hcm, hph⟩
      go_simp
    · skip
      have y4 : L 4 = true := up_at hu 4 (by kernel_rfl)
      have n10 : L 10 = false := not_yet hL fun h => shut_at hs 6 5 (by kernel_rfl) (shut_at hs 7 6 (by kernel_rfl) (shut_at hs 10 7 (by kernel_rfl) (h)))
      have n11 : L 11 = false := not_yet hL fun h => shut_at hs 6 5 (by kernel_rfl) (shut_at hs 11 6 (by kernel_rfl) (h))
      have n12 : L 12 = false := not_yet hL fun h => shut_at hs 12 5 (by kernel_rfl) (h)
      have hcell : w'.cell? ⟨B, 11, none⟩ = some (.bool EP) := rb_cell (KB.out _ hcm.1) 11
      have e8 : (many gg_ L (VL z))[8]?.getD undef = .pointer (some ⟨B, 11, none⟩) := many_eval3 hgN (HOK.out z) (by rw [HVL.out]; rfl) y4
      refine opIn_run (v := .bool EP) (w' := w') rfl rfl (fun c h => by cases h) (fun _ => trivial) ?_ ⟨z, by exact many_put3 (HOK.out _) (by rw [HVL.out]; rfl) hL, hcm, hph⟩
      go_simp
    · skip
      have y2 : L 2 = true := up_at hu 2 (by kernel_rfl)
      have y5 : L 5 = true := up_at hu 5 (by kernel_rfl)
      have n10 : L 10 = false := not_yet hL fun h => shut_at hs 7 6 (by kernel_rfl) (shut_at hs 10 7 (by kernel_rfl) (h))
      have n11 : L 11 = false := not_yet hL fun h => shut_at hs 11 6 (by kernel_rfl) (h)
      have n12 : L 12 = false := not_yet hL fun h => shut_at hs 12 6 (by kernel_rfl) (h)
      have e9 : (many gg_ L (VL z))[9]?.getD undef = .bool EP := many_eval3 hgN (HOK.out z) (by rw [HVL.out]; rfl) y5
      refine opIn_call (f := 51) (args := #[.bool EP, .int .i64 4]) (w' := w') rfl rfl (fun c h => by cases h) (fun _ => trivial) rfl (by go_simp) ((callsIn_wide.2 (WB.out w')).mono ?_)
      rintro e w2 ⟨rfl, rfl⟩
      exact ⟨_, rfl, z, by exact many_put3 (HOK.out _) (by rw [HVL.out]; rfl) hL, hcm, trivial⟩
    · skip
      have y3 : L 3 = true := up_at hu 3 (by kernel_rfl)
      have y6 : L 6 = true := up_at hu 6 (by kernel_rfl)
      have n10 : L 10 = false := not_yet hL fun h => shut_at hs 10 7 (by kernel_rfl) (h)
      have n11 : L 11 = false := not_yet hL fun h => shut_at hs 10 7 (by kernel_rfl) (shut_at hs 11 10 (by kernel_rfl) (h))
      have n12 : L 12 = false := not_yet hL fun h => shut_at hs 12 7 (by kernel_rfl) (h)
      have q1 := HW.out.2.1
      have e7 : (many gg_ L (VL z))[7]?.getD undef = .int .i64 (1 + a) := many_eval3 hgN (HOK.out z) (by rw [HVL.out]; rfl) y3
      have e10 : (many gg_ L (VL z))[10]?.getD undef = .int .i64 b := many_eval3 hgN (HOK.out z) (by rw [HVL.out]; rfl) y6
      refine opIn_run (v := .int .i64 (1 + a + b)) (w' := w') rfl rfl (fun c h => by cases h) (fun _ => trivial) ?_ ⟨z, by exact many_put3 (HOK.out _) (by rw [HVL.out]; rfl) hL, hcm, hph⟩
      go_simp
    · skip
      have n10 : L 10 = false := not_yet hL fun h => shut_at hs 9 8 (by kernel_rfl) (shut_at hs 10 9 (by kernel_rfl) (h))
      have n11 : L 11 = false := not_yet hL fun h => shut_at hs 9 8 (by kernel_rfl) (shut_at hs 10 9 (by kernel_rfl) (shut_at hs 11 10 (by kernel_rfl) (h)))
      have n12 : L 12 = false := not_yet hL fun h => shut_at hs 12 8 (by kernel_rfl) (h)
      have e1 : (many gg_ L (VL z))[1]?.getD undef = .pointer (some ⟨B, 0, none⟩) := many_out3 hgN (HOK.out z) (by rw [HVL.out]; rfl) hF1
      refine opIn_run (v := .pointer (some ⟨B, 7, none⟩)) (w' := w') rfl rfl (fun c h => by cases h) (fun _ => trivial) ?_ ⟨z, by exact many_put3 (HOK.out _) (by rw [HVL.out]; rfl) hL, hcm, hph⟩
      go_simp
    · skip
      have y8 : L 8 = true := up_at hu 8 (by kernel_rfl)
      have n10 : L 10 = false := not_yet hL fun h => shut_at hs 10 9 (by kernel_rfl) (h)
      have n11 : L 11 = false := not_yet hL fun h => shut_at hs 10 9 (by kernel_rfl) (shut_at hs 11 10 (by kernel_rfl) (h))
      have n12 : L 12 = false := not_yet hL fun h => shut_at hs 12 9 (by kernel_rfl) (h)
      have hcell : w'.cell? ⟨B, 7, none⟩ = some (.int .i64 OD) := rb_cell (KB.out _ hcm.1) 7
      have e12 : (many gg_ L (VL z))[12]?.getD undef = .pointer (some ⟨B, 7, none⟩) := many_eval3 hgN (HOK.out z) (by rw [HVL.out]; rfl) y8
      refine opIn_run (v := .int .i64 OD) (w' := w') rfl rfl (fun c h => by cases h) (fun _ => trivial) ?_ ⟨z, by exact many_put3 (HOK.out _) (by rw [HVL.out]; rfl) hL, hcm, hph⟩
      go_simp
    · skip
      have y7 : L 7 = true := up_at hu 7 (by kernel_rfl)
      have y9 : L 9 = true := up_at hu 9 (by kernel_rfl)
      have n11 : L 11 = false := not_yet hL fun h => shut_at hs 11 10 (by kernel_rfl) (h)
      have n12 : L 12 = false := not_yet hL fun h => shut_at hs 12 10 (by kernel_rfl) (h)
      have e11 : (many gg_ L (VL z))[11]?.getD undef = .int .i64 (1 + a + b) := many_eval3 hgN (HOK.out z) (by rw [HVL.out]; rfl) y7
      have e13 : (many gg_ L (VL z))[13]?.getD undef = .int .i64 OD := many_eval3 hgN (HOK.out z) (by rw [HVL.out]; rfl) y9
      refine opIn_run (v := (.slice (some ⟨w'.heap.size, 0, none⟩) 2 2)) (w' := w'.alloc (.cells #[.int .i64 (1 + a + b), .int .i64 OD] 3)) rfl rfl (fun c h => by cases h) (fun _ => trivial) ?_ ⟨(w'.heap.size, z.2), by rw [show many gg_ L (VL z) = many gg_ L (VL (w'.heap.size, z.2)) from by rw [HVL.out]; simp only [many, y7, y9, n11, n12, hL, cond_false, cond_true]]; exact many_put3 (HOK.out _) (by rw [HVL.out]; rfl) hL, ⟨hcm.1.alloc (SZ.out _ hcm.1) _, fun _ => lst_news w' [1 + a + b, OD], fun a => absurd a (by simp [upd, n11])⟩, trivial⟩
      go_simp
    · skip
      have y6 : L 6 = true := up_at hu 6 (by kernel_rfl)
      have y10 : L 10 = true := up_at hu 10 (by kernel_rfl)
      have n12 : L 12 = false := not_yet hL fun h => shut_at hs 12 11 (by kernel_rfl) (h)
      have e14 : (many gg_ L (VL z))[14]?.getD undef = .slice (some ⟨z.1, 0, none⟩) 2 2 := many_eval3 hgN (HOK.out z) (by rw [HVL.out]; rfl) y10
      refine opIn_call (f := 22) (args := #[.int .i64 1, .slice (some ⟨z.1, 0, none⟩) 2 2]) (w' := w') rfl rfl (fun c h => by cases h) (fun _ => trivial) rfl (by go_simp) ((callsIn_wide.2 (fields_any 1 2 2 (some ⟨z.1, 0, none⟩) [1 + a + b, OD] w' (by omega) rfl (by omega) (hcm.2.1 y10))).mono ?_)
      rintro e w2 ⟨vv, rfl, hy, hb⟩
      obtain ⟨A8, c8, rfl, _⟩ := By.form hy
      exact ⟨_, rfl, (z.1, (A8, _, c8)), by rw [show many gg_ L (VL z) = many gg_ L (VL (z.1, (A8, _, c8))) from by rw [HVL.out]; simp only [many, y6, y10, n12, hL, cond_false, cond_true]]; exact many_put3 (HOK.out _) (by rw [HVL.out]; rfl) hL, ⟨hcm.1.trans (hb.mono (SZ.out _ hcm.1)), fun a => ((hcm.2.1 y10).below hb).more hb.size, fun _ => hy.low (SZ.out _ hcm.1)⟩, trivial⟩
    · skip
      have y0 : L 0 = true := up_at hu 0 (by kernel_rfl)
      have y1 : L 1 = true := up_at hu 1 (by kernel_rfl)
      have y2 : L 2 = true := up_at hu 2 (by kernel_rfl)
      have y3 : L 3 = true := up_at hu 3 (by kernel_rfl)
      have y4 : L 4 = true := up_at hu 4 (by kernel_rfl)
      have y5 : L 5 = true := up_at hu 5 (by kernel_rfl)
      have y6 : L 6 = true := up_at hu 6 (by kernel_rfl)
      have y7 : L 7 = true := up_at hu 7 (by kernel_rfl)
      have y8 : L 8 = true := up_at hu 8 (by kernel_rfl)
      have y9 : L 9 = true := up_at hu 9 (by kernel_rfl)
      have y10 : L 10 = true := up_at hu 10 (by kernel_rfl)
      have y11 : L 11 = true := up_at hu 11 (by kernel_rfl)
      have e15 : (many gg_ L (VL z))[15]?.getD undef = .slice z.2.1 z.2.2.1 z.2.2.2 := many_eval3 hgN (HOK.out z) (by rw [HVL.out]; rfl) y11
      refine opIn_run (v := .slice z.2.1 z.2.2.1 z.2.2.2) (w' := w') rfl rfl (fun c h => by cases h) (fun _ => trivial) ?_ ⟨z, by exact many_put3 (HOK.out _) (by rw [HVL.out]; rfl) hL, hcm, hph⟩
      go_simp
  case fin =>
    intro L z w' hall hph
    obtain ⟨hcm, hph⟩ := hph
    have KF := hcm.2.2 (hall 11 (by decide))
    have KG := hcm.1
    obtain ⟨z1, A1, n1, c1⟩ := z
    simp only at KF
    have KF := Lib.hid (And.intro KG KF)
    clear hcm hph KG
    rw [HVL.out]
    dsimp only [manyL, List.set_cons_zero, List.set_cons_succ]
    clear hall HVL HOK HVI
    rename_i wx
    clear wx
    obtain ⟨w2, rfl⟩ : ∃ w2, w2 = w' := ⟨_, rfl⟩
    have k8 : w2.cell? ⟨B, 8, none⟩ = some (.int .i64 LY) := rb_cell (KB.out _ KF.out.1) 8
    go_wp2_with fail
    refine (NF.out 2 [LY] w2 (by omega) (by simp) KF.out.1).mono ?_
    rintro e w3 ⟨A2, n2, c2, rfl, hy2, hb2⟩
    have hB3 := KF.out.1.trans (hb2.mono (SZ.out _ KF.out.1))
    obtain ⟨A3, n3, c3, w4, hr, hy3, hg⟩ := app_by (KF.out.2.below hb2) (hy2.low (SZ.out _ KF.out.1)) (SZ.out _ hB3) (by rw [fldL_len, fldL_len]; simp)
    have KX := Lib.hid (And.intro ((KF.out.2.below hb2).bel hB3 (SZ.out _ hB3) hg) hy3)
    clear hy2 hb2 hB3 hy3 hg k8 KF
    go_upto_region 3 with fail
    try clear hr
    have TR : Hid (∀ u : World, Below w4.heap.size w4 u → Below B1 w1 u) := Lib.hid fun u hb => KX.out.1.trans (hb.mono (SZ.out _ KX.out.1))
    obtain ⟨VL, hVL⟩ : ∃ VL : Nat × (Option Addr × Nat × Nat) × (Option Addr × Nat × Nat) → List (Nat × Nat × Value), VL = fun z => [(0, 22, .slice A3 n3 c3), (1, 23, .pointer (some ⟨B, 9, none⟩)), (2, 24, .bool RC), (3, 25, .int .i64 c), (4, 26, .pointer (some ⟨B, 2, none⟩)), (5, 27, .int .i64 LV), (6, 28, .pointer (some ⟨B, 3, none⟩)), (7, 29, .int .i64 BW), (8, 30, .int .i64 (BW - 2)), (9, 31, .pointer (some ⟨B, 4, none⟩)), (10, 32, .int .i64 BH), (11, 33, .int .i64 (BH - 2)), (12, 34, .pointer (some ⟨B, 6, none⟩)), (13, 35, .int .i64 ST), (14, 36, .slice (some ⟨z.1, 0, none⟩) 6 6), (15, 37, .slice z.2.1.1 z.2.1.2.1 z.2.1.2.2), (16, 38, .slice z.2.2.1 z.2.2.2.1 z.2.2.2.2), (17, 3, .slice z.2.2.1 z.2.2.2.1 z.2.2.2.2)] := ⟨_, rfl⟩
    have hok : ∀ z, manyOk 50 (VL z) := fun z => by rw [hVL]; exact okB_ok rfl
    have HVL := Lib.hid hVL
    have hvi : ∀ z, ∀ x ∈ VL z, x.1 < 18 := fun z => by rw [hVL]; exact ltB_ok rfl
    have HOK := Lib.hid hok
    have HVI := Lib.hid hvi
    clear hVL hok hvi
    refine (wpIn_wide (n := 9)).1 (regionIn_many (N := 50) (w := _) VL (fun L z w' => ((L 16 = false → Below w4.heap.size w4 w') ∧ (L 16 = false → L 14 = true → Lst w' w'.heap.size (some ⟨z.1, 0, none⟩) (([c, LV, BW - 2, BH - 2, ST, 1] : List Int).map (Value.int .i64))) ∧ (L 16 = false → L 15 = true → By B1 w' (.slice z.2.1.1 z.2.1.2.1 z.2.1.2.2) (fldL 1 [c, LV, BW - 2, BH - 2, ST, 1])) ∧ (L 16 = true → By B1 w' (.slice z.2.2.1 z.2.2.2.1 z.2.2.2.2) ((fldL 1 [1 + a + b, OD] ++ fldL 2 [LY]) ++ fldL 1 [c, LV, BW - 2, BH - 2, ST, 1]) ∧ Below B1 w1 w')) ∧ True) [(1, .pointer (some ⟨B, 0, none⟩)), (3, .slice A3 n3 c3)] (by kernel_rfl) (by kernel_rfl) rfl (by simp only [List.forall_mem_cons, List.not_mem_nil, false_imp_iff, implies_true, and_true]; exact ⟨rfl, rfl⟩) HVI.out (0, (none, 0, 0), (none, 0, 0)) ?start ?step ?fin)
    case start => exact ⟨⟨fun _ => (Below.refl _ _).drew, fun _ h => (by cases h), fun _ h => (by cases h), fun h => (by cases h)⟩, trivial⟩
    case step =>
      intro gg_ hgN hgF ii_ hii_ L z w' hph hs hu
      obtain ⟨hcm, hph⟩ := hph
      have hF1 := hgF (1, .pointer (some ⟨B, 0, none⟩)) (by simp)
      have hF3 := hgF (3, .slice A3 n3 c3) (by simp)
      have hL := hu.1
      have hii_ : ii_ < 18 := hii_
      clear hgF
      obtain rfl | rfl | rfl | rfl | rfl | rfl | rfl | rfl | rfl | rfl | rfl | rfl | rfl | rfl | rfl | rfl | rfl | rfl := (by omega : ii_ = 0 ∨ ii_ = 1 ∨ ii_ = 2 ∨ ii_ = 3 ∨ ii_ = 4 ∨ ii_ = 5 ∨ ii_ = 6 ∨ ii_ = 7 ∨ ii_ = 8 ∨ ii_ = 9 ∨ ii_ = 10 ∨ ii_ = 11 ∨ ii_ = 12 ∨ ii_ = 13 ∨ ii_ = 14 ∨ ii_ = 15 ∨ ii_ = 16 ∨ ii_ = 17)
      · skip
        have n16 : L 16 = false := not_yet hL fun h => shut_at hs 16 0 (by kernel_rfl) (h)
        have n17 : L 17 = false := not_yet hL fun h => shut_at hs 17 0 (by kernel_rfl) (h)
        have e3 : (many gg_ L (VL z))[3]?.getD undef = .slice A3 n3 c3 := many_out3' hgN (HOK.out z) (by rw [HVL.out]; rfl) (by assumption) hF3
        refine opIn_run (v := .slice A3 n3 c3) (w' := w') rfl rfl (fun c h => by cases h) (fun _ => trivial) ?_ ⟨z, by exact many_put3 (HOK.out _) (by rw [HVL.out]; rfl) hL, hcm, hph⟩
        go_simp
      · skip
        have n14 : L 14 = false := not_yet hL fun h => shut_at hs 2 1 (by kernel_rfl) (shut_at hs 3 2 (by kernel_rfl) (shut_at hs 14 3 (by kernel_rfl) (h)))
        have n15 : L 15 = false := not_yet hL fun h => shut_at hs 2 1 (by kernel_rfl) (shut_at hs 3 2 (by kernel_rfl) (shut_at hs 15 3 (by kernel_rfl) (h)))
        have n16 : L 16 = false := not_yet hL fun h => shut_at hs 2 1 (by kernel_rfl) (shut_at hs 3 2 (by kernel_rfl) (shut_at hs 15 3 (by kernel_rfl) (shut_at hs 16 15 (by kernel_rfl) (h))))
        have n17 : L 17 = false := not_yet hL fun h => shut_at hs 17 1 (by kernel_rfl) (h)
        have e1 : (many gg_ L (VL z))[1]?.getD undef = .pointer (some ⟨B, 0, none⟩) := many_out3 hgN (HOK.out z) (by rw [HVL.out]; rfl) hF1
        refine opIn_run (v := .pointer (some ⟨B, 9, none⟩)) (w' := w') rfl rfl (fun c h => by cases h) (fun _ => trivial) ?_ ⟨z, by exact many_put3 (HOK.out _) (by rw [HVL.out]; rfl) hL, hcm, hph⟩
        go_simp
      · skip
        have y1 : L 1 = true := up_at hu 1 (by kernel_rfl)
        have n14 : L 14 = false := not_yet hL fun h => shut_at hs 3 2 (by kernel_rfl) (shut_at hs 14 3 (by kernel_rfl) (h))
        have n15 : L 15 = false := not_yet hL fun h => shut_at hs 3 2 (by kernel_rfl) (shut_at hs 15 3 (by kernel_rfl) (h))
        have n16 : L 16 = false := not_yet hL fun h => shut_at hs 3 2 (by kernel_rfl) (shut_at hs 15 3 (by kernel_rfl) (shut_at hs 16 15 (by kernel_rfl) (h)))
        have n17 : L 17 = false := not_yet hL fun h => shut_at hs 17 2 (by kernel_rfl) (h)
        have hcell : w'.cell? ⟨B, 9, none⟩ = some (.bool RC) := rb_cell (KB.out _ (TR.out _ (hcm.1 n16))) 9
        have e23 : (many gg_ L (VL z))[23]?.getD undef = .pointer (some ⟨B, 9, none⟩) := many_eval3 hgN (HOK.out z) (by rw [HVL.out]; rfl) y1
        refine opIn_run (v := .bool RC) (w' := w') rfl rfl (fun c h => by cases h) (fun _ => trivial) ?_ ⟨z, by exact many_put3 (HOK.out _) (by rw [HVL.out]; rfl) hL, hcm, hph⟩
        go_simp
      · skip
        have y2 : L 2 = true := up_at hu 2 (by kernel_rfl)
        have n14 : L 14 = false := not_yet hL fun h => shut_at hs 14 3 (by kernel_rfl) (h)
        have n15 : L 15 = false := not_yet hL fun h => shut_at hs 15 3 (by kernel_rfl) (h)
        have n16 : L 16 = false := not_yet hL fun h => shut_at hs 15 3 (by kernel_rfl) (shut_at hs 16 15 (by kernel_rfl) (h))
        have n17 : L 17 = false := not_yet hL fun h => shut_at hs 17 3 (by kernel_rfl) (h)
        have e24 : (many gg_ L (VL z))[24]?.getD undef = .bool RC := many_eval3 hgN (HOK.out z) (by rw [HVL.out]; rfl) y2
        refine opIn_call (f := 51) (args := #[.bool RC, .int .i64 1]) (w' := w') rfl rfl (fun c h => by cases h) (fun _ => trivial) rfl (by go_simp) ((callsIn_wide.2 (WC.out w')).mono ?_)
        rintro e w2 ⟨rfl, rfl⟩
        exact ⟨_, rfl, z, by exact many_put3 (HOK.out _) (by rw [HVL.out]; rfl) hL, hcm, trivial⟩
      · skip
        have n14 : L 14 = false := not_yet hL fun h => shut_at hs 5 4 (by kernel_rfl) (shut_at hs 14 5 (by kernel_rfl) (h))
        have n15 : L 15 = false := not_yet hL fun h => shut_at hs 5 4 (by kernel_rfl) (shut_at hs 14 5 (by kernel_rfl) (shut_at hs 15 14 (by kernel_rfl) (h)))
        have n16 : L 16 = false := not_yet hL fun h => shut_at hs 5 4 (by kernel_rfl) (shut_at hs 14 5 (by kernel_rfl) (shut_at hs 15 14 (by kernel_rfl) (shut_at hs 16 15 (by kernel_rfl) (h))))
        have n17 : L 17 = false := not_yet hL fun h => shut_at hs 17 4 (by kernel_rfl) (h)
        have e1 : (many gg_ L (VL z))[1]?.getD undef = .pointer (some ⟨B, 0, none⟩) := many_out3 hgN (HOK.out z) (by rw [HVL.out]; rfl) hF1
        refine opIn_run (v := .pointer (some ⟨B, 2, none⟩)) (w' := w') rfl rfl (fun c h => by cases h) (fun _ => trivial) ?_ ⟨z, by exact many_put3 (HOK.out _) (by rw [HVL.out]; rfl) hL, hcm, hph⟩
        go_simp
      · skip
        have y4 : L 4 = true := up_at hu 4 (by kernel_rfl)
        have n14 : L 14 = false := not_yet hL fun h => shut_at hs 14 5 (by kernel_rfl) (h)
        have n15 : L 15 = false := not_yet hL fun h => shut_at hs 14 5 (by kernel_rfl) (shut_at hs 15 14 (by kernel_rfl) (h))
        have n16 : L 16 = false := not_yet hL fun h => shut_at hs 14 5 (by kernel_rfl) (shut_at hs 15 14 (by kernel_rfl) (shut_at hs 16 15 (by kernel_rfl) (h)))
        have n17 : L 17 = false := not_yet hL fun h => shut_at hs 17 5 (by kernel_rfl) (h)
        have hcell : w'.cell? ⟨B, 2, none⟩ = some (.int .i64 LV) := rb_cell (KB.out _ (TR.out _ (hcm.1 n16))) 2
        have e26 : (many gg_ L (VL z))[26]?.getD undef = .pointer (some ⟨B, 2, none⟩) := many_eval3 hgN (HOK.out z) (by rw [HVL.out]; rfl) y4
        refine opIn_run (v := .int .i64 LV) (w' := w') rfl rfl (fun c h => by cases h) (fun _ => trivial) ?_ ⟨z, by exact many_put3 (HOK.out _) (by rw [HVL.out]; rfl) hL, hcm, hph⟩
        go_simp
      · skip
        have n14 : L 14 = false := not_yet hL fun h => shut_at hs 7 6 (by kernel_rfl) (shut_at hs 8 7 (by kernel_rfl) (shut_at hs 14 8 (by kernel_rfl) (h)))
        have n15 : L 15 = false := not_yet hL fun h => shut_at hs 7 6 (by kernel_rfl) (shut_at hs 8 7 (by kernel_rfl) (shut_at hs 14 8 (by kernel_rfl) (shut_at hs 15 14 (by kernel_rfl) (h))))
        have n16 : L 16 = false := not_yet hL fun h => shut_at hs 7 6 (by kernel_rfl) (shut_at hs 8 7 (by kernel_rfl) (shut_at hs 14 8 (by kernel_rfl) (shut_at hs 15 14 (by kernel_rfl) (shut_at hs 16 15 (by kernel_rfl) (h)))))
        have n17 : L 17 = false := not_yet hL fun h => shut_at hs 17 6 (by kernel_rfl) (h)
        have e1 : (many gg_ L (VL z))[1]?.getD undef = .pointer (some ⟨B, 0, none⟩) := many_out3 hgN (HOK.out z) (by rw [HVL.out]; rfl) hF1
        refine opIn_run (v := .pointer (some ⟨B, 3, none⟩)) (w' := w') rfl rfl (fun c h => by cases h) (fun _ => trivial) ?_ ⟨z, by exact many_put3 (HOK.out _) (by rw [HVL.out]; rfl) hL, hcm, hph⟩
        go_simp
      · skip
        have y6 : L 6 = true := up_at hu 6 (by kernel_rfl)
        have n14 : L 14 = false := not_yet hL fun h => shut_at hs 8 7 (by kernel_rfl) (shut_at hs 14 8 (by kernel_rfl) (h))
        have n15 : L 15 = false := not_yet hL fun h => shut_at hs 8 7 (by kernel_rfl) (shut_at hs 14 8 (by kernel_rfl) (shut_at hs 15 14 (by kernel_rfl) (h)))
        have n16 : L 16 = false := not_yet hL fun h => shut_at hs 8 7 (by kernel_rfl) (shut_at hs 14 8 (by kernel_rfl) (shut_at hs 15 14 (by kernel_rfl) (shut_at hs 16 15 (by kernel_rfl) (h))))
        have n17 : L 17 = false := not_yet hL fun h => shut_at hs 17 7 (by kernel_rfl) (h)
        have hcell : w'.cell? ⟨B, 3, none⟩ = some (.int .i64 BW) := rb_cell (KB.out _ (TR.out _ (hcm.1 n16))) 3
        have e28 : (many gg_ L (VL z))[28]?.getD undef = .pointer (some ⟨B, 3, none⟩) := many_eval3 hgN (HOK.out z) (by rw [HVL.out]; rfl) y6
        refine opIn_run (v := .int .i64 BW) (w' := w') rfl rfl (fun c h => by cases h) (fun _ => trivial) ?_ ⟨z, by exact many_put3 (HOK.out _) (by rw [HVL.out]; rfl) hL, hcm, hph⟩
        go_simp
      · skip
        have y7 : L 7 = true := up_at hu 7 (by kernel_rfl)
        have n14 : L 14 = false := not_yet hL fun h => shut_at hs 14 8 (by kernel_rfl) (h)
        have n15 : L 15 = false := not_yet hL fun h => shut_at hs 14 8 (by kernel_rfl) (shut_at hs 15 14 (by kernel_rfl) (h))
        have n16 : L 16 = false := not_yet hL fun h => shut_at hs 14 8 (by kernel_rfl) (shut_at hs 15 14 (by kernel_rfl) (shut_at hs 16 15 (by kernel_rfl) (h)))
        have n17 : L 17 = false := not_yet hL fun h => shut_at hs 17 8 (by kernel_rfl) (h)
        have q1 := HW.out.2.2.1
        have e29 : (many gg_ L (VL z))[29]?.getD undef = .int .i64 BW := many_eval3 hgN (HOK.out z) (by rw [HVL.out]; rfl) y7
        refine opIn_run (v := .int .i64 (BW - 2)) (w' := w') rfl rfl (fun c h => by cases h) (fun _ => trivial) ?_ ⟨z, by exact many_put3 (HOK.out _) (by rw [HVL.out]; rfl) hL, hcm, hph⟩
        go_simp
      · skip
        have n14 : L 14 = false := not_yet hL fun h => shut_at hs 10 9 (by kernel_rfl) (shut_at hs 11 10 (by kernel_rfl) (shut_at hs 14 11 (by kernel_rfl) (h)))
        have n15 : L 15 = false := not_yet hL fun h => shut_at hs 10 9 (by kernel_rfl) (shut_at hs 11 10 (by kernel_rfl) (shut_at hs 14 11 (by kernel_rfl) (shut_at hs 15 14 (by kernel_rfl) (h))))
        have n16 : L 16 = false := not_yet hL fun h => shut_at hs 10 9 (by kernel_rfl) (shut_at hs 11 10 (by kernel_rfl) (shut_at hs 14 11 (by kernel_rfl) (shut_at hs 15 14 (by kernel_rfl) (shut_at hs 16 15 (by kernel_rfl) (h)))))
        have n17 : L 17 = false := not_yet hL fun h => shut_at hs 17 9 (by kernel_rfl) (h)
        have e1 : (many gg_ L (VL z))[1]?.getD undef = .pointer (some ⟨B, 0, none⟩) := many_out3 hgN (HOK.out z) (by rw [HVL.out]; rfl) hF1
        refine opIn_run (v := .pointer (some ⟨B, 4, none⟩)) (w' := w') rfl rfl (fun c h => by cases h) (fun _ => trivial) ?_ ⟨z, by exact many_put3 (HOK.out _) (by rw [HVL.out]; rfl) hL, hcm, hph⟩
        go_simp
      · skip
        have y9 : L 9 = true := up_at hu 9 (by kernel_rfl)
        have n14 : L 14 = false := not_yet hL fun h => shut_at hs 11 10 (by kernel_rfl) (shut_at hs 14 11 (by kernel_rfl) (h))
        have n15 : L 15 = false := not_yet hL fun h => shut_at hs 11 10 (by kernel_rfl) (shut_at hs 14 11 (by kernel_rfl) (shut_at hs 15 14 (by kernel_rfl) (h)))
        have n16 : L 16 = false := not_yet hL fun h => shut_at hs 11 10 (by kernel_rfl) (shut_at hs 14 11 (by kernel_rfl) (shut_at hs 15 14 (by kernel_rfl) (shut_at hs 16 15 (by kernel_rfl) (h))))
        have n17 : L 17 = false := not_yet hL fun h => shut_at hs 17 10 (by kernel_rfl) (h)
        have hcell : w'.cell? ⟨B, 4, none⟩ = some (.int .i64 BH) := rb_cell (KB.out _ (TR.out _ (hcm.1 n16))) 4
        have e31 : (many gg_ L (VL z))[31]?.getD undef = .pointer (some ⟨B, 4, none⟩) := many_eval3 hgN (HOK.out z) (by rw [HVL.out]; rfl) y9
        refine opIn_run (v := .int .i64 BH) (w' := w') rfl rfl (fun c h => by cases h) (fun _ => trivial) ?_ ⟨z, by exact many_put3 (HOK.out _) (by rw [HVL.out]; rfl) hL, hcm, hph⟩
        go_simp
      · skip
        have y10 : L 10 = true := up_at hu 10 (by kernel_rfl)
        have n14 : L 14 = false := not_yet hL fun h => shut_at hs 14 11 (by kernel_rfl) (h)
        have n15 : L 15 = false := not_yet hL fun h => shut_at hs 14 11 (by kernel_rfl) (shut_at hs 15 14 (by kernel_rfl) (h))
        have n16 : L 16 = false := not_yet hL fun h => shut_at hs 14 11 (by kernel_rfl) (shut_at hs 15 14 (by kernel_rfl) (shut_at hs 16 15 (by kernel_rfl) (h)))
        have n17 : L 17 = false := not_yet hL fun h => shut_at hs 17 11 (by kernel_rfl) (h)
        have q1 := HW.out.2.2.2.1
        have e32 : (many gg_ L (VL z))[32]?.getD undef = .int .i64 BH := many_eval3 hgN (HOK.out z) (by rw [HVL.out]; rfl) y10
        refine opIn_run (v := .int .i64 (BH - 2)) (w' := w') rfl rfl (fun c h => by cases h) (fun _ => trivial) ?_ ⟨z, by exact many_put3 (HOK.out _) (by rw [HVL.out]; rfl) hL, hcm, hph⟩
        go_simp
      · skip
        have n14 : L 14 = false := not_yet hL fun h => shut_at hs 13 12 (by kernel_rfl) (shut_at hs 14 13 (by kernel_rfl) (h))
        have n15 : L 15 = false := not_yet hL fun h => shut_at hs 13 12 (by kernel_rfl) (shut_at hs 14 13 (by kernel_rfl) (shut_at hs 15 14 (by kernel_rfl) (h)))
        have n16 : L 16 = false := not_yet hL fun h => shut_at hs 13 12 (by kernel_rfl) (shut_at hs 14 13 (by kernel_rfl) (shut_at hs 15 14 (by kernel_rfl) (shut_at hs 16 15 (by kernel_rfl) (h))))
        have n17 : L 17 = false := not_yet hL fun h => shut_at hs 17 12 (by kernel_rfl) (h)
        have e1 : (many gg_ L (VL z))[1]?.getD undef = .pointer (some ⟨B, 0, none⟩) := many_out3 hgN (HOK.out z) (by rw [HVL.out]; rfl) hF1
        refine opIn_run (v := .pointer (some ⟨B, 6, none⟩)) (w' := w') rfl rfl (fun c h => by cases h) (fun _ => trivial) ?_ ⟨z, by exact many_put3 (HOK.out _) (by rw [HVL.out]; rfl) hL, hcm, hph⟩
        go_simp
      · skip
        have y12 : L 12 = true := up_at hu 12 (by kernel_rfl)
        have n14 : L 14 = false := not_yet hL fun h => shut_at hs 14 13 (by kernel_rfl) (h)
        have n15 : L 15 = false := not_yet hL fun h => shut_at hs 14 13 (by kernel_rfl) (shut_at hs 15 14 (by kernel_rfl) (h))
        have n16 : L 16 = false := not_yet hL fun h => shut_at hs 14 13 (by kernel_rfl) (shut_at hs 15 14 (by kernel_rfl) (shut_at hs 16 15 (by kernel_rfl) (h)))
        have n17 : L 17 = false := not_yet hL fun h => shut_at hs 17 13 (by kernel_rfl) (h)
        have hcell : w'.cell? ⟨B, 6, none⟩ = some (.int .i64 ST) := rb_cell (KB.out _ (TR.out _ (hcm.1 n16))) 6
        have e34 : (many gg_ L (VL z))[34]?.getD undef = .pointer (some ⟨B, 6, none⟩) := many_eval3 hgN (HOK.out z) (by rw [HVL.out]; rfl) y12
        refine opIn_run (v := .int .i64 ST) (w' := w') rfl rfl (fun c h => by cases h) (fun _ => trivial) ?_ ⟨z, by exact many_put3 (HOK.out _) (by rw [HVL.out]; rfl) hL, hcm, hph⟩
        go_simp
      · skip
        have y3 : L 3 = true := up_at hu 3 (by kernel_rfl)
        have y5 : L 5 = true := up_at hu 5 (by kernel_rfl)
        have y8 : L 8 = true := up_at hu 8 (by kernel_rfl)
        have y11 : L 11 = true := up_at hu 11 (by kernel_rfl)
        have y13 : L 13 = true := up_at hu 13 (by kernel_rfl)
        have n15 : L 15 = false := not_yet hL fun h => shut_at hs 15 14 (by kernel_rfl) (h)
        have n16 : L 16 = false := not_yet hL fun h => shut_at hs 15 14 (by kernel_rfl) (shut_at hs 16 15 (by kernel_rfl) (h))
        have n17 : L 17 = false := not_yet hL fun h => shut_at hs 17 14 (by kernel_rfl) (h)
        have e25 : (many gg_ L (VL z))[25]?.getD undef = .int .i64 c := many_eval3 hgN (HOK.out z) (by rw [HVL.out]; rfl) y3
        have e27 : (many gg_ L (VL z))[27]?.getD undef = .int .i64 LV := many_eval3 hgN (HOK.out z) (by rw [HVL.out]; rfl) y5
        have e30 : (many gg_ L (VL z))[30]?.getD undef = .int .i64 (BW - 2) := many_eval3 hgN (HOK.out z) (by rw [HVL.out]; rfl) y8
        have e33 : (many gg_ L (VL z))[33]?.getD undef = .int .i64 (BH - 2) := many_eval3 hgN (HOK.out z) (by rw [HVL.out]; rfl) y11
        have e35 : (many gg_ L (VL z))[35]?.getD undef = .int .i64 ST := many_eval3 hgN (HOK.out z) (by rw [HVL.out]; rfl) y13
        refine opIn_run (v := (.slice (some ⟨w'.heap.size, 0, none⟩) 6 6)) (w' := w'.alloc (.cells #[.int .i64 c, .int .i64 LV, .int .i64 (BW - 2), .int .i64 (BH - 2), .int .i64 ST, .int .i64 1] 3)) rfl rfl (fun c h => by cases h) (fun _ => trivial) ?_ ⟨(w'.heap.size, z.2), by rw [show many gg_ L (VL z) = many gg_ L (VL (w'.heap.size, z.2)) from by rw [HVL.out]; simp only [many, y3, y5, y8, y11, y13, n15, n16, n17, hL, cond_false, cond_true]]; exact many_put3 (HOK.out _) (by rw [HVL.out]; rfl) hL, ⟨fun _ => (hcm.1 n16).alloc (hcm.1 n16).size _, fun _ _ => lst_news w' [c, LV, BW - 2, BH - 2, ST, 1], fun _ a => absurd a (by simp [upd, n15]), fun a => absurd a (by simp [upd, n16])⟩, trivial⟩
        go_simp
      · skip
        have y3 : L 3 = true := up_at hu 3 (by kernel_rfl)
        have y14 : L 14 = true := up_at hu 14 (by kernel_rfl)
        have n16 : L 16 = false := not_yet hL fun h => shut_at hs 16 15 (by kernel_rfl) (h)
        have n17 : L 17 = false := not_yet hL fun h => shut_at hs 17 15 (by kernel_rfl) (h)
        have e36 : (many gg_ L (VL z))[36]?.getD undef = .slice (some ⟨z.1, 0, none⟩) 6 6 := many_eval3 hgN (HOK.out z) (by rw [HVL.out]; rfl) y14
        refine opIn_call (f := 22) (args := #[.int .i64 1, .slice (some ⟨z.1, 0, none⟩) 6 6]) (w' := w') rfl rfl (fun c h => by cases h) (fun _ => trivial) rfl (by go_simp) ((callsIn_wide.2 (fields_any 1 6 6 (some ⟨z.1, 0, none⟩) [c, LV, BW - 2, BH - 2, ST, 1] w' (by omega) rfl (by omega) (hcm.2.1 n16 y14))).mono ?_)
        rintro e w2 ⟨vv, rfl, hy, hb⟩
        obtain ⟨A8, c8, rfl, _⟩ := By.form hy
        exact ⟨_, rfl, (z.1, (A8, _, c8), z.2.2), by rw [show many gg_ L (VL z) = many gg_ L (VL (z.1, (A8, _, c8), z.2.2)) from by rw [HVL.out]; simp only [many, y3, y14, n16, n17, hL, cond_false, cond_true]]; exact many_put3 (HOK.out _) (by rw [HVL.out]; rfl) hL, ⟨fun _ => (hcm.1 n16).trans (hb.mono (hcm.1 n16).size), fun _ a => ((hcm.2.1 n16 y14).below hb).more hb.size, fun _ _ => hy.low (SZ.out _ (TR.out _ (hcm.1 n16))), fun a => absurd a (by simp [upd, n16])⟩, trivial⟩
      · skip
        have y0 : L 0 = true := up_at hu 0 (by kernel_rfl)
        have y15 : L 15 = true := up_at hu 15 (by kernel_rfl)
        have n17 : L 17 = false := not_yet hL fun h => shut_at hs 17 16 (by kernel_rfl) (h)
        have hb0 : Below B1 w1 w' := TR.out _ (hcm.1 hL)
        obtain ⟨A9, n9_, c9, w9, hr9, hy9, hg9⟩ := app_by (KX.out.2.below (hcm.1 hL)) (hcm.2.2.1 hL y15) (SZ.out _ hb0) (by rw [List.length_append, fldL_len, fldL_len, fldL_len]; simp)
        have e22 : (many gg_ L (VL z))[22]?.getD undef = .slice A3 n3 c3 := many_eval3 hgN (HOK.out z) (by rw [HVL.out]; rfl) y0
        have e37 : (many gg_ L (VL z))[37]?.getD undef = .slice z.2.1.1 z.2.1.2.1 z.2.1.2.2 := many_eval3 hgN (HOK.out z) (by rw [HVL.out]; rfl) y15
        refine opIn_run (v := (.slice A9 n9_ c9)) (w' := w9) rfl rfl (fun c h => by cases h) (fun _ => trivial) ?_ ⟨(z.1, z.2.1, (A9, n9_, c9)), by rw [show many gg_ L (VL z) = many gg_ L (VL (z.1, z.2.1, (A9, n9_, c9))) from by rw [HVL.out]; simp only [many, y0, y15, n17, hL, cond_false, cond_true]]; exact many_put3 (HOK.out _) (by rw [HVL.out]; rfl) hL, ⟨fun a => absurd a (by simp [upd_self]), fun a => absurd a (by simp [upd_self]), fun a => absurd a (by simp [upd_self]), fun _ => ⟨hy9, (KX.out.2.below (hcm.1 hL)).bel hb0 (SZ.out _ hb0) hg9⟩⟩, trivial⟩
        go_simp
      · skip
        have y0 : L 0 = true := up_at hu 0 (by kernel_rfl)
        have y1 : L 1 = true := up_at hu 1 (by kernel_rfl)
        have y2 : L 2 = true := up_at hu 2 (by kernel_rfl)
        have y3 : L 3 = true := up_at hu 3 (by kernel_rfl)
        have y4 : L 4 = true := up_at hu 4 (by kernel_rfl)
        have y5 : L 5 = true := up_at hu 5 (by kernel_rfl)
        have y6 : L 6 = true := up_at hu 6 (by kernel_rfl)
        have y7 : L 7 = true := up_at hu 7 (by kernel_rfl)
        have y8 : L 8 = true := up_at hu 8 (by kernel_rfl)
        have y9 : L 9 = true := up_at hu 9 (by kernel_rfl)
        have y10 : L 10 = true := up_at hu 10 (by kernel_rfl)
        have y11 : L 11 = true := up_at hu 11 (by kernel_rfl)
        have y12 : L 12 = true := up_at hu 12 (by kernel_rfl)
        have y13 : L 13 = true := up_at hu 13 (by kernel_rfl)
        have y14 : L 14 = true := up_at hu 14 (by kernel_rfl)
        have y15 : L 15 = true := up_at hu 15 (by kernel_rfl)
        have y16 : L 16 = true := up_at hu 16 (by kernel_rfl)
        have e38 : (many gg_ L (VL z))[38]?.getD undef = .slice z.2.2.1 z.2.2.2.1 z.2.2.2.2 := many_eval3 hgN (HOK.out z) (by rw [HVL.out]; rfl) y16
        refine opIn_run (v := .slice z.2.2.1 z.2.2.2.1 z.2.2.2.2) (w' := w') rfl rfl (fun c h => by cases h) (fun _ => trivial) ?_ ⟨z, by exact many_put3 (HOK.out _) (by rw [HVL.out]; rfl) hL, hcm, hph⟩
        go_simp
    case fin =>
      intro L z w' hall hph
      obtain ⟨hcm, hph⟩ := hph
      have KF := hcm.2.2.2 (hall 16 (by decide))
      obtain ⟨z1, z2, A4, n4, c4⟩ := z
      simp only at KF
      have KF := Lib.hid KF
      clear hcm hph
      rw [HVL.out]
      dsimp only [manyL, List.set_cons_zero, List.set_cons_succ]
      clear hall HVL HOK HVI
      obtain ⟨w5, rfl⟩ : ∃ w5, w5 = w' := ⟨_, rfl⟩
      have TR4 : Hid (∀ u : World, Below w5.heap.size w5 u → Below B1 w1 u) := Lib.hid fun u hb => KF.out.2.trans (hb.mono (SZ.out _ KF.out.2))
      go_upto_region 4 with fail
      obtain ⟨VL, hVL⟩ : ∃ VL : Nat × (Option Addr × Nat × Nat) × Nat × (Option Addr × Nat × Nat) → List (Nat × Nat × Value), VL = fun z => [(0, 39, .slice A4 n4 c4), (1, 40, .pointer (some ⟨B, 5, none⟩)), (2, 41, .int .i64 PR), (3, 42, .int .i64 (17 * PR)), (4, 43, .slice (some ⟨z.1, 0, none⟩) 1 1), (5, 44, .slice z.2.1.1 1 z.2.1.2.2), (6, 45, .pointer (some ⟨B, 2, none⟩)), (7, 46, .int .i64 LV), (8, 47, .int .i64 (k : Int)), (9, 48, .slice (some ⟨z.2.2.1, 0, none⟩) (1 * k) (1 * k)), (10, 49, .slice z.2.2.2.1 z.2.2.2.2.1 z.2.2.2.2.2), (11, 2, .slice z.2.2.2.1 z.2.2.2.2.1 z.2.2.2.2.2)] := ⟨_, rfl⟩
      have hok : ∀ z, manyOk 50 (VL z) := fun z => by rw [hVL]; exact okB_ok rfl
      have HVL := Lib.hid hVL
      have hvi : ∀ z, ∀ x ∈ VL z, x.1 < 12 := fun z => by rw [hVL]; exact ltB_ok rfl
      have HOK := Lib.hid hok
      have HVI := Lib.hid hvi
      clear hVL hok hvi
      refine (wpIn_wide (n := 9)).1 (regionIn_many (N := 50) (w := _) VL (fun L z w' => ((L 10 = false → Below w5.heap.size w5 w') ∧ (L 10 = false → L 4 = true → Lst w' w'.heap.size (some ⟨z.1, 0, none⟩) (([17 * PR] : List Int).map (Value.int .i64))) ∧ (L 10 = false → L 5 = true → By B1 w' (.slice z.2.1.1 1 z.2.1.2.2) (fldL 1 [17 * PR])) ∧ (L 10 = false → L 9 = true → Lst w' w'.heap.size (some ⟨z.2.2.1, 0, none⟩) ((repL (fldL 1 [17 * PR]) 1 k).map (Value.int .u8))) ∧ (L 10 = true → By B1 w' (.slice z.2.2.2.1 z.2.2.2.2.1 z.2.2.2.2.2) (((fldL 1 [1 + a + b, OD] ++ fldL 2 [LY]) ++ fldL 1 [c, LV, BW - 2, BH - 2, ST, 1]) ++ repL (fldL 1 [17 * PR]) 1 k) ∧ Below B1 w1 w')) ∧ True) [(1, .pointer (some ⟨B, 0, none⟩)), (3, .slice A4 n4 c4)] (by kernel_rfl) (by kernel_rfl) rfl (by simp only [List.forall_mem_cons, List.not_mem_nil, false_imp_iff, implies_true, and_true]; exact ⟨rfl, rfl⟩) HVI.out (0, (none, 1, 0), 0, (none, 0, 0)) ?start ?step ?fin)
      case start => exact ⟨⟨fun _ => (Below.refl _ _).drew, fun _ h => (by cases h), fun _ h => (by cases h), fun _ h => (by cases h), fun h => (by cases h)⟩, trivial⟩
      case step =>
        intro gg_ hgN hgF ii_ hii_ L z w' hph hs hu
        obtain ⟨hcm, hph⟩ := hph
        have hF1 := hgF (1, .pointer (some ⟨B, 0, none⟩)) (by simp)
        have hF3 := hgF (3, .slice A4 n4 c4) (by simp)
        have hL := hu.1
        have hii_ : ii_ < 12 := hii_
        clear hgF
        obtain rfl | rfl | rfl | rfl | rfl | rfl | rfl | rfl | rfl | rfl | rfl | rfl := (by omega : ii_ = 0 ∨ ii_ = 1 ∨ ii_ = 2 ∨ ii_ = 3 ∨ ii_ = 4 ∨ ii_ = 5 ∨ ii_ = 6 ∨ ii_ = 7 ∨ ii_ = 8 ∨ ii_ = 9 ∨ ii_ = 10 ∨ ii_ = 11)
        · skip
          have n10 : L 10 = false := not_yet hL fun h => shut_at hs 10 0 (by kernel_rfl) (h)
          have n11 : L 11 = false := not_yet hL fun h => shut_at hs 11 0 (by kernel_rfl) (h)
          have e3 : (many gg_ L (VL z))[3]?.getD undef = .slice A4 n4 c4 := many_out3 hgN (HOK.out z) (by rw [HVL.out]; rfl) hF3
          refine opIn_run (v := .slice A4 n4 c4) (w' := w') rfl rfl (fun c h => by cases h) (fun _ => trivial) ?_ ⟨z, by exact many_put3 (HOK.out _) (by rw [HVL.out]; rfl) hL, hcm, hph⟩
          go_simp
        · skip
          have n4 : L 4 = false := not_yet hL fun h => shut_at hs 2 1 (by kernel_rfl) (shut_at hs 3 2 (by kernel_rfl) (shut_at hs 4 3 (by kernel_rfl) (h)))
          have n5 : L 5 = false := not_yet hL fun h => shut_at hs 2 1 (by kernel_rfl) (shut_at hs 3 2 (by kernel_rfl) (shut_at hs 4 3 (by kernel_rfl) (shut_at hs 5 4 (by kernel_rfl) (h))))
          have n9 : L 9 = false := not_yet hL fun h => shut_at hs 2 1 (by kernel_rfl) (shut_at hs 3 2 (by kernel_rfl) (shut_at hs 4 3 (by kernel_rfl) (shut_at hs 5 4 (by kernel_rfl) (shut_at hs 9 5 (by kernel_rfl) (h)))))
          have n10 : L 10 = false := not_yet hL fun h => shut_at hs 2 1 (by kernel_rfl) (shut_at hs 3 2 (by kernel_rfl) (shut_at hs 4 3 (by kernel_rfl) (shut_at hs 5 4 (by kernel_rfl) (shut_at hs 9 5 (by kernel_rfl) (shut_at hs 10 9 (by kernel_rfl) (h))))))
          have n11 : L 11 = false := not_yet hL fun h => shut_at hs 11 1 (by kernel_rfl) (h)
          have e1 : (many gg_ L (VL z))[1]?.getD undef = .pointer (some ⟨B, 0, none⟩) := many_out3 hgN (HOK.out z) (by rw [HVL.out]; rfl) hF1
          refine opIn_run (v := .pointer (some ⟨B, 5, none⟩)) (w' := w') rfl rfl (fun c h => by cases h) (fun _ => trivial) ?_ ⟨z, by exact many_put3 (HOK.out _) (by rw [HVL.out]; rfl) hL, hcm, hph⟩
          go_simp
        · skip
          have y1 : L 1 = true := up_at hu 1 (by kernel_rfl)
          have n4 : L 4 = false := not_yet hL fun h => shut_at hs 3 2 (by kernel_rfl) (shut_at hs 4 3 (by kernel_rfl) (h))
          have n5 : L 5 = false := not_yet hL fun h => shut_at hs 3 2 (by kernel_rfl) (shut_at hs 4 3 (by kernel_rfl) (shut_at hs 5 4 (by kernel_rfl) (h)))
          have n9 : L 9 = false := not_yet hL fun h => shut_at hs 3 2 (by kernel_rfl) (shut_at hs 4 3 (by kernel_rfl) (shut_at hs 5 4 (by kernel_rfl) (shut_at hs 9 5 (by kernel_rfl) (h))))
          have n10 : L 10 = false := not_yet hL fun h => shut_at hs 3 2 (by kernel_rfl) (shut_at hs 4 3 (by kernel_rfl) (shut_at hs 5 4 (by kernel_rfl) (shut_at hs 9 5 (by kernel_rfl) (shut_at hs 10 9 (by kernel_rfl) (h)))))
          have n11 : L 11 = false := not_yet hL fun h => shut_at hs 11 2 (by kernel_rfl) (h)
          have hcell : w'.cell? ⟨B, 5, none⟩ = some (.int .i64 PR) := rb_cell (KB.out _ (TR4.out _ (hcm.1 n10))) 5
          have e40 : (many gg_ L (VL z))[40]?.getD undef = .pointer (some ⟨B, 5, none⟩) := many_eval3 hgN (HOK.out z) (by rw [HVL.out]; rfl) y1
          refine opIn_run (v := .int .i64 PR) (w' := w') rfl rfl (fun c h => by cases h) (fun _ => trivial) ?_ ⟨z, by exact many_put3 (HOK.out _) (by rw [HVL.out]; rfl) hL, hcm, hph⟩
          go_simp
        · skip
          have y2 : L 2 = true := up_at hu 2 (by kernel_rfl)
          have n4 : L 4 = false := not_yet hL fun h => shut_at hs 4 3 (by kernel_rfl) (h)
          have n5 : L 5 = false := not_yet hL fun h => shut_at hs 4 3 (by kernel_rfl) (shut_at hs 5 4 (by kernel_rfl) (h))
          have n9 : L 9 = false := not_yet hL fun h => shut_at hs 4 3 (by kernel_rfl) (shut_at hs 5 4 (by kernel_rfl) (shut_at hs 9 5 (by kernel_rfl) (h)))
          have n10 : L 10 = false := not_yet hL fun h => shut_at hs 4 3 (by kernel_rfl) (shut_at hs 5 4 (by kernel_rfl) (shut_at hs 9 5 (by kernel_rfl) (shut_at hs 10 9 (by kernel_rfl) (h))))
          have n11 : L 11 = false := not_yet hL fun h => shut_at hs 11 3 (by kernel_rfl) (h)
          have q1 := HW.out.2.2.2.2.1
          have e41 : (many gg_ L (VL z))[41]?.getD undef = .int .i64 PR := many_eval3 hgN (HOK.out z) (by rw [HVL.out]; rfl) y2
          refine opIn_run (v := .int .i64 (17 * PR)) (w' := w') rfl rfl (fun c h => by cases h) (fun _ => trivial) ?_ ⟨z, by exact many_put3 (HOK.out _) (by rw [HVL.out]; rfl) hL, hcm, hph⟩
          go_simp
        · skip
          have y3 : L 3 = true := up_at hu 3 (by kernel_rfl)
          have n5 : L 5 = false := not_yet hL fun h => shut_at hs 5 4 (by kernel_rfl) (h)
          have n9 : L 9 = false := not_yet hL fun h => shut_at hs 5 4 (by kernel_rfl) (shut_at hs 9 5 (by kernel_rfl) (h))
          have n10 : L 10 = false := not_yet hL fun h => shut_at hs 5 4 (by kernel_rfl) (shut_at hs 9 5 (by kernel_rfl) (shut_at hs 10 9 (by kernel_rfl) (h)))
          have n11 : L 11 = false := not_yet hL fun h => shut_at hs 11 4 (by kernel_rfl) (h)
          have e42 : (many gg_ L (VL z))[42]?.getD undef = .int .i64 (17 * PR) := many_eval3 hgN (HOK.out z) (by rw [HVL.out]; rfl) y3
          refine opIn_run (v := (.slice (some ⟨w'.heap.size, 0, none⟩) 1 1)) (w' := w'.alloc (.cells #[.int .i64 (17 * PR)] 3)) rfl rfl (fun c h => by cases h) (fun _ => trivial) ?_ ⟨(w'.heap.size, z.2), by rw [show many gg_ L (VL z) = many gg_ L (VL (w'.heap.size, z.2)) from by rw [HVL.out]; simp only [many, y3, n5, n9, n10, n11, hL, cond_false, cond_true]]; exact many_put3 (HOK.out _) (by rw [HVL.out]; rfl) hL, ⟨fun _ => (hcm.1 n10).alloc (hcm.1 n10).size _, fun _ _ => lst_news w' [17 * PR], fun _ a => absurd a (by simp [upd, n5]), fun _ a => absurd a (by simp [upd, n9]), fun a => absurd a (by simp [upd, n10])⟩, trivial⟩
          go_simp
        · skip
          have y4 : L 4 = true := up_at hu 4 (by kernel_rfl)
          have n9 : L 9 = false := not_yet hL fun h => shut_at hs 9 5 (by kernel_rfl) (h)
          have n10 : L 10 = false := not_yet hL fun h => shut_at hs 9 5 (by kernel_rfl) (shut_at hs 10 9 (by kernel_rfl) (h))
          have n11 : L 11 = false := not_yet hL fun h => shut_at hs 11 5 (by kernel_rfl) (h)
          have e43 : (many gg_ L (VL z))[43]?.getD undef = .slice (some ⟨z.1, 0, none⟩) 1 1 := many_eval3 hgN (HOK.out z) (by rw [HVL.out]; rfl) y4
          refine opIn_call (f := 22) (args := #[.int .i64 1, .slice (some ⟨z.1, 0, none⟩) 1 1]) (w' := w') rfl rfl (fun c h => by cases h) (fun _ => trivial) rfl (by go_simp) ((callsIn_wide.2 (fields_any 1 1 1 (some ⟨z.1, 0, none⟩) [17 * PR] w' (by omega) rfl (by omega) (hcm.2.1 n10 y4))).mono ?_)
          rintro e w2 ⟨vv, rfl, hy, hb⟩
          obtain ⟨A8, c8, rfl, _⟩ := By.form hy
          exact ⟨_, rfl, (z.1, (A8, 1, c8), z.2.2), by rw [show many gg_ L (VL z) = many gg_ L (VL (z.1, (A8, 1, c8), z.2.2)) from by rw [HVL.out]; simp only [many, y4, n9, n10, n11, hL, cond_false, cond_true]]; exact many_put3 (HOK.out _) (by rw [HVL.out]; rfl) hL, ⟨fun _ => (hcm.1 n10).trans (hb.mono (hcm.1 n10).size), fun _ a => ((hcm.2.1 n10 y4).below hb).more hb.size, fun _ _ => hy.low (SZ.out _ (TR4.out _ (hcm.1 n10))), fun _ a => absurd a (by simp [upd, n9]), fun a => absurd a (by simp [upd, n10])⟩, trivial⟩
        · skip
          have n9 : L 9 = false := not_yet hL fun h => shut_at hs 7 6 (by kernel_rfl) (shut_at hs 8 7 (by kernel_rfl) (shut_at hs 9 8 (by kernel_rfl) (h)))
          have n10 : L 10 = false := not_yet hL fun h => shut_at hs 7 6 (by kernel_rfl) (shut_at hs 8 7 (by kernel_rfl) (shut_at hs 9 8 (by kernel_rfl) (shut_at hs 10 9 (by kernel_rfl) (h))))
          have n11 : L 11 = false := not_yet hL fun h => shut_at hs 11 6 (by kernel_rfl) (h)
          have e1 : (many gg_ L (VL z))[1]?.getD undef = .pointer (some ⟨B, 0, none⟩) := many_out3 hgN (HOK.out z) (by rw [HVL.out]; rfl) hF1
          refine opIn_run (v := .pointer (some ⟨B, 2, none⟩)) (w' := w') rfl rfl (fun c h => by cases h) (fun _ => trivial) ?_ ⟨z, by exact many_put3 (HOK.out _) (by rw [HVL.out]; rfl) hL, hcm, hph⟩
          go_simp
        · skip
          have y6 : L 6 = true := up_at hu 6 (by kernel_rfl)
          have n9 : L 9 = false := not_yet hL fun h => shut_at hs 8 7 (by kernel_rfl) (shut_at hs 9 8 (by kernel_rfl) (h))
          have n10 : L 10 = false := not_yet hL fun h => shut_at hs 8 7 (by kernel_rfl) (shut_at hs 9 8 (by kernel_rfl) (shut_at hs 10 9 (by kernel_rfl) (h)))
          have n11 : L 11 = false := not_yet hL fun h => shut_at hs 11 7 (by kernel_rfl) (h)
          have hcell : w'.cell? ⟨B, 2, none⟩ = some (.int .i64 LV) := rb_cell (KB.out _ (TR4.out _ (hcm.1 n10))) 2
          have e45 : (many gg_ L (VL z))[45]?.getD undef = .pointer (some ⟨B, 2, none⟩) := many_eval3 hgN (HOK.out z) (by rw [HVL.out]; rfl) y6
          refine opIn_run (v := .int .i64 LV) (w' := w') rfl rfl (fun c h => by cases h) (fun _ => trivial) ?_ ⟨z, by exact many_put3 (HOK.out _) (by rw [HVL.out]; rfl) hL, hcm, hph⟩
          go_simp
        · skip
          have y7 : L 7 = true := up_at hu 7 (by kernel_rfl)
          have n9 : L 9 = false := not_yet hL fun h => shut_at hs 9 8 (by kernel_rfl) (h)
          have n10 : L 10 = false := not_yet hL fun h => shut_at hs 9 8 (by kernel_rfl) (shut_at hs 10 9 (by kernel_rfl) (h))
          have n11 : L 11 = false := not_yet hL fun h => shut_at hs 11 8 (by kernel_rfl) (h)
          have q1 := HW.out.2.2.2.2.2
          have e46 : (many gg_ L (VL z))[46]?.getD undef = .int .i64 LV := many_eval3 hgN (HOK.out z) (by rw [HVL.out]; rfl) y7
          refine opIn_run (v := .int .i64 (k : Int)) (w' := w') rfl rfl (fun c h => by cases h) (fun _ => trivial) ?_ ⟨z, by exact many_put3 (HOK.out _) (by rw [HVL.out]; rfl) hL, hcm, hph⟩
          go_simp
        · skip
          have y4 : L 4 = true := shut_at hs 5 4 (by kernel_rfl) (up_at hu 5 (by kernel_rfl))
          have y5 : L 5 = true := up_at hu 5 (by kernel_rfl)
          have y8 : L 8 = true := up_at hu 8 (by kernel_rfl)
          have n10 : L 10 = false := not_yet hL fun h => shut_at hs 10 9 (by kernel_rfl) (h)
          have n11 : L 11 = false := not_yet hL fun h => shut_at hs 11 9 (by kernel_rfl) (h)
          have e44 : (many gg_ L (VL z))[44]?.getD undef = .slice z.2.1.1 1 z.2.1.2.2 := many_eval3 hgN (HOK.out z) (by rw [HVL.out]; rfl) y5
          have e47 : (many gg_ L (VL z))[47]?.getD undef = .int .i64 (k : Int) := many_eval3 hgN (HOK.out z) (by rw [HVL.out]; rfl) y8
          refine opIn_call (f := 52) (args := #[.slice z.2.1.1 1 z.2.1.2.2, .int .i64 (k : Int)]) (w' := w') rfl rfl (fun c h => by cases h) (fun _ => trivial) rfl (by go_simp) ((callsIn_wide.2 (repeat_u8 1 k z.2.1.2.2 z.2.1.1 (fldL 1 [17 * PR]) w' (by rw [fldL_len]; rfl) (by omega) HK6.out (By.lst (hcm.2.2.1 n10 y5)))).mono ?_)
          rintro e w2 ⟨gr, rfl, hc, hg, hb⟩
          rw [Nat.one_mul] at hc
          exact ⟨_, rfl, (z.1, z.2.1, gr, z.2.2.2), by rw [show many gg_ L (VL z) = many gg_ L (VL (z.1, z.2.1, gr, z.2.2.2)) from by rw [HVL.out]; simp only [many, y4, y5, y8, n10, n11, hL, cond_false, cond_true]]; exact many_put3 (HOK.out _) (by rw [HVL.out]; rfl) hL, ⟨fun _ => (hcm.1 n10).trans (hb.mono (hcm.1 n10).size), fun _ a => ((hcm.2.1 n10 y4).below hb).more hb.size, fun _ a => (hcm.2.2.1 n10 y5).below hb, fun _ _ => rep_lst (by rw [fldL_len]; rfl) hc, fun a => absurd a (by simp [upd, n10])⟩, trivial⟩
        · skip
          have y0 : L 0 = true := up_at hu 0 (by kernel_rfl)
          have y9 : L 9 = true := up_at hu 9 (by kernel_rfl)
          have n11 : L 11 = false := not_yet hL fun h => shut_at hs 11 10 (by kernel_rfl) (h)
          have hb0 : Below B1 w1 w' := TR4.out _ (hcm.1 hL)
          obtain ⟨A9, n9_, c9, w9, hr9, hy9, hg9⟩ := app_lst (m := k) (c := k) (KF.out.1.below (hcm.1 hL)) (fun e => by cases e) (hcm.2.2.2.1 hL y9) (by rw [repL_len]) (SZ.out _ hb0) (by have := HK6.out; rw [List.length_append, List.length_append, fldL_len, fldL_len, fldL_len]; simp; omega)
          have e39 : (many gg_ L (VL z))[39]?.getD undef = .slice A4 n4 c4 := many_eval3 hgN (HOK.out z) (by rw [HVL.out]; rfl) y0
          have e48 : (many gg_ L (VL z))[48]?.getD undef = .slice (some ⟨z.2.2.1, 0, none⟩) (1 * k) (1 * k) := many_eval3 hgN (HOK.out z) (by rw [HVL.out]; rfl) y9
          refine opIn_run (v := (.slice A9 n9_ c9)) (w' := w9) rfl rfl (fun c h => by cases h) (fun _ => trivial) ?_ ⟨(z.1, z.2.1, z.2.2.1, (A9, n9_, c9)), by rw [show many gg_ L (VL z) = many gg_ L (VL (z.1, z.2.1, z.2.2.1, (A9, n9_, c9))) from by rw [HVL.out]; simp only [many, y0, y9, n11, hL, cond_false, cond_true]]; exact many_put3 (HOK.out _) (by rw [HVL.out]; rfl) hL, ⟨fun a => absurd a (by simp [upd_self]), fun a => absurd a (by simp [upd_self]), fun a => absurd a (by simp [upd_self]), fun a => absurd a (by simp [upd_self]), fun _ => ⟨hy9, (KF.out.1.below (hcm.1 hL)).bel hb0 (SZ.out _ hb0) hg9⟩⟩, trivial⟩
          go_simp
        · skip
          have y0 : L 0 = true := up_at hu 0 (by kernel_rfl)
          have y1 : L 1 = true := up_at hu 1 (by kernel_rfl)
          have y2 : L 2 = true := up_at hu 2 (by kernel_rfl)
          have y3 : L 3 = true := up_at hu 3 (by kernel_rfl)
          have y4 : L 4 = true := up_at hu 4 (by kernel_rfl)
          have y5 : L 5 = true := up_at hu 5 (by kernel_rfl)
          have y6 : L 6 = true := up_at hu 6 (by kernel_rfl)
          have y7 : L 7 = true := up_at hu 7 (by kernel_rfl)
          have y8 : L 8 = true := up_at hu 8 (by kernel_rfl)
          have y9 : L 9 = true := up_at hu 9 (by kernel_rfl)
          have y10 : L 10 = true := up_at hu 10 (by kernel_rfl)
          have e49 : (many gg_ L (VL z))[49]?.getD undef = .slice z.2.2.2.1 z.2.2.2.2.1 z.2.2.2.2.2 := many_eval3 hgN (HOK.out z) (by rw [HVL.out]; rfl) y10
          refine opIn_run (v := .slice z.2.2.2.1 z.2.2.2.2.1 z.2.2.2.2.2) (w' := w') rfl rfl (fun c h => by cases h) (fun _ => trivial) ?_ ⟨z, by exact many_put3 (HOK.out _) (by rw [HVL.out]; rfl) hL, hcm, hph⟩
          go_simp
      case fin =>
        intro L z w' hall hph
        obtain ⟨hcm, hph⟩ := hph
        have KZ := hcm.2.2.2.2 (hall 10 (by decide))
        obtain ⟨z1, z2, z3, A5, n5, c5⟩ := z
        simp only at KZ
        have KZ := Lib.hid KZ
        clear hcm hph
        rw [HVL.out]
        dsimp only [manyL, List.set_cons_zero, List.set_cons_succ]
        clear hall HVL HOK HVI
        go_wp2
        go_ret
        exact ⟨_, rfl, by rw [HE.out.2]; exact KZ.out.1.low (by rw [← HB1.out]; exact H1.out.2.2), by rw [HE.out.2]; exact H1.out.1.trans (KZ.out.2.mono (by rw [← HB1.out]; exact H1.out.2.2))⟩
end Go.Proofs.Ytlbfjaifemnkpaa
