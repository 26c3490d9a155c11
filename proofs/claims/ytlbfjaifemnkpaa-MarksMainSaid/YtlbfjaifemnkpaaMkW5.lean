/- marks: bands, the content of the third segment. -/
import Derived.Test.YtlbfjaifemnkpaaMkW4
import Derived.Laws.Rows
import Derived.Laws.OwnMore
import Derived.Deep.CutRange
import Derived.Deep.CutBlock
set_option linter.unusedVariables false
set_option linter.unusedSimpArgs false
namespace Go.Proofs.Ytlbfjaifemnkpaa
open Go.RowKit Go.Shelf
attribute [local go_sem ↓] appSem_eq
set_option maxRecDepth 100000
theorem app_intl {w : World} {base m c : Nat} {v : Value} {A : Option Addr} {X L : List Int} (h : w.ownsRow base 3 1 v X.length (X.map (Value.int .i64))) (hA : A = none → m = 0) (hL : Lst w w.heap.size A (L.map (Value.int .i64))) (hl : L.length = m) (hb : base ≤ w.heap.size) (hlen : X.length + m ≤ 1000000) :
    ∃ v' w', (appSem #[22, 22] 22 #[v, .slice A m c]).run Try.prog w = .ok v' w' ∧ w'.ownsRow base 3 1 v' (X ++ L).length ((X ++ L).map (Value.int .i64)) ∧ w.grownBy w' v.ownBlock := by
  obtain ⟨i0, hi, hz0, hz1, hz2⟩ := info_parts Try.info3
  cases A with
  | none =>
    have hm := hA rfl
    subst hm
    obtain rfl : L = [] := List.eq_nil_of_length_eq_zero hl
    have hcc : ∀ c : Nat, (appSem #[22, 22] 22 #[v, .slice none 0 c]).run Try.prog w = .ok v w := fun c => run_append_owned_none (P := Try.prog) (w := w) base 22 22 3 i0 1 Try.underlying22 hi v _ _ h
    exact ⟨v, w, hcc c, by rw [List.append_nil]; exact h, World.grownBy.refl _ _⟩
  | some a =>
    obtain ⟨v', w', hr, hown', hg, _, hat⟩ := run_append_own_at (P := Try.prog) w base 22 22 3 i0 (.int .i64 0) 1 8 Try.underlying22 hi hz0 hz1 hz2 rfl (by decide) v X.length _ h a m c (L.map (Value.int .i64)) (by rw [List.length_map, hl]; simp)
      (fun j u hu => by
        obtain ⟨b, o, e, _, hc⟩ := hL j u hu
        cases e
        show w.cell? (if j = 0 then _ else _) = _
        split
        · rename_i h0; rw [h0] at hc; simpa using hc
        · exact hc) (ints_oneCell .i64 L) (by unfold maxLen; omega) (by omega) hb
    refine ⟨v', w', hr, ?_, hg⟩
    rw [List.map_append, List.length_append, hl]
    exact hown'
/-- The bits that the samples need. -/
def bitsF (r : Int) (cs : List Cp) : Int := cs.foldl (fun b c => if b < c.d + r then c.d + r else b) r
theorem bitsF_snoc (r : Int) (cs : List Cp) (c : Cp) : bitsF r (cs ++ [c]) = if bitsF r cs < c.d + r then c.d + r else bitsF r cs := by
  unfold bitsF
  rw [List.foldl_append]
  rfl
def gainsL (k : Nat) : List Int := [0] ++ (List.range (3 * k)).map fun i => ([1, 1, 2] : List Int).getD (i % 3) 0
theorem gainsL_len (k : Nat) : (gainsL k).length = 1 + 3 * k := by simp [gainsL]; omega
theorem gainsL_le (k : Nat) : ∀ x ∈ gainsL k, 0 ≤ x ∧ x ≤ 2 := by
  intro x hx
  rw [gainsL, List.mem_append] at hx
  rcases hx with hx | hx
  · simp at hx; omega
  · rw [List.mem_map] at hx
    obtain ⟨j, _, rfl⟩ := hx
    rcases (by omega : j % 3 = 0 ∨ j % 3 = 1 ∨ j % 3 = 2) with h | h | h <;> rw [h] <;> decide
theorem gains_lst {w : World} {g n : Nat} {t : TypeId} (h : w.heap[g]? = some (.cells (repC (.int .i64 0) (pat_int [1, 1, 2]) n n).toArray t (0, 0))) : Lst w w.heap.size (some ⟨g, 0, none⟩) (((List.range n).map fun i => ([1, 1, 2] : List Int).getD (i % 3) 0).map (Value.int .i64)) := by
  intro i u hu
  have hi : i < n := by
    rcases Nat.lt_or_ge i n with h | h
    · exact h
    · rw [List.getElem?_eq_none (by simp; exact h)] at hu; cases hu
  refine ⟨g, 0, rfl, blk_lt h, ?_⟩
  rw [rb_cell h (0 + i), Nat.zero_add, List.getElem?_toArray, repC_get hi, if_pos hi]
  rw [List.map_map, List.getElem?_map, List.getElem?_range hi] at hu
  rw [← hu]
  rfl
def bandsB (r : Int) (cs : List Cp) (k : Nat) : List Int := fldL 1 [96] ++ (gainsL k).flatMap fun g => fldL 1 [8 * (bitsF r cs + g)]
theorem flat1_len (f : Int → Int) : ∀ l : List Int, (l.flatMap fun g => fldL 1 [f g]).length = l.length
  | [] => rfl
  | x :: l => by rw [List.flatMap_cons, List.length_append, flat1_len f l, fldL_len, List.length_cons]; simp; omega
theorem bandsB_len (r : Int) (cs : List Cp) (k : Nat) : (bandsB r cs k).length = 2 + 3 * k := by
  unfold bandsB
  rw [List.length_append, flat1_len, fldL_len, gainsL_len]
  simp
  omega
set_option maxHeartbeats 8000000 in
theorem bands_any {w : World} {h : HV} {cs : List Cp} {l : List Int} (k : Nat) (H : HdOk w h cs l) (hd : ∀ c ∈ cs, 0 ≤ c.d ∧ c.d ≤ 100) (hLV : h.LV = (k : Int)) (hk : k ≤ 6) :
    Calls Try.prog 26 #[.agg h.arr] w fun e w' => ∃ v, e = .returned v ∧ By w.heap.size w' v (bandsB (if h.RC then 1 else 0) cs k) ∧ Below w.heap.size w w' := by
  have HH := Lib.hid H
  have HD := Lib.hid hd
  obtain ⟨B, hB⟩ : ∃ B, w.heap.size = B := ⟨_, rfl⟩
  obtain ⟨w1, hw1⟩ : ∃ w1, w.alloc (.cells h.arr 33) = w1 := ⟨_, rfl⟩
  have H1 : Hid (Below B w w1 ∧ w1.heap[B]? = some (.cells h.arr 33 (0, 0)) ∧ w1.heap.size = B + 1) := Lib.hid ⟨by rw [← hw1, ← hB]; exact (Below.refl _ _).alloc (Nat.le_refl _) _, by rw [← hw1, ← hB]; exact World.alloc_heap_new w _, by rw [← hw1, ← hB]; simp⟩
  have HE := Lib.hid (And.intro hw1 hB)
  obtain ⟨X, Y, OX, OY, A, N, C, TX, TY, LV, BW, BH, PR, ST, OD, LY, RC, SO, EP, SA, sn, sc⟩ := h
  have HLN : Hid (cs.length = N ∧ N ≤ 4) := Lib.hid ⟨H.len, H.few⟩
  have hN4 : N ≤ 4 := H.few
  simp only at hLV
  subst hLV
  simp only
  obtain ⟨r, hr0⟩ : ∃ r : Int, (if RC = true then (1 : Int) else 0) = r := ⟨_, rfl⟩
  have hrb : 0 ≤ r ∧ r ≤ 1 := by rw [← hr0]; split <;> omega
  have WC : Hid (∀ u, Calls Try.prog 51 #[.bool RC, .int .i64 1] u fun e w' => e = .returned (.int .i64 r) ∧ u = w') := Lib.hid fun u => by have := when_any RC 1 u; rw [hr0] at this; exact this
  have HRB := Lib.hid hrb
  have HK6 := Lib.hid hk
  rw [hr0]
  clear hw1 hB H hd hr0 hrb hk
  obtain ⟨B1, hB1⟩ : ∃ B1, w1.heap.size = B1 := ⟨_, rfl⟩
  have SZ : Hid (∀ u : World, Below B1 w1 u → B1 ≤ u.heap.size) := Lib.hid fun u hb => by have := hb.size; rw [hB1] at this; exact this
  have KB : Hid (∀ u : World, Below B1 w1 u → u.heap[B]? = some (.cells (HV.arr ⟨X, Y, OX, OY, A, N, C, TX, TY, (k : Int), BW, BH, PR, ST, OD, LY, RC, SO, EP, SA, sn, sc⟩) 33 (0, 0))) := Lib.hid fun u hb => (hb.block B (by rw [← hB1]; exact blk_lt H1.out.2.1)).trans H1.out.2.1
  have HB1 : Hid (w1.heap.size = B1 ∧ B < B1) := Lib.hid ⟨hB1, by have := H1.out.2.2; omega⟩
  have HR1 : Hid (Below B1 w1 w1) := Lib.hid (Below.refl _ _)
  clear hB1
  have NF : Hid (∀ (s : Nat) (l : List Int) (u : World), 1 ≤ s ∧ s ≤ 8 → l.length ≤ 1000 → Below B1 w1 u → Calls Try.prog 22 #[.int .i64 (s : Int), .slice (some ⟨u.heap.size, 0, none⟩) l.length l.length] (u.alloc (.cells (l.map (Value.int .i64)).toArray 3)) fun e w' => ∃ A' n' c', e = .returned (.slice A' n' c') ∧ By u.heap.size w' (.slice A' n' c') (fldL s l) ∧ Below u.heap.size u w') := Lib.hid fun s l u hs hl hb => by
    have hba : Below u.heap.size u (u.alloc (.cells (l.map (Value.int .i64)).toArray 3)) := (Below.refl _ _).alloc (Nat.le_refl _) _
    refine (fields_any s l.length l.length (some ⟨u.heap.size, 0, none⟩) l _ hs rfl hl (lst_news u l)).mono ?_
    rintro e w' ⟨v, rfl, hy, hb2⟩
    obtain ⟨A', c', rfl, _⟩ := By.form hy
    exact ⟨A', _, c', rfl, hy.low hba.size, hba.trans (hb2.mono hba.size)⟩
  have k14 : w1.cell? ⟨B, 14, none⟩ = some (.bool RC) := rb_cell (KB.out _ HR1.out) 14
  have k4 : w1.cell? ⟨B, 4, none⟩ = some (.slice A N C) := rb_cell (KB.out _ HR1.out) 4
  go_enter Try.func26, Try.ntmps26
  go_upto_region 1 with fail
  rw [show w.alloc _ = w1 from HE.out.1, HE.out.2]
  go_wp2_with fail
  refine (WC.out w1).mono ?_
  rintro e wx ⟨rfl, hwx⟩
  subst hwx
  go_wp2_with fail
  clear k14 k4
  go_loopg [3, 18] N (fun gh a v wr => ∃ (j : Nat) (b : Int), j + gh = N ∧ a = .int .i64 b ∧ v = .int .i64 (j : Int) ∧ Hid (b = bitsF r (cs.take j) ∧ 0 ≤ b ∧ b ≤ 101 ∧ Below B1 w1 wr))
  case atStart => exact ⟨0, r, by omega, rfl, rfl, Lib.hid ⟨rfl, HRB.out.1, by have := HRB.out; omega, HR1.out⟩⟩
  case round =>
    obtain ⟨j, b, hjg, rfl, rfl, HI⟩ := hrel
    obtain ⟨wa, hwa⟩ : ∃ wa, wa = wr := ⟨wr, rfl⟩
    subst hwa
    by_cases hj : j < N
    · obtain ⟨g1, rfl⟩ : ∃ g1, gk = g1 + 1 := ⟨gk - 1, by omega⟩
      have hjI : (j : Int) < (N : Int) ∧ (0 : Int) ≤ (j : Int) := by omega
      obtain ⟨c, hc⟩ : ∃ c, cs[j]? = some c := ⟨_, List.getElem?_eq_getElem (by rw [HLN.out.1]; exact hj)⟩
      obtain ⟨g, cap, hv, hgl, _, _, q0, q1, q2, q3, q4⟩ := HH.out.row j c hc
      have hdb := HD.out c (List.mem_of_getElem? hc)
      injection hv with hv1 hv2 hv3
      simp only at hv1
      subst hv1
      have hb0 : Below B w wa := H1.out.1.trans (HI.out.2.2.2.mono (by have := HB1.out.2; omega))
      have hgB : g < B := by rw [← HE.out.2]; exact hgl
      have e0 := (hb0.cell (p := ⟨g, j * 5, none⟩) hgB).trans q0
      have e1 := (hb0.cell (p := ⟨g, j * 5 + 1, none⟩) hgB).trans q1
      have e2 := (hb0.cell (p := ⟨g, j * 5 + 2, none⟩) hgB).trans q2
      have e3 := (hb0.cell (p := ⟨g, j * 5 + 3, none⟩) hgB).trans q3
      have e4 := (hb0.cell (p := ⟨g, j * 5 + 4, none⟩) hgB).trans q4
      obtain ⟨b2, hb2⟩ : ∃ b2, (if b < c.d + r then c.d + r else b) = b2 := ⟨_, rfl⟩
      have HX : Hid (b2 = bitsF r (cs.take (j + 1)) ∧ 0 ≤ b2 ∧ b2 ≤ 101) := Lib.hid ⟨by rw [List.take_add_one, hc]; simp only [Option.toList_some]; rw [bitsF_snoc, ← HI.out.1, hb2], by have := HI.out.2; have := HRB.out; rw [← hb2]; split <;> omega, by have := HI.out.2; have := HRB.out; rw [← hb2]; split <;> omega⟩
      have HS : Hid (IntKind.i64.wrap (c.d + r) = c.d + r ∧ (if b < c.d + r then c.d + r else b) = b2) := Lib.hid ⟨by have := HRB.out; exact IntWalk.i64_in _ (by omega), hb2⟩
      clear hc q0 q1 q2 q3 q4 hdb hv2 hv3 hgB hgl hb2 hb0
      go_upto_region 5 with fail
      clear e0 e1 e2 e3 e4
      obtain ⟨q, hq⟩ : ∃ q, wa.heap.size = q := ⟨_, rfl⟩
      obtain ⟨wq, hwq⟩ : ∃ wq, wa.alloc (Obj.cells #[.int .i64 c.d, .bool c.sg, .int .i64 c.dx, .int .i64 c.dy, .slice c.A c.n c.cap] 45) = wq := ⟨_, rfl⟩
      rw [hq]
      rw [hwq]
      have HQB : Hid (wq.heap[q]? = some (.cells #[.int .i64 c.d, .bool c.sg, .int .i64 c.dx, .int .i64 c.dy, .slice c.A c.n c.cap] 45 (0, 0)) ∧ Below B1 w1 wq) := Lib.hid (by
        have hb : Below wa.heap.size wa wq := by rw [← hwq]; exact (Below.refl _ _).alloc (Nat.le_refl _) _
        exact ⟨by rw [← hwq, ← hq]; exact World.alloc_heap_new wa _, HI.out.2.2.2.trans (hb.mono (SZ.out _ HI.out.2.2.2))⟩)
      clear hq hwq HI
      obtain ⟨VL, hVL⟩ : ∃ VL : Unit → List (Nat × Nat × Value), VL = fun z => [(0, 22, .int .i64 b), (1, 23, .pointer (some ⟨q, 0, none⟩)), (2, 24, .int .i64 c.d), (3, 25, .pointer (some ⟨B, 5, none⟩)), (4, 26, .pointer (some ⟨B, 14, none⟩)), (5, 27, .bool RC), (6, 28, .int .i64 r), (7, 29, .int .i64 (c.d + r)), (8, 30, .int .i64 b2), (9, 3, .int .i64 b2)] := ⟨_, rfl⟩
      have hok : ∀ z, manyOk 57 (VL z) := fun z => by rw [hVL]; exact okB_ok rfl
      have HVL := Lib.hid hVL
      have hvi : ∀ z, ∀ x ∈ VL z, x.1 < 10 := fun z => by rw [hVL]; exact ltB_ok rfl
      have HOK := Lib.hid hok
      have HVI := Lib.hid hvi
      clear hVL hok hvi
      refine (wpIn_wide (n := 9)).1 (regionIn_many (N := 57) (w := _) VL (fun L z w' => (Below wq.heap.size wq w') ∧ True) [(1, .pointer (some ⟨B, 0, none⟩)), (3, .int .i64 b), (5, .pointer (some ⟨q, 0, none⟩))] (by kernel_rfl) (by kernel_rfl) rfl (by simp only [List.forall_mem_cons, List.not_mem_nil, false_imp_iff, implies_true, and_true]; exact ⟨rfl, rfl, rfl⟩) HVI.out () ?start ?step ?fin)
      case start => exact ⟨(Below.refl _ _).drew, trivial⟩
      case step =>
        intro gg_ hgN hgF ii_ hii_ L z w' hph hs hu
        obtain ⟨hcm, hph⟩ := hph
        have hF1 := hgF (1, .pointer (some ⟨B, 0, none⟩)) (by simp)
        have hF3 := hgF (3, .int .i64 b) (by simp)
        have hF5 := hgF (5, .pointer (some ⟨q, 0, none⟩)) (by simp)
        have hL := hu.1
        have hii_ : ii_ < 10 := hii_
        clear hgF
        obtain rfl | rfl | rfl | rfl | rfl | rfl | rfl | rfl | rfl | rfl := (by omega : ii_ = 0 ∨ ii_ = 1 ∨ ii_ = 2 ∨ ii_ = 3 ∨ ii_ = 4 ∨ ii_ = 5 ∨ ii_ = 6 ∨ ii_ = 7 ∨ ii_ = 8 ∨ ii_ = 9)
        · skip
          have n9 : L 9 = false := not_yet hL fun h => shut_at hs 9 0 (by kernel_rfl) (h)
          have e3 : (many gg_ L (VL z))[3]?.getD undef = .int .i64 b := many_out3' hgN (HOK.out z) (by rw [HVL.out]; rfl) (by assumption) hF3
          refine opIn_run (v := .int .i64 b) (w' := w') rfl rfl (fun c h => by cases h) (fun _ => trivial) ?_ ⟨z, by exact many_put3 (HOK.out _) (by rw [HVL.out]; rfl) hL, hcm, hph⟩
          go_simp
        · skip
          have n9 : L 9 = false := not_yet hL fun h => shut_at hs 9 1 (by kernel_rfl) (h)
          have e5 : (many gg_ L (VL z))[5]?.getD undef = .pointer (some ⟨q, 0, none⟩) := many_out3 hgN (HOK.out z) (by rw [HVL.out]; rfl) hF5
          refine opIn_run (v := .pointer (some ⟨q, 0, none⟩)) (w' := w') rfl rfl (fun c h => by cases h) (fun _ => trivial) ?_ ⟨z, by exact many_put3 (HOK.out _) (by rw [HVL.out]; rfl) hL, hcm, hph⟩
          go_simp
        · skip
          have y1 : L 1 = true := up_at hu 1 (by kernel_rfl)
          have n9 : L 9 = false := not_yet hL fun h => shut_at hs 9 2 (by kernel_rfl) (h)
          have hcell : w'.cell? ⟨q, 0, none⟩ = some (.int .i64 c.d) := rb_cell ((hcm.block q (blk_lt HQB.out.1)).trans HQB.out.1) 0
          have e23 : (many gg_ L (VL z))[23]?.getD undef = .pointer (some ⟨q, 0, none⟩) := many_eval3 hgN (HOK.out z) (by rw [HVL.out]; rfl) y1
          refine opIn_run (v := .int .i64 c.d) (w' := w') rfl rfl (fun c h => by cases h) (fun _ => trivial) ?_ ⟨z, by exact many_put3 (HOK.out _) (by rw [HVL.out]; rfl) hL, hcm, hph⟩
          go_simp
        · skip
          have n9 : L 9 = false := not_yet hL fun h => shut_at hs 9 3 (by kernel_rfl) (h)
          have e1 : (many gg_ L (VL z))[1]?.getD undef = .pointer (some ⟨B, 0, none⟩) := many_out3 hgN (HOK.out z) (by rw [HVL.out]; rfl) hF1
          refine opIn_run (v := .pointer (some ⟨B, 5, none⟩)) (w' := w') rfl rfl (fun c h => by cases h) (fun _ => trivial) ?_ ⟨z, by exact many_put3 (HOK.out _) (by rw [HVL.out]; rfl) hL, hcm, hph⟩
          go_simp
        · skip
          have y3 : L 3 = true := up_at hu 3 (by kernel_rfl)
          have n9 : L 9 = false := not_yet hL fun h => shut_at hs 9 4 (by kernel_rfl) (h)
          have e25 : (many gg_ L (VL z))[25]?.getD undef = .pointer (some ⟨B, 5, none⟩) := many_eval3 hgN (HOK.out z) (by rw [HVL.out]; rfl) y3
          refine opIn_run (v := .pointer (some ⟨B, 14, none⟩)) (w' := w') rfl rfl (fun c h => by cases h) (fun _ => trivial) ?_ ⟨z, by exact many_put3 (HOK.out _) (by rw [HVL.out]; rfl) hL, hcm, hph⟩
          go_simp
        · skip
          have y4 : L 4 = true := up_at hu 4 (by kernel_rfl)
          have n9 : L 9 = false := not_yet hL fun h => shut_at hs 9 5 (by kernel_rfl) (h)
          have hcell : w'.cell? ⟨B, 14, none⟩ = some (.bool RC) := rb_cell (KB.out _ (HQB.out.2.trans (hcm.mono (SZ.out _ HQB.out.2)))) 14
          have e26 : (many gg_ L (VL z))[26]?.getD undef = .pointer (some ⟨B, 14, none⟩) := many_eval3 hgN (HOK.out z) (by rw [HVL.out]; rfl) y4
          refine opIn_run (v := .bool RC) (w' := w') rfl rfl (fun c h => by cases h) (fun _ => trivial) ?_ ⟨z, by exact many_put3 (HOK.out _) (by rw [HVL.out]; rfl) hL, hcm, hph⟩
          go_simp
        · skip
          have y5 : L 5 = true := up_at hu 5 (by kernel_rfl)
          have n9 : L 9 = false := not_yet hL fun h => shut_at hs 9 6 (by kernel_rfl) (h)
          have e27 : (many gg_ L (VL z))[27]?.getD undef = .bool RC := many_eval3 hgN (HOK.out z) (by rw [HVL.out]; rfl) y5
          refine opIn_call (f := 51) (args := #[.bool RC, .int .i64 1]) (w' := w') rfl rfl (fun c h => by cases h) (fun _ => trivial) rfl (by go_simp) ((callsIn_wide.2 (WC.out w')).mono ?_)
          rintro e w2 ⟨rfl, rfl⟩
          exact ⟨_, rfl, z, by exact many_put3 (HOK.out _) (by rw [HVL.out]; rfl) hL, hcm, trivial⟩
        · skip
          have y2 : L 2 = true := up_at hu 2 (by kernel_rfl)
          have y6 : L 6 = true := up_at hu 6 (by kernel_rfl)
          have n9 : L 9 = false := not_yet hL fun h => shut_at hs 9 7 (by kernel_rfl) (h)
          have q1 := HS.out.1
          have e24 : (many gg_ L (VL z))[24]?.getD undef = .int .i64 c.d := many_eval3 hgN (HOK.out z) (by rw [HVL.out]; rfl) y2
          have e28 : (many gg_ L (VL z))[28]?.getD undef = .int .i64 r := many_eval3 hgN (HOK.out z) (by rw [HVL.out]; rfl) y6
          refine opIn_run (v := .int .i64 (c.d + r)) (w' := w') rfl rfl (fun c h => by cases h) (fun _ => trivial) ?_ ⟨z, by exact many_put3 (HOK.out _) (by rw [HVL.out]; rfl) hL, hcm, hph⟩
          go_simp
        · skip
          have y0 : L 0 = true := up_at hu 0 (by kernel_rfl)
          have y7 : L 7 = true := up_at hu 7 (by kernel_rfl)
          have n9 : L 9 = false := not_yet hL fun h => shut_at hs 9 8 (by kernel_rfl) (h)
          have q1 := HS.out.2
          have e22 : (many gg_ L (VL z))[22]?.getD undef = .int .i64 b := many_eval3 hgN (HOK.out z) (by rw [HVL.out]; rfl) y0
          have e29 : (many gg_ L (VL z))[29]?.getD undef = .int .i64 (c.d + r) := many_eval3 hgN (HOK.out z) (by rw [HVL.out]; rfl) y7
          refine opIn_run (v := .int .i64 b2) (w' := w') rfl rfl (fun c h => by cases h) (fun _ => trivial) ?_ ⟨z, by exact many_put3 (HOK.out _) (by rw [HVL.out]; rfl) hL, hcm, hph⟩
          go_simp
        · skip
          have y0 : L 0 = true := up_at hu 0 (by kernel_rfl)
          have y1 : L 1 = true := up_at hu 1 (by kernel_rfl)
          have y2 : L 2 = true := up_at hu 2 (by kernel_rfl)
          have y3 : L 3 = true := up_at hu 3 (by kernel_rfl)
          have y4 : L 4 = true := up_at hu 4 (by kernel_rfl)
          have y5 : L 5 = true := up_at hu 5 (by kernel_rfl)
          have y6 : L 6 = true := up_at hu 6 (by kernel_rfl)
          have y7 : L 7 = true := up_at hu 7 (by kernel_rfl)
          have y8 : L 8 = true := up_at hu 8 (by kernel_rfl)
          have e30 : (many gg_ L (VL z))[30]?.getD undef = .int .i64 b2 := many_eval3 hgN (HOK.out z) (by rw [HVL.out]; rfl) y8
          refine opIn_run (v := .int .i64 b2) (w' := w') rfl rfl (fun c h => by cases h) (fun _ => trivial) ?_ ⟨z, by exact many_put3 (HOK.out _) (by rw [HVL.out]; rfl) hL, hcm, hph⟩
          go_simp
      case fin =>
        intro L z w' hall hph
        obtain ⟨hcm, hph⟩ := hph
        rw [HVL.out]
        dsimp only [manyL, List.set_cons_zero, List.set_cons_succ]
        clear hall HVL HOK HVI
        have HC := Lib.hid hcm
        clear hcm hph
        go_wp2
        go_roundg g1
        case measure => omega
        case rel => exact ⟨j + 1, b2, by omega, rfl, by go_num, Lib.hid ⟨HX.out.1, HX.out.2.1, HX.out.2.2, HQB.out.2.trans (HC.out.mono (SZ.out _ HQB.out.2))⟩⟩
    · obtain rfl : j = N := by omega
      have hlc : ¬ (j : Int) < (j : Int) := by omega
      have HV2 : Hid (b = bitsF r cs ∧ 0 ≤ b ∧ b ≤ 101) := Lib.hid ⟨by have := HI.out.1; rw [List.take_of_length_le (by rw [HLN.out.1]; exact Nat.le_refl _)] at this; exact this, HI.out.2.1, HI.out.2.2.1⟩
      have HWA := Lib.hid HI.out.2.2.2
      clear HI hjg
      have k7 : wa.cell? ⟨B, 7, none⟩ = some (.int .i64 (k : Int)) := rb_cell (KB.out _ HWA.out) 7
      have hBs : B < wa.heap.size := by have := SZ.out _ HWA.out; have := HB1.out.2; omega
      go_wp2_with fail
      have hz : (wa.alloc (Obj.cells #[Value.int IntKind.i64 0] 3)).heap.size = wa.heap.size + 1 := by simp
      have hl3 := lst_news (wa.alloc (Obj.cells #[Value.int IntKind.i64 0] 3)) [1, 1, 2]
      rw [hz] at hl3
      refine (repeat_int 3 k 3 (some ⟨wa.heap.size + 1, 0, none⟩) [1, 1, 2] _ rfl (by omega) HK6.out hl3).mono ?_
      rintro e wd ⟨g, rfl, hg, hgl, hbd⟩
      have hba : Below wa.heap.size wa (wa.alloc (Obj.cells #[Value.int IntKind.i64 0] 3)) := (Below.refl _ _).alloc (Nat.le_refl _) _
      have hbb : Below wa.heap.size wa ((wa.alloc (Obj.cells #[Value.int IntKind.i64 0] 3)).alloc (Obj.cells #[Value.int IntKind.i64 1, Value.int IntKind.i64 1, Value.int IntKind.i64 2] 3)) := hba.alloc hba.size _
      have hown0 : (wa.alloc (Obj.cells #[Value.int IntKind.i64 0] 3)).ownsRow wa.heap.size 3 1 (.slice (some ⟨wa.heap.size, 0, none⟩) 1 1) 1 [Value.int .i64 0] := World.ownsRow_lit wa #[Value.int IntKind.i64 0] 1 (Nat.le_refl _) (by unfold maxLen; omega) rfl
      have hown1 := hown0.alloc (Obj.cells #[Value.int IntKind.i64 1, Value.int IntKind.i64 1, Value.int IntKind.i64 2] 3)
      have hown2 : wd.ownsRow wa.heap.size 3 1 (.slice (some ⟨wa.heap.size, 0, none⟩) 1 1) ([0] : List Int).length (([0] : List Int).map (Value.int .i64)) := ownsRow_keep hown1 hbd.size (fun k e => hbd.block k (own_lt hown1 e).2)
      have hbd2 : Below wa.heap.size wa wd := hbb.trans (hbd.mono hbb.size)
      obtain ⟨v', we, hr, hown, hgr⟩ := app_intl (m := 3 * k) (c := 3 * k) hown2 (fun e => by cases e) (gains_lst hg) (by simp) hbd2.size (by have := HK6.out; simp; omega)
      obtain ⟨gg, cap2, rfl, _, _⟩ := own_form hown (by simp)
      obtain ⟨m2, hm2⟩ : ∃ m2, (gainsL k).length = m2 := ⟨_, rfl⟩
      rw [show ([0] ++ (List.range (3 * k)).map fun i => ([1, 1, 2] : List Int).getD (i % 3) 0) = gainsL k from rfl] at hown
      rw [show ([0] ++ (List.range (3 * k)).map fun i => ([1, 1, 2] : List Int).getD (i % 3) 0) = gainsL k from rfl, hm2] at hr
      rw [hm2] at hown
      have hBE : Below B1 w1 we := HWA.out.trans ((hbd2.grown hgr hbd2.size (fun k e => (own_lt hown2 e).1)).mono (SZ.out _ HWA.out))
      have HOW := Lib.hid hown
      have HBE := Lib.hid hBE
      have HM2 : Hid ((gainsL k).length = m2 ∧ 1 ≤ m2 ∧ m2 ≤ 100) := Lib.hid ⟨hm2, by rw [← hm2, gainsL_len]; omega, by have := HK6.out; rw [← hm2, gainsL_len]; omega⟩
      clear hz hl3 hg hgl hba hbb hown0 hown1 hown2 hbd hbd2 hown hgr hm2 hBE k7 hBs
      go_wp2_with fail
      refine (NF.out 1 [96] we (by omega) (by simp) HBE.out).mono ?_
      rintro e wf ⟨A3, n3, c3, rfl, hy3, hbf⟩
      have HF := Lib.hid (And.intro hy3 hbf)
      clear hy3 hbf hr
      go_wp2_with fail
      have hm100 : m2 ≤ 100 := HM2.out.2.2
      go_loopg [7, 43] m2 (fun gh a v wr => ∃ (j : Nat) (A' : Option Addr) (n' c' : Nat), j + gh = m2 ∧ a = .slice A' n' c' ∧ v = .int .i64 (j : Int) ∧ Hid (By we.heap.size wr (.slice A' n' c') (fldL 1 [96] ++ ((gainsL k).take j).flatMap fun x => fldL 1 [8 * (b + x)]) ∧ Below we.heap.size we wr))
      case atStart => exact ⟨0, A3, n3, c3, by omega, rfl, rfl, Lib.hid ⟨by simpa using HF.out.1, HF.out.2⟩⟩
      case round =>
        obtain ⟨i, A6, n6, c6, hjg, rfl, rfl, HI⟩ := hrel
        obtain ⟨wi, hwi⟩ : ∃ wi, wi = wr := ⟨wr, rfl⟩
        subst hwi
        have hBI : Below B1 w1 wi := HBE.out.trans (HI.out.2.mono (SZ.out _ HBE.out))
        by_cases hj : i < m2
        · obtain ⟨g1, rfl⟩ : ∃ g1, gk = g1 + 1 := ⟨gk - 1, by omega⟩
          have hjI : (i : Int) < (m2 : Int) ∧ (0 : Int) ≤ (i : Int) := by omega
          obtain ⟨x, hx⟩ : ∃ x, (gainsL k)[i]? = some x := ⟨_, List.getElem?_eq_getElem (by rw [HM2.out.1]; exact hj)⟩
          have e0 : wi.cell? ⟨gg, i, none⟩ = some (.int .i64 x) := by
            have h1 := HOW.out.cellAt i (by omega)
            rw [List.getElem?_map, hx] at h1
            exact (HI.out.2.cell (p := ⟨gg, i, none⟩) (own_lt HOW.out rfl).2).trans h1
          have hxb := gainsL_le k x (List.mem_of_getElem? hx)
          have hw1 : IntKind.i64.wrap (b + x) = b + x := IntWalk.i64_in _ (by have := HV2.out; omega)
          have hw2 : IntKind.i64.wrap (8 * (b + x)) = 8 * (b + x) := IntWalk.i64_in _ (by have := HV2.out; omega)
          have HX : Hid ((fldL 1 [96] ++ ((gainsL k).take (i + 1)).flatMap fun x => fldL 1 [8 * (b + x)]) = (fldL 1 [96] ++ ((gainsL k).take i).flatMap fun x => fldL 1 [8 * (b + x)]) ++ fldL 1 [8 * (b + x)]) := Lib.hid (by rw [List.take_add_one, hx]; simp)
          have HBI := Lib.hid hBI
          clear hx hxb hBI
          go_wp2_with fail
          refine (NF.out 1 [8 * (b + x)] wi (by omega) (by simp) HBI.out).mono ?_
          rintro e wj ⟨A4, n4, c4, rfl, hy4, hb4⟩
          clear e0 hw1 hw2
          have hB4 := HBI.out.trans (hb4.mono (SZ.out _ HBI.out))
          have hse : we.heap.size ≤ wi.heap.size := HI.out.2.size
          obtain ⟨A7, n7, c7, wk, hr7, hy7, hg7⟩ := app_by (HI.out.1.below hb4) (hy4.low hse) (Nat.le_trans hse hb4.size) (by rw [List.length_append, flat1_len, fldL_len, fldL_len, List.length_take]; have := HM2.out; simp; omega)
          have KF := Lib.hid (And.intro hy7 ((HI.out.1.below hb4).bel (HI.out.2.trans (hb4.mono hse)) (Nat.le_trans hse hb4.size) hg7))
          clear hy4 hb4 hB4 hy7 hg7 hse
          go_wp2_with fail
          go_roundg g1
          case measure => omega
          case rel => exact ⟨i + 1, A7, n7, c7, by omega, rfl, by go_num, Lib.hid ⟨by rw [HX.out]; exact KF.out.1, KF.out.2⟩⟩
        · obtain rfl : i = m2 := by omega
          have hlc : ¬ (i : Int) < (i : Int) := by omega
          have hf := HI.out.1
          rw [List.take_of_length_le (by rw [HM2.out.1]; exact Nat.le_refl _)] at hf
          have HFF := Lib.hid hf
          have HBI := Lib.hid hBI
          clear hf hBI
          go_wp2
          go_ret
          exact ⟨_, rfl, by rw [HE.out.2]; unfold bandsB; rw [← HV2.out.1]; exact HFF.out.low (by have := SZ.out _ HBE.out; have := HB1.out.2; omega), by rw [HE.out.2]; exact H1.out.1.trans (HBI.out.mono (by have := HB1.out.2; omega))⟩
end Go.Proofs.Ytlbfjaifemnkpaa
