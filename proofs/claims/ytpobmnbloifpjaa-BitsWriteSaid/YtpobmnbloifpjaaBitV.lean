/- The reference's Writer of chapter 2, by its contracts: Bit and Bits. -/
import Derived.Test.YtpobmnbloifpjaaBitX
import Derived.Deep.RegionLaw
import Derived.Deep.AppendLies
set_option linter.unusedVariables false
namespace Go.Proofs.Ytpobmnbloifpjaa
open Go.RowKit

/-- The reference's writer: whole bytes; the one on its way, how many of its bits are free. -/
structure VS where
  b : List Int
  c : Int
  f : Nat
def vcur (s : VS) (x : Int) : Int := s.c + x % 2 * 2 ^ (s.f - 1)
def vtop (c : Int) : Nat := if c = 255 then 7 else 8
def vstep (s : VS) (x : Int) : VS := if s.f - 1 = 0 then ⟨s.b ++ [vcur s x], 0, vtop (vcur s x)⟩ else ⟨s.b, vcur s x, s.f - 1⟩

/-- Block q is such a Writer, all of whose blocks are of P. -/
def Vo (P : Nat → Prop) (w : World) (q : Nat) (s : VS) : Prop :=
  P q ∧ ∃ V, w.heap[q]? = some (.cells #[V, .int .i64 s.c, .int .i64 (s.f : Int)] 59 (0, 0)) ∧ w.ownsRow 0 5 1 V s.b.length (s.b.map (Value.int .u8)) ∧ ∀ k, V.ownBlock = some k → P k
theorem Vo.imp {P Q : Nat → Prop} {w : World} {q : Nat} {s : VS} (h : Vo P w q s) (hPQ : ∀ k, k < w.heap.size → P k → Q k) : Vo Q w q s := by
  obtain ⟨hp, V, hb, hv, hV⟩ := h
  exact ⟨hPQ _ (blk_lt hb) hp, V, hb, hv, fun k hk => hPQ _ (hv.lt k hk).2 (hV k hk)⟩
theorem Vo.keep {P : Nat → Prop} {w w' : World} {q : Nat} {s : VS} (h : Vo P w q s) (hs : w.heap.size ≤ w'.heap.size) (hk : ∀ k, P k → w'.heap[k]? = w.heap[k]?) : Vo P w' q s := by
  obtain ⟨hp, V, hb, hv, hV⟩ := h
  exact ⟨hp, V, (hk q hp).trans hb, ownsRow_keep hv hs (fun k h => hk k (hV k h)), hV⟩
theorem Vo.drew {P : Nat → Prop} {w : World} {q : Nat} {s : VS} (h : Vo P w q s) (n : Nat) : Vo P (w.drewN n) q s := h

theorem or64 (v x : Nat) (f : Nat) (hf : f ≤ 7) (hv : v % 2 ^ (f + 1) = 0) (hv2 : v < 256) (hx : x ≤ 1) : bits .or .i64 (v : Int) ((x * 2 ^ f : Nat) : Int) = ((v + x * 2 ^ f : Nat) : Int) := by
  have H : ∀ f : Fin 8, ∀ x : Fin 2, ∀ v : Fin 256, v.val % 2 ^ (f.val + 1) = 0 → bits .or .i64 (v.val : Int) ((x.val * 2 ^ f.val : Nat) : Int) = ((v.val + x.val * 2 ^ f.val : Nat) : Int) := by decide +kernel
  exact H ⟨f, by omega⟩ ⟨x, by omega⟩ ⟨v, hv2⟩ hv

set_option maxHeartbeats 1000000 in
theorem vnew_any (w : World) : Calls Try.prog 12 #[] w fun e w' => ∃ q, e = .returned (.pointer (some ⟨q, 0, none⟩)) ∧ Vo (fun k => w.heap.size ≤ k ∧ k < w'.heap.size) w' q ⟨[], 0, 8⟩ ∧ Below w.heap.size w w' := by
  go_enter Try.func12, Try.ntmps12
  go_wp2
  go_ret
  exact ⟨_, rfl, ⟨⟨Nat.le_refl _, by simp⟩, _, heap_alloc_new w _, World.ownsRow_nil _ _ _ _, by simp [Value.ownBlock]⟩, (Below.refl _ _).alloc (Nat.le_refl _) _⟩

set_option maxHeartbeats 4000000 in
theorem vbit_only {P : Nat → Prop} {w : World} {q : Nat} {s : VS} {b : Int} (h : Vo P w q s) (hl : s.b.length ≤ 100000) (h1 : 1 ≤ s.f) (h2 : s.f ≤ 8) (h3 : 0 ≤ s.c ∧ s.c ≤ 255) (hlow : s.c % 2 ^ s.f = 0) (hP : ∀ k, w.heap.size ≤ k → P k) :
    Calls Try.prog 15 #[.pointer (some ⟨q, 0, none⟩), .int .i64 b] w fun e w' => e = .returned (.tuple #[]) ∧ Vo P w' q (vstep s b) ∧ Only P w w' := by
  obtain ⟨i0, hi, hz0, hz1, hz2⟩ := info_parts Try.info5
  obtain ⟨B, c, f⟩ := s
  obtain ⟨k, rfl⟩ : ∃ k, f = k + 1 := ⟨f - 1, by simp at h1; omega⟩
  obtain ⟨hq, V, hb, hown, hVP⟩ := h
  simp only at hl h2 h3 hb hown hlow
  have hVq := blk_not_row hb (by decide) hown
  have hband := and_bit b
  have hx := Int.emod_nonneg b (show (2 : Int) ≠ 0 by omega)
  have hx2 := Int.emod_lt_of_pos b (show (0 : Int) < 2 by omega)
  obtain ⟨x, hxx⟩ : ∃ x : Nat, b % 2 = x := ⟨(b % 2).toNat, by omega⟩
  have hcur : vcur ⟨B, c, k + 1⟩ b = c + (x : Int) * 2 ^ k := by unfold vcur; rw [hxx]; rfl
  rw [hxx] at hband
  have hx1 : x ≤ 1 := by omega
  obtain ⟨y, hy⟩ : ∃ y, c + (x : Int) * 2 ^ k = y := ⟨_, rfl⟩
  rw [hy] at hcur
  have hyr : 0 ≤ y ∧ y ≤ 255 := by
    obtain ⟨u, rfl⟩ := Int.eq_ofNat_of_zero_le h3.1
    have hu : u % 2 ^ (k + 1) = 0 := by
      have e2 : ((2 : Int) ^ (k + 1)) = ((2 ^ (k + 1) : Nat) : Int) := by simp
      rw [e2] at hlow
      omega
    have H : ∀ f : Fin 8, ∀ x : Fin 2, ∀ v : Fin 256, v.val % 2 ^ (f.val + 1) = 0 → v.val + x.val * 2 ^ f.val ≤ 255 := by decide +kernel
    have := H ⟨k, by omega⟩ ⟨x, by omega⟩ ⟨u, by omega⟩ hu
    have e3 : (x : Int) * 2 ^ k = ((x * 2 ^ k : Nat) : Int) := by simp
    simp only at this
    rw [← hy, e3]
    omega
  have HYR := Lib.hid hyr
  clear hyr
  have hst : vstep ⟨B, c, k + 1⟩ b = if k = 0 then ⟨B ++ [y], 0, vtop y⟩ else ⟨B, y, k⟩ := by
    unfold vstep; rw [hcur]; rfl
  rw [hst]
  obtain ⟨T, hT⟩ : ∃ T : VS, (if k = 0 then ⟨B ++ [y], 0, vtop y⟩ else ⟨B, y, k⟩) = T := ⟨_, rfl⟩
  rw [hT]
  have HT := Lib.hid hT
  clear hT
  clear hx hx2 hxx hst hcur
  have c2 := blk_cell hb 2
  have z2 := blk_frozen hb 2
  simp at c2
  have hb1 := blk_set hb 2 (.int .i64 (k : Int))
  have own1 := ownsRow_setCell_other hown (a := ⟨q, 2, none⟩) hVq (.int .i64 (k : Int))
  have B1 : Only P w (w.setCell ⟨q, 2, none⟩ (.int .i64 (k : Int))) := (Only.refl _ _).setCell (p := ⟨q, 2, none⟩) hq _
  have s1 : w.heap.size ≤ (w.setCell ⟨q, 2, none⟩ (.int .i64 (k : Int))).heap.size := by simp [World.setCell]
  generalize hW1 : w.setCell ⟨q, 2, none⟩ (.int .i64 (k : Int)) = W1 at *
  have HB1 : Hid (W1.heap[q]? = some (.cells #[V, .int .i64 c, .int .i64 (k : Int)] 59 (0, 0))) := hb1
  have HO1 := Lib.hid own1
  clear hb hown hb1 own1
  have d1 := blk_cell HB1.out 1
  have d2 := blk_cell HB1.out 2
  simp at d1 d2
  go_enter Try.func15, Try.ntmps15
  go_wp2
  refine wp_region_still_tail 16 (by kernel_rfl) (by kernel_rfl) ?_
  simp only [List.take_succ_cons, List.take_zero, List.drop_succ_cons, List.drop_zero]
  repeat still_step
  refine wpStill_nil ?_
  change wpList _ _ _ _ _ W1.drew
  have hor : bits .or .i64 c (IntKind.i64.wrap ((x : Int) * 2 ^ min (IntKind.u64.wrap (k : Int)).toNat 64)) = y := by
    obtain ⟨u, rfl⟩ := Int.eq_ofNat_of_zero_le h3.1
    have p7 : (2 : Nat) ^ k ≤ 2 ^ 7 := Nat.pow_le_pow_right (by decide) (by omega)
    have p128 : (2 : Nat) ^ 7 = 128 := by decide
    have hxf : x * 2 ^ k < 256 := by
      have : x * 2 ^ k ≤ 1 * 2 ^ k := Nat.mul_le_mul_right _ hx1
      omega
    have hu : u % 2 ^ (k + 1) = 0 := by
      have e2 : ((2 : Int) ^ (k + 1)) = ((2 ^ (k + 1) : Nat) : Int) := by simp
      rw [e2] at hlow
      omega
    have e1 : IntKind.u64.wrap (k : Int) = (k : Int) := IntWalk.u64_in _ (by omega)
    have e3 : (x : Int) * 2 ^ k = ((x * 2 ^ k : Nat) : Int) := by simp
    rw [e1, Int.toNat_natCast, show min k 64 = k from by omega, e3, IntWalk.i64_in _ (by omega), or64 u x k (by omega) hu (by omega) hx1, ← hy, e3]
    rfl
  have HOR := Lib.hid hor
  have HY := Lib.hid hy
  rw [HOR.out]
  clear hor hy HOR
  have HB2 : Hid (W1.drew.heap[q]? = some (.cells #[V, .int .i64 c, .int .i64 (k : Int)] 59 (0, 0))) := HB1.out
  have HO2 : Hid (W1.drew.ownsRow 0 5 1 V B.length (B.map (Value.int .u8))) := HO1.out
  have B2 : Only P w W1.drew := only_drewN B1 1
  have s2 : w.heap.size ≤ W1.drew.heap.size := s1
  clear d1 d2 HB1 HO1 B1 s1 hband
  generalize W1.drew = W2 at *
  clear hW1 c2 z2
  have e2c := blk_cell HB2.out 1
  have e2z := blk_frozen HB2.out 1
  simp at e2c
  have e2b := blk_set HB2.out 1 (.int .i64 y)
  have e2o := ownsRow_setCell_other HO2.out (a := ⟨q, 1, none⟩) hVq (.int .i64 y)
  have B3 := B2.setCell (p := ⟨q, 1, none⟩) hq (.int .i64 y)
  generalize e2w : W2.setCell ⟨q, 1, none⟩ (.int .i64 y) = W3 at *
  have HB3 : Hid (W3.heap[q]? = some (.cells #[V, .int .i64 y, .int .i64 (k : Int)] 59 (0, 0))) := e2b
  have HO3 := Lib.hid e2o
  clear e2b e2o HB2 HO2 B2
  have s3 : w.heap.size ≤ W3.heap.size := by rw [← e2w]; simpa [World.setCell] using s2
  have d2 := blk_cell HB3.out 2
  simp at d2
  by_cases hk : k = 0
  · subst hk
    obtain rfl : T = ⟨B ++ [y], 0, vtop y⟩ := by rw [← HT.out, if_pos rfl]
    clear HT
    obtain ⟨A, cv, rfl, _, hcv, _⟩ := own_any HO3.out
    have hy8 : 0 ≤ y ∧ y ≤ 255 := HYR.out
    have hwy : IntKind.u8.wrap y = y := IntWalk.u8_in _ (by omega)
    have hn1 : B.length + 1 ≤ maxLen := by unfold maxLen; omega
    have hn2 : (B.length + 1) * 1 ≤ 140737488355328 := by omega
    have e3c := blk_cell HB3.out 2
    have e3z := blk_frozen HB3.out 2
    simp at e3c
    have e3b := blk_set HB3.out 2 (.int .i64 8)
    have e3o := ownsRow_setCell_other HO3.out (a := ⟨q, 2, none⟩) hVq (.int .i64 8)
    have B4 := B3.setCell (p := ⟨q, 2, none⟩) hq (.int .i64 8)
    generalize e3w : W3.setCell ⟨q, 2, none⟩ (.int .i64 8) = W4 at *
    have HB4 : Hid (W4.heap[q]? = some (.cells #[.slice A B.length cv, .int .i64 y, .int .i64 8] 59 (0, 0))) := e3b
    have HO4 := Lib.hid e3o
    clear e3b e3o HB3 HO3 B3
    have s4 : w.heap.size ≤ W4.heap.size := by rw [← e3w]; simpa [World.setCell] using s3
    have d14 := blk_cell HB4.out 1
    simp at d14
    by_cases hy255 : y = 255
    · have hyb : (y == 255) = true := by simpa using hy255
      have htop : vtop y = 7 := if_pos hy255
      have HTOP := Lib.hid htop
      clear hy255 htop
      have e4c := blk_cell HB4.out 2
      have e4z := blk_frozen HB4.out 2
      simp at e4c
      have e4b := blk_set HB4.out 2 (.int .i64 7)
      have e4o := ownsRow_setCell_other HO4.out (a := ⟨q, 2, none⟩) hVq (.int .i64 7)
      have B5 := B4.setCell (p := ⟨q, 2, none⟩) hq (.int .i64 7)
      generalize e4w : W4.setCell ⟨q, 2, none⟩ (.int .i64 7) = W5 at *
      have HB5 : Hid (W5.heap[q]? = some (.cells #[.slice A B.length cv, .int .i64 y, .int .i64 7] 59 (0, 0))) := e4b
      have HO5 := Lib.hid e4o
      clear e4b e4o HB4 HO4 B4
      have s5 : w.heap.size ≤ W5.heap.size := by rw [← e4w]; simpa [World.setCell] using s4
      have d0 := blk_cell HB5.out 0
      have d1 := blk_cell HB5.out 1
      have z0 := blk_frozen HB5.out 0
      simp at d0 d1
      have hq3 : q < W5.heap.size := blk_lt HB5.out
      have zA : (W5.alloc (Obj.cells #[Value.int IntKind.u8 y] 5)).drew.frozen? ⟨q, 0, none⟩ = false := (World.frozen?_of_block (w := W5) (Below.heap_alloc W5 _ q hq3)).trans z0
      have xA : (W5.alloc (Obj.cells #[Value.int IntKind.u8 y] 5)).drew.cell? ⟨q, 0, none⟩ = some (.slice A B.length cv) := (World.cell?_of_block (w := W5) (Below.heap_alloc W5 _ q hq3)).trans d0
      go_wp2
      go_region_law
        ((refine step_append_lies _ (by rfl) _ _ _ (by rfl) 0 5 i0 _ 1 1 Try.underlying31 hi hz0 hz1 hz2 rfl (by omega) (.slice A B.length cv) B.length (B.map (Value.int .u8)) (by rfl) ((HO5.out.alloc _).drew)
               ⟨W5.heap.size, 0, none⟩ 1 1 [.int .u8 y] (by rfl) (by rfl) (World.news_of_block (cs := #[.int .u8 y]) (t := 5) (fr := (0, 0)) (heap_alloc_new W5 _)) (by simp [Value.oneCell'])
               (by omega) hn1 hn2 (Nat.zero_le _) (W5.heap.size + 1) (by simp) ?_; intro g4 c4 X4 hown4 hgrow hat4 hlt4; have x0 := (hgrow.cell_far ⟨q, 0, none⟩ (by simp; omega) (Ne.symm hVq)).trans xA; have x1 := (hgrow.frozen_far ⟨q, 0, none⟩ (by simp; omega) (Ne.symm hVq)).trans zA))
      all_goals
        have hb4 : X4.heap[q]? = some (.cells #[.slice A B.length cv, .int .i64 y, .int .i64 7] 59 (0, 0)) := (hgrow.block q (by simp; omega) (Ne.symm hVq)).trans ((Below.heap_alloc W5 _ q hq3).trans HB5.out)
        have BX : Only P w X4 := ((B5.alloc (hP _ s5) (Obj.cells #[Value.int IntKind.u8 y] 5)).trans (only_drewN (Only.refl _ _) 1)).grown hgrow (fun k hk => hP k (Nat.le_trans (Nat.le_trans s5 (by simp)) hk)) (fun k hk => hVP k hk)
        have hg4 : P g4 := by
          rcases hat4 with e | e
          · exact hVP g4 e
          · rw [e]; exact hP _ (by omega)
        have hg4q : (Value.slice (some ⟨g4, 0, none⟩) (B.length + 1) c4).ownBlock ≠ some q := blk_not_row hb4 (by decide) hown4
        have e4m : B.map (Value.int .u8) ++ [Value.int .u8 y] = (B ++ [y]).map (Value.int .u8) := by simp
        rw [e4m] at hown4
        have HB14 := Lib.hid hb4
        have HO14 := Lib.hid hown4
        have B14 := BX
        clear hb4 hown4 e4m hgrow hat4 hlt4 HB5 HO5 B5 xA zA BX
        have e14c := blk_cell HB14.out 0
        have e14z := blk_frozen HB14.out 0
        simp at e14c
        have e14b := blk_set HB14.out 0 (.slice (some ⟨g4, 0, none⟩) (B.length + 1) c4)
        have e14o := ownsRow_setCell_other HO14.out (a := ⟨q, 0, none⟩) hg4q (.slice (some ⟨g4, 0, none⟩) (B.length + 1) c4)
        have B15 := B14.setCell (p := ⟨q, 0, none⟩) hq (.slice (some ⟨g4, 0, none⟩) (B.length + 1) c4)
        generalize e14w : X4.setCell ⟨q, 0, none⟩ (.slice (some ⟨g4, 0, none⟩) (B.length + 1) c4) = X5 at *
        have HB15 : Hid (X5.heap[q]? = some (.cells #[.slice (some ⟨g4, 0, none⟩) (B.length + 1) c4, .int .i64 y, .int .i64 7] 59 (0, 0))) := e14b
        have HO15 := Lib.hid e14o
        clear e14b e14o HB14 HO14 B14
        have e15c := blk_cell HB15.out 1
        have e15z := blk_frozen HB15.out 1
        simp at e15c
        have e15b := blk_set HB15.out 1 (.int .i64 0)
        have e15o := ownsRow_setCell_other HO15.out (a := ⟨q, 1, none⟩) hg4q (.int .i64 0)
        have B16 := B15.setCell (p := ⟨q, 1, none⟩) hq (.int .i64 0)
        generalize e15w : X5.setCell ⟨q, 1, none⟩ (.int .i64 0) = X6 at *
        have HB16 : Hid (X6.heap[q]? = some (.cells #[.slice (some ⟨g4, 0, none⟩) (B.length + 1) c4, .int .i64 0, .int .i64 7] 59 (0, 0))) := e15b
        have HO16 := Lib.hid e15o
        clear e15b e15o HB15 HO15 B15
        go_wp2
        go_end0
        refine ⟨rfl, ⟨hq, .slice (some ⟨g4, 0, none⟩) (B.length + 1) c4, ?_, ?_, fun k hk => by injection hk with hk; rw [← hk]; exact hg4⟩, B16⟩
        · rw [HTOP.out]; exact HB16.out
        · rw [show (B ++ [y]).length = B.length + 1 from by simp]; exact HO16.out
    · have hyb : (y == 255) = false := by simpa using hy255
      have htop : vtop y = 8 := if_neg hy255
      have HTOP := Lib.hid htop
      clear hy255 htop
      have d0 := blk_cell HB4.out 0
      have d1 := blk_cell HB4.out 1
      have z0 := blk_frozen HB4.out 0
      simp at d0 d1
      have hq3 : q < W4.heap.size := blk_lt HB4.out
      have zA : (W4.alloc (Obj.cells #[Value.int IntKind.u8 y] 5)).drew.frozen? ⟨q, 0, none⟩ = false := (World.frozen?_of_block (w := W4) (Below.heap_alloc W4 _ q hq3)).trans z0
      have xA : (W4.alloc (Obj.cells #[Value.int IntKind.u8 y] 5)).drew.cell? ⟨q, 0, none⟩ = some (.slice A B.length cv) := (World.cell?_of_block (w := W4) (Below.heap_alloc W4 _ q hq3)).trans d0
      go_wp2
      go_region_law
        ((refine step_append_lies _ (by rfl) _ _ _ (by rfl) 0 5 i0 _ 1 1 Try.underlying31 hi hz0 hz1 hz2 rfl (by omega) (.slice A B.length cv) B.length (B.map (Value.int .u8)) (by rfl) ((HO4.out.alloc _).drew)
               ⟨W4.heap.size, 0, none⟩ 1 1 [.int .u8 y] (by rfl) (by rfl) (World.news_of_block (cs := #[.int .u8 y]) (t := 5) (fr := (0, 0)) (heap_alloc_new W4 _)) (by simp [Value.oneCell'])
               (by omega) hn1 hn2 (Nat.zero_le _) (W4.heap.size + 1) (by simp) ?_; intro g4 c4 X4 hown4 hgrow hat4 hlt4; have x0 := (hgrow.cell_far ⟨q, 0, none⟩ (by simp; omega) (Ne.symm hVq)).trans xA; have x1 := (hgrow.frozen_far ⟨q, 0, none⟩ (by simp; omega) (Ne.symm hVq)).trans zA))
      all_goals
        have hb4 : X4.heap[q]? = some (.cells #[.slice A B.length cv, .int .i64 y, .int .i64 8] 59 (0, 0)) := (hgrow.block q (by simp; omega) (Ne.symm hVq)).trans ((Below.heap_alloc W4 _ q hq3).trans HB4.out)
        have BX : Only P w X4 := ((B4.alloc (hP _ s4) (Obj.cells #[Value.int IntKind.u8 y] 5)).trans (only_drewN (Only.refl _ _) 1)).grown hgrow (fun k hk => hP k (Nat.le_trans (Nat.le_trans s4 (by simp)) hk)) (fun k hk => hVP k hk)
        have hg4 : P g4 := by
          rcases hat4 with e | e
          · exact hVP g4 e
          · rw [e]; exact hP _ (by omega)
        have hg4q : (Value.slice (some ⟨g4, 0, none⟩) (B.length + 1) c4).ownBlock ≠ some q := blk_not_row hb4 (by decide) hown4
        have e4m : B.map (Value.int .u8) ++ [Value.int .u8 y] = (B ++ [y]).map (Value.int .u8) := by simp
        rw [e4m] at hown4
        have HB14 := Lib.hid hb4
        have HO14 := Lib.hid hown4
        have B14 := BX
        clear hb4 hown4 e4m hgrow hat4 hlt4 HB4 HO4 B4 xA zA BX
        have e14c := blk_cell HB14.out 0
        have e14z := blk_frozen HB14.out 0
        simp at e14c
        have e14b := blk_set HB14.out 0 (.slice (some ⟨g4, 0, none⟩) (B.length + 1) c4)
        have e14o := ownsRow_setCell_other HO14.out (a := ⟨q, 0, none⟩) hg4q (.slice (some ⟨g4, 0, none⟩) (B.length + 1) c4)
        have B15 := B14.setCell (p := ⟨q, 0, none⟩) hq (.slice (some ⟨g4, 0, none⟩) (B.length + 1) c4)
        generalize e14w : X4.setCell ⟨q, 0, none⟩ (.slice (some ⟨g4, 0, none⟩) (B.length + 1) c4) = X5 at *
        have HB15 : Hid (X5.heap[q]? = some (.cells #[.slice (some ⟨g4, 0, none⟩) (B.length + 1) c4, .int .i64 y, .int .i64 8] 59 (0, 0))) := e14b
        have HO15 := Lib.hid e14o
        clear e14b e14o HB14 HO14 B14
        have e15c := blk_cell HB15.out 1
        have e15z := blk_frozen HB15.out 1
        simp at e15c
        have e15b := blk_set HB15.out 1 (.int .i64 0)
        have e15o := ownsRow_setCell_other HO15.out (a := ⟨q, 1, none⟩) hg4q (.int .i64 0)
        have B16 := B15.setCell (p := ⟨q, 1, none⟩) hq (.int .i64 0)
        generalize e15w : X5.setCell ⟨q, 1, none⟩ (.int .i64 0) = X6 at *
        have HB16 : Hid (X6.heap[q]? = some (.cells #[.slice (some ⟨g4, 0, none⟩) (B.length + 1) c4, .int .i64 0, .int .i64 8] 59 (0, 0))) := e15b
        have HO16 := Lib.hid e15o
        clear e15b e15o HB15 HO15 B15
        go_wp2
        go_end0
        refine ⟨rfl, ⟨hq, .slice (some ⟨g4, 0, none⟩) (B.length + 1) c4, ?_, ?_, fun k hk => by injection hk with hk; rw [← hk]; exact hg4⟩, B16⟩
        · rw [HTOP.out]; exact HB16.out
        · rw [show (B ++ [y]).length = B.length + 1 from by simp]; exact HO16.out
  · obtain rfl : T = ⟨B, y, k⟩ := by rw [← HT.out, if_neg hk]
    have hkb : ((k : Int) == 0) = false := by simpa using hk
    go_wp2
    go_end0
    exact ⟨rfl, ⟨hq, V, HB3.out, HO3.out, hVP⟩, B3⟩
end Go.Proofs.Ytpobmnbloifpjaa
