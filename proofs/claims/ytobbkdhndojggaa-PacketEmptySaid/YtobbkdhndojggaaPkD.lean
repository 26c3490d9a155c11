/- packet: Encode, of Bands that have nothing. -/
import Derived.Test.YtobbkdhndojggaaPkC
import Derived.Test.YtobbkdhndojggaaBitQ
set_option linter.unusedVariables false
set_option linter.unusedSimpArgs false
namespace Go.Proofs.Ytobbkdhndojggaa
open Go.RowKit
set_option maxRecDepth 100000
/-- While Encode makes its writer, in any order. -/
structure E3 (WX w' : World) (B : Nat) (l0 l5 l6 l7 : Bool) (bw zb yb : Nat) (st of ly : Int) : Prop where
  bel : Below B WX w'
  sz : B ≤ w'.heap.size
  w0 : l0 = true → ∃ lo hi, Wb (fun k => lo ≤ k ∧ k < hi) w' bw [] 0 ∧ B ≤ lo ∧ hi ≤ w'.heap.size ∧ (l5 = true → hi ≤ zb) ∧ (l6 = true → yb < lo ∨ hi ≤ yb)
  z5 : l5 = true → WHead w' zb bw st of ly ∧ B ≤ zb
  y6 : l6 = true → (∃ v, w'.heap[yb]? = some (.cells #[v] 90 (0, 0)) ∧ (l7 = true → v = .pointer (some ⟨zb, 0, none⟩))) ∧ B ≤ yb ∧ (l5 = true → yb ≠ zb)
section
variable {WX w' w2 : World} {B : Nat} {l0 l5 l6 l7 : Bool} {bw zb yb p : Nat} {st of ly : Int}
theorem whead_keep {w w' : World} {wp bw : Nat} {st of ly : Int} (h : WHead w wp bw st of ly) (hk : w'.heap[wp]? = w.heap[wp]?) : WHead w' wp bw st of ly := by
  unfold WHead at h ⊢
  exact hk.trans h
theorem E3.new (h : E3 WX w' B false false l6 false bw zb yb st of ly) (hw : Wb (fun k => w'.heap.size ≤ k ∧ k < w2.heap.size) w2 p [] 0) (hb : Below w'.heap.size w' w2) : E3 WX w2 B true false l6 false p zb yb st of ly where
  bel := h.bel.trans (hb.mono h.sz)
  sz := Nat.le_trans h.sz hb.size
  w0 := fun _ => ⟨_, _, hw, h.sz, Nat.le_refl _, fun e => (by cases e), fun e => by
    obtain ⟨⟨v, hv, _⟩, _⟩ := h.y6 e
    exact .inl (blk_lt hv)⟩
  z5 := fun e => by cases e
  y6 := fun e => by
    obtain ⟨⟨v, hv, _⟩, h2, _⟩ := h.y6 e
    exact ⟨⟨v, (hb.block _ (blk_lt hv)).trans hv, fun e => (by cases e)⟩, h2, fun e => (by cases e)⟩
theorem E3.box (h : E3 WX w' B true false l6 false bw zb yb st of ly) : E3 WX (w'.alloc (Obj.cells #[.pointer (some ⟨bw, 0, none⟩), .int .i64 st, .int .i64 of, .int .i64 ly, .slice none 0 0] 94)) B true true l6 false bw w'.heap.size yb st of ly where
  bel := h.bel.alloc h.sz _
  sz := by simp; have := h.sz; omega
  w0 := fun _ => by
    obtain ⟨lo, hi, h1, h2, h3, _, h5⟩ := h.w0 rfl
    exact ⟨lo, hi, h1.keep (by simp) (fun k hk => Below.heap_alloc _ _ _ (by omega)), h2, by simp; omega, fun _ => h3, h5⟩
  z5 := fun _ => ⟨World.alloc_heap_new w' _, h.sz⟩
  y6 := fun e => by
    obtain ⟨⟨v, hv, _⟩, h2, _⟩ := h.y6 e
    have := blk_lt hv
    exact ⟨⟨v, (Below.heap_alloc _ _ _ this).trans hv, fun e => (by cases e)⟩, h2, fun _ => by omega⟩
theorem E3.all (h : E3 WX w' B l0 l5 false false bw zb yb st of ly) (v : Value) : E3 WX (w'.alloc (Obj.cells #[v] 90)) B l0 l5 true false bw zb w'.heap.size st of ly where
  bel := h.bel.alloc h.sz _
  sz := by simp; have := h.sz; omega
  w0 := fun e => by
    obtain ⟨lo, hi, h1, h2, h3, h4, _⟩ := h.w0 e
    exact ⟨lo, hi, h1.keep (by simp) (fun k hk => Below.heap_alloc _ _ _ (by omega)), h2, by simp; omega, h4, fun _ => .inr h3⟩
  z5 := fun e => by
    obtain ⟨h1, h2⟩ := h.z5 e
    exact ⟨whead_keep h1 (Below.heap_alloc _ _ _ (blk_lt (by unfold WHead at h1; exact h1))), h2⟩
  y6 := fun _ => ⟨⟨v, World.alloc_heap_new w' _, fun e => (by cases e)⟩, h.sz, fun e => by
    obtain ⟨h1, _⟩ := h.z5 e
    have := blk_lt (by unfold WHead at h1; exact h1)
    omega⟩
theorem E3.put (h : E3 WX w' B true true true false bw zb yb st of ly) : E3 WX (w'.setCell ⟨yb, 0, none⟩ (.pointer (some ⟨zb, 0, none⟩))) B true true true true bw zb yb st of ly where
  bel := h.bel.setCell (p := ⟨yb, 0, none⟩) (h.y6 rfl).2.1 _
  sz := by simp [World.setCell]; exact h.sz
  w0 := fun _ => by
    obtain ⟨lo, hi, h1, h2, h3, h4, h5⟩ := h.w0 rfl
    have hy := h5 rfl
    exact ⟨lo, hi, h1.keep (by simp [World.setCell]) (fun k hk => Below.heap_setCell _ _ _ _ (by simp; omega)), h2, by simpa [World.setCell] using h3, h4, h5⟩
  z5 := fun _ => by
    obtain ⟨h1, h2⟩ := h.z5 rfl
    have hne := (h.y6 rfl).2.2 rfl
    exact ⟨whead_keep h1 (Below.heap_setCell _ _ _ _ (by simp; omega)), h2⟩
  y6 := fun _ => by
    obtain ⟨⟨v, hv, _⟩, h2, h3⟩ := h.y6 rfl
    exact ⟨⟨_, blk_set hv 0 _, fun _ => rfl⟩, h2, h3⟩
theorem E3.y (h : E3 WX w' B l0 l5 true l7 bw zb yb st of ly) : ∃ v, w'.cell? ⟨yb, 0, none⟩ = some v ∧ w'.frozen? ⟨yb, 0, none⟩ = false := by
  obtain ⟨⟨v, hv, _⟩, _⟩ := h.y6 rfl
  exact ⟨v, blk_cell hv 0, blk_frozen hv 0⟩
end
theorem own_mono9 {w : World} {base base' : Nat} {e : TypeId} {size n : Nat} {v : Value} {xs : List Value} (h : w.ownsRow base e size v n xs) (hb : base' ≤ base) : w.ownsRow base' e size v n xs := by
  refine ⟨h.1, ?_⟩
  rcases h.2 with h | ⟨g, cap, cur, hv, hg, r⟩
  · exact Or.inl h
  · exact Or.inr ⟨g, cap, cur, hv, by omega, r⟩
theorem enc_bit : wstep ([], 0) 0 = ([0], 7) := by decide
set_option maxHeartbeats 8000000 in
set_option pp.deepTerms true in
set_option pp.maxSteps 10000000 in
theorem encode0 (A pb ib n of ly : Nat) (pl st : Int) (w : World) (hh : BHead w pb ib n pl) (hi : BItems w ib n) (hA : w.cell? ⟨A, 0, none⟩ = some (.pointer (some ⟨pb, 0, none⟩))) (hn : n ≤ 5000) (hof : 1 ≤ of ∧ of ≤ 1000) (hly : ly + 1 ≤ 1000) :
    Calls Try.prog 13 #[.slice (some ⟨A, 0, none⟩) 1 1, .int .i64 st, .int .i64 (of : Int), .int .i64 (ly : Int)] w fun e w' => ∃ v, e = .returned (.tuple #[v, .slice none 0 0]) ∧ w'.ownsRow w.heap.size 5 1 v 1 [.int .u8 0] ∧ Below w.heap.size w w' := by
  have hofl : ¬ (65536 : Int) < (of : Int) := by omega
  have hpl := hh.lt
  have hil := hi.lt
  have hal : A < w.heap.size := World.block_lt_of_cell? w _ hA
  go_enter Try.func13, Try.ntmps13
  obtain ⟨W1, hW1⟩ : ∃ W1, w.alloc (Obj.cells #[.int .i64 (of : Int)] 3) = W1 := ⟨_, rfl⟩
  have b1 : W1.heap[w.heap.size]? = some (.cells #[.int .i64 (of : Int)] 3 (0, 0)) := by rw [← hW1]; exact World.alloc_heap_new w _
  have hs1 : W1.heap.size = w.heap.size + 1 := by rw [← hW1]; simp
  have hB1 : Below w.heap.size w W1 := by rw [← hW1]; exact (Below.refl _ w).alloc (Nat.le_refl _) _
  have c1 : W1.cell? ⟨w.heap.size, 0, none⟩ = some (.int .i64 (of : Int)) := blk_cell b1 0
  go_wp2_with fail
  clear hW1
  obtain ⟨WX, hWX⟩ : ∃ WX, W1.drew = WX := ⟨_, rfl⟩
  have HX := Lib.hid hWX
  have cX : WX.cell? ⟨w.heap.size, 0, none⟩ = some (.int .i64 (of : Int)) := by rw [← hWX]; exact c1
  have hsX : WX.heap.size = w.heap.size + 1 := by rw [← hWX]; exact hs1
  have hBX : Below w.heap.size w WX := by rw [← hWX]; exact below_drewN hB1 1
  have HCX := Lib.hid cX
  have HBX := Lib.hid hBX
  have HSX := Lib.hid hsX
  have HH := Lib.hid hh
  have HI := Lib.hid hi
  have HAA := Lib.hid hA
  clear hWX cX hsX hBX b1 hB1 c1 hh hi hA
  refine (wpIn_wide (n := 9)).1 (regionIn_inv (w := W1) (Inv := fun L a' w' => ∃ (bw : Nat) (zb : Nat) (yb : Nat), a' = { tmps := #[.slice (some ⟨A, 0, none⟩) 1 1, .int .i64 st, .int .i64 (of : Int), .int .i64 (ly : Int), undef, undef, .pointer (some ⟨w.heap.size, 0, none⟩), undef, .slice none 0 0, .slice none 0 0, bif L 6 then .pointer (some ⟨yb, 0, none⟩) else undef, undef, undef, .int .i64 (of : Int), .bool false, bif L 0 then .pointer (some ⟨bw, 0, none⟩) else undef, bif L 1 then .int .i64 st else undef, bif L 2 then .int .i64 (of : Int) else undef, bif L 3 then .int .i64 (ly : Int) else undef, bif L 4 then .agg #[.pointer (some ⟨bw, 0, none⟩), .int .i64 st, .int .i64 (of : Int), .int .i64 (ly : Int), .slice none 0 0] else undef, bif L 5 then .pointer (some ⟨zb, 0, none⟩) else undef, undef, undef, undef, undef, undef, undef, undef, undef, undef, undef, undef, undef, undef, undef, undef, undef, undef, undef, undef, undef, undef, undef, undef, undef, undef, undef, undef, undef, undef, undef, undef, undef, undef, undef, undef, undef, undef, undef, undef], defers := [] } ∧ E3 WX w' (w.heap.size + 1) (L 0) (L 5) (L 6) (L 7) bw zb yb st of ly) (by kernel_rfl) (by kernel_rfl) ?start3 ?step3 ?fin3)
  case start3 => exact ⟨0, 0, 0, rfl, by rw [HX.out]; exact ⟨Below.refl _ _, by rw [HSX.out]; exact Nat.le_refl _, fun e => (by cases e), fun e => (by cases e), fun e => (by cases e)⟩⟩
  case step3 =>
    intro i hi L a' w' hI hs hu
    obtain ⟨bw, zb, yb, rfl, hph⟩ := hI
    have hL := hu.1
    have hi : i < 8 := hi
    obtain rfl | rfl | rfl | rfl | rfl | rfl | rfl | rfl := (by omega : i = 0 ∨ i = 1 ∨ i = 2 ∨ i = 3 ∨ i = 4 ∨ i = 5 ∨ i = 6 ∨ i = 7)
    · skip
      have n4 : L 4 = false := not_yet hL fun h => shut_at hs 4 0 (by kernel_rfl) (h)
      have n5 : L 5 = false := not_yet hL fun h => shut_at hs 4 0 (by kernel_rfl) (shut_at hs 5 4 (by kernel_rfl) (h))
      have n7 : L 7 = false := not_yet hL fun h => shut_at hs 7 0 (by kernel_rfl) (h)
      try simp only [n4, n5, n7, hL, cond_true, cond_false] at hph
      refine opIn_call (f := 34) (args := #[]) (w' := w') rfl rfl (fun c h => by cases h) (fun _ => trivial) rfl ?_ ((callsIn_wide.2 (bnew_any w')).mono ?_)
      · simp only [n4, n5, n7, hL, cond_true, cond_false]
        go_simp
      · rintro e w2 ⟨p, rfl, hwb, hb2⟩
        exact ⟨_, rfl, p, zb, yb, by simp [Act.put, upd, n4, n5, n7, hL], by simpa [upd, n4, n5, n7, hL] using hph.new hwb hb2⟩
    · skip
      have n4 : L 4 = false := not_yet hL fun h => shut_at hs 4 1 (by kernel_rfl) (h)
      have n5 : L 5 = false := not_yet hL fun h => shut_at hs 4 1 (by kernel_rfl) (shut_at hs 5 4 (by kernel_rfl) (h))
      have n7 : L 7 = false := not_yet hL fun h => shut_at hs 7 1 (by kernel_rfl) (h)
      refine opIn_run (v := .int .i64 st) (w' := w') rfl rfl (fun c h => by cases h) (fun _ => trivial) ?_ ⟨bw, zb, yb, by simp [Act.put, upd, n4, n5, n7, hL], by simpa [upd] using hph⟩
      simp only [n4, n5, n7, hL, cond_true, cond_false]
      go_simp
    · skip
      have n4 : L 4 = false := not_yet hL fun h => shut_at hs 4 2 (by kernel_rfl) (h)
      have n5 : L 5 = false := not_yet hL fun h => shut_at hs 4 2 (by kernel_rfl) (shut_at hs 5 4 (by kernel_rfl) (h))
      have n7 : L 7 = false := not_yet hL fun h => shut_at hs 7 2 (by kernel_rfl) (h)
      try simp only [n4, n5, n7, hL, cond_true, cond_false] at hph
      have g0 : w'.cell? ⟨w.heap.size, 0, none⟩ = some (.int .i64 (of : Int)) := (hph.bel.cell (p := ⟨w.heap.size, 0, none⟩) (by show w.heap.size < w.heap.size + 1; omega)).trans HCX.out
      refine opIn_run (v := .int .i64 (of : Int)) (w' := w') rfl rfl (fun c h => by cases h) (fun _ => trivial) ?_ ⟨bw, zb, yb, by simp [Act.put, upd, n4, n5, n7, hL], by simpa [upd, n4, n5, n7, hL] using hph⟩
      simp only [n4, n5, n7, hL, cond_true, cond_false]
      clear hph; go_simp
    · skip
      have n4 : L 4 = false := not_yet hL fun h => shut_at hs 4 3 (by kernel_rfl) (h)
      have n5 : L 5 = false := not_yet hL fun h => shut_at hs 4 3 (by kernel_rfl) (shut_at hs 5 4 (by kernel_rfl) (h))
      have n7 : L 7 = false := not_yet hL fun h => shut_at hs 7 3 (by kernel_rfl) (h)
      refine opIn_run (v := .int .i64 (ly : Int)) (w' := w') rfl rfl (fun c h => by cases h) (fun _ => trivial) ?_ ⟨bw, zb, yb, by simp [Act.put, upd, n4, n5, n7, hL], by simpa [upd] using hph⟩
      simp only [n4, n5, n7, hL, cond_true, cond_false]
      go_simp
    · skip
      have y0 : L 0 = true := up_at hu 0 (by kernel_rfl)
      have y1 : L 1 = true := up_at hu 1 (by kernel_rfl)
      have y2 : L 2 = true := up_at hu 2 (by kernel_rfl)
      have y3 : L 3 = true := up_at hu 3 (by kernel_rfl)
      have n5 : L 5 = false := not_yet hL fun h => shut_at hs 5 4 (by kernel_rfl) (h)
      have n7 : L 7 = false := not_yet hL fun h => shut_at hs 7 4 (by kernel_rfl) (h)
      refine opIn_run (v := .agg #[.pointer (some ⟨bw, 0, none⟩), .int .i64 st, .int .i64 (of : Int), .int .i64 (ly : Int), .slice none 0 0]) (w' := w') rfl rfl (fun c h => by cases h) (fun _ => trivial) ?_ ⟨bw, zb, yb, by simp [Act.put, upd, y0, y1, y2, y3, n5, n7, hL], by simpa [upd] using hph⟩
      simp only [y0, y1, y2, y3, n5, n7, hL, cond_true, cond_false]
      go_simp
    · skip
      have y0 : L 0 = true := shut_at hs 4 0 (by kernel_rfl) (up_at hu 4 (by kernel_rfl))
      have y1 : L 1 = true := shut_at hs 4 1 (by kernel_rfl) (up_at hu 4 (by kernel_rfl))
      have y2 : L 2 = true := shut_at hs 4 2 (by kernel_rfl) (up_at hu 4 (by kernel_rfl))
      have y3 : L 3 = true := shut_at hs 4 3 (by kernel_rfl) (up_at hu 4 (by kernel_rfl))
      have y4 : L 4 = true := up_at hu 4 (by kernel_rfl)
      have n7 : L 7 = false := not_yet hL fun h => shut_at hs 7 5 (by kernel_rfl) (h)
      try simp only [y0, y1, y2, y3, y4, n7, hL, cond_true, cond_false] at hph
      refine opIn_run (v := .pointer (some ⟨w'.heap.size, 0, none⟩)) (w' := w'.alloc (Obj.cells #[.pointer (some ⟨bw, 0, none⟩), .int .i64 st, .int .i64 (of : Int), .int .i64 (ly : Int), .slice none 0 0] 94)) rfl rfl (fun c h => by cases h) (fun _ => trivial) ?_ ⟨bw, w'.heap.size, yb, by simp [Act.put, upd, y0, y1, y2, y3, y4, n7, hL], by simpa [upd, y0, y1, y2, y3, y4, n7, hL] using hph.box⟩
      simp only [y0, y1, y2, y3, y4, n7, hL, cond_true, cond_false]
      clear hph
      go_simp
    · skip
      have n7 : L 7 = false := not_yet hL fun h => shut_at hs 7 6 (by kernel_rfl) (h)
      try simp only [n7, hL, cond_true, cond_false] at hph
      refine opIn_run (v := .pointer (some ⟨w'.heap.size, 0, none⟩)) (w' := w'.alloc (Obj.cells #[.pointer none] 90)) rfl rfl (fun c h => by cases h) (fun _ => trivial) ?_ ⟨bw, zb, w'.heap.size, by simp [Act.put, upd, n7, hL], by simpa [upd, n7, hL] using hph.all (.pointer none)⟩
      simp only [n7, hL, cond_true, cond_false]
      clear hph
      go_simp
    · skip
      have y0 : L 0 = true := up_at hu 0 (by kernel_rfl)
      have y1 : L 1 = true := up_at hu 1 (by kernel_rfl)
      have y2 : L 2 = true := up_at hu 2 (by kernel_rfl)
      have y3 : L 3 = true := up_at hu 3 (by kernel_rfl)
      have y4 : L 4 = true := up_at hu 4 (by kernel_rfl)
      have y5 : L 5 = true := up_at hu 5 (by kernel_rfl)
      have y6 : L 6 = true := up_at hu 6 (by kernel_rfl)
      try simp only [y0, y1, y2, y3, y4, y5, y6, hL, cond_true, cond_false] at hph
      obtain ⟨v0, q0, q1⟩ := hph.y
      refine opIn_skip (w' := w'.setCell ⟨yb, 0, none⟩ (.pointer (some ⟨zb, 0, none⟩))) rfl rfl (fun c h => by cases h) (fun _ => trivial) ?_ ⟨bw, zb, yb, by simp [Act.put, upd, y0, y1, y2, y3, y4, y5, y6, hL], by simpa [upd, y0, y1, y2, y3, y4, y5, y6, hL] using hph.put⟩
      simp only [y0, y1, y2, y3, y4, y5, y6, hL, cond_true, cond_false]
      clear hph
      go_simp
  case fin3 =>
    intro L a' w' hall hI
    obtain ⟨bw, zb, yb, rfl, hph⟩ := hI
    have l0 := hall 0 (by decide)
    have l1 := hall 1 (by decide)
    have l2 := hall 2 (by decide)
    have l3 := hall 3 (by decide)
    have l4 := hall 4 (by decide)
    have l5 := hall 5 (by decide)
    have l6 := hall 6 (by decide)
    have l7 := hall 7 (by decide)
    simp only [l0, l1, l2, l3, l4, l5, l6, l7, cond_true] at hph ⊢
    clear l0 l1 l2 l3 l4 l5 l6 l7 hall
    obtain ⟨lo, hi, q1, q2, q3, q4, q5⟩ := hph.w0 rfl
    obtain ⟨z1, z2⟩ := hph.z5 rfl
    obtain ⟨⟨v, y1, y2⟩, y3, y4⟩ := hph.y6 rfl
    obtain rfl := y2 rfl
    have hz4 := q4 rfl
    have hy5 := q5 rfl
    have hne := y4 rfl
    have hzl : zb < w'.heap.size := blk_lt (by unfold WHead at z1; exact z1)
    have hyl := blk_lt y1
    have HB3 : Hid (Below w.heap.size w w') := Lib.hid (HBX.out.trans (hph.bel.mono (by omega)))
    have HW3 := Lib.hid q1
    have HZ3 := Lib.hid z1
    have HY3 := Lib.hid y1
    have hbs := HB3.out.size
    clear q1 q4 q5 z1 y1 y2 y4 hph
    have k0 : w'.cell? ⟨yb, 0, none⟩ = some (.pointer (some ⟨zb, 0, none⟩)) := blk_cell HY3.out 0
    have AN := Lib.hid (anything0 zb bw A pb ib n of ly pl st w' (HH.out.keep (HB3.out.block _ hpl)) (HI.out.keep (HB3.out.block _ hil)) HZ3.out ((HB3.out.cell (p := ⟨A, 0, none⟩) hal).trans HAA.out) hn hof hly)
    go_wp2_with fail
    refine AN.out.mono ?_
    rintro e w3 ⟨rfl, hb3⟩
    have hs3 := hb3.size
    have HY4 : Hid (w3.heap[yb]? = some (.cells #[.pointer (some ⟨zb, 0, none⟩)] 90 (0, 0))) := Lib.hid ((hb3.block _ hyl).trans HY3.out)
    have HZ4 := Lib.hid (whead_keep HZ3.out (hb3.block _ hzl))
    have HW4 : Hid (Wb (fun k => (lo ≤ k ∧ k < hi) ∨ w3.heap.size ≤ k) w3 bw (([] : List Int), (0 : Nat)).1 (([] : List Int), (0 : Nat)).2) := Lib.hid ((HW3.out.keep hs3 (fun k hk => hb3.block _ (by omega))).imp fun k _ hk => .inl hk)
    have HB4 := Lib.hid (HB3.out.trans (hb3.mono hbs))
    clear hb3 AN HY3 HZ3 HW3 HB3 k0
    have k0 : w3.cell? ⟨yb, 0, none⟩ = some (.pointer (some ⟨zb, 0, none⟩)) := blk_cell HY4.out 0
    have k1 : w3.cell? ⟨zb, 0, none⟩ = some (.pointer (some ⟨bw, 0, none⟩)) := by have := HZ4.out; unfold WHead at this; exact blk_cell this 0
    have WB := Lib.hid (wb_bit (b := 0) HW4.out (wrun_ok []) (by simp) (fun k hk => .inr hk))
    rw [enc_bit] at WB
    go_wp2_with fail
    refine WB.out.mono ?_
    rintro e w4 ⟨rfl, hw4, ho4⟩
    have hs4 := ho4.size
    have HY5 : Hid (w4.heap[yb]? = some (.cells #[.pointer (some ⟨zb, 0, none⟩)] 90 (0, 0))) := Lib.hid ((ho4.block _ (by omega)).trans HY4.out)
    have HZ5 := Lib.hid (whead_keep HZ4.out (ho4.block _ (by omega)))
    have HB5 : Hid (Below w.heap.size w w4) := Lib.hid (HB4.out.trans (ho4.below (fun k hk => by omega)))
    have BY := Lib.hid (wb_bytes hw4 (by simp))
    clear k0 k1 hw4 ho4 WB HY4 HZ4 HW4
    have k0 : w4.cell? ⟨yb, 0, none⟩ = some (.pointer (some ⟨zb, 0, none⟩)) := blk_cell HY5.out 0
    have k1 : w4.cell? ⟨zb, 0, none⟩ = some (.pointer (some ⟨bw, 0, none⟩)) := by have := HZ5.out; unfold WHead at this; exact blk_cell this 0
    go_wp2_with fail
    refine BY.out.mono ?_
    rintro e w5 ⟨v, rfl, ho5, hb5⟩
    have hs5 := HB5.out.size
    have HO5 : Hid (w5.ownsRow w.heap.size 5 1 v 1 [.int .u8 0]) := Lib.hid (by
      have h : bytesF [0] = [0] := by decide
      simp only [h] at ho5
      exact own_mono9 ho5 hs5)
    have HB6 := Lib.hid (HB5.out.trans (hb5.mono hs5))
    clear ho5 hb5 BY k0 k1
    go_wp2
    exact bodyPost_ret (v := .tuple #[v, .slice none 0 0]) (by simp [results, Try.results13, go_sem]) rfl ⟨v, rfl, HO5.out, HB6.out⟩

end Go.Proofs.Ytobbkdhndojggaa
