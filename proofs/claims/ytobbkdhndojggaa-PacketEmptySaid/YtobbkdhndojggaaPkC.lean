/- packet: whether a Band has anything new, where its blocks have nothing. -/
import Derived.Test.YtobbkdhndojggaaPkB
import Derived.Test.YtobbkdhndojggaaAnyInv
import Derived.Test.YtobbkdhndojggaaAnyRk
set_option linter.unusedVariables false
set_option linter.unusedSimpArgs false
namespace Go.Proofs.Ytobbkdhndojggaa
open Go.RowKit Go.Shelf
attribute [local go_sem] Oper.semAt_some
set_option maxRecDepth 100000
set_option maxHeartbeats 1000000 in
theorem passes0 (of l : Nat) (w : World) (ho : 1 ≤ of ∧ of ≤ 1000) (hl : l ≤ 1000) : Calls Try.prog 60 #[.int .i64 0, .int .i64 (of : Int), .int .i64 (l : Int)] w fun e w' => e = .returned (.int .i64 0) ∧ w = w' := by
  have h0 : ¬ (of : Int) = 0 := by omega
  by_cases c1 : l < 1
  · have c2 : (l : Int) < 1 := by omega
    go_enter Try.func60, Try.ntmps60
    go_wp2
    go_ret
    exact ⟨rfl, rfl⟩
  · have c2 : ¬ (l : Int) < 1 := by omega
    by_cases c3 : of < l
    · have c4 : (of : Int) < (l : Int) := by omega
      go_enter Try.func60, Try.ntmps60
      go_wp2
      go_ret
      exact ⟨rfl, rfl⟩
    · have c4 : ¬ (of : Int) < (l : Int) := by omega
      go_enter Try.func60, Try.ntmps60
      go_wp2
      go_ret
      refine ⟨?_, rfl⟩
      simp
set_option maxHeartbeats 1000000 in
theorem span0 (ib o of l : Nat) (w : World) (h : w.cell? ⟨ib, o + 1, none⟩ = some (.slice none 0 0)) (ho : 1 ≤ of ∧ of ≤ 1000) (hl : l + 1 ≤ 1000) : Calls Try.prog 56 #[.pointer (some ⟨ib, o, none⟩), .int .i64 (of : Int), .int .i64 (l : Int)] w fun e w' => e = .returned (.tuple #[.int .i64 0, .int .i64 0]) ∧ w = w' := by
  have P1 := Lib.hid (fun u => passes0 of l u ho (by omega))
  have P2 := Lib.hid (fun u => passes0 of (l + 1) u ho hl)
  simp only [Int.natCast_add, Int.natCast_one] at P2
  have hl2 : (0 : Int) ≤ (l : Int) ∧ (l : Int) ≤ 1000 := by omega
  go_enter Try.func56, Try.ntmps56
  go_wp2_with fail
  refine (P1.out _).mono ?_
  rintro e w1 ⟨rfl, rfl⟩
  go_wp2_with fail
  refine (P2.out _).mono ?_
  rintro e w1 ⟨rfl, rfl⟩
  go_wp2
  go_ret2
  exact ⟨rfl, rfl⟩
theorem cells_any (A pb : Nat) (w : World) : Calls Try.prog 38 #[.slice (some ⟨A, 0, none⟩) 1 1] w fun e w' => e = .returned (.func (.func 59) #[] #[.pointer (some ⟨w.heap.size, 0, none⟩)]) ∧ w' = w.alloc (.cells #[.slice (some ⟨A, 0, none⟩) 1 1] 43) := by
  go_enter Try.func38, Try.ntmps38
  go_wp2
  go_ret
  exact ⟨rfl, rfl⟩
theorem keepc_t {c A pb : Nat} {X B C : World} (h : KeepC c A pb X B) (k : KeepC c A pb B C) : KeepC c A pb X C := ⟨k.1.trans h.1, k.2.1.trans h.2.1, k.2.2.trans h.2.2⟩
theorem keepc_b {c A pb N : Nat} (hc : c < N) (ha : A < N) (hp : pb < N) (W : World) (l : Nat) (o o' : Obj) (hl : N ≤ l) (h : W.heap[l]? = some o) (_ : o.isCells = false) (_ : o.isWalk = false) : KeepC c A pb W (W.putObj l o') :=
  have hlt := (Array.getElem?_eq_some_iff.1 h).1
  ⟨(grownBy_putObj' W l o').block c (by omega) (by simp; omega), (grownBy_putObj' W l o').block A (by omega) (by simp; omega), (grownBy_putObj' W l o').block pb (by omega) (by simp; omega)⟩
theorem cells_sub (n : Nat) (hn : 3 ≤ n) (c A pb ib m : Nat) (pl : Int) (hm : m ≤ 5000) (w : World) (hcl : c < w.heap.size) (hc : OneB w c A pb) (hp : BHead w pb ib m pl) :
    SeqStopsK Fence.wide n Try.prog 59 #[.pointer (some ⟨c, 0, none⟩)] (fun x : Ix m => encC pb x.1) (KeepC c A pb)
      (fun ys => ys.map (·.1) = List.range m) (fun _ => True) m w := fun l J Jx W hW _ _ hY h0 => by
  have hal : A < w.heap.size := World.block_lt_of_cell? w _ hc.2
  refine (cells1_in n hn l c A pb ib m pl hm (fun xs W => ∃ ys : List (Ix m), ys.map (·.1) = xs ∧ J ys W) (fun _ W => ∃ ys : List (Ix m), Jx ys W) ?_ W
    ⟨(hW.block c hcl).trans hc.1, (hW.cell (p := ⟨A, 0, none⟩) hal).trans hc.2⟩ (hp.keep (hW.block pb hp.lt)) ⟨[], rfl, h0⟩).mono ?_
  · rintro pre x W1 ⟨ys, rfl, hj⟩ hx hlen
    refine (hY ys ⟨x, hx⟩ W1 hj (by simpa using hlen)).mono ?_
    rintro e W' (⟨rfl, hj', hk⟩ | ⟨rfl, hx'⟩)
    · exact .inl ⟨rfl, ⟨_, by simp, hj'⟩, hk⟩
    · exact .inr ⟨rfl, _, hx'⟩
  · rintro e W' ⟨he, ⟨_, rfl, ys, hy, hj⟩ | ⟨_, _, ys, hx⟩⟩
    · exact ⟨he, .inl ⟨ys, hy, hj⟩⟩
    · exact ⟨he, .inr ⟨ys, trivial, hx⟩⟩
/-- A packet's writer. -/
def WHead (w : World) (wp bw : Nat) (st of ly : Int) : Prop := w.heap[wp]? = some (.cells #[.pointer (some ⟨bw, 0, none⟩), .int .i64 st, .int .i64 of, .int .i64 ly, .slice none 0 0] 94 (0, 0))
/-- What holds while the blocks are asked. -/
structure AI (w0 W : World) (H wp bw A pb ib n : Nat) (pl st : Int) (of ly : Nat) : Prop where
  hd : BHead W pb ib n pl
  it : BItems W ib n
  bx : W.heap[H]? = some (.cells #[.pointer (some ⟨wp, 0, none⟩)] 90 (0, 0))
  rs : W.heap[H + 1]? = some (.cells #[.bool false] 4 (0, 0))
  wr : WHead W wp bw st of ly
  bel : Below H w0 W
  sz : H + 3 ≤ W.heap.size
  lt : pb < H ∧ ib < H ∧ wp < H ∧ A < H
theorem AI.below {w0 W W' : World} {H wp bw A pb ib n : Nat} {pl st : Int} {of ly : Nat} (h : AI w0 W H wp bw A pb ib n pl st of ly) (hk : ∀ k, k < H + 3 → W'.heap[k]? = W.heap[k]?) (hb : Below H W W') : AI w0 W' H wp bw A pb ib n pl st of ly := by
  have hl := h.lt
  have hw := h.wr
  unfold WHead at hw
  refine ⟨h.hd.keep (hk _ (by omega)), h.it.keep (hk _ (by omega)), (hk _ (by omega)).trans h.bx, (hk _ (by omega)).trans h.rs, ?_, h.bel.trans hb, Nat.le_trans h.sz hb.size, hl⟩
  unfold WHead
  exact (hk _ (by omega)).trans hw
set_option maxHeartbeats 8000000 in
set_option pp.deepTerms true in
set_option pp.maxSteps 10000000 in
theorem anything0 (wp bw A pb ib n of ly : Nat) (pl st : Int) (w : World) (hh : BHead w pb ib n pl) (hi : BItems w ib n) (hw : WHead w wp bw st of ly) (hA : w.cell? ⟨A, 0, none⟩ = some (.pointer (some ⟨pb, 0, none⟩))) (hn : n ≤ 5000) (hof : 1 ≤ of ∧ of ≤ 1000) (hly : ly + 1 ≤ 1000) :
    Calls Try.prog 35 #[.pointer (some ⟨wp, 0, none⟩), .slice (some ⟨A, 0, none⟩) 1 1] w fun e w' => e = .returned (.bool false) ∧ Below w.heap.size w w' := by
  refine callsIn_wide (n := 9) |>.1 ?_
  have hF1 : Fence.wide.fn 38 := trivial
  have hF2 : Fence.wide.fn 56 := trivial
  have hpl := hh.lt
  have hil := hi.lt
  have hwl : wp < w.heap.size := blk_lt (by unfold WHead at hw; exact hw)
  have hal : A < w.heap.size := World.block_lt_of_cell? w _ hA
  refine callsIn_of_wp_marks Try.func35 rfl trivial ?_ rfl
  simp only [Try.ntmps35, List.size_toArray, List.length_cons, List.length_nil, Nat.reduceAdd, Nat.reduceSub, Array.replicate_succ, Array.replicate_zero, List.push_toArray, List.append_toArray, List.nil_append, List.cons_append]
  gi_wp2_with fail
  refine (callsIn_wide.2 (cells_any A pb _)).mono ?_
  rintro e w' ⟨rfl, rfl⟩
  obtain ⟨W3, hW3⟩ : ∃ W3, ((w.alloc (.cells #[.pointer (some ⟨wp, 0, none⟩)] 90)).alloc (.cells #[.bool false] 4)).alloc (.cells #[.slice (some ⟨A, 0, none⟩) 1 1] 43) = W3 := ⟨_, rfl⟩
  have hz2 : ((w.alloc (.cells #[.pointer (some ⟨wp, 0, none⟩)] 90)).alloc (.cells #[.bool false] 4)).heap.size = w.heap.size + 1 + 1 := by simp
  have hb3 : Below w.heap.size w W3 := by rw [← hW3]; exact (((Below.refl _ w).alloc (Nat.le_refl _) _).alloc (by simp) _).alloc (by simp; omega) _
  have c3 : W3.heap[w.heap.size + 2]? = some (.cells #[.slice (some ⟨A, 0, none⟩) 1 1] 43 (0, 0)) := by
    have h := World.alloc_heap_new ((w.alloc (.cells #[.pointer (some ⟨wp, 0, none⟩)] 90)).alloc (.cells #[.bool false] 4)) (.cells #[.slice (some ⟨A, 0, none⟩) 1 1] 43)
    rw [hz2, hW3] at h
    exact h
  have I3 : AI w W3 w.heap.size wp bw A pb ib n pl st of ly := by
    have hz1 : (w.alloc (.cells #[.pointer (some ⟨wp, 0, none⟩)] 90)).heap.size = w.heap.size + 1 := by simp
    have r1 := World.alloc_heap_new (w.alloc (.cells #[.pointer (some ⟨wp, 0, none⟩)] 90)) (.cells #[.bool false] 4)
    rw [hz1] at r1
    have hw' := hw
    unfold WHead at hw'
    refine ⟨hh.keep (hb3.block _ hpl), hi.keep (hb3.block _ hil), ?_, ?_, ?_, hb3, by rw [← hW3]; simp, by omega⟩
    · rw [← hW3, Below.heap_alloc _ _ _ (by simp; omega), Below.heap_alloc _ _ _ (by simp)]; exact World.alloc_heap_new w _
    · rw [← hW3, Below.heap_alloc _ _ _ (by simp)]; exact r1
    · unfold WHead; exact (hb3.block _ hwl).trans hw'
  have o3 : OneB W3 (w.heap.size + 2) A pb := ⟨c3, (hb3.cell (p := ⟨A, 0, none⟩) hal).trans hA⟩
  have hs3 : W3.heap.size = w.heap.size + 3 := by rw [← hW3]; simp
  rw [hz2, hW3]
  clear hW3 hz2 hb3 c3
  gi_wp2_with fail
  have hF : Fence.wide.fn 59 := trivial
  refine wpIn_rangeFunc_ownF rfl (by omega) (gf := 59) (lb := #[.pointer (some ⟨w.heap.size + 1 + 1, 0, none⟩)]) rfl hF (enters_of Try.func59 (by kernel_rfl) rfl)
    (cells_sub (9 - 1) (by omega) (w.heap.size + 1 + 1) A pb ib n pl (by omega) W3 (by omega) o3 I3.hd) keepc_t (keepc_b (by omega) (by omega) (by omega)) (Below.refl _ _) (fun _ => rfl)
    (fun (pre : List (Ix n)) W => AI w W w.heap.size wp bw A pb ib n pl st of ly ∧ W3.heap.size ≤ W.heap.size)
    (fun _ _ _ => False)
    ?hI
    (fun _ _ _ _ _ hs _ _ => hs)
    ?h0
    (fun x => { tmps := #[.pointer (some ⟨wp, 0, none⟩), .slice (some ⟨A, 0, none⟩) 1 1, .pointer (some ⟨w.heap.size, 0, none⟩), undef, .pointer (some ⟨w.heap.size + 1, 0, none⟩), .pointer (some ⟨pb, 0, none⟩), .int .i64 (x.1 : Int), undef, undef, .slice (some ⟨A, 0, none⟩) 1 1, .func (Fn.func 59) #[] #[.pointer (some ⟨w.heap.size + 1 + 1, 0, none⟩)], .pointer (some ⟨pb, 0, none⟩), .int .i64 (x.1 : Int), undef, undef, undef, undef, undef, undef, undef, undef, undef, undef, undef, undef, undef, undef, undef, undef, undef, undef, undef, undef, undef, undef], defers := [] }) ?asg ?body ?done ?stop
  case hI =>
    rintro pre X B row ⟨h1, h2⟩ hg hr
    have hne : ∀ k, k < W3.heap.size → some k ≠ row := fun k hk e => by have := (hr k e.symm).1; omega
    have hsz := h1.sz
    refine ⟨h1.below (fun k hk => hg.block k (by omega) (hne k (by omega))) ((Below.refl _ _).grown hg (by omega) (fun k e => by have := (hr k e).1; omega)), Nat.le_trans h2 hg.size⟩
  case h0 => exact ⟨I3, Nat.le_refl _⟩
  case asg =>
    intro l x W K hK
    gi_wp2
    exact hK
  case body =>
    rintro lr pre x W ⟨h1, h2⟩ hlt
    obtain ⟨k, hk⟩ := x
    simp only
    obtain ⟨WX, hWX⟩ : ∃ WX, W.drew = WX := ⟨_, rfl⟩
    have HX := Lib.hid hWX
    have HI := Lib.hid h1
    have HS3 := Lib.hid h2
    have hkn : (k : Int) < (n : Int) ∧ (0 : Int) ≤ (k : Int) := by omega
    have HF : Hid (WX.cell? ⟨pb, 0, none⟩ = some (.slice (some ⟨ib, 0, none⟩) n n) ∧ WX.cell? ⟨w.heap.size, 0, none⟩ = some (.pointer (some ⟨wp, 0, none⟩)) ∧ WX.cell? ⟨wp, 2, none⟩ = some (.int .i64 (of : Int)) ∧ WX.cell? ⟨wp, 3, none⟩ = some (.int .i64 (ly : Int))) := Lib.hid (by
      rw [← hWX]
      have hw := h1.wr
      unfold WHead at hw
      refine ⟨h1.hd.c0.1, blk_cell h1.bx 0, blk_cell hw 2, blk_cell hw 3⟩)
    have SP : Hid (∀ u, u = WX → Calls Try.prog 56 #[.pointer (some ⟨ib, k * 4, none⟩), .int .i64 (of : Int), .int .i64 (ly : Int)] u fun e w' => e = .returned (.tuple #[.int .i64 0, .int .i64 0]) ∧ u = w') := Lib.hid fun u hu => by
      refine span0 ib (k * 4) of ly u ?_ hof hly
      rw [hu, ← hWX]
      exact (h1.it.cell hk).2.1
    clear hWX h1 h2 hlt hh hi hw hA I3 o3
    gi_wp2_with fail
    refine (regionIn_a (w := W) (Inv := fun L a' w' => a' = { tmps := #[.pointer (some ⟨wp, 0, none⟩), .slice (some ⟨A, 0, none⟩) 1 1, .pointer (some ⟨w.heap.size, 0, none⟩), undef, .pointer (some ⟨w.heap.size + 1, 0, none⟩), .pointer (some ⟨pb, 0, none⟩), .int .i64 (k : Int), bif L 19 then .int .i64 0 else undef, bif L 20 then .int .i64 0 else undef, .slice (some ⟨A, 0, none⟩) 1 1, .func (Fn.func 59) #[] #[.pointer (some ⟨w.heap.size + 1 + 1, 0, none⟩)], .pointer (some ⟨pb, 0, none⟩), .int .i64 (k : Int), bif L 16 then .tuple #[.int .i64 0, .int .i64 0] else undef, bif L 0 then .pointer (some ⟨pb, 0, none⟩) else undef, bif L 1 then .pointer (some ⟨pb, 0, none⟩) else undef, bif L 2 then .pointer (some ⟨pb, 0, none⟩) else undef, bif L 3 then .pointer (some ⟨pb, 0, none⟩) else undef, bif L 4 then .slice (some ⟨ib, 0, none⟩) n n else undef, bif L 5 then .int .i64 (k : Int) else undef, bif L 6 then .pointer (some ⟨ib, k * 4, none⟩) else undef, bif L 7 then .pointer (some ⟨wp, 0, none⟩) else undef, bif L 8 then .pointer (some ⟨wp, 0, none⟩) else undef, bif L 9 then .pointer (some ⟨wp, 2, none⟩) else undef, bif L 10 then .int .i64 (of : Int) else undef, bif L 11 then .pointer (some ⟨wp, 0, none⟩) else undef, bif L 12 then .pointer (some ⟨wp, 0, none⟩) else undef, bif L 13 then .pointer (some ⟨wp, 3, none⟩) else undef, bif L 14 then .int .i64 (ly : Int) else undef, bif L 15 then .tuple #[.int .i64 0, .int .i64 0] else undef, bif L 17 then .int .i64 0 else undef, bif L 18 then .int .i64 0 else undef, undef, undef, undef], defers := [] } ∧ w' = WX) (by kernel_rfl) (by kernel_rfl) ?start4 ?step4 ?fin4)
    case start4 => exact ⟨rfl, HX.out⟩
    case step4 =>
      intro i hi L a' w' hI hs hu
      obtain ⟨rfl, hph⟩ := hI
      have hL := hu.1
      have hi : i < 21 := hi
      obtain rfl | rfl | rfl | rfl | rfl | rfl | rfl | rfl | rfl | rfl | rfl | rfl | rfl | rfl | rfl | rfl | rfl | rfl | rfl | rfl | rfl := (by omega : i = 0 ∨ i = 1 ∨ i = 2 ∨ i = 3 ∨ i = 4 ∨ i = 5 ∨ i = 6 ∨ i = 7 ∨ i = 8 ∨ i = 9 ∨ i = 10 ∨ i = 11 ∨ i = 12 ∨ i = 13 ∨ i = 14 ∨ i = 15 ∨ i = 16 ∨ i = 17 ∨ i = 18 ∨ i = 19 ∨ i = 20)
      · skip
        refine opIn_run (v := .pointer (some ⟨pb, 0, none⟩)) (w' := w') rfl rfl (fun c h => by cases h) (fun _ => trivial) ?_ ⟨by simp [Act.put, upd, hL], by simpa [upd] using hph⟩
        simp only [hL, cond_true, cond_false]
        go_simp
      · skip
        have y0 : L 0 = true := up_at hu 0 (by kernel_rfl)
        refine opIn_run (v := .pointer (some ⟨pb, 0, none⟩)) (w' := w') rfl rfl (fun c h => by cases h) (fun _ => trivial) ?_ ⟨by simp [Act.put, upd, y0, hL], by simpa [upd] using hph⟩
        simp only [y0, hL, cond_true, cond_false]
        go_simp
      · skip
        have y0 : L 0 = true := shut_at hs 1 0 (by kernel_rfl) (up_at hu 1 (by kernel_rfl))
        have y1 : L 1 = true := up_at hu 1 (by kernel_rfl)
        refine opIn_run (v := .pointer (some ⟨pb, 0, none⟩)) (w' := w') rfl rfl (fun c h => by cases h) (fun _ => trivial) ?_ ⟨by simp [Act.put, upd, y0, y1, hL], by simpa [upd] using hph⟩
        simp only [y0, y1, hL, cond_true, cond_false]
        go_simp
      · skip
        have y0 : L 0 = true := shut_at hs 1 0 (by kernel_rfl) (shut_at hs 2 1 (by kernel_rfl) (up_at hu 2 (by kernel_rfl)))
        have y1 : L 1 = true := shut_at hs 2 1 (by kernel_rfl) (up_at hu 2 (by kernel_rfl))
        have y2 : L 2 = true := up_at hu 2 (by kernel_rfl)
        refine opIn_run (v := .pointer (some ⟨pb, 0, none⟩)) (w' := w') rfl rfl (fun c h => by cases h) (fun _ => trivial) ?_ ⟨by simp [Act.put, upd, y0, y1, y2, hL], by simpa [upd] using hph⟩
        simp only [y0, y1, y2, hL, cond_true, cond_false]
        go_simp
      · skip
        have y0 : L 0 = true := shut_at hs 1 0 (by kernel_rfl) (shut_at hs 2 1 (by kernel_rfl) (shut_at hs 3 2 (by kernel_rfl) (up_at hu 3 (by kernel_rfl))))
        have y1 : L 1 = true := shut_at hs 2 1 (by kernel_rfl) (shut_at hs 3 2 (by kernel_rfl) (up_at hu 3 (by kernel_rfl)))
        have y2 : L 2 = true := shut_at hs 3 2 (by kernel_rfl) (up_at hu 3 (by kernel_rfl))
        have y3 : L 3 = true := up_at hu 3 (by kernel_rfl)
        try simp only [y0, y1, y2, y3, hL, cond_true, cond_false] at hph
        have g0 : w'.cell? ⟨pb, 0, none⟩ = some (.slice (some ⟨ib, 0, none⟩) n n) := by rw [hph]; exact HF.out.1
        refine opIn_run (v := .slice (some ⟨ib, 0, none⟩) n n) (w' := w') rfl rfl (fun c h => by cases h) (fun _ => trivial) ?_ ⟨by simp [Act.put, upd, y0, y1, y2, y3, hL], hph⟩
        simp only [y0, y1, y2, y3, hL, cond_true, cond_false]
        clear hph; go_simp
      · skip
        refine opIn_run (v := .int .i64 (k : Int)) (w' := w') rfl rfl (fun c h => by cases h) (fun _ => trivial) ?_ ⟨by simp [Act.put, upd, hL], by simpa [upd] using hph⟩
        simp only [hL, cond_true, cond_false]
        go_simp
      · skip
        have y0 : L 0 = true := shut_at hs 1 0 (by kernel_rfl) (shut_at hs 2 1 (by kernel_rfl) (shut_at hs 3 2 (by kernel_rfl) (shut_at hs 4 3 (by kernel_rfl) (up_at hu 4 (by kernel_rfl)))))
        have y1 : L 1 = true := shut_at hs 2 1 (by kernel_rfl) (shut_at hs 3 2 (by kernel_rfl) (shut_at hs 4 3 (by kernel_rfl) (up_at hu 4 (by kernel_rfl))))
        have y2 : L 2 = true := shut_at hs 3 2 (by kernel_rfl) (shut_at hs 4 3 (by kernel_rfl) (up_at hu 4 (by kernel_rfl)))
        have y3 : L 3 = true := shut_at hs 4 3 (by kernel_rfl) (up_at hu 4 (by kernel_rfl))
        have y4 : L 4 = true := up_at hu 4 (by kernel_rfl)
        have y5 : L 5 = true := up_at hu 5 (by kernel_rfl)
        refine opIn_run (v := .pointer (some ⟨ib, k * 4, none⟩)) (w' := w') rfl rfl (fun c h => by cases h) (fun _ => trivial) ?_ ⟨by simp [Act.put, upd, y0, y1, y2, y3, y4, y5, hL], by simpa [upd] using hph⟩
        simp only [y0, y1, y2, y3, y4, y5, hL, cond_true, cond_false]
        go_simp
      · skip
        try simp only [hL, cond_true, cond_false] at hph
        have g0 : w'.cell? ⟨w.heap.size, 0, none⟩ = some (.pointer (some ⟨wp, 0, none⟩)) := by rw [hph]; exact HF.out.2.1
        refine opIn_run (v := .pointer (some ⟨wp, 0, none⟩)) (w' := w') rfl rfl (fun c h => by cases h) (fun _ => trivial) ?_ ⟨by simp [Act.put, upd, hL], hph⟩
        simp only [hL, cond_true, cond_false]
        clear hph; go_simp
      · skip
        have y7 : L 7 = true := up_at hu 7 (by kernel_rfl)
        refine opIn_run (v := .pointer (some ⟨wp, 0, none⟩)) (w' := w') rfl rfl (fun c h => by cases h) (fun _ => trivial) ?_ ⟨by simp [Act.put, upd, y7, hL], by simpa [upd] using hph⟩
        simp only [y7, hL, cond_true, cond_false]
        go_simp
      · skip
        have y7 : L 7 = true := shut_at hs 8 7 (by kernel_rfl) (up_at hu 8 (by kernel_rfl))
        have y8 : L 8 = true := up_at hu 8 (by kernel_rfl)
        refine opIn_run (v := .pointer (some ⟨wp, 2, none⟩)) (w' := w') rfl rfl (fun c h => by cases h) (fun _ => trivial) ?_ ⟨by simp [Act.put, upd, y7, y8, hL], by simpa [upd] using hph⟩
        simp only [y7, y8, hL, cond_true, cond_false]
        go_simp
      · skip
        have y7 : L 7 = true := shut_at hs 8 7 (by kernel_rfl) (shut_at hs 9 8 (by kernel_rfl) (up_at hu 9 (by kernel_rfl)))
        have y8 : L 8 = true := shut_at hs 9 8 (by kernel_rfl) (up_at hu 9 (by kernel_rfl))
        have y9 : L 9 = true := up_at hu 9 (by kernel_rfl)
        try simp only [y7, y8, y9, hL, cond_true, cond_false] at hph
        have g0 : w'.cell? ⟨wp, 2, none⟩ = some (.int .i64 (of : Int)) := by rw [hph]; exact HF.out.2.2.1
        refine opIn_run (v := .int .i64 (of : Int)) (w' := w') rfl rfl (fun c h => by cases h) (fun _ => trivial) ?_ ⟨by simp [Act.put, upd, y7, y8, y9, hL], hph⟩
        simp only [y7, y8, y9, hL, cond_true, cond_false]
        clear hph; go_simp
      · skip
        try simp only [hL, cond_true, cond_false] at hph
        have g0 : w'.cell? ⟨w.heap.size, 0, none⟩ = some (.pointer (some ⟨wp, 0, none⟩)) := by rw [hph]; exact HF.out.2.1
        refine opIn_run (v := .pointer (some ⟨wp, 0, none⟩)) (w' := w') rfl rfl (fun c h => by cases h) (fun _ => trivial) ?_ ⟨by simp [Act.put, upd, hL], hph⟩
        simp only [hL, cond_true, cond_false]
        clear hph; go_simp
      · skip
        have y11 : L 11 = true := up_at hu 11 (by kernel_rfl)
        refine opIn_run (v := .pointer (some ⟨wp, 0, none⟩)) (w' := w') rfl rfl (fun c h => by cases h) (fun _ => trivial) ?_ ⟨by simp [Act.put, upd, y11, hL], by simpa [upd] using hph⟩
        simp only [y11, hL, cond_true, cond_false]
        go_simp
      · skip
        have y11 : L 11 = true := shut_at hs 12 11 (by kernel_rfl) (up_at hu 12 (by kernel_rfl))
        have y12 : L 12 = true := up_at hu 12 (by kernel_rfl)
        refine opIn_run (v := .pointer (some ⟨wp, 3, none⟩)) (w' := w') rfl rfl (fun c h => by cases h) (fun _ => trivial) ?_ ⟨by simp [Act.put, upd, y11, y12, hL], by simpa [upd] using hph⟩
        simp only [y11, y12, hL, cond_true, cond_false]
        go_simp
      · skip
        have y11 : L 11 = true := shut_at hs 12 11 (by kernel_rfl) (shut_at hs 13 12 (by kernel_rfl) (up_at hu 13 (by kernel_rfl)))
        have y12 : L 12 = true := shut_at hs 13 12 (by kernel_rfl) (up_at hu 13 (by kernel_rfl))
        have y13 : L 13 = true := up_at hu 13 (by kernel_rfl)
        try simp only [y11, y12, y13, hL, cond_true, cond_false] at hph
        have g0 : w'.cell? ⟨wp, 3, none⟩ = some (.int .i64 (ly : Int)) := by rw [hph]; exact HF.out.2.2.2
        refine opIn_run (v := .int .i64 (ly : Int)) (w' := w') rfl rfl (fun c h => by cases h) (fun _ => trivial) ?_ ⟨by simp [Act.put, upd, y11, y12, y13, hL], hph⟩
        simp only [y11, y12, y13, hL, cond_true, cond_false]
        clear hph; go_simp
      · skip
        have y0 : L 0 = true := shut_at hs 1 0 (by kernel_rfl) (shut_at hs 2 1 (by kernel_rfl) (shut_at hs 3 2 (by kernel_rfl) (shut_at hs 4 3 (by kernel_rfl) (shut_at hs 6 4 (by kernel_rfl) (up_at hu 6 (by kernel_rfl))))))
        have y1 : L 1 = true := shut_at hs 2 1 (by kernel_rfl) (shut_at hs 3 2 (by kernel_rfl) (shut_at hs 4 3 (by kernel_rfl) (shut_at hs 6 4 (by kernel_rfl) (up_at hu 6 (by kernel_rfl)))))
        have y2 : L 2 = true := shut_at hs 3 2 (by kernel_rfl) (shut_at hs 4 3 (by kernel_rfl) (shut_at hs 6 4 (by kernel_rfl) (up_at hu 6 (by kernel_rfl))))
        have y3 : L 3 = true := shut_at hs 4 3 (by kernel_rfl) (shut_at hs 6 4 (by kernel_rfl) (up_at hu 6 (by kernel_rfl)))
        have y4 : L 4 = true := shut_at hs 6 4 (by kernel_rfl) (up_at hu 6 (by kernel_rfl))
        have y5 : L 5 = true := shut_at hs 6 5 (by kernel_rfl) (up_at hu 6 (by kernel_rfl))
        have y6 : L 6 = true := up_at hu 6 (by kernel_rfl)
        have y7 : L 7 = true := shut_at hs 8 7 (by kernel_rfl) (shut_at hs 9 8 (by kernel_rfl) (shut_at hs 10 9 (by kernel_rfl) (up_at hu 10 (by kernel_rfl))))
        have y8 : L 8 = true := shut_at hs 9 8 (by kernel_rfl) (shut_at hs 10 9 (by kernel_rfl) (up_at hu 10 (by kernel_rfl)))
        have y9 : L 9 = true := shut_at hs 10 9 (by kernel_rfl) (up_at hu 10 (by kernel_rfl))
        have y10 : L 10 = true := up_at hu 10 (by kernel_rfl)
        have y11 : L 11 = true := shut_at hs 12 11 (by kernel_rfl) (shut_at hs 13 12 (by kernel_rfl) (shut_at hs 14 13 (by kernel_rfl) (up_at hu 14 (by kernel_rfl))))
        have y12 : L 12 = true := shut_at hs 13 12 (by kernel_rfl) (shut_at hs 14 13 (by kernel_rfl) (up_at hu 14 (by kernel_rfl)))
        have y13 : L 13 = true := shut_at hs 14 13 (by kernel_rfl) (up_at hu 14 (by kernel_rfl))
        have y14 : L 14 = true := up_at hu 14 (by kernel_rfl)
        try simp only [y0, y1, y2, y3, y4, y5, y6, y7, y8, y9, y10, y11, y12, y13, y14, hL, cond_true, cond_false] at hph
        refine opIn_call (f := 56) (args := #[.pointer (some ⟨ib, k * 4, none⟩), .int .i64 (of : Int), .int .i64 (ly : Int)]) (w' := w') rfl rfl (fun c h => by cases h) (fun _ => trivial) rfl ?_ ((CallsIn.inRound lr (callsIn_wide.2 (SP.out w' hph))).mono ?_)
        · simp only [y0, y1, y2, y3, y4, y5, y6, y7, y8, y9, y10, y11, y12, y13, y14, hL, cond_true, cond_false]
          go_simp
        · rintro e w2 ⟨rfl, hw2⟩
          exact ⟨_, rfl, by simp [Act.put, upd, y0, y1, y2, y3, y4, y5, y6, y7, y8, y9, y10, y11, y12, y13, y14, hL], (hw2 ▸ hph)⟩
      · skip
        have y0 : L 0 = true := shut_at hs 1 0 (by kernel_rfl) (shut_at hs 2 1 (by kernel_rfl) (shut_at hs 3 2 (by kernel_rfl) (shut_at hs 4 3 (by kernel_rfl) (shut_at hs 6 4 (by kernel_rfl) (shut_at hs 15 6 (by kernel_rfl) (up_at hu 15 (by kernel_rfl)))))))
        have y1 : L 1 = true := shut_at hs 2 1 (by kernel_rfl) (shut_at hs 3 2 (by kernel_rfl) (shut_at hs 4 3 (by kernel_rfl) (shut_at hs 6 4 (by kernel_rfl) (shut_at hs 15 6 (by kernel_rfl) (up_at hu 15 (by kernel_rfl))))))
        have y2 : L 2 = true := shut_at hs 3 2 (by kernel_rfl) (shut_at hs 4 3 (by kernel_rfl) (shut_at hs 6 4 (by kernel_rfl) (shut_at hs 15 6 (by kernel_rfl) (up_at hu 15 (by kernel_rfl)))))
        have y3 : L 3 = true := shut_at hs 4 3 (by kernel_rfl) (shut_at hs 6 4 (by kernel_rfl) (shut_at hs 15 6 (by kernel_rfl) (up_at hu 15 (by kernel_rfl))))
        have y4 : L 4 = true := shut_at hs 6 4 (by kernel_rfl) (shut_at hs 15 6 (by kernel_rfl) (up_at hu 15 (by kernel_rfl)))
        have y5 : L 5 = true := shut_at hs 6 5 (by kernel_rfl) (shut_at hs 15 6 (by kernel_rfl) (up_at hu 15 (by kernel_rfl)))
        have y6 : L 6 = true := shut_at hs 15 6 (by kernel_rfl) (up_at hu 15 (by kernel_rfl))
        have y7 : L 7 = true := shut_at hs 8 7 (by kernel_rfl) (shut_at hs 9 8 (by kernel_rfl) (shut_at hs 10 9 (by kernel_rfl) (shut_at hs 15 10 (by kernel_rfl) (up_at hu 15 (by kernel_rfl)))))
        have y8 : L 8 = true := shut_at hs 9 8 (by kernel_rfl) (shut_at hs 10 9 (by kernel_rfl) (shut_at hs 15 10 (by kernel_rfl) (up_at hu 15 (by kernel_rfl))))
        have y9 : L 9 = true := shut_at hs 10 9 (by kernel_rfl) (shut_at hs 15 10 (by kernel_rfl) (up_at hu 15 (by kernel_rfl)))
        have y10 : L 10 = true := shut_at hs 15 10 (by kernel_rfl) (up_at hu 15 (by kernel_rfl))
        have y11 : L 11 = true := shut_at hs 12 11 (by kernel_rfl) (shut_at hs 13 12 (by kernel_rfl) (shut_at hs 14 13 (by kernel_rfl) (shut_at hs 15 14 (by kernel_rfl) (up_at hu 15 (by kernel_rfl)))))
        have y12 : L 12 = true := shut_at hs 13 12 (by kernel_rfl) (shut_at hs 14 13 (by kernel_rfl) (shut_at hs 15 14 (by kernel_rfl) (up_at hu 15 (by kernel_rfl))))
        have y13 : L 13 = true := shut_at hs 14 13 (by kernel_rfl) (shut_at hs 15 14 (by kernel_rfl) (up_at hu 15 (by kernel_rfl)))
        have y14 : L 14 = true := shut_at hs 15 14 (by kernel_rfl) (up_at hu 15 (by kernel_rfl))
        have y15 : L 15 = true := up_at hu 15 (by kernel_rfl)
        refine opIn_run (v := .tuple #[.int .i64 0, .int .i64 0]) (w' := w') rfl rfl (fun c h => by cases h) (fun _ => trivial) ?_ ⟨by simp [Act.put, upd, y0, y1, y2, y3, y4, y5, y6, y7, y8, y9, y10, y11, y12, y13, y14, y15, hL], by simpa [upd] using hph⟩
        simp only [y0, y1, y2, y3, y4, y5, y6, y7, y8, y9, y10, y11, y12, y13, y14, y15, hL, cond_true, cond_false]
        go_simp
      · skip
        have y0 : L 0 = true := shut_at hs 1 0 (by kernel_rfl) (shut_at hs 2 1 (by kernel_rfl) (shut_at hs 3 2 (by kernel_rfl) (shut_at hs 4 3 (by kernel_rfl) (shut_at hs 6 4 (by kernel_rfl) (shut_at hs 15 6 (by kernel_rfl) (shut_at hs 16 15 (by kernel_rfl) (up_at hu 16 (by kernel_rfl))))))))
        have y1 : L 1 = true := shut_at hs 2 1 (by kernel_rfl) (shut_at hs 3 2 (by kernel_rfl) (shut_at hs 4 3 (by kernel_rfl) (shut_at hs 6 4 (by kernel_rfl) (shut_at hs 15 6 (by kernel_rfl) (shut_at hs 16 15 (by kernel_rfl) (up_at hu 16 (by kernel_rfl)))))))
        have y2 : L 2 = true := shut_at hs 3 2 (by kernel_rfl) (shut_at hs 4 3 (by kernel_rfl) (shut_at hs 6 4 (by kernel_rfl) (shut_at hs 15 6 (by kernel_rfl) (shut_at hs 16 15 (by kernel_rfl) (up_at hu 16 (by kernel_rfl))))))
        have y3 : L 3 = true := shut_at hs 4 3 (by kernel_rfl) (shut_at hs 6 4 (by kernel_rfl) (shut_at hs 15 6 (by kernel_rfl) (shut_at hs 16 15 (by kernel_rfl) (up_at hu 16 (by kernel_rfl)))))
        have y4 : L 4 = true := shut_at hs 6 4 (by kernel_rfl) (shut_at hs 15 6 (by kernel_rfl) (shut_at hs 16 15 (by kernel_rfl) (up_at hu 16 (by kernel_rfl))))
        have y5 : L 5 = true := shut_at hs 6 5 (by kernel_rfl) (shut_at hs 15 6 (by kernel_rfl) (shut_at hs 16 15 (by kernel_rfl) (up_at hu 16 (by kernel_rfl))))
        have y6 : L 6 = true := shut_at hs 15 6 (by kernel_rfl) (shut_at hs 16 15 (by kernel_rfl) (up_at hu 16 (by kernel_rfl)))
        have y7 : L 7 = true := shut_at hs 8 7 (by kernel_rfl) (shut_at hs 9 8 (by kernel_rfl) (shut_at hs 10 9 (by kernel_rfl) (shut_at hs 15 10 (by kernel_rfl) (shut_at hs 16 15 (by kernel_rfl) (up_at hu 16 (by kernel_rfl))))))
        have y8 : L 8 = true := shut_at hs 9 8 (by kernel_rfl) (shut_at hs 10 9 (by kernel_rfl) (shut_at hs 15 10 (by kernel_rfl) (shut_at hs 16 15 (by kernel_rfl) (up_at hu 16 (by kernel_rfl)))))
        have y9 : L 9 = true := shut_at hs 10 9 (by kernel_rfl) (shut_at hs 15 10 (by kernel_rfl) (shut_at hs 16 15 (by kernel_rfl) (up_at hu 16 (by kernel_rfl))))
        have y10 : L 10 = true := shut_at hs 15 10 (by kernel_rfl) (shut_at hs 16 15 (by kernel_rfl) (up_at hu 16 (by kernel_rfl)))
        have y11 : L 11 = true := shut_at hs 12 11 (by kernel_rfl) (shut_at hs 13 12 (by kernel_rfl) (shut_at hs 14 13 (by kernel_rfl) (shut_at hs 15 14 (by kernel_rfl) (shut_at hs 16 15 (by kernel_rfl) (up_at hu 16 (by kernel_rfl))))))
        have y12 : L 12 = true := shut_at hs 13 12 (by kernel_rfl) (shut_at hs 14 13 (by kernel_rfl) (shut_at hs 15 14 (by kernel_rfl) (shut_at hs 16 15 (by kernel_rfl) (up_at hu 16 (by kernel_rfl)))))
        have y13 : L 13 = true := shut_at hs 14 13 (by kernel_rfl) (shut_at hs 15 14 (by kernel_rfl) (shut_at hs 16 15 (by kernel_rfl) (up_at hu 16 (by kernel_rfl))))
        have y14 : L 14 = true := shut_at hs 15 14 (by kernel_rfl) (shut_at hs 16 15 (by kernel_rfl) (up_at hu 16 (by kernel_rfl)))
        have y15 : L 15 = true := shut_at hs 16 15 (by kernel_rfl) (up_at hu 16 (by kernel_rfl))
        have y16 : L 16 = true := up_at hu 16 (by kernel_rfl)
        refine opIn_run (v := .int .i64 0) (w' := w') rfl rfl (fun c h => by cases h) (fun _ => trivial) ?_ ⟨by simp [Act.put, upd, y0, y1, y2, y3, y4, y5, y6, y7, y8, y9, y10, y11, y12, y13, y14, y15, y16, hL], by simpa [upd] using hph⟩
        simp only [y0, y1, y2, y3, y4, y5, y6, y7, y8, y9, y10, y11, y12, y13, y14, y15, y16, hL, cond_true, cond_false]
        go_simp
      · skip
        have y0 : L 0 = true := shut_at hs 1 0 (by kernel_rfl) (shut_at hs 2 1 (by kernel_rfl) (shut_at hs 3 2 (by kernel_rfl) (shut_at hs 4 3 (by kernel_rfl) (shut_at hs 6 4 (by kernel_rfl) (shut_at hs 15 6 (by kernel_rfl) (shut_at hs 16 15 (by kernel_rfl) (up_at hu 16 (by kernel_rfl))))))))
        have y1 : L 1 = true := shut_at hs 2 1 (by kernel_rfl) (shut_at hs 3 2 (by kernel_rfl) (shut_at hs 4 3 (by kernel_rfl) (shut_at hs 6 4 (by kernel_rfl) (shut_at hs 15 6 (by kernel_rfl) (shut_at hs 16 15 (by kernel_rfl) (up_at hu 16 (by kernel_rfl)))))))
        have y2 : L 2 = true := shut_at hs 3 2 (by kernel_rfl) (shut_at hs 4 3 (by kernel_rfl) (shut_at hs 6 4 (by kernel_rfl) (shut_at hs 15 6 (by kernel_rfl) (shut_at hs 16 15 (by kernel_rfl) (up_at hu 16 (by kernel_rfl))))))
        have y3 : L 3 = true := shut_at hs 4 3 (by kernel_rfl) (shut_at hs 6 4 (by kernel_rfl) (shut_at hs 15 6 (by kernel_rfl) (shut_at hs 16 15 (by kernel_rfl) (up_at hu 16 (by kernel_rfl)))))
        have y4 : L 4 = true := shut_at hs 6 4 (by kernel_rfl) (shut_at hs 15 6 (by kernel_rfl) (shut_at hs 16 15 (by kernel_rfl) (up_at hu 16 (by kernel_rfl))))
        have y5 : L 5 = true := shut_at hs 6 5 (by kernel_rfl) (shut_at hs 15 6 (by kernel_rfl) (shut_at hs 16 15 (by kernel_rfl) (up_at hu 16 (by kernel_rfl))))
        have y6 : L 6 = true := shut_at hs 15 6 (by kernel_rfl) (shut_at hs 16 15 (by kernel_rfl) (up_at hu 16 (by kernel_rfl)))
        have y7 : L 7 = true := shut_at hs 8 7 (by kernel_rfl) (shut_at hs 9 8 (by kernel_rfl) (shut_at hs 10 9 (by kernel_rfl) (shut_at hs 15 10 (by kernel_rfl) (shut_at hs 16 15 (by kernel_rfl) (up_at hu 16 (by kernel_rfl))))))
        have y8 : L 8 = true := shut_at hs 9 8 (by kernel_rfl) (shut_at hs 10 9 (by kernel_rfl) (shut_at hs 15 10 (by kernel_rfl) (shut_at hs 16 15 (by kernel_rfl) (up_at hu 16 (by kernel_rfl)))))
        have y9 : L 9 = true := shut_at hs 10 9 (by kernel_rfl) (shut_at hs 15 10 (by kernel_rfl) (shut_at hs 16 15 (by kernel_rfl) (up_at hu 16 (by kernel_rfl))))
        have y10 : L 10 = true := shut_at hs 15 10 (by kernel_rfl) (shut_at hs 16 15 (by kernel_rfl) (up_at hu 16 (by kernel_rfl)))
        have y11 : L 11 = true := shut_at hs 12 11 (by kernel_rfl) (shut_at hs 13 12 (by kernel_rfl) (shut_at hs 14 13 (by kernel_rfl) (shut_at hs 15 14 (by kernel_rfl) (shut_at hs 16 15 (by kernel_rfl) (up_at hu 16 (by kernel_rfl))))))
        have y12 : L 12 = true := shut_at hs 13 12 (by kernel_rfl) (shut_at hs 14 13 (by kernel_rfl) (shut_at hs 15 14 (by kernel_rfl) (shut_at hs 16 15 (by kernel_rfl) (up_at hu 16 (by kernel_rfl)))))
        have y13 : L 13 = true := shut_at hs 14 13 (by kernel_rfl) (shut_at hs 15 14 (by kernel_rfl) (shut_at hs 16 15 (by kernel_rfl) (up_at hu 16 (by kernel_rfl))))
        have y14 : L 14 = true := shut_at hs 15 14 (by kernel_rfl) (shut_at hs 16 15 (by kernel_rfl) (up_at hu 16 (by kernel_rfl)))
        have y15 : L 15 = true := shut_at hs 16 15 (by kernel_rfl) (up_at hu 16 (by kernel_rfl))
        have y16 : L 16 = true := up_at hu 16 (by kernel_rfl)
        refine opIn_run (v := .int .i64 0) (w' := w') rfl rfl (fun c h => by cases h) (fun _ => trivial) ?_ ⟨by simp [Act.put, upd, y0, y1, y2, y3, y4, y5, y6, y7, y8, y9, y10, y11, y12, y13, y14, y15, y16, hL], by simpa [upd] using hph⟩
        simp only [y0, y1, y2, y3, y4, y5, y6, y7, y8, y9, y10, y11, y12, y13, y14, y15, y16, hL, cond_true, cond_false]
        go_simp
      · skip
        have y0 : L 0 = true := up_at hu 0 (by kernel_rfl)
        have y1 : L 1 = true := up_at hu 1 (by kernel_rfl)
        have y2 : L 2 = true := up_at hu 2 (by kernel_rfl)
        have y3 : L 3 = true := up_at hu 3 (by kernel_rfl)
        have y4 : L 4 = true := up_at hu 4 (by kernel_rfl)
        have y5 : L 5 = true := up_at hu 5 (by kernel_rfl)
        have y6 : L 6 = true := up_at hu 6 (by kernel_rfl)
        have y7 : L 7 = true := up_at hu 7 (by kernel_rfl)
        have y8 : L 8 = true := up_at hu 8 (by kernel_rfl)
        have y9 : L 9 = true := up_at hu 9 (by kernel_rfl)
        have y10 : L 10 = true := up_at hu 10 (by kernel_rfl)
        have y11 : L 11 = true := up_at hu 11 (by kernel_rfl)
        have y12 : L 12 = true := up_at hu 12 (by kernel_rfl)
        have y13 : L 13 = true := up_at hu 13 (by kernel_rfl)
        have y14 : L 14 = true := up_at hu 14 (by kernel_rfl)
        have y15 : L 15 = true := up_at hu 15 (by kernel_rfl)
        have y16 : L 16 = true := up_at hu 16 (by kernel_rfl)
        have y17 : L 17 = true := up_at hu 17 (by kernel_rfl)
        refine opIn_run (v := .int .i64 0) (w' := w') rfl rfl (fun c h => by cases h) (fun _ => trivial) ?_ ⟨by simp [Act.put, upd, y0, y1, y2, y3, y4, y5, y6, y7, y8, y9, y10, y11, y12, y13, y14, y15, y16, y17, hL], by simpa [upd] using hph⟩
        simp only [y0, y1, y2, y3, y4, y5, y6, y7, y8, y9, y10, y11, y12, y13, y14, y15, y16, y17, hL, cond_true, cond_false]
        go_simp
      · skip
        have y0 : L 0 = true := up_at hu 0 (by kernel_rfl)
        have y1 : L 1 = true := up_at hu 1 (by kernel_rfl)
        have y2 : L 2 = true := up_at hu 2 (by kernel_rfl)
        have y3 : L 3 = true := up_at hu 3 (by kernel_rfl)
        have y4 : L 4 = true := up_at hu 4 (by kernel_rfl)
        have y5 : L 5 = true := up_at hu 5 (by kernel_rfl)
        have y6 : L 6 = true := up_at hu 6 (by kernel_rfl)
        have y7 : L 7 = true := up_at hu 7 (by kernel_rfl)
        have y8 : L 8 = true := up_at hu 8 (by kernel_rfl)
        have y9 : L 9 = true := up_at hu 9 (by kernel_rfl)
        have y10 : L 10 = true := up_at hu 10 (by kernel_rfl)
        have y11 : L 11 = true := up_at hu 11 (by kernel_rfl)
        have y12 : L 12 = true := up_at hu 12 (by kernel_rfl)
        have y13 : L 13 = true := up_at hu 13 (by kernel_rfl)
        have y14 : L 14 = true := up_at hu 14 (by kernel_rfl)
        have y15 : L 15 = true := up_at hu 15 (by kernel_rfl)
        have y16 : L 16 = true := up_at hu 16 (by kernel_rfl)
        have y17 : L 17 = true := up_at hu 17 (by kernel_rfl)
        have y18 : L 18 = true := up_at hu 18 (by kernel_rfl)
        have y19 : L 19 = true := up_at hu 19 (by kernel_rfl)
        refine opIn_run (v := .int .i64 0) (w' := w') rfl rfl (fun c h => by cases h) (fun _ => trivial) ?_ ⟨by simp [Act.put, upd, y0, y1, y2, y3, y4, y5, y6, y7, y8, y9, y10, y11, y12, y13, y14, y15, y16, y17, y18, y19, hL], by simpa [upd] using hph⟩
        simp only [y0, y1, y2, y3, y4, y5, y6, y7, y8, y9, y10, y11, y12, y13, y14, y15, y16, y17, y18, y19, hL, cond_true, cond_false]
        go_simp
    case fin4 =>
      intro L a' w' hall hI
      obtain ⟨rfl, hph⟩ := hI
      have l0 := hall 0 (by decide)
      have l1 := hall 1 (by decide)
      have l2 := hall 2 (by decide)
      have l3 := hall 3 (by decide)
      have l4 := hall 4 (by decide)
      have l5 := hall 5 (by decide)
      have l6 := hall 6 (by decide)
      have l7 := hall 7 (by decide)
      have l8 := hall 8 (by decide)
      have l9 := hall 9 (by decide)
      have l10 := hall 10 (by decide)
      have l11 := hall 11 (by decide)
      have l12 := hall 12 (by decide)
      have l13 := hall 13 (by decide)
      have l14 := hall 14 (by decide)
      have l15 := hall 15 (by decide)
      have l16 := hall 16 (by decide)
      have l17 := hall 17 (by decide)
      have l18 := hall 18 (by decide)
      have l19 := hall 19 (by decide)
      have l20 := hall 20 (by decide)
      simp only [l0, l1, l2, l3, l4, l5, l6, l7, l8, l9, l10, l11, l12, l13, l14, l15, l16, l17, l18, l19, l20, cond_true] at hph ⊢
      clear l0 l1 l2 l3 l4 l5 l6 l7 l8 l9 l10 l11 l12 l13 l14 l15 l16 l17 l18 l19 l20 hall
      have HAI : Hid (AI w w' w.heap.size wp bw A pb ib n pl st of ly) := Lib.hid (by rw [hph, ← HX.out]; exact HI.out.below (fun _ _ => rfl) (below_drewN (Below.refl _ _) 1))
      have HKO : Hid (KeepsOthers W w') := Lib.hid (by rw [hph, ← HX.out]; exact KeepsOthers.drew W)
      have HKC : Hid (KeepC (w.heap.size + 1 + 1) A pb W w') := Lib.hid (by rw [hph, ← HX.out]; exact ⟨rfl, rfl, rfl⟩)
      have HSZ : Hid (W3.heap.size ≤ w'.heap.size) := Lib.hid (by rw [hph, ← HX.out]; exact HS3.out)
      clear hph HF HX HI SP
      gi_wp2
      exact ⟨HKO.out, HKC.out, HAI.out, HSZ.out⟩

  case done =>
    rintro D ys W hD hys ⟨h1, h2⟩ hK
    have g1 : W.cell? ⟨w.heap.size + 1, 0, none⟩ = some (.bool false) := blk_cell h1.rs 0
    have g2 : W.frozen? ⟨w.heap.size + 1, 0, none⟩ = false := blk_frozen h1.rs 0
    have HD := Lib.hid (And.intro h1 (And.intro h2 (And.intro hK hD)))
    have hB : Hid (Below w.heap.size w (W.setCell ⟨w.heap.size + 1, 0, none⟩ (.bool false))) := Lib.hid (h1.bel.setCell (p := ⟨w.heap.size + 1, 0, none⟩) (by show w.heap.size ≤ w.heap.size + 1; omega) _)
    have hK2 : Hid ((W.setCell ⟨w.heap.size + 1, 0, none⟩ (.bool false)).heap[D]? = some (.deferred (some []))) := Lib.hid ((Below.heap_setCell _ _ _ _ (by simp; omega)).trans hK)
    have hR2 : (W.setCell ⟨w.heap.size + 1, 0, none⟩ (.bool false)).cell? ⟨w.heap.size + 1, 0, none⟩ = some (.bool false) := by
      have h := blk_set h1.rs 0 (.bool false)
      exact blk_cell h 0
    clear h1 h2 hK hD hh hi hw hA I3 o3
    gi_wp2
    obtain ⟨h1, h2, hK, hD⟩ := HD.out
    refine ⟨by simp, .inl ⟨_, _, rfl, run_takeDeferred hK2.out, ?_⟩⟩
    have hbk : Below W3.heap.size (W.setCell ⟨w.heap.size + 1, 0, none⟩ (.bool false)) ((W.setCell ⟨w.heap.size + 1, 0, none⟩ (.bool false)).putObj D (.deferred none)) := belowK_b (w := W3) (Nat.le_refl _) _ D _ _ hD hK2.out rfl rfl
    have hR3 : ((W.setCell ⟨w.heap.size + 1, 0, none⟩ (.bool false)).putObj D (.deferred none)).cell? ⟨w.heap.size + 1, 0, none⟩ = some (.bool false) := (hbk.cell (p := ⟨w.heap.size + 1, 0, none⟩) (by show w.heap.size + 1 < W3.heap.size; omega)).trans hR2
    exact ⟨.bool false, by simp [results, Try.f35, go_sem, hR3], rfl, hB.out.trans (hbk.mono (by omega))⟩
  case stop =>
    rintro D c pre W _ _ h _
    exact h.elim
end Go.Proofs.Ytobbkdhndojggaa
