/- packet: NewBand. -/
import Derived.Test.YtobbkdhndojggaaPkA
import Derived.RangeFuncNested
import Derived.RangeFuncBound
import Derived.RangeFuncCalls
import Derived.Shelf.RegionOpen
import Derived.Maps.OwnIn
import Derived.IntWalk
set_option linter.unusedVariables false
set_option linter.unusedSimpArgs false
namespace Go.Proofs.Ytobbkdhndojggaa
open Go.RowKit Go.Shelf
attribute [local go_sem] Oper.semAt_some
set_option maxRecDepth 100000
set_option maxHeartbeats 4000000 in
theorem tnew_p (W H : Nat) (w : World) (h : W ≤ 64 ∧ H ≤ 64) : Calls Try.prog 15 #[.int .i64 (W : Int), .int .i64 (H : Int)] w fun e w' => ∃ p, e = .returned (.pointer (some ⟨p, 0, none⟩)) ∧ w.heap.size ≤ p ∧ Below w.heap.size w w' := by
  have HB : Hid (Below w.heap.size w (w.alloc (Obj.cells #[.slice none 0 0] 114))) := Lib.hid ((Below.refl _ w).alloc (Nat.le_refl _) _)
  by_cases h1 : 1 ≤ W
  · by_cases h2 : 1 ≤ H
    · exact (newTree W H w ⟨h1, h.1⟩ ⟨h2, h.2⟩).mono fun e w' ⟨L, cl, sh, he, _, _, _, hb⟩ => ⟨_, he, Nat.le_refl _, hb⟩
    · obtain rfl : H = 0 := by omega
      have e0 : decide ((W : Int) < 1) = false := by simp; omega
      have e1 : decide ((64 : Int) < (W : Int)) = false := by simp; omega
      clear h1 h2
      go_enter Try.func15, Try.ntmps15
      go_wp2
      exact bodyPost_ret (v := .pointer (some ⟨w.heap.size, 0, none⟩)) (by simp [results, Try.results15, go_sem]) rfl ⟨_, rfl, Nat.le_refl _, HB.out⟩
  · obtain rfl : W = 0 := by omega
    go_enter Try.func15, Try.ntmps15
    go_wp2
    exact bodyPost_ret (v := .pointer (some ⟨w.heap.size, 0, none⟩)) (by simp [results, Try.results15, go_sem]) rfl ⟨_, rfl, Nat.le_refl _, HB.out⟩
theorem Try.info59 : (Try.prog.info? 59).map (fun i => (i.zero, i.size, i.bytes)) = some (some (.agg #[.int .i64 0, .slice none 0 0, .slice none 0 0, .int .i64 0]), 4, 64) := by kernel_rfl
def cells0 (n : Nat) : Array Value := madeCells #[.int .i64 0, .slice none 0 0, .slice none 0 0, .int .i64 0] (n * 4)
theorem hmkC (u : World) (q : Nat) (hq : q ≤ 5000) : (Instr.makeSlice 50 (.int .i64 (q : Int)) (.int .i64 (q : Int))).run Try.prog u = .ok (.slice (some ⟨u.heap.size, 0, none⟩) q q) (u.alloc (.cells (cells0 q) 59)) := by
  obtain ⟨i, hi, hzz⟩ := Option.map_eq_some_iff.1 Try.info59
  simp only [Prod.mk.injEq] at hzz
  obtain ⟨hz, hs, hb⟩ := hzz
  have hr := run_make (P := Try.prog) u 50 59 i (.agg #[.int .i64 0, .slice none 0 0, .slice none 0 0, .int .i64 0]) (by kernel_rfl) hi hz .i64 .i64 q q (by omega) (Int.le_refl _) (by rw [hb]; omega) (by omega)
  simp only [Int.toNat_natCast, hs] at hr
  exact hr
theorem cells0_get (n m : Nat) (hm : m < n) : (cells0 n)[m * 4]? = some (.int .i64 0) ∧ (cells0 n)[m * 4 + 1]? = some (.slice none 0 0) ∧ (cells0 n)[m * 4 + 2]? = some (.slice none 0 0) ∧ (cells0 n)[m * 4 + 3]? = some (.int .i64 0) := by
  unfold cells0
  simp only [madeCells, Array.getElem?_map]
  have e0 : (Array.range (n * 4))[m * 4]? = some (m * 4) := by rw [Array.getElem?_range]; simp; omega
  have e1 : (Array.range (n * 4))[m * 4 + 1]? = some (m * 4 + 1) := by rw [Array.getElem?_range]; simp; omega
  have e2 : (Array.range (n * 4))[m * 4 + 2]? = some (m * 4 + 2) := by rw [Array.getElem?_range]; simp; omega
  have e3 : (Array.range (n * 4))[m * 4 + 3]? = some (m * 4 + 3) := by rw [Array.getElem?_range]; simp; omega
  rw [e0, e1, e2, e3]
  simp only [Option.map_some]
  refine ⟨?_, ?_, ?_, ?_⟩
  · rw [show m * 4 % (#[Value.int .i64 0, .slice none 0 0, .slice none 0 0, .int .i64 0] : Array Value).size = 0 by show m * 4 % 4 = 0; omega]; rfl
  · rw [show (m * 4 + 1) % (#[Value.int .i64 0, .slice none 0 0, .slice none 0 0, .int .i64 0] : Array Value).size = 1 by show (m * 4 + 1) % 4 = 1; omega]; rfl
  · rw [show (m * 4 + 2) % (#[Value.int .i64 0, .slice none 0 0, .slice none 0 0, .int .i64 0] : Array Value).size = 2 by show (m * 4 + 2) % 4 = 2; omega]; rfl
  · rw [show (m * 4 + 3) % (#[Value.int .i64 0, .slice none 0 0, .slice none 0 0, .int .i64 0] : Array Value).size = 3 by show (m * 4 + 3) % 4 = 3; omega]; rfl
theorem cells0_size (n : Nat) : (cells0 n).size = n * 4 := by unfold cells0; simp [madeCells]
theorem items_made (w : World) (n : Nat) : BItems (w.alloc (.cells (cells0 n) 59)) w.heap.size n :=
  ⟨_, World.alloc_heap_new w _, cells0_size n, fun k hk => by
    obtain ⟨a, b, c, d⟩ := cells0_get n k hk
    exact ⟨a, b, c, 0, d⟩⟩
theorem all_any (pb : Nat) (w : World) : Calls Try.prog 16 #[.pointer (some ⟨pb, 0, none⟩)] w fun e w' => e = .returned (.func (.func 47) #[] #[.pointer (some ⟨w.heap.size, 0, none⟩)]) ∧ w' = w.alloc (.cells #[.pointer (some ⟨pb, 0, none⟩)] 121) := by
  go_enter Try.func16, Try.ntmps16
  go_wp2
  go_ret
  exact ⟨rfl, rfl⟩
abbrev Ix (m : Nat) := { k : Nat // k < m }
theorem keep2_t {c pb : Nat} {A B C : World} (h : Keep2 c pb A B) (k : Keep2 c pb B C) : Keep2 c pb A C := ⟨k.1.trans h.1, k.2.trans h.2⟩
theorem keep2_b {c pb N : Nat} (hc : c < N) (hp : pb < N) (W : World) (l : Nat) (o o' : Obj) (hl : N ≤ l) (h : W.heap[l]? = some o) (_ : o.isCells = false) (_ : o.isWalk = false) : Keep2 c pb W (W.putObj l o') :=
  ⟨(grownBy_putObj' W l o').block c (by have := (Array.getElem?_eq_some_iff.1 h).1; omega) (by simp; omega), (grownBy_putObj' W l o').block pb (by have := (Array.getElem?_eq_some_iff.1 h).1; omega) (by simp; omega)⟩
theorem all_sub (n : Nat) (hn : 3 ≤ n) (c pb ib m : Nat) (pl : Int) (hm : m ≤ 5000) (w : World) (hcl : c < w.heap.size) (hc : w.heap[c]? = some (.cells #[.pointer (some ⟨pb, 0, none⟩)] 121 (0, 0))) (hp : BHead w pb ib m pl) :
    SeqStopsK Fence.wide n Try.prog 47 #[.pointer (some ⟨c, 0, none⟩)] (fun x : Ix m => encA ib x.1) (Keep2 c pb)
      (fun ys => ys.map (·.1) = List.range m) (fun _ => True) m w := fun l J Jx W hW _ _ hY h0 => by
  refine (all1_in n hn l c pb ib m pl hm (fun xs W => ∃ ys : List (Ix m), ys.map (·.1) = xs ∧ J ys W) (fun _ W => ∃ ys : List (Ix m), Jx ys W) ?_ W
    ((hW.block c hcl).trans hc) (hp.keep (hW.block pb hp.lt)) ⟨[], rfl, h0⟩).mono ?_
  · rintro pre x W1 ⟨ys, rfl, hj⟩ hx hlen
    refine (hY ys ⟨x, hx⟩ W1 hj (by simpa using hlen)).mono ?_
    rintro e W' (⟨rfl, hj', hk⟩ | ⟨rfl, hx'⟩)
    · exact .inl ⟨rfl, ⟨_, by simp, hj'⟩, hk⟩
    · exact .inr ⟨rfl, _, hx'⟩
  · rintro e W' ⟨he, ⟨_, rfl, ys, hy, hj⟩ | ⟨_, _, ys, hx⟩⟩
    · exact ⟨he, .inl ⟨ys, hy, hj⟩⟩
    · exact ⟨he, .inr ⟨ys, trivial, hx⟩⟩
theorem wr_mul9 (a b c : Nat) (h : a ≤ 64) (h' : b ≤ 64) (hc : a * b = c) : wrap64 ((a : Int) * (b : Int)) = (c : Int) := by rw [wr_mul a b (by omega) (by omega), hc]
set_option maxHeartbeats 8000000 in
set_option pp.deepTerms true in
set_option pp.maxSteps 10000000 in
theorem newBand_any (W H pl : Nat) (w : World) (hWH : W ≤ 64 ∧ H ≤ 64) (hpl : pl ≤ 37) : Calls Try.prog 7 #[.int .i64 (W : Int), .int .i64 (H : Int), .int .i64 (pl : Int)] w fun e w' => ∃ pb ib, e = .returned (.pointer (some ⟨pb, 0, none⟩)) ∧
      BHead w' pb ib (W * H) pl ∧ BItems w' ib (W * H) ∧ w.heap.size ≤ pb ∧ w.heap.size ≤ ib ∧ pb ≠ ib ∧ Below w.heap.size w w' := by
  refine callsIn_wide (n := 9) |>.1 ?_
  have hF1 : Fence.wide.fn 15 := trivial
  have hF2 : Fence.wide.fn 16 := trivial
  obtain ⟨n, hn⟩ : ∃ n, W * H = n := ⟨_, rfl⟩
  have hn5 : n ≤ 4096 := by rw [← hn]; exact Nat.mul_le_mul hWH.1 hWH.2
  have hwm : wrap64 ((W : Int) * (H : Int)) = (n : Int) := wr_mul9 W H n hWH.1 hWH.2 hn
  have hnI : (W : Int) * (H : Int) = (n : Int) := by rw [← hn]; simp
  rw [hn]
  have hmk := fun u => hmkC u n (by omega)
  have e1 : decide ((W : Int) < 0) = false := by simp
  have e2 : decide ((64 : Int) < (W : Int)) = false := by simp; omega
  have e3 : decide ((H : Int) < 0) = false := by simp
  have e4 : decide ((64 : Int) < (H : Int)) = false := by simp; omega
  have e5 : decide ((pl : Int) < 0) = false := by simp
  have e6 : decide ((37 : Int) < (pl : Int)) = false := by simp; omega
  clear hn
  refine callsIn_of_wp_marks Try.func7 rfl trivial ?_ rfl
  simp only [Try.ntmps7, List.size_toArray, List.length_cons, List.length_nil, Nat.reduceAdd, Nat.reduceSub, Array.replicate_succ, Array.replicate_zero, List.push_toArray, List.append_toArray, List.nil_append, List.cons_append]
  gi_wp2_with fail
  refine (callsIn_wide.2 (tnew_p W H w hWH)).mono ?_
  rintro e w1 ⟨p1, rfl, hp1, hb1⟩
  have HB1 := Lib.hid hb1
  have hs1 := hb1.size
  clear hb1
  gi_wp2_with fail
  refine (callsIn_wide.2 (tnew_p W H w1 hWH)).mono ?_
  rintro e w2 ⟨p2, rfl, hp2, hb2⟩
  have HB2 := Lib.hid (HB1.out.trans (hb2.mono HB1.out.size))
  have hs2 := HB2.out.size
  clear hb2 HB1
  obtain ⟨pb, hpb⟩ : ∃ pb, w2.heap.size = pb := ⟨_, rfl⟩
  have hwp : w.heap.size ≤ pb := by omega
  obtain ⟨W3, hW3⟩ : ∃ W3, w2.alloc (Obj.cells #[.slice none 0 0, .int .i64 (pl : Int), .pointer (some ⟨p1, 0, none⟩), .pointer (some ⟨p2, 0, none⟩), .bool false] 54) = W3 := ⟨_, rfl⟩
  have b3 : W3.heap[pb]? = some (.cells #[.slice none 0 0, .int .i64 (pl : Int), .pointer (some ⟨p1, 0, none⟩), .pointer (some ⟨p2, 0, none⟩), .bool false] 54 (0, 0)) := by rw [← hW3, ← hpb]; exact World.alloc_heap_new w2 _
  have hs3 : W3.heap.size = pb + 1 := by rw [← hW3, ← hpb]; simp
  have hB3 : Below w.heap.size w W3 := by rw [← hW3]; exact HB2.out.alloc HB2.out.size _
  obtain ⟨W4, hW4⟩ : ∃ W4, W3.alloc (.cells (cells0 n) 59) = W4 := ⟨_, rfl⟩
  have b4 : W4.heap[pb]? = W3.heap[pb]? := by rw [← hW4]; exact Below.heap_alloc _ _ _ (by omega)
  have c4 : W4.cell? ⟨pb, 0, none⟩ = some (.slice none 0 0) := by rw [b3] at b4; simp [World.cell?, b4]
  have f4 : W4.frozen? ⟨pb, 0, none⟩ = false := by rw [b3] at b4; simp [World.frozen?, b4]
  have i4 : BItems W4 (pb + 1) n := by rw [← hW4, ← hs3]; exact items_made W3 n
  have hs4 : W4.heap.size = pb + 2 := by rw [← hW4]; simp [hs3]
  have hB4 : Below w.heap.size w W4 := by rw [← hW4]; exact hB3.alloc hB3.size _
  have I5 : Hid (BHead (W4.setCell ⟨pb, 0, none⟩ (.slice (some ⟨pb + 1, 0, none⟩) n n)) pb (pb + 1) n pl) := Lib.hid ⟨p1, p2, by rw [b3] at b4; simp [World.setCell, Array.getElem?_modify, b4]⟩
  have J5 : Hid (BItems (W4.setCell ⟨pb, 0, none⟩ (.slice (some ⟨pb + 1, 0, none⟩) n n)) (pb + 1) n) := Lib.hid (i4.keep (Below.heap_setCell _ _ _ _ (by simp)))
  have B5 : Hid (Below w.heap.size w (W4.setCell ⟨pb, 0, none⟩ (.slice (some ⟨pb + 1, 0, none⟩) n n))) := Lib.hid (hB4.setCell (p := ⟨pb, 0, none⟩) (by show w.heap.size ≤ pb; omega) _)
  have s5 : (W4.setCell ⟨pb, 0, none⟩ (.slice (some ⟨pb + 1, 0, none⟩) n n)).heap.size = pb + 2 := by simp [World.setCell, hs4]
  obtain ⟨W5, hW5⟩ : ∃ W5, W4.setCell ⟨pb, 0, none⟩ (.slice (some ⟨pb + 1, 0, none⟩) n n) = W5 := ⟨_, rfl⟩
  rw [hW5] at I5 J5 B5 s5
  clear b3 b4 hB3 i4 hB4
  gi_wp2_with fail
  clear hW3 hW4 hW5 hpb c4 f4 hs3 hs4 hmk hnI hwm
  refine (callsIn_wide.2 (all_any pb _)).mono ?_
  rintro e w' ⟨rfl, rfl⟩
  obtain ⟨W6, hW6⟩ : ∃ W6, W5.alloc (.cells #[.pointer (some ⟨pb, 0, none⟩)] 121) = W6 := ⟨_, rfl⟩
  have c6 : W6.heap[W5.heap.size]? = some (.cells #[.pointer (some ⟨pb, 0, none⟩)] 121 (0, 0)) := by rw [← hW6]; exact World.alloc_heap_new W5 _
  have hb56 : Below W5.heap.size W5 W6 := by rw [← hW6]; exact (Below.refl _ _).alloc (Nat.le_refl _) _
  have I6 := I5.out.keep (hb56.block _ I5.out.lt)
  have J6 := J5.out.keep (hb56.block _ J5.out.lt)
  have B6 := B5.out.trans (hb56.mono B5.out.size)
  have s6 : W6.heap.size = pb + 3 := by rw [← hW6]; simp [s5]
  rw [s5] at c6
  rw [hW6]
  clear hW6 hb56 I5 J5 B5
  gi_wp2_with fail
  have hF : Fence.wide.fn 47 := trivial
  refine wpIn_rangeFunc_ownF rfl (by omega) (gf := 47) (lb := #[.pointer (some ⟨pb + 2, 0, none⟩)]) rfl hF (enters_of Try.func47 (by kernel_rfl) rfl)
    (all_sub (9 - 1) (by omega) (pb + 2) pb (pb + 1) n pl (by omega) W6 (by omega) c6 I6) keep2_t (keep2_b (by omega) (by omega)) (Below.refl _ _) (fun _ => rfl)
    (fun (pre : List (Ix n)) W => BHead W pb (pb + 1) n pl ∧ BItems W (pb + 1) n ∧ W6.heap.size ≤ W.heap.size ∧ Below w.heap.size w W)
    (fun _ _ _ => False)
    ?hI
    (fun _ _ _ _ _ hs _ _ => hs)
    ?h0
    (fun x => { tmps := #[.int .i64 (W : Int), .int .i64 (H : Int), .int .i64 (pl : Int), undef, undef, undef, .pointer none, .pointer (some ⟨pb, 0, none⟩), undef, .pointer (some ⟨pb + 1, x.1 * 4, none⟩), .int .i64 (W : Int), .bool false, .bool false, .int .i64 (W : Int), .bool false, .bool false, .bool false, .int .i64 (H : Int), .bool false, .bool false, .bool false, .int .i64 (H : Int), .bool false, .bool false, .int .i64 (pl : Int), .bool false, .bool false, .int .i64 (pl : Int), .bool false, .bool false, .int .i64 (pl : Int), .int .i64 (W : Int), .int .i64 (H : Int), .pointer (some ⟨p1, 0, none⟩), .int .i64 (W : Int), .int .i64 (H : Int), .pointer (some ⟨p2, 0, none⟩), .agg #[.slice none 0 0, .int .i64 (pl : Int), .pointer (some ⟨p1, 0, none⟩), .pointer (some ⟨p2, 0, none⟩), .bool false], .pointer (some ⟨pb, 0, none⟩), .pointer (some ⟨pb, 0, none⟩), .int .i64 (W : Int), .int .i64 (H : Int), .int .i64 (n : Int), .slice (some ⟨pb + 1, 0, none⟩) n n, .pointer (some ⟨pb, 0, none⟩), .pointer (some ⟨pb, 0, none⟩), .pointer (some ⟨pb, 0, none⟩), .pointer (some ⟨pb, 0, none⟩), .pointer (some ⟨pb, 0, none⟩), .pointer (some ⟨pb, 0, none⟩), .func (Fn.func 47) #[] #[.pointer (some ⟨pb + 2, 0, none⟩)], .int .i64 (x.1 : Int), .pointer (some ⟨pb + 1, x.1 * 4, none⟩), undef, undef, undef, undef], defers := [] }) ?asg ?body ?done ?stop
  case hI =>
    rintro pre A B row ⟨h1, h2, h3, h4⟩ hg hr
    have hne : ∀ k, k < pb + 3 → some k ≠ row := fun k hk e => by have := (hr k e.symm).1; omega
    exact ⟨h1.keep (hg.block _ h1.lt (hne _ (by omega))), h2.keep (hg.block _ h2.lt (hne _ (by omega))), Nat.le_trans h3 hg.size, h4.grown hg h4.size (fun k e => by have := (hr k e).1; omega)⟩
  case h0 => exact ⟨I6, J6, Nat.le_refl _, B6⟩
  case asg =>
    intro l x W K hK
    gi_wp2
    exact hK
  case body =>
    rintro lr pre x W ⟨h1, h2, h3, h4⟩ hlt
    obtain ⟨k, hk⟩ := x
    obtain ⟨_, _, _, ⟨d, d3⟩, df⟩ := h2.cell hk
    have kf := df (k * 4 + 3)
    have P1 : Hid (BHead (W.setCell ⟨pb + 1, k * 4 + 3, none⟩ (.int .i64 3)) pb (pb + 1) n pl) := Lib.hid (h1.keep (Below.heap_setCell _ _ _ _ (by simp)))
    have P2 := Lib.hid (h2.set hk 3)
    have P3 : Hid (W6.heap.size ≤ (W.setCell ⟨pb + 1, k * 4 + 3, none⟩ (.int .i64 3)).heap.size) := Lib.hid (by simpa [World.setCell] using h3)
    have P4 : Hid (Below w.heap.size w (W.setCell ⟨pb + 1, k * 4 + 3, none⟩ (.int .i64 3))) := Lib.hid (h4.setCell (p := ⟨pb + 1, k * 4 + 3, none⟩) (by show w.heap.size ≤ pb + 1; omega) _)
    have P5 : Hid (KeepsOthers W (W.setCell ⟨pb + 1, k * 4 + 3, none⟩ (.int .i64 3))) := Lib.hid (KeepsOthers.setCell _ _ _)
    have P6 : Hid (Keep2 (pb + 2) pb W (W.setCell ⟨pb + 1, k * 4 + 3, none⟩ (.int .i64 3))) := Lib.hid ⟨Below.heap_setCell _ _ _ _ (by simp), Below.heap_setCell _ _ _ _ (by simp)⟩
    clear h1 h2 h3 h4 df hlt I6 J6 B6 c6
    simp only
    gi_wp2
    exact ⟨P5.out, P6.out, P1.out, P2.out, P3.out, P4.out⟩
  case done =>
    rintro D ys W hD hys ⟨h1, h2, h3, h4⟩ hK
    have HD := Lib.hid (And.intro h1 (And.intro h2 (And.intro h3 (And.intro h4 (And.intro hK hD)))))
    clear h1 h2 h3 h4 hK hD I6 J6 B6 c6
    gi_wp2
    obtain ⟨h1, h2, h3, h4, hK, hD⟩ := HD.out
    refine ⟨by simp, .inl ⟨_, _, rfl, run_takeDeferred hK, ?_⟩⟩
    have hbk : Below W6.heap.size W (W.putObj D (.deferred none)) := belowK_b (w := W6) (Nat.le_refl _) W D _ _ hD hK rfl rfl
    exact ⟨.pointer (some ⟨pb, 0, none⟩), by simp [results, Try.f7, go_sem], pb, pb + 1, rfl, h1.keep (hbk.block _ (by omega)), h2.keep (hbk.block _ (by omega)), by omega, by omega, by omega, h4.trans (hbk.mono (by omega))⟩
  case stop =>
    rintro D c pre W _ _ h _
    exact h.elim
end Go.Proofs.Ytobbkdhndojggaa
