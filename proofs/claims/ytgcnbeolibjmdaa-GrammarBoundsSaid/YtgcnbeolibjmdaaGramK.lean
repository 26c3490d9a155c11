/- The chapter's example of package grammar, walked. -/
import Derived.Test.YtgcnbeolibjmdaaGram
set_option linter.unusedVariables false
namespace Go.Proofs.Ytgcnbeolibjmdaa
open Go.RowKit

theorem blk_cell {w : World} {p : Nat} {cs : Array Value} {t : TypeId} (h : w.heap[p]? = some (.cells cs t (0, 0))) (i : Nat) : w.cell? ⟨p, i, none⟩ = cs[i]? := cell_of_row w p i cs t (0, 0) h
theorem blk_frozen {w : World} {p : Nat} {cs : Array Value} {t : TypeId} (h : w.heap[p]? = some (.cells cs t (0, 0))) (i : Nat) : w.frozen? ⟨p, i, none⟩ = false := by simp [World.frozen?, h]
theorem blk_lt {w : World} {p : Nat} {o : Obj} (h : w.heap[p]? = some o) : p < w.heap.size := (Array.getElem?_eq_some_iff.1 h).1
theorem blk_set {w : World} {p : Nat} {cs : Array Value} {t : TypeId} (h : w.heap[p]? = some (.cells cs t (0, 0))) (i : Nat) (u : Value) :
    (w.setCell ⟨p, i, none⟩ u).heap[p]? = some (.cells (cs.setIfInBounds i u) t (0, 0)) := by
  simp [World.setCell, Array.getElem?_modify, h]

def valAt (m : Int) : Nat → Int
  | 0 => 0
  | 1 => 255
  | _ => m
set_option maxHeartbeats 1000000 in
theorem number_a {w : World} {p b : Nat} {V1 V2 : Value} (hb : w.heap[p]? = some (.cells #[.slice (some ⟨b, 0, none⟩) 4 4, V1, V2] 36 (0, 0))) (f0 : w.cell? ⟨b, 0, none⟩ = some (.int .u8 255)) (f1 : w.cell? ⟨b, 1, none⟩ = some (.int .u8 79)) :
    Calls Try.prog 18 #[.pointer (some ⟨p, 0, none⟩), .int .i64 0, .int .i64 2] w fun e w' => e = .returned (.tuple #[.int .i64 65359, .bool true]) ∧ w = w' := by
  have q0 := blk_cell hb 0
  simp at q0
  have o1 : bits .or .i64 0 255 = 255 := by decide
  have o2 : bits .or .i64 65280 79 = 65359 := by decide
  clear hb
  go_enter Try.func18, Try.ntmps18
  go_wp2
  go_loop [6, 29] (fun v i => ∃ j : Nat, j ≤ 2 ∧ i = .int .i64 (j : Int) ∧ v = .int .i64 (valAt 65359 j)) (fun _ i => 2 - (intOf i).toNat)
  case atStart => exact ⟨0, by omega, rfl, rfl⟩
  case round =>
    obtain ⟨j, hj, rfl, rfl⟩ := hrel
    rcases j with _ | _ | _ | j
    · go_wp2
      go_round
      case rel => exact ⟨1, by omega, by go_num, by first | rfl | (simp [valAt]; rw [IntWalk.wrap64_in _ (by omega)]; decide)⟩
      case measure => simp [intOf]
    · go_wp2
      go_round
      case rel => exact ⟨2, by omega, by go_num, by first | rfl | (simp [valAt]; rw [IntWalk.wrap64_in _ (by omega)]; decide)⟩
      case measure => simp [intOf]
    · go_wp2
      go_ret2
      exact ⟨rfl, rfl⟩
    · omega

set_option maxHeartbeats 1000000 in
theorem number_b {w : World} {p b : Nat} {V1 V2 : Value} (hb : w.heap[p]? = some (.cells #[.slice (some ⟨b, 0, none⟩) 4 4, V1, V2] 36 (0, 0))) (f0 : w.cell? ⟨b, 2, none⟩ = some (.int .u8 255)) (f1 : w.cell? ⟨b, 3, none⟩ = some (.int .u8 217)) :
    Calls Try.prog 18 #[.pointer (some ⟨p, 0, none⟩), .int .i64 2, .int .i64 2] w fun e w' => e = .returned (.tuple #[.int .i64 65497, .bool true]) ∧ w = w' := by
  have q0 := blk_cell hb 0
  simp at q0
  have o1 : bits .or .i64 0 255 = 255 := by decide
  have o2 : bits .or .i64 65280 217 = 65497 := by decide
  clear hb
  go_enter Try.func18, Try.ntmps18
  go_wp2
  go_loop [6, 29] (fun v i => ∃ j : Nat, j ≤ 2 ∧ i = .int .i64 (j : Int) ∧ v = .int .i64 (valAt 65497 j)) (fun _ i => 2 - (intOf i).toNat)
  case atStart => exact ⟨0, by omega, rfl, rfl⟩
  case round =>
    obtain ⟨j, hj, rfl, rfl⟩ := hrel
    rcases j with _ | _ | _ | j
    · go_wp2
      go_round
      case rel => exact ⟨1, by omega, by go_num, by first | rfl | (simp [valAt]; rw [IntWalk.wrap64_in _ (by omega)]; decide)⟩
      case measure => simp [intOf]
    · go_wp2
      go_round
      case rel => exact ⟨2, by omega, by go_num, by first | rfl | (simp [valAt]; rw [IntWalk.wrap64_in _ (by omega)]; decide)⟩
      case measure => simp [intOf]
    · go_wp2
      go_ret2
      exact ⟨rfl, rfl⟩
    · omega


set_option maxHeartbeats 1000000 in
theorem stands_b {w : World} {p b : Nat} {V1 V2 : Value} (hb : w.heap[p]? = some (.cells #[.slice (some ⟨b, 0, none⟩) 4 4, V1, V2] 36 (0, 0))) (f0 : w.cell? ⟨b, 2, none⟩ = some (.int .u8 255)) (f1 : w.cell? ⟨b, 3, none⟩ = some (.int .u8 217)) :
    Calls Try.prog 14 #[.pointer (some ⟨p, 0, none⟩), .int .i64 2, .int .i64 65424] w fun e w' => e = .returned (.bool false) ∧ w = w' := by
  have N := Lib.hid (number_b hb f0 f1)
  clear hb f0 f1
  go_enter Try.func14, Try.ntmps14
  go_wp2_with fail
  refine N.out.mono ?_
  rintro e w1 ⟨rfl, rfl⟩
  go_wp2
  go_ret
  exact ⟨rfl, rfl⟩
set_option maxHeartbeats 1000000 in
theorem seg_fun (w : World) : Calls Try.prog 19 #[.int .i64 65497] w fun e w' => e = .returned (.bool false) ∧ w = w' := by
  go_enter Try.func19, Try.ntmps19
  go_wp2
  go_ret
  exact ⟨rfl, rfl⟩
set_option maxHeartbeats 1000000 in
theorem str_fun (w : World) : Calls Try.prog 13 #[.int .i64 65359] w fun e w' => e = .returned (.bool true) ∧ w = w' := by
  go_enter Try.func13, Try.ntmps13
  go_wp2
  go_ret
  exact ⟨rfl, rfl⟩
set_option maxHeartbeats 1000000 in
theorem marker_b {w : World} {p b : Nat} {V1 V2 : Value} (hb : w.heap[p]? = some (.cells #[.slice (some ⟨b, 0, none⟩) 4 4, V1, V2] 36 (0, 0))) (f0 : w.cell? ⟨b, 2, none⟩ = some (.int .u8 255)) (f1 : w.cell? ⟨b, 3, none⟩ = some (.int .u8 217)) :
    Calls Try.prog 12 #[.pointer (some ⟨p, 0, none⟩), .int .i64 2, .func (.func 19) #[] #[]] w fun e w' => e = .returned (.tuple #[.int .i64 0, .bool false]) ∧ w = w' := by
  have N := Lib.hid (number_b hb f0 f1)
  clear hb f0 f1
  go_enter Try.func12, Try.ntmps12
  go_wp2_with fail
  refine N.out.mono ?_
  rintro e w1 ⟨rfl, rfl⟩
  go_wp2_with (go_at_call 19; refine (seg_fun _).mono ?_; rintro e w1 ⟨rfl, rfl⟩)
  go_ret2
  exact ⟨rfl, rfl⟩
set_option maxHeartbeats 1000000 in
theorem segment_b {w : World} {p b : Nat} {V1 V2 : Value} (hb : w.heap[p]? = some (.cells #[.slice (some ⟨b, 0, none⟩) 4 4, V1, V2] 36 (0, 0))) (f0 : w.cell? ⟨b, 2, none⟩ = some (.int .u8 255)) (f1 : w.cell? ⟨b, 3, none⟩ = some (.int .u8 217)) :
    Calls Try.prog 15 #[.pointer (some ⟨p, 0, none⟩), .int .i64 2] w fun e w' => e = .returned (.tuple #[.int .i64 0, .bool false]) ∧ w = w' := by
  have N := Lib.hid (marker_b hb f0 f1)
  clear hb f0 f1
  go_enter Try.func15, Try.ntmps15
  go_wp2_with fail
  refine N.out.mono ?_
  rintro e w1 ⟨rfl, rfl⟩
  go_wp2
  go_ret2
  exact ⟨rfl, rfl⟩
def mine (p : Nat) (w : World) (k : Nat) : Prop := k = p ∨ w.heap.size ≤ k
set_option maxHeartbeats 4000000 in
theorem marker_a {w : World} {p b : Nat} (hb : w.heap[p]? = some (.cells #[.slice (some ⟨b, 0, none⟩) 4 4, .slice none 0 0, .slice none 0 0] 36 (0, 0))) (f0 : w.cell? ⟨b, 0, none⟩ = some (.int .u8 255)) (f1 : w.cell? ⟨b, 1, none⟩ = some (.int .u8 79)) :
    Calls Try.prog 12 #[.pointer (some ⟨p, 0, none⟩), .int .i64 0, .func (.func 13) #[] #[]] w fun e w' => e = .returned (.tuple #[.int .i64 2, .bool true]) ∧ (∃ V1 V2, w'.heap[p]? = some (.cells #[.slice (some ⟨b, 0, none⟩) 4 4, V1, V2] 36 (0, 0))) ∧ Only (mine p w) w w' := by
  obtain ⟨i0, hi, hz0, hz1, hz2⟩ := info_parts Try.info3
  have N := Lib.hid (number_a hb f0 f1)
  have HB := Lib.hid hb
  have plt := blk_lt hb
  have B0 : Only (mine p w) w w := Only.refl _ _
  have c1 := blk_cell hb 1
  have z1 := blk_frozen hb 1
  simp at c1
  clear hb f0 f1
  go_enter Try.func12, Try.ntmps12
  go_wp2_with fail
  refine N.out.mono ?_
  rintro e w1 ⟨rfl, rfl⟩
  go_wp2_with fail
  go_at_call 13
  refine (str_fun _).mono ?_
  rintro e w1 ⟨rfl, rfl⟩
  go_wp2_with (at_builtin; refine wpList_append_own_at _ rfl _ _ 28 rfl 0 3 i0 (.int .i64 0) 1 8 Try.underlying28 hi hz0 hz1 hz2 rfl (by decide) _ _ _ rfl (World.ownsRow_nil _ _ _ _) ⟨w.heap.size, 0, none⟩ 1 1 [.int .i64 65359] rfl rfl (cell_one_new _ _ _) ?k2 ?k3 ?k4 ?k5 ?_)
  case k2 => intro u hu; simp at hu; subst hu; rfl
  case k3 => unfold maxLen; omega
  case k4 => omega
  case k5 => exact Nat.zero_le _
  intro v4 w4 hown4 hg4 _ hat4
  have hb4 : w4.heap[p]? = some (.cells #[.slice (some ⟨b, 0, none⟩) 4 4, .slice none 0 0, .slice none 0 0] 36 (0, 0)) := (hg4.block p (by simp; omega) (by simp [Value.ownBlock])).trans ((Below.heap_alloc w _ p plt).trans HB.out)
  have B4 : Only (mine p w) w w4 := (B0.alloc (Or.inr (Nat.le_refl _)) _).grown hg4 (fun k hk => Or.inr (Nat.le_trans (by simp) hk)) (fun k hk => by simp [Value.ownBlock] at hk)
  obtain ⟨A4, c4, rfl, _, _, _⟩ := own_any hown4
  have d1 := blk_cell hb4 1
  have y1 := blk_frozen hb4 1
  simp at d1
  have hb5 := blk_set hb4 1 (.slice A4 1 c4)
  have B5 := B4.setCell (p := ⟨p, 1, none⟩) (Or.inl rfl) (.slice A4 1 c4)
  generalize hW5 : w4.setCell ⟨p, 1, none⟩ (.slice A4 1 c4) = W5 at *
  have HB5 : Hid (W5.heap[p]? = some (.cells #[.slice (some ⟨b, 0, none⟩) 4 4, .slice A4 1 c4, .slice none 0 0] 36 (0, 0))) := hb5
  clear hown4 hg4 hat4 hb4 hb5 B4 B0 c1 z1
  have e2 := blk_cell HB5.out 2
  have z2 := blk_frozen HB5.out 2
  have lt5 := blk_lt HB5.out
  simp at e2
  go_wp2_with (at_builtin; refine wpList_append_own_at _ rfl _ _ 28 rfl 0 3 i0 (.int .i64 0) 1 8 Try.underlying28 hi hz0 hz1 hz2 rfl (by decide) _ _ _ rfl (World.ownsRow_nil _ _ _ _) ⟨W5.heap.size, 0, none⟩ 1 1 [.int .i64 0] rfl rfl (cell_one_new _ _ _) ?l2 ?l3 ?l4 ?l5 ?_)
  case l2 => intro u hu; simp at hu; subst hu; rfl
  case l3 => unfold maxLen; omega
  case l4 => omega
  case l5 => exact Nat.zero_le _
  intro v6 w6 hown6 hg6 _ hat6
  have hb6 : w6.heap[p]? = some (.cells #[.slice (some ⟨b, 0, none⟩) 4 4, .slice A4 1 c4, .slice none 0 0] 36 (0, 0)) := (hg6.block p (by simp; omega) (by simp [Value.ownBlock])).trans ((Below.heap_alloc W5 _ p lt5).trans HB5.out)
  have s5 := B5.size
  have B6 : Only (mine p w) w w6 := (B5.alloc (Or.inr s5) _).grown hg6 (fun k hk => Or.inr (Nat.le_trans (Nat.le_trans s5 (by simp)) hk)) (fun k hk => by simp [Value.ownBlock] at hk)
  obtain ⟨A6, c6, rfl, _, _, _⟩ := own_any hown6
  have d2 := blk_cell hb6 2
  have y2 := blk_frozen hb6 2
  simp at d2
  have hb7 := blk_set hb6 2 (.slice A6 1 c6)
  have B7 := B6.setCell (p := ⟨p, 2, none⟩) (Or.inl rfl) (.slice A6 1 c6)
  generalize hW7 : w6.setCell ⟨p, 2, none⟩ (.slice A6 1 c6) = W7 at *
  have HB7 : Hid (W7.heap[p]? = some (.cells #[.slice (some ⟨b, 0, none⟩) 4 4, .slice A4 1 c4, .slice A6 1 c6] 36 (0, 0))) := hb7
  clear hown6 hg6 hat6 hb6 hb7 B6 B5 HB5 HB N
  go_wp2
  go_ret2
  exact ⟨rfl, ⟨_, _, HB7.out⟩, B7⟩
set_option maxHeartbeats 4000000 in
theorem stream_a {w : World} {p b : Nat} (hb : w.heap[p]? = some (.cells #[.slice (some ⟨b, 0, none⟩) 4 4, .slice none 0 0, .slice none 0 0] 36 (0, 0))) (hbp : b ≠ p) (hbl : b < w.heap.size) (f0 : w.cell? ⟨b, 0, none⟩ = some (.int .u8 255)) (f1 : w.cell? ⟨b, 1, none⟩ = some (.int .u8 79)) (f2 : w.cell? ⟨b, 2, none⟩ = some (.int .u8 255)) (f3 : w.cell? ⟨b, 3, none⟩ = some (.int .u8 217)) :
    Calls Try.prog 11 #[.pointer (some ⟨p, 0, none⟩)] w fun e w' => e = .returned (.bool false) ∧ Only (mine p w) w w' := by
  have M := Lib.hid (marker_a hb f0 f1)
  clear hb f0 f1
  go_enter Try.func11, Try.ntmps11
  go_wp2_with fail
  refine M.out.mono ?_
  rintro e w1 ⟨rfl, ⟨V1, V2, h1⟩, B1⟩
  have g2 := (B1.cell (p := ⟨b, 2, none⟩) (fun h => h.elim hbp (fun h => absurd hbl (by simp at h; omega)))).trans f2
  have g3 := (B1.cell (p := ⟨b, 3, none⟩) (fun h => h.elim hbp (fun h => absurd hbl (by simp at h; omega)))).trans f3
  have ST := Lib.hid (stands_b h1 g2 g3)
  have SG := Lib.hid (segment_b h1 g2 g3)
  clear f2 f3 g2 g3 h1 M
  go_wp2
  go_loopw [3, 4] (fun a ok wr => ((a = .int .i64 2 ∧ ok = .bool true) ∨ (a = .int .i64 0 ∧ ok = .bool false)) ∧ w1 = wr) (fun _ ok _ => match ok with | .bool true => 1 | _ => 0)
  case atStart => exact ⟨Or.inl ⟨rfl, rfl⟩, rfl⟩
  case round =>
    obtain ⟨(⟨rfl, rfl⟩ | ⟨rfl, rfl⟩), rfl⟩ := hrel
    · go_wp2_with fail
      refine ST.out.mono ?_
      rintro e w2 ⟨rfl, rfl⟩
      go_wp2_with fail
      refine SG.out.mono ?_
      rintro e w2 ⟨rfl, rfl⟩
      go_wp2
      go_roundw
      case rel => exact ⟨Or.inr ⟨rfl, rfl⟩, by first | trivial | rfl⟩
      case measure => simp
    · go_wp2
      go_loopw [3, 4] (fun a ok wr => (a = .int .i64 0 ∧ ok = .bool false) ∧ w1 = wr) (fun _ _ _ => 0)
      case atStart => exact ⟨⟨rfl, rfl⟩, rfl⟩
      case round =>
        obtain ⟨⟨rfl, rfl⟩, rfl⟩ := hrel
        go_wp2
        go_ret
        exact ⟨rfl, B1⟩
set_option maxHeartbeats 4000000 in
theorem walk_a {w : World} {b : Nat} (hbl : b < w.heap.size) (f0 : w.cell? ⟨b, 0, none⟩ = some (.int .u8 255)) (f1 : w.cell? ⟨b, 1, none⟩ = some (.int .u8 79)) (f2 : w.cell? ⟨b, 2, none⟩ = some (.int .u8 255)) (f3 : w.cell? ⟨b, 3, none⟩ = some (.int .u8 217)) :
    Calls Try.prog 8 #[.slice (some ⟨b, 0, none⟩) 4 4] w fun e w' => e = .returned (.tuple #[.slice none 0 0, .slice none 0 0, .int .i64 10]) ∧ Below w.heap.size w w' := by
  have ST : Hid (Calls Try.prog 11 #[.pointer (some ⟨w.heap.size, 0, none⟩)] (w.alloc (.cells #[.slice (some ⟨b, 0, none⟩) 4 4, .slice none 0 0, .slice none 0 0] 36)) fun e w' => e = .returned (.bool false) ∧ Only (mine w.heap.size (w.alloc (.cells #[.slice (some ⟨b, 0, none⟩) 4 4, .slice none 0 0, .slice none 0 0] 36))) (w.alloc (.cells #[.slice (some ⟨b, 0, none⟩) 4 4, .slice none 0 0, .slice none 0 0] 36)) w') := by
    refine Lib.hid (stream_a (heap_alloc_new w _) (by omega) (by simp; omega) ?_ ?_ ?_ ?_)
    · exact (World.cell?_alloc_lt w _ _ hbl).trans f0
    · exact (World.cell?_alloc_lt w _ _ hbl).trans f1
    · exact (World.cell?_alloc_lt w _ _ hbl).trans f2
    · exact (World.cell?_alloc_lt w _ _ hbl).trans f3
  clear f0 f1 f2 f3
  go_enter Try.func8, Try.ntmps8
  go_wp2_with fail
  refine ST.out.mono ?_
  rintro e w1 ⟨rfl, B1⟩
  have b1 : Below w.heap.size w w1 := ((Below.refl _ _).alloc (Nat.le_refl _) _).trans (B1.below (lo := w.heap.size) (fun k hk => by unfold mine at hk; simp at hk; omega))
  go_wp2
  go_ret3
  exact ⟨rfl, b1⟩
theorem lit_lst {w : World} {e : TypeId} (F : List Int) : Lst (w.alloc (.cells (F.map (Value.int .u8)).toArray e)) (w.heap.size + 1) (some ⟨w.heap.size, 0, none⟩) (F.map (Value.int .u8)) := by
  intro i u hu
  refine ⟨_, _, rfl, by omega, ?_⟩
  have := cell_of_row (w.alloc (.cells (F.map (Value.int .u8)).toArray e)) w.heap.size i (F.map (Value.int .u8)).toArray e (0, 0) (heap_alloc_new w _)
  rw [Nat.zero_add, this]
  simpa using hu
set_option maxHeartbeats 4000000 in
theorem known19 (w : World) : Calls Try.prog 5 #[] w fun e w' => e = .returned (.bool true) ∧ Below w.heap.size w w' := by
  have WA : Hid (Calls Try.prog 8 #[.slice (some ⟨w.heap.size, 0, none⟩) 4 4] (w.alloc (.cells #[.int .u8 255, .int .u8 79, .int .u8 255, .int .u8 217] 5)) fun e w' => e = .returned (.tuple #[.slice none 0 0, .slice none 0 0, .int .i64 10]) ∧ Below (w.alloc (.cells #[.int .u8 255, .int .u8 79, .int .u8 255, .int .u8 217] 5)).heap.size (w.alloc (.cells #[.int .u8 255, .int .u8 79, .int .u8 255, .int .u8 217] 5)) w') := by
    have hc := fun i => cell_of_row (w.alloc (.cells #[.int .u8 255, .int .u8 79, .int .u8 255, .int .u8 217] 5)) w.heap.size i #[.int .u8 255, .int .u8 79, .int .u8 255, .int .u8 217] 5 (0, 0) (heap_alloc_new w _)
    refine Lib.hid (walk_a (by simp) (hc 0) (hc 1) (hc 2) (hc 3))
  go_enter Try.func5, Try.ntmps5
  go_wp2_with fail
  refine WA.out.mono ?_
  rintro e w1 ⟨rfl, b1⟩
  have b1' : Below w.heap.size w w1 := ((Below.refl _ _).alloc (Nat.le_refl _) _).trans (b1.mono (by simp))
  have s1 := b1'.size
  have C1 : Hid (Calls Try.prog 7 #[.slice (some ⟨w1.heap.size, 0, none⟩) 2 2] (w1.alloc (.cells #[.int .u8 255, .int .u8 143] 5)) fun e w' => e = .returned (.bool true) ∧ Drew (w1.alloc (.cells #[.int .u8 255, .int .u8 143] 5)) w') := Lib.hid (by
    have := clean_any (n := 2) (c := 2) (l := [255, 143]) rfl (lit_lst (w := w1) (e := 5) [255, 143]) (by omega)
    rwa [show clean [255, 143] = true from by decide] at this)
  clear b1 WA
  go_wp2_with fail
  refine C1.out.mono ?_
  rintro e w2 ⟨rfl, hd2⟩
  have b2 := Drew.to (b1'.alloc s1 (.cells #[.int .u8 255, .int .u8 143] 5)) hd2
  have s2 := b2.size
  have C2 : Hid (Calls Try.prog 7 #[.slice (some ⟨w2.heap.size, 0, none⟩) 2 2] (w2.alloc (.cells #[.int .u8 255, .int .u8 144] 5)) fun e w' => e = .returned (.bool false) ∧ Drew (w2.alloc (.cells #[.int .u8 255, .int .u8 144] 5)) w') := Lib.hid (by
    have := clean_any (n := 2) (c := 2) (l := [255, 144]) rfl (lit_lst (w := w2) (e := 5) [255, 144]) (by omega)
    rwa [show clean [255, 144] = false from by decide] at this)
  clear hd2 C1 b1'
  go_wp2_with fail
  refine C2.out.mono ?_
  rintro e w3 ⟨rfl, hd3⟩
  have b3 := Drew.to (b2.alloc s2 (.cells #[.int .u8 255, .int .u8 144] 5)) hd3
  clear hd3 C2 b2
  go_wp2
  go_ret
  exact ⟨rfl, b3⟩
end Go.Proofs.Ytgcnbeolibjmdaa
