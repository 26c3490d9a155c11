/- marks: what size reads of a right segment. -/
import Derived.Test.YtlbfjaifemnkpaaBytesGet
import Derived.Test.YtlbfjaifemnkpaaBytesTake
import Derived.Test.YtlbfjaifemnkpaaMkSb
import Derived.Laws.Rows
import Derived.Test.YtlbfjaifemnkpaaCvN2
import Derived.Test.YtlbfjaifemnkpaaReg3
import Derived.Deep.LoopGhost
set_option linter.unusedVariables false
set_option linter.unusedSimpArgs false
namespace Go.Proofs.Ytlbfjaifemnkpaa
section
section
section
open Go.RowKit
set_option maxRecDepth 100000
/-- Bytes. -/
def Oct (l : List Int) : Prop := ∀ x ∈ l, 0 ≤ x ∧ x ≤ 255
theorem Oct.hd {x : Int} {l : List Int} (h : Oct (x :: l)) : 0 ≤ x ∧ x ≤ 255 := h x List.mem_cons_self
theorem Oct.tl {x : Int} {l : List Int} (h : Oct (x :: l)) : Oct l := fun y hy => h y (List.mem_cons_of_mem _ hy)
theorem Oct.drop {l : List Int} (h : Oct l) (n : Nat) : Oct (l.drop n) := fun y hy => h y (List.mem_of_mem_drop hy)
theorem Oct.app {l m : List Int} (h : Oct l) (k : Oct m) : Oct (l ++ m) := fun y hy => (List.mem_append.1 hy).elim (h y) (k y)
section
variable {w : World} {lo p : Nat} {l : List Int} {a b c d : Int}
theorem get1 (h : Rd w lo p (a :: l) 0) (ho : Oct (a :: l)) (hl : l.length ≤ 1000000) :
    Calls Try.prog 33 #[.pointer (some ⟨p, 0, none⟩), .int .i64 1] w fun e w' => e = .returned (.int .i64 a) ∧ Rd w' lo p l 0 ∧ w.grownBy w' (some p) := by
  refine (get_yes 1 h (by omega) (by simp) (by simp; omega) ho).mono ?_
  rintro e w' ⟨rfl, h1, h2⟩
  have e : wrap64 (numL 0 ([a])) = a := by
    have := ho.hd
    simp only [numL, List.foldl]
    rw [show (0 : Int) * 256 % 18446744073709551616 + a = a by omega]
    exact IntWalk.wrap64_in _ (by omega)
  exact ⟨by rw [show (a :: l).take 1 = [a] from rfl, e], h1, h2⟩
theorem get2 (h : Rd w lo p (a :: b :: l) 0) (ho : Oct (a :: b :: l)) (hl : l.length ≤ 1000000) :
    Calls Try.prog 33 #[.pointer (some ⟨p, 0, none⟩), .int .i64 2] w fun e w' => e = .returned (.int .i64 (a * 256 + b)) ∧ Rd w' lo p l 0 ∧ w.grownBy w' (some p) := by
  refine (get_yes 2 h (by omega) (by simp) (by simp; omega) ho).mono ?_
  rintro e w' ⟨rfl, h1, h2⟩
  have e : wrap64 (numL 0 ([a, b])) = a * 256 + b := by
    have := ho.hd
    have := ho.tl.hd
    simp only [numL, List.foldl]
    rw [show ((0 : Int) * 256 % 18446744073709551616 + a) * 256 % 18446744073709551616 + b = a * 256 + b by omega]
    exact IntWalk.wrap64_in _ (by omega)
  exact ⟨by rw [show (a :: b :: l).take 2 = [a, b] from rfl, e], h1, h2⟩
theorem get4 (h : Rd w lo p (a :: b :: c :: d :: l) 0) (ho : Oct (a :: b :: c :: d :: l)) (hl : l.length ≤ 1000000) :
    Calls Try.prog 33 #[.pointer (some ⟨p, 0, none⟩), .int .i64 4] w fun e w' => e = .returned (.int .i64 (((a * 256 + b) * 256 + c) * 256 + d)) ∧ Rd w' lo p l 0 ∧ w.grownBy w' (some p) := by
  refine (get_yes 4 h (by omega) (by simp) (by simp; omega) ho).mono ?_
  rintro e w' ⟨rfl, h1, h2⟩
  have e : wrap64 (numL 0 ([a, b, c, d])) = ((a * 256 + b) * 256 + c) * 256 + d := by
    have := ho.hd
    have := ho.tl.hd
    have := ho.tl.tl.hd
    have := ho.tl.tl.tl.hd
    simp only [numL, List.foldl]
    rw [show (((( 0 : Int) * 256 % 18446744073709551616 + a) * 256 % 18446744073709551616 + b) * 256 % 18446744073709551616 + c) * 256 % 18446744073709551616 + d = ((a * 256 + b) * 256 + c) * 256 + d by omega]
    exact IntWalk.wrap64_in _ (by omega)
  exact ⟨by rw [show (a :: b :: c :: d :: l).take 4 = [a, b, c, d] from rfl, e], h1, h2⟩
end
end
section
open Go.RowKit
set_option maxRecDepth 100000
set_option maxHeartbeats 4000000 in
theorem code_fn (x pr : Int) (q : Nat) (w : World) (hx : 0 ≤ x ∧ x ≤ 255) (hq : w.cell? ⟨q, 0, none⟩ = some (.int .i64 pr)) : Calls Try.prog 84 #[.int .u8 x, .pointer (some ⟨q, 0, none⟩)] w fun e w' => e = .returned (.bool (decide (¬ x = pr))) ∧ w = w' := by
  by_cases h : x = pr
  · subst h
    go_enter Try.func84, Try.ntmps84
    go_wp2
    go_ret
    simp
  · go_enter Try.func84, Try.ntmps84
    go_wp2
    go_ret
    simp [h]
set_option maxHeartbeats 8000000 in
theorem index_no (pr : Int) (q n c : Nat) (A : Option Addr) (w : World) (hp : 0 ≤ pr ∧ pr ≤ 255) (hq : w.cell? ⟨q, 0, none⟩ = some (.int .i64 pr)) (hL : ∀ (i : Nat), i < n → ∃ g o, A = some ⟨g, o, none⟩ ∧ w.cell? ⟨g, o + i, none⟩ = some (.int .u8 pr)) (hn : n ≤ 1000) :
    Calls Try.prog 85 #[.slice A n c, .func (Fn.func 84) #[] #[.pointer (some ⟨q, 0, none⟩)]] w fun e w' => e = .returned (.int .i64 (-1)) ∧ w = w' := by
  have HL := Lib.hid hL
  clear hL
  go_enter Try.func85, Try.ntmps85
  go_wp2_with fail
  go_loopg [8] n (fun g v wr => ∃ i : Nat, i + g = n ∧ v = .int .i64 (i : Int) ∧ w = wr)
  case atStart => exact ⟨0, by omega, rfl, rfl⟩
  case round =>
    obtain ⟨i, hig, rfl, rfl⟩ := hrel
    by_cases hin : i < n
    · obtain ⟨g1, rfl⟩ : ∃ g1, gk = g1 + 1 := ⟨gk - 1, by omega⟩
      have hiI : (i : Int) < (n : Int) ∧ ¬ (i : Int) < 0 := by omega
      obtain ⟨g, o, rfl, hc⟩ := HL.out i hin
      have CF := Lib.hid (code_fn pr pr q w hp hq)
      go_wp2_with fail
      refine CF.out.mono ?_
      rintro e w1 ⟨rfl, rfl⟩
      have hd : decide (¬ pr = pr) = false := by simp
      go_wp2
      go_roundg g1
      case measure => omega
      case rel => exact ⟨i + 1, by omega, by go_num, rfl⟩
    · obtain rfl : i = n := by omega
      have hlc : ¬ (i : Int) < (i : Int) := by omega
      go_wp2
      go_ret
      first | done | exact ⟨rfl, rfl⟩ | rfl
set_option maxHeartbeats 8000000 in
theorem contains_no (pr : Int) (q n c : Nat) (A : Option Addr) (w : World) (hp : 0 ≤ pr ∧ pr ≤ 255) (hq : w.cell? ⟨q, 0, none⟩ = some (.int .i64 pr)) (hL : ∀ (i : Nat), i < n → ∃ g o, A = some ⟨g, o, none⟩ ∧ w.cell? ⟨g, o + i, none⟩ = some (.int .u8 pr)) (hn : n ≤ 1000) :
    Calls Try.prog 83 #[.slice A n c, .func (Fn.func 84) #[] #[.pointer (some ⟨q, 0, none⟩)]] w fun e w' => e = .returned (.bool false) ∧ w = w' := by
  have IN := Lib.hid (index_no pr q n c A w hp hq hL hn)
  clear hL hq
  go_enter Try.func83, Try.ntmps83
  go_wp2_with fail
  refine IN.out.mono ?_
  rintro e w1 ⟨rfl, rfl⟩
  go_wp2
  go_ret
  first | done | exact ⟨rfl, rfl⟩ | rfl
end
end
section
open Go.RowKit
set_option maxRecDepth 100000
/-- A parser beside a Reader of its own content. -/
structure Cst (w0 w : World) (P lo q : Nat) (l : List Int) (cs : Array Value) : Prop where
  pb : w.heap[P]? = some (.cells cs 69 (0, 0))
  rd : Rd w lo q l 0
  gr : w0.grownBy w (some P)
  lo : P < lo ∧ w0.heap.size ≤ lo
section
variable {w0 w w' : World} {P lo q : Nat} {l l' : List Int} {cs : Array Value}
theorem Cst.get (h : Cst w0 w P lo q l cs) (hR : Rd w' lo q l' 0) (hg : w.grownBy w' (some q)) : Cst w0 w' P lo q l' cs := by
  have h1 := h.lo
  have h2 := h.rd.1
  exact ⟨(hg.block P (blk_lt h.pb) (fun e => by injection e with e; omega)).trans h.pb, hR, ⟨hg.os.trans h.gr.os, hg.tape.trans h.gr.tape, hg.output.trans h.gr.output, Nat.le_trans h.gr.size hg.size, fun k hk hkP => (hg.block k (Nat.lt_of_lt_of_le hk h.gr.size) (fun e => by injection e with e; omega)).trans (h.gr.block k hk hkP)⟩, h.lo⟩
theorem Cst.put (h : Cst w0 w P lo q l cs) (i : Nat) (u : Value) : Cst w0 (w.setCell ⟨P, i, none⟩ u) P lo q l (cs.setIfInBounds i u) := by
  have h1 := h.lo
  have hg := grown_set w P i u
  refine ⟨blk_set h.pb i u, h.rd.grown hg (.inl h1.1), ⟨hg.os.trans h.gr.os, hg.tape.trans h.gr.tape, hg.output.trans h.gr.output, Nat.le_trans h.gr.size hg.size, fun k hk hkP => (hg.block k (Nat.lt_of_lt_of_le hk h.gr.size) hkP).trans (h.gr.block k hk hkP)⟩, h.lo⟩
theorem Cst.more (h : Cst w0 w P lo q l cs) (hb : Below w.heap.size w w') : Cst w0 w' P lo q l cs :=
  ⟨(hb.block P (blk_lt h.pb)).trans h.pb, h.rd.below hb h.rd.lt, ⟨hb.os.trans h.gr.os, hb.tape.trans h.gr.tape, hb.output.trans h.gr.output, Nat.le_trans h.gr.size hb.size, fun k hk hkP => (hb.block k (Nat.lt_of_lt_of_le hk h.gr.size)).trans (h.gr.block k hk hkP)⟩, h.lo⟩
end
set_option maxHeartbeats 16000000 in
theorem coding_yes (P n c LV PR : Nat) (A : Option Addr) (mk od la lb tn lv cw ch st : Int) (SO EP RC : Bool) (v0 v1 v2 v3 v4 v5 v6 v7 v8 v9 v10 v11 v12 v13 v14 v15 v16 v17 v18 v19 : Value) (w : World)
    (hP : w.heap[P]? = some (.cells #[v0, v1, v2, v3, v4, v5, v6, v7, v8, v9, v10, v11, v12, v13, v14, v15, v16, v17, v18, v19] 69 (0, 0))) (hc : Lst w w.heap.size A (([mk, od, la, lb, tn, lv, cw, ch, st, 1] ++ List.replicate (LV + 1) (17 * (PR : Int))).map (Value.int .u8))) (hn : LV + 11 = n)
    (hmk : mk = 1 + (if SO then 2 else 0) + (if EP then 4 else 0)) (htn : tn = if RC then 1 else 0) (hlv : lv = (LV : Int)) (hLV : LV ≤ 40) (hPR : 1 ≤ PR ∧ PR ≤ 15)
    (hod : 0 ≤ od ∧ od ≤ 255) (hla : 0 ≤ la ∧ la ≤ 255) (hlb : 0 ≤ lb ∧ lb ≤ 255) (hly : 1 ≤ la * 256 + lb ∧ la * 256 + lb ≤ 8) (hcw : 0 ≤ cw ∧ cw ≤ 255) (hch : 0 ≤ ch ∧ ch ≤ 255) (hst : 0 ≤ st ∧ st ≤ 63) :
    Calls Try.prog 78 #[.pointer (some ⟨P, 0, none⟩), .slice A n c] w fun e w' => e = .returned (.bool true) ∧
      w'.heap[P]? = some (.cells #[v0, v1, v2, v3, v4, v5, v6, v7, .int .i64 lv, .int .i64 (cw + 2), .int .i64 (ch + 2), .int .i64 (PR : Int), .int .i64 st, .int .i64 od, .int .i64 (la * 256 + lb), .bool RC, .bool SO, .bool EP, v18, v19] 69 (0, 0)) ∧ w.grownBy w' (some P) := by
  have hOc : Oct ([mk, od, la, lb, tn, lv, cw, ch, st, 1] ++ List.replicate (LV + 1) (17 * (PR : Int))) := by
    intro x hx
    simp only [List.mem_append, List.mem_cons, List.not_mem_nil, or_false, List.mem_replicate] at hx
    rcases hx with (rfl | rfl | rfl | rfl | rfl | rfl | rfl | rfl | rfl | rfl) | ⟨_, rfl⟩
    · subst hmk; cases SO <;> cases EP <;> simp
    · exact hod
    · exact hla
    · exact hlb
    · subst htn; cases RC <;> simp
    · omega
    · exact hcw
    · exact hch
    · omega
    · omega
    · omega
  obtain ⟨tl, htl⟩ : ∃ tl, List.replicate (LV + 1) (17 * (PR : Int)) = tl := ⟨_, rfl⟩
  have htl2 : tl.length = LV + 1 := by rw [← htl, List.length_replicate]
  rw [htl] at hc hOc
  have hlen : ([mk, od, la, lb, tn, lv, cw, ch, st, 1] ++ tl).length = n := by simp [htl2]; omega
  have e2 : (bits .and .i64 mk 2 != 0) = SO := by subst hmk; cases SO <;> cases EP <;> rfl
  have e4 : (bits .and .i64 mk 4 != 0) = EP := by subst hmk; cases SO <;> cases EP <;> rfl
  have e1 : bits .and .i64 mk 1 = 1 := by subst hmk; cases SO <;> cases EP <;> rfl
  have e7 : mk ≤ 7 := by subst hmk; cases SO <;> cases EP <;> simp
  have t1 : (tn == 1) = RC := by subst htn; cases RC <;> rfl
  have t2 : tn ≤ 1 := by subst htn; cases RC <;> simp
  have HE := Lib.hid (show _ ∧ _ ∧ _ ∧ _ from ⟨e2, e4, e1, e7⟩)
  have HT := Lib.hid (show _ ∧ _ from ⟨t1, t2⟩)
  have hlvb : 0 ≤ lv ∧ lv ≤ 40 := by omega
  have HLV := Lib.hid hlv
  clear e2 e4 e1 e7 t1 t2 hmk htn hlv
  have HO := Lib.hid hOc
  have HTL := Lib.hid (show _ ∧ _ from ⟨htl, htl2⟩)
  have NW := Lib.hid (new_any A n c ([mk, od, la, lb, tn, lv, cw, ch, st, 1] ++ tl) w hlen (fun h => by
    subst h
    obtain ⟨b, o, hA, _⟩ := hc 0 (Value.int .u8 mk) rfl
    cases hA) hc (by omega))
  have HP := Lib.hid hP
  clear hc hlen hOc hP htl htl2
  go_enter Try.func78, Try.ntmps78
  go_wp2_with fail
  refine NW.out.mono ?_
  rintro e w1 ⟨q, rfl, hR, hb⟩
  have HC : Hid (Cst w w1 P w.heap.size q (mk :: od :: la :: lb :: tn :: lv :: cw :: ch :: st :: 1 :: tl) #[v0, v1, v2, v3, v4, v5, v6, v7, v8, v9, v10, v11, v12, v13, v14, v15, v16, v17, v18, v19]) := Lib.hid ⟨(hb.block P (blk_lt HP.out)).trans HP.out, hR, grown_below hb (Nat.le_refl _), blk_lt HP.out, Nat.le_refl _⟩
  have HO1 : Hid (Oct (mk :: od :: la :: lb :: tn :: lv :: cw :: ch :: st :: 1 :: tl)) := Lib.hid HO.out
  have hl60 : tl.length ≤ 60 := by rw [HTL.out.2]; omega
  clear hR hb NW HP HO
  go_wp2_with fail
  refine (get1 HC.out.rd HO1.out (by simp only [List.length_cons]; omega)).mono ?_
  rintro e w2 ⟨rfl, hR, hg⟩
  have HC2 := Lib.hid (HC.out.get hR hg)
  have HO2 := Lib.hid HO1.out.tl
  clear hR hg HC HO1
  have e2 := HE.out.1
  have e4 := HE.out.2.1
  have c16 := rb_cell HC2.out.pb 16
  have z16 := blk_frozen HC2.out.pb 16
  try simp only [List.getElem?_toArray, List.getElem?_cons_succ, List.getElem?_cons_zero] at c16
  obtain ⟨w3, hw3⟩ : ∃ X, World.setCell w2 { block := P, off := 16 } (.bool SO) = X := ⟨_, rfl⟩
  have HC3 : Hid (Cst w w3 P w.heap.size q (od :: la :: lb :: tn :: lv :: cw :: ch :: st :: 1 :: tl) #[v0, v1, v2, v3, v4, v5, v6, v7, v8, v9, v10, v11, v12, v13, v14, v15, .bool SO, v17, v18, v19]) := Lib.hid (by rw [← hw3]; exact HC2.out.put 16 _)
  have c17 := rb_cell HC3.out.pb 17
  have z17 := blk_frozen HC3.out.pb 17
  try simp only [List.getElem?_toArray, List.getElem?_cons_succ, List.getElem?_cons_zero] at c17
  obtain ⟨w4, hw4⟩ : ∃ X, World.setCell w3 { block := P, off := 17 } (.bool EP) = X := ⟨_, rfl⟩
  have HC4 : Hid (Cst w w4 P w.heap.size q (od :: la :: lb :: tn :: lv :: cw :: ch :: st :: 1 :: tl) #[v0, v1, v2, v3, v4, v5, v6, v7, v8, v9, v10, v11, v12, v13, v14, v15, .bool SO, .bool EP, v18, v19]) := Lib.hid (by rw [← hw4]; exact HC3.out.put 17 _)
  go_wp2_with fail
  clear c16 z16 c17 z17 HC2
  clear hw4 hw3
  clear e2 e4
  refine (get1 HC4.out.rd HO2.out (by first | omega | (simp only [List.length_cons]; omega))).mono ?_
  rintro e w5 ⟨rfl, hR, hg⟩
  have HC5 := Lib.hid (HC4.out.get hR hg)
  have HO5 := Lib.hid HO2.out.tl
  clear hR hg HO2
  have c13 := rb_cell HC5.out.pb 13
  have z13 := blk_frozen HC5.out.pb 13
  try simp only [List.getElem?_toArray, List.getElem?_cons_succ, List.getElem?_cons_zero] at c13
  obtain ⟨w6, hw6⟩ : ∃ X, World.setCell w5 { block := P, off := 13 } (.int .i64 od) = X := ⟨_, rfl⟩
  have HC6 : Hid (Cst w w6 P w.heap.size q (la :: lb :: tn :: lv :: cw :: ch :: st :: 1 :: tl) #[v0, v1, v2, v3, v4, v5, v6, v7, v8, v9, v10, v11, v12, .int .i64 od, v14, v15, .bool SO, .bool EP, v18, v19]) := Lib.hid (by rw [← hw6]; exact HC5.out.put 13 _)
  go_wp2_with fail
  clear c13 z13 HC5
  clear hw6
  refine (get2 HC6.out.rd HO5.out (by first | omega | (simp only [List.length_cons]; omega))).mono ?_
  rintro e w7 ⟨rfl, hR, hg⟩
  have HC7 := Lib.hid (HC6.out.get hR hg)
  have HO7 := Lib.hid HO5.out.tl.tl
  clear hR hg HO5
  have c14 := rb_cell HC7.out.pb 14
  have z14 := blk_frozen HC7.out.pb 14
  try simp only [List.getElem?_toArray, List.getElem?_cons_succ, List.getElem?_cons_zero] at c14
  obtain ⟨w8, hw8⟩ : ∃ X, World.setCell w7 { block := P, off := 14 } (.int .i64 (la * 256 + lb)) = X := ⟨_, rfl⟩
  have HC8 : Hid (Cst w w8 P w.heap.size q (tn :: lv :: cw :: ch :: st :: 1 :: tl) #[v0, v1, v2, v3, v4, v5, v6, v7, v8, v9, v10, v11, v12, .int .i64 od, .int .i64 (la * 256 + lb), v15, .bool SO, .bool EP, v18, v19]) := Lib.hid (by rw [← hw8]; exact HC7.out.put 14 _)
  go_wp2_with fail
  clear c14 z14 HC7
  clear hw8
  refine (get1 HC8.out.rd HO7.out (by first | omega | (simp only [List.length_cons]; omega))).mono ?_
  rintro e w9 ⟨rfl, hR, hg⟩
  have HC9 := Lib.hid (HC8.out.get hR hg)
  have HO9 := Lib.hid HO7.out.tl
  clear hR hg HO7
  have t1 := HT.out.1
  have c15 := rb_cell HC9.out.pb 15
  have z15 := blk_frozen HC9.out.pb 15
  try simp only [List.getElem?_toArray, List.getElem?_cons_succ, List.getElem?_cons_zero] at c15
  obtain ⟨w10, hw10⟩ : ∃ X, World.setCell w9 { block := P, off := 15 } (.bool RC) = X := ⟨_, rfl⟩
  have HC10 : Hid (Cst w w10 P w.heap.size q (lv :: cw :: ch :: st :: 1 :: tl) #[v0, v1, v2, v3, v4, v5, v6, v7, v8, v9, v10, v11, v12, .int .i64 od, .int .i64 (la * 256 + lb), .bool RC, .bool SO, .bool EP, v18, v19]) := Lib.hid (by rw [← hw10]; exact HC9.out.put 15 _)
  go_wp2_with fail
  clear c15 z15 HC9
  clear hw10
  clear t1
  refine (get1 HC10.out.rd HO9.out (by first | omega | (simp only [List.length_cons]; omega))).mono ?_
  rintro e w11 ⟨rfl, hR, hg⟩
  have HC11 := Lib.hid (HC10.out.get hR hg)
  have HO11 := Lib.hid HO9.out.tl
  clear hR hg HO9
  have c8 := rb_cell HC11.out.pb 8
  have z8 := blk_frozen HC11.out.pb 8
  try simp only [List.getElem?_toArray, List.getElem?_cons_succ, List.getElem?_cons_zero] at c8
  obtain ⟨w12, hw12⟩ : ∃ X, World.setCell w11 { block := P, off := 8 } (.int .i64 lv) = X := ⟨_, rfl⟩
  have HC12 : Hid (Cst w w12 P w.heap.size q (cw :: ch :: st :: 1 :: tl) #[v0, v1, v2, v3, v4, v5, v6, v7, .int .i64 lv, v9, v10, v11, v12, .int .i64 od, .int .i64 (la * 256 + lb), .bool RC, .bool SO, .bool EP, v18, v19]) := Lib.hid (by rw [← hw12]; exact HC11.out.put 8 _)
  go_wp2_with fail
  clear c8 z8 HC11
  clear hw12
  refine (get1 HC12.out.rd HO11.out (by first | omega | (simp only [List.length_cons]; omega))).mono ?_
  rintro e w13 ⟨rfl, hR, hg⟩
  have HC13 := Lib.hid (HC12.out.get hR hg)
  have HO13 := Lib.hid HO11.out.tl
  clear hR hg HO11
  go_wp2_with fail
  refine (get1 HC13.out.rd HO13.out (by first | omega | (simp only [List.length_cons]; omega))).mono ?_
  rintro e w14 ⟨rfl, hR, hg⟩
  have HC14 := Lib.hid (HC13.out.get hR hg)
  have HO14 := Lib.hid HO13.out.tl
  clear hR hg HO13
  have c9 := rb_cell HC14.out.pb 9
  have z9 := blk_frozen HC14.out.pb 9
  try simp only [List.getElem?_toArray, List.getElem?_cons_succ, List.getElem?_cons_zero] at c9
  obtain ⟨w15, hw15⟩ : ∃ X, World.setCell w14 { block := P, off := 9 } (.int .i64 (cw + 2)) = X := ⟨_, rfl⟩
  have HC15 : Hid (Cst w w15 P w.heap.size q (st :: 1 :: tl) #[v0, v1, v2, v3, v4, v5, v6, v7, .int .i64 lv, .int .i64 (cw + 2), v10, v11, v12, .int .i64 od, .int .i64 (la * 256 + lb), .bool RC, .bool SO, .bool EP, v18, v19]) := Lib.hid (by rw [← hw15]; exact HC14.out.put 9 _)
  have c10 := rb_cell HC15.out.pb 10
  have z10 := blk_frozen HC15.out.pb 10
  try simp only [List.getElem?_toArray, List.getElem?_cons_succ, List.getElem?_cons_zero] at c10
  obtain ⟨w16, hw16⟩ : ∃ X, World.setCell w15 { block := P, off := 10 } (.int .i64 (ch + 2)) = X := ⟨_, rfl⟩
  have HC16 : Hid (Cst w w16 P w.heap.size q (st :: 1 :: tl) #[v0, v1, v2, v3, v4, v5, v6, v7, .int .i64 lv, .int .i64 (cw + 2), .int .i64 (ch + 2), v11, v12, .int .i64 od, .int .i64 (la * 256 + lb), .bool RC, .bool SO, .bool EP, v18, v19]) := Lib.hid (by rw [← hw16]; exact HC15.out.put 10 _)
  go_wp2_with fail
  clear c9 z9 c10 z10 HC14
  clear hw16 hw15
  refine (get1 HC16.out.rd HO14.out (by first | omega | (simp only [List.length_cons]; omega))).mono ?_
  rintro e w17 ⟨rfl, hR, hg⟩
  have HC17 := Lib.hid (HC16.out.get hR hg)
  have HO17 := Lib.hid HO14.out.tl
  clear hR hg HO14
  have c12 := rb_cell HC17.out.pb 12
  have z12 := blk_frozen HC17.out.pb 12
  try simp only [List.getElem?_toArray, List.getElem?_cons_succ, List.getElem?_cons_zero] at c12
  obtain ⟨w18, hw18⟩ : ∃ X, World.setCell w17 { block := P, off := 12 } (.int .i64 st) = X := ⟨_, rfl⟩
  have HC18 : Hid (Cst w w18 P w.heap.size q (1 :: tl) #[v0, v1, v2, v3, v4, v5, v6, v7, .int .i64 lv, .int .i64 (cw + 2), .int .i64 (ch + 2), v11, .int .i64 st, .int .i64 od, .int .i64 (la * 256 + lb), .bool RC, .bool SO, .bool EP, v18, v19]) := Lib.hid (by rw [← hw18]; exact HC17.out.put 12 _)
  go_wp2_with fail
  clear c12 z12 HC17
  clear hw18
  refine (get1 HC18.out.rd HO17.out (by first | omega | (simp only [List.length_cons]; omega))).mono ?_
  rintro e w19 ⟨rfl, hR, hg⟩
  have HC19 := Lib.hid (HC18.out.get hR hg)
  have HO19 := Lib.hid HO17.out.tl
  clear hR hg HO17
  have c8 := rb_cell HC19.out.pb 8
  have z8 := blk_frozen HC19.out.pb 8
  try simp only [List.getElem?_toArray, List.getElem?_cons_succ, List.getElem?_cons_zero] at c8
  go_wp2_with fail
  obtain ⟨pz, hpz⟩ : ∃ z, 17 * (PR : Int) = z := ⟨_, rfl⟩
  have hpb : 17 ≤ pz ∧ pz ≤ 255 ∧ ¬ pz = 0 := by omega
  have hpd : pz.tdiv 17 = (PR : Int) := by rw [Int.tdiv_eq_ediv_of_nonneg (by omega)]; omega
  have hpm : pz.tmod 17 = 0 := by rw [Int.tmod_eq_emod_of_nonneg (by omega)]; omega
  have HPZ := Lib.hid (show _ ∧ _ ∧ _ from ⟨hpz, hpd, hpm⟩)
  have TK : Hid (Calls Try.prog 63 #[.pointer (some ⟨q, 0, none⟩), .int .i64 (lv + 1)] w19 fun e w' => ∃ (g c9 : Nat), e = .returned (.slice (some ⟨g, 0, none⟩) (LV + 1) c9) ∧ (∀ i, i < LV + 1 → w'.cell? ⟨g, i, none⟩ = some (.int .u8 pz)) ∧ g < w'.heap.size ∧ g ≠ P ∧ Cst w w' P w.heap.size q [] #[v0, v1, v2, v3, v4, v5, v6, v7, .int .i64 lv, .int .i64 (cw + 2), .int .i64 (ch + 2), v11, .int .i64 st, .int .i64 od, .int .i64 (la * 256 + lb), .bool RC, .bool SO, .bool EP, v18, v19]) := Lib.hid (by
    have h := take_yes (LV + 1) HC19.out.rd (by rw [HTL.out.2]; exact Nat.le_refl _) (by rw [HTL.out.2]; omega)
    rw [show (((LV + 1 : Nat)) : Int) = lv + 1 by rw [HLV.out]; push_cast; rfl] at h
    refine h.mono ?_
    rintro e w' ⟨v, rfl, hown, hR, hg⟩
    rw [List.take_of_length_le (by rw [HTL.out.2]; exact Nat.le_refl _)] at hown
    rw [List.drop_eq_nil_of_le (by rw [HTL.out.2]; exact Nat.le_refl _)] at hR
    obtain ⟨g, c9, rfl, hg1, hg2, _⟩ := own_form hown (by omega)
    refine ⟨g, c9, rfl, fun i hi => ?_, hg2, by have := blk_lt HC19.out.pb; omega, HC19.out.get hR hg⟩
    have f := hown.cellAt i (by omega)
    rw [f, ← HTL.out.1, hpz]
    simp [hi])
  clear hpz hpd hpm
  clear c8 z8
  refine TK.out.mono ?_
  rintro e wt ⟨g, c9, rfl, hpr, hgl, hgP, hC⟩
  have HCt := Lib.hid hC
  have HPC := Lib.hid (show _ ∧ _ ∧ _ from ⟨hpr, hgl, hgP⟩)
  have ED := Lib.hid (end_any hC.rd (by simp))
  clear TK HC19 hpr hgl hgP hC
  go_wp2_with fail
  refine ED.out.mono ?_
  rintro e wx ⟨rfl, nd, rfl⟩
  have HCx := Lib.hid (HCt.out.more (below_drewN (Below.refl _ _) nd))
  have HPX : Hid ((∀ i, i < LV + 1 → (wt.drewN nd).cell? ⟨g, i, none⟩ = some (.int .u8 pz)) ∧ g < (wt.drewN nd).heap.size ∧ g ≠ P) := Lib.hid HPC.out
  obtain ⟨wx, hwx⟩ : ∃ X, wt.drewN nd = X := ⟨_, rfl⟩
  rw [hwx] at HCx HPX ⊢
  have hee : (endE ([] : List Int).length 0) = 0 := rfl
  rw [hee]
  clear hwx ED HCt HPC hee
  have k0 := HPX.out.1 0 (by omega)
  go_upto_region 17 with fail
  obtain ⟨zq, hzq⟩ : ∃ z, wx.heap.size = z := ⟨_, rfl⟩
  obtain ⟨wy, hwy⟩ : ∃ X, wx.alloc (Obj.cells #[.int .i64 pz] 3) = X := ⟨_, rfl⟩
  rw [hwy, hzq]
  have HY : Hid (wy.cell? ⟨zq, 0, none⟩ = some (.int .i64 pz) ∧ Below wx.heap.size wx wy ∧ zq ≠ P) := Lib.hid (by
    refine ⟨?_, by rw [← hwy]; exact (Below.refl _ _).alloc (Nat.le_refl _) _, by rw [← hzq]; have := blk_lt HCx.out.pb; omega⟩
    have := World.alloc_heap_new wx (Obj.cells #[.int .i64 pz] 3)
    rw [← hzq, ← hwy]
    rw [rb_cell this]
    rfl)
  have HCy := Lib.hid (HCx.out.more HY.out.2.1)
  have HPY : Hid ((∀ i, i < LV + 1 → wy.cell? ⟨g, i, none⟩ = some (.int .u8 pz)) ∧ g ≠ P) := Lib.hid ⟨fun i hi => (HY.out.2.1.cell (p := ⟨g, i, none⟩) HPX.out.2.1).trans (HPX.out.1 i hi), HPX.out.2.2⟩
  clear hwy hzq HCx HPX k0
  have y0 := HY.out.1
  have hpd := HPZ.out.2.1
  have c11 := rb_cell HCy.out.pb 11
  have z11 := blk_frozen HCy.out.pb 11
  try simp only [List.getElem?_toArray, List.getElem?_cons_succ, List.getElem?_cons_zero] at c11
  go_upto_region 18 with fail
  obtain ⟨wz, hwz⟩ : ∃ X, World.setCell wy { block := P, off := 11 } (.int .i64 (PR : Int)) = X := ⟨_, rfl⟩
  rw [hwz]
  have HCz : Hid (Cst w wz P w.heap.size q [] #[v0, v1, v2, v3, v4, v5, v6, v7, .int .i64 lv, .int .i64 (cw + 2), .int .i64 (ch + 2), .int .i64 (PR : Int), .int .i64 st, .int .i64 od, .int .i64 (la * 256 + lb), .bool RC, .bool SO, .bool EP, v18, v19]) := Lib.hid (by rw [← hwz]; exact HCy.out.put 11 _)
  have ckeep : ∀ (b i : Nat), b ≠ P → wz.cell? ⟨b, i, none⟩ = wy.cell? ⟨b, i, none⟩ := fun b i hb => by
    rw [← hwz]
    have := Below.heap_setCell wy ⟨P, 11, none⟩ (.int .i64 (PR : Int)) b (by simpa using hb)
    simp [World.cell?, this]
  have y1 : wz.cell? ⟨zq, 0, none⟩ = some (.int .i64 pz) := (ckeep zq 0 HY.out.2.2).trans HY.out.1
  have CN := Lib.hid (contains_no pz zq (LV + 1) c9 (some ⟨g, 0, none⟩) wz (by omega) y1 (fun i hi => ⟨g, 0, rfl, by rw [Nat.zero_add]; exact (ckeep g i HPY.out.2).trans (HPY.out.1 i hi)⟩) (by omega))
  clear hwz ckeep y0 hpd c11 z11 HCy HPY HY
  go_wp2_with fail
  refine CN.out.mono ?_
  rintro e w9 ⟨rfl, rfl⟩
  clear CN
  have hpm := HPZ.out.2.2
  have c14 := rb_cell HCz.out.pb 14
  have c12 := rb_cell HCz.out.pb 12
  try simp only [List.getElem?_toArray, List.getElem?_cons_succ, List.getElem?_cons_zero] at c14 c12
  have e1 := HE.out.2.2.1
  have e7 := HE.out.2.2.2
  have t2 := HT.out.2
  have l1 : 1 ≤ la * 256 + lb := hly.1
  have l8 : la * 256 + lb ≤ 8 := hly.2
  have s63 : st ≤ 63 := hst.2
  go_wp2
  go_ret
  exact ⟨rfl, HCz.out.pb, HCz.out.gr⟩
end
end
section
open Go.RowKit Go.Shelf
set_option maxRecDepth 100000
attribute [local go_sem] Oper.semAt_some
attribute [local go_sem ↓] appSem_eq
theorem CRow.keepB {lo : Nat} {w w' : World} {V : Value} {cs : List Cp} (h : CRow lo w V cs) (hs : w.heap.size ≤ w'.heap.size) (hk : ∀ k, lo ≤ k → k < w.heap.size → w'.heap[k]? = w.heap[k]?) : CRow lo w' V cs :=
  ⟨ownsRow_keep h.own hs (fun k e => hk k (own_lt h.own e).1 (own_lt h.own e).2), fun c hc => by
    obtain ⟨l, h1, h2⟩ := h.dat c hc
    exact ⟨l, ownsRow_keep h1 hs (fun k e => hk k (own_lt h1 e).1 (own_lt h1 e).2), h2⟩⟩
theorem own_lowq {w : World} {lo lo' n s : Nat} {e : TypeId} {v : Value} {xs : List Value} (h : w.ownsRow lo e s v n xs) (hl : lo' ≤ lo) : w.ownsRow lo' e s v n xs := by
  refine ⟨h.1, ?_⟩
  rcases h.2 with h | ⟨g, cap, cur, hv, hg, r⟩
  · exact Or.inl h
  · exact Or.inr ⟨g, cap, cur, hv, Nat.le_trans hl hg, r⟩
theorem dat_nil (lo : Nat) (w : World) {c : Cp} (h1 : c.A = none) (h2 : c.n = 0) (h3 : c.cap = 0) : DatIn lo w c := ⟨[], by rw [h1, h2, h3]; exact World.ownsRow_nil _ _ _ _, fun v hv => by cases hv⟩
/-- A picture that is read, beside its Reader. -/
structure Sz (w0 w : World) (P lo q ib : Nat) (l : List Int) (cells : Array Value) (X Y OX OY : Int) (V : Value) (cs : List Cp) : Prop where
  c : Cst w0 w P lo q l cells
  im : w.heap[ib]? = some (.cells #[.int .i64 X, .int .i64 Y, .int .i64 OX, .int .i64 OY, V] 29 (0, 0))
  cr : CRow (ib + 1) w V cs
  le : ib + 1 ≤ w.heap.size
  qi : q < ib
section
variable {w0 w w' : World} {P lo q ib : Nat} {l l' : List Int} {cells : Array Value} {X Y OX OY : Int} {V : Value} {cs : List Cp}
theorem Sz.get (h : Sz w0 w P lo q ib l cells X Y OX OY V cs) (hR : Rd w' lo q l' 0) (hg : w.grownBy w' (some q)) : Sz w0 w' P lo q ib l' cells X Y OX OY V cs :=
  ⟨h.c.get hR hg, (hg.block ib (blk_lt h.im) (fun e => by injection e with e; have := h.qi; omega)).trans h.im, h.cr.keepB hg.size (fun k hk hk2 => hg.block k hk2 (fun e => by injection e with e; have := h.qi; omega)), Nat.le_trans h.le hg.size, h.qi⟩
theorem Sz.more (h : Sz w0 w P lo q ib l cells X Y OX OY V cs) (hb : Below w.heap.size w w') : Sz w0 w' P lo q ib l cells X Y OX OY V cs :=
  ⟨h.c.more hb, (hb.block ib (blk_lt h.im)).trans h.im, h.cr.below hb, Nat.le_trans h.le hb.size, h.qi⟩
theorem Sz.put (h : Sz w0 w P lo q ib l cells X Y OX OY V cs) (i : Nat) (u : Value) : Sz w0 (w.setCell ⟨P, i, none⟩ u) P lo q ib l (cells.setIfInBounds i u) X Y OX OY V cs := by
  have hl := h.c.lo
  have hq2 := h.c.rd.1
  have hq := h.qi
  have hg := grown_set w P i u
  have hk : ∀ k, k ≠ P → (w.setCell ⟨P, i, none⟩ u).heap[k]? = w.heap[k]? := fun k hk => Below.heap_setCell w _ _ k (by simpa using hk)
  exact ⟨h.c.put i u, (hk ib (by omega)).trans h.im, h.cr.keepB hg.size (fun k h6 h7 => hk k (by omega)), by rw [size_setCell]; exact h.le, hq⟩
theorem Sz.drew (h : Sz w0 w P lo q ib l cells X Y OX OY V cs) : Sz w0 w.drew P lo q ib l cells X Y OX OY V cs := h.more (below_drewN (Below.refl _ _) 1)
theorem Sz.app (h : Sz w0 w P lo q ib l cells X Y OX OY V cs) {V' : Value} {cs' : List Cp} (h1 : CRow (ib + 1) w' V' cs') (h2 : w.grownBy w' V.ownBlock) : Cst w0 w' P lo q l cells ∧ w'.heap[ib]? = some (.cells #[.int .i64 X, .int .i64 Y, .int .i64 OX, .int .i64 OY, V] 29 (0, 0)) ∧ CRow (ib + 1) w' V' cs' ∧ ib + 1 ≤ w'.heap.size ∧ q < ib := by
  have hk : ∀ k, k ≤ ib → k < w.heap.size → w'.heap[k]? = w.heap[k]? := fun k hk hk2 => h2.block k hk2 (fun e => by have := (own_lt h.cr.own e.symm).1; omega)
  have hq := h.qi
  have hl := h.c.lo
  have hq2 := h.c.rd.1
  have hg := h.c.gr.size
  refine ⟨⟨(hk P (by omega) (blk_lt h.c.pb)).trans h.c.pb, h.c.rd.keep (fun k h3 h4 => hk k (by omega) (by have := h.c.rd.lt; omega)), ⟨h2.os.trans h.c.gr.os, h2.tape.trans h.c.gr.tape, h2.output.trans h.c.gr.output, Nat.le_trans hg h2.size, fun k h3 h4 => (hk k (by omega) (by omega)).trans (h.c.gr.block k h3 h4)⟩, hl⟩, (hk ib (Nat.le_refl _) (blk_lt h.im)).trans h.im, h1, Nat.le_trans h.le h2.size, hq⟩
theorem Sz.fin {V' : Value} {cs' : List Cp} (h : Cst w0 w P lo q l cells ∧ w.heap[ib]? = some (.cells #[.int .i64 X, .int .i64 Y, .int .i64 OX, .int .i64 OY, V] 29 (0, 0)) ∧ CRow (ib + 1) w V' cs' ∧ ib + 1 ≤ w.heap.size ∧ q < ib) : Sz w0 (w.setCell ⟨ib, 4, none⟩ V') P lo q ib l cells X Y OX OY V' cs' := by
  obtain ⟨h1, h2, h3, h4, h5⟩ := h
  have hg := grown_set w ib 4 V'
  have hl := h1.lo
  have hq2 := h1.rd.1
  have hgs := h1.gr.size
  have hk : ∀ k, k ≠ ib → (w.setCell ⟨ib, 4, none⟩ V').heap[k]? = w.heap[k]? := fun k hk => Below.heap_setCell w _ _ k (by simpa using hk)
  exact ⟨⟨(hk P (by omega)).trans h1.pb, h1.rd.keep (fun k h6 h7 => hk k (by omega)), ⟨hg.os.trans h1.gr.os, hg.tape.trans h1.gr.tape, hg.output.trans h1.gr.output, Nat.le_trans hgs hg.size, fun k h6 h7 => (hk k (by omega)).trans (h1.gr.block k h6 h7)⟩, hl⟩, blk_set h2 4 V', h3.keepB hg.size (fun k h6 h7 => hk k (by omega)), by rw [size_setCell]; exact h4, h5⟩
end
/-- What three bytes say of a component. -/
def cpOf (z : Int × Int × Int) : Cp := ⟨z.1 % 128 + 1, decide (128 ≤ z.1), z.2.1, z.2.2, none, 0, 0⟩
def trip (z : Int × Int × Int) : List Int := [z.1, z.2.1, z.2.2]
theorem trip_len : ∀ zs : List (Int × Int × Int), (zs.flatMap trip).length = zs.length * 3
  | [] => rfl
  | a :: t => by rw [List.flatMap_cons, List.length_append, trip_len t, List.length_cons]; simp [trip]; omega
theorem trip_oct : ∀ {zs : List (Int × Int × Int)}, (∀ z ∈ zs, (0 ≤ z.1 ∧ z.1 ≤ 255) ∧ (0 ≤ z.2.1 ∧ z.2.1 ≤ 255) ∧ (0 ≤ z.2.2 ∧ z.2.2 ≤ 255)) → Oct (zs.flatMap trip) := fun {zs} h x hx => by
  obtain ⟨z, hz, hx⟩ := List.mem_flatMap.1 hx
  have := h z hz
  simp only [trip, List.mem_cons, List.not_mem_nil, or_false] at hx
  rcases hx with rfl | rfl | rfl
  · exact this.1
  · exact this.2.1
  · exact this.2.2
theorem andnot_is {e : Int} (h : 0 ≤ e ∧ e ≤ 255) : bits .andNot .i64 e 128 = e % 128 := by
  have H : ∀ n : Nat, n < 256 → bits .andNot .i64 (n : Int) 128 = (n : Int) % 128 := by decide +kernel
  have := H e.toNat (by omega)
  rwa [Int.toNat_of_nonneg h.1] at this
set_option maxHeartbeats 16000000 in
theorem size_yes (P n c : Nat) (A : Option Addr) (x0 x1 x2 x3 y0 y1 y2 y3 p0 p1 p2 p3 r0 r1 r2 r3 s0 s1 s2 s3 t0 t1 t2 t3 n0 n1 : Int) (X Y OX OY TX TY : Int) (zs : List (Int × Int × Int)) (v0 v1 v2 v3 v4 v5 v6 v7 v8 v9 v10 v11 v12 v13 v14 v15 v16 v17 v18 v19 : Value) (w : World)
    (hP : w.heap[P]? = some (.cells #[v0, v1, v2, v3, v4, v5, v6, v7, v8, v9, v10, v11, v12, v13, v14, v15, v16, v17, v18, v19] 69 (0, 0))) (hc : Lst w w.heap.size A ((([0, 0, x0, x1, x2, x3, y0, y1, y2, y3, p0, p1, p2, p3, r0, r1, r2, r3, s0, s1, s2, s3, t0, t1, t2, t3, 0, 0, 0, 0, 0, 0, 0, 0, n0, n1] ++ zs.flatMap trip).map (Value.int .u8)))) (hn : 36 + zs.length * 3 = n)
    (hX : (((x0 * 256 + x1) * 256 + x2) * 256 + x3) = X) (hY : (((y0 * 256 + y1) * 256 + y2) * 256 + y3) = Y) (hOX : (((p0 * 256 + p1) * 256 + p2) * 256 + p3) = OX) (hOY : (((r0 * 256 + r1) * 256 + r2) * 256 + r3) = OY) (hTX : (((s0 * 256 + s1) * 256 + s2) * 256 + s3) = TX) (hTY : (((t0 * 256 + t1) * 256 + t2) * 256 + t3) = TY) (hnn : n0 * 256 + n1 = (zs.length : Int)) (hzl : zs.length ≤ 1000)
    (hOc : Oct ([0, 0, x0, x1, x2, x3, y0, y1, y2, y3, p0, p1, p2, p3, r0, r1, r2, r3, s0, s1, s2, s3, t0, t1, t2, t3, 0, 0, 0, 0, 0, 0, 0, 0, n0, n1])) (hOz : ∀ z ∈ zs, (0 ≤ z.1 ∧ z.1 ≤ 255) ∧ (0 ≤ z.2.1 ∧ z.2.1 ≤ 255) ∧ (0 ≤ z.2.2 ∧ z.2.2 ≤ 255)) :
    Calls Try.prog 77 #[.pointer (some ⟨P, 0, none⟩), .slice A n c] w fun e w' => ∃ (CA : Option Addr) (cc : Nat), e = .returned (.bool true) ∧
      w'.heap[P]? = some (.cells #[v0, .int .i64 X, .int .i64 Y, .int .i64 OX, .int .i64 OY, .slice CA zs.length cc, .int .i64 TX, .int .i64 TY, v8, v9, v10, v11, v12, v13, v14, v15, v16, v17, v18, v19] 69 (0, 0)) ∧ CRow w.heap.size w' (.slice CA zs.length cc) (zs.map cpOf) ∧ w.grownBy w' (some P) := by
  obtain ⟨tl, htl⟩ : ∃ tl, zs.flatMap trip = tl := ⟨_, rfl⟩
  have htl2 : tl.length = zs.length * 3 := by rw [← htl, trip_len]
  have hOt : Oct tl := by rw [← htl]; exact trip_oct hOz
  rw [htl] at hc
  have hlen : ([0, 0, x0, x1, x2, x3, y0, y1, y2, y3, p0, p1, p2, p3, r0, r1, r2, r3, s0, s1, s2, s3, t0, t1, t2, t3, 0, 0, 0, 0, 0, 0, 0, 0, n0, n1] ++ tl).length = n := by simp [htl2]; omega
  have HO := Lib.hid (hOc.app hOt)
  have NW := Lib.hid (new_any A n c _ w hlen (fun h => by
    subst h
    obtain ⟨b, o, hA, _⟩ := hc 0 (Value.int .u8 0) rfl
    cases hA) hc (by omega))
  have HP := Lib.hid hP
  have HZL := Lib.hid (show _ ∧ _ ∧ _ from ⟨htl, hnn, hzl⟩)
  have HOZ := Lib.hid hOz
  have HXY := Lib.hid (show _ ∧ _ ∧ _ ∧ _ ∧ _ ∧ _ from ⟨hX, hY, hOX, hOY, hTX, hTY⟩)
  clear hc hlen hOc hP htl hnn hOt hOz hX hY hOX hOY hTX hTY
  go_enter Try.func77, Try.ntmps77
  go_wp2_with fail
  refine NW.out.mono ?_
  rintro e w1 ⟨q, rfl, hR, hb⟩
  obtain ⟨lo, hlo⟩ : ∃ k, w.heap.size = k := ⟨_, rfl⟩
  rw [hlo] at hR
  have HC1 : Hid (Cst w w1 P lo q (0 :: 0 :: x0 :: x1 :: x2 :: x3 :: y0 :: y1 :: y2 :: y3 :: p0 :: p1 :: p2 :: p3 :: r0 :: r1 :: r2 :: r3 :: s0 :: s1 :: s2 :: s3 :: t0 :: t1 :: t2 :: t3 :: 0 :: 0 :: 0 :: 0 :: 0 :: 0 :: 0 :: 0 :: n0 :: n1 :: tl) #[v0, v1, v2, v3, v4, v5, v6, v7, v8, v9, v10, v11, v12, v13, v14, v15, v16, v17, v18, v19]) := Lib.hid ⟨(hb.block P (blk_lt HP.out)).trans HP.out, hR, grown_below hb (Nat.le_refl _), ⟨by rw [← hlo]; exact blk_lt HP.out, Nat.le_of_eq hlo⟩⟩
  have HO1 : Hid (Oct (0 :: 0 :: x0 :: x1 :: x2 :: x3 :: y0 :: y1 :: y2 :: y3 :: p0 :: p1 :: p2 :: p3 :: r0 :: r1 :: r2 :: r3 :: s0 :: s1 :: s2 :: s3 :: t0 :: t1 :: t2 :: t3 :: 0 :: 0 :: 0 :: 0 :: 0 :: 0 :: 0 :: 0 :: n0 :: n1 :: tl)) := Lib.hid HO.out
  have HLO := Lib.hid hlo
  have hl6 : tl.length ≤ 3000 := by rw [htl2]; omega
  clear hR hb NW HP HO hlo htl2
  go_wp2_with fail
  have GT1 := Lib.hid (get2 HC1.out.rd HO1.out (by first | omega | (simp only [List.length_cons]; omega)))
  refine GT1.out.mono ?_
  rintro e w2 ⟨rfl, hR, hg⟩
  have HC2 := Lib.hid (HC1.out.get hR hg)
  have HO2 := Lib.hid HO1.out.tl.tl
  clear hR hg HO1 HC1 GT1
  rw [show (0 : Int) * 256 + 0 = 0 from rfl]
  go_wp2_with fail
  have GT2 := Lib.hid (get4 HC2.out.rd HO2.out (by first | omega | (simp only [List.length_cons]; omega)))
  rw [HXY.out.1] at GT2
  refine GT2.out.mono ?_
  rintro e w3 ⟨rfl, hR, hg⟩
  have HC3 := Lib.hid (HC2.out.get hR hg)
  have HO3 := Lib.hid HO2.out.tl.tl.tl.tl
  clear hR hg HO2 HC2 GT2
  go_wp2_with fail
  have GT3 := Lib.hid (get4 HC3.out.rd HO3.out (by first | omega | (simp only [List.length_cons]; omega)))
  rw [HXY.out.2.1] at GT3
  refine GT3.out.mono ?_
  rintro e w4 ⟨rfl, hR, hg⟩
  have HC4 := Lib.hid (HC3.out.get hR hg)
  have HO4 := Lib.hid HO3.out.tl.tl.tl.tl
  clear hR hg HO3 HC3 GT3
  go_wp2_with fail
  have GT4 := Lib.hid (get4 HC4.out.rd HO4.out (by first | omega | (simp only [List.length_cons]; omega)))
  rw [HXY.out.2.2.1] at GT4
  refine GT4.out.mono ?_
  rintro e w5 ⟨rfl, hR, hg⟩
  have HC5 := Lib.hid (HC4.out.get hR hg)
  have HO5 := Lib.hid HO4.out.tl.tl.tl.tl
  clear hR hg HO4 HC4 GT4
  go_wp2_with fail
  have GT5 := Lib.hid (get4 HC5.out.rd HO5.out (by first | omega | (simp only [List.length_cons]; omega)))
  rw [HXY.out.2.2.2.1] at GT5
  refine GT5.out.mono ?_
  rintro e w6 ⟨rfl, hR, hg⟩
  have HC6 := Lib.hid (HC5.out.get hR hg)
  have HO6 := Lib.hid HO5.out.tl.tl.tl.tl
  clear hR hg HO5 HC5 GT5
  go_upto_region 4 with fail
  obtain ⟨ib, hib⟩ : ∃ b, w6.heap.size = b := ⟨_, rfl⟩
  obtain ⟨w7, hw7⟩ : ∃ X_, w6.alloc (Obj.cells #[.int .i64 X, .int .i64 Y, .int .i64 OX, .int .i64 OY, .slice none 0 0] 29) = X_ := ⟨_, rfl⟩
  rw [hw7, hib]
  have HS7 : Hid (Sz w w7 P lo q ib (s0 :: s1 :: s2 :: s3 :: t0 :: t1 :: t2 :: t3 :: 0 :: 0 :: 0 :: 0 :: 0 :: 0 :: 0 :: 0 :: n0 :: n1 :: tl) #[v0, v1, v2, v3, v4, v5, v6, v7, v8, v9, v10, v11, v12, v13, v14, v15, v16, v17, v18, v19] X Y OX OY (.slice none 0 0) []) := Lib.hid (by
    have hb : Below w6.heap.size w6 w7 := by rw [← hw7]; exact (Below.refl _ _).alloc (Nat.le_refl _) _
    exact ⟨HC6.out.more hb, by rw [← hw7, ← hib]; exact World.alloc_heap_new w6 _, CRow.nil _ _, by rw [← hw7, ← hib]; simp, by rw [← hib]; exact HC6.out.rd.lt⟩)
  clear hw7 hib HC6
  have GT7 := Lib.hid (get4 HS7.out.c.rd HO6.out (by simp only [List.length_cons]; omega))
  rw [HXY.out.2.2.2.2.1] at GT7
  go_wp2_with fail
  refine GT7.out.mono ?_
  rintro e w8 ⟨rfl, hR, hg⟩
  have HS8 := Lib.hid (HS7.out.get hR hg)
  have HO8 := Lib.hid HO6.out.tl.tl.tl.tl
  clear hR hg HO6 HS7 GT7
  have GT8 := Lib.hid (get4 HS8.out.c.rd HO8.out (by simp only [List.length_cons]; omega))
  rw [HXY.out.2.2.2.2.2] at GT8
  go_wp2_with fail
  refine GT8.out.mono ?_
  rintro e w9 ⟨rfl, hR, hg⟩
  have HS9 := Lib.hid (HS8.out.get hR hg)
  have HO9 := Lib.hid HO8.out.tl.tl.tl.tl
  clear hR hg HO8 HS8 GT8
  have c6 := rb_cell HS9.out.c.pb 6
  have z6 := blk_frozen HS9.out.c.pb 6
  try simp only [List.getElem?_toArray, List.getElem?_cons_succ, List.getElem?_cons_zero] at c6
  obtain ⟨wa, hwa⟩ : ∃ X_, World.setCell w9 { block := P, off := 6 } (.int .i64 TX) = X_ := ⟨_, rfl⟩
  have HSa : Hid (Sz w wa P lo q ib _ _ X Y OX OY (.slice none 0 0) []) := Lib.hid (by rw [← hwa]; exact HS9.out.put 6 _)
  have c7 := rb_cell HSa.out.c.pb 7
  have z7 := blk_frozen HSa.out.c.pb 7
  try simp only [List.getElem?_toArray, List.getElem?_cons_succ, List.getElem?_cons_zero] at c7
  obtain ⟨wb, hwb⟩ : ∃ X_, World.setCell wa { block := P, off := 7 } (.int .i64 TY) = X_ := ⟨_, rfl⟩
  have HSb : Hid (Sz w wb P lo q ib (0 :: 0 :: 0 :: 0 :: 0 :: 0 :: 0 :: 0 :: n0 :: n1 :: tl) #[v0, v1, v2, v3, v4, v5, .int .i64 TX, .int .i64 TY, v8, v9, v10, v11, v12, v13, v14, v15, v16, v17, v18, v19] X Y OX OY (.slice none 0 0) []) := Lib.hid (by rw [← hwb]; exact HSa.out.put 7 _)
  go_wp2_with fail
  clear c6 z6 c7 z7 hwa hwb HS9 HSa
  have GT := Lib.hid (get4 HSb.out.c.rd HO9.out (by first | omega | (simp only [List.length_cons]; omega)))
  rw [show (((0 : Int) * 256 + 0) * 256 + 0) * 256 + 0 = 0 from rfl] at GT
  refine GT.out.mono ?_
  rintro e wc ⟨rfl, hR, hg⟩
  have HSc := Lib.hid (HSb.out.get hR hg)
  have HOc := Lib.hid HO9.out.tl.tl.tl.tl
  clear hR hg HO9 HSb GT
  go_wp2_with fail
  have GT := Lib.hid (get4 HSc.out.c.rd HOc.out (by first | omega | (simp only [List.length_cons]; omega)))
  rw [show (((0 : Int) * 256 + 0) * 256 + 0) * 256 + 0 = 0 from rfl] at GT
  refine GT.out.mono ?_
  rintro e wd ⟨rfl, hR, hg⟩
  have HSd := Lib.hid (HSc.out.get hR hg)
  have HOd := Lib.hid HOc.out.tl.tl.tl.tl
  clear hR hg HOc HSc GT
  go_wp2_with fail
  have HNN := Lib.hid (show _ ∧ _ from ⟨HZL.out.2.1, HZL.out.2.2⟩)
  have GT := Lib.hid (get2 HSd.out.c.rd HOd.out (by first | omega | (simp only [List.length_cons]; omega)))
  rw [HNN.out.1] at GT
  refine GT.out.mono ?_
  rintro e we ⟨rfl, hR, hg⟩
  have HSe := Lib.hid (HSd.out.get hR hg)
  have HOe := Lib.hid HOd.out.tl.tl
  clear hR hg HOd HSd GT
  go_wp2_with fail
  obtain ⟨m, hm⟩ : ∃ m, zs.length = m := ⟨_, rfl⟩
  rw [hm] at hzl ⊢
  have HM := Lib.hid hm
  clear hm
  go_loopg [45] m (fun g v wr => ∃ (i : Nat) (Va : Option Addr) (Vc : Nat), i + g = m ∧ v = .int .i64 (i : Int) ∧ Hid (Sz w wr P lo q ib ((zs.drop i).flatMap trip) #[v0, v1, v2, v3, v4, v5, .int .i64 TX, .int .i64 TY, v8, v9, v10, v11, v12, v13, v14, v15, v16, v17, v18, v19] X Y OX OY (.slice Va i Vc) ((zs.take i).map cpOf)))
  case atStart => exact ⟨0, none, 0, by omega, rfl, Lib.hid (by rw [List.drop_zero, HZL.out.1]; exact HSe.out)⟩
  case round =>
    obtain ⟨i, Va, Vc, hig, rfl, HI⟩ := hrel
    obtain ⟨wa, hwa⟩ : ∃ wa, wa = wr := ⟨wr, rfl⟩
    subst hwa
    by_cases him : i < m
    · obtain ⟨g1, rfl⟩ : ∃ g1, gk = g1 + 1 := ⟨gk - 1, by omega⟩
      have hiI : (i : Int) < (m : Int) := by omega
      obtain ⟨z, hz⟩ : ∃ z, zs[i]? = some z := ⟨_, List.getElem?_eq_getElem (by rw [HM.out]; exact him)⟩
      obtain ⟨hi9, hz9⟩ := List.getElem?_eq_some_iff.1 hz
      have hzo := HOZ.out z (List.mem_of_getElem? hz)
      have hlr : ((zs.drop (i + 1)).flatMap trip).length ≤ 3000 := by rw [trip_len, List.length_drop, HM.out]; omega
      have hol : Oct ((zs.drop (i + 1)).flatMap trip) := trip_oct (fun z' hz' => HOZ.out z' (List.mem_of_mem_drop hz'))
      have hdz : (zs.drop i).flatMap trip = z.1 :: z.2.1 :: z.2.2 :: (zs.drop (i + 1)).flatMap trip := by
        rw [List.drop_eq_getElem_cons hi9, List.flatMap_cons, hz9]
        rfl
      have HTK : Hid ((zs.take i).map cpOf ++ [cpOf z] = (zs.take (i + 1)).map cpOf) := Lib.hid (by rw [List.take_add_one, hz]; simp)
      have HDL : Hid (((zs.take i).map cpOf).length = i) := Lib.hid (by rw [List.length_map, List.length_take, HM.out]; omega)
      obtain ⟨lr, hlr0⟩ : ∃ l, (zs.drop (i + 1)).flatMap trip = l := ⟨_, rfl⟩
      rw [hlr0] at hlr hol hdz
      rw [hdz] at HI
      obtain ⟨e, dx, dy⟩ := z
      simp only at hzo HI
      have HOD0 : Oct (e :: dx :: dy :: lr) := fun a ha => by
        simp only [List.mem_cons] at ha
        rcases ha with rfl | rfl | rfl | ha
        · exact hzo.1
        · exact hzo.2.1
        · exact hzo.2.2
        · exact hol a ha
      have HOD := Lib.hid HOD0.tl
      obtain ⟨ds, hds⟩ : ∃ d, (zs.take i).map cpOf = d := ⟨_, rfl⟩
      rw [hds] at HI HTK HDL
      have GT := Lib.hid (get1 HI.out.c.rd HOD0 (by simp only [List.length_cons]; omega))
      have hlz : (dy :: lr).length ≤ 1000000 ∧ lr.length ≤ 1000000 := by simp only [List.length_cons]; omega
      have hia := HDL.out
      have heb : 0 ≤ e ∧ e ≤ 255 := hzo.1
      have HLR := Lib.hid hlr0
      clear hz hi9 hz9 hzo hol hdz hlr0 hds HOD0 hlr
      go_wp2_with fail
      refine GT.out.mono ?_
      rintro e_ w9 ⟨rfl, hR, hg⟩
      have HS9 := Lib.hid (HI.out.get hR hg)
      obtain ⟨sg, hsg⟩ : ∃ b, decide (128 ≤ e) = b := ⟨_, rfl⟩
      obtain ⟨dd, hdd⟩ : ∃ d, e % 128 + 1 = d := ⟨_, rfl⟩
      have hddb : 1 ≤ dd ∧ dd ≤ 128 := by omega
      have HSG := Lib.hid (show _ ∧ _ from ⟨hsg, hdd⟩)
      have hand := andnot_is heb
      have HAN := Lib.hid hand
      obtain rfl : i = ds.length := hia.symm
      obtain ⟨Vv, hVv⟩ : ∃ v, Value.slice Va ds.length Vc = v := ⟨_, rfl⟩
      have hVs : ∃ a n c, Vv = .slice a n c := ⟨_, _, _, hVv.symm⟩
      rw [hVv] at HS9
      clear hR hg GT HI hsg hdd hVv hand hia HDL
      go_upto_region 9 with fail
      obtain ⟨VL, hVL⟩ : ∃ VL : Nat × Option Addr × Nat → List (Nat × Nat × Value), VL = fun z => [(0, 49, .pointer (some ⟨ib, 4, none⟩)), (1, 50, Vv), (2, 51, .int .i64 e), (3, 52, .int .i64 (e % 128)), (4, 53, .int .i64 dd), (5, 54, .int .i64 e), (6, 55, .bool sg), (7, 56, .pointer (some ⟨q, 0, none⟩)), (8, 57, .int .i64 dx), (9, 58, .pointer (some ⟨q, 0, none⟩)), (10, 59, .int .i64 dy), (11, 60, .agg #[.int .i64 dd, .bool sg, .int .i64 dx, .int .i64 dy, .slice none 0 0]), (12, 61, .slice (some ⟨z.1, 0, none⟩) 1 1), (13, 62, .slice z.2.1 (ds.length + 1) z.2.2), (14, 63, .pointer (some ⟨ib, 4, none⟩))] := ⟨_, rfl⟩
      have hok : ∀ z, manyOk 77 (VL z) := fun z => by rw [hVL]; exact okB_ok rfl
      have HVL := Lib.hid hVL
      have hvi : ∀ z, ∀ x ∈ VL z, x.1 < 16 := fun z => by rw [hVL]; exact ltB_ok rfl
      have HOK := Lib.hid hok
      have HVI := Lib.hid hvi
      clear hVL hok hvi
      refine (wpIn_wide (n := 9)).1 (regionIn_many (N := 77) (w := _) VL (fun L z w' => (bif L 15 then (Sz w w' P lo q ib lr #[v0, v1, v2, v3, v4, v5, .int .i64 TX, .int .i64 TY, v8, v9, v10, v11, v12, v13, v14, v15, v16, v17, v18, v19] X Y OX OY (.slice z.2.1 (ds.length + 1) z.2.2) (ds ++ [⟨dd, sg, dx, dy, none, 0, 0⟩])) else (bif L 13 then (Cst w w' P lo q lr #[v0, v1, v2, v3, v4, v5, .int .i64 TX, .int .i64 TY, v8, v9, v10, v11, v12, v13, v14, v15, v16, v17, v18, v19] ∧ w'.heap[ib]? = some (.cells #[.int .i64 X, .int .i64 Y, .int .i64 OX, .int .i64 OY, Vv] 29 (0, 0)) ∧ CRow (ib + 1) w' (.slice z.2.1 (ds.length + 1) z.2.2) (ds ++ [⟨dd, sg, dx, dy, none, 0, 0⟩]) ∧ ib + 1 ≤ w'.heap.size ∧ q < ib) else (bif L 12 then (Sz w w' P lo q ib lr #[v0, v1, v2, v3, v4, v5, .int .i64 TX, .int .i64 TY, v8, v9, v10, v11, v12, v13, v14, v15, v16, v17, v18, v19] X Y OX OY Vv ds ∧ w'.heap[z.1]? = some (.cells #[.int .i64 dd, .bool sg, .int .i64 dx, .int .i64 dy, .slice none 0 0] 45 (0, 0))) else (bif L 10 then (Sz w w' P lo q ib lr #[v0, v1, v2, v3, v4, v5, .int .i64 TX, .int .i64 TY, v8, v9, v10, v11, v12, v13, v14, v15, v16, v17, v18, v19] X Y OX OY Vv ds) else (bif L 8 then (Sz w w' P lo q ib (dy :: lr) #[v0, v1, v2, v3, v4, v5, .int .i64 TX, .int .i64 TY, v8, v9, v10, v11, v12, v13, v14, v15, v16, v17, v18, v19] X Y OX OY Vv ds) else Sz w w' P lo q ib (dx :: dy :: lr) #[v0, v1, v2, v3, v4, v5, .int .i64 TX, .int .i64 TY, v8, v9, v10, v11, v12, v13, v14, v15, v16, v17, v18, v19] X Y OX OY Vv ds)))))) [(5, .pointer (some ⟨q, 0, none⟩)), (7, .pointer (some ⟨ib, 0, none⟩)), (8, .int .i64 e)] (by kernel_rfl) (by kernel_rfl) rfl (by simp only [List.forall_mem_cons, List.not_mem_nil, false_imp_iff, implies_true, and_true]; exact ⟨rfl, rfl, rfl⟩) HVI.out (0, none, 0) ?start ?step ?fin)
      case start => exact HS9.out.drew
      case step =>
        intro gg_ hgN hgF ii_ hii_ L z w' hph hs hu
        have hF5 := hgF (5, .pointer (some ⟨q, 0, none⟩)) (by simp)
        have hF7 := hgF (7, .pointer (some ⟨ib, 0, none⟩)) (by simp)
        have hF8 := hgF (8, .int .i64 e) (by simp)
        have hL := hu.1
        have hii_ : ii_ < 16 := hii_
        clear hgF
        obtain rfl | rfl | rfl | rfl | rfl | rfl | rfl | rfl | rfl | rfl | rfl | rfl | rfl | rfl | rfl | rfl := (by omega : ii_ = 0 ∨ ii_ = 1 ∨ ii_ = 2 ∨ ii_ = 3 ∨ ii_ = 4 ∨ ii_ = 5 ∨ ii_ = 6 ∨ ii_ = 7 ∨ ii_ = 8 ∨ ii_ = 9 ∨ ii_ = 10 ∨ ii_ = 11 ∨ ii_ = 12 ∨ ii_ = 13 ∨ ii_ = 14 ∨ ii_ = 15)
        · skip
          have n13 : L 13 = false := not_yet hL fun h => shut_at hs 1 0 (by kernel_rfl) (shut_at hs 13 1 (by kernel_rfl) (h))
          have n15 : L 15 = false := not_yet hL fun h => shut_at hs 15 0 (by kernel_rfl) (h)
          try simp only [n13, n15, hL, cond_true, cond_false] at hph
          have e7 : (many gg_ L (VL z))[7]?.getD undef = .pointer (some ⟨ib, 0, none⟩) := many_out3 hgN (HOK.out z) (by rw [HVL.out]; rfl) hF7
          refine opIn_run (v := .pointer (some ⟨ib, 4, none⟩)) (w' := w') rfl rfl (fun c h => by cases h) (fun _ => trivial) ?_ ⟨z, by exact many_put3 (HOK.out _) (by rw [HVL.out]; rfl) hL, by simp only [upd, n13, n15, hL, Nat.reduceBEq, cond_true, cond_false]; exact hph⟩
          go_simp
        · skip
          have y0 : L 0 = true := up_at hu 0 (by kernel_rfl)
          have n13 : L 13 = false := not_yet hL fun h => shut_at hs 13 1 (by kernel_rfl) (h)
          have n15 : L 15 = false := not_yet hL fun h => shut_at hs 15 1 (by kernel_rfl) (h)
          try simp only [y0, n13, n15, hL, cond_true, cond_false] at hph
          have hcell : w'.cell? ⟨ib, 4, none⟩ = some (Vv) := by revert hph; cases L 8 <;> cases L 10 <;> cases L 12 <;> (intro hph; first | exact blk_cell hph.im 4 | exact blk_cell hph.1.im 4)
          have e49 : (many gg_ L (VL z))[49]?.getD undef = .pointer (some ⟨ib, 4, none⟩) := many_eval3 hgN (HOK.out z) (by rw [HVL.out]; rfl) y0
          refine opIn_run (v := Vv) (w' := w') rfl rfl (fun c h => by cases h) (fun _ => trivial) ?_ ⟨z, by exact many_put3 (HOK.out _) (by rw [HVL.out]; rfl) hL, by simp only [upd, y0, n13, n15, hL, Nat.reduceBEq, cond_true, cond_false]; exact hph⟩
          go_simp
        · skip
          have n12 : L 12 = false := not_yet hL fun h => shut_at hs 3 2 (by kernel_rfl) (shut_at hs 4 3 (by kernel_rfl) (shut_at hs 11 4 (by kernel_rfl) (shut_at hs 12 11 (by kernel_rfl) (h))))
          have n13 : L 13 = false := not_yet hL fun h => shut_at hs 3 2 (by kernel_rfl) (shut_at hs 4 3 (by kernel_rfl) (shut_at hs 11 4 (by kernel_rfl) (shut_at hs 12 11 (by kernel_rfl) (shut_at hs 13 12 (by kernel_rfl) (h)))))
          have n15 : L 15 = false := not_yet hL fun h => shut_at hs 15 2 (by kernel_rfl) (h)
          try simp only [n12, n13, n15, hL, cond_true, cond_false] at hph
          have e8 : (many gg_ L (VL z))[8]?.getD undef = .int .i64 e := many_out3 hgN (HOK.out z) (by rw [HVL.out]; rfl) hF8
          refine opIn_run (v := .int .i64 e) (w' := w') rfl rfl (fun c h => by cases h) (fun _ => trivial) ?_ ⟨z, by exact many_put3 (HOK.out _) (by rw [HVL.out]; rfl) hL, by simp only [upd, n12, n13, n15, hL, Nat.reduceBEq, cond_true, cond_false]; exact hph⟩
          go_simp
        · skip
          have y2 : L 2 = true := up_at hu 2 (by kernel_rfl)
          have n12 : L 12 = false := not_yet hL fun h => shut_at hs 4 3 (by kernel_rfl) (shut_at hs 11 4 (by kernel_rfl) (shut_at hs 12 11 (by kernel_rfl) (h)))
          have n13 : L 13 = false := not_yet hL fun h => shut_at hs 4 3 (by kernel_rfl) (shut_at hs 11 4 (by kernel_rfl) (shut_at hs 12 11 (by kernel_rfl) (shut_at hs 13 12 (by kernel_rfl) (h))))
          have n15 : L 15 = false := not_yet hL fun h => shut_at hs 15 3 (by kernel_rfl) (h)
          try simp only [y2, n12, n13, n15, hL, cond_true, cond_false] at hph
          have hand := HAN.out
          have e51 : (many gg_ L (VL z))[51]?.getD undef = .int .i64 e := many_eval3 hgN (HOK.out z) (by rw [HVL.out]; rfl) y2
          refine opIn_run (v := .int .i64 (e % 128)) (w' := w') rfl rfl (fun c h => by cases h) (fun _ => trivial) ?_ ⟨z, by exact many_put3 (HOK.out _) (by rw [HVL.out]; rfl) hL, by simp only [upd, y2, n12, n13, n15, hL, Nat.reduceBEq, cond_true, cond_false]; exact hph⟩
          go_simp
        · skip
          have y3 : L 3 = true := up_at hu 3 (by kernel_rfl)
          have n12 : L 12 = false := not_yet hL fun h => shut_at hs 11 4 (by kernel_rfl) (shut_at hs 12 11 (by kernel_rfl) (h))
          have n13 : L 13 = false := not_yet hL fun h => shut_at hs 11 4 (by kernel_rfl) (shut_at hs 12 11 (by kernel_rfl) (shut_at hs 13 12 (by kernel_rfl) (h)))
          have n15 : L 15 = false := not_yet hL fun h => shut_at hs 15 4 (by kernel_rfl) (h)
          try simp only [y3, n12, n13, n15, hL, cond_true, cond_false] at hph
          have e52 : (many gg_ L (VL z))[52]?.getD undef = .int .i64 (e % 128) := many_eval3 hgN (HOK.out z) (by rw [HVL.out]; rfl) y3
          refine opIn_run (v := .int .i64 dd) (w' := w') rfl rfl (fun c h => by cases h) (fun _ => trivial) ?_ ⟨z, by exact many_put3 (HOK.out _) (by rw [HVL.out]; rfl) hL, by simp only [upd, y3, n12, n13, n15, hL, Nat.reduceBEq, cond_true, cond_false]; exact hph⟩
          have hd_ := HSG.out.2
          have hb9 : -9223372036854775808 ≤ dd ∧ dd ≤ 9223372036854775807 := by omega
          go_simp
          first | done | (rw [hd_]; exact IntWalk.i64_in _ hb9) | exact IntWalk.i64_in _ hb9
        · skip
          have n12 : L 12 = false := not_yet hL fun h => shut_at hs 6 5 (by kernel_rfl) (shut_at hs 11 6 (by kernel_rfl) (shut_at hs 12 11 (by kernel_rfl) (h)))
          have n13 : L 13 = false := not_yet hL fun h => shut_at hs 6 5 (by kernel_rfl) (shut_at hs 11 6 (by kernel_rfl) (shut_at hs 12 11 (by kernel_rfl) (shut_at hs 13 12 (by kernel_rfl) (h))))
          have n15 : L 15 = false := not_yet hL fun h => shut_at hs 15 5 (by kernel_rfl) (h)
          try simp only [n12, n13, n15, hL, cond_true, cond_false] at hph
          have e8 : (many gg_ L (VL z))[8]?.getD undef = .int .i64 e := many_out3 hgN (HOK.out z) (by rw [HVL.out]; rfl) hF8
          refine opIn_run (v := .int .i64 e) (w' := w') rfl rfl (fun c h => by cases h) (fun _ => trivial) ?_ ⟨z, by exact many_put3 (HOK.out _) (by rw [HVL.out]; rfl) hL, by simp only [upd, n12, n13, n15, hL, Nat.reduceBEq, cond_true, cond_false]; exact hph⟩
          go_simp
        · skip
          have y5 : L 5 = true := up_at hu 5 (by kernel_rfl)
          have n12 : L 12 = false := not_yet hL fun h => shut_at hs 11 6 (by kernel_rfl) (shut_at hs 12 11 (by kernel_rfl) (h))
          have n13 : L 13 = false := not_yet hL fun h => shut_at hs 11 6 (by kernel_rfl) (shut_at hs 12 11 (by kernel_rfl) (shut_at hs 13 12 (by kernel_rfl) (h)))
          have n15 : L 15 = false := not_yet hL fun h => shut_at hs 15 6 (by kernel_rfl) (h)
          try simp only [y5, n12, n13, n15, hL, cond_true, cond_false] at hph
          have hsg := HSG.out.1
          have e54 : (many gg_ L (VL z))[54]?.getD undef = .int .i64 e := many_eval3 hgN (HOK.out z) (by rw [HVL.out]; rfl) y5
          refine opIn_run (v := .bool sg) (w' := w') rfl rfl (fun c h => by cases h) (fun _ => trivial) ?_ ⟨z, by exact many_put3 (HOK.out _) (by rw [HVL.out]; rfl) hL, by simp only [upd, y5, n12, n13, n15, hL, Nat.reduceBEq, cond_true, cond_false]; exact hph⟩
          go_simp
        · skip
          have n8 : L 8 = false := not_yet hL fun h => shut_at hs 8 7 (by kernel_rfl) (h)
          have n10 : L 10 = false := not_yet hL fun h => shut_at hs 8 7 (by kernel_rfl) (shut_at hs 10 8 (by kernel_rfl) (h))
          have n12 : L 12 = false := not_yet hL fun h => shut_at hs 8 7 (by kernel_rfl) (shut_at hs 11 8 (by kernel_rfl) (shut_at hs 12 11 (by kernel_rfl) (h)))
          have n13 : L 13 = false := not_yet hL fun h => shut_at hs 8 7 (by kernel_rfl) (shut_at hs 10 8 (by kernel_rfl) (shut_at hs 13 10 (by kernel_rfl) (h)))
          have n15 : L 15 = false := not_yet hL fun h => shut_at hs 15 7 (by kernel_rfl) (h)
          try simp only [n8, n10, n12, n13, n15, hL, cond_true, cond_false] at hph
          have e5 : (many gg_ L (VL z))[5]?.getD undef = .pointer (some ⟨q, 0, none⟩) := many_out3 hgN (HOK.out z) (by rw [HVL.out]; rfl) hF5
          refine opIn_run (v := .pointer (some ⟨q, 0, none⟩)) (w' := w') rfl rfl (fun c h => by cases h) (fun _ => trivial) ?_ ⟨z, by exact many_put3 (HOK.out _) (by rw [HVL.out]; rfl) hL, by simp only [upd, n8, n10, n12, n13, n15, hL, Nat.reduceBEq, cond_true, cond_false]; exact hph⟩
          go_simp
        · skip
          have y7 : L 7 = true := up_at hu 7 (by kernel_rfl)
          have n10 : L 10 = false := not_yet hL fun h => shut_at hs 10 8 (by kernel_rfl) (h)
          have n12 : L 12 = false := not_yet hL fun h => shut_at hs 11 8 (by kernel_rfl) (shut_at hs 12 11 (by kernel_rfl) (h))
          have n13 : L 13 = false := not_yet hL fun h => shut_at hs 10 8 (by kernel_rfl) (shut_at hs 13 10 (by kernel_rfl) (h))
          have n15 : L 15 = false := not_yet hL fun h => shut_at hs 15 8 (by kernel_rfl) (h)
          try simp only [y7, n10, n12, n13, n15, hL, cond_true, cond_false] at hph
          have e56 : (many gg_ L (VL z))[56]?.getD undef = .pointer (some ⟨q, 0, none⟩) := many_eval3 hgN (HOK.out z) (by rw [HVL.out]; rfl) y7
          refine opIn_call (f := 33) (args := #[.pointer (some ⟨q, 0, none⟩), .int .i64 1]) (w' := w') rfl rfl (fun c h => by cases h) (fun _ => trivial) rfl (by go_simp) ((callsIn_wide.2 (get1 hph.c.rd HOD.out hlz.1)).mono ?_)
          rintro e w2 ⟨rfl, hR_, hg_⟩
          exact ⟨_, rfl, z, by exact many_put3 (HOK.out _) (by rw [HVL.out]; rfl) hL, by simp only [upd, y7, n10, n12, n13, n15, hL, Nat.reduceBEq, cond_true, cond_false]; exact hph.get hR_ hg_⟩
        · skip
          have n10 : L 10 = false := not_yet hL fun h => shut_at hs 10 9 (by kernel_rfl) (h)
          have n12 : L 12 = false := not_yet hL fun h => shut_at hs 10 9 (by kernel_rfl) (shut_at hs 11 10 (by kernel_rfl) (shut_at hs 12 11 (by kernel_rfl) (h)))
          have n13 : L 13 = false := not_yet hL fun h => shut_at hs 10 9 (by kernel_rfl) (shut_at hs 13 10 (by kernel_rfl) (h))
          have n15 : L 15 = false := not_yet hL fun h => shut_at hs 15 9 (by kernel_rfl) (h)
          try simp only [n10, n12, n13, n15, hL, cond_true, cond_false] at hph
          have e5 : (many gg_ L (VL z))[5]?.getD undef = .pointer (some ⟨q, 0, none⟩) := many_out3 hgN (HOK.out z) (by rw [HVL.out]; rfl) hF5
          refine opIn_run (v := .pointer (some ⟨q, 0, none⟩)) (w' := w') rfl rfl (fun c h => by cases h) (fun _ => trivial) ?_ ⟨z, by exact many_put3 (HOK.out _) (by rw [HVL.out]; rfl) hL, by simp only [upd, n10, n12, n13, n15, hL, Nat.reduceBEq, cond_true, cond_false]; exact hph⟩
          go_simp
        · skip
          have y8 : L 8 = true := up_at hu 8 (by kernel_rfl)
          have y9 : L 9 = true := up_at hu 9 (by kernel_rfl)
          have n12 : L 12 = false := not_yet hL fun h => shut_at hs 11 10 (by kernel_rfl) (shut_at hs 12 11 (by kernel_rfl) (h))
          have n13 : L 13 = false := not_yet hL fun h => shut_at hs 13 10 (by kernel_rfl) (h)
          have n15 : L 15 = false := not_yet hL fun h => shut_at hs 15 10 (by kernel_rfl) (h)
          try simp only [y8, y9, n12, n13, n15, hL, cond_true, cond_false] at hph
          have e58 : (many gg_ L (VL z))[58]?.getD undef = .pointer (some ⟨q, 0, none⟩) := many_eval3 hgN (HOK.out z) (by rw [HVL.out]; rfl) y9
          refine opIn_call (f := 33) (args := #[.pointer (some ⟨q, 0, none⟩), .int .i64 1]) (w' := w') rfl rfl (fun c h => by cases h) (fun _ => trivial) rfl (by go_simp) ((callsIn_wide.2 (get1 hph.c.rd HOD.out.tl hlz.2)).mono ?_)
          rintro e w2 ⟨rfl, hR_, hg_⟩
          exact ⟨_, rfl, z, by exact many_put3 (HOK.out _) (by rw [HVL.out]; rfl) hL, by simp only [upd, y8, y9, n12, n13, n15, hL, Nat.reduceBEq, cond_true, cond_false]; exact hph.get hR_ hg_⟩
        · skip
          have y4 : L 4 = true := up_at hu 4 (by kernel_rfl)
          have y6 : L 6 = true := up_at hu 6 (by kernel_rfl)
          have y8 : L 8 = true := up_at hu 8 (by kernel_rfl)
          have y10 : L 10 = true := up_at hu 10 (by kernel_rfl)
          have n12 : L 12 = false := not_yet hL fun h => shut_at hs 12 11 (by kernel_rfl) (h)
          have n13 : L 13 = false := not_yet hL fun h => shut_at hs 12 11 (by kernel_rfl) (shut_at hs 13 12 (by kernel_rfl) (h))
          have n15 : L 15 = false := not_yet hL fun h => shut_at hs 15 11 (by kernel_rfl) (h)
          try simp only [y4, y6, y8, y10, n12, n13, n15, hL, cond_true, cond_false] at hph
          have e53 : (many gg_ L (VL z))[53]?.getD undef = .int .i64 dd := many_eval3 hgN (HOK.out z) (by rw [HVL.out]; rfl) y4
          have e55 : (many gg_ L (VL z))[55]?.getD undef = .bool sg := many_eval3 hgN (HOK.out z) (by rw [HVL.out]; rfl) y6
          have e57 : (many gg_ L (VL z))[57]?.getD undef = .int .i64 dx := many_eval3 hgN (HOK.out z) (by rw [HVL.out]; rfl) y8
          have e59 : (many gg_ L (VL z))[59]?.getD undef = .int .i64 dy := many_eval3 hgN (HOK.out z) (by rw [HVL.out]; rfl) y10
          refine opIn_run (v := .agg #[.int .i64 dd, .bool sg, .int .i64 dx, .int .i64 dy, .slice none 0 0]) (w' := w') rfl rfl (fun c h => by cases h) (fun _ => trivial) ?_ ⟨z, by exact many_put3 (HOK.out _) (by rw [HVL.out]; rfl) hL, by simp only [upd, y4, y6, y8, y10, n12, n13, n15, hL, Nat.reduceBEq, cond_true, cond_false]; exact hph⟩
          go_simp
        · skip
          have y8 : L 8 = true := shut_at hs 11 8 (by kernel_rfl) (up_at hu 11 (by kernel_rfl))
          have y10 : L 10 = true := shut_at hs 11 10 (by kernel_rfl) (up_at hu 11 (by kernel_rfl))
          have y11 : L 11 = true := up_at hu 11 (by kernel_rfl)
          have n13 : L 13 = false := not_yet hL fun h => shut_at hs 13 12 (by kernel_rfl) (h)
          have n15 : L 15 = false := not_yet hL fun h => shut_at hs 15 12 (by kernel_rfl) (h)
          try simp only [y8, y10, y11, n13, n15, hL, cond_true, cond_false] at hph
          have e60 : (many gg_ L (VL z))[60]?.getD undef = .agg #[.int .i64 dd, .bool sg, .int .i64 dx, .int .i64 dy, .slice none 0 0] := many_eval3 hgN (HOK.out z) (by rw [HVL.out]; rfl) y11
          refine opIn_run (v := (.slice (some ⟨w'.heap.size, 0, none⟩) 1 1)) (w' := w'.alloc (.cells #[.int .i64 dd, .bool sg, .int .i64 dx, .int .i64 dy, .slice none 0 0] 45)) rfl rfl (fun c h => by cases h) (fun _ => trivial) ?_ ⟨(w'.heap.size, z.2), by rw [show many gg_ L (VL z) = many gg_ L (VL (w'.heap.size, z.2)) from by rw [HVL.out]; simp only [many, y8, y10, y11, n13, n15, hL, cond_false, cond_true]]; exact many_put3 (HOK.out _) (by rw [HVL.out]; rfl) hL, by simp only [upd, y8, y10, y11, n13, n15, hL, Nat.reduceBEq, cond_true, cond_false]; exact ⟨hph.more ((Below.refl _ _).alloc (Nat.le_refl _) _), World.alloc_heap_new w' _⟩⟩
          clear hph
          go_simp
        · skip
          have y1 : L 1 = true := up_at hu 1 (by kernel_rfl)
          have y8 : L 8 = true := shut_at hs 10 8 (by kernel_rfl) (up_at hu 10 (by kernel_rfl))
          have y10 : L 10 = true := up_at hu 10 (by kernel_rfl)
          have y12 : L 12 = true := up_at hu 12 (by kernel_rfl)
          have n15 : L 15 = false := not_yet hL fun h => shut_at hs 15 13 (by kernel_rfl) (h)
          try simp only [y1, y8, y10, y12, n15, hL, cond_true, cond_false] at hph
          obtain ⟨UA, UC, w2, hr, h1, h2⟩ := app_cp ⟨dd, sg, dx, dy, none, 0, 0⟩ hph.1.cr hph.2 (dat_nil _ _ rfl rfl rfl) hph.1.le (by omega)
          have h3 := hph.1.app h1 h2
          have e50 : (many gg_ L (VL z))[50]?.getD undef = Vv := many_eval3 hgN (HOK.out z) (by rw [HVL.out]; rfl) y1
          have e61 : (many gg_ L (VL z))[61]?.getD undef = .slice (some ⟨z.1, 0, none⟩) 1 1 := many_eval3 hgN (HOK.out z) (by rw [HVL.out]; rfl) y12
          refine opIn_run (v := (.slice UA (ds.length + 1) UC)) (w' := w2) rfl rfl (fun c h => by cases h) (fun _ => trivial) ?_ ⟨(z.1, UA, UC), by rw [show many gg_ L (VL z) = many gg_ L (VL (z.1, UA, UC)) from by rw [HVL.out]; simp only [many, y1, y8, y10, y12, n15, hL, cond_false, cond_true]]; exact many_put3 (HOK.out _) (by rw [HVL.out]; rfl) hL, by simp only [upd, y1, y8, y10, y12, n15, hL, Nat.reduceBEq, cond_true, cond_false]; exact h3⟩
          clear h1 h2 h3 hph
          go_simp
        · skip
          have y0 : L 0 = true := up_at hu 0 (by kernel_rfl)
          have y1 : L 1 = true := up_at hu 1 (by kernel_rfl)
          have y2 : L 2 = true := up_at hu 2 (by kernel_rfl)
          have y3 : L 3 = true := up_at hu 3 (by kernel_rfl)
          have y4 : L 4 = true := up_at hu 4 (by kernel_rfl)
          have y5 : L 5 = true := up_at hu 5 (by kernel_rfl)
          have y6 : L 6 = true := up_at hu 6 (by kernel_rfl)
          have y7 : L 7 = true := up_at hu 7 (by kernel_rfl)
          have y8 : L 8 = true := up_at hu 8 (by kernel_rfl)
          have y9 : L 9 = true := up_at hu 9 (by kernel_rfl)
          have y10 : L 10 = true := up_at hu 10 (by kernel_rfl)
          have y11 : L 11 = true := up_at hu 11 (by kernel_rfl)
          have y12 : L 12 = true := up_at hu 12 (by kernel_rfl)
          have y13 : L 13 = true := up_at hu 13 (by kernel_rfl)
          have n15 : L 15 = false := not_yet hL fun h => shut_at hs 15 14 (by kernel_rfl) (h)
          try simp only [y0, y1, y2, y3, y4, y5, y6, y7, y8, y9, y10, y11, y12, y13, n15, hL, cond_true, cond_false] at hph
          have e7 : (many gg_ L (VL z))[7]?.getD undef = .pointer (some ⟨ib, 0, none⟩) := many_out3 hgN (HOK.out z) (by rw [HVL.out]; rfl) hF7
          refine opIn_run (v := .pointer (some ⟨ib, 4, none⟩)) (w' := w') rfl rfl (fun c h => by cases h) (fun _ => trivial) ?_ ⟨z, by exact many_put3 (HOK.out _) (by rw [HVL.out]; rfl) hL, by simp only [upd, y0, y1, y2, y3, y4, y5, y6, y7, y8, y9, y10, y11, y12, y13, n15, hL, Nat.reduceBEq, cond_true, cond_false]; exact hph⟩
          go_simp
        · skip
          have y0 : L 0 = true := up_at hu 0 (by kernel_rfl)
          have y1 : L 1 = true := up_at hu 1 (by kernel_rfl)
          have y2 : L 2 = true := up_at hu 2 (by kernel_rfl)
          have y3 : L 3 = true := up_at hu 3 (by kernel_rfl)
          have y4 : L 4 = true := up_at hu 4 (by kernel_rfl)
          have y5 : L 5 = true := up_at hu 5 (by kernel_rfl)
          have y6 : L 6 = true := up_at hu 6 (by kernel_rfl)
          have y7 : L 7 = true := up_at hu 7 (by kernel_rfl)
          have y8 : L 8 = true := up_at hu 8 (by kernel_rfl)
          have y9 : L 9 = true := up_at hu 9 (by kernel_rfl)
          have y10 : L 10 = true := up_at hu 10 (by kernel_rfl)
          have y11 : L 11 = true := up_at hu 11 (by kernel_rfl)
          have y12 : L 12 = true := up_at hu 12 (by kernel_rfl)
          have y13 : L 13 = true := up_at hu 13 (by kernel_rfl)
          have y14 : L 14 = true := up_at hu 14 (by kernel_rfl)
          try simp only [y0, y1, y2, y3, y4, y5, y6, y7, y8, y9, y10, y11, y12, y13, y14, hL, cond_true, cond_false] at hph
          have hc := blk_cell hph.2.1 4
          have hfz : w'.frozen? ⟨ib, 4, none⟩ = false := by simp [World.frozen?, hph.2.1]
          have h9 := Sz.fin hph
          have e62 : (many gg_ L (VL z))[62]?.getD undef = .slice z.2.1 (ds.length + 1) z.2.2 := many_eval3 hgN (HOK.out z) (by rw [HVL.out]; rfl) y13
          have e63 : (many gg_ L (VL z))[63]?.getD undef = .pointer (some ⟨ib, 4, none⟩) := many_eval3 hgN (HOK.out z) (by rw [HVL.out]; rfl) y14
          refine opIn_skip (w' := w'.setCell ⟨ib, 4, none⟩ (.slice z.2.1 (ds.length + 1) z.2.2)) rfl rfl (fun c h => by cases h) (fun _ => trivial) ?_ ⟨z, by exact many_none 15 _ (by rw [HVL.out]; simp), by simp only [upd, y0, y1, y2, y3, y4, y5, y6, y7, y8, y9, y10, y11, y12, y13, y14, hL, Nat.reduceBEq, cond_true, cond_false]; exact h9⟩
          clear hph h9
          simp at hc
          go_simp
      case fin =>
        intro L z w' hall hph
        have l8 := hall 8 (by decide)
        have l10 := hall 10 (by decide)
        have l12 := hall 12 (by decide)
        have l13 := hall 13 (by decide)
        have l15 := hall 15 (by decide)
        simp only [l8, l10, l12, l13, l15, cond_true] at hph
        clear l8 l10 l12 l13 l15
        rw [HVL.out]
        dsimp only [manyL, List.set_cons_zero, List.set_cons_succ]
        clear hall HVL HOK HVI
        obtain ⟨zb, UA, UC⟩ := z
        simp only at hph
        have HN : Hid (Sz w w' P lo q ib ((zs.drop (ds.length + 1)).flatMap trip) #[v0, v1, v2, v3, v4, v5, .int .i64 TX, .int .i64 TY, v8, v9, v10, v11, v12, v13, v14, v15, v16, v17, v18, v19] X Y OX OY (.slice UA (ds.length + 1) UC) ((zs.take (ds.length + 1)).map cpOf)) := Lib.hid (by
          rw [HLR.out, ← HTK.out]
          have hcp : cpOf (e, dx, dy) = ⟨dd, sg, dx, dy, none, 0, 0⟩ := by simp only [cpOf, HSG.out.1, HSG.out.2]
          rw [hcp]
          exact hph)
        clear hph HS9
        go_wp2
        go_roundg g1
        case measure => omega
        case rel => exact ⟨ds.length + 1, UA, UC, by omega, by go_num, HN⟩
    · obtain rfl : m = i := by omega
      have hlc : ¬ (m : Int) < (m : Int) := by omega
      have k0 : wa.cell? ⟨ib, 0, none⟩ = some (.int .i64 X) := rb_cell HI.out.im 0
      have k1 : wa.cell? ⟨ib, 1, none⟩ = some (.int .i64 Y) := rb_cell HI.out.im 1
      have k2 : wa.cell? ⟨ib, 2, none⟩ = some (.int .i64 OX) := rb_cell HI.out.im 2
      have k3 : wa.cell? ⟨ib, 3, none⟩ = some (.int .i64 OY) := rb_cell HI.out.im 3
      have k4 : wa.cell? ⟨ib, 4, none⟩ = some (.slice Va m Vc) := rb_cell HI.out.im 4
      have c1 := rb_cell HI.out.c.pb 1
      have z1 := blk_frozen HI.out.c.pb 1
      try simp only [List.getElem?_toArray, List.getElem?_cons_succ, List.getElem?_cons_zero] at c1
      obtain ⟨y0, hy0⟩ : ∃ X_, World.setCell wa { block := P, off := 1 } (.int .i64 X) = X_ := ⟨_, rfl⟩
      have HY0 : Hid (Sz w y0 P lo q ib _ _ X Y OX OY _ _) := Lib.hid (by rw [← hy0]; exact HI.out.put 1 _)
      have c2 := rb_cell HY0.out.c.pb 2
      have z2 := blk_frozen HY0.out.c.pb 2
      try simp only [List.getElem?_toArray, List.getElem?_cons_succ, List.getElem?_cons_zero] at c2
      obtain ⟨y1, hy1⟩ : ∃ X_, World.setCell y0 { block := P, off := 2 } (.int .i64 Y) = X_ := ⟨_, rfl⟩
      have HY1 : Hid (Sz w y1 P lo q ib _ _ X Y OX OY _ _) := Lib.hid (by rw [← hy1]; exact HY0.out.put 2 _)
      have c3 := rb_cell HY1.out.c.pb 3
      have z3 := blk_frozen HY1.out.c.pb 3
      try simp only [List.getElem?_toArray, List.getElem?_cons_succ, List.getElem?_cons_zero] at c3
      obtain ⟨y2, hy2⟩ : ∃ X_, World.setCell y1 { block := P, off := 3 } (.int .i64 OX) = X_ := ⟨_, rfl⟩
      have HY2 : Hid (Sz w y2 P lo q ib _ _ X Y OX OY _ _) := Lib.hid (by rw [← hy2]; exact HY1.out.put 3 _)
      have c4 := rb_cell HY2.out.c.pb 4
      have z4 := blk_frozen HY2.out.c.pb 4
      try simp only [List.getElem?_toArray, List.getElem?_cons_succ, List.getElem?_cons_zero] at c4
      obtain ⟨y3, hy3⟩ : ∃ X_, World.setCell y2 { block := P, off := 4 } (.int .i64 OY) = X_ := ⟨_, rfl⟩
      have HY3 : Hid (Sz w y3 P lo q ib _ _ X Y OX OY _ _) := Lib.hid (by rw [← hy3]; exact HY2.out.put 4 _)
      have c5 := rb_cell HY3.out.c.pb 5
      have z5 := blk_frozen HY3.out.c.pb 5
      try simp only [List.getElem?_toArray, List.getElem?_cons_succ, List.getElem?_cons_zero] at c5
      obtain ⟨y4, hy4⟩ : ∃ X_, World.setCell y3 { block := P, off := 5 } (.slice Va m Vc) = X_ := ⟨_, rfl⟩
      have HY4 : Hid (Sz w y4 P lo q ib _ _ X Y OX OY _ _) := Lib.hid (by rw [← hy4]; exact HY3.out.put 5 _)
      have hze : (zs.drop m).flatMap trip = [] := by rw [List.drop_eq_nil_of_le (Nat.le_of_eq HM.out)]; rfl
      have htk : (zs.take m).map cpOf = zs.map cpOf := by rw [List.take_of_length_le (Nat.le_of_eq HM.out)]
      have hrd := HY4.out.c.rd
      rw [hze] at hrd
      have ED := Lib.hid (end_any hrd (by simp))
      have HF : Hid (y4.heap[P]? = some (.cells #[v0, .int .i64 X, .int .i64 Y, .int .i64 OX, .int .i64 OY, .slice Va m Vc, .int .i64 TX, .int .i64 TY, v8, v9, v10, v11, v12, v13, v14, v15, v16, v17, v18, v19] 69 (0, 0)) ∧ CRow lo y4 (.slice Va m Vc) (zs.map cpOf) ∧ w.grownBy y4 (some P)) := Lib.hid (by
        have h1 := HY4.out
        rw [htk] at h1
        have hle : lo ≤ ib + 1 := by have := h1.c.rd.1; have := h1.qi; omega
        exact ⟨h1.c.pb, ⟨own_lowq h1.cr.own hle, fun c hc => by
          obtain ⟨l, g1, g2⟩ := h1.cr.dat c hc
          exact ⟨l, own_lowq g1 hle, g2⟩⟩, h1.c.gr⟩)
      clear hze htk hrd
      go_wp2_with fail
      clear k0 k1 k2 k3 k4 c1 c2 c3 c4 c5 z1 z2 z3 z4 z5 hy0 hy1 hy2 hy3 hy4 HY0 HY1 HY2 HY3 HY4 HI
      refine ED.out.mono ?_
      rintro e_ wx ⟨rfl, nd, rfl⟩
      have hee : endE ([] : List Int).length 0 = 0 := rfl
      rw [hee]
      have HG : Hid ((y4.drewN nd).heap[P]? = some (.cells #[v0, .int .i64 X, .int .i64 Y, .int .i64 OX, .int .i64 OY, .slice Va m Vc, .int .i64 TX, .int .i64 TY, v8, v9, v10, v11, v12, v13, v14, v15, v16, v17, v18, v19] 69 (0, 0)) ∧ CRow w.heap.size (y4.drewN nd) (.slice Va m Vc) (zs.map cpOf) ∧ w.grownBy (y4.drewN nd) (some P)) := Lib.hid (by
        rw [HLO.out]
        have hb := below_drewN (Below.refl y4.heap.size y4) nd
        exact ⟨HF.out.1, HF.out.2.1.below hb, ⟨hb.os.trans HF.out.2.2.os, hb.tape.trans HF.out.2.2.tape, hb.output.trans HF.out.2.2.output, Nat.le_trans HF.out.2.2.size hb.size, fun k hk hkP => (hb.block k (Nat.lt_of_lt_of_le hk HF.out.2.2.size)).trans (HF.out.2.2.block k hk hkP)⟩⟩)
      go_wp2
      go_ret
      have h := HG.out
      rw [← HM.out] at h
      exact ⟨Va, Vc, rfl, h.1, h.2.1, h.2.2⟩
end
end Go.Proofs.Ytlbfjaifemnkpaa
