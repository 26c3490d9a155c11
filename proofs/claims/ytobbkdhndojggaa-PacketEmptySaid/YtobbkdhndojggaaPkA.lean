/- packet: what its iterators yield. -/
import Derived.Test.YtobbkdhndojggaaTrG
import Derived.RangeFuncBox
import Derived.RangeFuncLeaves
import Derived.Shelf.Abstract
import Derived.OwnWalkIn
import Derived.TacticsInMore
import Derived.LoopNIn
import Derived.LoopIn
set_option linter.unusedVariables false
set_option linter.unusedSimpArgs false
namespace Go.Proofs.Ytobbkdhndojggaa
open Go.RowKit Go.Shelf
attribute [local go_sem] Oper.semAt_some
/-- A Band of n blocks that have nothing. -/
def BHead (w : World) (pb ib n : Nat) (pl : Int) : Prop := ∃ i1 i2, w.heap[pb]? = some (.cells #[.slice (some ⟨ib, 0, none⟩) n n, .int .i64 pl, .pointer (some ⟨i1, 0, none⟩), .pointer (some ⟨i2, 0, none⟩), .bool false] 54 (0, 0))
def BItems (w : World) (ib n : Nat) : Prop := ∃ arr : Array Value, w.heap[ib]? = some (.cells arr 59 (0, 0)) ∧ arr.size = n * 4 ∧ ∀ k, k < n → arr[k * 4]? = some (.int .i64 0) ∧ arr[k * 4 + 1]? = some (.slice none 0 0) ∧ arr[k * 4 + 2]? = some (.slice none 0 0) ∧ ∃ d, arr[k * 4 + 3]? = some (.int .i64 d)
theorem BHead.c0 {w : World} {pb ib n : Nat} {pl : Int} (h : BHead w pb ib n pl) : w.cell? ⟨pb, 0, none⟩ = some (.slice (some ⟨ib, 0, none⟩) n n) ∧ w.cell? ⟨pb, 1, none⟩ = some (.int .i64 pl) := by
  obtain ⟨i1, i2, h⟩ := h
  exact ⟨by simp [World.cell?, h], by simp [World.cell?, h]⟩
theorem BHead.keep {w w' : World} {pb ib n : Nat} {pl : Int} (h : BHead w pb ib n pl) (hk : w'.heap[pb]? = w.heap[pb]?) : BHead w' pb ib n pl := by
  obtain ⟨i1, i2, h⟩ := h
  exact ⟨i1, i2, hk.trans h⟩
theorem BHead.lt {w : World} {pb ib n : Nat} {pl : Int} (h : BHead w pb ib n pl) : pb < w.heap.size := by
  obtain ⟨i1, i2, h⟩ := h
  exact blk_lt h
theorem BItems.lt {w : World} {ib n : Nat} (h : BItems w ib n) : ib < w.heap.size := by
  obtain ⟨arr, h, _⟩ := h
  exact blk_lt h
theorem BItems.keep {w w' : World} {ib n : Nat} (h : BItems w ib n) (hk : w'.heap[ib]? = w.heap[ib]?) : BItems w' ib n := by
  obtain ⟨arr, h1, h2⟩ := h
  exact ⟨arr, hk.trans h1, h2⟩
theorem BItems.cell {w : World} {ib n k : Nat} (h : BItems w ib n) (hk : k < n) : w.cell? ⟨ib, k * 4, none⟩ = some (.int .i64 0) ∧ w.cell? ⟨ib, k * 4 + 1, none⟩ = some (.slice none 0 0) ∧ w.cell? ⟨ib, k * 4 + 2, none⟩ = some (.slice none 0 0) ∧ (∃ d, w.cell? ⟨ib, k * 4 + 3, none⟩ = some (.int .i64 d)) ∧ ∀ o, w.frozen? ⟨ib, o, none⟩ = false := by
  obtain ⟨arr, h1, h2, h3⟩ := h
  obtain ⟨a, b, c, d, e⟩ := h3 k hk
  exact ⟨by simp [World.cell?, h1, a], by simp [World.cell?, h1, b], by simp [World.cell?, h1, c], ⟨d, by simp [World.cell?, h1, e]⟩, fun o => by simp [World.frozen?, h1]⟩
theorem BItems.set {w : World} {ib n k : Nat} (h : BItems w ib n) (hk : k < n) (x : Int) : BItems (w.setCell ⟨ib, k * 4 + 3, none⟩ (.int .i64 x)) ib n := by
  obtain ⟨arr, h1, h2, h3⟩ := h
  refine ⟨arr.setIfInBounds (k * 4 + 3) (.int .i64 x), by simp [World.setCell, Array.getElem?_modify, h1], by simp [h2], fun j hj => ?_⟩
  obtain ⟨a, b, c, d, e⟩ := h3 j hj
  simp only [Array.getElem?_setIfInBounds]
  rw [if_neg (by omega), if_neg (by omega), if_neg (by omega)]
  refine ⟨a, b, c, ?_⟩
  by_cases hjk : k * 4 + 3 = j * 4 + 3
  · exact ⟨x, by rw [if_pos hjk, if_pos (by omega)]⟩
  · exact ⟨d, by rw [if_neg hjk]; exact e⟩
abbrev encA (ib : Nat) (k : Nat) : Array Value := #[.int .i64 (k : Int), .pointer (some ⟨ib, k * 4, none⟩)]
abbrev encC (pb : Nat) (k : Nat) : Array Value := #[.pointer (some ⟨pb, 0, none⟩), .int .i64 (k : Int)]
def Keep2 (c pb : Nat) (W W' : World) : Prop := W'.heap[c]? = W.heap[c]? ∧ W'.heap[pb]? = W.heap[pb]?
set_option maxRecDepth 100000 in
set_option maxHeartbeats 2000000 in
theorem all1_in (n : Nat) (hn : 3 ≤ n) (l c pb ib m : Nat) (pl : Int) (hm : m ≤ 5000)
    (J Jx : List Nat → World → Prop)
    (hY : ∀ pre x W, J pre W → x < m → pre.length < m → YieldAt Fence.wide (n - 1) Try.prog l (encA ib x) W fun e W' =>
      (e = .returned (.bool true) ∧ J (pre ++ [x]) W' ∧ Keep2 c pb W W') ∨ (e = .returned (.bool false) ∧ Jx (pre ++ [x]) W'))
    (W : World) (hc : W.heap[c]? = some (.cells #[.pointer (some ⟨pb, 0, none⟩)] 121 (0, 0))) (hp : BHead W pb ib m pl) (h0 : J [] W) :
    CallsIn Fence.wide n Try.prog 47 #[.func (.yield l) #[] #[], .pointer (some ⟨c, 0, none⟩)] W fun e W' => (∃ v, e = .returned v) ∧
      ((∃ ys, ys = List.range m ∧ J ys W') ∨ (∃ pre, True ∧ Jx pre W')) := by
  have h1 : 1 ≤ n := by omega
  have HC := Lib.hid hc
  have HP := Lib.hid hp
  have rc : ∀ V : World, V.heap[c]? = some (.cells #[.pointer (some ⟨pb, 0, none⟩)] 121 (0, 0)) → V.cell? ⟨c, 0, none⟩ = some (.pointer (some ⟨pb, 0, none⟩)) := by
    intro V h; simp [World.cell?, h]
  have RC := Lib.hid rc
  have g0 := rc _ hc
  have g1 := hp.c0.1
  clear rc hc hp
  refine callsIn_of_wp Try.func47 rfl trivial ?_ rfl
  simp only [Try.ntmps47, List.size_toArray, List.length_cons, List.length_nil, Nat.reduceAdd, Nat.reduceSub, Array.replicate_succ, Array.replicate_zero, List.push_toArray, List.append_toArray, List.nil_append, List.cons_append]
  gi_wp2
  clear g0 g1
  gi_loopw [9] (fun kv wr => ∃ k : Nat, k ≤ m ∧ kv = .int .i64 (k : Int) ∧ J (List.range k) wr ∧ Hid (wr.heap[c]? = some (.cells #[.pointer (some ⟨pb, 0, none⟩)] 121 (0, 0))) ∧ Hid (BHead wr pb ib m pl))
    (fun kv _ => m - (intOf kv).toNat)
  case atStart => exact ⟨0, by omega, by simp, by simpa using h0, HC, HP⟩
  case round =>
    obtain ⟨k, hk, rfl, hJ, HCr, HPr⟩ := hrel
    have g0 := RC.out _ HCr.out
    have g1 := HPr.out.c0.1
    clear h0
    by_cases hlt : k < m
    · have c1 : (k : Int) < (m : Int) ∧ (0 : Int) ≤ (k : Int) := by omega
      obtain ⟨fn, tmps, assign, body, hy2, hR⟩ := hY _ k wr hJ hlt (by simpa using hlt)
      dsimp only [encA] at hy2
      clear hJ
      gi_wp2
      refine hR.mono ?_
      rintro e W3 (⟨rfl, hJ3, hk3⟩ | ⟨rfl, hJx3⟩)
      · have HC3 : Hid (W3.heap[c]? = some (.cells #[.pointer (some ⟨pb, 0, none⟩)] 121 (0, 0))) := Lib.hid (hk3.1.trans HCr.out)
        have HP3 := Lib.hid (HPr.out.keep hk3.2)
        have HJ3 := Lib.hid hJ3
        clear hk3 hJ3 g0 g1
        gi_wp2
        go_roundw
        case rel => exact ⟨k + 1, by omega, by push_cast; go_num, by rw [List.range_succ]; exact HJ3.out, HC3, HP3⟩
        case measure => simp [intOf]; omega
      · gi_wp2
        refine bodyPost_ret (results_none rfl _ _ _) rfl ?_
        exact ⟨⟨_, rfl⟩, .inr ⟨_, trivial, hJx3⟩⟩
    · obtain rfl : k = m := by omega
      have HJ := Lib.hid hJ
      clear hJ
      gi_wp2
      go_end0
      exact ⟨⟨_, rfl⟩, .inl ⟨_, rfl, HJ.out⟩⟩
/-- A row of one Band. -/
def OneB (w : World) (c A pb : Nat) : Prop := w.heap[c]? = some (.cells #[.slice (some ⟨A, 0, none⟩) 1 1] 43 (0, 0)) ∧ w.cell? ⟨A, 0, none⟩ = some (.pointer (some ⟨pb, 0, none⟩))
def KeepC (c A pb : Nat) (W W' : World) : Prop := W'.heap[c]? = W.heap[c]? ∧ W'.heap[A]? = W.heap[A]? ∧ W'.heap[pb]? = W.heap[pb]?
set_option maxRecDepth 100000 in
set_option maxHeartbeats 2000000 in
theorem cells1_in (n : Nat) (hn : 3 ≤ n) (l c A pb ib m : Nat) (pl : Int) (hm : m ≤ 5000)
    (J Jx : List Nat → World → Prop)
    (hY : ∀ pre x W, J pre W → x < m → pre.length < m → YieldAt Fence.wide (n - 1) Try.prog l (encC pb x) W fun e W' =>
      (e = .returned (.bool true) ∧ J (pre ++ [x]) W' ∧ KeepC c A pb W W') ∨ (e = .returned (.bool false) ∧ Jx (pre ++ [x]) W'))
    (W : World) (hc : OneB W c A pb) (hp : BHead W pb ib m pl) (h0 : J [] W) :
    CallsIn Fence.wide n Try.prog 59 #[.func (.yield l) #[] #[], .pointer (some ⟨c, 0, none⟩)] W fun e W' => (∃ v, e = .returned v) ∧
      ((∃ ys, ys = List.range m ∧ J ys W') ∨ (∃ pre, True ∧ Jx pre W')) := by
  have h1 : 1 ≤ n := by omega
  have HC := Lib.hid hc
  have HP := Lib.hid hp
  have g0 : W.cell? ⟨c, 0, none⟩ = some (.slice (some ⟨A, 0, none⟩) 1 1) := by have := hc.1; simp [World.cell?, this]
  clear hc hp
  refine callsIn_of_wp Try.func59 rfl trivial ?_ rfl
  simp only [Try.ntmps59, List.size_toArray, List.length_cons, List.length_nil, Nat.reduceAdd, Nat.reduceSub, Array.replicate_succ, Array.replicate_zero, List.push_toArray, List.append_toArray, List.nil_append, List.cons_append]
  gi_wp2
  clear g0
  gi_loopw [8] (fun iv wr => ∃ i : Nat, i ≤ 1 ∧ iv = .int .i64 (i : Int) ∧ J (if i = 0 then [] else List.range m) wr ∧ Hid (OneB wr c A pb) ∧ Hid (BHead wr pb ib m pl))
    (fun iv _ => 1 - (intOf iv).toNat)
  case atStart => exact ⟨0, by omega, by simp, by simpa using h0, HC, HP⟩
  case round =>
    obtain ⟨i, hi, rfl, hJ, HCr, HPr⟩ := hrel
    clear h0
    by_cases hi0 : i < 1
    · obtain rfl : i = 0 := by omega
      have HJ0 := Lib.hid hJ
      have g2 := HCr.out.2
      have g1 := HPr.out.c0.1
      clear hJ
      gi_wp2
      clear g1 g2
      gi_loopw [18] (fun kv wr => ∃ k : Nat, k ≤ m ∧ kv = .int .i64 (k : Int) ∧ J (List.range k) wr ∧ Hid (OneB wr c A pb) ∧ Hid (BHead wr pb ib m pl))
        (fun kv _ => m - (intOf kv).toNat)
      case atStart => exact ⟨0, by omega, by simp, by simpa using HJ0.out, HCr, HPr⟩
      case round =>
        obtain ⟨k, hk, rfl, hJ, HCr2, HPr2⟩ := hrel
        by_cases hlt : k < m
        · have c1 : (k : Int) < (m : Int) ∧ (0 : Int) ≤ (k : Int) := by omega
          obtain ⟨fn, tmps, assign, body, hy2, hR⟩ := hY _ k wr hJ hlt (by simpa using hlt)
          dsimp only [encC] at hy2
          clear hJ
          gi_wp2
          refine hR.mono ?_
          rintro e W3 (⟨rfl, hJ3, hk3⟩ | ⟨rfl, hJx3⟩)
          · have HC3 : Hid (OneB W3 c A pb) := Lib.hid ⟨hk3.1.trans HCr2.out.1, (World.cell?_of_block (w := wr) hk3.2.1).trans HCr2.out.2⟩
            have HP3 := Lib.hid (HPr2.out.keep hk3.2.2)
            have HJ3 := Lib.hid hJ3
            clear hk3 hJ3
            gi_wp2
            go_roundw
            case rel => exact ⟨k + 1, by omega, by push_cast; go_num, by rw [List.range_succ]; exact HJ3.out, HC3, HP3⟩
            case measure => simp [intOf]; omega
          · gi_wp2
            refine bodyPost_ret (results_none rfl _ _ _) rfl ?_
            exact ⟨⟨_, rfl⟩, .inr ⟨_, trivial, hJx3⟩⟩
        · obtain rfl : k = m := by omega
          have HJ := Lib.hid hJ
          clear hJ
          gi_wp2
          go_roundw
          case rel => exact ⟨1, by omega, by simp, by simpa using HJ.out, HCr2, HPr2⟩
          case measure => simp [intOf]
    · obtain rfl : i = 1 := by omega
      have HJ := Lib.hid hJ
      clear hJ
      gi_wp2
      go_end0
      exact ⟨⟨_, rfl⟩, .inl ⟨_, rfl, by simpa using HJ.out⟩⟩
end Go.Proofs.Ytobbkdhndojggaa
