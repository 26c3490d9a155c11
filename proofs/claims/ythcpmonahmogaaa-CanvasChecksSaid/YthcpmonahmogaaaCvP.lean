/- canvas: places, what it yields. -/
import Derived.Test.YthcpmonahmogaaaCvA
import Derived.RangeFuncBox
import Derived.RangeFuncLeaves
import Derived.Shelf.Abstract
import Derived.OwnWalkIn
import Derived.TacticsInMore
import Derived.LoopNIn
import Derived.LoopIn
set_option linter.unusedVariables false
set_option linter.unusedSimpArgs false
namespace Go.Proofs.Ythcpmonahmogaaa
open Go.RowKit Go.Shelf
attribute [local go_sem] Oper.semAt_some
/-- Places of a row, and of so many rows. -/
def rowP (x0 y : Int) (k : Nat) : List (Int × Int) := (List.range k).map fun (t : Nat) => (x0 + (t : Int), y)
def plP (x0 y0 : Int) (wd : Nat) : Nat → List (Int × Int)
  | 0 => []
  | m + 1 => plP x0 y0 wd m ++ rowP x0 (y0 + (m : Int)) wd
theorem rowP_succ (x0 y : Int) (k : Nat) : rowP x0 y (k + 1) = rowP x0 y k ++ [(x0 + (k : Int), y)] := by simp [rowP, List.range_succ]
theorem plP_len (x0 y0 : Int) (wd m : Nat) : (plP x0 y0 wd m).length = m * wd := by
  induction m with
  | zero => simp [plP]
  | succ m ih => rw [plP, List.length_append, ih, rowP, List.length_map, List.length_range, Nat.succ_mul]
abbrev encQ (p : Int × Int) : Array Value := #[.int .i64 p.1, .int .i64 p.2]
def KeepB (b : Nat) (W W' : World) : Prop := W'.heap[b]? = W.heap[b]?
set_option maxRecDepth 100000 in
set_option maxHeartbeats 2000000 in
theorem places1_in (n : Nat) (hn : 3 ≤ n) (l b : Nat) (x0 y0 : Int) (wd ht : Nat) (hx : 0 ≤ x0 ∧ x0 + wd ≤ 100000) (hy : 0 ≤ y0 ∧ y0 + ht ≤ 100000)
    (J Jx : List (Int × Int) → World → Prop)
    (hY : ∀ pre x W, J pre W → (x0 ≤ x.1 ∧ x.1 < x0 + wd ∧ y0 ≤ x.2 ∧ x.2 < y0 + ht) → pre.length < ht * wd → YieldAt Fence.wide (n - 1) Try.prog l (encQ x) W fun e W' =>
      (e = .returned (.bool true) ∧ J (pre ++ [x]) W' ∧ KeepB b W W') ∨ (e = .returned (.bool false) ∧ Jx (pre ++ [x]) W'))
    (W : World) (hbx : W.heap[b]? = some (.cells #[.int .i64 x0, .int .i64 y0, .int .i64 (x0 + wd), .int .i64 (y0 + ht)] 48 (0, 0))) (h0 : J [] W) :
    CallsIn Fence.wide n Try.prog 63 #[.func (.yield l) #[] #[], .pointer (some ⟨b, 0, none⟩)] W fun e W' => (∃ v, e = .returned v) ∧
      ((∃ ys, ys = plP x0 y0 wd ht ∧ J ys W') ∨ (∃ pre, True ∧ Jx pre W')) := by
  have h1 : 1 ≤ n := by omega
  have HBX := Lib.hid hbx
  have rc : ∀ V : World, V.heap[b]? = some (.cells #[.int .i64 x0, .int .i64 y0, .int .i64 (x0 + wd), .int .i64 (y0 + ht)] 48 (0, 0)) → V.cell? ⟨b, 0, none⟩ = some (.int .i64 x0) ∧ V.cell? ⟨b, 1, none⟩ = some (.int .i64 y0) ∧ V.cell? ⟨b, 2, none⟩ = some (.int .i64 (x0 + wd)) ∧ V.cell? ⟨b, 3, none⟩ = some (.int .i64 (y0 + ht)) := by
    intro V h; simp [World.cell?, h]
  have RC := Lib.hid rc
  obtain ⟨g0, g1, g2, g3⟩ := rc _ hbx
  clear rc hbx
  refine callsIn_of_wp Try.func63 rfl trivial ?_ rfl
  simp only [Try.ntmps63, List.size_toArray, List.length_cons, List.length_nil, Nat.reduceAdd, Nat.reduceSub, Array.replicate_succ, Array.replicate_zero, List.push_toArray, List.append_toArray, List.nil_append, List.cons_append]
  gi_wp2
  clear g0 g1 g2 g3
  gi_loopw [3] (fun yv wr => ∃ m : Nat, m ≤ ht ∧ yv = .int .i64 (y0 + m) ∧ J (plP x0 y0 wd m) wr ∧ Hid (wr.heap[b]? = some (.cells #[.int .i64 x0, .int .i64 y0, .int .i64 (x0 + wd), .int .i64 (y0 + ht)] 48 (0, 0))))
    (fun yv _ => (y0 + ht - intOf yv).toNat)
  case atStart => exact ⟨0, by omega, by simp, h0, HBX⟩
  case round =>
    obtain ⟨m, hm, rfl, hJ, HB⟩ := hrel
    obtain ⟨g0, g1, g2, g3⟩ := RC.out _ HB.out
    have HJ := Lib.hid hJ
    clear hJ h0
    by_cases hlt : m < ht
    · have c1 : y0 + (m : Int) < y0 + (ht : Int) := by omega
      gi_wp2
      clear g0 g1 g2 g3
      gi_loopw [4] (fun xv wr => ∃ k : Nat, k ≤ wd ∧ xv = .int .i64 (x0 + k) ∧ J (plP x0 y0 wd m ++ rowP x0 (y0 + m) k) wr ∧ Hid (wr.heap[b]? = some (.cells #[.int .i64 x0, .int .i64 y0, .int .i64 (x0 + wd), .int .i64 (y0 + ht)] 48 (0, 0))))
        (fun xv _ => (x0 + wd - intOf xv).toNat)
      case atStart => exact ⟨0, by omega, by simp, by simpa [rowP] using HJ.out, HB⟩
      case round =>
        obtain ⟨k, hk, rfl, hJk, HBk⟩ := hrel
        obtain ⟨g0, g1, g2, g3⟩ := RC.out _ HBk.out
        by_cases hlk : k < wd
        · have c2 : x0 + (k : Int) < x0 + (wd : Int) := by omega
          have hle : (plP x0 y0 wd m ++ rowP x0 (y0 + m) k).length < ht * wd := by
            rw [List.length_append, plP_len, rowP, List.length_map, List.length_range]
            have : (m + 1) * wd ≤ ht * wd := Nat.mul_le_mul_right wd (by omega)
            rw [Nat.succ_mul] at this
            omega
          obtain ⟨fn, tmps, assign, body, hy2, hR⟩ := hY _ (x0 + k, y0 + m) wr hJk ⟨show x0 ≤ x0 + (k : Int) by omega, show x0 + (k : Int) < x0 + wd by omega, show y0 ≤ y0 + (m : Int) by omega, show y0 + (m : Int) < y0 + ht by omega⟩ hle
          dsimp only [encQ] at hy2
          clear hJk hle
          gi_wp2
          refine hR.mono ?_
          rintro e W3 (⟨rfl, hJ3, hk3⟩ | ⟨rfl, hJx3⟩)
          · have HB3 : Hid (W3.heap[b]? = some (.cells #[.int .i64 x0, .int .i64 y0, .int .i64 (x0 + wd), .int .i64 (y0 + ht)] 48 (0, 0))) := Lib.hid (Eq.trans hk3 HBk.out)
            have HJ3 := Lib.hid hJ3
            clear hk3 g0 g1 g2 g3 hJ3
            gi_wp2
            go_roundw
            case rel => exact ⟨k + 1, by omega, by push_cast; go_num, by rw [rowP_succ, ← List.append_assoc]; exact HJ3.out, HB3⟩
            case measure => simp [intOf]; omega
          · gi_wp2
            refine bodyPost_ret (results_none rfl _ _ _) rfl ?_
            exact ⟨⟨_, rfl⟩, .inr ⟨_, trivial, hJx3⟩⟩
        · obtain rfl : k = wd := by omega
          have HJk := Lib.hid hJk
          clear hJk
          gi_wp2
          go_roundw
          case rel => exact ⟨m + 1, by omega, by push_cast; go_num, HJk.out, HBk⟩
          case measure => simp [intOf]; omega
    · obtain rfl : m = ht := by omega
      gi_wp2
      go_end0
      exact ⟨⟨_, rfl⟩, .inl ⟨_, rfl, HJ.out⟩⟩
end Go.Proofs.Ythcpmonahmogaaa
