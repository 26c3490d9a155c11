/- Package mq: what a coder begins with. -/
import Derived.Test.YtdgkeghgfibolaaDoorMqE
import Derived.Laws.Tables
import Derived.Laws.Rows
import Derived.Laws.CopyOwn
set_option linter.unusedVariables false
set_option linter.unusedSimpArgs false
namespace Go.Proofs.YtdgkeghgfibolaaDoor
open Go.RowKit

def begN (k : Nat) : Nat := if k = 0 then 4 else if k = 17 then 3 else if k = 18 then 46 else 0
def cxF : Nat → List Nat
  | 0 => List.replicate 38 0
  | j + 1 => (cxF j).set (j * 2) (begN j)
def cxA (cx : List Nat) : Array Value := (cx.map fun n : Nat => Value.int .i64 (n : Int)).toArray
theorem cxF_len (j : Nat) : (cxF j).length = 38 := by
  induction j with
  | zero => rfl
  | succ j ih => unfold cxF; rw [List.length_set]; exact ih
theorem beg_any {w : World} (k : Nat) : Calls Tryd.prog 30 #[.int .i64 (k : Int)] w fun e w' => e = .returned (.int .i64 (begN k : Nat)) ∧ w = w' := by
  refine (begin_any (w := w) (k : Int)).mono ?_
  rintro e w' ⟨rfl, rfl⟩
  refine ⟨ret_i64 ?_, rfl⟩
  unfold begV begN
  by_cases h0 : k = 0
  · rw [if_pos (by omega), if_pos h0]; rfl
  rw [if_neg (by omega), if_neg h0]
  by_cases h1 : k = 17
  · rw [if_pos (by omega), if_pos h1]; rfl
  rw [if_neg (by omega), if_neg h1]
  by_cases h2 : k = 18
  · rw [if_pos (by omega), if_pos h2]; rfl
  rw [if_neg (by omega), if_neg h2]
  rfl
def z38 : Array Value := cxA (List.replicate 38 0)
set_option maxHeartbeats 2000000 in
theorem new_any (w : World) : Calls Tryd.prog 17 #[] w fun x w' => ∃ p, x = .returned (.pointer (some ⟨p, 0, none⟩)) ∧ EW (fun k => w.heap.size ≤ k ∧ k < w'.heap.size) w' p mNew ∧ Below w.heap.size w w' := by
  go_enter Tryd.func17, Tryd.ntmps17
  go_wp2
  go_ret
  have hb : ((w.alloc (Obj.cells #[Value.int IntKind.u8 0] 5)).alloc (Obj.cells #[Value.int IntKind.u32 32768, Value.int IntKind.u32 0, Value.int IntKind.i64 12, Value.slice (some ⟨w.heap.size, 0, none⟩) 1 1] 66)).heap[w.heap.size + 1]? = some (Obj.cells #[Value.int IntKind.u32 32768, Value.int IntKind.u32 0, Value.int IntKind.i64 12, Value.slice (some ⟨w.heap.size, 0, none⟩) 1 1] 66 (0, 0)) := by
    have := heap_alloc_new (w.alloc (Obj.cells #[Value.int IntKind.u8 0] 5)) (Obj.cells #[Value.int IntKind.u32 32768, Value.int IntKind.u32 0, Value.int IntKind.i64 12, Value.slice (some ⟨w.heap.size, 0, none⟩) 1 1] 66)
    simpa using this
  have ownOf : (w.alloc (Obj.cells #[Value.int IntKind.u8 0] 5)).ownsRow 0 5 1 (.slice (some ⟨w.heap.size, 0, none⟩) 1 1) 1 [Value.int IntKind.u8 0] :=
    ⟨rfl, Or.inr ⟨w.heap.size, 1, _, rfl, Nat.zero_le _, heap_alloc_new w _, Nat.le_refl _, by unfold maxLen; omega, rfl, rfl⟩⟩
  exact ⟨_, rfl, ⟨⟨by omega, by simp⟩, _, hb, ownOf.alloc _, fun k hk => by
    obtain rfl : w.heap.size = k := by simpa [Value.ownBlock] using hk
    exact ⟨Nat.le_refl _, by simp; omega⟩⟩, (((Below.refl _ _).alloc (Nat.le_refl _) _).alloc (by simp) _)⟩
set_option maxRecDepth 100000 in
set_option maxHeartbeats 2000000 in
theorem fresh_any (w : World) : Calls Tryd.prog 15 #[] w fun x w' => x = .returned (.agg (cxA (cxF 19))) ∧ Below w.heap.size w w' := by
  go_enter Tryd.func15, Tryd.ntmps15
  go_upto_block 0 with fail
  obtain ⟨W0, hW0⟩ : ∃ W0, (w.alloc (Obj.cells z38 28)).alloc (Obj.cells z38 28) = W0 := ⟨_, rfl⟩
  have hc0 : Cb W0 (w.heap.size + 1) (cxF 0) := by
    refine ⟨rfl, ?_⟩
    have := heap_alloc_new (w.alloc (Obj.cells z38 28)) (Obj.cells z38 28)
    rw [← hW0]
    rw [show (w.alloc (Obj.cells z38 28)).heap.size = w.heap.size + 1 from by simp] at this
    exact this
  have hz0 : W0.heap[w.heap.size]? = some (.cells z38 28 (0, 0)) := by
    rw [← hW0]; exact (Below.heap_alloc (w.alloc (Obj.cells z38 28)) _ w.heap.size (by simp)).trans (heap_alloc_new w _)
  have hb0 : Below w.heap.size w W0 := by rw [← hW0]; exact ((Below.refl _ _).alloc (Nat.le_refl _) _).alloc (by simp) _
  change Code.wp _ _ _ _ ((w.alloc (Obj.cells z38 28)).alloc (Obj.cells z38 28))
  rw [hW0]
  have H0 := Lib.hid (And.intro hc0 (And.intro hz0 hb0))
  clear hW0 hc0 hz0 hb0
  go_wp2
  go_loopw [3] (fun i wr => ∃ j : Nat, j ≤ 19 ∧ i = .int .i64 (j : Int) ∧ Cb wr (w.heap.size + 1) (cxF j) ∧ wr.heap[w.heap.size]? = some (.cells z38 28 (0, 0)) ∧ Below w.heap.size w wr) (fun i _ => 19 - (intOf i).toNat)
  case atStart => exact ⟨0, by omega, rfl, H0.out⟩
  case round =>
    obtain ⟨j, hj, rfl, hc, hz, hb⟩ := hrel
    have HZ := Lib.hid hz
    have HB := Lib.hid hb
    have HC := Lib.hid hc
    clear hz hb H0
    by_cases hlt : j < 19
    · have c1 := hc.cell (j * 2) (by omega)
      have z1 := hc.z (j * 2)
      have h1 : (0 : Int) ≤ (j : Int) := by omega
      have h2 : (j : Int) < 19 := by omega
      have BG := Lib.hid (beg_any (w := wr) j)
      clear hc
      go_wp2_with fail
      refine BG.out.mono ?_
      rintro x w2 ⟨rfl, rfl⟩
      go_wp2
      refine ⟨⟨j + 1, by omega, by go_num, HC.out.set _ _, ?_, HB.out.setCell (by simp) _⟩, by simp [intOf]; omega⟩
      rw [Below.heap_setCell _ _ _ _ (by simp)]; exact HZ.out
    · obtain rfl : j = 19 := by omega
      have h2 : ¬ (((19 : Nat) : Int)) < 19 := by omega
      obtain ⟨A, hA⟩ : ∃ A, cxA (cxF 19) = A := ⟨_, rfl⟩
      have hA2 : (.cells ((cxF 19).map fun n : Nat => Value.int .i64 (n : Int)).toArray 28 (0, 0)) = (Obj.cells A 28 (0, 0)) := by rw [← hA]; rfl
      have hg : wr.heap[w.heap.size + 1]? = some (Obj.cells A 28 (0, 0)) := hc.2.trans (congrArg some hA2)
      have hsz : A.size = 38 := by rw [← hA]; rfl
      have hone : A.all (·.oneCell') = true := by rw [← hA]; kernel_rfl
      have HF := Lib.hid (And.intro hA (And.intro hg (And.intro hsz hone)))
      clear hc hA hA2 hg hsz hone hlt
      go_wp2_with (first
        | (refine wpList_load_row rfl 28 _ rfl (w.heap.size + 1) rfl 28 A (0, 0) _ HF.out.2.1 Tryd.underlying28 rfl (by rw [HF.out.2.2.1]; kernel_rfl) ?_)
        | (refine wpList_store_row rfl 28 _ _ rfl w.heap.size A rfl rfl 28 z38 HZ.out (by rw [HF.out.2.2.1]; kernel_rfl) (by rw [HF.out.2.2.1]; rfl) HF.out.2.2.2 ?_))
      have hh := setRow_heap wr w.heap.size z38 A 28 (0, 0) HZ.out
      refine bodyPost_ret (v := .agg A) (results_cell_row rfl _ _ w.heap.size 28 _ (0, 0) _ rfl hh Tryd.underlying28 rfl (by rw [HF.out.2.2.1]; kernel_rfl)) rfl ?_
      rw [HF.out.1]
      exact ⟨rfl, below_setRow HB.out (Nat.le_refl _) A⟩
end Go.Proofs.YtdgkeghgfibolaaDoor
