/- The reference's contexts: what they begin with; two of them laid. -/
import Derived.Test.YtdgkeghgfibolaaDoorMqRc
import Derived.Test.YtdgkeghgfibolaaDoorMqK
set_option linter.unusedVariables false
set_option linter.unusedSimpArgs false
namespace Go.Proofs.YtdgkeghgfibolaaDoor
open Go.RowKit
section
variable {ops : Array Oper} {rest : List Oper} {o : Oper} {a : Act} {w : World} {Q : Exit → Act → World → Prop}
theorem wpList_rz (hgd : o.guard = none) (ho : o.op = .build 32 #[]) (h : wpList Tryd.prog ops Q rest (a.put o.dst (.agg z38)) w) : wpList Tryd.prog ops Q (o :: rest) a w := by
  have hb : Tryd.prog.built 32 [] = some z38 := by kernel_rfl
  have e0 : ∀ f : Nat × Operand → Nat × Value, (Array.map f #[]).toList = [] := fun f => by simp
  refine wpList_build hgd 32 #[] ho (by rw [e0, hb]; rfl) ?_
  rw [e0, hb]
  exact h
theorem wpList_rz2 (hgd : o.guard = none) (x y : Operand) (ho : o.op = .store 32 x y) (hx : a.eval x = .pointer (some ⟨w.heap.size + 1, 0, none⟩)) (hy : a.eval y = .agg z38)
    (h : ∀ W, Rc W (w.heap.size + 1) (cxF 0) → W.heap[w.heap.size]? = some (.cells z38 32 (0, 0)) → Below w.heap.size w W → wpList Tryd.prog ops Q rest (a.put o.dst undef) W) :
    wpList Tryd.prog ops Q (o :: rest) a ((w.alloc (Obj.cells #[Value.int IntKind.i64 0, Value.int IntKind.i64 0, Value.int IntKind.i64 0, Value.int IntKind.i64 0, Value.int IntKind.i64 0, Value.int IntKind.i64 0, Value.int IntKind.i64 0, Value.int IntKind.i64 0, Value.int IntKind.i64 0, Value.int IntKind.i64 0, Value.int IntKind.i64 0, Value.int IntKind.i64 0, Value.int IntKind.i64 0, Value.int IntKind.i64 0, Value.int IntKind.i64 0, Value.int IntKind.i64 0, Value.int IntKind.i64 0, Value.int IntKind.i64 0, Value.int IntKind.i64 0, Value.int IntKind.i64 0, Value.int IntKind.i64 0, Value.int IntKind.i64 0, Value.int IntKind.i64 0, Value.int IntKind.i64 0, Value.int IntKind.i64 0, Value.int IntKind.i64 0, Value.int IntKind.i64 0, Value.int IntKind.i64 0, Value.int IntKind.i64 0, Value.int IntKind.i64 0, Value.int IntKind.i64 0, Value.int IntKind.i64 0, Value.int IntKind.i64 0, Value.int IntKind.i64 0, Value.int IntKind.i64 0, Value.int IntKind.i64 0, Value.int IntKind.i64 0, Value.int IntKind.i64 0] 32)).alloc (Obj.cells #[Value.int IntKind.i64 0, Value.int IntKind.i64 0, Value.int IntKind.i64 0, Value.int IntKind.i64 0, Value.int IntKind.i64 0, Value.int IntKind.i64 0, Value.int IntKind.i64 0, Value.int IntKind.i64 0, Value.int IntKind.i64 0, Value.int IntKind.i64 0, Value.int IntKind.i64 0, Value.int IntKind.i64 0, Value.int IntKind.i64 0, Value.int IntKind.i64 0, Value.int IntKind.i64 0, Value.int IntKind.i64 0, Value.int IntKind.i64 0, Value.int IntKind.i64 0, Value.int IntKind.i64 0, Value.int IntKind.i64 0, Value.int IntKind.i64 0, Value.int IntKind.i64 0, Value.int IntKind.i64 0, Value.int IntKind.i64 0, Value.int IntKind.i64 0, Value.int IntKind.i64 0, Value.int IntKind.i64 0, Value.int IntKind.i64 0, Value.int IntKind.i64 0, Value.int IntKind.i64 0, Value.int IntKind.i64 0, Value.int IntKind.i64 0, Value.int IntKind.i64 0, Value.int IntKind.i64 0, Value.int IntKind.i64 0, Value.int IntKind.i64 0, Value.int IntKind.i64 0, Value.int IntKind.i64 0] 32)) := by
  have g0 : ((w.alloc (Obj.cells z38 32)).alloc (Obj.cells z38 32)).heap[w.heap.size]? = some (.cells z38 32 (0, 0)) :=
    (Below.heap_alloc (w.alloc (Obj.cells z38 32)) _ w.heap.size (by simp)).trans (heap_alloc_new w _)
  have g1 : ((w.alloc (Obj.cells z38 32)).alloc (Obj.cells z38 32)).heap[w.heap.size + 1]? = some (.cells z38 32 (0, 0)) := by
    have := heap_alloc_new (w.alloc (Obj.cells z38 32)) (Obj.cells z38 32)
    rw [show (w.alloc (Obj.cells z38 32)).heap.size = w.heap.size + 1 from by simp] at this
    exact this
  have hb : Below w.heap.size w ((w.alloc (Obj.cells z38 32)).alloc (Obj.cells z38 32)) := ((Below.refl _ _).alloc (Nat.le_refl _) _).alloc (by simp) _
  change wpList Tryd.prog ops Q (o :: rest) a ((w.alloc (Obj.cells z38 32)).alloc (Obj.cells z38 32))
  generalize (w.alloc (Obj.cells z38 32)).alloc (Obj.cells z38 32) = W0 at *
  refine wpList_store_row hgd 32 x y ho (w.heap.size + 1) z38 hx hy 32 _ g1 (by kernel_rfl) (by rfl) (by kernel_rfl) ?_
  refine h _ ⟨rfl, setRow_heap _ (w.heap.size + 1) _ z38 32 (0, 0) g1⟩ ?_ (below_setRow hb (by omega) _)
  rw [setRow_other _ (w.heap.size + 1) w.heap.size _ (by omega)]; exact g0
end
set_option maxRecDepth 100000 in
set_option maxHeartbeats 2000000 in
theorem rfresh_any (w : World) : Calls Tryd.prog 16 #[] w fun x w' => x = .returned (.agg (cxA (cxF 19))) ∧ Below w.heap.size w w' := by
  go_enter Tryd.func16, Tryd.ntmps16
  go_wp2_with (first | (refine wpList_rz rfl rfl ?_) | (refine wpList_rz2 rfl _ _ rfl rfl rfl ?_; intro W0 hc0 hz0 hb0))
  have H0 := Lib.hid (And.intro hc0 (And.intro hz0 hb0))
  clear hc0 hz0 hb0
  go_wp2
  go_loopw [2] (fun i wr => ∃ j : Nat, j ≤ 19 ∧ i = .int .i64 (j : Int) ∧ Rc wr (w.heap.size + 1) (cxF j) ∧ wr.heap[w.heap.size]? = some (.cells z38 32 (0, 0)) ∧ Below w.heap.size w wr) (fun i _ => 19 - (intOf i).toNat)
  case atStart => exact ⟨0, by omega, rfl, H0.out⟩
  case round =>
    obtain ⟨j, hj, rfl, hc, hz, hb⟩ := hrel
    have HZ := Lib.hid hz
    have HB := Lib.hid hb
    have HC := Lib.hid hc
    clear hz hb H0
    by_cases hlt : j < 19
    · have c1 := hc.cell (j * 2) (by omega)
      have z1 := hc.z (j * 2)
      have h1 : (0 : Int) ≤ (j : Int) := by omega
      have h2 : (j : Int) < 19 := by omega
      have BG := Lib.hid (rbeg_any (w := wr) j)
      clear hc
      go_wp2_with fail
      refine BG.out.mono ?_
      rintro x w2 ⟨rfl, rfl⟩
      go_wp2
      refine ⟨⟨j + 1, by omega, by go_num, HC.out.set _ _, ?_, HB.out.setCell (by simp) _⟩, by simp [intOf]; omega⟩
      rw [Below.heap_setCell _ _ _ _ (by simp)]; exact HZ.out
    · obtain rfl : j = 19 := by omega
      have h2 : ¬ (((19 : Nat) : Int)) < 19 := by omega
      obtain ⟨A, hA⟩ : ∃ A, cxA (cxF 19) = A := ⟨_, rfl⟩
      have hA2 : (.cells ((cxF 19).map fun n : Nat => Value.int .i64 (n : Int)).toArray 32 (0, 0)) = (Obj.cells A 32 (0, 0)) := by rw [← hA]; rfl
      have hg : wr.heap[w.heap.size + 1]? = some (Obj.cells A 32 (0, 0)) := hc.2.trans (congrArg some hA2)
      have hsz : A.size = 38 := by rw [← hA]; rfl
      have hone : A.all (·.oneCell') = true := by rw [← hA]; kernel_rfl
      have HF := Lib.hid (And.intro hA (And.intro hg (And.intro hsz hone)))
      clear hc hA hA2 hg hsz hone hlt
      go_wp2_with (first
        | (refine wpList_load_row rfl 32 _ rfl (w.heap.size + 1) rfl 32 A (0, 0) _ HF.out.2.1 Tryd.underlying32 rfl (by rw [HF.out.2.2.1]; kernel_rfl) ?_)
        | (refine wpList_store_row rfl 32 _ _ rfl w.heap.size A rfl rfl 32 z38 HZ.out (by rw [HF.out.2.2.1]; kernel_rfl) (by rw [HF.out.2.2.1]; rfl) HF.out.2.2.2 ?_))
      have hh := setRow_heap wr w.heap.size z38 A 32 (0, 0) HZ.out
      refine bodyPost_ret (v := .agg A) (results_cell_row rfl _ _ w.heap.size 32 _ (0, 0) _ rfl hh Tryd.underlying32 rfl (by rw [HF.out.2.2.1]; kernel_rfl)) rfl ?_
      rw [HF.out.1]
      exact ⟨rfl, below_setRow HB.out (Nat.le_refl _) A⟩
section
variable {ops : Array Oper} {rest : List Oper} {o : Oper} {a : Act} {w : World} {Q : Exit → Act → World → Prop}
theorem wpList_freshM (hgd : o.guard = none) (x y : Operand) (ho : o.op = .store 28 x y) {o2 : Oper} (hgd2 : o2.guard = none) (x2 y2 : Operand) (ho2 : o2.op = .store 32 x2 y2) (hd : o.dst = none) (hx : a.eval x = .pointer (some ⟨w.heap.size, 0, none⟩)) (hy : a.eval y = .agg (cxA (cxF 19)))
    (hx2 : a.eval x2 = .pointer (some ⟨w.heap.size + 1, 0, none⟩)) (hy2 : a.eval y2 = .agg (cxA (cxF 19)))
    (h : ∀ W, Cb W w.heap.size (cxF 19) → Rc W (w.heap.size + 1) (cxF 19) → Below w.heap.size w W → wpList Tryd.prog ops Q rest (a.put o2.dst undef) W) :
    wpList Tryd.prog ops Q (o :: o2 :: rest) a ((w.alloc (Obj.cells #[Value.int IntKind.i64 0, Value.int IntKind.i64 0, Value.int IntKind.i64 0, Value.int IntKind.i64 0, Value.int IntKind.i64 0, Value.int IntKind.i64 0, Value.int IntKind.i64 0, Value.int IntKind.i64 0, Value.int IntKind.i64 0, Value.int IntKind.i64 0, Value.int IntKind.i64 0, Value.int IntKind.i64 0, Value.int IntKind.i64 0, Value.int IntKind.i64 0, Value.int IntKind.i64 0, Value.int IntKind.i64 0, Value.int IntKind.i64 0, Value.int IntKind.i64 0, Value.int IntKind.i64 0, Value.int IntKind.i64 0, Value.int IntKind.i64 0, Value.int IntKind.i64 0, Value.int IntKind.i64 0, Value.int IntKind.i64 0, Value.int IntKind.i64 0, Value.int IntKind.i64 0, Value.int IntKind.i64 0, Value.int IntKind.i64 0, Value.int IntKind.i64 0, Value.int IntKind.i64 0, Value.int IntKind.i64 0, Value.int IntKind.i64 0, Value.int IntKind.i64 0, Value.int IntKind.i64 0, Value.int IntKind.i64 0, Value.int IntKind.i64 0, Value.int IntKind.i64 0, Value.int IntKind.i64 0] 28)).alloc (Obj.cells #[Value.int IntKind.i64 0, Value.int IntKind.i64 0, Value.int IntKind.i64 0, Value.int IntKind.i64 0, Value.int IntKind.i64 0, Value.int IntKind.i64 0, Value.int IntKind.i64 0, Value.int IntKind.i64 0, Value.int IntKind.i64 0, Value.int IntKind.i64 0, Value.int IntKind.i64 0, Value.int IntKind.i64 0, Value.int IntKind.i64 0, Value.int IntKind.i64 0, Value.int IntKind.i64 0, Value.int IntKind.i64 0, Value.int IntKind.i64 0, Value.int IntKind.i64 0, Value.int IntKind.i64 0, Value.int IntKind.i64 0, Value.int IntKind.i64 0, Value.int IntKind.i64 0, Value.int IntKind.i64 0, Value.int IntKind.i64 0, Value.int IntKind.i64 0, Value.int IntKind.i64 0, Value.int IntKind.i64 0, Value.int IntKind.i64 0, Value.int IntKind.i64 0, Value.int IntKind.i64 0, Value.int IntKind.i64 0, Value.int IntKind.i64 0, Value.int IntKind.i64 0, Value.int IntKind.i64 0, Value.int IntKind.i64 0, Value.int IntKind.i64 0, Value.int IntKind.i64 0, Value.int IntKind.i64 0] 32)) := by
  have g0 : ((w.alloc (Obj.cells z38 28)).alloc (Obj.cells z38 32)).heap[w.heap.size]? = some (.cells z38 28 (0, 0)) :=
    (Below.heap_alloc (w.alloc (Obj.cells z38 28)) _ w.heap.size (by simp)).trans (heap_alloc_new w _)
  have g1 : ((w.alloc (Obj.cells z38 28)).alloc (Obj.cells z38 32)).heap[w.heap.size + 1]? = some (.cells z38 32 (0, 0)) := by
    have := heap_alloc_new (w.alloc (Obj.cells z38 28)) (Obj.cells z38 32)
    rw [show (w.alloc (Obj.cells z38 28)).heap.size = w.heap.size + 1 from by simp] at this
    exact this
  have hb : Below w.heap.size w ((w.alloc (Obj.cells z38 28)).alloc (Obj.cells z38 32)) := ((Below.refl _ _).alloc (Nat.le_refl _) _).alloc (by simp) _
  change wpList Tryd.prog ops Q (o :: o2 :: rest) a ((w.alloc (Obj.cells z38 28)).alloc (Obj.cells z38 32))
  generalize (w.alloc (Obj.cells z38 28)).alloc (Obj.cells z38 32) = W0 at *
  have s0 := setRow_heap W0 w.heap.size _ (cxA (cxF 19)) 28 (0, 0) g0
  have s1 : (W0.setRow w.heap.size (cxA (cxF 19))).heap[w.heap.size + 1]? = some (.cells z38 32 (0, 0)) := (setRow_other W0 w.heap.size (w.heap.size + 1) _ (by omega)).trans g1
  refine wpList_store_row hgd 28 x y ho w.heap.size (cxA (cxF 19)) hx hy 28 _ g0 (by kernel_rfl) (by rfl) (by kernel_rfl) ?_
  have e : a.put o.dst undef = a := by rw [hd]; rfl
  rw [e]
  refine wpList_store_row hgd2 32 x2 y2 ho2 (w.heap.size + 1) (cxA (cxF 19)) hx2 hy2 32 _ s1 (by kernel_rfl) (by rfl) (by kernel_rfl) ?_
  refine h _ ⟨rfl, ?_⟩ ⟨rfl, setRow_heap _ (w.heap.size + 1) _ (cxA (cxF 19)) 32 (0, 0) s1⟩ (below_setRow (below_setRow hb (Nat.le_refl _) _) (by omega) _)
  rw [setRow_other _ (w.heap.size + 1) w.heap.size _ (by omega)]; exact s0
theorem wpList_freshR2 (hgd : o.guard = none) (x y : Operand) (ho : o.op = .store 32 x y) {o2 : Oper} (hgd2 : o2.guard = none) (x2 y2 : Operand) (ho2 : o2.op = .store 32 x2 y2) (hd : o.dst = none) (hx : a.eval x = .pointer (some ⟨w.heap.size, 0, none⟩)) (hy : a.eval y = .agg (cxA (cxF 19)))
    (hx2 : a.eval x2 = .pointer (some ⟨w.heap.size + 1, 0, none⟩)) (hy2 : a.eval y2 = .agg (cxA (cxF 19)))
    (h : ∀ W, Rc W w.heap.size (cxF 19) → Rc W (w.heap.size + 1) (cxF 19) → Below w.heap.size w W → wpList Tryd.prog ops Q rest (a.put o2.dst undef) W) :
    wpList Tryd.prog ops Q (o :: o2 :: rest) a ((w.alloc (Obj.cells #[Value.int IntKind.i64 0, Value.int IntKind.i64 0, Value.int IntKind.i64 0, Value.int IntKind.i64 0, Value.int IntKind.i64 0, Value.int IntKind.i64 0, Value.int IntKind.i64 0, Value.int IntKind.i64 0, Value.int IntKind.i64 0, Value.int IntKind.i64 0, Value.int IntKind.i64 0, Value.int IntKind.i64 0, Value.int IntKind.i64 0, Value.int IntKind.i64 0, Value.int IntKind.i64 0, Value.int IntKind.i64 0, Value.int IntKind.i64 0, Value.int IntKind.i64 0, Value.int IntKind.i64 0, Value.int IntKind.i64 0, Value.int IntKind.i64 0, Value.int IntKind.i64 0, Value.int IntKind.i64 0, Value.int IntKind.i64 0, Value.int IntKind.i64 0, Value.int IntKind.i64 0, Value.int IntKind.i64 0, Value.int IntKind.i64 0, Value.int IntKind.i64 0, Value.int IntKind.i64 0, Value.int IntKind.i64 0, Value.int IntKind.i64 0, Value.int IntKind.i64 0, Value.int IntKind.i64 0, Value.int IntKind.i64 0, Value.int IntKind.i64 0, Value.int IntKind.i64 0, Value.int IntKind.i64 0] 32)).alloc (Obj.cells #[Value.int IntKind.i64 0, Value.int IntKind.i64 0, Value.int IntKind.i64 0, Value.int IntKind.i64 0, Value.int IntKind.i64 0, Value.int IntKind.i64 0, Value.int IntKind.i64 0, Value.int IntKind.i64 0, Value.int IntKind.i64 0, Value.int IntKind.i64 0, Value.int IntKind.i64 0, Value.int IntKind.i64 0, Value.int IntKind.i64 0, Value.int IntKind.i64 0, Value.int IntKind.i64 0, Value.int IntKind.i64 0, Value.int IntKind.i64 0, Value.int IntKind.i64 0, Value.int IntKind.i64 0, Value.int IntKind.i64 0, Value.int IntKind.i64 0, Value.int IntKind.i64 0, Value.int IntKind.i64 0, Value.int IntKind.i64 0, Value.int IntKind.i64 0, Value.int IntKind.i64 0, Value.int IntKind.i64 0, Value.int IntKind.i64 0, Value.int IntKind.i64 0, Value.int IntKind.i64 0, Value.int IntKind.i64 0, Value.int IntKind.i64 0, Value.int IntKind.i64 0, Value.int IntKind.i64 0, Value.int IntKind.i64 0, Value.int IntKind.i64 0, Value.int IntKind.i64 0, Value.int IntKind.i64 0] 32)) := by
  have g0 : ((w.alloc (Obj.cells z38 32)).alloc (Obj.cells z38 32)).heap[w.heap.size]? = some (.cells z38 32 (0, 0)) :=
    (Below.heap_alloc (w.alloc (Obj.cells z38 32)) _ w.heap.size (by simp)).trans (heap_alloc_new w _)
  have g1 : ((w.alloc (Obj.cells z38 32)).alloc (Obj.cells z38 32)).heap[w.heap.size + 1]? = some (.cells z38 32 (0, 0)) := by
    have := heap_alloc_new (w.alloc (Obj.cells z38 32)) (Obj.cells z38 32)
    rw [show (w.alloc (Obj.cells z38 32)).heap.size = w.heap.size + 1 from by simp] at this
    exact this
  have hb : Below w.heap.size w ((w.alloc (Obj.cells z38 32)).alloc (Obj.cells z38 32)) := ((Below.refl _ _).alloc (Nat.le_refl _) _).alloc (by simp) _
  change wpList Tryd.prog ops Q (o :: o2 :: rest) a ((w.alloc (Obj.cells z38 32)).alloc (Obj.cells z38 32))
  generalize (w.alloc (Obj.cells z38 32)).alloc (Obj.cells z38 32) = W0 at *
  have s0 := setRow_heap W0 w.heap.size _ (cxA (cxF 19)) 32 (0, 0) g0
  have s1 : (W0.setRow w.heap.size (cxA (cxF 19))).heap[w.heap.size + 1]? = some (.cells z38 32 (0, 0)) := (setRow_other W0 w.heap.size (w.heap.size + 1) _ (by omega)).trans g1
  refine wpList_store_row hgd 32 x y ho w.heap.size (cxA (cxF 19)) hx hy 32 _ g0 (by kernel_rfl) (by rfl) (by kernel_rfl) ?_
  have e : a.put o.dst undef = a := by rw [hd]; rfl
  rw [e]
  refine wpList_store_row hgd2 32 x2 y2 ho2 (w.heap.size + 1) (cxA (cxF 19)) hx2 hy2 32 _ s1 (by kernel_rfl) (by rfl) (by kernel_rfl) ?_
  refine h _ ⟨rfl, ?_⟩ ⟨rfl, setRow_heap _ (w.heap.size + 1) _ (cxA (cxF 19)) 32 (0, 0) s1⟩ (below_setRow (below_setRow hb (Nat.le_refl _) _) (by omega) _)
  rw [setRow_other _ (w.heap.size + 1) w.heap.size _ (by omega)]; exact s0
end
end Go.Proofs.YtdgkeghgfibolaaDoor
