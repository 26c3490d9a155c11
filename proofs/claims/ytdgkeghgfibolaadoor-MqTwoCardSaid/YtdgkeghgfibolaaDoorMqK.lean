/- The laws of chapter 4: their example, their numbers. -/
import Derived.Test.YtdgkeghgfibolaaDoorMqDe
import Derived.Test.YtdgkeghgfibolaaDoorMqDn
set_option linter.unusedVariables false
set_option linter.unusedSimpArgs false
namespace Go.Proofs.YtdgkeghgfibolaaDoor
open Go.RowKit

theorem within_any (a n : Int) (w : World) (hn : 1 ≤ n) (hm : n ≤ 4611686018427387904) :
    Calls Tryd.prog 28 #[.int .i64 a, .int .i64 n] w fun e w' => e = .returned (.int .i64 (a % n)) ∧ w = w' := by
  have hb := within_bd a n hn
  have hk := within_key a n hn
  have HK := Lib.hid hk
  clear hk
  have h0 : ¬ n = 0 := by omega
  by_cases hc : a.tmod n < 0
  · go_enter Tryd.func28, Tryd.ntmps28
    go_wp2
    go_ret
    refine ⟨ret_i64 ?_, rfl⟩
    rw [← HK.out, if_pos (by omega)]
  · go_enter Tryd.func28, Tryd.ntmps28
    go_wp2
    go_ret
    refine ⟨ret_i64 ?_, rfl⟩
    rw [← HK.out, if_neg (by omega)]


theorem cell_cx (A : Array Value) (cx : List Nat) (hA : cxA cx = A) (j : Nat) (hj : j < cx.length) : A[j]? = some (.int .i64 ((cx.getD j 0 : Nat) : Int)) := by
  rw [← hA]; unfold cxA
  rw [List.getElem?_toArray, List.getElem?_map, List.getD_eq_getElem?_getD, List.getElem?_eq_getElem hj]; rfl
theorem f19 : ∀ k, k < 19 → (cxF 19).getD (k * 2) 0 = begN k ∧ (cxF 19).getD (k * 2 + 1) 0 = 0 := by decide
theorem f19_ok : COk (cxF 19) := ⟨rfl, by decide, by decide⟩
section
variable {ops : Array Oper} {rest : List Oper} {o : Oper} {a : Act} {w : World} {Q : Exit → Act → World → Prop}
theorem wpList_fresh (hgd : o.guard = none) (x y : Operand) (ho : o.op = .store 28 x y) (hx : a.eval x = .pointer (some ⟨w.heap.size, 0, none⟩)) (hy : a.eval y = .agg (cxA (cxF 19)))
    (h : ∀ W, Cb W w.heap.size (cxF 19) → Below w.heap.size w W → wpList Tryd.prog ops Q rest (a.put o.dst undef) W) :
    wpList Tryd.prog ops Q (o :: rest) a (w.alloc (Obj.cells #[Value.int IntKind.i64 0, Value.int IntKind.i64 0, Value.int IntKind.i64 0, Value.int IntKind.i64 0, Value.int IntKind.i64 0, Value.int IntKind.i64 0, Value.int IntKind.i64 0, Value.int IntKind.i64 0, Value.int IntKind.i64 0, Value.int IntKind.i64 0, Value.int IntKind.i64 0, Value.int IntKind.i64 0, Value.int IntKind.i64 0, Value.int IntKind.i64 0, Value.int IntKind.i64 0, Value.int IntKind.i64 0, Value.int IntKind.i64 0, Value.int IntKind.i64 0, Value.int IntKind.i64 0, Value.int IntKind.i64 0, Value.int IntKind.i64 0, Value.int IntKind.i64 0, Value.int IntKind.i64 0, Value.int IntKind.i64 0, Value.int IntKind.i64 0, Value.int IntKind.i64 0, Value.int IntKind.i64 0, Value.int IntKind.i64 0, Value.int IntKind.i64 0, Value.int IntKind.i64 0, Value.int IntKind.i64 0, Value.int IntKind.i64 0, Value.int IntKind.i64 0, Value.int IntKind.i64 0, Value.int IntKind.i64 0, Value.int IntKind.i64 0, Value.int IntKind.i64 0, Value.int IntKind.i64 0] 28)) := by
  refine wpList_store_row hgd 28 x y ho w.heap.size (cxA (cxF 19)) hx hy 28 _ (heap_alloc_new w _) (by kernel_rfl) (by rfl) (by kernel_rfl) ?_
  refine h _ ⟨rfl, setRow_heap _ w.heap.size _ (cxA (cxF 19)) 28 (0, 0) (heap_alloc_new w _)⟩ (below_setRow ((Below.refl _ _).alloc (Nat.le_refl _) _) (Nat.le_refl _) _)
/-- Two contexts are laid. -/
theorem wpList_fresh2 (hgd : o.guard = none) (x y : Operand) (ho : o.op = .store 28 x y) {o2 : Oper} (hgd2 : o2.guard = none) (x2 y2 : Operand) (ho2 : o2.op = .store 28 x2 y2) (hd : o.dst = none) (hx : a.eval x = .pointer (some ⟨w.heap.size, 0, none⟩)) (hy : a.eval y = .agg (cxA (cxF 19)))
    (hx2 : a.eval x2 = .pointer (some ⟨w.heap.size + 1, 0, none⟩)) (hy2 : a.eval y2 = .agg (cxA (cxF 19)))
    (h : ∀ W, Cb W w.heap.size (cxF 19) → Cb W (w.heap.size + 1) (cxF 19) → Below w.heap.size w W → wpList Tryd.prog ops Q rest (a.put o2.dst undef) W) :
    wpList Tryd.prog ops Q (o :: o2 :: rest) a ((w.alloc (Obj.cells #[Value.int IntKind.i64 0, Value.int IntKind.i64 0, Value.int IntKind.i64 0, Value.int IntKind.i64 0, Value.int IntKind.i64 0, Value.int IntKind.i64 0, Value.int IntKind.i64 0, Value.int IntKind.i64 0, Value.int IntKind.i64 0, Value.int IntKind.i64 0, Value.int IntKind.i64 0, Value.int IntKind.i64 0, Value.int IntKind.i64 0, Value.int IntKind.i64 0, Value.int IntKind.i64 0, Value.int IntKind.i64 0, Value.int IntKind.i64 0, Value.int IntKind.i64 0, Value.int IntKind.i64 0, Value.int IntKind.i64 0, Value.int IntKind.i64 0, Value.int IntKind.i64 0, Value.int IntKind.i64 0, Value.int IntKind.i64 0, Value.int IntKind.i64 0, Value.int IntKind.i64 0, Value.int IntKind.i64 0, Value.int IntKind.i64 0, Value.int IntKind.i64 0, Value.int IntKind.i64 0, Value.int IntKind.i64 0, Value.int IntKind.i64 0, Value.int IntKind.i64 0, Value.int IntKind.i64 0, Value.int IntKind.i64 0, Value.int IntKind.i64 0, Value.int IntKind.i64 0, Value.int IntKind.i64 0] 28)).alloc (Obj.cells #[Value.int IntKind.i64 0, Value.int IntKind.i64 0, Value.int IntKind.i64 0, Value.int IntKind.i64 0, Value.int IntKind.i64 0, Value.int IntKind.i64 0, Value.int IntKind.i64 0, Value.int IntKind.i64 0, Value.int IntKind.i64 0, Value.int IntKind.i64 0, Value.int IntKind.i64 0, Value.int IntKind.i64 0, Value.int IntKind.i64 0, Value.int IntKind.i64 0, Value.int IntKind.i64 0, Value.int IntKind.i64 0, Value.int IntKind.i64 0, Value.int IntKind.i64 0, Value.int IntKind.i64 0, Value.int IntKind.i64 0, Value.int IntKind.i64 0, Value.int IntKind.i64 0, Value.int IntKind.i64 0, Value.int IntKind.i64 0, Value.int IntKind.i64 0, Value.int IntKind.i64 0, Value.int IntKind.i64 0, Value.int IntKind.i64 0, Value.int IntKind.i64 0, Value.int IntKind.i64 0, Value.int IntKind.i64 0, Value.int IntKind.i64 0, Value.int IntKind.i64 0, Value.int IntKind.i64 0, Value.int IntKind.i64 0, Value.int IntKind.i64 0, Value.int IntKind.i64 0, Value.int IntKind.i64 0] 28)) := by
  have g0 : ((w.alloc (Obj.cells z38 28)).alloc (Obj.cells z38 28)).heap[w.heap.size]? = some (.cells z38 28 (0, 0)) :=
    (Below.heap_alloc (w.alloc (Obj.cells z38 28)) _ w.heap.size (by simp)).trans (heap_alloc_new w _)
  have g1 : ((w.alloc (Obj.cells z38 28)).alloc (Obj.cells z38 28)).heap[w.heap.size + 1]? = some (.cells z38 28 (0, 0)) := by
    have := heap_alloc_new (w.alloc (Obj.cells z38 28)) (Obj.cells z38 28)
    rw [show (w.alloc (Obj.cells z38 28)).heap.size = w.heap.size + 1 from by simp] at this
    exact this
  have hb : Below w.heap.size w ((w.alloc (Obj.cells z38 28)).alloc (Obj.cells z38 28)) := ((Below.refl _ _).alloc (Nat.le_refl _) _).alloc (by simp) _
  change wpList Tryd.prog ops Q (o :: o2 :: rest) a ((w.alloc (Obj.cells z38 28)).alloc (Obj.cells z38 28))
  generalize (w.alloc (Obj.cells z38 28)).alloc (Obj.cells z38 28) = W0 at *
  have s0 := setRow_heap W0 w.heap.size _ (cxA (cxF 19)) 28 (0, 0) g0
  have s1 : (W0.setRow w.heap.size (cxA (cxF 19))).heap[w.heap.size + 1]? = some (.cells z38 28 (0, 0)) := (setRow_other W0 w.heap.size (w.heap.size + 1) _ (by omega)).trans g1
  refine wpList_store_row hgd 28 x y ho w.heap.size (cxA (cxF 19)) hx hy 28 _ g0 (by kernel_rfl) (by rfl) (by kernel_rfl) ?_
  have e : a.put o.dst undef = a := by rw [hd]; rfl
  rw [e]
  refine wpList_store_row hgd2 28 x2 y2 ho2 (w.heap.size + 1) (cxA (cxF 19)) hx2 hy2 28 _ s1 (by kernel_rfl) (by rfl) (by kernel_rfl) ?_
  refine h _ ⟨rfl, ?_⟩ ⟨rfl, setRow_heap _ (w.heap.size + 1) _ (cxA (cxF 19)) 28 (0, 0) s1⟩ (below_setRow (below_setRow hb (Nat.le_refl _) _) (by omega) _)
  rw [setRow_other _ (w.heap.size + 1) w.heap.size _ (by omega)]; exact s0
end
set_option maxRecDepth 100000 in
set_option maxHeartbeats 2000000 in
theorem known_any (w : World) : Calls Tryd.prog 13 #[] w fun x w' => x = .returned (.bool true) ∧ Below w.heap.size w w' := by
  have FR := Lib.hid (fun u : World => fresh_any u)
  have NW := Lib.hid (fun u : World => new_any u)
  have DN := Lib.hid (fun u : World => dnew_any (w := u) (A := none) (c := 0) (bs := []) (B := 0) (by simp) (fun _ => ⟨rfl, rfl⟩) Lst.nil (by simp))
  have h36 : (cxF 19).getD 36 0 = 46 := by decide
  have h0 : (cxF 19).getD 0 0 = 4 := by decide
  have HH := Lib.hid (And.intro h36 h0)
  clear h36 h0
  go_enter Tryd.func13, Tryd.ntmps13
  go_wp2_with fail
  refine (FR.out _).mono ?_
  rintro x w1 ⟨rfl, b1⟩
  go_wp2_with (refine wpList_fresh rfl _ _ rfl rfl rfl ?_)
  intro W2 hc2 b2
  have B2 := Lib.hid (b1.trans (b2.mono b1.size))
  have HC2 := Lib.hid hc2
  clear b1 b2 hc2
  go_wp2_with fail
  refine (NW.out _).mono ?_
  rintro x w3 ⟨p, rfl, _, b3⟩
  have B3 := Lib.hid (B2.out.trans (b3.mono B2.out.size))
  have HC3 := Lib.hid (HC2.out.below b3)
  have c0 := HC3.out.cell 0 (by decide)
  have c36 := HC3.out.cell 36 (by decide)
  rw [HH.out.2] at c0
  rw [HH.out.1] at c36
  clear b3 B2 HC2
  go_wp2_with fail
  refine (DN.out _).mono ?_
  rintro x w4 ⟨p4, rfl, _, b4⟩
  have B4 := Lib.hid (B3.out.trans (b4.mono B3.out.size))
  clear b4 B3
  go_wp2
  go_ret
  exact ⟨rfl, B4.out⟩
end Go.Proofs.YtdgkeghgfibolaaDoor
