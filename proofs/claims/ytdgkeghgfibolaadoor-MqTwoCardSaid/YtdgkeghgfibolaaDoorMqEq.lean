/- Contexts that are the same are equal. -/
import Derived.Test.YtdgkeghgfibolaaDoorMqF
import Derived.Laws.StructEq
set_option linter.unusedVariables false
set_option linter.unusedSimpArgs false
namespace Go.Proofs.YtdgkeghgfibolaaDoor
open Go.RowKit

theorem und28 : Tryd.prog.underlying 28 = some (.array 19 26) := by kernel_rfl
theorem eq_one (a b : Int) (d : Nat) (w : World) : (Op.equalIn (d + 2) 26 (.agg #[.int .i64 a, .int .i64 b]) (.agg #[.int .i64 a, .int .i64 b])).run Tryd.prog w = .ok true w := by
  rw [run_equalIn_agg w (d + 1) 26 _ _ (by kernel_rfl) (by kernel_rfl)]
  have hf : (Tryd.prog.fieldsOf 26).toList.map (fun f => (f.name, f.type, f.offset)) = [("I", 3, 0), ("Mps", 3, 1)] := by kernel_rfl
  generalize (Tryd.prog.fieldsOf 26).toList = fs at *
  rcases fs with _ | ⟨f1, _ | ⟨f2, _ | ⟨f3, fs⟩⟩⟩
  · simp at hf
  · simp at hf
  · simp only [List.map_cons, List.map_nil, List.cons.injEq, Prod.mk.injEq, and_true] at hf
    obtain ⟨⟨h1, h2, h3⟩, h4, h5, h6⟩ := hf
    have ia : (isAgg 3).run Tryd.prog w = .ok false w := by kernel_rfl
    simp [Op.eqFields, h1, h2, h3, h4, h5, h6, part, Sem.run_bind, ia, run_equalIn_int w d 3 .i64 .i64 _ _ Tryd.underlying3]
  · simp at hf
theorem cx_part (cx : List Nat) (hl : cx.length = 38) (i : Nat) (hi : i < 19) (w : World) : (part 26 (cxA cx) (i * 2)).run Tryd.prog w = .ok (.agg #[.int .i64 ((cx.getD (i * 2) 0 : Nat) : Int), .int .i64 ((cx.getD (i * 2 + 1) 0 : Nat) : Int)]) w := by
  have ia : (isAgg 26).run Tryd.prog w = .ok true w := by kernel_rfl
  have is : (sizeOf 26).run Tryd.prog w = .ok 2 w := by kernel_rfl
  simp only [part, Sem.run_bind, ia, is, Result.andThen_ok, if_true, Sem.run_pure]
  have e : (cxA cx).extract (i * 2) (i * 2 + 2) = #[.int .i64 ((cx.getD (i * 2) 0 : Nat) : Int), .int .i64 ((cx.getD (i * 2 + 1) 0 : Nat) : Int)] := by
    apply Array.ext'
    apply List.ext_getElem?
    intro j
    unfold cxA
    rw [Array.toList_extract, List.extract_eq_take_drop]
    rcases j with _ | _ | j
    · rw [List.getElem?_take, if_pos (by omega), List.getElem?_drop, List.getElem?_map, Nat.add_zero, List.getD_eq_getElem?_getD, List.getElem?_eq_getElem (by omega)]
      rfl
    · have e1 : cx[i * 2 + (0 + 1)]? = some (cx.getD (i * 2 + 1) 0) := by
        rw [List.getD_eq_getElem?_getD, List.getElem?_eq_getElem (by omega)]; rfl
      rw [List.getElem?_take, if_pos (by omega), List.getElem?_drop, List.getElem?_map, e1]
      rfl
    · rw [List.getElem?_take, if_neg (by omega)]
      rfl
  rw [e]
theorem eq_ctx3 (cx : List Nat) (hl : cx.length = 38) (d : Nat) (w : World) : (Op.equalIn (d + 3) 28 (.agg (cxA cx)) (.agg (cxA cx))).run Tryd.prog w = .ok true w := by
  have is : (sizeOf 26).run Tryd.prog w = .ok 2 w := by kernel_rfl
  rw [Op.equalIn]
  simp only [Sem.run_bind, run_underlying und28, Result.andThen_ok, is]
  have key : ∀ (l : List Nat), (∀ i ∈ l, i < 19) → ∀ (u : World), (forIn (m := Sem) l ((none, ()) : Option Bool × Unit) fun i __s => do
            let a ← part 26 (cxA cx) (i * 2)
            let b ← part 26 (cxA cx) (i * 2)
            let c ← Op.equalIn (d + 2) 26 a b
            if (!c) = true then pure (ForInStep.done (some false, ())) else pure (ForInStep.yield (none, ()))).run Tryd.prog u = .ok (none, ()) u := by
    intro l
    induction l with
    | nil => intro _ u; simp
    | cons i l ih =>
      intro h u
      have hi := h i List.mem_cons_self
      simp only [List.forIn_cons, Sem.run_bind, cx_part cx hl i hi, Result.andThen_ok, eq_one, Bool.not_true, Bool.false_eq_true, if_false, Sem.run_pure]
      exact ih (fun j hj => h j (List.mem_cons_of_mem _ hj)) u
  rw [Std.Legacy.Range.forIn_eq_forIn_range']
  rw [key _ (fun i hi => by
    have := List.mem_range'_1.1 hi
    simp [Std.Legacy.Range.size] at this
    omega) w]
  rfl
theorem eq_ctx (cx : List Nat) (hl : cx.length = 38) (w : World) : (binOp .eql 28 (.agg (cxA cx)) (.agg (cxA cx))).run Tryd.prog w = .ok (.bool true) w := by
  rw [run_eql_struct, show (10000 : Nat) = 9997 + 3 from rfl, eq_ctx3 cx hl 9997 w]
  rfl
theorem eq_ctx10 (cx : List Nat) (hl : cx.length = 38) (w : World) : (Op.equalIn 10000 28 (.agg (cxA cx)) (.agg (cxA cx))).run Tryd.prog w = .ok true w := by
  rw [show (10000 : Nat) = 9997 + 3 from rfl]; exact eq_ctx3 cx hl 9997 w
end Go.Proofs.YtdgkeghgfibolaaDoor
