/- Packets in order: a range over an iterator of packets: its record, its rounds; the blocks that are one's own. -/
import Derived.Test.YtejoedanhonpkaaOrP
set_option linter.unusedVariables false
set_option linter.unusedSimpArgs false
namespace Go.Proofs.Ytejoedanhonpkaa
open Go.RowKit Go.Shelf
set_option maxRecDepth 100000
/-- What the consumer's word stands on: F are its blocks. -/
structure Foot (J : (Nat → Prop) → List Pk → World → Prop) : Prop where
  grow : ∀ F pre A A' row, J F pre A → A.grownBy A' row → (∀ r, row = some r → ¬ F r) → J F pre A'
  lt : ∀ F pre A k, J F pre A → F k → k < A.heap.size
/-- .. and blocks that are not its own. -/
structure PSt (J : (Nat → Prop) → List Pk → World → Prop) (F : Nat → Prop) (pre : List Pk) (A : World) (O : List (Nat × Obj)) : Prop where
  j : J F pre A
  o : ∀ p ∈ O, A.heap[p.1]? = some p.2 ∧ ¬ F p.1
section
variable {J : (Nat → Prop) → List Pk → World → Prop} {F : Nat → Prop} {pre : List Pk} {A A' : World} {O O' : List (Nat × Obj)}
theorem PSt.sub (h : PSt J F pre A O) (hs : ∀ p ∈ O', p ∈ O) : PSt J F pre A O' := ⟨h.j, fun p hp => h.o p (hs p hp)⟩
theorem PSt.size (h : PSt J F pre A O) {p : Nat × Obj} (hp : p ∈ O) : p.1 < A.heap.size := (Array.getElem?_eq_some_iff.1 (h.o p hp).1).1
theorem PSt.below (hf : Foot J) (h : PSt J F pre A O) (hb : Below A.heap.size A A') : PSt J F pre A' O :=
  ⟨hf.grow F pre A A' none h.j (grown_of_below hb) (fun r e => by cases e), fun p hp => ⟨(hb.block _ (h.size hp)).trans (h.o p hp).1, (h.o p hp).2⟩⟩
theorem PSt.new (hf : Foot J) (h : PSt J F pre A O) (o : Obj) : PSt J F pre (A.alloc o) ((A.heap.size, o) :: O) := by
  have h2 := h.below hf ((Below.refl _ A).alloc (Nat.le_refl _) o)
  refine ⟨h2.j, fun p hp => ?_⟩
  rcases List.mem_cons.1 hp with rfl | hp
  · exact ⟨World.alloc_heap_new A _, fun hk => Nat.lt_irrefl _ (hf.lt F pre A _ h.j hk)⟩
  · exact h2.o p hp
theorem PSt.put (hf : Foot J) (h : PSt J F pre A O) {k : Nat} (hg : A.grownBy A' (some k)) (hk : ¬ F k) (hO : ∀ p ∈ O', (p ∈ O ∧ p.1 ≠ k) ∨ (p.1 = k ∧ A'.heap[k]? = some p.2)) : PSt J F pre A' O' :=
  ⟨hf.grow F pre A A' (some k) h.j hg (fun r e => by cases e; exact hk), fun p hp => by
    rcases hO p hp with ⟨h1, h2⟩ | ⟨h1, h2⟩
    · exact ⟨(hg.block _ (h.size h1) (fun e => h2 (by cases e; rfl))).trans (h.o p h1).1, (h.o p h1).2⟩
    · rw [h1]; exact ⟨h2, hk⟩⟩
end
theorem grownBy_cell (W : World) (b i : Nat) (v : Value) : W.grownBy (W.setCell ⟨b, i, none⟩ v) (some b) :=
  ⟨rfl, rfl, rfl, by simp [World.setCell], fun k _ hk => Below.heap_setCell _ _ _ k (fun e => hk (by rw [e]))⟩
@[reducible] def Pk.arr (x : Pk) : Array Value := #[.int .i64 x.ly, .int .i64 x.rs, .int .i64 x.cp, .int .i64 x.pc, .int .i64 x.dn, .int .i64 x.ac]
@[reducible] def recL (fn : Nat) (tmps : Array Value) (ps : Array Tmp) (asg body : Code) (D : Nat) (st : LoopState) (pe : Option Code) : Loop := { state := st, pending := pe, fn, tmps, params := ps, assign := asg, body, defers := D }
/-- A round: the packet's block is laid, the body walked. -/
theorem yield_pk {ps : Array Tmp} {asg body : Code} {tmps : Array Value} {l D fn m : Nat} {x : Pk} {A : World} {Post : World → Prop} (hps : ps.size = 1)
    (hl : A.heap[l]? = some (.loop (recL fn tmps ps asg body D .ready none))) (asgA : Act)
    (hasg : ∀ K : Act → World → Prop, K asgA (A.alloc (.cells x.arr 66)) → asg.wpIn (Fence.wide.inRound l) m Try.prog (Exit.then K (fun _ _ _ => False)) { tmps := (ps.zip #[x.val]).foldl (fun t (p, v) => t.setIfInBounds p v) tmps, defers := [] } A)
    (hbody : body.wpIn (Fence.wide.inRound l) m Try.prog (fun e _ A3 => e = .normal ∧ A3.heap[l]? = some (.loop (recL fn tmps ps asg body D .busy none)) ∧ Post (A3.putObj l (.loop (recL fn tmps ps asg body D .ready none)))) asgA
      ((A.alloc (.cells x.arr 66)).putObj l (.loop (recL fn tmps ps asg body D .busy none)))) :
    YieldAt Fence.wide m Try.prog l #[x.val] A (fun e A' => e = .returned (.bool true) ∧ Post A') := by
  have hy := run_yield (P := Try.prog) (args := #[x.val]) hl (by simp [hps])
  have hlt := (Array.getElem?_eq_some_iff.1 hl).1
  have hl2 := (Below.heap_alloc A (.cells x.arr 66) _ hlt).trans hl
  have hbr := run_beginRound (P := Try.prog) hl2 rfl
  refine ⟨fn, _, asg, body, hy, roundIn_of_wpIn trivial (hasg _ ⟨_, hbr, ?_⟩)⟩
  refine wpIn_mono hbody ?_
  rintro e a3 A3 ⟨rfl, hl3, hp⟩
  have hr := run_endRound (P := Try.prog) none hl3
  exact ⟨_, _, hr, rfl, hp⟩
/-- A range over an iterator of packets that is never left. -/
theorem range_core {g : Operand} {ps : Array Tmp} {asg body : Code} {Q : Exit → Act → World → Prop} {a : Act} {w : World} {n : Nat} (h1 : 1 ≤ n) {gf : Nat} {lb : Array Value} (hg : a.eval g = .func (.func gf) #[] lb)
    (eg : ∀ args w, (callFunc gf args).run Try.prog w = .ok (.enter gf args) w) {Fin : World → Prop}
    (hcall : ∀ fn, CallsIn Fence.wide (n - 1) Try.prog gf (#[.func (.yield (w.heap.size + 1)) #[] #[]] ++ lb) ((w.alloc (.deferred (some []))).alloc (.loop (recL fn a.tmps ps asg body w.heap.size .ready none)))
      (fun e W' => (∃ v, e = .returned v) ∧ W'.heap[w.heap.size + 1]? = some (.loop (recL fn a.tmps ps asg body w.heap.size .ready none)) ∧ Fin (W'.putObj (w.heap.size + 1) (.loop (recL fn a.tmps ps asg body w.heap.size .exhausted none)))))
    (hQ : ∀ W', Fin W' → Q .normal { a with defers := { target := .collected w.heap.size, args := #[] } :: a.defers } W') :
    (Code.rangeFunc g ps asg body).wpIn Fence.wide n Try.prog Q a w := by
  refine wpIn_rangeFunc ?_
  intro fn hfn
  obtain ⟨W1, hW1⟩ : ∃ W1, (w.alloc (.deferred (some []))).alloc (.loop (recL fn a.tmps ps asg body w.heap.size .ready none)) = W1 := ⟨_, rfl⟩
  have hc := hcall fn
  rw [hW1] at hc
  refine ⟨w.heap.size + 1, [{ target := .collected w.heap.size, args := #[] }], W1, { target := .fn (.func gf) lb, args := #[.func (.yield (w.heap.size + 1)) #[] #[]] }, W1, gf,
    #[.func (.yield (w.heap.size + 1)) #[] #[]] ++ lb, W1, ?_, ?_, ?_, ?_, fun _ => h1, ?_⟩
  · rw [← hW1]; exact run_enterLoop_outer _ _ _ _ _
  · simp only [resolve, hg]
    simp [go_sem]
  · intro f' _; trivial
  · simp [invoke, go_sem, eg]
  refine hc.mono ?_
  rintro e W2 ⟨⟨v, rfl⟩, hl, hF⟩
  have hr : (Instr.endLoop (w.heap.size + 1)).run Try.prog W2 = .ok none (W2.putObj (w.heap.size + 1) (.loop (recL fn a.tmps ps asg body w.heap.size .exhausted none))) := run_endLoop (P := Try.prog) hl (by simp)
  exact ⟨none, _, hr, hQ _ hF⟩
end Go.Proofs.Ytejoedanhonpkaa
