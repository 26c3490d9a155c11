/- Packets in order: a tile's packets collected. -/
import Derived.Test.YtejoedanhonpkaaOrU1
set_option linter.unusedVariables false
set_option linter.unusedSimpArgs false
namespace Go.Proofs.Ytejoedanhonpkaa
open Go.RowKit Go.Shelf
set_option maxRecDepth 100000
set_option maxHeartbeats 4000000 in
theorem coll_in (t0 t1 t2 t3 ix iy iox ioy : Int) (cb co n cc b b0 fn : Nat) (oc : Obj) (cs : List Cp) (tx ty bw bh st O : Int) (rc so ep : Bool) (LV PR LY : Nat) (w W5 : World) (tm : Array Value) (asg body : Code) (asgA : Pk → Nat → Act)
    (ht : inN (t0, t1, t2, t3) 255) (hto : Ord4 (t0, t1, t2, t3)) (hcs : ∀ (i : Nat) (c : Cp), cs[i]? = some c → (1 ≤ c.dx ∧ c.dx ≤ 4) ∧ (1 ≤ c.dy ∧ c.dy ≤ 4)) (hn4 : cs.length ≤ 4) (hn : cs.length = n) (hlv : LV ≤ 5) (hpr : 1 ≤ PR ∧ PR ≤ 15) (hly : LY ≤ 8)
    (hoc : w.heap[cb]? = some oc) (hco : ∀ X : World, X.heap[cb]? = some oc → ∀ (i : Nat) (c : Cp), cs[i]? = some c → X.cell? ⟨cb, co + i * 5, none⟩ = some (.int .i64 c.d) ∧ X.cell? ⟨cb, co + i * 5 + 1, none⟩ = some (.bool c.sg) ∧ X.cell? ⟨cb, co + i * 5 + 2, none⟩ = some (.int .i64 c.dx) ∧ X.cell? ⟨cb, co + i * 5 + 3, none⟩ = some (.int .i64 c.dy) ∧ X.cell? ⟨cb, co + i * 5 + 4, none⟩ = some (.slice c.A c.n c.cap))
    (V P Y : Int) (hV : (LV : Int) = V) (hP : (PR : Int) = P) (hY : (LY : Int) = Y) (hb0 : w.heap.size = b0) (hb03 : b0 + 3 ≤ b) (hs5 : W5.heap.size = b + 4) (hbl5 : Below b0 w W5)
    (qb : W5.heap[b]? = some (.cells #[.slice none 0 0] 61 (0, 0))) (q0 : W5.heap[b + 1]? = some (.cells #[.int .i64 t0, .int .i64 t1, .int .i64 t2, .int .i64 t3] 38 (0, 0))) (q1 : W5.heap[b + 2]? = some (.cells #[.int .i64 ix, .int .i64 iy, .int .i64 iox, .int .i64 ioy, .slice (some ⟨cb, co, none⟩) n cc] 28 (0, 0))) (q2 : W5.heap[b + 3]? = some (.cells #[.int .i64 tx, .int .i64 ty, .int .i64 V, .int .i64 bw, .int .i64 bh, .int .i64 P, .int .i64 st, .int .i64 O, .int .i64 Y, .bool rc, .bool so, .bool ep] 30 (0, 0)))
    (hasg : ∀ (m : Nat) (x : Pk) (A : World) (K : Act → World → Prop), K (asgA x A.heap.size) (A.alloc (.cells x.arr 66)) → asg.wpIn (Fence.wide.inRound (b + 5)) m Try.prog (Exit.then K (fun _ _ _ => False)) { tmps := ((#[28] : Array Tmp).zip #[x.val]).foldl (fun t (p, v) => t.setIfInBounds p v) tm, defers := [] } A)
    (hbody : ∀ (m z9 k : Nat) (V : Value) (ys : List Value) (x : Pk) (A : World), A.heap[b]? = some (.cells #[V] 61 (0, 0)) → b + 6 ≤ A.heap.size → A.ownsRow (b + 6) 66 6 V k ys → A.heap[z9]? = some (.cells x.arr 66 (0, 0)) → k ≤ 20000000 →
      ∀ Q : Exit → Act → World → Prop, (∀ a V' A', A'.ownsRow (b + 6) 66 6 V' (k + 1) (ys ++ x.vals) → A'.heap[b]? = some (.cells #[V'] 61 (0, 0)) → A.heap.size ≤ A'.heap.size → (∀ j, j < A.heap.size → j ≠ b → V.ownBlock ≠ some j → A'.heap[j]? = A.heap[j]?) →
        (V'.ownBlock = V.ownBlock ∨ ∃ j, A.heap.size ≤ j ∧ V'.ownBlock = some j) → Below b A A' → Q .normal a A') → body.wpIn (Fence.wide.inRound (b + 5)) m Try.prog Q (asgA x z9) A) :
    CallsIn Fence.wide 8 Try.prog 40 (#[.func (.yield (b + 5)) #[] #[]] ++ #[.pointer (some ⟨b + 2, 0, none⟩), .pointer (some ⟨b + 1, 0, none⟩), .pointer (some ⟨b + 3, 0, none⟩)]) ((W5.alloc (.deferred (some []))).alloc (.loop (recL fn tm #[28] asg body (b + 4) .ready none)))
      (fun e W' => (∃ v, e = .returned v) ∧ W'.heap[b + 5]? = some (.loop (recL fn tm #[28] asg body (b + 4) .ready none)) ∧ ∃ Vr, (W'.putObj (b + 5) (.loop (recL fn tm #[28] asg body (b + 4) .exhausted none))).heap[b]? = some (.cells #[Vr] 61 (0, 0)) ∧ (W'.putObj (b + 5) (.loop (recL fn tm #[28] asg body (b + 4) .exhausted none))).ownsRow (b + 6) 66 6 Vr ((geo (t0, t1, t2, t3) (cs.map fun c => (c.dx, c.dy)) LV PR).pks LY).length (((geo (t0, t1, t2, t3) (cs.map fun c => (c.dx, c.dy)) LV PR).pks LY).flatMap Pk.vals) ∧
        (W'.putObj (b + 5) (.loop (recL fn tm #[28] asg body (b + 4) .exhausted none))).heap[b + 4]? = some (.deferred (some [])) ∧ b + 6 ≤ (W'.putObj (b + 5) (.loop (recL fn tm #[28] asg body (b + 4) .exhausted none))).heap.size ∧ Below b0 w (W'.putObj (b + 5) (.loop (recL fn tm #[28] asg body (b + 4) .exhausted none)))) := by
  have hw : Below W5.heap.size W5 ((W5.alloc (.deferred (some []))).alloc (.loop (recL fn tm #[28] asg body (b + 4) .ready none))) ∧ ((W5.alloc (.deferred (some []))).alloc (.loop (recL fn tm #[28] asg body (b + 4) .ready none))).heap[b + 4]? = some (.deferred (some [])) ∧ ((W5.alloc (.deferred (some []))).alloc (.loop (recL fn tm #[28] asg body (b + 4) .ready none))).heap[b + 5]? = some (.loop (recL fn tm #[28] asg body (b + 4) .ready none)) ∧ ((W5.alloc (.deferred (some []))).alloc (.loop (recL fn tm #[28] asg body (b + 4) .ready none))).heap.size = b + 6 := by
    refine ⟨((Below.refl _ _).alloc (Nat.le_refl _) _).alloc (by simp) _, ?_, ?_, by simp [hs5]⟩
    · rw [← hs5, Below.heap_alloc _ _ _ (by simp)]; exact World.alloc_heap_new W5 _
    · rw [show b + 5 = W5.heap.size + 1 by omega]; exact new2 W5 _ _
  obtain ⟨W1, hW1⟩ : ∃ W, (W5.alloc (.deferred (some []))).alloc (.loop (recL fn tm #[28] asg body (b + 4) .ready none)) = W := ⟨_, rfl⟩
  rw [hW1] at hw ⊢
  clear hW1
  refine (packets1_in (b + 5) (b + 1) (b + 2) (b + 3) cb co cc oc (t0, t1, t2, t3) ix iy iox ioy cs tx ty bw bh st O rc so ep LV PR LY ht hto hcs hn4 hlv hpr hly hco (JL w b (b + 5) (b + 4) (b + 6) (.loop (recL fn tm #[28] asg body (b + 4) .ready none))) (jl_foot _ _ _ _ _ _) _ rfl
      (jl_yields w b (b + 5) (b + 4) (b + 6) fn tm asg body asgA (by omega) (by omega) (by omega) (by omega) (by omega) hasg hbody)
      (jl_comps hoc) (fun k => k < w.heap.size ∨ k = b ∨ k = b + 5 ∨ k = b + 4 ∨ (Value.slice none 0 0).ownBlock = some k) W1 ?h0).mono ?fin2
  case h0 =>
    have kW : ∀ {k : Nat} {ob : Obj}, W5.heap[k]? = some ob → _ := fun {k ob} h => (hw.1.block k (Array.getElem?_eq_some_iff.1 h).1).trans h
    refine ⟨⟨.slice none 0 0, fun k => Iff.rfl, kW qb, World.ownsRow_nil _ _ _ _, hw.2.2.1, hw.2.1, by rw [hw.2.2.2]; exact Nat.le_refl _, by rw [hb0]; exact hbl5.trans (hw.1.mono (by omega))⟩, fun p hp => ?_⟩
    have hnF : ∀ j, j = b + 1 ∨ j = b + 2 ∨ j = b + 3 → ¬ (j < w.heap.size ∨ j = b ∨ j = b + 5 ∨ j = b + 4 ∨ (Value.slice none 0 0).ownBlock = some j) := fun j hj h => by
      have := hb0
      rcases h with h | h | h | h | h
      · omega
      · omega
      · omega
      · omega
      · simp [Value.ownBlock] at h
    simp only [List.mem_cons, List.not_mem_nil, or_false] at hp
    rcases hp with rfl | rfl | rfl
    · refine ⟨?_, hnF _ (.inr (.inl rfl))⟩
      rw [hn]; exact kW q1
    · exact ⟨kW q0, hnF _ (.inl rfl)⟩
    · refine ⟨?_, hnF _ (.inr (.inr rfl))⟩
      rw [hV, hP, hY]; exact kW q2
  case fin2 =>
    rintro e W' ⟨hv, F', V', hF, h1, h2, h3, h4, h5, h6⟩
    have hg := grownBy_putObj' W' (b + 5) (.loop (recL fn tm #[28] asg body (b + 4) .exhausted none))
    refine ⟨hv, h3, V', ?_, ?_, ?_, ?_, ?_⟩
    · rw [World.putObj_heap_other (by omega)]; exact h1
    · exact ownsRow_keep h2 hg.size (fun j hj => World.putObj_heap_other (by have := (own_lt h2 hj).1; omega))
    · rw [World.putObj_heap_other (by omega)]; exact h4
    · exact Nat.le_trans h5 hg.size
    · rw [← hb0]; exact h6.grown hg h6.size (fun k e => by injection e with e; have := hb0; omega)
end Go.Proofs.Ytejoedanhonpkaa
