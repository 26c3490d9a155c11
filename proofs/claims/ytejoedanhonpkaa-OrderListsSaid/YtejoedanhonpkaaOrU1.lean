/- Packets in order: order.List. -/
import Derived.Test.YtejoedanhonpkaaOrU0
set_option linter.unusedVariables false
set_option linter.unusedSimpArgs false
namespace Go.Proofs.Ytejoedanhonpkaa
open Go.RowKit Go.Shelf
set_option maxRecDepth 100000
attribute [local go_sem] Oper.semAt_some
attribute [local go_sem ↓] appSem_eq
/-- The consumer: a row in block b, the range's record and mark; what lay below B0 is its own too. -/
def JL (w : World) (b l D N : Nat) (rd : Obj) (F : Nat → Prop) (pre : List Pk) (A : World) : Prop :=
  ∃ V, (∀ k, F k ↔ k < w.heap.size ∨ k = b ∨ k = l ∨ k = D ∨ V.ownBlock = some k) ∧ A.heap[b]? = some (.cells #[V] 61 (0, 0)) ∧ A.ownsRow N 66 6 V pre.length (pre.flatMap Pk.vals) ∧ A.heap[l]? = some rd ∧ A.heap[D]? = some (.deferred (some [])) ∧ N ≤ A.heap.size ∧ Below w.heap.size w A
theorem jl_foot (w : World) (b l D N : Nat) (rd : Obj) : Foot (JL w b l D N rd) where
  grow := by
    rintro F pre A A' row ⟨V, hF, hb, ho, hl, hD, hN, hB⟩ hg hr
    have kp : ∀ k, F k → k < A.heap.size → A'.heap[k]? = A.heap[k]? := fun k hk hlt => hg.block k hlt (fun e => hr k e.symm hk)
    have lt : ∀ {k : Nat} {o : Obj}, A.heap[k]? = some o → k < A.heap.size := fun h => (Array.getElem?_eq_some_iff.1 h).1
    refine ⟨V, hF, (kp b ((hF b).2 (.inr (.inl rfl))) (lt hb)).trans hb, ownsRow_keep ho hg.size (fun j hj => kp j ((hF j).2 (.inr (.inr (.inr (.inr hj))))) (own_lt ho hj).2), (kp l ((hF l).2 (.inr (.inr (.inl rfl)))) (lt hl)).trans hl, (kp D ((hF D).2 (.inr (.inr (.inr (.inl rfl))))) (lt hD)).trans hD, Nat.le_trans hN hg.size, ?_⟩
    exact hB.grown hg hB.size (fun k e => by
      refine Nat.le_of_not_lt (fun hk => hr k e ((hF k).2 (.inl hk))))
  lt := by
    rintro F pre A k ⟨V, hF, hb, ho, hl, hD, hN, hB⟩ hk
    have lt : ∀ {k : Nat} {o : Obj}, A.heap[k]? = some o → k < A.heap.size := fun h => (Array.getElem?_eq_some_iff.1 h).1
    rcases (hF k).1 hk with h | rfl | rfl | rfl | h
    · exact Nat.lt_of_lt_of_le h hB.size
    · exact lt hb
    · exact lt hl
    · exact lt hD
    · exact (own_lt ho h).2
theorem jl_comps {w : World} {b l D N cb : Nat} {rd oc : Obj} (hc : w.heap[cb]? = some oc) : ∀ F pre A, JL w b l D N rd F pre A → A.heap[cb]? = some oc := by
  rintro F pre A ⟨V, hF, hb, ho, hl, hD, hN, hB⟩
  exact (hB.block _ (Array.getElem?_eq_some_iff.1 hc).1).trans hc
set_option maxHeartbeats 4000000 in
theorem jl_yields (w : World) (b l D N fn : Nat) (tm : Array Value) (asg body : Code) (asgA : Pk → Nat → Act) (hbw : w.heap.size ≤ b) (hbl : b < l) (hDl : D < l) (hDb : D ≠ b) (hlN : l < N)
    (hasg : ∀ (m : Nat) (x : Pk) (A : World) (K : Act → World → Prop), K (asgA x A.heap.size) (A.alloc (.cells x.arr 66)) → asg.wpIn (Fence.wide.inRound l) m Try.prog (Exit.then K (fun _ _ _ => False)) { tmps := ((#[28] : Array Tmp).zip #[x.val]).foldl (fun t (p, v) => t.setIfInBounds p v) tm, defers := [] } A)
    (hbody : ∀ (m z9 k : Nat) (V : Value) (ys : List Value) (x : Pk) (A : World), A.heap[b]? = some (.cells #[V] 61 (0, 0)) → N ≤ A.heap.size → A.ownsRow N 66 6 V k ys → A.heap[z9]? = some (.cells x.arr 66 (0, 0)) → k ≤ 20000000 →
      ∀ Q : Exit → Act → World → Prop, (∀ a V' A', A'.ownsRow N 66 6 V' (k + 1) (ys ++ x.vals) → A'.heap[b]? = some (.cells #[V'] 61 (0, 0)) → A.heap.size ≤ A'.heap.size → (∀ j, j < A.heap.size → j ≠ b → V.ownBlock ≠ some j → A'.heap[j]? = A.heap[j]?) →
        (V'.ownBlock = V.ownBlock ∨ ∃ j, A.heap.size ≤ j ∧ V'.ownBlock = some j) → Below b A A' → Q .normal a A') → body.wpIn (Fence.wide.inRound l) m Try.prog Q (asgA x z9) A) :
    YOk (JL w b l D N (.loop (recL fn tm #[28] asg body D .ready none))) l := by
  intro m F pre x A hJ hlen
  obtain ⟨V, hF, hb, ho, hl, hD, hN, hB⟩ := hJ
  have lt : ∀ {k : Nat} {o : Obj}, A.heap[k]? = some o → k < A.heap.size := fun h => (Array.getElem?_eq_some_iff.1 h).1
  refine yield_pk (ps := #[28]) (m := m) (Post := fun A' => ∃ F', JL w b l D N (.loop (recL fn tm #[28] asg body D .ready none)) F' (pre ++ [x]) A' ∧ A.heap.size ≤ A'.heap.size ∧ ∀ k o, A.heap[k]? = some o → ¬ F k → A'.heap[k]? = some o ∧ ¬ F' k) rfl hl (asgA x A.heap.size) (hasg m x A) ?_
  have hb1 : Below A.heap.size A (A.alloc (.cells x.arr 66)) := (Below.refl _ _).alloc (Nat.le_refl _) _
  obtain ⟨A1, hA1⟩ : ∃ A1, A.alloc (.cells x.arr 66) = A1 := ⟨_, rfl⟩
  have hz1 : A1.heap[A.heap.size]? = some (.cells x.arr 66 (0, 0)) := by rw [← hA1]; exact World.alloc_heap_new A _
  rw [hA1] at hb1 ⊢
  clear hA1
  have hll : l < A.heap.size := lt hl
  have hs1 : A.heap.size < A1.heap.size := (Array.getElem?_eq_some_iff.1 hz1).1
  obtain ⟨A2, hA2⟩ : ∃ A2, A1.putObj l (.loop (recL fn tm #[28] asg body D .busy none)) = A2 := ⟨_, rfl⟩
  have hg2 : A1.grownBy A2 (some l) := by rw [← hA2]; exact grownBy_putObj' A1 l _
  have hl2 : A2.heap[l]? = some (.loop (recL fn tm #[28] asg body D .busy none)) := by rw [← hA2]; exact World.putObj_heap_same (by omega)
  rw [hA2]
  clear hA2
  have hs2 := hg2.size
  have k2 : ∀ k, k < A.heap.size → k ≠ l → A2.heap[k]? = A.heap[k]? := fun k hk hne => (hg2.block k (by omega) (fun e => hne (Option.some.inj e))).trans (hb1.block k hk)
  have hVl : ∀ {W : World} {U : Value} {q : Nat} {es : List Value} {j : Nat}, W.ownsRow N 66 6 U q es → U.ownBlock = some j → N ≤ j := fun h e => (own_lt h e).1
  refine hbody m A.heap.size pre.length V (pre.flatMap Pk.vals) x A2 ((k2 b (lt hb) (by omega)).trans hb) (Nat.le_trans hN (Nat.le_trans hb1.size hg2.size))
    (ownsRow_keep ho (Nat.le_trans hb1.size hg2.size) (fun j hj => k2 j (own_lt ho hj).2 (by have := (own_lt ho hj).1; omega))) ((hg2.block _ hs1 (fun e => by injection e with e; omega)).trans hz1) (by omega) _ ?_
  intro a V' A3 ho3 hb3 hs3 hk3 hv3 hB3
  have h3 : ∀ k, k < A.heap.size → k ≠ l → k ≠ b → V.ownBlock ≠ some k → A3.heap[k]? = A.heap[k]? := fun k hk h1 h2 h4 => (hk3 k (by omega) h2 h4).trans (k2 k hk h1)
  have hsA : A.heap.size ≤ A3.heap.size := Nat.le_trans (Nat.le_of_lt hs1) (Nat.le_trans hg2.size hs3)
  have hl3 : A3.heap[l]? = some (.loop (recL fn tm #[28] asg body D .busy none)) := (hk3 l (by have := hg2.size; omega) (by omega) (fun e => by have := hVl ho e; omega)).trans hl2
  refine ⟨rfl, hl3, ?_⟩
  have hg4 := grownBy_putObj' A3 l (.loop (recL fn tm #[28] asg body D .ready none))
  obtain ⟨A4, hA4⟩ : ∃ A4, A3.putObj l (.loop (recL fn tm #[28] asg body D .ready none)) = A4 := ⟨_, rfl⟩
  rw [hA4] at hg4
  have hl4 : A4.heap[l]? = some (.loop (recL fn tm #[28] asg body D .ready none)) := by rw [← hA4]; exact World.putObj_heap_same (by omega)
  rw [hA4]
  clear hA4
  have k4 : ∀ k, k < A3.heap.size → k ≠ l → A4.heap[k]? = A3.heap[k]? := fun k hk hne => hg4.block k hk (fun e => hne (Option.some.inj e))
  refine ⟨fun k => k < w.heap.size ∨ k = b ∨ k = l ∨ k = D ∨ V'.ownBlock = some k, ⟨V', fun k => Iff.rfl, (k4 b (Nat.lt_of_lt_of_le (lt hb) hsA) (by omega)).trans hb3, ?_, hl4, ?_, Nat.le_trans hN (Nat.le_trans hsA hg4.size), ?_⟩, Nat.le_trans hsA hg4.size, ?_⟩
  · rw [List.length_append, List.length_singleton, List.flatMap_append, List.flatMap_singleton]
    exact ownsRow_keep ho3 hg4.size (fun j hj => k4 j (own_lt ho3 hj).2 (by have := (own_lt ho3 hj).1; omega))
  · rw [k4 D (Nat.lt_of_lt_of_le (lt hD) hsA) (by omega), h3 D (lt hD) (by omega) hDb (fun e => by have := hVl ho e; omega)]; exact hD
  · have e1 : Below w.heap.size A A1 := hb1.mono hB.size
    have e2 : Below w.heap.size A A2 := e1.grown hg2 (by have := hB.size; omega) (fun k e => by injection e with e; omega)
    have e3 : Below w.heap.size A A3 := e2.trans (hB3.mono hbw)
    exact hB.trans (e3.grown hg4 (by have := hB.size; omega) (fun k e => by injection e with e; omega))
  · intro k ob hk hnF
    have hkl := lt hk
    have n1 : k ≠ l := fun e => hnF ((hF k).2 (by rw [e]; exact .inr (.inr (.inl rfl))))
    have n2 : k ≠ b := fun e => hnF ((hF k).2 (by rw [e]; exact .inr (.inl rfl)))
    have n3 : V.ownBlock ≠ some k := fun e => hnF ((hF k).2 (.inr (.inr (.inr (.inr e)))))
    have n4 : k ≠ D := fun e => hnF ((hF k).2 (by rw [e]; exact .inr (.inr (.inr (.inl rfl)))))
    have n5 : ¬ k < w.heap.size := fun e => hnF ((hF k).2 (.inl e))
    refine ⟨(k4 k (Nat.lt_of_lt_of_le hkl hsA) n1).trans ((h3 k hkl n1 n2 n3).trans hk), ?_⟩
    rintro (h | h | h | h | h)
    · exact n5 h
    · exact n2 h
    · exact n1 h
    · exact n4 h
    · rcases hv3 with e | ⟨j, hj, e⟩
      · exact n3 (by rw [← e]; exact h)
      · rw [e] at h; injection h with h; subst h; have := hg2.size; omega
end Go.Proofs.Ytejoedanhonpkaa
