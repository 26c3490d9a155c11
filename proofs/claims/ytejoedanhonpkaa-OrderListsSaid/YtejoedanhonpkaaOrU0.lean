/- Packets in order: packets collected in a row: the consumer of the iterator. -/
import Derived.Test.YtejoedanhonpkaaOrT
import Derived.Test.YtejoedanhonpkaaOrQ
set_option linter.unusedVariables false
set_option linter.unusedSimpArgs false
namespace Go.Proofs.Ytejoedanhonpkaa
open Go.RowKit Go.Shelf
set_option maxRecDepth 100000
attribute [local go_sem] Oper.semAt_some
attribute [local go_sem ↓] appSem_eq
theorem infoKey : (Try.prog.info? 42).map (fun i => (i.zero, i.size, i.bytes)) = some (some (.agg #[.int .i64 0, .int .i64 0, .int .i64 0, .int .i64 0]), 4, 32) := by kernel_rfl
theorem app_pk {w : World} {base m z : Nat} {v : Value} {xs : List Value} {x : Pk} (hown : w.ownsRow base 66 6 v m xs) (hz : w.heap[z]? = some (.cells x.arr 66 (0, 0))) (hb : base ≤ w.heap.size) (hm : m ≤ 20000000) :
    ∃ v' w', (appSem #[61, 61] 61 #[v, .slice (some ⟨z, 0, none⟩) 1 1]).run Try.prog w = .ok v' w' ∧ w'.ownsRow base 66 6 v' (m + 1) (xs ++ x.vals) ∧ w.grownBy w' v.ownBlock ∧ (v'.ownBlock = v.ownBlock ∨ v'.ownBlock = some w.heap.size) := by
  obtain ⟨i0, hi, hzz⟩ := Option.map_eq_some_iff.1 infoPk
  simp only [Prod.mk.injEq] at hzz
  obtain ⟨hz0, hz1, hz2⟩ := hzz
  obtain ⟨v', w', hr, hown', hg, _, hat⟩ := run_append_own_at (P := Try.prog) w base 61 61 66 i0 _ 6 48 (by kernel_rfl) hi hz0 hz1 hz2 rfl (by decide) v m xs hown ⟨z, 0, none⟩ 1 1 x.vals rfl (fun j u hu => by
    rcases j with _ | _ | _ | _ | _ | _ | j
    · simp at hu; subst hu; simp [World.cell?, Addr.add, hz]
    · simp at hu; subst hu; simp [World.cell?, Addr.add, hz]
    · simp at hu; subst hu; simp [World.cell?, Addr.add, hz]
    · simp at hu; subst hu; simp [World.cell?, Addr.add, hz]
    · simp at hu; subst hu; simp [World.cell?, Addr.add, hz]
    · simp at hu; subst hu; simp [World.cell?, Addr.add, hz]
    · simp at hu) (fun u hu => by
    simp at hu
    rcases hu with rfl | rfl | rfl | rfl | rfl | rfl <;> rfl) (by unfold maxLen; omega) (by omega) hb
  exact ⟨v', w', hr, hown', hg, hat⟩
@[reducible] def Pk.key (x : Pk) : List Value := [.int .i64 x.ly, .int .i64 x.rs, .int .i64 x.cp, .int .i64 x.pc]
theorem app_key {w : World} {base m z : Nat} {v : Value} {xs : List Value} {x : Pk} (hown : w.ownsRow base 42 4 v m xs) (hz : w.heap[z]? = some (.cells #[.int .i64 x.ly, .int .i64 x.rs, .int .i64 x.cp, .int .i64 x.pc] 42 (0, 0))) (hb : base ≤ w.heap.size) (hm : m ≤ 20000000) :
    ∃ v' w', (appSem #[35, 35] 35 #[v, .slice (some ⟨z, 0, none⟩) 1 1]).run Try.prog w = .ok v' w' ∧ w'.ownsRow base 42 4 v' (m + 1) (xs ++ x.key) ∧ w.grownBy w' v.ownBlock ∧ (v'.ownBlock = v.ownBlock ∨ v'.ownBlock = some w.heap.size) := by
  obtain ⟨i0, hi, hzz⟩ := Option.map_eq_some_iff.1 infoKey
  simp only [Prod.mk.injEq] at hzz
  obtain ⟨hz0, hz1, hz2⟩ := hzz
  obtain ⟨v', w', hr, hown', hg, _, hat⟩ := run_append_own_at (P := Try.prog) w base 35 35 42 i0 _ 4 32 (by kernel_rfl) hi hz0 hz1 hz2 rfl (by decide) v m xs hown ⟨z, 0, none⟩ 1 1 x.key rfl (fun j u hu => by
    rcases j with _ | _ | _ | _ | j
    · simp at hu; subst hu; simp [World.cell?, Addr.add, hz]
    · simp at hu; subst hu; simp [World.cell?, Addr.add, hz]
    · simp at hu; subst hu; simp [World.cell?, Addr.add, hz]
    · simp at hu; subst hu; simp [World.cell?, Addr.add, hz]
    · simp at hu) (fun u hu => by
    simp at hu
    rcases hu with rfl | rfl | rfl | rfl <;> rfl) (by unfold maxLen; omega) (by omega) hb
  exact ⟨v', w', hr, hown', hg, hat⟩
set_option maxHeartbeats 4000000 in
theorem push_in {u0 u1 u2 u3 u4 u5 u6 u7 u10 u11 u12 u13 u14 u15 u16 u17 u18 u19 u20 u21 u22 u23 u24 u25 u26 u27 u28 u29 u30 u31 u32 u33 u34 u35 u36 u37 u38 u39 u40 u41 u42 u43 u44 u45 u46 u47 : Value} (b z9 N l2 m k : Nat) (V : Value) (ys : List Value) (x : Pk) (A : World) (hb : A.heap[b]? = some (.cells #[V] 61 (0, 0))) (hbN : b < N) (hN : N ≤ A.heap.size) (how : A.ownsRow N 66 6 V k ys) (hz : A.heap[z9]? = some (.cells x.arr 66 (0, 0))) (hk : k ≤ 20000000)
    {Q : Exit → Act → World → Prop} (hQ : ∀ a V' A', A'.ownsRow N 66 6 V' (k + 1) (ys ++ x.vals) → A'.heap[b]? = some (.cells #[V'] 61 (0, 0)) → A.heap.size ≤ A'.heap.size → (∀ j, j < A.heap.size → j ≠ b → V.ownBlock ≠ some j → A'.heap[j]? = A.heap[j]?) →
      (V'.ownBlock = V.ownBlock ∨ ∃ j, A.heap.size ≤ j ∧ V'.ownBlock = some j) → Below b A A' → Q .normal a A') :
    (blkOf Try.f13 1).wpIn (Fence.wide.inRound l2) m Try.prog Q ⟨#[u0, u1, u2, u3, u4, u5, u6, u7, .pointer (some ⟨b, 0, none⟩), .pointer (some ⟨z9, 0, none⟩), u10, u11, u12, u13, u14, u15, u16, u17, u18, u19, u20, u21, u22, u23, u24, u25, u26, u27, u28, u29, u30, u31, u32, u33, u34, u35, u36, u37, u38, u39, u40, u41, u42, u43, u44, u45, u46, u47], []⟩ A := by
  obtain ⟨o_, ho_⟩ : ∃ o, blkOf Try.f13 1 = o := ⟨_, rfl⟩
  rw [ho_]
  conv at ho_ => lhs; whnf
  subst ho_
  obtain ⟨q0, q1, q2, q3, q4, q5⟩ := cells6 hz
  have cb := blkc hb 0
  simp only [List.getElem?_toArray, List.getElem?_cons_zero] at cb
  obtain ⟨A1, hA1⟩ : ∃ A1, A.alloc (.cells x.arr 66) = A1 := ⟨_, rfl⟩
  have hb1 : Below A.heap.size A A1 := by rw [← hA1]; exact (Below.refl _ _).alloc (Nat.le_refl _) _
  have hz1 : A1.heap[A.heap.size]? = some (.cells x.arr 66 (0, 0)) := by rw [← hA1]; exact World.alloc_heap_new A _
  have how1 : A1.ownsRow N 66 6 V k ys := ownsRow_keep how hb1.size (fun j hj => hb1.block j (own_lt how hj).2)
  obtain ⟨V', A2, hr, ho2, hg2, hv2⟩ := app_pk how1 hz1 (Nat.le_trans hN hb1.size) hk
  obtain ⟨va, vc, rfl, _⟩ := own_any ho2
  have hbA := (Array.getElem?_eq_some_iff.1 hb).1
  have hbn : ∀ {W : World} {U : Value} {q : Nat} {es : List Value}, W.ownsRow N 66 6 U q es → U.ownBlock ≠ some b := fun h e => by have := (own_lt h e).1; omega
  have hb2 : A2.heap[b]? = some (.cells #[V] 61 (0, 0)) := (hg2.block _ (Nat.lt_of_lt_of_le hbA hb1.size) (fun e => hbn how1 e.symm)).trans ((hb1.block _ hbA).trans hb)
  have cb2 := blkc hb2 0
  simp only [List.getElem?_toArray, List.getElem?_cons_zero] at cb2
  have fb2 : A2.frozen? ⟨b, 0, none⟩ = false := by simp [World.frozen?, hb2]
  have HE : Hid (∀ a, Q .normal a (A2.setCell ⟨b, 0, none⟩ (.slice va (k + 1) vc))) := Lib.hid (fun a => by
    refine hQ a _ _ ?_ (blk_set6 hb2 0 _) ?_ ?_ ?_ ?_
    · exact ownsRow_keep ho2 (by simp [World.setCell]) (fun j hj => Below.heap_setCell _ _ _ _ (fun e => hbn ho2 (by rw [hj]; exact congrArg some e)))
    · simp only [World.setCell, Array.size_modify]; exact Nat.le_trans hb1.size hg2.size
    · intro j hj hjb hjV
      rw [Below.heap_setCell _ _ _ _ hjb, hg2.block _ (Nat.lt_of_lt_of_le hj hb1.size) (fun e => hjV e.symm), hb1.block _ hj]
    · rcases hv2 with h | h
      · exact .inl h
      · exact .inr ⟨_, hb1.size, h⟩
    · exact ((hb1.mono (Nat.le_of_lt hbA)).grown hg2 (Nat.le_trans (Nat.le_of_lt hbA) hb1.size) (fun j e => by have := (own_lt how1 e).1; omega)).setCell (p := ⟨b, 0, none⟩) (Nat.le_refl _) _)
  clear hQ hb1 hz1 how1 ho2 hg2 hv2 hb2 hbn how hb hz
  gi_wp2
  exact HE.out _
end Go.Proofs.Ytejoedanhonpkaa
