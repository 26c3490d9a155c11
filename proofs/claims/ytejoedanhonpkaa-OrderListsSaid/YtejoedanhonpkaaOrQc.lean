/- Packets in order: the iterator over precincts, called for a range whose body yields the layers. -/
import Derived.Test.YtejoedanhonpkaaOrQ1
set_option linter.unusedVariables false
set_option linter.unusedSimpArgs false
namespace Go.Proofs.Ytejoedanhonpkaa
open Go.RowKit Go.Shelf
set_option maxRecDepth 100000
section
variable {J : (Nat → Prop) → List Pk → World → Prop} {F : Nat → Prop} {pre : List Pk} {A A' : World} {O O' : List (Nat × Obj)}
theorem PSt.new' (hf : Foot J) (h : PSt J F pre A O) (o : Obj) {k : Nat} (hk : A.heap.size = k) : PSt J F pre (A.alloc o) ((k, o) :: O) := by
  subst hk; exact h.new hf o
theorem PSt.new5 (hf : Foot J) (h : PSt J F pre A O) (o0 o1 o2 o3 o4 : Obj) : PSt J F pre (((((A.alloc o0).alloc o1).alloc o2).alloc o3).alloc o4)
    ((A.heap.size + 4, o4) :: (A.heap.size + 3, o3) :: (A.heap.size + 2, o2) :: (A.heap.size + 1, o1) :: (A.heap.size, o0) :: O) :=
  ((((h.new' hf o0 rfl).new' hf o1 (by simp)).new' hf o2 (by simp)).new' hf o3 (by simp)).new' hf o4 (by simp)
/-- The record of a range over packets is turned. -/
theorem PSt.turn (hf : Foot J) {k : Nat} {o : Obj} (o' : Obj) (h : PSt J F pre A ((k, o) :: O)) (hO : ∀ p ∈ O, p.1 ≠ k) : PSt J F pre (A.putObj k o') ((k, o') :: O) :=
  h.put hf (grownBy_putObj' A k o') (h.o _ List.mem_cons_self).2 (fun p hp => by
    rcases List.mem_cons.1 hp with rfl | hp
    · exact .inr ⟨rfl, World.putObj_heap_same (h.size List.mem_cons_self)⟩
    · exact .inl ⟨List.mem_cons_of_mem _ hp, hO p hp⟩)
end
theorem below_of_grown {A A' : World} (h : A.grownBy A' none) : Below A.heap.size A A' := ⟨h.os, h.tape, h.output, h.size, fun k hk => h.block k hk (by simp)⟩
def lays (LY : Nat) (ic : Nat) (ys : List Pk) : List Pk := ys.flatMap fun x => layL ⟨0, x.rs, (ic : Int), x.pc, x.dn, x.ac⟩ LY
set_option maxHeartbeats 4000000 in
theorem call_in (l z4 z5 pz z D2 fn : Nat) (tm : Array Value) (asg body : Code) (asgA : Pk → Nat → Act) (t0 t1 t2 t3 q0 q1 q2 q3 tx ty bw bh st od P V Y cd dx dy : Int) (rc so ep cg : Bool) (CD : Value) (LV PR LY ic r : Nat) (ds : List (Int × Int)) (hd0 : dAt ds ic = (dx, dy))
    (hly : LY ≤ 8) (hlv : LV ≤ 5) (hpr : 1 ≤ PR ∧ PR ≤ 15) (hr : r ≤ LV) (hdx : 1 ≤ dx ∧ dx ≤ 4) (hdy : 1 ≤ dy ∧ dy ≤ 4) (hV0 : (LV : Int) = V) (hP0 : (PR : Int) = P) (ht : inN (t0, t1, t2, t3) 255) (ho : Ord4 (t0, t1, t2, t3)) (hq : rsF (t0, t1, t2, t3) (dx, dy) LV r = (q0, q1, q2, q3))
    (G : GE) (hG : geo (t0, t1, t2, t3) ds LV PR = G) (J : (Nat → Prop) → List Pk → World → Prop) (hf : Foot J) (F : Nat → Prop) (pre : List Pk) (w : World) (LL : List (Nat × Obj)) (hP : PSt J F pre w LL) (hD2 : w.heap.size = D2) (hlen : pre.length ≤ 16000000)
    (m5 : (z5, Obj.cells #[.int .i64 (ic : Int)] 3 (0, 0)) ∈ LL) (mp : (pz, Obj.cells (parA tx ty V bw bh P st od Y rc so ep) 30 (0, 0)) ∈ LL) (m4 : (z4, Obj.cells #[.func (.yield l) #[] #[]] 83 (0, 0)) ∈ LL) (f0 : (z, Obj.cells #[.int .i64 t0, .int .i64 t1, .int .i64 t2, .int .i64 t3] 38 (0, 0)) ∈ LL) (f1 : (z + 1, Obj.cells #[.int .i64 q0, .int .i64 q1, .int .i64 q2, .int .i64 q3] 38 (0, 0)) ∈ LL) (f2 : (z + 2, Obj.cells #[.int .i64 cd, .bool cg, .int .i64 dx, .int .i64 dy, CD] 48 (0, 0)) ∈ LL) (f3 : (z + 3, Obj.cells (parA tx ty V bw bh P st od Y rc so ep) 30 (0, 0)) ∈ LL) (f4 : (z + 4, Obj.cells #[.int .i64 (r : Int)] 3 (0, 0)) ∈ LL)
    (hasg : ∀ (x : Pk) (A : World) (K : Act → World → Prop), K (asgA x A.heap.size) (A.alloc (.cells x.arr 66)) → asg.wpIn (Fence.wide.inRound (D2 + 1)) 6 Try.prog (Exit.then K (fun _ _ _ => False)) { tmps := ((#[41] : Array Tmp).zip #[x.val]).foldl (fun t (p, v) => t.setIfInBounds p v) tm, defers := [] } A)
    (hbody : ∀ (x : Pk) (z9 : Nat) (F : Nat → Prop) (pre : List Pk) (A : World) (O : List (Nat × Obj)), PSt J F pre A ((z9, Obj.cells x.arr 66 (0, 0)) :: (z5, Obj.cells #[.int .i64 (ic : Int)] 3 (0, 0)) :: (pz, Obj.cells (parA tx ty V bw bh P st od Y rc so ep) 30 (0, 0)) :: (z4, Obj.cells #[.func (.yield l) #[] #[]] 83 (0, 0)) :: O) → (∀ p ∈ (z5, Obj.cells #[.int .i64 (ic : Int)] 3 (0, 0)) :: (pz, Obj.cells (parA tx ty V bw bh P st od Y rc so ep) 30 (0, 0)) :: (z4, Obj.cells #[.func (.yield l) #[] #[]] 83 (0, 0)) :: O, p.1 ≠ z9) → pre.length + LY < 20000000 →
      ∀ Q : Exit → Act → World → Prop, (∀ a F' A', PSt J F' (pre ++ layL ⟨0, x.rs, (ic : Int), x.pc, x.dn, x.ac⟩ LY) A' ((z5, Obj.cells #[.int .i64 (ic : Int)] 3 (0, 0)) :: (pz, Obj.cells (parA tx ty V bw bh P st od Y rc so ep) 30 (0, 0)) :: (z4, Obj.cells #[.func (.yield l) #[] #[]] 83 (0, 0)) :: O) → Q .normal a A') → body.wpIn (Fence.wide.inRound (D2 + 1)) 6 Try.prog Q (asgA x z9) A) :
    CallsIn Fence.wide 7 Try.prog 52 (#[.func (.yield (D2 + 1)) #[] #[]] ++ #[.pointer (some ⟨z + 3, 0, none⟩), .pointer (some ⟨z + 4, 0, none⟩), .pointer (some ⟨z + 1, 0, none⟩), .pointer (some ⟨z, 0, none⟩), .pointer (some ⟨z + 2, 0, none⟩)])
      ((w.alloc (.deferred (some []))).alloc (.loop (recL fn tm #[41] asg body D2 .ready none))) (fun e W' => (∃ v, e = .returned v) ∧ W'.heap[D2 + 1]? = some (.loop (recL fn tm #[41] asg body D2 .ready none)) ∧ ∃ F', PSt J F' (pre ++ precL G LY ic r (G.wh ic r)) (W'.putObj (D2 + 1) (.loop (recL fn tm #[41] asg body D2 .exhausted none))) ((D2, Obj.deferred (some [])) :: LL)) := by
  subst hG
  have hlt : ∀ p ∈ (D2, Obj.deferred (some [])) :: LL, p.1 < D2 + 1 := fun p hp => by
    rcases List.mem_cons.1 hp with rfl | hp
    · exact Nat.lt_succ_self _
    · have := hP.size hp; omega
  have hdp := geo_pc (ds := ds) (lv := LV) (pr := PR) (c := ic) (r := r) ht ho (by rw [hd0]; simp only; omega) (by rw [hd0]; simp only; omega)
  rw [hd0, hq] at hdp
  obtain ⟨hpc, hwd, hht⟩ := hdp
  have hqin : inN (q0, q1, q2, q3) 255 := by rw [← hq]; exact rsF_in LV r ht (by simp only; omega) (by simp only; omega)
  have hP1 := (hP.new' hf (.deferred (some [])) hD2).new' hf (.loop (recL fn tm #[41] asg body D2 .ready none)) (k := D2 + 1) (by simp [hD2])
  obtain ⟨W1, hW1⟩ : ∃ W1, (w.alloc (.deferred (some []))).alloc (.loop (recL fn tm #[41] asg body D2 .ready none)) = W1 := ⟨_, rfl⟩
  rw [hW1] at hP1 ⊢
  clear hW1
  have mm : ∀ (o : Obj) (e : Nat × Obj), e ∈ LL → e ∈ (D2 + 1, o) :: (D2, Obj.deferred (some [])) :: LL := fun o e he => List.mem_cons_of_mem _ (List.mem_cons_of_mem _ he)
  have h5 : Five W1 z t0 t1 t2 t3 (q0, q1, q2, q3) cd dx dy cg CD (parA tx ty (LV : Int) bw bh (PR : Int) st od Y rc so ep) (r : Int) := by
    rw [hV0, hP0]
    exact ⟨(hP1.o _ (mm _ _ f0)).1, (hP1.o _ (mm _ _ f1)).1, (hP1.o _ (mm _ _ f2)).1, (hP1.o _ (mm _ _ f3)).1, (hP1.o _ (mm _ _ f4)).1⟩
  have h0 : PSt J F (pre ++ lays LY ic []) W1 ((D2 + 1, (.loop (recL fn tm #[41] asg body D2 .ready none))) :: (D2, Obj.deferred (some [])) :: LL) := by rw [show lays LY ic [] = [] from rfl, List.append_nil]; exact hP1
  refine (precincts1_in 7 (by omega) (D2 + 1) z t0 t1 t2 t3 (q0, q1, q2, q3) cd dx dy cg CD tx ty bw bh st od Y rc so ep LV PR r (wdF (t0, t1, t2, t3) ds LV PR ic r) (htF (t0, t1, t2, t3) ds LV PR ic r) ht.1 ht.2.1 hqin hdx hdy hlv hpr hr hpc hwd hht
    (fun ys A => ∃ F, PSt J F (pre ++ lays LY ic ys) A ((D2 + 1, (.loop (recL fn tm #[41] asg body D2 .ready none))) :: (D2, Obj.deferred (some [])) :: LL)) (fun _ _ => False) ?hg ?hY W1 h5 ⟨F, h0⟩).mono ?fin
  case hg =>
    rintro ys A A' ⟨F1, h1⟩ hgr
    exact ⟨F1, h1.below hf (below_of_grown hgr)⟩
  case hY =>
    rintro ys x A ⟨F1, h1⟩ hys
    have hl := (h1.o _ List.mem_cons_self).1
    refine YieldAt.mono (yield_pk (ps := #[41]) (m := 6) (Post := fun A' => (∃ F', PSt J F' (pre ++ lays LY ic (ys ++ [x])) A' ((D2 + 1, (.loop (recL fn tm #[41] asg body D2 .ready none))) :: (D2, Obj.deferred (some [])) :: LL)) ∧ Keep5 z A A') rfl hl (asgA x A.heap.size) (hasg x A) ?_) (fun e A' h => .inl ⟨h.1, h.2⟩)
    have hne1 : ∀ p ∈ (A.heap.size, Obj.cells x.arr 66 (0, 0)) :: (D2, Obj.deferred (some [])) :: LL, p.1 ≠ D2 + 1 := fun p hp => by
      rcases List.mem_cons.1 hp with rfl | hp
      · have := h1.size List.mem_cons_self; simp only at this ⊢; omega
      · have := hlt p hp; omega
    have h2 := h1.new hf (.cells x.arr 66)
    have h3 : PSt J F1 (pre ++ lays LY ic ys) ((A.alloc (.cells x.arr 66)).putObj (D2 + 1) (.loop (recL fn tm #[41] asg body D2 .busy none))) ((D2 + 1, (.loop (recL fn tm #[41] asg body D2 .busy none))) :: (A.heap.size, Obj.cells x.arr 66 (0, 0)) :: (D2, Obj.deferred (some [])) :: LL) :=
      PSt.turn hf (.loop (recL fn tm #[41] asg body D2 .busy none)) (h2.sub (O' := (D2 + 1, (.loop (recL fn tm #[41] asg body D2 .ready none))) :: (A.heap.size, Obj.cells x.arr 66 (0, 0)) :: (D2, Obj.deferred (some [])) :: LL) (fun p hp => by simp only [List.mem_cons] at hp ⊢; rcases hp with h | h | h | h <;> simp [h])) hne1
    have hsz := h1.size List.mem_cons_self
    refine hbody x A.heap.size F1 (pre ++ lays LY ic ys) _ ((D2 + 1, (.loop (recL fn tm #[41] asg body D2 .busy none))) :: (D2, Obj.deferred (some [])) :: LL) (h3.sub (fun p hp => by
      simp only [List.mem_cons] at hp ⊢
      rcases hp with h | h | h | h | h | h | h
      · simp [h]
      · rw [h]; exact .inr (.inr (.inr m5))
      · rw [h]; exact .inr (.inr (.inr mp))
      · rw [h]; exact .inr (.inr (.inr m4))
      · simp [h]
      · simp [h]
      · simp [h])) ?_ ?_ _ ?_
    · intro p hp
      have hlt2 : p.1 < A.heap.size := by
        simp only [List.mem_cons] at hp
        rcases hp with h | h | h | h | h | h
        · rw [h]; exact h1.size (mm _ _ m5)
        · rw [h]; exact h1.size (mm _ _ mp)
        · rw [h]; exact h1.size (mm _ _ m4)
        · rw [h]; exact hsz
        · rw [h]; exact h1.size (List.mem_cons_of_mem _ List.mem_cons_self)
        · exact h1.size (mm _ _ h)
      omega
    · have h65 : wdF (t0, t1, t2, t3) ds LV PR ic r * htF (t0, t1, t2, t3) ds LV PR ic r ≤ 255 * 255 := Nat.mul_le_mul hwd hht
      have hfl := flatMap_le (fun x : Pk => layL ⟨0, x.rs, (ic : Int), x.pc, x.dn, x.ac⟩ LY) LY ys (fun x _ => Nat.le_of_eq (layL_len _ _))
      have h8 : ys.length * LY ≤ 65025 * 8 := Nat.mul_le_mul (by omega) hly
      rw [List.length_append]
      unfold lays
      omega
    · intro a F' A3 h4
      have h5' : PSt J F' (pre ++ lays LY ic (ys ++ [x])) A3 ((D2 + 1, (.loop (recL fn tm #[41] asg body D2 .busy none))) :: (D2, Obj.deferred (some [])) :: LL) := by
        have := h4.sub (O' := (D2 + 1, (.loop (recL fn tm #[41] asg body D2 .busy none))) :: (D2, Obj.deferred (some [])) :: LL) (fun p hp => by simp only [List.mem_cons] at hp ⊢; rcases hp with h | h | h <;> simp [h])
        rw [List.append_assoc] at this
        rw [show lays LY ic (ys ++ [x]) = lays LY ic ys ++ layL ⟨0, x.rs, (ic : Int), x.pc, x.dn, x.ac⟩ LY from by simp [lays, List.flatMap_append]]
        exact this
      have h6 : PSt J F' (pre ++ lays LY ic (ys ++ [x])) (A3.putObj (D2 + 1) (.loop (recL fn tm #[41] asg body D2 .ready none))) ((D2 + 1, (.loop (recL fn tm #[41] asg body D2 .ready none))) :: (D2, Obj.deferred (some [])) :: LL) := PSt.turn hf (.loop (recL fn tm #[41] asg body D2 .ready none)) h5' (fun p hp => by have := hlt p hp; omega)
      refine ⟨rfl, (h5'.o _ List.mem_cons_self).1, ⟨F', h6⟩, ?_⟩
      intro j hj
      have kk : ∀ e ∈ LL, (A3.putObj (D2 + 1) (.loop (recL fn tm #[41] asg body D2 .ready none))).heap[e.1]? = A.heap[e.1]? := fun e he => ((h6.o e (mm _ _ he)).1).trans ((h1.o e (mm _ _ he)).1).symm
      obtain rfl | rfl | rfl | rfl | rfl := (by omega : j = 0 ∨ j = 1 ∨ j = 2 ∨ j = 3 ∨ j = 4)
      · exact kk _ f0
      · exact kk _ f1
      · exact kk _ f2
      · exact kk _ f3
      · exact kk _ f4
  case fin =>
    rintro e W2 ⟨hv, ⟨ys, rfl, F2, h7⟩ | ⟨_, _, h⟩⟩
    · refine ⟨hv, (h7.o _ List.mem_cons_self).1, F2, ?_⟩
      have h8 := (PSt.turn hf (.loop (recL fn tm #[41] asg body D2 .exhausted none)) h7 (fun p hp => by have := hlt p hp; omega)).sub (O' := (D2, Obj.deferred (some [])) :: LL) (fun p hp => List.mem_cons_of_mem _ hp)
      rw [show precL (geo (t0, t1, t2, t3) ds LV PR) LY ic r ((geo (t0, t1, t2, t3) ds LV PR).wh ic r) = lays LY ic ((List.range (wdF (t0, t1, t2, t3) ds LV PR ic r * htF (t0, t1, t2, t3) ds LV PR ic r)).map (pkAt t0 t1 (q0, q1, q2, q3) dx dy ((2 ^ PR : Nat) : Int) ((2 ^ (PR + LV - r) : Nat) : Int) (wdF (t0, t1, t2, t3) ds LV PR ic r) (r : Int))) from by
        unfold precL lays
        rw [List.flatMap_map]
        have hpk : ∀ k, (geo (t0, t1, t2, t3) ds LV PR).pk 0 ic r k = ⟨0, (r : Int), (ic : Int), (k : Int), spotF t1 q1 dy ((2 ^ PR : Nat) : Int) ((2 ^ (PR + LV - r) : Nat) : Int) (k / wdF (t0, t1, t2, t3) ds LV PR ic r), spotF t0 q0 dx ((2 ^ PR : Nat) : Int) ((2 ^ (PR + LV - r) : Nat) : Int) (k % wdF (t0, t1, t2, t3) ds LV PR ic r)⟩ := fun k => by
          unfold GE.pk geo
          simp only [hd0, hq]
          rfl
        simp only [hpk]
        rfl]
      exact h8
    · exact h.elim
end Go.Proofs.Ytejoedanhonpkaa
