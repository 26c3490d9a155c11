/- Slices of a call's own that grow in turn, and the one-cell blocks of the values to be appended. -/
import Derived.Test.YthcpmonahmogaaaAnyInv
import Derived.Test.YthcpmonahmogaaaOnly
import Derived.Maps.AppendAt
import Derived.RangeFuncBox
set_option linter.unusedVariables false
namespace Go.Proofs.Ythcpmonahmogaaa
open Go.RowKit

/-- What append comes to, as one word: so that the walk leaves it whole till its equation is at hand. -/
def appSem (ts : Array TypeId) (ty : TypeId) (args : Array Value) : Sem Value := Builtin.append_ ts ty args
theorem appSem_eq {ts : Array TypeId} {ty : TypeId} {args : Array Value} : Builtin.append_ ts ty args = appSem ts ty args := rfl

/-- Slices V 0, V 1, .. below K, each alone in its block, from block N on. -/
structure Grow (N : Nat) (w0 w : World) (V : Nat → Value) (X : Nat → List Int) (K : Nat) : Prop where
  own : ∀ i, i < K → w.ownsRow N 3 1 (V i) (X i).length ((X i).map (Value.int .i64))
  dis : ∀ i j, i < K → j < K → i ≠ j → ∀ g, (V i).ownBlock = some g → (V j).ownBlock ≠ some g
  bel : Below N w0 w
  siz : N ≤ w0.heap.size
/-- A block with one number, which is no slice's. -/
structure Temp (w : World) (V : Nat → Value) (K : Nat) (b : Nat) (x : Int) : Prop where
  blk : w.heap[b]? = some (.cells #[.int .i64 x] 3 (0, 0))
  dis : ∀ i, i < K → (V i).ownBlock ≠ some b
def put1 {α : Type} (V : Nat → α) (i : Nat) (v : α) : Nat → α := fun j => if j = i then v else V j
theorem put1_self {α : Type} (V : Nat → α) (i : Nat) (v : α) : put1 V i v i = v := by simp [put1]
theorem put1_ne {α : Type} (V : Nat → α) {i j : Nat} (v : α) (h : j ≠ i) : put1 V i v j = V j := by simp [put1, h]
section
variable {N K : Nat} {w0 w : World} {V : Nat → Value} {X : Nat → List Int}
theorem Grow.drew (h : Grow N w0 w V X K) : Grow N w0 w.drew V X K := ⟨h.own, h.dis, below_drewN h.bel 1, h.siz⟩
theorem Grow.drewN (h : Grow N w0 w V X K) (n : Nat) : Grow N w0 (w.drewN n) V X K := ⟨h.own, h.dis, below_drewN h.bel n, h.siz⟩
theorem Grow.alloc (h : Grow N w0 w V X K) (o : Obj) : Grow N w0 (w.alloc o) V X K := ⟨fun i hi => (h.own i hi).alloc o, h.dis, h.bel.alloc (Nat.le_trans h.siz h.bel.size) o, h.siz⟩
theorem Temp.drew {b : Nat} {x : Int} (h : Temp w V K b x) : Temp w.drew V K b x := ⟨h.blk, h.dis⟩
theorem Temp.alloc {b : Nat} {x : Int} (h : Temp w V K b x) (o : Obj) : Temp (w.alloc o) V K b x := ⟨(Below.heap_alloc w o b (Array.getElem?_eq_some_iff.1 h.blk).1).trans h.blk, h.dis⟩
theorem Temp.new (h : Grow N w0 w V X K) (x : Int) : Temp (w.alloc (.cells #[.int .i64 x] 3)) V K w.heap.size x := ⟨World.alloc_heap_new w _, fun i hi e => by have := (own_lt (h.own i hi) e).2; omega⟩
theorem Temp.newD (h : Grow N w0 w V X K) (x : Int) : Temp (w.drew.alloc (.cells #[.int .i64 x] 3)) V K w.heap.size x := ⟨World.alloc_heap_new w _, fun i hi e => by have := (own_lt (h.own i hi) e).2; omega⟩
theorem Temp.cell {b : Nat} {x : Int} (h : Temp w V K b x) : w.cell? ⟨b, 0, none⟩ = some (.int .i64 x) := by simp [World.cell?, h.blk]
theorem Grow.nil (w : World) (K : Nat) : Grow w.heap.size w w (fun _ => .slice none 0 0) (fun _ => []) K :=
  ⟨fun _ _ => World.ownsRow_nil _ _ _ _, fun _ _ _ _ _ g h => by simp [Value.ownBlock] at h, Below.refl _ _, Nat.le_refl _⟩
/-- One of them grows by the number in a block of its own. -/
theorem Grow.app (h : Grow N w0 w V X K) {i : Nat} (hi : i < K) {b : Nat} {x : Int} (hT : Temp w V K b x) (hl : (X i).length ≤ 100000) :
    ∃ g c w', (appSem #[27, 27] 27 #[V i, .slice (some ⟨b, 0, none⟩) 1 1]).run Try.prog w = .ok (.slice (some ⟨g, 0, none⟩) ((X i).length + 1) c) w' ∧
      Grow N w0 w' (put1 V i (.slice (some ⟨g, 0, none⟩) ((X i).length + 1) c)) (put1 X i (X i ++ [x])) K ∧
      (∀ b' x', Temp w V K b' x' → Temp w' (put1 V i (.slice (some ⟨g, 0, none⟩) ((X i).length + 1) c)) K b' x') ∧ w.heap.size ≤ w'.heap.size := by
  obtain ⟨i0, e1, z0, z1, z2⟩ := info_parts Try.info3
  have hNw : N ≤ w.heap.size := Nat.le_trans h.siz h.bel.size
  obtain ⟨v', w', hr, hown, hgrow, _, hat⟩ := run_append_own_at (P := Try.prog) w N 27 27 3 i0 (.int .i64 0) 1 8 Try.underlying27 e1 z0 z1 z2 rfl (by decide) (V i) (X i).length _ (h.own i hi) ⟨b, 0, none⟩ 1 1 [.int .i64 x] rfl
    (fun j u hu => by
      rcases j with _ | j
      · simp at hu; subst hu; simpa [Addr.add] using hT.cell
      · simp at hu) (by simp [Value.oneCell']) (by unfold maxLen; omega) (by omega) hNw
  obtain ⟨g, c, rfl⟩ := ownsRow_succ hown
  have hg : N ≤ g ∧ g < w'.heap.size := own_lt hown rfl
  have hat' : (V i).ownBlock = some g ∨ g = w.heap.size := by
    rcases hat with e | e
    · left; rw [← e]; rfl
    · right; simpa [Value.ownBlock] using e
  have hoth : ∀ j, j < K → j ≠ i → ∀ q, (V j).ownBlock = some q → w'.heap[q]? = w.heap[q]? := fun j hj hji q hq =>
    hgrow.block q (own_lt (h.own j hj) hq).2 (fun e => h.dis j i hj hi hji q hq e.symm)
  refine ⟨g, c, w', hr, ⟨fun j hj => ?_, fun j k hj hk hjk q hq => ?_, h.bel.grown hgrow (Nat.le_trans h.siz h.bel.size) fun q e => (own_lt (h.own i hi) e).1, h.siz⟩, fun b' x' ht => ⟨?_, fun j hj => ?_⟩, hgrow.size⟩
  · by_cases hji : j = i
    · subst hji
      rw [put1_self, put1_self]
      simpa using hown
    · rw [put1_ne _ _ hji, put1_ne _ _ hji]
      exact ownsRow_keep (h.own j hj) hgrow.size fun q hq => hoth j hj hji q hq
  · by_cases hji : j = i
    · subst hji
      rw [put1_self] at hq
      rw [put1_ne _ _ (fun e => hjk e.symm)]
      obtain rfl : g = q := by simpa [Value.ownBlock] using hq
      rcases hat' with e | e
      · exact h.dis j k hj hk hjk g e
      · intro e2; have := (own_lt (h.own k hk) e2).2; omega
    · rw [put1_ne _ _ hji] at hq
      by_cases hki : k = i
      · subst hki
        rw [put1_self]
        intro e2
        obtain rfl : g = q := by simpa [Value.ownBlock] using e2
        rcases hat' with e | e
        · exact h.dis j k hj hk hjk g hq e
        · have := (own_lt (h.own j hj) hq).2; omega
      · rw [put1_ne _ _ hki]
        exact h.dis j k hj hk hjk q hq
  · exact (hgrow.block b' (Array.getElem?_eq_some_iff.1 ht.blk).1 (fun e => ht.dis i hi e.symm)).trans ht.blk
  · by_cases hji : j = i
    · subst hji
      rw [put1_self]
      intro e2
      obtain rfl : g = b' := by simpa [Value.ownBlock] using e2
      rcases hat' with e | e
      · exact ht.dis j hj e
      · have := (Array.getElem?_eq_some_iff.1 ht.blk).1; omega
    · rw [put1_ne _ _ hji]
      exact ht.dis j hj
end
def sel3 {α : Type} (a b c : α) : Nat → α := fun j => if j = 0 then a else if j = 1 then b else c
theorem sel3_put0 {α : Type} (a b c x : α) : put1 (sel3 a b c) 0 x = sel3 x b c := by
  funext j; unfold put1 sel3; by_cases h : j = 0 <;> simp [h]
theorem sel3_put1 {α : Type} (a b c x : α) : put1 (sel3 a b c) 1 x = sel3 a x c := by
  funext j; unfold put1 sel3; by_cases h : j = 1 <;> simp [h]
theorem sel3_put2 {N K : Nat} {w0 w : World} {V : Nat → Value} {a b c x : List Int} (h : Grow N w0 w V (put1 (sel3 a b c) 2 x) K) (hK : K ≤ 3) : Grow N w0 w V (sel3 a b x) K := by
  have e : ∀ i, i < 3 → put1 (sel3 a b c) 2 x i = sel3 a b x i := by
    intro i hi
    rcases i with _ | _ | _ | i
    · rfl
    · rfl
    · rfl
    · omega
  exact ⟨fun i hi => by rw [← e i (by omega)]; exact h.own i hi, h.dis, h.bel, h.siz⟩
theorem Grow.nil3 (w : World) (K : Nat) : Grow w.heap.size w w (sel3 (.slice none 0 0) (.slice none 0 0) (.slice none 0 0)) (sel3 [] [] []) K := by
  have h := Grow.nil w K
  have e1 : (sel3 (.slice none 0 0) (.slice none 0 0) (.slice none 0 0) : Nat → Value) = fun _ => .slice none 0 0 := by funext j; unfold sel3; split <;> (try split) <;> rfl
  have e2 : (sel3 [] [] [] : Nat → List Int) = fun _ => [] := by funext j; unfold sel3; split <;> (try split) <;> rfl
  rw [e1, e2]; exact h
theorem Grow.x3 {N K : Nat} {w0 w : World} {V : Nat → Value} {X : Nat → List Int} (h : Grow N w0 w V X K) : Grow N w0 w (sel3 (V 0) (V 1) (V 2)) (sel3 (X 0) (X 1) (X 2)) (min K 3) := by
  have e : ∀ {α : Type} (F : Nat → α) i, i < 3 → sel3 (F 0) (F 1) (F 2) i = F i := by
    intro α F i hi
    rcases i with _ | _ | _ | i
    · rfl
    · rfl
    · rfl
    · omega
  exact ⟨fun i hi => by rw [e V i (by omega), e X i (by omega)]; exact h.own i (by omega), fun i j hi hj => by rw [e V i (by omega), e V j (by omega)]; exact h.dis i j (by omega) (by omega), h.bel, h.siz⟩
theorem Grow.third {N : Nat} {w0 w : World} {a b c c' : Value} {x y z z' : List Int} (h : Grow N w0 w (sel3 a b c) (sel3 x y z) 2) : Grow N w0 w (sel3 a b c') (sel3 x y z') 2 := by
  have e : ∀ {α : Type} (a b c c' : α) i, i < 2 → sel3 a b c' i = sel3 a b c i := by
    intro α a b c c' i hi
    rcases i with _ | _ | i
    · rfl
    · rfl
    · omega
  exact ⟨fun i hi => by rw [e _ _ c c' i hi, e _ _ z z' i hi]; exact h.own i hi, fun i j hi hj => by rw [e _ _ c c' i hi, e _ _ c c' j hj]; exact h.dis i j hi hj, h.bel, h.siz⟩
end Go.Proofs.Ythcpmonahmogaaa
