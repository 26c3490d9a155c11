/- A region that draws its order, its frame kept by name: the slots that its operations fill as a list of (operation, slot, value), whatever else stands in the frame. -/
import Derived.Test.YthcpmonahmogaaaAnyRk
set_option linter.unusedVariables false
set_option linter.unusedSimpArgs false
namespace Go.Proofs.Ythcpmonahmogaaa
open Go.RowKit
/-- The frame behind the operations of L: (operation, slot, value). -/
def many (g : Array Value) (L : Nat → Bool) : List (Nat × Nat × Value) → Array Value
  | [] => g
  | x :: r => bif L x.1 then (many g L r).setIfInBounds x.2.1 x.2.2 else many g L r
def lookM (L : Nat → Bool) : List (Nat × Nat × Value) → Nat → Option Value
  | [], _ => none
  | x :: r, k => bif x.2.1 == k && L x.1 then some x.2.2 else lookM L r k
def manyOk (n : Nat) (v : List (Nat × Nat × Value)) : Prop := (v.all fun x => decide (x.2.1 < n)) = true ∧ (v.map (·.1)).Nodup ∧ (v.map (·.2.1)).Nodup
theorem many_size (g : Array Value) (L : Nat → Bool) : ∀ v, (many g L v).size = g.size
  | [] => rfl
  | x :: r => by
    unfold many
    cases L x.1
    · exact many_size g L r
    · simp [many_size g L r]
theorem many_look (g : Array Value) (L : Nat → Bool) (k : Nat) : ∀ v : List (Nat × Nat × Value), (v.all fun x => decide (x.2.1 < g.size)) = true → (many g L v).getD k undef = (lookM L v k).getD (g.getD k undef)
  | [], _ => rfl
  | x :: r, h => by
    rw [List.all_cons, Bool.and_eq_true, decide_eq_true_eq] at h
    have ih := many_look g L k r h.2
    unfold many lookM
    cases hL : L x.1
    · simpa using ih
    · by_cases hk : x.2.1 = k
      · subst hk
        have hlt : x.2.1 < (many g L r).size := by rw [many_size]; exact h.1
        have e : (x.2.1 == x.2.1) = true := by simp
        show (((many g L r).setIfInBounds x.2.1 x.2.2).getD x.2.1 undef) = (bif (x.2.1 == x.2.1) && true then some x.2.2 else lookM L r x.2.1).getD _
        rw [e, Array.getD_eq_getD_getElem?, Array.getElem?_setIfInBounds_self_of_lt hlt]
        rfl
      · have e : (x.2.1 == k) = false := by simpa using hk
        show (((many g L r).setIfInBounds x.2.1 x.2.2).getD k undef) = (bif (x.2.1 == k) && true then some x.2.2 else lookM L r k).getD _
        rw [e, Array.getD_eq_getD_getElem?, Array.getElem?_setIfInBounds_ne hk, ← Array.getD_eq_getD_getElem?]
        exact ih
theorem many_eval {g : Array Value} {L : Nat → Bool} {n : Nat} {v : List (Nat × Nat × Value)} (hn : g.size = n) (hv : (v.all fun x => decide (x.2.1 < n)) = true) {k : Nat} {u : Value} (h : lookM L v k = some u) : (many g L v)[k]?.getD undef = u := by
  rw [← Array.getD_eq_getD_getElem?, many_look g L k v (by rw [hn]; exact hv), h]
  rfl
theorem many_out {g : Array Value} {L : Nat → Bool} {n : Nat} {v : List (Nat × Nat × Value)} (hn : g.size = n) (hv : (v.all fun x => decide (x.2.1 < n)) = true) {k : Nat} {u : Value} (h : lookM L v k = none) (hk : g.getD k undef = u) : (many g L v)[k]?.getD undef = u := by
  rw [← Array.getD_eq_getD_getElem?, many_look g L k v (by rw [hn]; exact hv), h]
  exact hk
theorem many_upd_out (g : Array Value) (L : Nat → Bool) (i : Nat) : ∀ v : List (Nat × Nat × Value), i ∉ v.map (·.1) → many g (upd L i) v = many g L v
  | [], _ => rfl
  | x :: r, h => by
    simp only [List.map_cons, List.mem_cons, not_or] at h
    unfold many
    rw [upd_ne L (fun e => h.1 e.symm), many_upd_out g L i r h.2]
theorem many_set (g : Array Value) (L : Nat → Bool) (i d : Nat) (u : Value) : ∀ v : List (Nat × Nat × Value), (i, d, u) ∈ v → L i = false → (v.map (·.1)).Nodup → (v.map (·.2.1)).Nodup → (many g L v).setIfInBounds d u = many g (upd L i) v
  | [], h, _, _, _ => by cases h
  | x :: r, h, hL, h1, h2 => by
    rw [List.map_cons, List.nodup_cons] at h1 h2
    rcases List.mem_cons.1 h with h | h
    · subst h
      show (bif L i then _ else _ : Array Value).setIfInBounds d u = bif upd L i i then _ else _
      rw [hL, upd_self, many_upd_out g L i r h1.1]
      rfl
    · have ih := many_set g L i d u r h hL h1.2 h2.2
      have hd : x.2.1 ≠ d := fun e => h2.1 (by rw [e]; exact List.mem_map.2 ⟨(i, d, u), h, rfl⟩)
      have hi : x.1 ≠ i := fun e => h1.1 (by rw [e]; exact List.mem_map.2 ⟨(i, d, u), h, rfl⟩)
      unfold many
      rw [upd_ne L hi]
      cases L x.1
      · exact ih
      · show ((many g L r).setIfInBounds x.2.1 x.2.2).setIfInBounds d u = (many g (upd L i) r).setIfInBounds x.2.1 x.2.2
        rw [← ih]
        exact Array.setIfInBounds_comm _ _ hd
theorem many_put {g : Array Value} {L : Nat → Bool} {v : List (Nat × Nat × Value)} {df : List Deferred} {n : Nat} (ok : manyOk n v) (i d : Nat) (u : Value) (h : (i, d, u) ∈ v) (hL : L i = false) : Act.put ⟨many g L v, df⟩ (some d) u = ⟨many g (upd L i) v, df⟩ := by
  show Act.mk ((many g L v).setIfInBounds d u) df = _
  rw [many_set g L i d u v h hL ok.2.1 ok.2.2]
theorem many_none {g : Array Value} {L : Nat → Bool} {v : List (Nat × Nat × Value)} {df : List Deferred} (i : Nat) (u : Value) (h : i ∉ v.map (·.1)) : Act.put ⟨many g L v, df⟩ none u = ⟨many g (upd L i) v, df⟩ := by
  rw [many_upd_out g L i v h]
  rfl
theorem many_all (g : Array Value) (L L' : Nat → Bool) : ∀ v : List (Nat × Nat × Value), (∀ x ∈ v, L x.1 = L' x.1) → many g L v = many g L' v
  | [], _ => rfl
  | x :: r, h => by
    unfold many
    rw [h x (List.mem_cons_self), many_all g L L' r (fun y hy => h y (List.mem_cons_of_mem _ hy))]
/-- The same over lists, for the end. -/
def manyL (g : List Value) : List (Nat × Nat × Value) → List Value
  | [] => g
  | x :: r => (manyL g r).set x.2.1 x.2.2
theorem many_list (g : List Value) : ∀ v, many g.toArray (fun _ => true) v = (manyL g v).toArray
  | [] => rfl
  | x :: r => by
    show (many g.toArray (fun _ => true) r).setIfInBounds x.2.1 x.2.2 = ((manyL g r).set x.2.1 x.2.2).toArray
    rw [many_list g r]
    simp
theorem many_no (g : Array Value) : ∀ v : List (Nat × Nat × Value), many g (fun _ => false) v = g
  | [] => rfl
  | x :: r => by
    show many g (fun _ => false) r = g
    exact many_no g r
section
variable {F : Fence} {n : Nat} {P : Program} {ops : Array Oper} {Q : Exit → Act → World → Prop}
/-- The region, its frame by name: Z what the values may hang on, facts what is known of the frame. -/
theorem regionIn_many {id N : Nat} {Z : Type} {fl : List Value} {df : List Deferred} {w : World} (vals : Z → List (Nat × Nat × Value)) (Ph : (Nat → Bool) → Z → World → Prop) (facts : List (Nat × Value))
    (hm : P.follows .mixedOrders = true) (hback : backA ops = true) (hN : fl.length = N) (hf : ∀ p ∈ facts, fl.getD p.1 undef = p.2)
    (hv : ∀ z, ∀ x ∈ vals z, x.1 < ops.size)
    (z0 : Z) (h0 : Ph (fun _ => false) z0 w.drew)
    (hstep : ∀ g : Array Value, g.size = N → (∀ p ∈ facts, g.getD p.1 undef = p.2) → ∀ i, i < ops.size → ∀ L (z : Z) w', Ph L z w' → Shut .any ops L → Up .any ops L i → wpOpIn F n P ops Q i (fun a' w' => ∃ z, a' = ⟨many g (upd L i) (vals z), df⟩ ∧ Ph (upd L i) z w') ⟨many g L (vals z), df⟩ w')
    (hdone : ∀ L (z : Z) w', (∀ i, i < ops.size → L i = true) → Ph L z w' → Q .normal ⟨(manyL fl (vals z)).toArray, df⟩ w') : (Code.region id ops true).wpIn F n P Q ⟨fl.toArray, df⟩ w :=
  regionIn_a (Inv := fun L a' w' => ∃ z, a' = ⟨many fl.toArray L (vals z), df⟩ ∧ Ph L z w') hm hback ⟨z0, by rw [many_no], h0⟩
    (fun i hi L a' w' hI hs hu => by
      obtain ⟨z, rfl, hp⟩ := hI
      exact hstep fl.toArray (by simpa using hN) (fun p hp => by have := hf p hp; simpa [List.getD_eq_getElem?_getD] using this) i hi L z w' hp hs hu)
    (fun L a' w' hall hI => by
      obtain ⟨z, rfl, hp⟩ := hI
      rw [many_all fl.toArray L (fun _ => true) (vals z) (fun x hx => hall _ (hv z x hx)), many_list]
      exact hdone L z w' hall hp)
end
section
variable {F : Fence} {n : Nat} {P : Program} {ops : Array Oper} {Q : Exit → Act → World → Prop}
theorem many_some {g : Array Value} {L : Nat → Bool} {n : Nat} {v : List (Nat × Nat × Value)} {k : Nat} {u : Value} (hn : g.size = n) (hk : k < n) (h : (many g L v)[k]?.getD undef = u) : (many g L v)[k]? = some u := by
  rw [Array.getElem?_eq_getElem (by rw [many_size, hn]; exact hk)] at h ⊢
  exact congrArg some h
theorem opIn_run_g {i j : Nat} {b : Bool} {o : Oper} {a : Act} {w w' : World} {K : Act → World → Prop} {v : Value} (hi : ops[i]? = some o) (hg : o.guard = some (j, b)) (hy : yielded ops a.tmps j = some b) (hd : ∀ c, o.op ≠ .defer c) (hF : ∀ f, F.fn f)
    (hrun : (execOp a.eval o).run P w = .ok (.value v) w') (hK : K (a.put o.dst v) w') : wpOpIn F n P ops Q i K a w := by
  unfold wpOpIn
  simp only [hi]
  rw [if_pos (by simp [Region.wanted, hg, hy])]
  refine ⟨fun f _ => hF f, ?_⟩
  rw [Oper.semAt_eq _ _ _ hd, hrun]
  exact hK
theorem opIn_call_g {i j : Nat} {b : Bool} {o : Oper} {a : Act} {w w' : World} {K : Act → World → Prop} {f : FuncId} {args : Array Value} (hi : ops[i]? = some o) (hg : o.guard = some (j, b)) (hy : yielded ops a.tmps j = some b) (hd : ∀ c, o.op ≠ .defer c) (hF : ∀ f, F.fn f) (hdp : F.depth = none)
    (hrun : (execOp a.eval o).run P w = .ok (.enter f args) w') (hc : CallsIn F (n - 1) P f args w' fun e w'' => ∃ v, e = .returned v ∧ K (a.put o.dst v) w'') : wpOpIn F n P ops Q i K a w := by
  unfold wpOpIn
  simp only [hi]
  rw [if_pos (by simp [Region.wanted, hg, hy])]
  refine ⟨fun f _ => hF f, ?_⟩
  rw [Oper.semAt_eq _ _ _ hd, hrun]
  refine ⟨(fun h => by rw [hdp] at h; cases h), hc.mono ?_⟩
  rintro e w'' ⟨v, rfl, hk⟩
  exact hk
end
theorem run_store_many {P : Program} {tmps : Array Value} {df : List Deferred} {ty : TypeId} {kx ky : Nat} {d : Option Tmp} {tt : TypeId} {ps : String} {af : Array Edge} {gd : Option (Nat × Bool)} {w : World} {g : Nat} {cells old : Array Value} {t : TypeId} (hx : tmps[kx]?.getD undef = .pointer (some ⟨g, 0, none⟩)) (hy : tmps[ky]?.getD undef = .agg cells)
    (hg : w.heap[g]? = some (.cells old t (0, 0))) (hi : (P.info? ty).map (·.size) = some cells.size) (hold : old.size = cells.size) (h1 : cells.all (·.oneCell') = true) :
    (execOp (Act.eval ⟨tmps, df⟩) ⟨d, .store ty (.tmp kx) (.tmp ky), tt, ps, af, gd⟩).run P w = .ok .skip (w.setRow g cells) := by
  have hx' : Act.eval ⟨tmps, df⟩ (.tmp kx) = .pointer (some ⟨g, 0, none⟩) := (Array.getD_eq_getD_getElem? ..).trans hx
  have hy' : Act.eval ⟨tmps, df⟩ (.tmp ky) = .agg cells := (Array.getD_eq_getD_getElem? ..).trans hy
  unfold execOp
  simp only [hx', hy', Instr.storeAt, Instr.sureAddr, Sem.run_bind, Sem.run_pure, Result.andThen_ok, run_storeVar_row w g t ty old cells hg hi hold h1]
end Go.Proofs.Ythcpmonahmogaaa
