/- A region's frame by name: the lookups by the table of slots alone, so that each costs one step. -/
import Derived.Test.YtlbfjaifemnkpaaReg2
set_option linter.unusedVariables false
set_option linter.unusedSimpArgs false
namespace Go.Proofs.Ytlbfjaifemnkpaa
def lookV : List (Nat × Nat × Value) → Nat → Option (Nat × Value)
  | [], _ => none
  | x :: r, k => bif Nat.beq x.2.1 k then some (x.1, x.2.2) else lookV r k
theorem lookV_mem : ∀ (v : List (Nat × Nat × Value)) {k i : Nat} {u : Value}, lookV v k = some (i, u) → (i, k, u) ∈ v
  | [], _, _, _, h => by cases h
  | x :: r, k, i, u, h => by
    unfold lookV at h
    cases hb : Nat.beq x.2.1 k
    · rw [hb] at h
      exact List.mem_cons_of_mem _ (lookV_mem r h)
    · rw [hb] at h
      injection h with h
      injection h with h1 h2
      have := Nat.eq_of_beq_eq_true hb
      obtain ⟨a, b, c⟩ := x
      simp only at this h1 h2
      subst this h1 h2
      exact List.mem_cons_self
theorem lookM_none (L : Nat → Bool) : ∀ (v : List (Nat × Nat × Value)) {k : Nat}, lookV v k = none → lookM L v k = none
  | [], _, _ => rfl
  | x :: r, k, h => by
    unfold lookV at h
    cases hb : Nat.beq x.2.1 k
    · rw [hb] at h
      have ih := lookM_none L r (show lookV r k = none from h)
      have e : (x.2.1 == k) = false := by simpa using Nat.ne_of_beq_eq_false hb
      unfold lookM
      rw [e]
      exact ih
    · rw [hb] at h
      cases h
theorem lookM_nin (L : Nat → Bool) : ∀ (v : List (Nat × Nat × Value)) {k : Nat}, k ∉ v.map (·.2.1) → lookM L v k = none
  | [], _, _ => rfl
  | x :: r, k, h => by
    simp only [List.map_cons, List.mem_cons, not_or] at h
    have e : (x.2.1 == k) = false := by simpa using fun e => h.1 e.symm
    unfold lookM
    rw [e]
    exact lookM_nin L r h.2
theorem lookM_at (L : Nat → Bool) : ∀ (v : List (Nat × Nat × Value)) {k i : Nat} {u : Value}, (v.map (·.2.1)).Nodup → lookV v k = some (i, u) → lookM L v k = bif L i then some u else none
  | [], _, _, _, _, h => by cases h
  | x :: r, k, i, u, hn, h => by
    rw [List.map_cons, List.nodup_cons] at hn
    unfold lookV at h
    unfold lookM
    cases hb : Nat.beq x.2.1 k
    · rw [hb] at h
      have e : (x.2.1 == k) = false := by simpa using Nat.ne_of_beq_eq_false hb
      rw [e]
      exact lookM_at L r hn.2 (show lookV r k = _ from h)
    · rw [hb] at h
      injection h with h
      injection h with h1 h2
      have e : (x.2.1 == k) = true := by simpa using Nat.eq_of_beq_eq_true hb
      have e2 : x.2.1 = k := Nat.eq_of_beq_eq_true hb
      rw [e, Bool.true_and, h1, h2]
      cases L i
      · exact lookM_nin L r (e2 ▸ hn.1)
      · rfl
theorem many_eval3 {g : Array Value} {L : Nat → Bool} {n : Nat} {v : List (Nat × Nat × Value)} (hn : g.size = n) (ok : manyOk n v) {k i : Nat} {u : Value} (h : lookV v k = some (i, u)) (hy : L i = true) : (many g L v)[k]?.getD undef = u :=
  many_eval hn ok.1 (by rw [lookM_at L v ok.2.2 h, hy]; rfl)
theorem many_out3 {g : Array Value} {L : Nat → Bool} {n : Nat} {v : List (Nat × Nat × Value)} (hn : g.size = n) (ok : manyOk n v) {k : Nat} {u : Value} (h : lookV v k = none) (hk : g.getD k undef = u) : (many g L v)[k]?.getD undef = u :=
  many_out hn ok.1 (lookM_none L v h) hk
theorem many_out3' {g : Array Value} {L : Nat → Bool} {n : Nat} {v : List (Nat × Nat × Value)} (hn : g.size = n) (ok : manyOk n v) {k i : Nat} {u u' : Value} (h : lookV v k = some (i, u')) (hy : L i = false) (hk : g.getD k undef = u) : (many g L v)[k]?.getD undef = u :=
  many_out hn ok.1 (by rw [lookM_at L v ok.2.2 h, hy]; rfl) hk
theorem many_put3 {g : Array Value} {L : Nat → Bool} {v : List (Nat × Nat × Value)} {df : List Deferred} {n : Nat} (ok : manyOk n v) {i d : Nat} {u : Value} (h : lookV v d = some (i, u)) (hL : L i = false) : Act.put ⟨many g L v, df⟩ (some d) u = ⟨many g (upd L i) v, df⟩ :=
  many_put ok i d u (lookV_mem v h) hL
def nin (k : Nat) : List Nat → Bool
  | [] => true
  | x :: r => bif Nat.beq x k then false else nin k r
def nodB : List Nat → Bool
  | [] => true
  | x :: r => nin x r && nodB r
def okB (n : Nat) (v : List (Nat × Nat × Value)) : Bool := (v.all fun x => decide (x.2.1 < n)) && (nodB (v.map (·.1)) && nodB (v.map (·.2.1)))
theorem nin_ok : ∀ {k : Nat} (l : List Nat), nin k l = true → k ∉ l
  | _, [], _ => by simp
  | k, x :: r, h => by
    unfold nin at h
    cases hb : Nat.beq x k
    · rw [hb] at h
      have h2 := nin_ok r h
      intro hm
      rcases List.mem_cons.1 hm with e | e
      · subst e
        have : Nat.beq k k = true := Nat.beq_refl k
        rw [this] at hb
        cases hb
      · exact h2 e
    · rw [hb] at h
      cases h
theorem nodB_ok : ∀ l : List Nat, nodB l = true → l.Nodup
  | [], _ => List.nodup_nil
  | x :: r, h => by
    unfold nodB at h
    rw [Bool.and_eq_true] at h
    exact List.nodup_cons.2 ⟨nin_ok r h.1, nodB_ok r h.2⟩
theorem okB_ok {n : Nat} {v : List (Nat × Nat × Value)} (h : okB n v = true) : manyOk n v := by
  unfold okB at h
  rw [Bool.and_eq_true, Bool.and_eq_true] at h
  exact ⟨h.1, nodB_ok _ h.2.1, nodB_ok _ h.2.2⟩
theorem ltB_ok {n : Nat} {v : List (Nat × Nat × Value)} (h : (v.all fun x => Nat.blt x.1 n) = true) : ∀ x ∈ v, x.1 < n := fun x hx => by
  have := List.all_eq_true.1 h x hx
  exact Nat.lt_of_lt_of_le (Nat.lt_succ_self _) (Nat.le_of_ble_eq_true this)
/-- The operations of a region of a function's code. -/
def findOps (k : Nat) : Code → Option (Array Oper)
  | .region i ops _ => bif Nat.beq i k then some ops else none
  | .seq a b => match findOps k a with
    | some o => some o
    | none => findOps k b
  | .cond _ a b => match findOps k a with
    | some o => some o
    | none => findOps k b
  | .block _ a => findOps k a
  | .loop a => findOps k a
  | .scope a => findOps k a
  | .rangeFunc _ _ a b => match findOps k a with
    | some o => some o
    | none => findOps k b
  | _ => none
def regOps (f : Func) (k : Nat) : Array Oper := match f.body with
  | some c => (findOps k c).getD #[]
  | none => #[]
theorem wp_reg {P : Program} {ops ops' : Array Oper} {id : Nat} {b : Bool} {Q : Exit → Act → World → Prop} {fl : List Value} {W : World} (h : ops = ops') (k : (Code.region id ops' b).wp P Q ⟨fl.toArray, []⟩ W) : (Code.region id ops b).wp P Q ⟨fl.toArray, []⟩ W := h ▸ k
end Go.Proofs.Ytlbfjaifemnkpaa
