/- MqEncodes: a context that may be none. -/
import Derived.Test.YtdgkeghgfibolaaDoorMqSm
import Derived.Test.YtdgkeghgfibolaaDoorMqBk
set_option linter.unusedVariables false
set_option linter.unusedSimpArgs false
namespace Go.Proofs.YtdgkeghgfibolaaDoor
open Go.RowKit

def sEi (e : E) (cx : List Nat) (K : Int) (b : Nat) : E := if 0 ≤ K ∧ K < 19 then sE e cx K.toNat b else e
def sCi (e : E) (cx : List Nat) (K : Int) (b : Nat) : List Nat := if 0 ≤ K ∧ K < 19 then sC e cx K.toNat b else cx
theorem sEi_fine {e : E} {cx : List Nat} (f : Fine e) (h : COk cx) (K : Int) (b : Nat) : Fine (sEi e cx K b) := by
  unfold sEi; split
  · rename_i h2; exact sE_fine f h (by omega) b
  · exact f
theorem sCi_ok {e : E} {cx : List Nat} (h : COk cx) (K : Int) (b : Nat) : COk (sCi e cx K b) := by
  unfold sCi; split
  · rename_i h2; exact sC_ok h (by omega) b
  · exact h
theorem sEi_len (e : E) (cx : List Nat) (K : Int) (b : Nat) : (sEi e cx K b).pre.length ≤ e.pre.length + 16 := by
  unfold sEi; split
  · exact sE_len _ _ _ _
  · omega
theorem set_self {α : Type} {ts : List α} {i : Nat} {t : α} (h : ts[i]? = some t) : ts.set i t = ts := by
  apply List.ext_getElem?
  intro n
  rw [List.getElem?_set]
  split
  · rename_i e; subst e; split
    · exact h.symm
    · rename_i h2; rw [List.getElem?_eq_none (by omega)]
  · rfl
section
variable {lo : Nat} {w : World} {ts : List Th} {i j p q b : Nat} {e : E} {cx : List Nat}
theorem Hs.enci (h : Hs lo w ts) (hlo : lo ≤ w.heap.size) (h0 : 0 < lo) (hT : Tab w) (hi : ts[i]? = some (.m p e)) (hj : ts[j]? = some (.c q cx)) (hij : i ≠ j) (ok : COk cx) (f : Fine e) (hb : b < 2) (hml : e.pre.length ≤ 70000) (K : Int) :
    Calls Tryd.prog 19 #[.pointer (some ⟨p, 0, none⟩), .pointer (some ⟨q, 0, none⟩), .int .i64 K, .int .i64 (b : Int)] w fun x w' => x = .returned (.tuple #[]) ∧ Hs lo w' ((ts.set i (.m p (sEi e cx K b))).set j (.c q (sCi e cx K b))) ∧ Below lo w w' := by
  unfold sEi sCi
  split
  · rename_i hK
    obtain ⟨k, rfl⟩ : ∃ k : Nat, K = (k : Int) := ⟨K.toNat, by omega⟩
    exact h.enc hlo h0 hT hi hj hij ok f (by omega) (by omega) hml
  · rename_i hK
    refine (encode_none (w := w) (p := p) (q := q) (k := K) (b := (b : Int)) (by omega)).mono ?_
    rintro x w' ⟨rfl, rfl⟩
    rw [set_self hi, set_self hj]
    exact ⟨rfl, h, Below.refl _ _⟩
theorem Hs.renci (h : Hs lo w ts) (hlo : lo ≤ w.heap.size) (hi : ts[i]? = some (.r p e)) (hj : ts[j]? = some (.d q cx)) (hij : i ≠ j) (ok : COk cx) (f : Fine e) (hb : b < 2) (hml : e.pre.length ≤ 70000) (K : Int) :
    Calls Tryd.prog 20 #[.pointer (some ⟨p, 0, none⟩), .pointer (some ⟨q, 0, none⟩), .int .i64 K, .int .i64 (b : Int)] w fun x w' => x = .returned (.tuple #[]) ∧ Hs lo w' ((ts.set i (.r p (sEi e cx K b))).set j (.d q (sCi e cx K b))) ∧ Below lo w w' := by
  unfold sEi sCi
  split
  · rename_i hK
    obtain ⟨k, rfl⟩ : ∃ k : Nat, K = (k : Int) := ⟨K.toNat, by omega⟩
    exact h.renc hlo hi hj hij ok f (by omega) (by omega) hml
  · rename_i hK
    refine (rencode_none (w := w) (p := p) (q := q) (k := K) (b := (b : Int)) (by omega)).mono ?_
    rintro x w' ⟨rfl, rfl⟩
    rw [set_self hi, set_self hj]
    exact ⟨rfl, h, Below.refl _ _⟩
end
theorem wpList_load_row_g {P : Program} {ops : Array Oper} {rest : List Oper} {o : Oper} {a : Act} {w : World} {Q : Exit → Act → World → Prop} (hw : Region.wanted o (yielded ops a.tmps) = true) (ty : TypeId) (x : Operand) (ho : o.op = .load ty x)
    (g : Nat) (hx : a.eval x = .pointer (some ⟨g, 0, none⟩)) (t : TypeId) (cs : Array Value) (fr : Nat × Nat) (d : TypeDesc) (hg : w.heap[g]? = some (.cells cs t fr))
    (hu : P.underlying ty = some d) (hd : (match d with | .struct _ | .array _ _ => true | _ => false) = true) (hi : (P.info? ty).map (·.size) = some cs.size)
    (h : wpList P ops Q rest (a.put o.dst (.agg cs)) w) : wpList P ops Q (o :: rest) a w :=
  wpList_step fun K hK => by rw [if_pos hw]; exact wp_load_row ty x ho g hx t cs fr d hg hu hd hi (hK _ _ h)
/-- The same with what the law's end asks of the world. -/
def Ph (lo : Nat) (W : World) (ts : List Th) (w : World) : Prop := Hs lo w ts ∧ Below W.heap.size W w ∧ lo ≤ w.heap.size
section
variable {lo : Nat} {W w : World} {ts : List Th} {i p : Nat} {e : E} {V : Value} {l : List Nat}
theorem Ph.flush (h : Ph lo W ts w) (hW : W.heap.size ≤ lo) (hi : ts[i]? = some (.m p e)) (f : Fine e) (hml : e.pre.length ≤ 70000) :
    Calls Tryd.prog 24 #[.pointer (some ⟨p, 0, none⟩)] w fun x w' => ∃ V, x = .returned V ∧ Ph lo W (ts.set i (.b V (mCode e))) w' := by
  refine (h.1.flush h.2.2 hi f hml).mono ?_
  rintro x w' ⟨V, rfl, hs, b⟩
  exact ⟨V, rfl, hs, h.2.1.trans (b.mono hW), Nat.le_trans h.2.2 b.size⟩
theorem Ph.rflush (h : Ph lo W ts w) (hW : W.heap.size ≤ lo) (hi : ts[i]? = some (.r p e)) (f : Fine e) (hml : e.pre.length ≤ 70000) :
    Calls Tryd.prog 25 #[.pointer (some ⟨p, 0, none⟩)] w fun x w' => ∃ V, x = .returned V ∧ Ph lo W (ts.set i (.b V (mCode e))) w' := by
  refine (h.1.rflush h.2.2 hi f hml).mono ?_
  rintro x w' ⟨V, rfl, hs, b⟩
  exact ⟨V, rfl, hs, h.2.1.trans (b.mono hW), Nat.le_trans h.2.2 b.size⟩
end
end Go.Proofs.YtdgkeghgfibolaaDoor
