/- boxes: the reference's boxes in memory; what its Read keeps between two rounds. -/
import Derived.Test.YtfjkfajhfnmjjaaBoxT
import Derived.Test.YtfjkfajhfnmjjaaRget2
import Derived.Test.YtfjkfajhfnmjjaaAnyInv
set_option linter.unusedVariables false
set_option linter.unusedSimpArgs false
namespace Go.Proofs.Ytfjkfajhfnmjjaa
open Go.RowKit
set_option maxRecDepth 100000
/-- A row of a later base is one of an elder base. -/
theorem own_base {w : World} {base b2 : Nat} {e : TypeId} {size n : Nat} {v : Value} {xs : List Value} (h : w.ownsRow base e size v n xs) (hb : b2 ≤ base) : w.ownsRow b2 e size v n xs := by
  refine ⟨h.1, ?_⟩
  rcases h.2 with h | ⟨g, cap, cur, hv, hg, r⟩
  · exact Or.inl h
  · exact Or.inr ⟨g, cap, cur, hv, Nat.le_trans hb hg, r⟩
structure RS (R : Res) (pre : List (List Int × List Int)) (r : List Int) : Prop where
  len : r.length ≤ 100000 ∧ pre.length ≤ 100
  by_ : ∀ x ∈ r, 0 ≤ x ∧ x ≤ 255
  res : ∃ f, r.length < f ∧ R = Res.app pre (rdF f pre.length r)
section
variable {R : Res} {pre : List (List Int × List Int)} {r : List Int}
theorem RS.done (h : RS R pre []) : R = .good pre := by
  obtain ⟨f, hf, hr⟩ := h.res
  obtain ⟨g, rfl⟩ : ∃ g, f = g + 1 := ⟨f - 1, by simp at hf; omega⟩
  rw [hr, rdF, if_pos rfl]
  simp [Res.app]
theorem RS.err (h : RS R pre r) (h0 : r ≠ []) {c : Int} (hn : nxt r = .err c) : R = .bad c := by
  obtain ⟨f, hf, hr⟩ := h.res
  obtain ⟨g, rfl⟩ : ∃ g, f = g + 1 := ⟨f - 1, by omega⟩
  rw [hr, rdF, if_neg h0, hn]
  rfl
theorem RS.many (h : RS R pre r) (h0 : r ≠ []) {k d r' : List Int} (hn : nxt r = .box k d r') (h100 : pre.length = 100) : R = .bad 4 := by
  obtain ⟨f, hf, hr⟩ := h.res
  obtain ⟨g, rfl⟩ : ∃ g, f = g + 1 := ⟨f - 1, by omega⟩
  rw [hr, rdF, if_neg h0, hn]
  simp only
  rw [if_pos h100]
  rfl
theorem RS.next (h : RS R pre r) (h0 : r ≠ []) {k d r' : List Int} (hn : nxt r = .box k d r') (h100 : pre.length < 100) : RS R (pre ++ [(k, d)]) r' := by
  have hb := nxt_box hn
  refine ⟨⟨by have := h.len.1; omega, by simp; omega⟩, fun x hx => h.by_ x (hb.2.1 x hx), ?_⟩
  obtain ⟨f, hf, hr⟩ := h.res
  obtain ⟨g, rfl⟩ : ∃ g, f = g + 1 := ⟨f - 1, by omega⟩
  refine ⟨g, by omega, ?_⟩
  rw [hr, rdF, if_neg h0, hn]
  simp only
  rw [if_neg (by omega), Res.app_app, List.length_append]
  rfl
end
/-- A part of a slice, as a list. -/
theorem Lst.part {w : World} {B : Nat} {A : Option Addr} {bs : List Int} {b o : Nat} (h : Lst w B A (bs.map (Value.int .u8))) (hA : A = some ⟨b, o, none⟩) (i k : Nat) : Lst w B (some ⟨b, o + i, none⟩) (((bs.drop i).take k).map (Value.int .u8)) := by
  have := (h.drop (k := i) hA).take k
  rwa [← List.map_drop, ← List.map_take] at this
theorem bs_some {w : World} {B : Nat} {A : Option Addr} {bs : List Int} (h : Lst w B A (bs.map (Value.int .u8))) (hn : bs ≠ []) : ∃ b o, A = some ⟨b, o, none⟩ ∧ b < B := by
  cases bs with
  | nil => exact absurd rfl hn
  | cons x l =>
    obtain ⟨b, o, e, hb, _⟩ := h 0 (.int .u8 x) rfl
    exact ⟨b, o, e, hb⟩
/-- Boxes in memory. -/
structure BoxQ (w : World) (q : Nat) (V : Value) (bs : List (List Int × List Int)) : Prop where
  ex : ∃ its : List (List Int × List Int × Value), bs = its.map (fun t => (t.1, t.2.1)) ∧ w.ownsRow q 47 2 V its.length (its.flatMap fun t => [.string (strOf t.1), t.2.2]) ∧ ∀ t ∈ its, w.ownsRow q 5 1 t.2.2 t.2.1.length (t.2.1.map (Value.int .u8))
theorem BoxQ.kept {w w' : World} {q : Nat} {V : Value} {bs : List (List Int × List Int)} (h : BoxQ w q V bs) {r : Option Nat} (hg : w.grownBy w' r) (hr : ∀ k, r = some k → k < q) : BoxQ w' q V bs := by
  obtain ⟨its, h1, h2, h3⟩ := h.ex
  exact ⟨its, h1, own_kept h2 hg fun k e => .inl (hr k e), fun t ht => own_kept (h3 t ht) hg fun k e => .inl (hr k e)⟩
theorem BoxQ.len {w : World} {q : Nat} {V : Value} {bs : List (List Int × List Int)} (h : BoxQ w q V bs) : ∃ A c, V = .slice A bs.length c := by
  obtain ⟨its, rfl, h2, h3⟩ := h.ex
  obtain ⟨A, c, rfl, _⟩ := own_any h2
  exact ⟨A, c, by rw [List.length_map]⟩
theorem info47 : (Try.prog.info? 47).map (fun i => (i.zero, i.size, i.bytes)) = some (some (.agg #[.string ⟨#[]⟩, .slice none 0 0]), 2, 40) := by kernel_rfl
theorem BoxQ.app {w : World} {q z : Nat} {V v : Value} {bs : List (List Int × List Int)} {k d : List Int} (h : BoxQ w q V bs) (hv : w.ownsRow q 5 1 v d.length (d.map (Value.int .u8))) (hz : w.heap[z]? = some (.cells #[.string (strOf k), v] 47 (0, 0))) (hb : q ≤ w.heap.size) (hm : bs.length ≤ 1000) :
    ∃ V' w', (appSem #[26, 26] 26 #[V, .slice (some ⟨z, 0, none⟩) 1 1]).run Try.prog w = .ok V' w' ∧ BoxQ w' q V' (bs ++ [(k, d)]) ∧ w.grownBy w' V.ownBlock := by
  obtain ⟨i0, hi, hzz⟩ := Option.map_eq_some_iff.1 info47
  simp only [Prod.mk.injEq] at hzz
  obtain ⟨hz0, hz1, hz2⟩ := hzz
  obtain ⟨its, rfl, h2, h3⟩ := h.ex
  rw [List.length_map] at hm
  obtain ⟨va, vc, rfl, _⟩ := own_any hv
  obtain ⟨v', w', hr, hown', hg, _, hat⟩ := run_append_own_at (P := Try.prog) w q 26 26 47 i0 _ 2 40 (by kernel_rfl) hi hz0 hz1 hz2 rfl (by decide) V its.length _ h2 ⟨z, 0, none⟩ 1 1 [.string (strOf k), .slice va d.length vc] rfl (fun j u hu => by
    rcases j with _ | _ | j
    · simp at hu; subst hu; simp [World.cell?, Addr.add, hz]
    · simp at hu; subst hu; simp [World.cell?, Addr.add, hz]
    · simp at hu) (fun u hu => by
    simp at hu
    rcases hu with rfl | rfl <;> rfl) (by unfold maxLen; omega) (by omega) hb
  have hne : ∀ j, V.ownBlock = some j → ∃ cs t fr, w.heap[j]? = some (.cells cs t fr) ∧ t ≠ 5 := fun j hj => by
    obtain ⟨cs, fr, e⟩ := own_blk h2 hj
    exact ⟨cs, _, fr, e, by decide⟩
  refine ⟨v', w', hr, ⟨its ++ [(k, d, .slice va d.length vc)], by simp, by simpa using hown', fun t ht => ?_⟩, hg⟩
  rcases List.mem_append.1 ht with ht | ht
  · exact own_kept (h3 t ht) hg fun j hj => .inr (hne j hj)
  · obtain rfl : t = (k, d, .slice va d.length vc) := by simpa using ht
    exact own_kept hv hg fun j hj => .inr (hne j hj)
theorem BoxQ.below {w w' : World} {q : Nat} {V : Value} {bs : List (List Int × List Int)} (h : BoxQ w q V bs) (hb : Below w.heap.size w w') : BoxQ w' q V bs :=
  h.kept (r := none) (grown_below hb (Nat.le_refl _)) (fun k e => by cases e)
/-- The i-th box. -/
theorem BoxQ.at {w : World} {q : Nat} {V : Value} {bs : List (List Int × List Int)} (h : BoxQ w q V bs) {i : Nat} (hi : i < bs.length) : ∃ g c va vc, V = .slice (some ⟨g, 0, none⟩) bs.length c ∧ g < w.heap.size ∧ w.cell? ⟨g, i * 2, none⟩ = some (.string (strOf bs[i].1)) ∧ w.cell? ⟨g, i * 2 + 1, none⟩ = some (.slice va bs[i].2.length vc) ∧
    w.ownsRow q 5 1 (.slice va bs[i].2.length vc) bs[i].2.length (bs[i].2.map (Value.int .u8)) := by
  obtain ⟨its, rfl, h2, h3⟩ := h.ex
  rw [List.length_map] at hi
  obtain ⟨g, c, rfl, _⟩ := own_form h2 (by omega)
  have hm := h3 its[i] (List.getElem_mem hi)
  obtain ⟨va, vc, hv, _⟩ := own_any hm
  have key : ∀ (l : List (List Int × List Int × Value)) (i : Nat) (hi : i < l.length), (l.flatMap fun t => [Value.string (strOf t.1), t.2.2])[i * 2]? = some (.string (strOf l[i].1)) ∧ (l.flatMap fun t => [Value.string (strOf t.1), t.2.2])[i * 2 + 1]? = some l[i].2.2 := by
    intro l
    induction l with
    | nil => intro i hi; simp at hi
    | cons t l ih =>
      intro i hi
      cases i with
      | zero => exact ⟨rfl, rfl⟩
      | succ i =>
        have := ih i (by simpa using hi)
        rw [List.flatMap_cons]
        rw [show (i + 1) * 2 = i * 2 + 2 by omega, show i * 2 + 2 + 1 = (i * 2 + 1) + 2 by omega]
        exact this
  obtain ⟨k0, k1⟩ := key its i hi
  have f0 := h2.cellAt (i * 2) (by omega)
  have f1 := h2.cellAt (i * 2 + 1) (by omega)
  simp only [List.getElem_map]
  rw [hv] at hm k1
  exact ⟨g, c, va, vc, by rw [List.length_map], (own_lt h2 (k := g) rfl).2, f0.trans k0, f1.trans k1, hm⟩
set_option maxRecDepth 100000 in
theorem BoxQ.rd {w : World} {q : Nat} {V : Value} {bs : List (List Int × List Int)} (h : BoxQ w q V bs) : BxR w w.heap.size V bs := by
  obtain ⟨A, c, rfl⟩ := h.len
  refine ⟨A, c, rfl, fun i k d e => ?_⟩
  have hi : i < bs.length := by
    rcases Nat.lt_or_ge i bs.length with h' | h'
    · exact h'
    · rw [List.getElem?_eq_none h'] at e; cases e
  have hx : bs[i] = (k, d) := by rw [List.getElem?_eq_getElem hi] at e; exact Option.some.inj e
  obtain ⟨g, c', va, vc, hV, h1, h2, h3, h4⟩ := h.at hi
  rw [hx] at h2 h3 h4
  simp only at h2 h3 h4
  cases hV
  obtain ⟨A', c'', hv, ha, hb, hc⟩ := own_any h4
  cases hv
  exact ⟨g, 0, va, vc, rfl, h1, by simpa using h2, by simpa using h3, ha, hb, hc, Lst.own h4⟩
end Go.Proofs.Ytfjkfajhfnmjjaa
