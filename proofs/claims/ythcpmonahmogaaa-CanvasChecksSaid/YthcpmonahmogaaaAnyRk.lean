/- A region that draws, with edges that bind in one order of the two alone. -/
import Derived.Test.YthcpmonahmogaaaAnyInv
set_option linter.unusedVariables false
namespace Go.Proofs.Ythcpmonahmogaaa
open Go.RowKit
def backA (ops : Array Oper) : Bool := (List.range ops.size).all fun i => ((ops[i]?).map fun o => o.after.all fun e => !Region.binds .any e || decide (e.on < i)).getD true
section
variable {F : Fence} {n : Nat} {P : Program} {ops : Array Oper} {Q : Exit → Act → World → Prop} 

theorem back_a (h : backA ops = true) {i : Nat} {o : Oper} (ho : ops[i]? = some o) : ∀ e ∈ o.after, Region.binds .any e = true → e.on < i := by
  intro e he hb
  have hi : i < ops.size := (Array.getElem?_eq_some_iff.1 ho).1
  unfold backA at h
  rw [List.all_eq_true] at h
  have := h i (List.mem_range.2 hi)
  rw [ho] at this
  simp only [Option.map_some, Option.getD_some] at this
  rw [Array.all_eq_true_iff_forall_mem] at this
  have := this e he
  rw [hb] at this
  simpa using this

theorem anyIn_a {Inv : (Nat → Bool) → Act → World → Prop} (hback : backA ops = true)
    (hstep : ∀ i, i < ops.size → ∀ L a w, Inv L a w → Shut .any ops L → Up .any ops L i → wpOpIn F n P ops Q i (fun a' w' => Inv (upd L i) a' w') a w)
    (hdone : ∀ L a w, (∀ i, i < ops.size → L i = true) → Inv L a w → Q .normal a w) :
    ∀ (fuel : Nat) (listed : Array Bool) (a : Act) (w : World) (L : Nat → Bool), listed.size = ops.size → (∀ i, i < ops.size → L i = listed.getD i false) → Shut .any ops L → Inv L a w →
      ((List.range ops.size).filter fun i => !L i).length ≤ fuel → wpAnyIn F n P .any ops Q fuel listed a w := by
  have hnil : ∀ (listed : Array Bool) (L : Nat → Bool), listed.size = ops.size → (∀ i, i < ops.size → L i = listed.getD i false) → Region.ready .any ops listed = [] → ∀ i, i < ops.size → L i = true := by
    intro listed L hs hL hr i
    induction i using Nat.strongRecOn with
    | _ i ih =>
      intro hi
      cases hc : L i with
      | true => rfl
      | false =>
        exfalso
        have hlt : listed.getD i true = false := by
          rw [hL i hi] at hc
          simp only [Array.getD_eq_getD_getElem?] at hc ⊢
          rw [Array.getElem?_eq_getElem (by omega)] at hc ⊢
          simpa using hc
        have : i ∈ Region.ready .any ops listed := mem_ready.2 ⟨hlt, ops[i], Array.getElem?_eq_getElem hi, fun e he hbd => by
          have hb := back_a hback (Array.getElem?_eq_getElem hi) e he hbd
          rw [← hL _ (by omega)]
          exact ih _ hb (by omega)⟩
        rw [hr] at this
        cases this
  intro fuel
  induction fuel with
  | zero =>
    intro listed a w L hs hL hsh hinv hf
    have hall : ∀ i, i < ops.size → L i = true := fun i hi => by
      have h0 : ((List.range ops.size).filter fun i => !L i) = [] := List.eq_nil_of_length_eq_zero (by omega)
      cases hc : L i with
      | true => rfl
      | false =>
        have : i ∈ ((List.range ops.size).filter fun i => !L i) := List.mem_filter.2 ⟨List.mem_range.2 hi, by simp [hc]⟩
        rw [h0] at this
        cases this
    refine ⟨?_, hdone L a w hall hinv⟩
    cases hr : Region.ready .any ops listed with
    | nil => rfl
    | cons i r =>
      have hi : i ∈ Region.ready .any ops listed := by rw [hr]; exact List.mem_cons_self
      obtain ⟨h1, o, ho, _⟩ := mem_ready.1 hi
      have hlt : i < ops.size := (Array.getElem?_eq_some_iff.1 ho).1
      have h2 := hall i hlt
      rw [hL i hlt] at h2
      simp only [Array.getD_eq_getD_getElem?] at h1 h2
      rw [Array.getElem?_eq_getElem (by omega)] at h1 h2
      simp at h1 h2
      rw [h1] at h2
      cases h2
  | succ fuel ih =>
    intro listed a w L hs hL hsh hinv hf
    refine ⟨fun hr => hdone L a w (hnil listed L hs hL hr) hinv, fun i hi => ?_⟩
    obtain ⟨h1, o, ho, hall⟩ := mem_ready.1 hi
    have hlt : i < ops.size := (Array.getElem?_eq_some_iff.1 ho).1
    have hLi : L i = false := by
      rw [hL i hlt]
      simp only [Array.getD_eq_getD_getElem?] at h1 ⊢
      rw [Array.getElem?_eq_getElem (by omega)] at h1 ⊢
      simpa using h1
    have hdep : ∀ e ∈ o.after, Region.binds .any e = true → L e.on = true := fun e he hb => by
      rw [hL _ (by have := back_a hback ho e he hb; omega)]
      exact hall e he hb
    refine wpOpIn_mono (fun a' w' hi' => ?_) (hstep i hlt L a w hinv hsh ⟨hLi, o, ho, hdep⟩)
    refine ih _ a' w' (upd L i) (by simpa using hs) (fun j hj => ?_) (fun j oj hj hl e he hb => ?_) hi' ?_
    · by_cases hji : j = i
      · subst hji
        rw [upd_self]
        simp only [Array.getD_eq_getD_getElem?]
        rw [Array.getElem?_setIfInBounds_self_of_lt (by omega)]
        rfl
      · rw [upd_ne _ hji, hL j hj]
        simp only [Array.getD_eq_getD_getElem?]
        rw [Array.getElem?_setIfInBounds_ne (fun h => hji h.symm)]
    · by_cases hji : j = i
      · subst hji
        obtain rfl : oj = o := Option.some.inj (hj.symm.trans ho)
        have := hdep e he hb
        have hne : e.on ≠ j := by have := back_a hback hj e he hb; omega
        rw [upd_ne _ hne]; exact this
      · rw [upd_ne _ hji] at hl
        have := hsh j oj hj hl e he hb
        by_cases hee : e.on = i
        · rw [hee]; exact upd_self _ _
        · rw [upd_ne _ hee]; exact this
    · have hmem : i ∈ (List.range ops.size).filter fun i => !L i := List.mem_filter.2 ⟨List.mem_range.2 hlt, by simp [hLi]⟩
      have hlen : ((List.range ops.size).filter fun j => !upd L i j).length < ((List.range ops.size).filter fun i => !L i).length := by
        have he : ((List.range ops.size).filter fun j => !upd L i j) = ((List.range ops.size).filter fun i => !L i).filter fun j => j != i := by
          rw [List.filter_filter]
          apply List.filter_congr
          intro j _
          by_cases hji : j = i
          · subst hji; simp [upd_self]
          · simp [upd_ne _ hji, hji]
        rw [he]
        exact List.length_filter_lt_length_iff_exists.2 ⟨i, hmem, by simp⟩
      omega

/-- The region itself. -/
theorem regionIn_a {id : Nat} {Inv : (Nat → Bool) → Act → World → Prop} {a : Act} {w : World} (hm : P.follows .mixedOrders = true) (hback : backA ops = true)
    (h0 : Inv (fun _ => false) a w.drew)
    (hstep : ∀ i, i < ops.size → ∀ L a w, Inv L a w → Shut .any ops L → Up .any ops L i → wpOpIn F n P ops Q i (fun a' w' => Inv (upd L i) a' w') a w)
    (hdone : ∀ L a w, (∀ i, i < ops.size → L i = true) → Inv L a w → Q .normal a w) : (Code.region id ops true).wpIn F n P Q a w :=
  wpIn_region_any hm (anyIn_a hback hstep hdone _ _ _ _ (fun _ => false) (by simp) (fun i hi => by
      simp only [Array.getD_eq_getD_getElem?]
      rw [Array.getElem?_replicate, if_pos hi]
      rfl) (fun _ _ _ h => by cases h) h0 (by
      refine Nat.le_trans (List.length_filter_le _ _) ?_
      simp))
end
end Go.Proofs.Ythcpmonahmogaaa
