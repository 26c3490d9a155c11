/- So many signs, one behind the other. -/
import Derived.Test.YtdgkeghgfibolaaDoorMqB
set_option linter.unusedVariables false
set_option linter.unusedSimpArgs false
namespace Go.Proofs.YtdgkeghgfibolaaDoor
open Go.RowKit

def encR (ps : List (Nat × Nat)) (s : E × List Nat) : E × List Nat := ps.foldl (fun s p => (sE s.1 s.2 p.1 p.2, sC s.1 s.2 p.1 p.2)) s
theorem encR_snoc (ps : List (Nat × Nat)) (p : Nat × Nat) (s : E × List Nat) : encR (ps ++ [p]) s = (sE (encR ps s).1 (encR ps s).2 p.1 p.2, sC (encR ps s).1 (encR ps s).2 p.1 p.2) := by
  unfold encR; rw [List.foldl_append]; rfl
theorem COk.setM {cx : List Nat} (h : COk cx) {k m : Nat} (hk : k < 19) (hm : m ≤ 1) : COk (cx.set (k * 2 + 1) m) := by
  refine ⟨by rw [List.length_set]; exact h.len, fun j hj => ?_, fun j hj => ?_⟩
  · rw [getD_set_ne (by omega)]; exact h.i j hj
  · by_cases e : k = j
    · subst e; rw [getD_set_self (by have := h.len; omega)]; exact hm
    · rw [getD_set_ne (by omega)]; exact h.m j hj
theorem sC_ok {e : E} {cx : List Nat} (h : COk cx) {k : Nat} (hk : k < 19) (b : Nat) : COk (sC e cx k b) := by
  have hq := qe_bd _ (h.i k hk)
  have hm := h.m k hk
  unfold sC mUn
  split
  · split
    · exact h
    · exact h.set hk hq.2.2.1
  · split
    · exact (h.setM hk (by omega)).set hk hq.2.2.2
    · exact h.set hk hq.2.2.2
theorem mNorm_len : ∀ (n : Nat) (e : E), (mNorm n e).pre.length ≤ e.pre.length + n
  | 0, e => Nat.le_refl _
  | n + 1, e => by
    have h := mTick_len e
    unfold mNorm
    split
    · omega
    · have := mNorm_len n (mTick e); omega
theorem sE_len (e : E) (cx : List Nat) (k b : Nat) : (sE e cx k b).pre.length ≤ e.pre.length + 16 := by
  unfold sE mSame mOther
  split
  · split
    · exact Nat.le_add_right _ _
    · split <;> exact mNorm_len 16 _
  · split <;> exact mNorm_len 16 _
theorem sE_fine {e : E} {cx : List Nat} (f : Fine e) (h : COk cx) {k : Nat} (hk : k < 19) (b : Nat) : Fine (sE e cx k b) := by
  have hi := h.i k hk
  unfold sE
  split
  · exact f.same hi
  · exact f.other hi
/-- An encoder and its contexts, behind j signs. -/
structure En (P : Nat → Prop) (W w : World) (p q j : Nat) (e : E) (cx : List Nat) : Prop where
  ew : EW P w p e
  cb : Cb w q cx
  ok : COk cx
  fine : Fine e
  len : e.pre.length ≤ 16 * j
  bel : Below W.heap.size W w
theorem En.drew {P : Nat → Prop} {W w : World} {p q j : Nat} {e : E} {cx : List Nat} (h : En P W w p q j e cx) : En P W w.drew p q j e cx := ⟨h.ew, h.cb, h.ok, h.fine, h.len, below_drewN h.bel 1⟩
theorem En.next {P : Nat → Prop} {W w w' : World} {p q j k b : Nat} {e : E} {cx : List Nat} (h : En P W w p q j e cx) (hk : k < 19) (hPQ : ∀ i, EC P q i → W.heap.size ≤ i) (he : EW P w' p (sE e cx k b)) (hc : Cb w' q (sC e cx k b)) (ho : Only (EC P q) w w') : En P W w' p q (j + 1) (sE e cx k b) (sC e cx k b) :=
  ⟨he, hc, sC_ok h.ok hk b, sE_fine h.fine h.ok hk b, by have := sE_len e cx k b; have := h.len; omega, h.bel.trans (Only.below ho fun i hi => hPQ i hi)⟩

theorem Clean.at : ∀ {l : List Nat} {i x y : Nat}, Clean l → l[i]? = some x → l[i + 1]? = some y → x = 255 → y ≤ 143
  | [], i, x, y, _, h, _ => by simp at h
  | [_], i, x, y, _, h, h2 => by simp at h2
  | a :: b :: l, 0, x, y, hc, h, h2 => by
    simp at h h2; subst h h2; exact hc.1
  | a :: b :: l, i + 1, x, y, hc, h, h2 => by
    rw [List.getElem?_cons_succ] at h h2
    exact Clean.at (l := b :: l) hc.2 h h2
theorem mCode_clean {e : E} (f : Fine e) : Clean (mCode e) ∧ (∀ x ∈ mCode e, x ≤ 255) ∧ (mCode e).getLast? ≠ some 255 := by
  have hi := f.end
  have hl := mEnd_len e
  have hcl := hi.cl
  have hbs := hi.bs
  have hl1 := hi.l1
  unfold mCode
  generalize mEnd e = z at *
  obtain ⟨a, c, ct, pre, last⟩ := z
  simp only at *
  rcases pre with _ | ⟨x0, pre⟩
  · simp at hl
  have hcl2 : Clean (pre ++ [last]) := hcl.tail
  by_cases h : last = 255
  · rw [if_pos h]
    refine ⟨hcl2.init, fun x hx => hbs x (List.mem_cons_of_mem _ hx), fun hg => ?_⟩
    have : pre ≠ [] := fun e => by simp [e] at hg
    have hg' : pre.getLast? = some 255 := hg
    obtain ⟨l, hl'⟩ : ∃ l, pre = l ++ [255] := ⟨pre.dropLast, by
      have h1 := List.dropLast_concat_getLast this
      have h2 : pre.getLast this = 255 := by
        rw [List.getLast?_eq_some_getLast this] at hg'
        exact Option.some.inj hg'
      rw [h2] at h1; exact h1.symm⟩
    rw [hl', List.append_assoc] at hcl2
    have := hcl2.last rfl
    omega
  · rw [if_neg h]
    refine ⟨hcl2, fun x hx => ?_, fun hg => ?_⟩
    · rcases List.mem_append.1 hx with hx | hx
      · exact hbs x (List.mem_cons_of_mem _ hx)
      · rw [List.mem_singleton.1 hx]; exact hl1
    · rw [List.getLast?_append] at hg
      simp at hg
      exact h hg
theorem row_wf {k : IntKind} {w : World} {a : Option Addr} {len cap : Nat} {zs : List Int} (h : IsRow k w a len cap zs) : ∀ n ∈ zs, (Lit.int k n).wf = true := by
  rcases h with ⟨_, _, _, rfl⟩ | ⟨_, _, _, _, _, _, h⟩
  · simp
  · exact h
theorem Grow.lst {w0 w : World} {VK VB : Value} {ks bs : List Int} {j : Nat} (h : Bk w0 w VK VB ks bs j) : ∃ AK cK AB cB, VK = .slice AK j cK ∧ VB = .slice AB j cB ∧ Lst w w.heap.size AK (ks.map (Value.int .i64)) ∧ Lst w w.heap.size AB (bs.map (Value.int .i64)) := by
  have o0 : w.ownsRow w0.heap.size 3 1 VK ks.length (ks.map (Value.int .i64)) := h.gr.own 0 (by omega)
  have o1 : w.ownsRow w0.heap.size 3 1 VB bs.length (bs.map (Value.int .i64)) := h.gr.own 1 (by omega)
  rw [h.lk] at o0
  rw [h.lb] at o1
  obtain ⟨AK, cK, rfl, _⟩ := own_any o0
  obtain ⟨AB, cB, rfl, _⟩ := own_any o1
  exact ⟨AK, cK, AB, cB, rfl, rfl, Lst.own o0, Lst.own o1⟩
theorem nat_of {l : List Int} {n : Int} {j : Nat} (h : ∀ x ∈ l, 0 ≤ x ∧ x < n) (hj : j < l.length) : ∃ k : Nat, l[j]? = some (k : Int) ∧ (k : Int) < n := by
  have hm := h l[j] (List.getElem_mem hj)
  exact ⟨l[j].toNat, by rw [List.getElem?_eq_getElem hj]; congr 1; omega, by omega⟩
end Go.Proofs.YtdgkeghgfibolaaDoor
