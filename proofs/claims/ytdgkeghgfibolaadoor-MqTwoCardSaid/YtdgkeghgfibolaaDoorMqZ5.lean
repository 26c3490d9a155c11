/- So many signs, encoded and decoded: mathematics alone. -/
import Derived.Test.YtdgkeghgfibolaaDoorMqZ4
set_option linter.unusedVariables false
set_option linter.unusedSimpArgs false
namespace Go.Proofs.YtdgkeghgfibolaaDoor
open Go.RowKit

/-- The encoder behind the first j of these signs. -/
def eJ (ps : List (Nat × Nat)) (j : Nat) : E × List Nat := encR (ps.take j) (mNew, cxF 19)
def POk (ps : List (Nat × Nat)) : Prop := ∀ p ∈ ps, p.1 < 19 ∧ p.2 ≤ 1
theorem eJ_succ {ps : List (Nat × Nat)} {j : Nat} {p : Nat × Nat} (h : ps[j]? = some p) : eJ ps (j + 1) = (sE (eJ ps j).1 (eJ ps j).2 p.1 p.2, sC (eJ ps j).1 (eJ ps j).2 p.1 p.2) := by
  unfold eJ
  rw [List.take_add_one, h]
  exact encR_snoc _ _ _
theorem eJ_ok {ps : List (Nat × Nat)} (h : POk ps) : ∀ j, j ≤ ps.length → Fine (eJ ps j).1 ∧ COk (eJ ps j).2
  | 0, _ => ⟨mNew_fine, f19_ok⟩
  | j + 1, hj => by
    obtain ⟨h1, h2⟩ := eJ_ok h j (by omega)
    have hp := List.getElem?_eq_getElem (l := ps) (show j < ps.length by omega)
    have hk := h ps[j] (List.getElem_mem _)
    rw [eJ_succ hp]
    exact ⟨sE_fine h1 h2 hk.1 _, sC_ok h2 hk.1 _⟩
theorem sE_ge (e : E) (cx : List Nat) (k b : Nat) : e.pre.length ≤ (sE e cx k b).pre.length := by
  unfold sE mSame mOther
  split
  · split
    · exact Nat.le_refl _
    · split
      · exact mNorm_ge 16 ⟨qe (cx.getD (k * 2) 0), e.c, e.ct, e.pre, e.last⟩
      · exact mNorm_ge 16 ⟨e.a - qe (cx.getD (k * 2) 0), e.c + qe (cx.getD (k * 2) 0), e.ct, e.pre, e.last⟩
  · split
    · exact mNorm_ge 16 ⟨e.a - qe (cx.getD (k * 2) 0), e.c + qe (cx.getD (k * 2) 0), e.ct, e.pre, e.last⟩
    · exact mNorm_ge 16 ⟨qe (cx.getD (k * 2) 0), e.c, e.ct, e.pre, e.last⟩
theorem eJ_ge {ps : List (Nat × Nat)} : ∀ (d j : Nat), j + d ≤ ps.length → (eJ ps j).1.pre.length ≤ (eJ ps (j + d)).1.pre.length
  | 0, j, _ => Nat.le_refl _
  | d + 1, j, h => by
    have hp := List.getElem?_eq_getElem (l := ps) (show j + d < ps.length by omega)
    have := eJ_ge (ps := ps) d j (by omega)
    rw [show j + (d + 1) = j + d + 1 by omega, eJ_succ hp]
    exact Nat.le_trans this (sE_ge _ _ _ _)
/-- What the interval says at the end it says at any time: the way back, by one sign. -/
theorem SP.back {z : Nat → Nat} {e : E} {cx : List Nat} {k b : Nat} (hz : Zok z) (fe : Fine e) (ok : COk cx) (hk : k < 19) (hs : SP z (sE e cx k b) ((sE e cx k b).a : Nat)) : SP z e (e.a : Nat) := by
  obtain ⟨q1, q2, _, _⟩ := qe_bd _ (ok.i k hk)
  have a2 := fe.a2
  have a3 := fe.a3
  have ct0 := fe.ct0
  have hg := fe.toGood
  unfold sE mSame mOther at hs
  generalize cx.getD (k * 2) 0 = i at *
  generalize qe i = Q at *
  obtain ⟨a, c, ct, pre, last⟩ := e
  simp only at a2 a3 ct0 hs
  have gl : Good ⟨Q, c, ct, pre, last⟩ := ⟨hg.toInv.narrow (by omega) (by omega) (by show c + Q ≤ c + a; omega), ct0⟩
  have gu : 1 ≤ a - Q → Good ⟨a - Q, c + Q, ct, pre, last⟩ := fun h => ⟨hg.toInv.narrow h (by omega) (by show c + Q + (a - Q) ≤ c + a; omega), ct0⟩
  have low : SP z (mNorm 16 ⟨Q, c, ct, pre, last⟩) ((mNorm 16 ⟨Q, c, ct, pre, last⟩).a : Nat) → SP z ⟨a, c, ct, pre, last⟩ (a : Nat) := fun h =>
    (SP.norm hz 16 _ gl (by show Q < 32768; omega) (by show _ ≤ Q * 2 ^ 16; omega) h).narrow (Nat.le_refl _) (by omega)
  have upp : a - Q < 32768 → SP z (mNorm 16 ⟨a - Q, c + Q, ct, pre, last⟩) ((mNorm 16 ⟨a - Q, c + Q, ct, pre, last⟩).a : Nat) → SP z ⟨a, c, ct, pre, last⟩ (a : Nat) := fun h8 h =>
    (SP.norm hz 16 _ (gu (by omega)) (by show a - Q < 32768; omega) (by show _ ≤ (a - Q) * 2 ^ 16; omega) h).narrow (by omega) (by omega)
  split at hs
  · split at hs
    · exact hs.narrow (by omega) (by omega)
    · split at hs
      · exact low hs
      · exact upp (by omega) hs
  · split at hs
    · exact upp (by omega) hs
    · exact low hs
theorem SP.all {ps : List (Nat × Nat)} {z : Nat → Nat} (hz : Zok z) (h : POk ps) (hs : SP z (eJ ps ps.length).1 ((eJ ps ps.length).1.a : Nat)) : ∀ d j, j + d = ps.length → SP z (eJ ps j).1 ((eJ ps j).1.a : Nat)
  | 0, j, hj => by rw [show j = ps.length by omega]; exact hs
  | d + 1, j, hj => by
    have h1 := SP.all hz h hs d (j + 1) (by omega)
    obtain ⟨f1, o1⟩ := eJ_ok h j (by omega)
    have hp := List.getElem?_eq_getElem (l := ps) (show j < ps.length by omega)
    have hk := h ps[j] (List.getElem_mem _)
    rw [eJ_succ hp] at h1
    exact SP.back hz f1 o1 hk.1 h1
/-- A decoder that goes with the encoder, behind j signs; its contexts are the encoder's. -/
def Sim (z f : Nat → Nat) (ps : List (Nat × Nat)) (j : Nat) (d : D) (cx : List Nat) : Prop := (∃ i, Rl z f (eJ ps j).1 d i) ∧ cx = (eJ ps j).2
theorem zE_code (e : E) (i : Nat) : zE e (i + 1) = fB (mCode e) i := by
  have h := mEnd_len e
  unfold zE fB mCode
  generalize mEnd e = y at *
  obtain ⟨a, c, ct, pre, last⟩ := y
  simp only at h ⊢
  rcases pre with _ | ⟨x, pre⟩
  · simp at h
  · rw [List.cons_append, List.getD_cons_succ, List.tail_cons]
    split
    · rename_i hl
      subst hl
      rw [List.getD_eq_getElem?_getD, List.getD_eq_getElem?_getD, List.getElem?_append]
      split
      · rfl
      · rw [List.getElem?_eq_none (l := pre) (by omega)]
        rcases Nat.eq_zero_or_pos (i - pre.length) with h0 | h0
        · rw [h0]; rfl
        · rw [List.getElem?_eq_none (by simp; omega)]
    · rfl
theorem zE_255 {e : E} (f : Fine e) (i : Nat) : zE e i ≤ 255 := by
  unfold zE fB
  rw [List.getD_eq_getElem?_getD]
  cases h : ((mEnd e).pre ++ [(mEnd e).last])[i]? with
  | none => exact Nat.le_refl _
  | some x =>
    rcases List.mem_append.1 (List.mem_of_getElem? h) with hx | hx
    · exact f.end.bs x hx
    · rw [List.mem_singleton.1 hx]; exact f.end.l1
/-- Of bytes that are the encoder's as far as they are wanted, the first n signs come back. -/
theorem Sim.start {ps : List (Nat × Nat)} {f : Nat → Nat} {N n : Nat} (h : POk ps) (hn : n ≤ ps.length) (hf : ∀ i, i ≤ N → f i = zE (eJ ps ps.length).1 (i + 1)) (hN : (eJ ps n).1.pre.length + 4 ≤ N) : Sim (zE (eJ ps ps.length).1) f ps 0 (dNew f) (cxF 19) := by
  have hend := eJ_ok h ps.length (Nat.le_refl _)
  obtain ⟨hs, hz⟩ := SP.of_end hend.1
  have h0 := SP.all hz h hs ps.length 0 (by omega)
  exact ⟨⟨2, Rl.new hz (zE_255 hend.1) h0 hf (by omega)⟩, rfl⟩
theorem Sim.next {ps : List (Nat × Nat)} {f : Nat → Nat} {N n j : Nat} {p : Nat × Nat} {d : D} {cx : List Nat} (h : POk ps) (hn : n ≤ ps.length) (hf : ∀ i, i ≤ N → f i = zE (eJ ps ps.length).1 (i + 1)) (hN : (eJ ps n).1.pre.length + 4 ≤ N) (hj : j < n) (hp : ps[j]? = some p) (hS : Sim (zE (eJ ps ps.length).1) f ps j d cx) :
    (dB f d cx p.1).1 = p.2 ∧ Sim (zE (eJ ps ps.length).1) f ps (j + 1) (dB f d cx p.1).2.1 (dB f d cx p.1).2.2 := by
  have hend := eJ_ok h ps.length (Nat.le_refl _)
  obtain ⟨hs, hz⟩ := SP.of_end hend.1
  obtain ⟨f1, o1⟩ := eJ_ok h j (by omega)
  have h1 := SP.all hz h hs (ps.length - (j + 1)) (j + 1) (by omega)
  have hk := h p (List.mem_of_getElem? hp)
  have hge := eJ_ge (ps := ps) (n - (j + 1)) (j + 1) (by omega)
  rw [show j + 1 + (n - (j + 1)) = n by omega] at hge
  rw [eJ_succ hp] at h1 hge
  obtain ⟨⟨i, hr⟩, hc⟩ := hS
  subst hc
  obtain ⟨_, s2, s3, s4⟩ := Rl.sym hz (zE_255 hend.1) f1 o1 hk.1 hk.2 h1 hr hf (by simp only at hge; omega)
  refine ⟨s2, ?_, ?_⟩
  · rw [eJ_succ hp]; exact s4
  · rw [eJ_succ hp]; exact s3
end Go.Proofs.YtdgkeghgfibolaaDoor
