/- Raw bits: the reader goes along the writer, as plain arithmetic. -/
import Derived.Test.YtahnioenoecfeaaRawKnown
set_option linter.unusedVariables false
namespace Go.Proofs.Ytahnioenoecfeaa
open Go.RowKit

/-- T is a later state of the writer than S. -/
structure Ext (S T : List Int × Nat) : Prop where
  len : S.1.length ≤ T.1.length
  pre : ∀ (i : Nat), i + 1 < S.1.length → T.1[i]? = S.1[i]?
  cur : ∀ x y : Int, S.1[S.1.length - 1]? = some x → T.1[S.1.length - 1]? = some y → y / 2 ^ S.2 = x / 2 ^ S.2
  fr : S.1.length = T.1.length → T.2 ≤ S.2
theorem Ext.refl (S : List Int × Nat) : Ext S S := ⟨Nat.le_refl _, fun _ _ => rfl, fun x y h k => by rw [h] at k; injection k with k; rw [k], fun _ => Nat.le_refl _⟩

theorem div_same {v e : Int} {t s : Nat} (ht : 0 < t) (hts : t ≤ s) (hv : v % 2 ^ t = 0) (he0 : 0 ≤ e) (he1 : e ≤ 2 ^ (t - 1)) : (v + e) / 2 ^ s = v / 2 ^ s := by
  obtain ⟨d, rfl⟩ : ∃ d, s = t + d := ⟨s - t, by omega⟩
  obtain ⟨f, rfl⟩ : ∃ f, t = f + 1 := ⟨t - 1, by omega⟩
  rw [show f + 1 - 1 = f from rfl] at he1
  have p1 := pow_pos' f
  have ps := pow_succ' f
  have sp := split_pow hv
  rw [Int.pow_add, ← Int.ediv_ediv_of_nonneg (by omega), ← Int.ediv_ediv_of_nonneg (by omega)]
  congr 1
  rw [sp]
  generalize v / 2 ^ (f + 1) = q at *
  rw [Int.add_comm (q * 2 ^ (f + 1)) e, Int.add_mul_ediv_right _ _ (by omega), Int.mul_ediv_cancel _ (by omega), Int.ediv_eq_zero_of_lt he0 (by omega)]
  omega

theorem Ext.step {S T : List Int × Nat} (h : Ext S T) (ok : WOk T) (hS : S.1 ≠ []) (b : Int) : Ext S (wstep T b) := by
  have hb := Int.emod_nonneg b (show (2 : Int) ≠ 0 by omega)
  have hb2 := Int.emod_lt_of_pos b (show (0 : Int) < 2 by omega)
  have hSl := List.length_pos_iff.2 hS
  have hl := h.len
  unfold wstep
  by_cases h0 : T.2 = 0
  · rw [if_pos h0]
    refine ⟨by simp; omega, ?_, ?_, ?_⟩
    · intro i hi
      show (T.1 ++ [_])[i]? = _
      rw [List.getElem?_append_left (by omega)]
      exact h.pre i hi
    · intro x y hx hy
      change (T.1 ++ [_])[S.1.length - 1]? = some y at hy
      rw [List.getElem?_append_left (by omega)] at hy
      exact h.cur x y hx hy
    · intro e
      simp at e
      omega
  · rw [if_neg h0]
    have hne : T.1 ≠ [] := fun e => h0 (ok.none e)
    have hlast := last_of hne
    have hlow := ok.low
    have hdl : T.1.dropLast.length = T.1.length - 1 := List.length_dropLast
    have hTl := List.length_pos_iff.2 hne
    refine ⟨by simp; omega, ?_, ?_, ?_⟩
    · intro i hi
      show (T.1.dropLast ++ [_])[i]? = _
      rw [List.getElem?_append_left (by omega), ← h.pre i hi]
      conv => rhs; rw [hlast]
      rw [List.getElem?_append_left (by omega)]
    · intro x y hx hy
      change (T.1.dropLast ++ [_])[S.1.length - 1]? = some y at hy
      by_cases hsame : S.1.length = T.1.length
      · rw [List.getElem?_append_right (by omega), show S.1.length - 1 - T.1.dropLast.length = 0 from by omega] at hy
        change some (T.1.getLastD 0 + b % 2 * 2 ^ (T.2 - 1)) = some y at hy
        injection hy with hy
        have hT : T.1[S.1.length - 1]? = some (T.1.getLastD 0) := by
          conv => lhs; rw [hlast]
          rw [List.getElem?_append_right (by omega), show S.1.length - 1 - T.1.dropLast.length = 0 from by omega]; rfl
        rw [← h.cur x _ hx hT, ← hy]
        have p1 := pow_pos' (T.2 - 1)
        refine div_same (t := T.2) (e := b % 2 * 2 ^ (T.2 - 1)) (by omega) (h.fr hsame) hlow (Int.mul_nonneg hb (by omega)) ?_
        have : b % 2 * 2 ^ (T.2 - 1) ≤ 1 * 2 ^ (T.2 - 1) := Int.mul_le_mul_of_nonneg_right (by omega) (by omega)
        omega
      · rw [List.getElem?_append_left (by omega)] at hy
        refine h.cur x y hx ?_
        rw [hlast, List.getElem?_append_left (by omega)]
        exact hy
    · intro e
      simp at e
      show T.2 - 1 ≤ S.2
      have := h.fr (by omega)
      omega
theorem wstep_ne (s : List Int × Nat) (b : Int) : (wstep s b).1 ≠ [] := by
  unfold wstep; split <;> simp
theorem Ext.run {S : List Int × Nat} (hS : S.1 ≠ []) : ∀ (bs : List Int) (T : List Int × Nat), Ext S T → WOk T → Ext S (bs.foldl wstep T) := by
  intro bs
  induction bs with
  | nil => intro T h _; exact h
  | cons b bs ih => intro T h ok; exact ih _ (h.step ok hS b) (ok.step b)
theorem wrun_split (bs : List Int) (k : Nat) : wrun bs = (bs.drop k).foldl wstep (wrun (bs.take k)) := by
  unfold wrun
  rw [← List.foldl_append, List.take_append_drop]
theorem wrun_ne {bs : List Int} (h : bs ≠ []) : (wrun bs).1 ≠ [] := by
  rw [show bs = bs.dropLast ++ [bs.getLastD 0] from last_of h, wrun_snoc]
  exact wstep_ne _ _
theorem ext_run {bs : List Int} {k : Nat} (hk : 0 < k) (hb : k ≤ bs.length) : Ext (wrun (bs.take k)) (wrun bs) := by
  rw [wrun_split bs k]
  refine Ext.run (wrun_ne ?_) _ _ (Ext.refl _) (wrun_ok _)
  intro e
  have := congrArg List.length e
  simp at this
  rcases this with h | h
  · omega
  · subst h; simp at hb; omega

/-- Where the reader stands when k bits have been read. -/
def rat (bs : List Int) (k : Nat) : Nat × Nat := if k = 0 then (0, 8) else ((wrun (bs.take k)).1.length - 1, (wrun (bs.take k)).2)
theorem rat_rng (bs : List Int) (k : Nat) : (rat bs k).2 ≤ 8 ∧ (rat bs k).1 ≤ k := by
  unfold rat
  split
  · simp
  · have := (wrun_ok (bs.take k)).free
    have h2 := wrun_len (bs.take k)
    rw [List.length_take] at h2
    refine ⟨?_, ?_⟩
    · show (wrun (bs.take k)).2 ≤ 8; omega
    · show (wrun (bs.take k)).1.length - 1 ≤ k; omega
theorem last_get {l : List Int} (h : l ≠ []) : l[l.length - 1]? = some (l.getLastD 0) := by
  rw [List.getLastD_eq_getLast?, ← List.getLast?_eq_getElem?, List.getLast?_eq_some_getLast h]; rfl

theorem lock {bs F : List Int} {k : Nat} (hk : k < bs.length) (hF : ∀ i, i < (wrun (bs.take (k + 1))).1.length → byteAt F i = byteAt (wrun bs).1 i) :
    rstep F (rat bs k) = rat bs (k + 1) ∧ rbit F (rat bs (k + 1)) = bs.getD k 0 % 2 := by
  have htk : bs.take (k + 1) = bs.take k ++ [bs.getD k 0] := by
    rw [List.take_add_one, List.getD_eq_getElem?_getD, List.getElem?_eq_getElem hk]; rfl
  have hstep : wrun (bs.take (k + 1)) = wstep (wrun (bs.take k)) (bs.getD k 0) := by rw [htk, wrun_snoc]
  have E1 := ext_run (bs := bs) (k := k + 1) (by omega) (by omega)
  have ok := wrun_ok (bs.take k)
  generalize bs.getD k 0 = b at *
  have hb := Int.emod_nonneg b (show (2 : Int) ≠ 0 by omega)
  have hb2 := Int.emod_lt_of_pos b (show (0 : Int) < 2 by omega)
  -- the byte that a state stands at, read of the last state
  have at_ : ∀ S : List Int × Nat, S.1 ≠ [] → Ext S (wrun bs) → S.1.length ≤ (wrun (bs.take (k + 1))).1.length → byteAt F (S.1.length - 1) / 2 ^ S.2 = S.1.getLastD 0 / 2 ^ S.2 := by
    intro S hS hE hle
    have hp := List.length_pos_iff.2 hS
    have hlen := hE.len
    obtain ⟨y, hy⟩ : ∃ y, (wrun bs).1[S.1.length - 1]? = some y := ⟨_, List.getElem?_eq_getElem (by omega)⟩
    rw [hF _ (by omega)]
    have : byteAt (wrun bs).1 (S.1.length - 1) = y := by unfold byteAt; rw [List.getD_eq_getElem?_getD, hy]; rfl
    rw [this]
    exact hE.cur _ y (last_get hS) hy
  have hr1 : rat bs (k + 1) = ((wrun (bs.take (k + 1))).1.length - 1, (wrun (bs.take (k + 1))).2) := if_neg (by omega)
  have hne1 : (wrun (bs.take (k + 1))).1 ≠ [] := by rw [hstep]; exact wstep_ne _ _
  have A1 := at_ _ hne1 E1 (Nat.le_refl _)
  refine ⟨?_, ?_⟩
  · rw [hr1]
    by_cases h0 : k = 0
    · subst h0
      rw [hstep]
      rfl
    · have hr : rat bs k = ((wrun (bs.take k)).1.length - 1, (wrun (bs.take k)).2) := if_neg h0
      have hne : (wrun (bs.take k)).1 ≠ [] := wrun_ne (by
        intro e
        have := congrArg List.length e
        simp at this
        rcases this with h | h
        · omega
        · subst h; simp at hk)
      have hp := List.length_pos_iff.2 hne
      have E0 := ext_run (bs := bs) (k := k) (by omega) (by omega)
      rw [hr, hstep]
      rw [hstep] at at_
      unfold rstep wstep
      by_cases hz : (wrun (bs.take k)).2 = 0
      · rw [if_pos hz, if_pos hz]
        have A0 := at_ _ hne E0 (by unfold wstep; rw [if_pos hz]; simp)
        rw [hz, Int.pow_zero, Int.ediv_one, Int.ediv_one] at A0
        show ((wrun (bs.take k)).1.length - 1 + 1, (if byteAt F ((wrun (bs.take k)).1.length - 1) = 255 then 7 else 8) - 1) = ((_ ++ [_]).length - 1, wnew _ - 1)
        rw [A0, List.length_append]
        have e1 : (wrun (bs.take k)).1.length - 1 + 1 = (wrun (bs.take k)).1.length + 1 - 1 := by omega
        rw [show ([b % 2 * 2 ^ (wnew (wrun (bs.take k)).1 - 1)] : List Int).length = 1 from rfl, e1]
        rfl
      · rw [if_neg hz, if_neg hz]
        show ((wrun (bs.take k)).1.length - 1, (wrun (bs.take k)).2 - 1) = ((_ ++ [_]).length - 1, _ - 1)
        rw [List.length_append, List.length_dropLast]
        have e1 : (wrun (bs.take k)).1.length - 1 = (wrun (bs.take k)).1.length - 1 + 1 - 1 := by omega
        rw [show ([(wrun (bs.take k)).1.getLastD 0 + b % 2 * 2 ^ ((wrun (bs.take k)).2 - 1)] : List Int).length = 1 from rfl, ← e1]
  · rw [hr1]
    show byteAt F ((wrun (bs.take (k + 1))).1.length - 1) / 2 ^ (wrun (bs.take (k + 1))).2 % 2 = b % 2
    rw [A1, hstep]
    unfold wstep
    by_cases hz : (wrun (bs.take k)).2 = 0
    · rw [if_pos hz]
      show (_ ++ [_]).getLastD 0 / 2 ^ (wnew _ - 1) % 2 = b % 2
      have p1 := pow_pos' (wnew (wrun (bs.take k)).1 - 1)
      rw [lastD_snoc, Int.mul_ediv_cancel _ (by omega)]
      omega
    · rw [if_neg hz]
      obtain ⟨f, hf⟩ : ∃ f, (wrun (bs.take k)).2 = f + 1 := ⟨(wrun (bs.take k)).2 - 1, by omega⟩
      have hlow := ok.low
      rw [hf] at hlow ⊢
      show (_ ++ [_]).getLastD 0 / 2 ^ (f + 1 - 1) % 2 = b % 2
      rw [lastD_snoc, show f + 1 - 1 = f from rfl]
      have p1 := pow_pos' f
      have ps := pow_succ' f
      have sp := split_pow hlow
      rw [sp]
      generalize (wrun (bs.take k)).1.getLastD 0 / 2 ^ (f + 1) = q at *
      rw [ps, show q * (2 * 2 ^ f) + b % 2 * 2 ^ f = (2 * q + b % 2) * 2 ^ f from by rw [Int.add_mul, Int.mul_comm 2 q, Int.mul_assoc], Int.mul_ediv_cancel _ (by omega)]
      omega

theorem flush_at (it : List Int) (i : Nat) : byteAt (flushF it) i = byteAt it i := by
  unfold flushF
  by_cases h : it.getLastD 0 = 255
  · rw [if_pos h]
    have hne : it ≠ [] := by intro e; rw [e] at h; simp at h
    have hl := last_of hne
    have hp := List.length_pos_iff.2 hne
    unfold byteAt
    rw [List.getD_eq_getElem?_getD, List.getD_eq_getElem?_getD]
    have hdl : it.dropLast.length = it.length - 1 := List.length_dropLast
    rcases Nat.lt_or_ge i it.dropLast.length with hi | hi
    · conv => rhs; rw [hl]
      rw [List.getElem?_append_left hi]
    · rw [List.getElem?_eq_none hi]
      rcases Nat.lt_or_ge i it.length with hi2 | hi2
      · rw [show i = it.length - 1 from by omega, last_get hne, h]; rfl
      · rw [List.getElem?_eq_none hi2]
  · rw [if_neg h]
theorem flush_sub {it : List Int} {i : Nat} {x : Int} (h : (flushF it)[i]? = some x) : it[i]? = some x := by
  unfold flushF at h
  split at h
  · rename_i h1
    have hne : it ≠ [] := by intro e; rw [e] at h1; simp at h1
    rw [last_of hne, List.getElem?_append_left (by
      rcases Nat.lt_or_ge i it.dropLast.length with hi | hi
      · exact hi
      · rw [List.getElem?_eq_none hi] at h; cases h)]
    exact h
  · exact h
theorem flush_len (it : List Int) : (flushF it).length ≤ it.length := by
  unfold flushF; split
  · rw [List.length_dropLast]; omega
  · exact Nat.le_refl _
theorem flush_last {s : List Int × Nat} (ok : WOk s) (h : flushF s.1 ≠ []) : (flushF s.1).getLastD 0 ≠ 255 := by
  intro e
  unfold flushF at h e
  by_cases h1 : s.1.getLastD 0 = 255
  · rw [if_pos h1] at h e
    have hne : s.1 ≠ [] := by intro e; rw [e] at h1; simp at h1
    have hdl : s.1.dropLast.length = s.1.length - 1 := List.length_dropLast
    have hp := List.length_pos_iff.2 h
    have a1 : s.1[s.1.dropLast.length - 1]? = some 255 := by
      rw [last_of hne, List.getElem?_append_left (by simp; omega)]
      have := last_get h
      rw [e] at this
      simpa using this
    have a2 : s.1[s.1.dropLast.length - 1 + 1]? = some 255 := by
      rw [show s.1.dropLast.length - 1 + 1 = s.1.length - 1 from by omega, last_get hne, h1]
    have := ok.behind _ a1 255 a2
    omega
  · rw [if_neg h1] at e
    exact h1 e
end Go.Proofs.Ytahnioenoecfeaa
