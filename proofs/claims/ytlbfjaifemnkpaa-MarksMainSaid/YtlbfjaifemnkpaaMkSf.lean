/- marks: a Head's values when one cell is written. -/
import Derived.Test.YtlbfjaifemnkpaaMkSe
set_option linter.unusedVariables false
set_option linter.unusedSimpArgs false
namespace Go.Proofs.Ytlbfjaifemnkpaa
open Go.RowKit
set_option maxRecDepth 100000
theorem cell_put {w : World} {g p q : Nat} {cur : Array Value} {t : TypeId} {v u : Value} (hg : w.heap[g]? = some (.cells cur t (0, 0))) (hu : w.cell? ⟨g, q, none⟩ = some u) :
    (w.setCell ⟨g, p, none⟩ v).cell? ⟨g, q, none⟩ = some (if q = p then v else u) := by
  rw [rb_cell (blk_set hg p v)]
  rw [rb_cell hg] at hu
  have hq : q < cur.size := (Array.getElem?_eq_some_iff.1 hu).1
  by_cases e : q = p
  · subst e
    rw [if_pos rfl, Array.getElem?_setIfInBounds_self_of_lt hq]
  · rw [if_neg e, Array.getElem?_setIfInBounds_ne (fun h => e h.symm), hu]
/-- One field of a component is written. -/
theorem CpL.put {w : World} {g n cap k j : Nat} {cs : List Cp} {c c' : Cp} {cur : Array Value} {t : TypeId} {v : Value} (h : CpL w (.slice (some ⟨g, 0, none⟩) n cap) cs) (hg : w.heap[g]? = some (.cells cur t (0, 0))) (hk : cs[k]? = some c) (hj : j < 5)
    (h0 : (.int .i64 c'.d : Value) = if j = 0 then v else .int .i64 c.d) (h1 : (.bool c'.sg : Value) = if j = 1 then v else .bool c.sg) (h2 : (.int .i64 c'.dx : Value) = if j = 2 then v else .int .i64 c.dx) (h3 : (.int .i64 c'.dy : Value) = if j = 3 then v else .int .i64 c.dy) (h4 : (.slice c'.A c'.n c'.cap : Value) = if j = 4 then v else .slice c.A c.n c.cap) :
    CpL (w.setCell ⟨g, k * 5 + j, none⟩ v) (.slice (some ⟨g, 0, none⟩) n cap) (cs.set k c') := fun i x hx => by
  have hs : (w.setCell ⟨g, k * 5 + j, none⟩ v).heap.size = w.heap.size := size_setCell _ _ _
  by_cases hik : i = k
  · subst hik
    obtain ⟨g', cap', e1, e2, e3, e4, d0, d1, d2, d3, d4⟩ := h i c hk
    have hxe : c' = x := by
      rw [List.getElem?_set_self (List.getElem?_eq_some_iff.1 hk).1] at hx
      exact Option.some.inj hx
    subst hxe
    injection e1 with a1 a2 a3
    injection a1 with a1
    injection a1 with a1
    subst a1 a3
    refine ⟨g, cap, by rw [List.length_set, a2], by rw [hs]; exact e2, by rw [List.length_set]; exact e3, e4, ?_, ?_, ?_, ?_, ?_⟩
    · rw [cell_put hg d0, h0]; simp only [show (i * 5 = i * 5 + j) = (j = 0) from propext (by omega)]
    · rw [cell_put hg d1, h1]; simp only [show (i * 5 + 1 = i * 5 + j) = (j = 1) from propext (by omega)]
    · rw [cell_put hg d2, h2]; simp only [show (i * 5 + 2 = i * 5 + j) = (j = 2) from propext (by omega)]
    · rw [cell_put hg d3, h3]; simp only [show (i * 5 + 3 = i * 5 + j) = (j = 3) from propext (by omega)]
    · rw [cell_put hg d4, h4]; simp only [show (i * 5 + 4 = i * 5 + j) = (j = 4) from propext (by omega)]
  · rw [List.getElem?_set_ne (fun e => hik e.symm)] at hx
    obtain ⟨g', cap', e1, e2, e3, e4, d0, d1, d2, d3, d4⟩ := h i x hx
    injection e1 with a1 a2 a3
    injection a1 with a1
    injection a1 with a1
    subst a1 a3
    refine ⟨g, cap, by rw [List.length_set, a2], by rw [hs]; exact e2, by rw [List.length_set]; exact e3, e4, ?_, ?_, ?_, ?_, ?_⟩
    · rw [cell_put hg d0, if_neg (by omega)]
    · rw [cell_put hg d1, if_neg (by omega)]
    · rw [cell_put hg d2, if_neg (by omega)]
    · rw [cell_put hg d3, if_neg (by omega)]
    · rw [cell_put hg d4, if_neg (by omega)]
theorem CpL.take {w : World} {g n cap k : Nat} {cs : List Cp} (h : CpL w (.slice (some ⟨g, 0, none⟩) n cap) cs) (hk : k ≤ cs.length) : CpL w (.slice (some ⟨g, 0, none⟩) k cap) (cs.take k) := fun i x hx => by
  have hi : i < k := by
    have := (List.getElem?_eq_some_iff.1 hx).1
    rw [List.length_take] at this
    omega
  rw [List.getElem?_take_of_lt hi] at hx
  obtain ⟨g', cap', e1, e2, e3, e4, d⟩ := h i x hx
  injection e1 with a1 a2 a3
  injection a1 with a1
  injection a1 with a1
  subst a1 a3
  exact ⟨g, cap, by rw [List.length_take, Nat.min_eq_left hk], e2, by rw [List.length_take, Nat.min_eq_left hk]; omega, e4, d⟩
theorem one_lst {w : World} {s : Nat} {x : Int} (h : w.heap[s]? = some (.cells #[.int .u8 x] 5 (0, 0))) : Lst w w.heap.size (some ⟨s, 0, none⟩) (([x] : List Int).map (Value.int .u8)) := by
  intro i v hv
  refine ⟨s, 0, rfl, blk_lt h, ?_⟩
  rcases i with _ | i
  · simp at hv; subst hv; simp [World.cell?, h]
  · simp at hv
theorem blk_types {w : World} {a b : Nat} {x y : Array Value} {t t' : TypeId} {p q : Nat × Nat} (h : w.heap[a]? = some (.cells x t p)) (h' : w.heap[b]? = some (.cells y t' q)) (hne : t ≠ t') : a ≠ b := fun e => by
  subst e
  rw [h] at h'
  injection h' with h'
  injection h' with _ h'
  exact hne h'
/-- A picture with its params and a comment of one byte, and the block its components lie in. -/
structure HdB (w : World) (p g s : Nat) (h : HV) (cs : List Cp) (x : Int) : Prop where
  blk : w.heap[p]? = some (.cells h.arr 33 (0, 0))
  row : CpL w (.slice (some ⟨g, 0, none⟩) h.N h.C) cs
  rowb : ∃ cur, w.heap[g]? = some (.cells cur 45 (0, 0))
  com : w.heap[s]? = some (.cells #[.int .u8 x] 5 (0, 0))
  eA : h.A = some ⟨g, 0, none⟩
  eS : h.SA = some ⟨s, 0, none⟩ ∧ h.sn = 1
  len : cs.length = h.N
  few : h.N ≤ 4
  cp : h.N ≤ h.C ∧ h.C ≤ maxLen
theorem HdB.ok {w : World} {p g s : Nat} {h : HV} {cs : List Cp} {x : Int} (H : HdB w p g s h cs x) : HdOk w h cs [x] :=
  ⟨by rw [H.eA]; exact H.row, H.len, H.few, by rw [H.eS.1]; exact one_lst H.com, by rw [H.eS.2]; rfl, by rw [H.eS.2]; decide⟩
theorem HdB.keep {w w' : World} {p g s : Nat} {h : HV} {cs : List Cp} {x : Int} (H : HdB w p g s h cs x) (hs : w.heap.size ≤ w'.heap.size) (hk : ∀ q, q = p ∨ q = g ∨ q = s → w'.heap[q]? = w.heap[q]?) : HdB w' p g s h cs x := by
  obtain ⟨cur, hc⟩ := H.rowb
  exact ⟨(hk _ (.inl rfl)).trans H.blk, H.row.keep hs (fun _ => hk _ (.inr (.inl rfl))), ⟨cur, (hk _ (.inr (.inl rfl))).trans hc⟩, (hk _ (.inr (.inr rfl))).trans H.com, H.eA, H.eS, H.len, H.few, H.cp⟩
theorem HdB.below {w w' : World} {p g s : Nat} {h : HV} {cs : List Cp} {x : Int} (H : HdB w p g s h cs x) (hb : Below w.heap.size w w') : HdB w' p g s h cs x := by
  obtain ⟨cur, hc⟩ := H.rowb
  refine H.keep hb.size (fun q hq => hb.block q ?_)
  rcases hq with rfl | rfl | rfl
  · exact blk_lt H.blk
  · exact blk_lt hc
  · exact blk_lt H.com
theorem CRow.opened {lo : Nat} {w : World} {A : Option Addr} {N C : Nat} {cs : List Cp} (h : CRow lo w (.slice A N C) cs) (hl : cs.length = N) (h1 : 1 ≤ N) : ∃ g cur, A = some ⟨g, 0, none⟩ ∧ lo ≤ g ∧ w.heap[g]? = some (.cells cur 45 (0, 0)) ∧ N ≤ C ∧ C ≤ maxLen := by
  obtain ⟨g, cap, hv, hg, hlt, hcc, hm⟩ := own_form h.own (by omega)
  rcases h.own.2 with ⟨e, _⟩ | ⟨g', cap', cur, e, _, hgb, _⟩
  · rw [hv] at e
    cases e
  · rw [hv] at e
    injection e with e1 e2 e3
    injection e1 with e1
    injection e1 with e1
    subst e1
    injection hv with v1 v2 v3
    subst v3
    exact ⟨g, cur, v1, hg, hgb, by omega, hm⟩
/-- Two Heads of the same numbers, side by side. -/
structure HTwo (lo : Nat) (W0 w : World) (p g s p' g' s' : Nat) (h h' : HV) (cs cs' : List Cp) (x x' : Int) : Prop where
  a : HdB w p g s h cs x
  b : HdB w p' g' s' h' cs' x'
  np : p ≠ p'
  ng : g ≠ g'
  bel : Below lo W0 w
  lo' : lo ≤ p' ∧ lo ≤ g'
section
variable {lo p g s p' g' s' : Nat} {W0 w w' : World} {h h' : HV} {cs cs' : List Cp} {x x' : Int}
theorem HTwo.below (H : HTwo lo W0 w p g s p' g' s' h h' cs cs' x x') (hb : Below w.heap.size w w') : HTwo lo W0 w' p g s p' g' s' h h' cs cs' x x' :=
  ⟨H.a.below hb, H.b.below hb, H.np, H.ng, H.bel.trans (hb.mono (by have := blk_lt H.b.blk; have := H.lo'; omega)), H.lo'⟩
/-- A cell of the second Head is written. -/
theorem HTwo.setb (H : HTwo lo W0 w p g s p' g' s' h h' cs cs' x x') (k : Nat) (v : Value) (h2 : HV) (e : h'.arr.setIfInBounds k v = h2.arr) (e1 : h2.A = h'.A ∧ h2.N = h'.N ∧ h2.C = h'.C ∧ h2.SA = h'.SA ∧ h2.sn = h'.sn) :
    HTwo lo W0 (w.setCell ⟨p', k, none⟩ v) p g s p' g' s' h h2 cs cs' x x' := by
  obtain ⟨cur, hc⟩ := H.a.rowb
  obtain ⟨cur', hc'⟩ := H.b.rowb
  have kp : ∀ q, q ≠ p' → (w.setCell ⟨p', k, none⟩ v).heap[q]? = w.heap[q]? := fun q hq => Below.heap_setCell _ _ _ _ hq
  have n1 : g ≠ p' := blk_types hc H.b.blk (by decide)
  have n2 : s ≠ p' := blk_types H.a.com H.b.blk (by decide)
  have n3 : g' ≠ p' := blk_types hc' H.b.blk (by decide)
  have n4 : s' ≠ p' := blk_types H.b.com H.b.blk (by decide)
  have hs : (w.setCell ⟨p', k, none⟩ v).heap.size = w.heap.size := size_setCell _ _ _
  refine ⟨H.a.keep (by rw [hs]; exact Nat.le_refl _) (fun q hq => kp q (by rcases hq with rfl | rfl | rfl; exact H.np; exact n1; exact n2)), ⟨?_, ?_, ⟨cur', (kp _ n3).trans hc'⟩, (kp _ n4).trans H.b.com, e1.1.trans H.b.eA, ⟨e1.2.2.2.1.trans H.b.eS.1, e1.2.2.2.2.trans H.b.eS.2⟩, H.b.len.trans e1.2.1.symm, by rw [e1.2.1]; exact H.b.few, by rw [e1.2.1, e1.2.2.1]; exact H.b.cp⟩, H.np, H.ng, H.bel.setCell (p := ⟨p', k, none⟩) H.lo'.1 v, H.lo'⟩
  · rw [blk_set H.b.blk, e]
  · rw [e1.2.1, e1.2.2.1]
    exact H.b.row.keep (by rw [hs]; exact Nat.le_refl _) (fun _ => kp _ n3)
/-- The second Head's components or its comment are others. -/
theorem HTwo.setg (H : HTwo lo W0 w p g s p' g' s' h h' cs cs' x x') (k : Nat) (v : Value) (h2 : HV) (cs2 : List Cp) (s2 : Nat) (x2 : Int) (e : h'.arr.setIfInBounds k v = h2.arr) (eA : h2.A = h'.A) (eC : h2.C = h'.C) (hr : CpL w (.slice (some ⟨g', 0, none⟩) h2.N h2.C) cs2) (hl : cs2.length = h2.N) (hN : h2.N ≤ h'.N) (hs : w.heap[s2]? = some (.cells #[.int .u8 x2] 5 (0, 0))) (hS : h2.SA = some ⟨s2, 0, none⟩ ∧ h2.sn = 1) :
    HTwo lo W0 (w.setCell ⟨p', k, none⟩ v) p g s p' g' s2 h h2 cs cs2 x x2 := by
  obtain ⟨cur, hc⟩ := H.a.rowb
  obtain ⟨cur', hc'⟩ := H.b.rowb
  have kp : ∀ q, q ≠ p' → (w.setCell ⟨p', k, none⟩ v).heap[q]? = w.heap[q]? := fun q hq => Below.heap_setCell _ _ _ _ hq
  have n1 : g ≠ p' := blk_types hc H.b.blk (by decide)
  have n2 : s ≠ p' := blk_types H.a.com H.b.blk (by decide)
  have n3 : g' ≠ p' := blk_types hc' H.b.blk (by decide)
  have n4 : s2 ≠ p' := blk_types hs H.b.blk (by decide)
  have hz : (w.setCell ⟨p', k, none⟩ v).heap.size = w.heap.size := size_setCell _ _ _
  refine ⟨H.a.keep (by rw [hz]; exact Nat.le_refl _) (fun q hq => kp q (by rcases hq with rfl | rfl | rfl; exact H.np; exact n1; exact n2)), ⟨?_, hr.keep (by rw [hz]; exact Nat.le_refl _) (fun _ => kp _ n3), ⟨cur', (kp _ n3).trans hc'⟩, (kp _ n4).trans hs, eA.trans H.b.eA, hS, hl, Nat.le_trans hN H.b.few, by rw [eC]; exact ⟨Nat.le_trans hN H.b.cp.1, H.b.cp.2⟩⟩, H.np, H.ng, H.bel.setCell (p := ⟨p', k, none⟩) H.lo'.1 v, H.lo'⟩
  rw [blk_set H.b.blk, e]
/-- A cell of a component of the second Head is written. -/
theorem HTwo.setc (H : HTwo lo W0 w p g s p' g' s' h h' cs cs' x x') {k j : Nat} {c c' : Cp} {v : Value} (hk : cs'[k]? = some c) (hj : j < 5)
    (h0 : (.int .i64 c'.d : Value) = if j = 0 then v else .int .i64 c.d) (h1 : (.bool c'.sg : Value) = if j = 1 then v else .bool c.sg) (h2 : (.int .i64 c'.dx : Value) = if j = 2 then v else .int .i64 c.dx) (h3 : (.int .i64 c'.dy : Value) = if j = 3 then v else .int .i64 c.dy) (h4 : (.slice c'.A c'.n c'.cap : Value) = if j = 4 then v else .slice c.A c.n c.cap) :
    HTwo lo W0 (w.setCell ⟨g', k * 5 + j, none⟩ v) p g s p' g' s' h h' cs (cs'.set k c') x x' := by
  obtain ⟨cur, hc⟩ := H.a.rowb
  obtain ⟨cur', hc'⟩ := H.b.rowb
  have kp : ∀ q, q ≠ g' → (w.setCell ⟨g', k * 5 + j, none⟩ v).heap[q]? = w.heap[q]? := fun q hq => Below.heap_setCell _ _ _ _ hq
  have n1 : p ≠ g' := blk_types H.a.blk hc' (by decide)
  have n2 : s ≠ g' := blk_types H.a.com hc' (by decide)
  have n3 : p' ≠ g' := blk_types H.b.blk hc' (by decide)
  have n4 : s' ≠ g' := blk_types H.b.com hc' (by decide)
  have hs : (w.setCell ⟨g', k * 5 + j, none⟩ v).heap.size = w.heap.size := size_setCell _ _ _
  exact ⟨H.a.keep (by rw [hs]; exact Nat.le_refl _) (fun q hq => kp q (by rcases hq with rfl | rfl | rfl; exact n1; exact H.ng; exact n2)), ⟨(kp _ n3).trans H.b.blk, H.b.row.put hc' hk hj h0 h1 h2 h3 h4, ⟨_, blk_set hc' _ _⟩, (kp _ n4).trans H.b.com, H.b.eA, H.b.eS, by rw [List.length_set]; exact H.b.len, H.b.few, H.b.cp⟩, H.np, H.ng, H.bel.setCell (p := ⟨g', _, none⟩) H.lo'.2 v, H.lo'⟩
end
end Go.Proofs.Ytlbfjaifemnkpaa
