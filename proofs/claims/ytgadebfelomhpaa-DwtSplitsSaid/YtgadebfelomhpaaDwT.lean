/- Split of package dwt: the state of its first loop. -/
import Derived.Test.YtgadebfelomhpaaDwR
set_option linter.unusedVariables false
set_option linter.unusedSimpArgs false
namespace Go.Proofs.Ytgadebfelomhpaa
open Go.RowKit

/-- Split behind k steps. -/
structure SpW (lo b0 : Nat) (w0 wr : World) (g : Geo) (P : Nat → Nat → Int) (k : Nat) (pv sv : Value) (zs : Nat → Nat) (H : Nat → Prop) : Prop where
  bel : Below lo w0 wr
  los : lo ≤ w0.heap.size
  box : RB wr b0 (itG g k)
  blo : lo ≤ b0
  pl : ∃ A c, pv = .slice A ((itG g k).w * (itG g k).h) c ∧ PlO lo wr A c (itG g k) (itP g P k)
  st : wr.ownsRow lo 30 1 sv k ((List.range k).map fun i => .slice (some ⟨zs i, 1, none⟩) 3 3)
  hi : ∀ i, i < k → RowsS H wr (some ⟨zs i, 1, none⟩) 3 3 (highs g P i)
  hb : ∀ b, H b → b < wr.heap.size ∧ b ≠ b0 ∧ pv.ownBlock ≠ some b ∧ sv.ownBlock ≠ some b
  pb : pv.ownBlock ≠ some b0
  sb : sv.ownBlock ≠ some b0
  ps : ∀ b, pv.ownBlock = some b → sv.ownBlock ≠ some b

theorem SpW.st1 {lo b0 : Nat} {w0 wr : World} {g : Geo} {P : Nat → Nat → Int} {k : Nat} {pv sv : Value} {zs : Nat → Nat} {H : Nat → Prop} (h : SpW lo b0 w0 wr g P k pv sv zs H)
    {z : Nat} {W1 w1 : World} {V : Nat → Value} {X : Nat → List Int} (hq : QG z W1 w1 V X) (hg : wr.grownBy W1 pv.ownBlock) :
    w1.ownsRow lo 30 1 sv k ((List.range k).map fun i => .slice (some ⟨zs i, 1, none⟩) 3 3) ∧ RB w1 b0 (itG g k) ∧ lo ≤ w1.heap.size := by
  have hz1 : wr.heap.size ≤ z := by rw [← hq.siz]; exact hg.size
  have hzw := hq.zlt
  have E1 : ∀ b, b < wr.heap.size → pv.ownBlock ≠ some b → w1.heap[b]? = wr.heap[b]? := fun b hb hn => (hq.bel.block b (by omega)).trans (hg.block b hb (fun e => hn e.symm))
  refine ⟨ownsRow_keep h.st (by omega) fun b e => E1 b (own_lt h.st e).2 (fun e2 => h.ps b e2 e), (E1 b0 h.box.lt h.pb).trans h.box, ?_⟩
  have := h.los; have := h.bel.size; omega
theorem SpW.step {lo b0 : Nat} {w0 wr : World} {g : Geo} {P : Nat → Nat → Int} {k : Nat} {pv sv : Value} {zs : Nat → Nat} {H : Nat → Prop} (h : SpW lo b0 w0 wr g P k pv sv zs H)
    {z : Nat} {W1 w1 w3 u : World} {V : Nat → Value} (hq : QG z W1 w1 V (quar (itG g k) (itP g P (k + 1)))) (hg : wr.grownBy W1 pv.ownBlock) {o : Obj} (ha : (w1.alloc o).grownBy w3 sv.ownBlock) {sv' : Value}
    (ho : w3.ownsRow lo 30 1 sv' (k + 1) (((List.range k).map fun i => .slice (some ⟨zs i, 1, none⟩) 3 3) ++ [.slice (some ⟨z, 1, none⟩) 3 3])) (hat : sv'.ownBlock = sv.ownBlock ∨ sv'.ownBlock = some (w1.alloc o).heap.size)
    (hu : Below w3.heap.size w3 u) {a0 a1 a2 a3 : Int} (e : rectV (itG g (k + 1)) = .agg #[.int .i64 a0, .int .i64 a1, .int .i64 a2, .int .i64 a3]) :
    SpW lo b0 w0 (setRect u b0 a0 a1 a2 a3) g P (k + 1) (V 0) sv' (fun i => if i = k then z else zs i) (fun b => H b ∨ b = z ∨ ∃ i, 1 ≤ i ∧ i < 4 ∧ (V i).ownBlock = some b) := by
  have hlw := Nat.le_trans h.los h.bel.size
  have hz1 : wr.heap.size ≤ z := by rw [← hq.siz]; exact hg.size
  have hzw := hq.zlt
  have ha0 : (w1.alloc o).heap.size = w1.heap.size + 1 := by simp
  have ha1 : w1.heap.size + 1 ≤ w3.heap.size := by rw [← ha0]; exact ha.size
  have hu1 := hu.size
  have hb0 := h.box.lt
  have hsv : ∀ b, sv.ownBlock = some b → lo ≤ b ∧ b < wr.heap.size := fun b e => own_lt h.st e
  have hpv : ∀ b, pv.ownBlock = some b → lo ≤ b ∧ b < wr.heap.size := fun b e => by
    obtain ⟨A, c, rfl, hp⟩ := h.pl
    exact own_lt hp e
  have hV : ∀ i, i < 4 → ∀ b, (V i).ownBlock = some b → z + 1 ≤ b ∧ b < w1.heap.size := fun i hi b e => own_lt (hq.own i hi) e
  -- an elder block that is not the plane's: as it was, behind split
  have E1 : ∀ b, b < wr.heap.size → pv.ownBlock ≠ some b → w1.heap[b]? = wr.heap[b]? := fun b hb hn => (hq.bel.block b (by omega)).trans (hg.block b hb (fun e => hn e.symm))
  have E2 : ∀ b, b < w1.heap.size → sv.ownBlock ≠ some b → u.heap[b]? = w1.heap[b]? := fun b hb hn =>
    (hu.block b (by omega)).trans ((ha.block b (by omega) (fun e => hn e.symm)).trans (Below.heap_alloc w1 o b hb))
  have E3 : ∀ b, b ≠ b0 → (setRect u b0 a0 a1 a2 a3).heap[b]? = u.heap[b]? := fun b hb => (setRect_only u b0 a0 a1 a2 a3).block b hb
  have hsz : u.heap.size ≤ (setRect u b0 a0 a1 a2 a3).heap.size := (setRect_only u b0 a0 a1 a2 a3).size
  have hsv' : ∀ b, sv'.ownBlock = some b → sv.ownBlock = some b ∨ b = w1.heap.size + 1 := fun b e => by
    rcases hat with q | q
    · exact Or.inl (q ▸ e)
    · right; rw [q, ha0] at e; injection e with e; exact e.symm
  have hbox : RB u b0 (itG g k) := (E2 b0 (by omega) h.sb).trans ((E1 b0 hb0 h.pb).trans h.box)
  refine ⟨?_, h.los, hbox.set e, h.blo, ?_, ?_, ?_, ?_, ?_, ?_, ?_⟩
  · have b1 : Below lo w0 W1 := h.bel.grown hg hlw fun b e => (hpv b e).1
    have b2 := (b1.trans (hq.bel.mono (by omega))).alloc (by omega) o
    have b3 := b2.grown ha (by omega) fun b e => (hsv b e).1
    have b4 := b3.trans (hu.mono (by omega))
    exact ⟨(setRect_only u b0 a0 a1 a2 a3).os.trans b4.os, (setRect_only u b0 a0 a1 a2 a3).tape.trans b4.tape, (setRect_only u b0 a0 a1 a2 a3).output.trans b4.output, Nat.le_trans b4.size hsz, fun b hb => (E3 b (by have := h.blo; omega)).trans (b4.block b hb)⟩
  · obtain ⟨A, c, hv, hr⟩ := hq.row (k := 0) (by omega)
    have hl : (quar (itG g k) (itP g P (k + 1)) 0).length = (itG g (k + 1)).w * (itG g (k + 1)).h := by rw [quar_low, flat_len]; rfl
    refine ⟨A, c, by rw [hv, hl], ?_⟩
    have ho0 := hq.own 0 (by omega)
    rw [hv, hl, quar_low] at ho0
    have h1 : w1.ownsRow lo 3 1 (.slice A ((itG g (k + 1)).w * (itG g (k + 1)).h) c) ((itG g (k + 1)).w * (itG g (k + 1)).h) ((flat (itG g (k + 1)).w (itG g (k + 1)).h (itP g P (k + 1))).map (Value.int .i64)) := RowO.lower ho0 (by omega)
    refine ownsRow_keep h1 (by omega) fun b e => ?_
    have hb := hV 0 (by omega) b (by rw [hv, hl]; exact e)
    exact (E3 b (by omega)).trans (E2 b hb.2 (fun e2 => by have := hsv b e2; omega))
  · have e1 : ((List.range (k + 1)).map fun i => Value.slice (some ⟨if i = k then z else zs i, 1, none⟩) 3 3) = ((List.range k).map fun i => Value.slice (some ⟨zs i, 1, none⟩) 3 3) ++ [.slice (some ⟨z, 1, none⟩) 3 3] := by
      rw [List.range_succ, List.map_append]
      congr 1
      · apply List.map_congr_left
        intro i hi
        rw [if_neg (by have := List.mem_range.1 hi; omega)]
      · simp
    rw [e1]
    refine ownsRow_keep ho (by omega) fun b e => ?_
    have hbl := (own_lt ho e).2
    have hne : b ≠ b0 := fun e2 => by
      subst e2
      rcases hsv' b e with q | q
      · exact h.sb q
      · omega
    exact (E3 b hne).trans (hu.block b hbl)
  · intro i hi
    by_cases hik : i = k
    · subst hik
      rw [if_pos rfl]
      have := hq.highs (S := fun b => b = z ∨ ∃ i, 1 ≤ i ∧ i < 4 ∧ (V i).ownBlock = some b) (Or.inl rfl) (fun i h1 h4 b e => Or.inr ⟨i, h1, h4, e⟩)
      refine RowsS.mono (RowsS.keep this fun b hb => ?_) fun b hb => Or.inr hb
      have hb2 : z ≤ b ∧ b < w1.heap.size := by
        rcases hb with rfl | ⟨j, h1, h4, e⟩
        · omega
        · have := hV j h4 b e; omega
      exact (E3 b (by omega)).trans (E2 b hb2.2 (fun e2 => by have := hsv b e2; omega))
    · rw [if_neg hik]
      refine RowsS.mono (RowsS.keep (h.hi i (by omega)) fun b hb => ?_) fun b hb => Or.inl hb
      have := h.hb b hb
      exact (E3 b this.2.1).trans ((E2 b (by omega) this.2.2.2).trans (E1 b this.1 this.2.2.1))
  · intro b hb
    have hb2 : b < wr.heap.size ∧ b ≠ b0 ∧ sv.ownBlock ≠ some b ∨ (z ≤ b ∧ b < w1.heap.size ∧ (V 0).ownBlock ≠ some b) := by
      rcases hb with hb | rfl | ⟨j, h1, h4, e⟩
      · exact Or.inl ⟨(h.hb b hb).1, (h.hb b hb).2.1, (h.hb b hb).2.2.2⟩
      · exact Or.inr ⟨by omega, by omega, fun e => by have := hV 0 (by omega) _ e; omega⟩
      · exact Or.inr ⟨by have := hV j h4 b e; omega, (hV j h4 b e).2, hq.dis j 0 h4 (by omega) (by omega) b e⟩
    rcases hb2 with ⟨q1, q2, q3⟩ | ⟨q1, q2, q3⟩
    · refine ⟨by omega, q2, fun e => by have := hV 0 (by omega) b e; omega, fun e => ?_⟩
      rcases hsv' b e with q | q
      · exact q3 q
      · omega
    · refine ⟨by omega, by omega, q3, fun e => ?_⟩
      rcases hsv' b e with q | q
      · have := hsv b q; omega
      · omega
  · exact fun e => by have := hV 0 (by omega) b0 e; omega
  · intro e
    rcases hsv' b0 e with q | q
    · exact h.sb q
    · omega
  · intro b e e2
    have := hV 0 (by omega) b e
    rcases hsv' b e2 with q | q
    · have := hsv b q; omega
    · omega

/-- Each row of rows is named in its place. -/
def Named (S : Nat → Prop) (w : World) (vs : List Value) (ls : List (List Int)) : Prop := vs.length = ls.length ∧ ∀ (j : Nat) (l : List Int), ls[j]? = some l → ∃ A c, vs[j]? = some (Value.slice A l.length c) ∧ RowS S w A l.length c l
theorem Named.app {S : Nat → Prop} {w : World} {vs vs' : List Value} {ls ls' : List (List Int)} (h : Named S w vs ls) (h' : Named S w vs' ls') : Named S w (vs ++ vs') (ls ++ ls') := by
  refine ⟨by rw [List.length_append, List.length_append, h.1, h'.1], fun j l hj => ?_⟩
  rcases Nat.lt_or_ge j ls.length with hl | hl
  · rw [List.getElem?_append_left hl] at hj
    rw [List.getElem?_append_left (by rw [h.1]; exact hl)]
    exact h.2 j l hj
  · rw [List.getElem?_append_right hl] at hj
    rw [List.getElem?_append_right (by rw [h.1]; exact hl), h.1]
    exact h'.2 _ l hj
theorem named_own {w : World} {base n c : Nat} {A : Option Addr} {vs : List Value} {ls : List (List Int)} {S : Nat → Prop} (ho : w.ownsRow base 24 1 (.slice A n c) n vs) (h : Named S w vs ls) (hS : ∀ b, S b → b < w.heap.size) : RowsI w A n c ls := by
  have hl := ho.1
  rw [Nat.mul_one] at hl
  obtain ⟨A', c', hv, h1, h2, h3⟩ := own_any ho
  injection hv with e1 e2 e3
  subst e1 e3
  refine ⟨h.1.symm.trans hl, h2, h3, h1, fun i l hi => ?_⟩
  obtain ⟨A', c', hv, hr⟩ := h.2 i l hi
  obtain ⟨b, o, e, hb, hc⟩ := Lst.own ho i _ hv
  exact ⟨b, o, A', c', e, hb, hc, hr.mono hS⟩
theorem named_three {S : Nat → Prop} {w : World} {z : Nat} {l1 l2 l3 : List Int} (h : RowsS S w (some ⟨z, 1, none⟩) 3 3 [l1, l2, l3]) :
    ∃ v1 v2 v3, w.cell? ⟨z, 1, none⟩ = some v1 ∧ w.cell? ⟨z, 2, none⟩ = some v2 ∧ w.cell? ⟨z, 3, none⟩ = some v3 ∧ v1.oneCell' = true ∧ v2.oneCell' = true ∧ v3.oneCell' = true ∧ Named S w [v1, v2, v3] [l1, l2, l3] ∧ S z := by
  obtain ⟨b1, o1, A1, c1, e1, s1, h1, r1⟩ := h.2.2.2.2 0 l1 rfl
  obtain ⟨b2, o2, A2, c2, e2, s2, h2, r2⟩ := h.2.2.2.2 1 l2 rfl
  obtain ⟨b3, o3, A3, c3, e3, s3, h3, r3⟩ := h.2.2.2.2 2 l3 rfl
  injection e1 with e1; injection e1 with e1 f1; subst e1 f1
  injection e2 with e2; injection e2 with e2 f2; subst e2 f2
  injection e3 with e3; injection e3 with e3 f3; subst e3 f3
  refine ⟨_, _, _, h1, h2, h3, rfl, rfl, rfl, ⟨rfl, fun j l hj => ?_⟩, s1⟩
  rcases j with _ | _ | _ | j
  · simp at hj; subst hj; exact ⟨A1, c1, rfl, r1⟩
  · simp at hj; subst hj; exact ⟨A2, c2, rfl, r2⟩
  · simp at hj; subst hj; exact ⟨A3, c3, rfl, r3⟩
  · simp at hj
theorem Named.keep {S : Nat → Prop} {w w' : World} {vs : List Value} {ls : List (List Int)} (h : Named S w vs ls) (hk : ∀ b, S b → w'.heap[b]? = w.heap[b]?) : Named S w' vs ls :=
  ⟨h.1, fun j l hj => by
    obtain ⟨A, c, hv, hr⟩ := h.2 j l hj
    exact ⟨A, c, hv, hr.keep hk⟩⟩
/-- Behind the first loop: the block of the bands is made. -/
structure SpB (w0 W5 : World) (hs : Nat) (g : Geo) (P : Nat → Nat → Int) (n : Nat) (pv sv : Value) (zs : Nat → Nat) : Prop where
  siz : W5.heap.size = hs + 1
  bel : Below w0.heap.size w0 W5
  los : w0.heap.size ≤ hs
  st : W5.ownsRow w0.heap.size 30 1 sv n ((List.range n).map fun i => .slice (some ⟨zs i, 1, none⟩) 3 3)
  sb : ∀ b, sv.ownBlock = some b → b < hs
  low : Named (fun b => b < hs) W5 [pv] [lowest g P n]
  hi : ∀ i, i < n → RowsS (fun b => b < hs) W5 (some ⟨zs i, 1, none⟩) 3 3 (highs g P i)
  bd : W5.ownsRow hs 24 1 (.slice (some ⟨hs, 0, none⟩) 1 1) 1 [pv]
theorem SpW.bands {b0 : Nat} {w0 wr : World} {g : Geo} {P : Nat → Nat → Int} {n : Nat} {pv sv : Value} {zs : Nat → Nat} {H : Nat → Prop} (h : SpW w0.heap.size b0 w0 wr g P n pv sv zs H) :
    SpB w0 (wr.alloc (.cells #[pv] 24)) wr.heap.size g P n pv sv zs := by
  have hk : ∀ b, b < wr.heap.size → (wr.alloc (.cells #[pv] 24)).heap[b]? = wr.heap[b]? := fun b hb => Below.heap_alloc wr _ b hb
  refine ⟨by simp, h.bel.alloc h.bel.size _, h.bel.size, h.st.alloc _, fun b e => (own_lt h.st e).2, ?_, fun i hi => ?_, ?_⟩
  · obtain ⟨A, c, rfl, hp⟩ := h.pl
    refine ⟨rfl, fun j l hj => ?_⟩
    rcases j with _ | j
    · simp at hj; subst hj
      have hl : (lowest g P n).length = (itG g n).w * (itG g n).h := flat_len _ _ _
      refine ⟨A, c, by rw [hl]; rfl, ?_⟩
      rw [hl]
      exact RowS.keep (PlO.row hp).rowS hk
    · simp at hj
  · exact RowsS.mono (RowsS.keep (h.hi i hi) fun b hb => hk b (h.hb b hb).1) fun b hb => (h.hb b hb).1
  · have := World.ownsRow_lit (base := wr.heap.size) (e := 24) (size := 1) wr #[pv] 1 (Nat.le_refl _) (by unfold maxLen; omega) rfl
    exact this
end Go.Proofs.Ytgadebfelomhpaa
