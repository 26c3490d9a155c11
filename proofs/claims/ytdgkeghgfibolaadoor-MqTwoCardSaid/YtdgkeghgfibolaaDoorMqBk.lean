/- MqBack: the way back, in the worlds. -/
import Derived.Test.YtdgkeghgfibolaaDoorMqBe
import Derived.Test.YtdgkeghgfibolaaDoorMqNo
import Derived.Test.YtdgkeghgfibolaaDoorMqZ5
set_option linter.unusedVariables false
set_option linter.unusedSimpArgs false
namespace Go.Proofs.YtdgkeghgfibolaaDoor
open Go.RowKit

/-- The pairs of contexts and signs. -/
def psOf (ks bs : List Int) : List (Nat × Nat) := (ks.map Int.toNat).zip (bs.map Int.toNat)
theorem psOf_at {ks bs : List Int} {j k b : Nat} (h1 : ks[j]? = some (k : Int)) (h2 : bs[j]? = some (b : Int)) : (psOf ks bs)[j]? = some (k, b) := by
  unfold psOf
  rw [List.getElem?_zip_eq_some]
  simp [h1, h2]
theorem psOf_len {ks bs : List Int} {n : Nat} (h1 : ks.length = n) (h2 : bs.length = n) : (psOf ks bs).length = n := by
  unfold psOf; simp [h1, h2]
theorem psOf_ok {ks bs : List Int} (h1 : ∀ x ∈ ks, 0 ≤ x ∧ x < 19) (h2 : ∀ x ∈ bs, 0 ≤ x ∧ x < 2) : POk (psOf ks bs) := by
  intro p hp
  obtain ⟨h3, h4⟩ := List.of_mem_zip (a := p.1) (b := p.2) hp
  obtain ⟨x, hx, h5⟩ := List.mem_map.1 h3
  obtain ⟨y, hy, h6⟩ := List.mem_map.1 h4
  have := h1 x hx
  have := h2 y hy
  omega
/-- A decoder that follows the encoder, and the encoder's contexts beside it. -/
structure BkD (W : World) (lo q p : Nat) (ps : List (Nat × Nat)) (C ce : List Nat) (j : Nat) (w : World) : Prop where
  ex : ∃ d cx, De (fun i => lo ≤ i) W w p (q + 1) j d C cx ∧ Sim (zE (eJ ps ps.length).1) (fB C) ps j d cx
  cb : Cb w q ce
  le : lo ≤ w.heap.size
theorem BkD.drew {W : World} {lo q p : Nat} {ps : List (Nat × Nat)} {C ce : List Nat} {j : Nat} {w : World} (h : BkD W lo q p ps C ce j w) : BkD W lo q p ps C ce j w.drew := by
  obtain ⟨⟨d, cx, h1, h2⟩, h3, h4⟩ := h
  exact ⟨⟨d, cx, h1.drew, h2⟩, h3, h4⟩
theorem BkD.bel {W : World} {lo q p : Nat} {ps : List (Nat × Nat)} {C ce : List Nat} {j : Nat} {w : World} (h : BkD W lo q p ps C ce j w) : Below W.heap.size W w := by
  obtain ⟨⟨d, cx, h1, h2⟩, h3, h4⟩ := h
  exact h1.bel
theorem BkD.start {W : World} {lo q p : Nat} {ps : List (Nat × Nat)} {C ce : List Nat} {w : World} {n N : Nat} (hD : DW (fun i => lo ≤ i) w p (dNew (fB C)) C) (hc1 : Cb w (q + 1) (cxF 19)) (hc0 : Cb w q ce) (hl : lo ≤ w.heap.size) (hB : Below W.heap.size W w) (hps : POk ps) (hn : n ≤ ps.length)
    (hf : ∀ i, i ≤ N → fB C i = zE (eJ ps ps.length).1 (i + 1)) (hN : (eJ ps n).1.pre.length + 4 ≤ N) : BkD W lo q p ps C ce 0 w :=
  ⟨⟨_, _, ⟨hD, hc1, f19_ok, (dNew_ok _).1, by have := (dNew_ok (fB C)).2; omega, hB⟩, Sim.start hps hn hf hN⟩, hc0, hl⟩
theorem BkD.call {W : World} {lo q p : Nat} {ps : List (Nat × Nat)} {C ce : List Nat} {j k b : Nat} {w : World} {n N : Nat} (h : BkD W lo q p ps C ce j w) (hT : Tab W) (hWq : W.heap.size ≤ q) (hql : q + 1 < lo) (hps : POk ps) (hn : n ≤ ps.length)
    (hf : ∀ i, i ≤ N → fB C i = zE (eJ ps ps.length).1 (i + 1)) (hN : (eJ ps n).1.pre.length + 4 ≤ N) (hj : j < n) (hj4 : j < 400) (hp : ps[j]? = some (k, b)) :
    Calls Tryd.prog 27 #[.pointer (some ⟨p, 0, none⟩), .pointer (some ⟨q + 1, 0, none⟩), .int .i64 (k : Int)] w fun x w' => x = .returned (.int .i64 (b : Int)) ∧ BkD W lo q p ps C ce (j + 1) w' ∧ Below q w w' := by
  obtain ⟨⟨d, cx, hd, hs⟩, hc, hl⟩ := h
  have hk := hps (k, b) (List.mem_of_getElem? hp)
  have hx := Sim.next hps hn hf hN hj hp hs
  have hx1 : (dB (fB C) d cx k).1 = b := hx.1
  have hpos := hT.pos
  refine (decode_any (P := fun i => lo ≤ i) hd.dw hd.cb (by show ¬ lo ≤ q + 1; omega) (hT.below hpos hd.bel) (by show ¬ lo ≤ 0; omega) (by omega) hd.ok hd.dok.a3 hd.dok.a2 hd.dok.ct (by have := hd.at_; omega) (k := k) hk.1 (fun i hi => Nat.le_trans hl hi)).mono ?_
  rintro x w' ⟨rfl, h1, h2, o⟩
  have hne : ∀ i, EC (fun i => lo ≤ i) (q + 1) i → q < i := fun i hi => by
    rcases hi with hi | hi
    · have : lo ≤ i := hi
      omega
    · omega
  exact ⟨by rw [hx1], ⟨⟨_, _, hd.next hk.1 (fun i hi => by have := hne i hi; omega) h1 h2 o, hx.2⟩, hc.only o (fun h => by have := hne _ h; omega), Nat.le_trans hl o.size⟩, Only.below o fun i hi => Nat.le_of_lt (hne i hi)⟩
theorem BkD.load {W : World} {lo q p : Nat} {ps : List (Nat × Nat)} {C : List Nat} {n : Nat} {w : World} (h : BkD W lo q p ps C (eJ ps n).2 n w) : Cb w q (eJ ps n).2 ∧ Cb w (q + 1) (eJ ps n).2 := by
  obtain ⟨⟨d, cx, hd, _, rfl⟩, hc, _⟩ := h
  exact ⟨hc, hd.cb⟩
theorem eJ_next {ps : List (Nat × Nat)} {j k b : Nat} {e : E} {cx : List Nat} (h : eJ ps j = (e, cx)) (hp : ps[j]? = some (k, b)) : eJ ps (j + 1) = (sE e cx k b, sC e cx k b) := by
  rw [eJ_succ hp, h]
theorem mCode_255 {e : E} (f : Fine e) : ∀ x ∈ mCode e, x ≤ 255 := by
  intro x hx
  obtain ⟨i, hi, rfl⟩ := List.getElem_of_mem hx
  have := zE_255 f (i + 1)
  rw [zE_code] at this
  unfold fB at this
  rwa [List.getD_eq_getElem?_getD, List.getElem?_eq_getElem hi] at this
end Go.Proofs.YtdgkeghgfibolaaDoor
