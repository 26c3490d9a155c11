/- Split of waveletref10: the state of its loop. -/
import Derived.Test.YtgadebfelomhpaaRh
set_option linter.unusedVariables false
set_option linter.unusedSimpArgs false
namespace Go.Proofs.Ytgadebfelomhpaa
open Go.RowKit

theorem lows_q (x n m : Nat) (b : Int) (w : World) (hx : x ≤ 100000) (hn : n ≤ 1000) (hb : (x : Int) + (n : Int) = b) (hm : lowN (x % 2) n = m) :
    Calls Try.prog 28 #[.int .i64 (x : Int), .int .i64 b] w fun e w' => e = .returned (.int .i64 (m : Int)) ∧ ∃ n, w' = w.drewN n :=
  (lows_any x n m b w hx hn hb hm).mono fun e w' h => ⟨h.1, 0, h.2⟩
theorem RowO.rowS {lo : Nat} {w : World} {A : Option Addr} {n c : Nat} {l : List Int} (h : RowO lo w A n c l) : RowS (fun b => lo ≤ b ∧ b < w.heap.size) w A n c l :=
  ⟨h.row.1, h.row.2.1, h.row.2.2.1, h.row.2.2.2.1, fun i u hu => by
    obtain ⟨b, o, e, hb, hc⟩ := h.row.2.2.2.2 i u hu
    refine ⟨b, o, e, ?_, hc⟩
    subst e
    rcases h.2 with ⟨hv, _⟩ | ⟨g, cap, cur, hv, hg, hgb, _⟩
    · injection hv with hv; cases hv
    · injection hv with hv; injection hv with hv; injection hv with hv
      subst hv
      exact ⟨hg, hb⟩⟩
theorem Named.mono {S T : Nat → Prop} {w : World} {vs : List Value} {ls : List (List Int)} (h : Named S w vs ls) (hk : ∀ b, S b → T b) : Named T w vs ls :=
  ⟨h.1, fun j l hj => by
    obtain ⟨A, c, hv, hr⟩ := h.2 j l hj
    exact ⟨A, c, hv, hr.mono hk⟩⟩
theorem named_cons {S : Nat → Prop} {w : World} {A : Option Addr} {n c : Nat} {l : List Int} {vs : List Value} {ls : List (List Int)} (h : RowS S w A n c l) (h' : Named S w vs ls) : Named S w (.slice A n c :: vs) (l :: ls) := by
  refine ⟨by rw [List.length_cons, List.length_cons, h'.1], fun j u hj => ?_⟩
  rcases j with _ | j
  · simp at hj; subst hj
    refine ⟨A, c, by rw [h.1]; rfl, ?_⟩
    rw [h.1]; exact h
  · exact h'.2 j u (by simpa using hj)
theorem named_nil {S : Nat → Prop} {w : World} : Named S w [] [] := ⟨rfl, fun j l hj => by cases hj⟩

/-- The reference's Split behind k steps. -/
structure RfW (w0 wr : World) (g : Geo) (P : Nat → Nat → Int) (k : Nat) (lv hv : Value) : Prop where
  bel : Below w0.heap.size w0 wr
  box : RB wr w0.heap.size (itG g k)
  ll : ∃ A c, lv = .slice A ((itG g k).w * (itG g k).h) c ∧ RowS (fun b => w0.heap.size < b ∧ b < wr.heap.size) wr A ((itG g k).w * (itG g k).h) c (flat (itG g k).w (itG g k).h (itP g P k))
  hi : ∃ vs, wr.ownsRow (w0.heap.size + 1) 24 1 hv (3 * k) vs ∧ Named (fun b => w0.heap.size < b ∧ b < wr.heap.size) wr vs (upK g P k) ∧ ∀ u ∈ vs, u.oneCell' = true

/-- The four parts of a lifted plane. -/
structure Quad (lo : Nat) (w : World) (G : Geo) (Q : Nat → Nat → Int) (A0 A1 A2 A3 : Option Addr) (n0 n1 n2 n3 c0 c1 c2 c3 : Nat) : Prop where
  q0 : RowS (fun b => lo ≤ b ∧ b < w.heap.size) w A0 n0 c0 (quar G Q 0)
  q1 : RowS (fun b => lo ≤ b ∧ b < w.heap.size) w A1 n1 c1 (quar G Q 1)
  q2 : RowS (fun b => lo ≤ b ∧ b < w.heap.size) w A2 n2 c2 (quar G Q 2)
  q3 : RowS (fun b => lo ≤ b ∧ b < w.heap.size) w A3 n3 c3 (quar G Q 3)
theorem RowS.up {lo lo' : Nat} {w w' : World} {A : Option Addr} {n c : Nat} {l : List Int} (h : RowS (fun b => lo ≤ b ∧ b < w.heap.size) w A n c l) (hk : ∀ b, lo ≤ b → b < w.heap.size → w'.heap[b]? = w.heap[b]?) (hl : lo' ≤ lo) (hs : w.heap.size ≤ w'.heap.size) : RowS (fun b => lo' ≤ b ∧ b < w'.heap.size) w' A n c l :=
  (h.keep fun b hb => hk b hb.1 hb.2).mono fun b hb => ⟨by omega, by omega⟩
theorem Quad.rows {lo : Nat} {w : World} {G : Geo} {Q : Nat → Nat → Int} {A0 A1 A2 A3 : Option Addr} {n0 n1 n2 n3 c0 c1 c2 c3 : Nat} (h : Quad lo w G Q A0 A1 A2 A3 n0 n1 n2 n3 c0 c1 c2 c3) :
    Named (fun b => lo ≤ b ∧ b < w.heap.size) w [.slice A1 n1 c1, .slice A2 n2 c2, .slice A3 n3 c3] [quar G Q 1, quar G Q 2, quar G Q 3] :=
  named_cons h.q1 (named_cons h.q2 (named_cons h.q3 named_nil))
theorem RowsO_lower {lo lo' n : Nat} {w : World} {v : Value} {vs : List Value} (h : w.ownsRow lo 24 1 v n vs) (hl : lo' ≤ lo) : w.ownsRow lo' 24 1 v n vs := by
  refine ⟨h.1, ?_⟩
  rcases h.2 with h | ⟨g, cap, cur, hv, hg, r⟩
  · exact Or.inl h
  · exact Or.inr ⟨g, cap, cur, hv, Nat.le_trans hl hg, r⟩
theorem RfW.step {w0 wr w9 w10 u : World} {g : Geo} {P : Nat → Nat → Int} {k : Nat} {lv hv : Value} (h : RfW w0 wr g P k lv hv) (hb9 : Below wr.heap.size wr w9) {A0 A1 A2 A3 : Option Addr} {n0 n1 n2 n3 c0 c1 c2 c3 : Nat}
    (q1 : RowS (fun b => wr.heap.size ≤ b ∧ b < w9.heap.size) w9 A1 n1 c1 (quar (itG g k) (itP g P (k + 1)) 1)) (q2 : RowS (fun b => wr.heap.size ≤ b ∧ b < w9.heap.size) w9 A2 n2 c2 (quar (itG g k) (itP g P (k + 1)) 2)) (q3 : RowS (fun b => wr.heap.size ≤ b ∧ b < w9.heap.size) w9 A3 n3 c3 (quar (itG g k) (itP g P (k + 1)) 3))
    {vs : List Value} (hvs : Named (fun b => w0.heap.size < b ∧ b < wr.heap.size) wr vs (upK g P k)) (hone : ∀ u ∈ vs, u.oneCell' = true) {hv' : Value}
    (ho : w10.ownsRow w9.heap.size 24 1 hv' (3 + 3 * k) ([.slice A1 n1 c1, .slice A2 n2 c2, .slice A3 n3 c3] ++ vs)) (hb10 : Below w9.heap.size w9 w10) (hu : Below w10.heap.size w10 u)
    (q0 : RowS (fun b => w10.heap.size ≤ b ∧ b < u.heap.size) u A0 n0 c0 (quar (itG g k) (itP g P (k + 1)) 0)) {a0 a1 a2 a3 : Int} (e : rectV (itG g (k + 1)) = .agg #[.int .i64 a0, .int .i64 a1, .int .i64 a2, .int .i64 a3]) :
    RfW w0 (setRect u w0.heap.size a0 a1 a2 a3) g P (k + 1) (.slice A0 n0 c0) hv' := by
  have s1 := h.bel.size
  have hb0 := h.box.lt
  have s2 := hb9.size
  have s3 := hb10.size
  have s4 := hu.size
  have B9u : Below w9.heap.size w9 u := hb10.trans (hu.mono hb10.size)
  have Bru : Below wr.heap.size wr u := hb9.trans (B9u.mono hb9.size)
  have E3 : ∀ b, w0.heap.size < b → (setRect u w0.heap.size a0 a1 a2 a3).heap[b]? = u.heap[b]? := fun b hb => (setRect_only u w0.heap.size a0 a1 a2 a3).block b (by omega)
  have hsz : u.heap.size ≤ (setRect u w0.heap.size a0 a1 a2 a3).heap.size := (setRect_only u w0.heap.size a0 a1 a2 a3).size
  have hbox : RB u w0.heap.size (itG g k) := (Bru.block _ hb0).trans h.box
  have m9 : ∀ {A : Option Addr} {n c : Nat} {l : List Int}, RowS (fun b => wr.heap.size ≤ b ∧ b < w9.heap.size) w9 A n c l → RowS (fun b => w0.heap.size < b ∧ b < (setRect u w0.heap.size a0 a1 a2 a3).heap.size) (setRect u w0.heap.size a0 a1 a2 a3) A n c l := fun q =>
    (q.keep fun b hb => (E3 b (by omega)).trans (B9u.block b hb.2)).mono fun b hb => ⟨by omega, by omega⟩
  refine ⟨?_, hbox.set e, ⟨A0, c0, ?_, ?_⟩, ⟨[.slice A1 n1 c1, .slice A2 n2 c2, .slice A3 n3 c3] ++ vs, ?_, ?_, ?_⟩⟩
  · have b4 := h.bel.trans (Bru.mono s1)
    exact ⟨(setRect_only u _ a0 a1 a2 a3).os.trans b4.os, (setRect_only u _ a0 a1 a2 a3).tape.trans b4.tape, (setRect_only u _ a0 a1 a2 a3).output.trans b4.output, Nat.le_trans b4.size hsz, fun b hb => ((setRect_only u w0.heap.size a0 a1 a2 a3).block b (by omega)).trans (b4.block b hb)⟩
  · have hl := q0.1
    rw [quar_low, flat_len] at hl
    have e2 : (itG g (k + 1)).w * (itG g (k + 1)).h = n0 := hl
    rw [e2]
  · have hl := q0.1
    rw [quar_low, flat_len] at hl
    have e2 : (itG g (k + 1)).w * (itG g (k + 1)).h = n0 := hl
    rw [e2]
    rw [quar_low] at q0
    exact (q0.keep fun b hb => E3 b (by omega)).mono fun b hb => ⟨by omega, by omega⟩
  · rw [show 3 * (k + 1) = 3 + 3 * k from by omega]
    refine ownsRow_keep (RowsO_lower ho (by omega)) (by omega) fun b e => ?_
    have hb := own_lt ho e
    exact (E3 b (by omega)).trans (hu.block b hb.2)
  · show Named _ _ ([.slice A1 n1 c1, .slice A2 n2 c2, .slice A3 n3 c3] ++ vs) (highs g P k ++ upK g P k)
    refine Named.app (named_cons (m9 q1) (named_cons (m9 q2) (named_cons (m9 q3) named_nil))) ?_
    exact (hvs.keep fun b hb => (E3 b hb.1).trans (Bru.block b hb.2)).mono fun b hb => ⟨hb.1, by omega⟩
  · intro u hu
    simp at hu
    rcases hu with rfl | rfl | rfl | hu
    · rfl
    · rfl
    · rfl
    · exact hone u hu
end Go.Proofs.Ytgadebfelomhpaa
