/- BytesGet: the two Readers side by side. -/
import Derived.Test.YtjnmdfnankcboaaRget2
import Derived.Test.YtjnmdfnankcboaaBytesLaws
set_option linter.unusedVariables false
namespace Go.Proofs.Ytjnmdfnankcboaa
open Go.RowKit

/-- Package bytes' Reader p stands at P, E; the reference's q at P', E'. -/
structure Sx (w : World) (lo p q : Nat) (a0 : Option Addr) (c0 n : Nat) (F : List Int) (u : World) (P : Nat) (E : Int) (P' : Nat) (E' : Int) : Prop where
  rd : Rd u lo p (F.drop P) E
  qr : Qr u q a0 c0 n P' E'
  lst : Lst u w.heap.size a0 (F.map (Value.int .u8))
  bel : Below w.heap.size w u
  low : w.heap.size ≤ lo
  plo : lo ≤ p
  pq : p < q
section
variable {w : World} {lo p q : Nat} {a0 : Option Addr} {c0 n : Nat} {F : List Int} {u u' : World} {P P' P2 : Nat} {E E' E2 : Int}
theorem Sx.drew (h : Sx w lo p q a0 c0 n F u P E P' E') (k : Nat) : Sx w lo p q a0 c0 n F (u.drewN k) P E P' E' :=
  ⟨h.rd.drew (Drew.mk _ _), h.qr, h.lst, below_drewN h.bel k, h.low, h.plo, h.pq⟩
theorem Sx.drews (h : Sx w lo p q a0 c0 n F u P E P' E') (d : Drew u u') : Sx w lo p q a0 c0 n F u' P E P' E' := by
  obtain ⟨k, rfl⟩ := d; exact h.drew k
theorem Sx.code (h : Sx w lo p q a0 c0 n F u P E P' E') (hr : Rd u' lo p (F.drop P2) E2) (g : u.grownBy u' (some p)) : Sx w lo p q a0 c0 n F u' P2 E2 P' E' := by
  have hq := blk_lt h.qr
  have h1 := h.low
  have h2 := h.plo
  have h3 := h.pq
  refine ⟨hr, (g.block q hq (by intro e; injection e with e; omega)).trans h.qr, h.lst.keep fun a ha => World.cell?_of_block (g.block a.block (by omega) (by intro e; injection e with e; omega)), h.bel.grown g h.bel.size (fun k hk => by injection hk with hk; omega), h.low, h.plo, h.pq⟩
theorem Sx.ref (h : Sx w lo p q a0 c0 n F u P E P' E') (hr : Qr u' q a0 c0 n P2 E2) (o : Only (newer q u) u u') : Sx w lo p q a0 c0 n F u' P E P2 E2 := by
  have hq := blk_lt h.qr
  have h1 := h.low
  have h2 := h.plo
  have h3 := h.pq
  have h4 := h.bel.size
  refine ⟨h.rd.keep fun k k1 k2 => o.block k (by unfold newer; omega), hr, h.lst.keep fun a ha => o.cell (by unfold newer; omega), h.bel.trans (o.below (lo := w.heap.size) (fun k hk => by unfold newer at hk; omega)), h.low, h.plo, h.pq⟩
end
theorem only_newer {q : Nat} {u u' : World} (o : Only (· = q) u u') : Only (newer q u) u u' := o.mono fun k hk => Or.inl hk

/-- Get, asked of both: the same number, the same place, the same error. -/
theorem get_both {w : World} {lo p q : Nat} {a0 : Option Addr} {c0 n : Nat} {F : List Int} (hA : a0 = none → n = 0 ∧ c0 = 0) (hn : F.length = n) (hc : n ≤ c0) (hc2 : c0 ≤ maxLen) (hn2 : n ≤ 1000) (hF : ∀ x ∈ F, 0 ≤ x ∧ x ≤ 255) (P : Nat) (E : Int) (hP : P ≤ n) (s : Int) :
    ∃ (V : Int) (P2 : Nat) (E2 : Int), P2 ≤ n ∧
      (∀ u P' E', Sx w lo p q a0 c0 n F u P E P' E' → Calls Try.prog 16 #[.pointer (some ⟨p, 0, none⟩), .int .i64 s] u fun e u' => e = .returned (.int .i64 V) ∧ Sx w lo p q a0 c0 n F u' P2 E2 P' E') ∧
      (∀ u P' E', Sx w lo p q a0 c0 n F u P' E' P E → Calls Try.prog 17 #[.pointer (some ⟨q, 0, none⟩), .int .i64 s] u fun e u' => e = .returned (.int .i64 V) ∧ Sx w lo p q a0 c0 n F u' P' E' P2 E2) := by
  have hdl : (F.drop P).length = n - P := by rw [List.length_drop, hn]
  by_cases h : (1 ≤ s ∧ s ≤ 8) ∧ s ≤ (n : Int) - P ∧ E = 0
  · obtain ⟨⟨h1, h2⟩, h3, rfl⟩ := h
    obtain ⟨m, rfl⟩ := Int.eq_ofNat_of_zero_le (show 0 ≤ s by omega)
    refine ⟨wrap64 (numL 0 ((F.drop P).take m)), P + m, 0, by omega, fun u P' E' hs => ?_, fun u P' E' hs => ?_⟩
    · refine (get_yes m hs.rd (by omega) (by rw [hdl]; omega) (by rw [hdl]; omega) (fun x hx => hF x (List.mem_of_mem_drop hx))).mono ?_
      rintro e u' ⟨rfl, hr, hg⟩
      rw [List.drop_drop] at hr
      exact ⟨rfl, hs.code hr hg⟩
    · refine (qget_yes hA hs.qr hn (hs.lst.more (by have := hs.low; have := hs.plo; have := hs.pq; omega)) hc hc2 hn2 (by omega) (by omega) (by omega) hF).mono ?_
      rintro e u' ⟨rfl, hr, ho⟩
      exact ⟨rfl, hs.ref hr ho⟩
  · refine ⟨0, P, mayE (decide (1 ≤ s ∧ s ≤ 8)) s (n - P) E, hP, fun u P' E' hs => ?_, fun u P' E' hs => ?_⟩
    · have := get_no s hs.rd (by rw [hdl]; omega) (by rw [hdl]; omega)
      rw [hdl] at this
      refine this.mono ?_
      rintro e u' ⟨rfl, hr, _, hg⟩
      exact ⟨rfl, hs.code hr hg⟩
    · refine (qget_no hs.qr hn2 hP (by omega)).mono ?_
      rintro e u' ⟨rfl, hr, ho⟩
      exact ⟨rfl, hs.ref hr (only_newer ho)⟩
/-- Take, asked of both: the same bytes, the same place, the same error. -/
theorem take_both {w : World} {lo p q : Nat} {a0 : Option Addr} {c0 n : Nat} {F : List Int} (hA : a0 = none → n = 0 ∧ c0 = 0) (hn : F.length = n) (hc : n ≤ c0) (hc2 : c0 ≤ maxLen) (hn2 : n ≤ 1000) (P : Nat) (E : Int) (hP : P ≤ n) (s : Int) :
    ∃ (ys : List Int) (P2 : Nat) (E2 : Int), P2 ≤ n ∧
      (∀ u P' E', Sx w lo p q a0 c0 n F u P E P' E' → Calls Try.prog 18 #[.pointer (some ⟨p, 0, none⟩), .int .i64 s] u fun e u' => ∃ A c, e = .returned (.slice A ys.length c) ∧ u'.ownsRow u.heap.size 5 1 (.slice A ys.length c) ys.length (ys.map (Value.int .u8)) ∧ Sx w lo p q a0 c0 n F u' P2 E2 P' E' ∧ u.grownBy u' (some p)) ∧
      (∀ u P' E', Sx w lo p q a0 c0 n F u P' E' P E → Calls Try.prog 19 #[.pointer (some ⟨q, 0, none⟩), .int .i64 s] u fun e u' => ∃ A c, e = .returned (.slice A ys.length c) ∧ u'.ownsRow u.heap.size 5 1 (.slice A ys.length c) ys.length (ys.map (Value.int .u8)) ∧ Sx w lo p q a0 c0 n F u' P' E' P2 E2 ∧ Only (newer q u) u u') := by
  have hdl : (F.drop P).length = n - P := by rw [List.length_drop, hn]
  by_cases h : 0 ≤ s ∧ s ≤ (n : Int) - P ∧ E = 0
  · obtain ⟨h1, h3, rfl⟩ := h
    obtain ⟨m, rfl⟩ := Int.eq_ofNat_of_zero_le h1
    have hyl : ((F.drop P).take m).length = m := by rw [List.length_take, hdl]; omega
    refine ⟨(F.drop P).take m, P + m, 0, by omega, fun u P' E' hs => ?_, fun u P' E' hs => ?_⟩
    · rw [hyl]
      refine (take_yes m hs.rd (by rw [hdl]; omega) (by rw [hdl]; omega)).mono ?_
      rintro e u' ⟨v, rfl, hown, hr, hg⟩
      rw [List.drop_drop] at hr
      obtain ⟨A, c, rfl, _⟩ := own_any hown
      exact ⟨_, _, rfl, hown, hs.code hr hg, hg⟩
    · rw [hyl]
      refine (qtake_yes hA hs.qr hn (hs.lst.more (by have := hs.low; have := hs.plo; have := hs.pq; omega)) hc hc2 hn2 (by omega)).mono ?_
      rintro e u' ⟨v, rfl, hown, hr, ho⟩
      obtain ⟨A, c, rfl, _⟩ := own_any hown
      exact ⟨_, _, rfl, hown, hs.ref hr ho, ho⟩
  · refine ⟨[], P, mayE (decide (0 ≤ s)) s (n - P) E, hP, fun u P' E' hs => ?_, fun u P' E' hs => ?_⟩
    · have := take_no s hs.rd (by rw [hdl]; omega) (by rw [hdl]; omega)
      rw [hdl] at this
      refine this.mono ?_
      rintro e u' ⟨rfl, hr, _, hg⟩
      exact ⟨_, _, rfl, World.ownsRow_nil _ _ _ _, hs.code hr hg, hg⟩
    · refine (qtake_no hs.qr hn2 hP (by omega)).mono ?_
      rintro e u' ⟨rfl, hr, ho⟩
      exact ⟨_, _, rfl, World.ownsRow_nil _ _ _ _, hs.ref hr (only_newer ho), only_newer ho⟩
theorem kept_g {u u1 u2 : World} {v : Value} {m p : Nat} {xs : List Value} (h : u1.ownsRow u.heap.size 5 1 v m xs) (g : u1.grownBy u2 (some p)) (hp : p < u.heap.size) : u2.ownsRow u.heap.size 5 1 v m xs :=
  ownsRow_keep h g.size (fun k hk => g.block k (own_lt h hk).2 (by have := (own_lt h hk).1; intro e; injection e with e; omega))
theorem kept_o {u u1 u2 : World} {v : Value} {m q : Nat} {xs : List Value} (h : u1.ownsRow u.heap.size 5 1 v m xs) (o : Only (newer q u1) u1 u2) (hq : q < u.heap.size) : u2.ownsRow u.heap.size 5 1 v m xs :=
  ownsRow_keep h o.size (fun k hk => o.block k (by have := own_lt h hk; unfold newer; omega))
end Go.Proofs.Ytjnmdfnankcboaa
