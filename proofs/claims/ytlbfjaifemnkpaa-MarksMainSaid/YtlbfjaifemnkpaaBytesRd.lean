/- The Reader of package bytes: what it is in memory, and its methods by their contracts. -/
import Derived.Test.YtlbfjaifemnkpaaBytesPut
set_option linter.unusedVariables false
namespace Go.Proofs.Ytlbfjaifemnkpaa
open Go.RowKit

/-- Block p is a Reader: the bytes l are left, its error is err; its bytes lie in a block from lo on, below p. -/
def Rd (w : World) (lo p : Nat) (l : List Int) (err : Int) : Prop :=
  lo ≤ p ∧ ∃ A cap, w.heap[p]? = some (.cells #[.slice A l.length cap, .int .i64 err] 94 (0, 0)) ∧ (A = none → l.length = 0 ∧ cap = 0) ∧ l.length ≤ cap ∧ cap ≤ maxLen ∧
    ∀ i u, l[i]? = some u → ∃ g o, A = some ⟨g, o, none⟩ ∧ lo ≤ g ∧ g < p ∧ w.cell? ⟨g, o + i, none⟩ = some (.int .u8 u)

theorem rb_cell {w : World} {p : Nat} {cs : Array Value} {t : TypeId} (h : w.heap[p]? = some (.cells cs t (0, 0))) (i : Nat) : w.cell? ⟨p, i, none⟩ = cs[i]? := cell_of_row w p i cs t (0, 0) h
theorem blk_frozen {w : World} {p : Nat} {cs : Array Value} {t : TypeId} (h : w.heap[p]? = some (.cells cs t (0, 0))) (i : Nat) : w.frozen? ⟨p, i, none⟩ = false := by simp [World.frozen?, h]
theorem blk_lt {w : World} {p : Nat} {o : Obj} (h : w.heap[p]? = some o) : p < w.heap.size := (Array.getElem?_eq_some_iff.1 h).1
theorem blk_set {w : World} {p : Nat} {cs : Array Value} {t : TypeId} (h : w.heap[p]? = some (.cells cs t (0, 0))) (i : Nat) (u : Value) :
    (w.setCell ⟨p, i, none⟩ u).heap[p]? = some (.cells (cs.setIfInBounds i u) t (0, 0)) := by
  simp [World.setCell, Array.getElem?_modify, h]
theorem grown_set (w : World) (p i : Nat) (u : Value) : w.grownBy (w.setCell ⟨p, i, none⟩ u) (some p) :=
  ⟨rfl, rfl, rfl, by simp [World.setCell], fun k _ hk => Below.heap_setCell w _ u k (fun e => hk (by rw [e]))⟩
theorem grown_trans {a b c : World} {r : Option Nat} (h : a.grownBy b r) (k : b.grownBy c r) : a.grownBy c r :=
  ⟨k.os.trans h.os, k.tape.trans h.tape, k.output.trans h.output, Nat.le_trans h.size k.size, fun i hi hr => (k.block i (Nat.lt_of_lt_of_le hi h.size) hr).trans (h.block i hi hr)⟩
theorem grown_below {a b : World} {B : Nat} {r : Option Nat} (h : Below B a b) (hB : a.heap.size ≤ B) : a.grownBy b r :=
  ⟨h.os, h.tape, h.output, h.size, fun i hi _ => h.block i (by omega)⟩

section
variable {w w' : World} {lo p : Nat} {l : List Int} {err : Int}
theorem Rd.lt (h : Rd w lo p l err) : p < w.heap.size := by
  obtain ⟨_, A, cap, hb, _⟩ := h
  exact blk_lt hb
theorem Rd.keep (h : Rd w lo p l err) (hk : ∀ k, lo ≤ k → k ≤ p → w'.heap[k]? = w.heap[k]?) : Rd w' lo p l err := by
  obtain ⟨hlo, A, cap, hb, h1, h2, h3, h4⟩ := h
  refine ⟨hlo, A, cap, (hk p hlo (Nat.le_refl _)).trans hb, h1, h2, h3, fun i u hu => ?_⟩
  obtain ⟨g, o, e, l1, l2, hc⟩ := h4 i u hu
  exact ⟨g, o, e, l1, l2, (World.cell?_of_block (hk g l1 (by omega))).trans hc⟩
theorem Rd.below {B : Nat} (h : Rd w lo p l err) (hb : Below B w w') (hB : p < B) : Rd w' lo p l err := h.keep fun k _ h2 => hb.block k (by omega)
theorem Rd.grown {q : Nat} (h : Rd w lo p l err) (hg : w.grownBy w' (some q)) (hq : q < lo ∨ p < q) : Rd w' lo p l err :=
  h.keep fun k h1 h2 => hg.block k (by have := h.lt; omega) (by intro e; injection e with e; omega)
theorem Rd.set (h : Rd w lo p l err) (e' : Int) : Rd (w.setCell ⟨p, 1, none⟩ (.int .i64 e')) lo p l e' := by
  obtain ⟨hlo, A, cap, hb, h1, h2, h3, h4⟩ := h
  refine ⟨hlo, A, cap, blk_set hb 1 _, h1, h2, h3, fun i u hu => ?_⟩
  obtain ⟨g, o, e, l1, l2, hc⟩ := h4 i u hu
  exact ⟨g, o, e, l1, l2, (World.cell?_of_block (Below.heap_setCell w _ _ g (by simp; omega))).trans hc⟩
end

set_option maxHeartbeats 1000000 in
theorem new_any (A : Option Addr) (n c : Nat) (l : List Int) (w : World) (hl : l.length = n) (hA : A = none → n = 0 ∧ c = 0) (h : Lst w w.heap.size A (l.map (Value.int .u8))) (hn : n ≤ 140737488355328) :
    Calls Try.prog 32 #[.slice A n c] w fun e w' => ∃ p, e = .returned (.pointer (some ⟨p, 0, none⟩)) ∧ Rd w' w.heap.size p l 0 ∧ Below w.heap.size w w' := by
  go_enter Try.func32, Try.ntmps32
  go_wp2_with fail
  refine (clone_u8 A n c _ _ _ (by simpa using hl) hA h (u8_one l) hn).mono ?_
  rintro e w1 ⟨v, rfl, hown, hb⟩
  obtain ⟨A', cap', hv, hA', hc1, hc2⟩ := own_any hown
  subst hv
  have HL := Lib.hid hl
  have HA := Lib.hid hA'
  clear hl hA hA'
  have hs := hb.size
  go_wp2
  go_ret
  refine ⟨w1.heap.size, rfl, ⟨hs, A', cap', ?_, ?_, ?_, hc2, ?_⟩, hb.alloc hs _⟩
  · rw [HL.out]; exact heap_alloc_new w1 _
  · rw [HL.out]; exact HA.out
  · rw [HL.out]; exact hc1
  · intro i u hu
    have hu' : (l.map (Value.int .u8))[i]? = some (.int .u8 u) := by rw [List.getElem?_map, hu]; rfl
    rcases hown.2 with ⟨h0, hn0⟩ | ⟨g, cap, cur, hv, hbg, hg, _⟩
    · have := HL.out
      have : l = [] := List.eq_nil_of_length_eq_zero (by omega)
      subst this
      simp at hu
    · injection hv with hA2 hn2 hcap
      subst hA2
      subst hcap
      have hg2 := (Array.getElem?_eq_some_iff.1 hg).1
      refine ⟨g, 0, rfl, hbg, hg2, ?_⟩
      rw [Nat.zero_add]
      have hi : i < n := by
        have := HL.out
        rcases Nat.lt_or_ge i l.length with h | h
        · omega
        · rw [List.getElem?_eq_none h] at hu; cases hu
      exact (World.cell?_of_block (Below.heap_alloc w1 _ g hg2)).trans ((hown.cellAt i (by omega)).trans hu')

set_option maxHeartbeats 1000000 in
theorem left_any {w : World} {lo p : Nat} {l : List Int} {err : Int} (h : Rd w lo p l err) (hn : l.length ≤ 140737488351232) :
    Calls Try.prog 35 #[.pointer (some ⟨p, 0, none⟩)] w fun e w' => e = .returned (.int .i64 (if err = 0 then l.length else 0)) ∧ w = w' := by
  obtain ⟨hlo, A, cap, hb, h1, h2, h3, h4⟩ := h
  have c0 := rb_cell hb 0
  have c1 := rb_cell hb 1
  simp at c0 c1
  clear h1 h4 hb
  by_cases ce : err = 0
  · subst ce
    go_enter Try.func35, Try.ntmps35
    go_wp2
    go_ret
    exact ⟨ret_i64 (by simp), rfl⟩
  · have ce' : (err != 0) = true := by simpa using ce
    have CE := Lib.hid ce
    clear ce
    go_enter Try.func35, Try.ntmps35
    go_wp2
    go_ret
    exact ⟨by first | rfl | exact ret_i64 (by rw [if_neg CE.out]), rfl⟩

/-- What End tells. -/
def endE (n : Nat) (err : Int) : Int := if err = 0 ∧ 0 < n then 9 else err
set_option maxHeartbeats 1000000 in
theorem end_any {w : World} {lo p : Nat} {l : List Int} {err : Int} (h : Rd w lo p l err) (hn : l.length ≤ 140737488351232) :
    Calls Try.prog 64 #[.pointer (some ⟨p, 0, none⟩)] w fun e w' => e = .returned (.int .i64 (endE l.length err)) ∧ Drew w w' := by
  obtain ⟨hlo, A, cap, hb, h1, h2, h3, h4⟩ := h
  have c0 := rb_cell hb 0
  have c1 := rb_cell hb 1
  simp at c0 c1
  clear h1 h4 hb
  by_cases ce : err = 0
  · subst ce
    by_cases c : 0 < l.length
    · have hE := Lib.hid (show endE l.length 0 = 9 from if_pos ⟨rfl, c⟩)
      go_enter Try.func64, Try.ntmps64
      go_wp2
      go_ret
      exact ⟨ret_i64 hE.out.symm, by first | exact Drew.refl _ | exact Drew.mk _ _⟩
    · have hE := Lib.hid (show endE l.length 0 = 0 from if_neg (by omega))
      go_enter Try.func64, Try.ntmps64
      go_wp2
      go_ret
      exact ⟨ret_i64 hE.out.symm, by first | exact Drew.refl _ | exact Drew.mk _ _⟩
  · have ce' : (err == 0) = false := by simpa using ce
    have hE := Lib.hid (show endE l.length err = err from if_neg (by omega))
    clear ce
    go_enter Try.func64, Try.ntmps64
    go_wp2
    go_ret
    exact ⟨ret_i64 hE.out.symm, by first | exact Drew.refl _ | exact Drew.mk _ _⟩

/-- The first error stays. -/
def failE (err f : Int) : Int := if err = 0 then f else err
set_option maxHeartbeats 1000000 in
theorem fail_any {w : World} {lo p : Nat} {l : List Int} {err : Int} (f : Int) (h : Rd w lo p l err) :
    Calls Try.prog 74 #[.pointer (some ⟨p, 0, none⟩), .int .i64 f] w fun e w' => e = .returned (.tuple #[]) ∧ Rd w' lo p l (failE err f) ∧ w.grownBy w' (some p) := by
  have H := Lib.hid h
  obtain ⟨hlo, A, cap, hb, h1, h2, h3, h4⟩ := h
  have c1 := rb_cell hb 1
  have f1 := blk_frozen hb 1
  simp at c1
  clear h1 h4 hb
  by_cases ce : err = 0
  · subst ce
    go_enter Try.func74, Try.ntmps74
    go_wp2
    go_end0
    exact ⟨rfl, H.out.set f, grown_set w p 1 _⟩
  · have ce' : (err == 0) = false := by simpa using ce
    have hE := Lib.hid (show failE err f = err from if_neg ce)
    clear ce
    go_enter Try.func74, Try.ntmps74
    go_wp2
    go_end0
    exact ⟨rfl, by rw [hE.out]; exact H.out, World.grownBy.refl w _⟩

/-- The error behind may: bytes may not be asked for, or lack. -/
def mayE (ok : Bool) (n : Int) (len : Nat) (err : Int) : Int := if ok = false then failE err 1 else if (len : Int) < n then failE err 8 else err

set_option maxHeartbeats 1000000 in
theorem may_yes {w : World} {lo p : Nat} {l : List Int} (n : Int) (h : Rd w lo p l 0) (hn : n ≤ l.length) (hl : l.length ≤ 140737488351232) :
    Calls Try.prog 57 #[.pointer (some ⟨p, 0, none⟩), .bool true, .int .i64 n] w fun e w' => e = .returned (.bool true) ∧ w = w' := by
  obtain ⟨hlo, A, cap, hb, h1, h2, h3, h4⟩ := h
  have c0 := rb_cell hb 0
  have c1 := rb_cell hb 1
  simp at c0 c1
  clear h1 h4 hb
  go_enter Try.func57, Try.ntmps57
  go_wp2
  go_ret
  exact ⟨rfl, rfl⟩
set_option maxHeartbeats 1000000 in
theorem may_no {w : World} {lo p : Nat} {l : List Int} {err : Int} (ok : Bool) (n : Int) (h : Rd w lo p l err) (hno : ok = false ∨ (l.length : Int) < n ∨ err ≠ 0) (hl : l.length ≤ 140737488351232) :
    Calls Try.prog 57 #[.pointer (some ⟨p, 0, none⟩), .bool ok, .int .i64 n] w fun e w' => e = .returned (.bool false) ∧ Rd w' lo p l (mayE ok n l.length err) ∧ mayE ok n l.length err ≠ 0 ∧ w.grownBy w' (some p) := by
  have H := Lib.hid h
  have hne : mayE ok n l.length err ≠ 0 := by
    unfold mayE failE
    rcases hno with h | h | h <;> (repeat' split) <;> omega
  have HNE := Lib.hid hne
  clear hne
  cases ok
  · have hE := Lib.hid (show mayE false n l.length err = failE err 1 from if_pos rfl)
    have HN : Hid (failE err 1 ≠ 0) := by
      have := hE.out
      show _ ≠ _
      rw [← this]; exact HNE.out
    have hx : (failE err 1 == 0) = false := by simpa using HN.out
    clear hno
    go_enter Try.func57, Try.ntmps57
    go_wp2_with fail
    refine (fail_any 1 H.out).mono ?_
    rintro e w1 ⟨rfl, hr, hg⟩
    have HR := Lib.hid hr
    obtain ⟨hlo, A, cap, hb, h1, h2, h3, h4⟩ := hr
    have c1 := rb_cell hb 1
    simp at c1
    clear h1 h4 hb
    go_wp2
    go_ret
    exact ⟨rfl, by rw [hE.out]; exact HR.out, HNE.out, hg⟩
  · by_cases c : (l.length : Int) < n
    · have hE := Lib.hid (show mayE true n l.length err = failE err 8 from by unfold mayE; rw [if_neg (by simp), if_pos c])
      have HN : Hid (failE err 8 ≠ 0) := by
        have := hE.out
        show _ ≠ _
        rw [← this]; exact HNE.out
      have hx : (failE err 8 == 0) = false := by simpa using HN.out
      have HH := Lib.hid h
      obtain ⟨hlo, A, cap, hb, h1, h2, h3, h4⟩ := h
      have c0 := rb_cell hb 0
      simp at c0
      clear h1 h4 hb hno
      go_enter Try.func57, Try.ntmps57
      go_wp2_with fail
      refine (fail_any 8 H.out).mono ?_
      rintro e w1 ⟨rfl, hr, hg⟩
      have HR := Lib.hid hr
      obtain ⟨hlo, A, cap, hb, h1, h2, h3, h4⟩ := hr
      have c1 := rb_cell hb 1
      simp at c1
      clear h1 h4 hb
      go_wp2
      go_ret
      exact ⟨rfl, by rw [hE.out]; exact HR.out, HNE.out, hg⟩
    · have hE := Lib.hid (show mayE true n l.length err = err from by unfold mayE; rw [if_neg (by simp), if_neg c])
      have HN : Hid (err ≠ 0) := by
        have := hE.out
        show _ ≠ _
        rw [← this]; exact HNE.out
      have hx : (err == 0) = false := by simpa using HN.out
      obtain ⟨hlo, A, cap, hb, h1, h2, h3, h4⟩ := h
      have c0 := rb_cell hb 0
      have c1 := rb_cell hb 1
      simp at c0 c1
      clear h1 h4 hb hno
      go_enter Try.func57, Try.ntmps57
      go_wp2
      go_ret
      exact ⟨rfl, by rw [hE.out]; exact H.out, HNE.out, World.grownBy.refl w _⟩

set_option maxHeartbeats 1000000 in
theorem next_any {w : World} {lo p : Nat} {x : Int} {l : List Int} {err : Int} (h : Rd w lo p (x :: l) err) (hl : l.length ≤ 140737488351232) :
    Calls Try.prog 60 #[.pointer (some ⟨p, 0, none⟩)] w fun e w' => e = .returned (.int .u8 x) ∧ Rd w' lo p l err ∧ w.grownBy w' (some p) := by
  obtain ⟨hlo, A, cap, hb, h1, h2, h3, h4⟩ := h
  obtain ⟨g, o, rfl, g1, g2, gc⟩ := h4 0 x rfl
  have c0 := rb_cell hb 0
  have f0 := blk_frozen hb 0
  simp at c0 gc
  simp at h2
  have HB := Lib.hid hb
  have H4 := Lib.hid h4
  clear hb h4 h1
  by_cases cc : cap = 1
  · subst cc
    obtain rfl : l = [] := List.eq_nil_of_length_eq_zero (by omega)
    go_enter Try.func60, Try.ntmps60
    go_wp2
    go_ret
    refine ⟨rfl, ⟨hlo, _, 0, blk_set HB.out 0 _, by simp, by simp, by unfold maxLen; omega, by simp⟩, grown_set w p 0 _⟩
  · have hcap : 1 ≤ cap := by omega
    go_enter Try.func60, Try.ntmps60
    go_wp2
    go_ret
    refine ⟨rfl, ⟨hlo, _, cap - 1, blk_set HB.out 0 _, by simp, by omega, by omega, fun i u hu => ?_⟩, grown_set w p 0 _⟩
    obtain ⟨g', o', e, l1, l2, hc⟩ := H4.out (i + 1) u (by simpa using hu)
    injection e with e
    injection e with e1 e2
    subst e1 e2
    refine ⟨g, o + 1, rfl, l1, l2, ?_⟩
    rw [show o + 1 + i = o + (i + 1) from by omega]
    exact (World.cell?_of_block (Below.heap_setCell w _ _ g (by simp; omega))).trans hc

theorem grown_then {a b c : World} {r : Option Nat} (h : a.grownBy b r) (k : Below a.heap.size b c) : a.grownBy c r :=
  ⟨k.os.trans h.os, k.tape.trans h.tape, k.output.trans h.output, Nat.le_trans h.size k.size, fun i hi hr => (k.block i hi).trans (h.block i hi hr)⟩

set_option maxHeartbeats 1000000 in
theorem add_any {w : World} {base m : Nat} {v : Value} {xs : List Value} (x : Int) (h : w.ownsRow base 5 1 v m xs) (hb : base ≤ w.heap.size) (hm : m ≤ 140737488351232) :
    Calls Try.prog 76 #[v, .int .u8 x] w fun e w' => ∃ v', e = .returned v' ∧ w'.ownsRow base 5 1 v' (m + 1) (xs ++ [.int .u8 x]) ∧ Below base w w' := by
  obtain ⟨i0, hi, hz0, hz1, hz2⟩ := info_parts Try.info5
  go_enter Try.func76, Try.ntmps76
  go_wp2_with (at_builtin; refine wpList_append_own _ rfl _ _ 25 rfl base 5 i0 (.int .u8 0) 1 1 Try.underlying25 hi hz0 hz1 hz2 rfl (by decide) _ _ _ rfl (h.alloc _) ⟨w.heap.size, 0, none⟩ 1 1 [.int .u8 x] rfl rfl (cell_one_new _ _ _) ?k2 ?k3 ?k4 ?k5 ?_)
  case k2 => intro u hu; simp at hu; subst hu; rfl
  case k3 => unfold maxLen; omega
  case k4 => omega
  case k5 => simp; omega
  intro v2 w2 hown2 hg2 _
  have hb2 : Below base w w2 := ((Below.refl base w).alloc hb _).grown hg2 (by simp; omega) (fun g hg => (h.lt g hg).1)
  go_wp2
  go_ret
  exact ⟨v2, rfl, hown2, hb2⟩

end Go.Proofs.Ytlbfjaifemnkpaa
