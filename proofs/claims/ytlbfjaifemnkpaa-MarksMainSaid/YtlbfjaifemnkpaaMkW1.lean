/- marks: rows of bytes; fields of numbers. -/
import Derived.Test.YtlbfjaifemnkpaaMkSf
import Derived.Test.YtlbfjaifemnkpaaReg4
import Derived.Laws.OwnMore
import Derived.Deep.LoopGhost
set_option linter.unusedVariables false
set_option linter.unusedSimpArgs false
namespace Go.Proofs.Ytlbfjaifemnkpaa
open Go.RowKit Go.Shelf
attribute [local go_sem ↓] appSem_eq
set_option maxRecDepth 100000
/-- A row of bytes of one's own, from block B on. -/
def By (B : Nat) (w : World) (v : Value) (X : List Int) : Prop := w.ownsRow B 5 1 v X.length (X.map (Value.int .u8))
theorem By.form {B : Nat} {w : World} {v : Value} {X : List Int} (h : By B w v X) : ∃ A c, v = .slice A X.length c ∧ (A = none → X.length = 0 ∧ c = 0) ∧ X.length ≤ c ∧ c ≤ maxLen := own_any h
theorem By.lst {B : Nat} {w : World} {A : Option Addr} {n c : Nat} {X : List Int} (h : By B w (.slice A n c) X) : Lst w w.heap.size A (X.map (Value.int .u8)) := by
  obtain ⟨A', c', hv, _⟩ := By.form h
  cases hv
  exact Lst.own h
theorem By.below {B : Nat} {w w' : World} {v : Value} {X : List Int} (h : By B w v X) (hb : Below w.heap.size w w') : By B w' v X :=
  ownsRow_keep h hb.size (fun k e => hb.block k (own_lt h e).2)
theorem By.low {B B' : Nat} {w : World} {v : Value} {X : List Int} (h : By B w v X) (hl : B' ≤ B) : By B' w v X := own_low h hl
theorem By.nil (B : Nat) (w : World) : By B w (.slice none 0 0) [] := World.ownsRow_nil _ _ _ _
/-- Bytes that can be read are laid behind a row of one's own. -/
theorem app_lst0 {w : World} {base m c : Nat} {v : Value} {A : Option Addr} {X L : List Int} (h : By base w v X) (hA : A = none → m = 0) (hL : Lst w w.heap.size A (L.map (Value.int .u8))) (hl : L.length = m) (hb : base ≤ w.heap.size) (hlen : X.length + m ≤ 1000000) :
    ∃ v' w', (appSem #[25, 25] 25 #[v, .slice A m c]).run Try.prog w = .ok v' w' ∧ By base w' v' (X ++ L) ∧ w.grownBy w' v.ownBlock := by
  obtain ⟨i0, hi, hz0, hz1, hz2⟩ := info_parts Try.info5
  cases A with
  | none =>
    have hm := hA rfl
    subst hm
    obtain rfl : L = [] := List.eq_nil_of_length_eq_zero hl
    have hcc : ∀ c : Nat, (appSem #[25, 25] 25 #[v, .slice none 0 c]).run Try.prog w = .ok v w := fun c => run_append_owned_none (P := Try.prog) (w := w) base 25 25 5 i0 1 Try.underlying25 hi v _ _ h
    exact ⟨v, w, hcc c, by rw [List.append_nil]; exact h, World.grownBy.refl _ _⟩
  | some a =>
    obtain ⟨v', w', hr, hown', hg, _, hat⟩ := run_append_own_at (P := Try.prog) w base 25 25 5 i0 (.int .u8 0) 1 1 Try.underlying25 hi hz0 hz1 hz2 rfl (by decide) v X.length _ h a m c (L.map (Value.int .u8)) (by rw [List.length_map, hl]; simp)
      (fun j u hu => by
        obtain ⟨b, o, e, _, hc⟩ := hL j u hu
        cases e
        show w.cell? (if j = 0 then _ else _) = _
        split
        · rename_i h0; rw [h0] at hc; simpa using hc
        · exact hc) (ints_oneCell .u8 L) (by unfold maxLen; omega) (by omega) hb
    refine ⟨v', w', hr, ?_, hg⟩
    unfold By
    rw [List.map_append, List.length_append, hl]
    exact hown'
theorem app_lst {w : World} {base m c : Nat} {v : Value} {A : Option Addr} {X L : List Int} (h : By base w v X) (hA : A = none → m = 0) (hL : Lst w w.heap.size A (L.map (Value.int .u8))) (hl : L.length = m) (hb : base ≤ w.heap.size) (hlen : X.length + m ≤ 1000000) :
    ∃ A' m' c' w', (appSem #[25, 25] 25 #[v, .slice A m c]).run Try.prog w = .ok (.slice A' m' c') w' ∧ By base w' (.slice A' m' c') (X ++ L) ∧ w.grownBy w' v.ownBlock := by
  obtain ⟨v', w', h1, h2, h3⟩ := app_lst0 (c := c) h hA hL hl hb hlen
  obtain ⟨A', c', rfl, _⟩ := By.form h2
  exact ⟨A', _, c', w', h1, h2, h3⟩
theorem app_by {w : World} {base b2 : Nat} {v v2 : Value} {X L : List Int} (h : By base w v X) (h2 : By b2 w v2 L) (hb : base ≤ w.heap.size) (hlen : X.length + L.length ≤ 1000000) :
    ∃ A' m' c' w', (appSem #[25, 25] 25 #[v, v2]).run Try.prog w = .ok (.slice A' m' c') w' ∧ By base w' (.slice A' m' c') (X ++ L) ∧ w.grownBy w' v.ownBlock := by
  obtain ⟨A, c, rfl, hA, _⟩ := h2.form
  exact app_lst h (fun e => (hA e).1) h2.lst rfl hb hlen
/-- What grows a row keeps what is below it. -/
theorem By.bel {base : Nat} {w0 w w' : World} {v : Value} {X : List Int} (h : By base w v X) (hb : Below base w0 w) (hs : base ≤ w.heap.size) (hg : w.grownBy w' v.ownBlock) : Below base w0 w' :=
  hb.grown hg hs (fun k e => (own_lt h e).1)
/-- The bytes of some numbers, of so many bytes each. -/
def fldL (s : Nat) (l : List Int) : List Int := l.flatMap fun x => putL x s
theorem fldL_len (s : Nat) : ∀ l : List Int, (fldL s l).length = s * l.length
  | [] => rfl
  | x :: l => by
    show (putL x s ++ fldL s l).length = _
    rw [List.length_append, putL_len, fldL_len s l, List.length_cons, Nat.mul_succ, Nat.add_comm]
set_option maxHeartbeats 4000000 in
theorem fields_any (s n c : Nat) (A : Option Addr) (l : List Int) (w : World) (hs : 1 ≤ s ∧ s ≤ 8) (hl : l.length = n) (hn : n ≤ 1000) (hL : Lst w w.heap.size A (l.map (Value.int .i64))) :
    Calls Try.prog 22 #[.int .i64 (s : Int), .slice A n c] w fun e w' => ∃ v, e = .returned v ∧ By w.heap.size w' v (fldL s l) ∧ Below w.heap.size w w' := by
  have HL := Lib.hid (And.intro hL hl)
  clear hL hl
  go_enter Try.func22, Try.ntmps22
  go_wp2_with fail
  go_loopg [5, 10] n (fun g a v wr => ∃ (j : Nat) (A' : Option Addr) (n' c' : Nat), j + g = n ∧ a = .slice A' n' c' ∧ v = .int .i64 (j : Int) ∧ Hid (By w.heap.size wr (.slice A' n' c') (fldL s (l.take j)) ∧ Below w.heap.size w wr))
  case atStart => exact ⟨0, none, 0, 0, by omega, rfl, rfl, Lib.hid ⟨by simpa [fldL] using By.nil _ _, Below.refl _ _⟩⟩
  case round =>
    obtain ⟨j, A', n', c', hjg, rfl, rfl, HI⟩ := hrel
    obtain ⟨wa, hwa⟩ : ∃ wa, wa = wr := ⟨wr, rfl⟩
    subst hwa
    by_cases hj : j < n
    · obtain ⟨g1, rfl⟩ : ∃ g1, gk = g1 + 1 := ⟨gk - 1, by omega⟩
      have hjI : (j : Int) < (n : Int) ∧ (0 : Int) ≤ (j : Int) := by omega
      have hjl : j < l.length := by rw [HL.out.2]; exact hj
      obtain ⟨x, hx⟩ : ∃ x, l[j] = x := ⟨_, rfl⟩
      have hx2 : l[j]? = some x := by rw [List.getElem?_eq_getElem hjl, hx]
      obtain ⟨b, o, rfl, hbl, hc⟩ := HL.out.1 j (.int .i64 x) (by rw [List.getElem?_map, hx2]; rfl)
      have hc2 : wa.cell? ⟨b, o + j, none⟩ = some (.int .i64 x) := (HI.out.2.cell (p := ⟨b, _, none⟩) hbl).trans hc
      have HX : Hid (fldL s (l.take (j + 1)) = fldL s (l.take j) ++ putL x s) := Lib.hid (by
        unfold fldL
        rw [List.take_add_one, hx2]
        simp)
      have HLEN : Hid ((fldL s (l.take j)).length ≤ 8000 ∧ (putL x s).length = s) := Lib.hid ⟨by rw [fldL_len, List.length_take]; exact Nat.mul_le_mul hs.2 (show min j l.length ≤ 1000 by omega), putL_len x s⟩
      clear hjl hx hx2 hbl hc
      go_wp2_with fail
      refine (put_some none 0 0 [] _ (s : Int) x rfl (by simp) Lst.nil (by simp) (by omega) (by omega)).mono ?_
      rintro e w1 ⟨g, cap, rfl, ho, hb1⟩
      have hy2 : By w.heap.size w1 (.slice (some ⟨g, 0, none⟩) s cap) (putL x s) := by
        unfold By
        rw [putL_len]
        have h := own_low ho (HI.out.2.size)
        simpa using h
      have hy1 := HI.out.1.below hb1
      have hbel := HI.out.2.trans (hb1.mono HI.out.2.size)
      obtain ⟨A2, nn, c2, w', hr, hown, hg⟩ := app_by hy1 hy2 hbel.size (by have := HLEN.out; omega)
      have HB2 : Hid (By w.heap.size w' (.slice A2 nn c2) (fldL s (l.take (j + 1))) ∧ Below w.heap.size w w') := Lib.hid ⟨by rw [HX.out]; exact hown, hy1.bel hbel hbel.size hg⟩
      rw [show (0 : Nat) + ((s : Int)).toNat = s by omega]
      clear ho hb1 hy1 hy2 hbel hown hg hc2
      go_wp2
      clear hr
      go_roundg g1
      case measure => omega
      case rel => exact ⟨j + 1, A2, nn, c2, by omega, rfl, by go_num, HB2⟩
    · obtain rfl : j = n := by omega
      have hlc : ¬ (j : Int) < (j : Int) := by omega
      go_wp2
      go_ret
      exact ⟨_, rfl, by have := HI.out.1; rw [List.take_of_length_le (by rw [HL.out.2]; exact Nat.le_refl _)] at this; exact this, HI.out.2⟩
theorem lst_news (w : World) (l : List Int) : Lst (w.alloc (.cells (l.map (Value.int .i64)).toArray 3)) (w.alloc (.cells (l.map (Value.int .i64)).toArray 3)).heap.size (some ⟨w.heap.size, 0, none⟩) (l.map (Value.int .i64)) := by
  intro i u hu
  refine ⟨w.heap.size, 0, rfl, by simp, ?_⟩
  rw [rb_cell (World.alloc_heap_new w _) (0 + i)]
  simpa using hu
theorem when_any (b : Bool) (n : Int) (w : World) : Calls Try.prog 51 #[.bool b, .int .i64 n] w fun e w' => e = .returned (.int .i64 (if b then n else 0)) ∧ w = w' := by
  cases b
  · go_enter Try.func51, Try.ntmps51
    go_wp2
    go_ret
    first | done | exact ⟨rfl, rfl⟩
  · go_enter Try.func51, Try.ntmps51
    go_wp2
    go_ret
    first | done | exact ⟨rfl, rfl⟩
set_option maxHeartbeats 4000000 in
theorem segment_any (mk : Int) (n c : Nat) (A : Option Addr) (l : List Int) (w : World) (hA : A = none → n = 0) (hl : l.length = n) (hn : n ≤ 60000) (hL : Lst w w.heap.size A (l.map (Value.int .u8))) :
    Calls Try.prog 23 #[.int .i64 mk, .slice A n c] w fun e w' => ∃ v, e = .returned v ∧ By w.heap.size w' v (fldL 2 [mk, 2 + (n : Int)] ++ l) ∧ Below w.heap.size w w' := by
  have HL := Lib.hid (And.intro hL (And.intro hl hA))
  clear hL hl hA
  have hlst : Lst (w.alloc (.cells #[.int .i64 mk, .int .i64 (2 + (n : Int))] 3)) (w.alloc (.cells #[.int .i64 mk, .int .i64 (2 + (n : Int))] 3)).heap.size (some ⟨w.heap.size, 0, none⟩) (([mk, 2 + (n : Int)] : List Int).map (Value.int .i64)) := lst_news w [mk, 2 + (n : Int)]
  obtain ⟨w1, hw1⟩ : ∃ w1, w.alloc (.cells #[.int .i64 mk, .int .i64 (2 + (n : Int))] 3) = w1 := ⟨_, rfl⟩
  have hb1 : Below w.heap.size w w1 := by rw [← hw1]; exact (Below.refl _ _).alloc (Nat.le_refl _) _
  rw [hw1] at hlst
  have FA := Lib.hid (fields_any 2 2 2 (some ⟨w.heap.size, 0, none⟩) [mk, 2 + (n : Int)] w1 (by omega) rfl (by omega) hlst)
  have HW1 := Lib.hid hw1
  have HB1 := Lib.hid hb1
  clear hlst hw1 hb1
  go_enter Try.func23, Try.ntmps23
  go_wp2_with fail
  rw [HW1.out]
  refine FA.out.mono ?_
  rintro e w2 ⟨v, rfl, hy, hb⟩
  have hbel : Below w.heap.size w w2 := HB1.out.trans (hb.mono HB1.out.size)
  have hy' := hy.low HB1.out.size
  obtain ⟨A2, c2, rfl, _⟩ := By.form hy'
  obtain ⟨A3, m3, c3, w', hr, hown, hg⟩ := app_lst (c := c) hy' HL.out.2.2 ((HL.out.1.below (hbel.mono (Nat.le_refl _))).more hbel.size) HL.out.2.1 hbel.size (by rw [fldL_len]; simp; omega)
  have HB2 := Lib.hid (hy'.bel hbel hbel.size hg)
  have HO := Lib.hid hown
  clear hy hb hbel hy' hown hg FA HB1 HW1
  go_wp2
  go_ret
  exact ⟨_, rfl, HO.out, HB2.out⟩
end Go.Proofs.Ytlbfjaifemnkpaa
