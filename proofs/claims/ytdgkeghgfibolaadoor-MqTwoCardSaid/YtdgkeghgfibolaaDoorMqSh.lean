/- MqShort, walked. -/
import Derived.Test.YtdgkeghgfibolaaDoorMqJ
set_option linter.unusedVariables false
set_option linter.unusedSimpArgs false
namespace Go.Proofs.YtdgkeghgfibolaaDoor
open Go.RowKit

theorem beg_cases (k : Nat) (h : k < 18) : begN k = 0 ∨ begN k = 3 ∨ begN k = 4 := by
  unfold begN
  split
  · omega
  · split
    · omega
    · split
      · omega
      · omega
theorem beg_lt : ∀ k, k < 19 → begN k < 47 := by decide
/-- Behind j noughts in context k. -/
structure Sh (P : Nat → Prop) (W w : World) (p q k j : Nat) (e : E) (cx : List Nat) : Prop where
  ew : EW P w p e
  cb : Cb w q cx
  ok : COk cx
  fine : Fine e
  jj : J e (zs (begN k) j).2.2
  a : e.a = (zs (begN k) j).1
  i : cx.getD (k * 2) 0 = (zs (begN k) j).2.1
  m : cx.getD (k * 2 + 1) 0 = 0
  bel : Below W.heap.size W w
theorem COk.set {cx : List Nat} (h : COk cx) {k i : Nat} (hk : k < 19) (hi : i < 47) : COk (cx.set (k * 2) i) := by
  refine ⟨by rw [List.length_set]; exact h.len, fun j hj => ?_, fun j hj => ?_⟩
  · rw [List.getD_eq_getElem?_getD, List.getElem?_set]
    split
    · rw [if_pos (by have := h.len; omega)]; exact hi
    · rw [← List.getD_eq_getElem?_getD]; exact h.i j hj
  · rw [List.getD_eq_getElem?_getD, List.getElem?_set, if_neg (by omega), ← List.getD_eq_getElem?_getD]
    exact h.m j hj
theorem getD_set_self {cx : List Nat} {j x : Nat} (h : j < cx.length) : (cx.set j x).getD j 0 = x := by
  rw [List.getD_eq_getElem?_getD, List.getElem?_set, if_pos rfl, if_pos h]; rfl
theorem getD_set_ne {cx : List Nat} {i j x : Nat} (h : i ≠ j) : (cx.set i x).getD j 0 = cx.getD j 0 := by
  rw [List.getD_eq_getElem?_getD, List.getElem?_set, if_neg h, ← List.getD_eq_getElem?_getD]
theorem Sh.next {P : Nat → Prop} {W w w' : World} {p q k j : Nat} {e : E} {cx : List Nat} (h : Sh P W w p q k j e cx) (hk : k < 19) (hPQ : ∀ i, EC P q i → W.heap.size ≤ i) (he : EW P w' p (sE e cx k 0)) (hc : Cb w' q (sC e cx k 0)) (ho : Only (EC P q) w w') : Sh P W w' p q k (j + 1) (sE e cx k 0) (sC e cx k 0) := by
  have hi := h.ok.i k hk
  have hs : sE e cx k 0 = mSame e (cx.getD (k * 2) 0) := by unfold sE; rw [h.m, if_pos rfl]
  have hcs : sC e cx k 0 = if 32768 ≤ e.a - qe (cx.getD (k * 2) 0) then cx else cx.set (k * 2) (mps (cx.getD (k * 2) 0)) := by unfold sC; rw [h.m, if_pos rfl]
  have hj := same_j h.jj h.fine hi
  rw [h.a, h.i] at hj
  have hq := qe_bd _ hi
  have hl := h.ok.len
  refine ⟨he, hc, ?_, ?_, ?_, ?_, ?_, ?_, h.bel.trans (Only.below ho fun i hi => hPQ i hi)⟩
  · rw [hcs]; split
    · exact h.ok
    · exact h.ok.set hk hq.2.2.1
  · rw [hs]; exact h.fine.same hi
  · rw [hs, h.i]; exact hj.1
  · rw [hs, h.i]; exact hj.2
  · rw [hcs, h.a]
    show _ = (if 32768 ≤ (zs (begN k) j).1 - qe (zs (begN k) j).2.1 then (zs (begN k) j).2.1 else mps (zs (begN k) j).2.1)
    rw [h.i]
    split
    · exact h.i
    · exact getD_set_self (by omega)
  · rw [hcs]; split
    · exact h.m
    · rw [getD_set_ne (by omega)]; exact h.m
set_option maxRecDepth 100000 in
set_option maxHeartbeats 4000000 in
theorem walk_mqShort (n : Int) (k : Int) (W : World) (hT : Tab W) (w0 : (Lit.int .i64 n).wf = true) (w1 : (Lit.int .i64 k).wf = true) : Calls Tryd.prog 8 #[.int .i64 n, .int .i64 k] W fun e w' => e = .returned (.bool true) ∧ Below W.heap.size W w' := by
  have KN := Lib.hid (known_any W)
  have hn := within_rng n 1001 (by omega)
  have hk := within_rng k 18 (by omega)
  have W1 := Lib.hid (fun u => within_any n 1001 u (by omega) (by omega))
  have W2 := Lib.hid (fun u => within_any k 18 u (by omega) (by omega))
  obtain ⟨N, hN⟩ : ∃ N : Nat, n % 1001 = N := ⟨(n % 1001).toNat, by omega⟩
  obtain ⟨K, hK⟩ : ∃ K : Nat, k % 18 = K := ⟨(k % 18).toNat, by omega⟩
  rw [hN] at hn W1
  rw [hK] at hk W2
  have FR := Lib.hid (fun u : World => fresh_any u)
  have NW := Lib.hid (fun u : World => new_any u)
  have HT := Lib.hid hT
  clear hN hK hT
  go_enter Tryd.func8, Tryd.ntmps8
  go_wp2_with fail
  refine KN.out.mono ?_
  rintro x w1 ⟨rfl, b1⟩
  have B1 := Lib.hid b1
  clear b1 KN
  go_wp2_with fail
  refine (W1.out _).mono ?_
  rintro x w1' ⟨rfl, rfl⟩
  go_wp2_with fail
  refine (W2.out _).mono ?_
  rintro x w1' ⟨rfl, rfl⟩
  clear W1 W2
  go_wp2_with fail
  refine (FR.out _).mono ?_
  rintro x w2 ⟨rfl, b2⟩
  have B2 := Lib.hid (B1.out.trans (b2.mono B1.out.size))
  clear b2 B1
  go_wp2_with (refine wpList_fresh rfl _ _ rfl rfl rfl ?_)
  intro w3 hc3 b3
  have B3 := Lib.hid (B2.out.trans (b3.mono B2.out.size))
  have HC3 := Lib.hid hc3
  have hq0 : W.heap.size ≤ w2.heap.size := B2.out.size
  have hqs : w2.heap.size < w3.heap.size := hc3.lt
  clear b3 hc3 B2
  go_wp2_with fail
  refine (NW.out _).mono ?_
  rintro x w4 ⟨p, rfl, he4, b4⟩
  have B4 := Lib.hid (B3.out.trans (b4.mono B3.out.size))
  have HC4 := Lib.hid (HC3.out.below b4)
  have HE4 : Hid (EW (fun i => w3.heap.size ≤ i) w4 p mNew) := Lib.hid (he4.imp fun i _ h => h.1)
  have hpos := HT.out.pos
  have H0 : Hid (Sh (fun i => w3.heap.size ≤ i) W w4 p w2.heap.size K 0 mNew (cxF 19)) := Lib.hid
    ⟨HE4.out, HC4.out, f19_ok, mNew_fine, J.new, rfl, (f19 K (by omega)).1, (f19 K (by omega)).2, B4.out⟩
  have s34 : w3.heap.size ≤ w4.heap.size := b4.size
  clear b4 he4 B3 HC3 HE4 HC4
  go_wp2
  go_loopw [7] (fun i wr => ∃ j e cx, j ≤ N ∧ i = .int .i64 (j : Int) ∧ w3.heap.size ≤ wr.heap.size ∧ Sh (fun i => w3.heap.size ≤ i) W wr p w2.heap.size K j e cx) (fun i _ => N - (intOf i).toNat)
  case atStart => exact ⟨0, _, _, by omega, rfl, s34, H0.out⟩
  case round =>
    obtain ⟨j, e, cx, hj, rfl, hsz, hS⟩ := hrel
    have HS := Lib.hid hS
    clear hS H0
    have hjl := HS.out.jj.len HS.out.fine.toInv
    have hzz := zs_all (beg_cases K (by omega)) (n := j) (by omega)
    by_cases hlt : j < N
    · have h2 : (j : Int) < (N : Int) := by omega
      have EN := Lib.hid (encode_any (bit := 0) (b := 0) HS.out.ew HS.out.cb (by show ¬ w3.heap.size ≤ w2.heap.size; omega) (HT.out.below hpos HS.out.bel) (by show ¬ w3.heap.size ≤ 0; omega) (by omega) HS.out.ok HS.out.fine (k := K) (by omega) rfl (by omega) (fun i hi => Nat.le_trans hsz hi))
      clear hjl hzz
      go_wp2_with fail
      refine EN.out.mono ?_
      rintro x w5 ⟨rfl, he5, hc5, o5⟩
      have HS5 := Lib.hid (HS.out.next (by omega) (fun i hi => by
        rcases hi with hi | hi
        · exact Nat.le_trans (Nat.le_of_lt (Nat.lt_of_le_of_lt hq0 hqs)) hi
        · omega) he5 hc5 o5)
      have s5 := Nat.le_trans hsz o5.size
      clear he5 hc5 o5 EN HS
      go_wp2
      exact ⟨⟨j + 1, _, _, by omega, by go_num, s5, HS5.out⟩, by simp [intOf]; omega⟩
    · obtain rfl : j = N := by omega
      have h2 : ¬ (j : Int) < (j : Int) := by omega
      have FL := Lib.hid (flush_any HS.out.ew HS.out.fine (by omega) (fun i hi => Nat.le_trans hsz hi))
      have hcl := mCode_len e
      have HL : Hid (((mCode e).length : Int) < 20) := Lib.hid (by omega)
      clear hjl hzz hcl
      go_wp2_with fail
      refine FL.out.mono ?_
      rintro x w5 ⟨V, rfl, ho5, o5⟩
      obtain ⟨A5, c5, rfl, _⟩ := own_any ho5
      have hc5 := HS.out.cb.only o5 (by show ¬ w3.heap.size ≤ w2.heap.size; omega)
      have d1 := hc5.cell (K * 2 + 1) (by omega)
      rw [HS.out.m] at d1
      have B5 := Lib.hid (HS.out.bel.trans (Only.below o5 (lo := W.heap.size) fun i hi => Nat.le_trans (Nat.le_of_lt (Nat.lt_of_le_of_lt hq0 hqs)) hi))
      have hl := HL.out
      have hk0 : (0 : Int) ≤ (K : Int) := by omega
      have hk1 : (K : Int) < 19 := by omega
      obtain ⟨L, hL⟩ : ∃ L, (mCode e).length = L := ⟨_, rfl⟩
      rw [hL] at hl ⊢
      clear ho5 o5 hc5 FL HL hL HS
      go_wp2
      go_ret
      exact ⟨rfl, B5.out⟩
end Go.Proofs.YtdgkeghgfibolaaDoor
