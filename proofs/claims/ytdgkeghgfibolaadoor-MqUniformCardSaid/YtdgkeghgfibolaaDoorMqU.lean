/- MqUniform, walked. -/
import Derived.Test.YtdgkeghgfibolaaDoorMqSh
set_option linter.unusedVariables false
set_option linter.unusedSimpArgs false
namespace Go.Proofs.YtdgkeghgfibolaaDoor
open Go.RowKit

/-- Behind j bits in the even context. -/
structure Un (P : Nat → Prop) (W w : World) (p q j : Nat) (e : E) (cx : List Nat) : Prop where
  ew : EW P w p e
  cb : Cb w q cx
  ok : COk cx
  fine : Fine e
  jj : ∃ N, J e N ∧ 4 * N ≤ 5 * j + phi e.a
  i : cx.getD 36 0 = 46
  m : cx.getD 37 0 = 0
  bel : Below W.heap.size W w
theorem t46 : mps 46 = 46 ∧ lps 46 = 46 ∧ swp 46 = false := by decide
theorem Un.next {P : Nat → Prop} {W w w' : World} {p q j b : Nat} {e : E} {cx : List Nat} (h : Un P W w p q j e cx) (hPQ : ∀ i, EC P q i → W.heap.size ≤ i) (he : EW P w' p (sE e cx 18 b)) (hc : Cb w' q (sC e cx 18 b)) (ho : Only (EC P q) w w') : Un P W w' p q (j + 1) (sE e cx 18 b) (sC e cx 18 b) := by
  have hl := h.ok.len
  obtain ⟨N, hN, hb⟩ := h.jj
  have hi : cx.getD (18 * 2) 0 = 46 := h.i
  have hm : cx.getD (18 * 2 + 1) 0 = 0 := h.m
  have hcs : sC e cx 18 b = cx ∨ sC e cx 18 b = cx.set (18 * 2) 46 := by
    unfold sC mUn
    rw [hi, hm, t46.1, t46.2.1, t46.2.2]
    split
    · split
      · exact Or.inl rfl
      · exact Or.inr rfl
    · rw [if_neg (by simp)]; exact Or.inr rfl
  have hbel := h.bel.trans (Only.below ho fun i hi => hPQ i hi)
  have hok : COk (sC e cx 18 b) := by
    rcases hcs with e1 | e1 <;> rw [e1]
    · exact h.ok
    · exact h.ok.set (by omega) (by omega)
  have h36 : (sC e cx 18 b).getD 36 0 = 46 := by
    rcases hcs with e1 | e1 <;> rw [e1]
    · exact h.i
    · exact getD_set_self (by omega)
  have h37 : (sC e cx 18 b).getD 37 0 = 0 := by
    rcases hcs with e1 | e1 <;> rw [e1]
    · exact h.m
    · rw [getD_set_ne (by omega)]; exact h.m
  have hs : sE e cx 18 b = mSame e 46 ∨ sE e cx 18 b = mOther e 46 := by
    unfold sE
    rw [hi, hm]
    split
    · exact Or.inl rfl
    · exact Or.inr rfl
  rcases hs with e1 | e1
  · have hj := same_j hN h.fine (i := 46) (by omega)
    refine ⟨he, hc, hok, by rw [e1]; exact h.fine.same (by omega), ⟨_, by rw [e1]; exact hj.1, ?_⟩, h36, h37, hbel⟩
    rw [e1, hj.2]; exact uni_same hb h.fine.a2 h.fine.a3
  · have hj := other_j hN h.fine (i := 46) (by omega)
    refine ⟨he, hc, hok, by rw [e1]; exact h.fine.other (by omega), ⟨_, by rw [e1]; exact hj.1, ?_⟩, h36, h37, hbel⟩
    rw [e1, hj.2]; exact uni_other hb h.fine.a2 h.fine.a3
theorem phi_le (a : Nat) : phi a ≤ 3 := by unfold phi; split <;> (try split) <;> (try split) <;> omega
theorem Un.len {P : Nat → Prop} {W w : World} {p q j : Nat} {e : E} {cx : List Nat} (h : Un P W w p q j e cx) : 8 * (e.pre.length + 2) ≤ j + j / 3 + 32 := by
  obtain ⟨N, hN, hb⟩ := h.jj
  have := phi_le e.a
  have hi := h.fine.ct1
  have h0 := h.fine.ct0
  unfold J at hN
  omega
theorem Lst.cell {w : World} {B : Nat} {A : Option Addr} {xs : List Value} (h : Lst w B A xs) {i : Nat} {u : Value} (hu : xs[i]? = some u) : ∃ b o, A = some ⟨b, o, none⟩ ∧ b < B ∧ w.cell? ⟨b, o + i, none⟩ = some u := h i u hu
set_option maxRecDepth 100000 in
set_option maxHeartbeats 4000000 in
theorem walk_mqUniform (a0 : Option Addr) (len0 cap0 : Nat) (z0 : List Int) (W : World) (hT : Tab W) (w0 : IsRow .i64 W a0 len0 cap0 z0) : Calls Tryd.prog 9 #[.slice a0 len0 cap0] W fun e w' => e = .returned (.bool true) ∧ Below W.heap.size W w' := by
  have KN := Lib.hid (known_any W)
  have L0 := Lib.hid (lst_of_row w0)
  have hrl := row_len w0
  have HRL := Lib.hid hrl.1
  have hlen : len0 ≤ maxLen := Nat.le_trans hrl.2.1 hrl.2.2.1
  unfold maxLen at hlen
  have FR := Lib.hid (fun u : World => fresh_any u)
  have NW := Lib.hid (fun u : World => new_any u)
  have HT := Lib.hid hT
  obtain ⟨l, hl⟩ : ∃ l : List Int, z0.take len0 = l := ⟨_, rfl⟩
  rw [hl] at L0 HRL
  obtain ⟨n, hn⟩ : ∃ n : Nat, min len0 400 = n := ⟨_, rfl⟩
  have hn1 : n ≤ len0 := by omega
  have hn2 : n ≤ 400 := by omega
  have hmin : (if (400 : Int) < (len0 : Int) then (400 : Int) else (len0 : Int)) = (n : Int) := by split <;> omega
  clear hl hT w0 hrl hn
  go_enter Tryd.func9, Tryd.ntmps9
  go_wp2_with fail
  refine KN.out.mono ?_
  rintro x w1 ⟨rfl, b1⟩
  have B1 := Lib.hid b1
  clear b1 KN
  go_wp2_with fail
  refine (FR.out _).mono ?_
  rintro x w2 ⟨rfl, b2⟩
  have B2 := Lib.hid (B1.out.trans (b2.mono B1.out.size))
  clear b2 B1
  go_wp2_with (refine wpList_fresh rfl _ _ rfl rfl rfl ?_)
  intro w3 hc3 b3
  have B3 := Lib.hid (B2.out.trans (b3.mono B2.out.size))
  have HC3 := Lib.hid hc3
  have hq0 : W.heap.size ≤ w2.heap.size := B2.out.size
  have hqs : w2.heap.size < w3.heap.size := hc3.lt
  clear b3 hc3 B2
  go_wp2_with fail
  refine (NW.out _).mono ?_
  rintro x w4 ⟨p, rfl, he4, b4⟩
  have B4 := Lib.hid (B3.out.trans (b4.mono B3.out.size))
  have HC4 := Lib.hid (HC3.out.below b4)
  have HE4 : Hid (EW (fun i => w3.heap.size ≤ i) w4 p mNew) := Lib.hid (he4.imp fun i _ h => h.1)
  have hpos := HT.out.pos
  have H0 : Hid (Un (fun i => w3.heap.size ≤ i) W w4 p w2.heap.size 0 mNew (cxF 19)) := Lib.hid
    ⟨HE4.out, HC4.out, f19_ok, mNew_fine, ⟨0, J.new, by decide⟩, by decide, by decide, B4.out⟩
  have s34 : w3.heap.size ≤ w4.heap.size := b4.size
  clear b4 he4 B3 HC3 HE4 HC4
  go_wp2
  go_loopw [6] (fun i wr => ∃ j e cx, j ≤ n ∧ i = .int .i64 (j : Int) ∧ w3.heap.size ≤ wr.heap.size ∧ Un (fun i => w3.heap.size ≤ i) W wr p w2.heap.size j e cx) (fun i _ => n - (intOf i).toNat)
  case atStart => exact ⟨0, _, _, by omega, rfl, s34, H0.out⟩
  case round =>
    obtain ⟨j, e, cx, hj, rfl, hsz, hS⟩ := hrel
    have HS := Lib.hid hS
    clear hS H0
    have hjl := HS.out.len
    by_cases hlt : j < n
    · obtain ⟨v, hv⟩ : ∃ v, l[j]? = some v := ⟨_, List.getElem?_eq_getElem (by rw [HRL.out]; omega)⟩
      obtain ⟨ba, oa, rfl, hba, m0⟩ := ((L0.out.below HS.out.bel).cell (i := j) (u := .int .i64 v) (by rw [List.getElem?_map, hv]; rfl))
      obtain ⟨b, hb1, hb2, _⟩ := bit_of v
      have h2 : (j : Int) < (n : Int) := by omega
      have h3 : (j : Int) < (len0 : Int) := by omega
      have h4 : (0 : Int) ≤ (j : Int) := by omega
      have EN := Lib.hid (encode_any (bit := v) (b := b) HS.out.ew HS.out.cb (by show ¬ w3.heap.size ≤ w2.heap.size; omega) (HT.out.below hpos HS.out.bel) (by show ¬ w3.heap.size ≤ 0; omega) (by omega) HS.out.ok HS.out.fine (k := 18) (by omega) hb2 (by omega) (fun i hi => Nat.le_trans hsz hi))
      clear hjl hv hb2
      go_wp2_with fail
      refine EN.out.mono ?_
      rintro x w5 ⟨rfl, he5, hc5, o5⟩
      have HS5 := Lib.hid (HS.out.next (fun i hi => by
        rcases hi with hi | hi
        · exact Nat.le_trans (Nat.le_of_lt (Nat.lt_of_le_of_lt hq0 hqs)) hi
        · omega) he5 hc5 o5)
      have s5 := Nat.le_trans hsz o5.size
      clear he5 hc5 o5 EN HS
      go_wp2
      exact ⟨⟨j + 1, _, _, by omega, by go_num, s5, HS5.out⟩, by simp [intOf]; omega⟩
    · obtain rfl : j = n := by omega
      have h2 : ¬ (j : Int) < (j : Int) := by omega
      have FL := Lib.hid (flush_any HS.out.ew HS.out.fine (by omega) (fun i hi => Nat.le_trans hsz hi))
      have hcl := mCode_len e
      obtain ⟨L, hL⟩ : ∃ L, (mCode e).length = L := ⟨_, rfl⟩
      rw [hL] at hcl FL
      have HL : Hid (8 * (L : Int) ≤ (j : Int) + (j : Int) / 3 + 32) := Lib.hid (by omega)
      clear hjl hcl
      go_wp2_with fail
      refine FL.out.mono ?_
      rintro x w5 ⟨V, rfl, ho5, o5⟩
      obtain ⟨A5, c5, rfl, _⟩ := own_any ho5
      have hc5 := HS.out.cb.only o5 (by show ¬ w3.heap.size ≤ w2.heap.size; omega)
      have d1 := hc5.cell 36 (by omega)
      rw [HS.out.i] at d1
      have B5 := Lib.hid (HS.out.bel.trans (Only.below o5 (lo := W.heap.size) fun i hi => Nat.le_trans (Nat.le_of_lt (Nat.lt_of_le_of_lt hq0 hqs)) hi))
      have hl := HL.out
      have hlb : (L : Int) ≤ 1000 := by omega
      have hlc : (0 : Int) ≤ (L : Int) := by omega
      clear ho5 o5 hc5 FL HL hL HS
      go_wp2
      go_ret
      exact ⟨rfl, B5.out⟩
end Go.Proofs.YtdgkeghgfibolaaDoor
