/- GrammarClean, walked. -/
import Derived.Test.YtgcnbeolibjmdaaGramK
set_option linter.unusedVariables false
namespace Go.Proofs.Ytgcnbeolibjmdaa
open Go.RowKit

theorem within_any (a n : Int) (w : World) (hn : 1 ≤ n) (hm : n ≤ 4611686018427387904) :
    Calls Try.prog 6 #[.int .i64 a, .int .i64 n] w fun e w' => e = .returned (.int .i64 (a % n)) ∧ w = w' := by
  have hb := within_bd a n hn
  have hk := within_key a n hn
  have HK := Lib.hid hk
  clear hk
  have h0 : ¬ n = 0 := by omega
  by_cases hc : a.tmod n < 0
  · go_enter Try.func6, Try.ntmps6
    go_wp2
    go_ret
    refine ⟨ret_i64 ?_, rfl⟩
    rw [← HK.out, if_pos (by omega)]
  · go_enter Try.func6, Try.ntmps6
    go_wp2
    go_ret
    refine ⟨ret_i64 ?_, rfl⟩
    rw [← HK.out, if_neg (by omega)]


theorem getD_take {l : List Int} {k i : Nat} (h : i < k) : (l.take k).getD i 0 = l.getD i 0 := by
  simp only [List.getD_eq_getElem?_getD, List.getElem?_take, if_pos h]
theorem getD_drop {l : List Int} {k i : Nat} : (l.drop k).getD i 0 = l.getD (k + i) 0 := by
  simp only [List.getD_eq_getElem?_getD, List.getElem?_drop]
theorem clean_split (l : List Int) (k : Nat) (hk : k ≤ l.length) :
    clean l = (clean (l.take k) && clean (l.drop k) && !(decide (0 < k) && decide (k < l.length) && pairAt l (k - 1))) := by
  have ht : (l.take k).length = k := by rw [List.length_take]; omega
  have hd : (l.drop k).length = l.length - k := List.length_drop
  rw [Bool.eq_iff_iff, Bool.and_eq_true, Bool.and_eq_true, clean_iff, clean_iff, clean_iff, Bool.not_eq_true', ht, hd]
  constructor
  · intro h
    refine ⟨⟨?_, ?_⟩, ?_⟩
    · intro i hi
      have := h i (by omega)
      unfold pairAt at *
      rw [getD_take (by omega), getD_take (by omega)]; exact this
    · intro i hi
      have := h (k + i) (by omega)
      unfold pairAt at *
      rw [getD_drop, getD_drop]; exact this
    · by_cases h1 : 0 < k
      · by_cases h2 : k < l.length
        · rw [h (k - 1) (by omega)]; simp
        · simp [h2]
      · simp [h1]
  · rintro ⟨⟨h1, h2⟩, h3⟩ i hi
    rcases Nat.lt_trichotomy (i + 1) k with h | h | h
    · have := h1 i (by omega)
      unfold pairAt at *
      rw [getD_take (by omega), getD_take (by omega)] at this; exact this
    · subst h
      simpa [hi] using h3
    · have := h2 (i - k) (by omega)
      unfold pairAt at *
      rw [getD_drop, getD_drop, show k + (i - k) = i from by omega, show k + (i - k + 1) = i + 1 from by omega] at this; exact this

theorem Drew.lst {w w' : World} {B : Nat} {A : Option Addr} {xs : List Value} (h : Lst w B A xs) (d : Drew w w') : Lst w' B A xs := h.keep fun p _ => by obtain ⟨q, rfl⟩ := d; rfl
theorem Drew.cel {w w' : World} {p : Addr} {v : Option Value} (h : w.cell? p = v) (d : Drew w w') : w'.cell? p = v := by obtain ⟨q, rfl⟩ := d; exact h
/-- What is between the two parts. -/
def btw (l : List Int) (k : Nat) : Bool := decide (0 < k) && decide (k < l.length) && pairAt l (k - 1)
set_option maxHeartbeats 4000000 in
theorem walk_clean_1 (A : Option Addr) (k : Nat) (at0 : Int) (l : List Int) (w : World) (hl : l.length = k) (hn : k ≤ 300) (hc : k ≤ k) (hc2 : k ≤ maxLen) {B : Nat} (h : Lst w B A (l.map (Value.int .u8))) (hB : B ≤ w.heap.size) (hk : at0 % ((k : Int) + 1) = ((k : Nat) : Int)) (hz : 0 < k) :
    Calls Try.prog 3 #[.slice A k k, .int .i64 at0] w fun e w' => e = .returned (.bool true) ∧ Below w.heap.size w w' := by
  have hkr := within_rng at0 ((k : Int) + 1) (by omega)
  have hkn : k ≤ k := by omega
  have HSP : Hid (clean l = (clean (l.take k) && clean (l.drop k) && !(btw l k))) := Lib.hid (clean_split l k (by omega))
  have HB0 : Hid (btw l k = (decide (0 < k) && decide (k < k) && pairAt l (k - 1))) := Lib.hid (by rw [← hl]; rfl)
  have htk : Hid ((l.take k).length = k) := Lib.hid (by rw [List.length_take]; omega)
  have hdk : Hid ((l.drop k).length = k - k) := Lib.hid (by rw [List.length_drop, hl])
  have HL := Lib.hid hl
  have H := Lib.hid h
  have WI : Hid (∀ u, Calls Try.prog 6 #[.int .i64 at0, .int .i64 ((k : Int) + 1)] u fun e w'' => e = .returned (.int .i64 ((k : Nat) : Int)) ∧ u = w'') := Lib.hid (fun u => by
    have := within_any at0 ((k : Int) + 1) u (by omega) (by omega)
    rwa [hk] at this)
  unfold maxLen at hc2
  clear hl h hk hkr
  have hn3 : ¬ (300 : Int) < (k : Int) := by omega
  have hbt : btw l k = false := by rw [HB0.out]; simp <;> omega
  rw [hbt] at HSP
  clear hbt HB0
  have hzi : (0 : Int) < (k : Int) := by omega
  go_enter Try.func3, Try.ntmps3
  go_wp2_with fail
  refine (known19 _).mono ?_
  rintro e w1 ⟨rfl, b1⟩
  have s1 := b1.size
  go_wp2_with fail
  refine (WI.out _).mono ?_
  rintro e w2 ⟨rfl, rfl⟩
  have HL1 := Lib.hid (H.out.keep (w' := w1) fun p hp => b1.cell (by omega))
  clear H
  go_wp2_with fail
  refine (clean_any (l := l.take k) (B := B) htk.out (by have := HL1.out.take k; rwa [← List.map_take] at this) (by omega)).mono ?_
  rintro e w2 ⟨rfl, hd2⟩
  have b2 := Drew.to b1 hd2
  have HL2 := Lib.hid (Drew.lst HL1.out hd2)
  have s2 := b2.size

  clear HL1 b1 hd2 s1
  generalize clean (l.take k) = c1 at *
  have CL : Hid (∀ u, Drew w2 u → Calls Try.prog 7 #[.slice A k k] u fun e w' => e = .returned (.bool (clean l)) ∧ Drew u w') := Lib.hid (fun u hu => clean_any HL.out (Drew.lst HL2.out hu) (by omega))
  generalize clean l = c0 at *
  cases c1
  · have hc0 : c0 = false := by rw [HSP.out]; simp
    subst hc0
    clear HSP
    have DD := Drew.refl w2
    go_wp2_with fail
    refine (CL.out _ DD).mono ?_
    rintro e w9 ⟨rfl, hd9⟩
    have b9 := Drew.to (Drew.to b2 DD) hd9
    go_wp2
    go_ret
    refine ⟨?_, b9⟩
    first | rfl | (simp; done) | (simp; omega)
  · have CD : Hid (∀ A' c', Lst w2 B A' ((l.drop k).map (Value.int .u8)) → Calls Try.prog 7 #[.slice A' (k - k) c'] w2 fun e w' => e = .returned (.bool (clean (l.drop k))) ∧ Drew w2 w') := Lib.hid (fun A' c' h => clean_any hdk.out h (by omega))
    generalize clean (l.drop k) = c2 at *
    have hz : k - k = 0 := by omega
    rw [hz] at CD
    have hdr : l.drop k = [] := by rw [List.drop_eq_nil_iff, HL.out]; omega
    rw [hdr] at CD
    clear hz hdr
    go_wp2_with fail
    refine (CD.out _ _ (by simpa using Lst.nil)).mono ?_
    rintro e w3 ⟨rfl, hd3⟩
    have DD := hd3
    clear hd3
    cases c2
    · have hc0 : c0 = false := by rw [HSP.out]; simp
      subst hc0
      clear HSP
      go_wp2_with fail
      refine (CL.out _ DD).mono ?_
      rintro e w9 ⟨rfl, hd9⟩
      have b9 := Drew.to (Drew.to b2 DD) hd9
      go_wp2
      go_ret
      refine ⟨?_, b9⟩
      first | rfl | (simp; done) | (simp; omega)
    · have hc0 : c0 = true := by rw [HSP.out]; simp
      subst hc0
      clear HSP
      go_wp2_with fail
      refine (CL.out _ DD).mono ?_
      rintro e w9 ⟨rfl, hd9⟩
      have b9 := Drew.to (Drew.to b2 DD) hd9
      go_wp2
      go_ret
      refine ⟨?_, b9⟩
      first | rfl | (simp; done) | (simp; omega)
set_option maxHeartbeats 4000000 in
theorem walk_clean_2 (A : Option Addr) (c k : Nat) (at0 : Int) (l : List Int) (w : World) (hl : l.length = k) (hn : k ≤ 300) (hc : k ≤ c) (hc2 : c ≤ maxLen) {B : Nat} (h : Lst w B A (l.map (Value.int .u8))) (hB : B ≤ w.heap.size) (hk : at0 % ((k : Int) + 1) = ((k : Nat) : Int)) (hy : k < c) (hz : 0 < k) :
    Calls Try.prog 3 #[.slice A k c, .int .i64 at0] w fun e w' => e = .returned (.bool true) ∧ Below w.heap.size w w' := by
  have hkr := within_rng at0 ((k : Int) + 1) (by omega)
  have hkn : k ≤ k := by omega
  have HSP : Hid (clean l = (clean (l.take k) && clean (l.drop k) && !(btw l k))) := Lib.hid (clean_split l k (by omega))
  have HB0 : Hid (btw l k = (decide (0 < k) && decide (k < k) && pairAt l (k - 1))) := Lib.hid (by rw [← hl]; rfl)
  have htk : Hid ((l.take k).length = k) := Lib.hid (by rw [List.length_take]; omega)
  have hdk : Hid ((l.drop k).length = k - k) := Lib.hid (by rw [List.length_drop, hl])
  have HL := Lib.hid hl
  have H := Lib.hid h
  have WI : Hid (∀ u, Calls Try.prog 6 #[.int .i64 at0, .int .i64 ((k : Int) + 1)] u fun e w'' => e = .returned (.int .i64 ((k : Nat) : Int)) ∧ u = w'') := Lib.hid (fun u => by
    have := within_any at0 ((k : Int) + 1) u (by omega) (by omega)
    rwa [hk] at this)
  unfold maxLen at hc2
  clear hl h hk hkr
  have hn3 : ¬ (300 : Int) < (k : Int) := by omega
  have hbt : btw l k = false := by rw [HB0.out]; simp <;> omega
  rw [hbt] at HSP
  clear hbt HB0
  have hzi : (0 : Int) < (k : Int) := by omega
  go_enter Try.func3, Try.ntmps3
  go_wp2_with fail
  refine (known19 _).mono ?_
  rintro e w1 ⟨rfl, b1⟩
  have s1 := b1.size
  go_wp2_with fail
  refine (WI.out _).mono ?_
  rintro e w2 ⟨rfl, rfl⟩
  have HL1 := Lib.hid (H.out.keep (w' := w1) fun p hp => b1.cell (by omega))
  clear H
  go_wp2_with fail
  refine (clean_any (l := l.take k) (B := B) htk.out (by have := HL1.out.take k; rwa [← List.map_take] at this) (by omega)).mono ?_
  rintro e w2 ⟨rfl, hd2⟩
  have b2 := Drew.to b1 hd2
  have HL2 := Lib.hid (Drew.lst HL1.out hd2)
  have s2 := b2.size

  clear HL1 b1 hd2 s1
  generalize clean (l.take k) = c1 at *
  have CL : Hid (∀ u, Drew w2 u → Calls Try.prog 7 #[.slice A k c] u fun e w' => e = .returned (.bool (clean l)) ∧ Drew u w') := Lib.hid (fun u hu => clean_any HL.out (Drew.lst HL2.out hu) (by omega))
  generalize clean l = c0 at *
  cases c1
  · have hc0 : c0 = false := by rw [HSP.out]; simp
    subst hc0
    clear HSP
    have DD := Drew.refl w2
    go_wp2_with fail
    refine (CL.out _ DD).mono ?_
    rintro e w9 ⟨rfl, hd9⟩
    have b9 := Drew.to (Drew.to b2 DD) hd9
    go_wp2
    go_ret
    refine ⟨?_, b9⟩
    first | rfl | (simp; done) | (simp; omega)
  · have CD : Hid (∀ A' c', Lst w2 B A' ((l.drop k).map (Value.int .u8)) → Calls Try.prog 7 #[.slice A' (k - k) c'] w2 fun e w' => e = .returned (.bool (clean (l.drop k))) ∧ Drew w2 w') := Lib.hid (fun A' c' h => clean_any hdk.out h (by omega))
    generalize clean (l.drop k) = c2 at *
    have hz : k - k = 0 := by omega
    rw [hz] at CD
    have hdr : l.drop k = [] := by rw [List.drop_eq_nil_iff, HL.out]; omega
    rw [hdr] at CD
    clear hz hdr
    go_wp2_with fail
    refine (CD.out _ _ (by simpa using Lst.nil)).mono ?_
    rintro e w3 ⟨rfl, hd3⟩
    have DD := hd3
    clear hd3
    cases c2
    · have hc0 : c0 = false := by rw [HSP.out]; simp
      subst hc0
      clear HSP
      go_wp2_with fail
      refine (CL.out _ DD).mono ?_
      rintro e w9 ⟨rfl, hd9⟩
      have b9 := Drew.to (Drew.to b2 DD) hd9
      go_wp2
      go_ret
      refine ⟨?_, b9⟩
      first | rfl | (simp; done) | (simp; omega)
    · have hc0 : c0 = true := by rw [HSP.out]; simp
      subst hc0
      clear HSP
      go_wp2_with fail
      refine (CL.out _ DD).mono ?_
      rintro e w9 ⟨rfl, hd9⟩
      have b9 := Drew.to (Drew.to b2 DD) hd9
      go_wp2
      go_ret
      refine ⟨?_, b9⟩
      first | rfl | (simp; done) | (simp; omega)
set_option maxHeartbeats 4000000 in
theorem walk_clean_3 (A : Option Addr) (k : Nat) (at0 : Int) (l : List Int) (w : World) (hl : l.length = k) (hn : k ≤ 300) (hc : k ≤ k) (hc2 : k ≤ maxLen) {B : Nat} (h : Lst w B A (l.map (Value.int .u8))) (hB : B ≤ w.heap.size) (hk : at0 % ((k : Int) + 1) = ((k : Nat) : Int)) (hz : ¬ 0 < k) :
    Calls Try.prog 3 #[.slice A k k, .int .i64 at0] w fun e w' => e = .returned (.bool true) ∧ Below w.heap.size w w' := by
  have hkr := within_rng at0 ((k : Int) + 1) (by omega)
  have hkn : k ≤ k := by omega
  have HSP : Hid (clean l = (clean (l.take k) && clean (l.drop k) && !(btw l k))) := Lib.hid (clean_split l k (by omega))
  have HB0 : Hid (btw l k = (decide (0 < k) && decide (k < k) && pairAt l (k - 1))) := Lib.hid (by rw [← hl]; rfl)
  have htk : Hid ((l.take k).length = k) := Lib.hid (by rw [List.length_take]; omega)
  have hdk : Hid ((l.drop k).length = k - k) := Lib.hid (by rw [List.length_drop, hl])
  have HL := Lib.hid hl
  have H := Lib.hid h
  have WI : Hid (∀ u, Calls Try.prog 6 #[.int .i64 at0, .int .i64 ((k : Int) + 1)] u fun e w'' => e = .returned (.int .i64 ((k : Nat) : Int)) ∧ u = w'') := Lib.hid (fun u => by
    have := within_any at0 ((k : Int) + 1) u (by omega) (by omega)
    rwa [hk] at this)
  unfold maxLen at hc2
  clear hl h hk hkr
  have hn3 : ¬ (300 : Int) < (k : Int) := by omega
  have hbt : btw l k = false := by rw [HB0.out]; simp <;> omega
  rw [hbt] at HSP
  clear hbt HB0
  have hzi : ¬ (0 : Int) < (k : Int) := by omega
  go_enter Try.func3, Try.ntmps3
  go_wp2_with fail
  refine (known19 _).mono ?_
  rintro e w1 ⟨rfl, b1⟩
  have s1 := b1.size
  go_wp2_with fail
  refine (WI.out _).mono ?_
  rintro e w2 ⟨rfl, rfl⟩
  have HL1 := Lib.hid (H.out.keep (w' := w1) fun p hp => b1.cell (by omega))
  clear H
  go_wp2_with fail
  refine (clean_any (l := l.take k) (B := B) htk.out (by have := HL1.out.take k; rwa [← List.map_take] at this) (by omega)).mono ?_
  rintro e w2 ⟨rfl, hd2⟩
  have b2 := Drew.to b1 hd2
  have HL2 := Lib.hid (Drew.lst HL1.out hd2)
  have s2 := b2.size

  clear HL1 b1 hd2 s1
  generalize clean (l.take k) = c1 at *
  have CL : Hid (∀ u, Drew w2 u → Calls Try.prog 7 #[.slice A k k] u fun e w' => e = .returned (.bool (clean l)) ∧ Drew u w') := Lib.hid (fun u hu => clean_any HL.out (Drew.lst HL2.out hu) (by omega))
  generalize clean l = c0 at *
  cases c1
  · have hc0 : c0 = false := by rw [HSP.out]; simp
    subst hc0
    clear HSP
    have DD := Drew.refl w2
    go_wp2_with fail
    refine (CL.out _ DD).mono ?_
    rintro e w9 ⟨rfl, hd9⟩
    have b9 := Drew.to (Drew.to b2 DD) hd9
    go_wp2
    go_ret
    refine ⟨?_, b9⟩
    first | rfl | (simp; done) | (simp; omega)
  · have CD : Hid (∀ A' c', Lst w2 B A' ((l.drop k).map (Value.int .u8)) → Calls Try.prog 7 #[.slice A' (k - k) c'] w2 fun e w' => e = .returned (.bool (clean (l.drop k))) ∧ Drew w2 w') := Lib.hid (fun A' c' h => clean_any hdk.out h (by omega))
    generalize clean (l.drop k) = c2 at *
    have hz : k - k = 0 := by omega
    rw [hz] at CD
    have hdr : l.drop k = [] := by rw [List.drop_eq_nil_iff, HL.out]; omega
    rw [hdr] at CD
    clear hz hdr
    go_wp2_with fail
    refine (CD.out _ _ (by simpa using Lst.nil)).mono ?_
    rintro e w3 ⟨rfl, hd3⟩
    have DD := hd3
    clear hd3
    cases c2
    · have hc0 : c0 = false := by rw [HSP.out]; simp
      subst hc0
      clear HSP
      go_wp2_with fail
      refine (CL.out _ DD).mono ?_
      rintro e w9 ⟨rfl, hd9⟩
      have b9 := Drew.to (Drew.to b2 DD) hd9
      go_wp2
      go_ret
      refine ⟨?_, b9⟩
      first | rfl | (simp; done) | (simp; omega)
    · have hc0 : c0 = true := by rw [HSP.out]; simp
      subst hc0
      clear HSP
      go_wp2_with fail
      refine (CL.out _ DD).mono ?_
      rintro e w9 ⟨rfl, hd9⟩
      have b9 := Drew.to (Drew.to b2 DD) hd9
      go_wp2
      go_ret
      refine ⟨?_, b9⟩
      first | rfl | (simp; done) | (simp; omega)
set_option maxHeartbeats 4000000 in
theorem walk_clean_4 (A : Option Addr) (c k : Nat) (at0 : Int) (l : List Int) (w : World) (hl : l.length = k) (hn : k ≤ 300) (hc : k ≤ c) (hc2 : c ≤ maxLen) {B : Nat} (h : Lst w B A (l.map (Value.int .u8))) (hB : B ≤ w.heap.size) (hk : at0 % ((k : Int) + 1) = ((k : Nat) : Int)) (hy : k < c) (hz : ¬ 0 < k) :
    Calls Try.prog 3 #[.slice A k c, .int .i64 at0] w fun e w' => e = .returned (.bool true) ∧ Below w.heap.size w w' := by
  have hkr := within_rng at0 ((k : Int) + 1) (by omega)
  have hkn : k ≤ k := by omega
  have HSP : Hid (clean l = (clean (l.take k) && clean (l.drop k) && !(btw l k))) := Lib.hid (clean_split l k (by omega))
  have HB0 : Hid (btw l k = (decide (0 < k) && decide (k < k) && pairAt l (k - 1))) := Lib.hid (by rw [← hl]; rfl)
  have htk : Hid ((l.take k).length = k) := Lib.hid (by rw [List.length_take]; omega)
  have hdk : Hid ((l.drop k).length = k - k) := Lib.hid (by rw [List.length_drop, hl])
  have HL := Lib.hid hl
  have H := Lib.hid h
  have WI : Hid (∀ u, Calls Try.prog 6 #[.int .i64 at0, .int .i64 ((k : Int) + 1)] u fun e w'' => e = .returned (.int .i64 ((k : Nat) : Int)) ∧ u = w'') := Lib.hid (fun u => by
    have := within_any at0 ((k : Int) + 1) u (by omega) (by omega)
    rwa [hk] at this)
  unfold maxLen at hc2
  clear hl h hk hkr
  have hn3 : ¬ (300 : Int) < (k : Int) := by omega
  have hbt : btw l k = false := by rw [HB0.out]; simp <;> omega
  rw [hbt] at HSP
  clear hbt HB0
  have hzi : ¬ (0 : Int) < (k : Int) := by omega
  go_enter Try.func3, Try.ntmps3
  go_wp2_with fail
  refine (known19 _).mono ?_
  rintro e w1 ⟨rfl, b1⟩
  have s1 := b1.size
  go_wp2_with fail
  refine (WI.out _).mono ?_
  rintro e w2 ⟨rfl, rfl⟩
  have HL1 := Lib.hid (H.out.keep (w' := w1) fun p hp => b1.cell (by omega))
  clear H
  go_wp2_with fail
  refine (clean_any (l := l.take k) (B := B) htk.out (by have := HL1.out.take k; rwa [← List.map_take] at this) (by omega)).mono ?_
  rintro e w2 ⟨rfl, hd2⟩
  have b2 := Drew.to b1 hd2
  have HL2 := Lib.hid (Drew.lst HL1.out hd2)
  have s2 := b2.size

  clear HL1 b1 hd2 s1
  generalize clean (l.take k) = c1 at *
  have CL : Hid (∀ u, Drew w2 u → Calls Try.prog 7 #[.slice A k c] u fun e w' => e = .returned (.bool (clean l)) ∧ Drew u w') := Lib.hid (fun u hu => clean_any HL.out (Drew.lst HL2.out hu) (by omega))
  generalize clean l = c0 at *
  cases c1
  · have hc0 : c0 = false := by rw [HSP.out]; simp
    subst hc0
    clear HSP
    have DD := Drew.refl w2
    go_wp2_with fail
    refine (CL.out _ DD).mono ?_
    rintro e w9 ⟨rfl, hd9⟩
    have b9 := Drew.to (Drew.to b2 DD) hd9
    go_wp2
    go_ret
    refine ⟨?_, b9⟩
    first | rfl | (simp; done) | (simp; omega)
  · have CD : Hid (∀ A' c', Lst w2 B A' ((l.drop k).map (Value.int .u8)) → Calls Try.prog 7 #[.slice A' (k - k) c'] w2 fun e w' => e = .returned (.bool (clean (l.drop k))) ∧ Drew w2 w') := Lib.hid (fun A' c' h => clean_any hdk.out h (by omega))
    generalize clean (l.drop k) = c2 at *
    have hz : k - k = 0 := by omega
    rw [hz] at CD
    have hdr : l.drop k = [] := by rw [List.drop_eq_nil_iff, HL.out]; omega
    rw [hdr] at CD
    clear hz hdr
    go_wp2_with fail
    refine (CD.out _ _ (by simpa using Lst.nil)).mono ?_
    rintro e w3 ⟨rfl, hd3⟩
    have DD := hd3
    clear hd3
    cases c2
    · have hc0 : c0 = false := by rw [HSP.out]; simp
      subst hc0
      clear HSP
      go_wp2_with fail
      refine (CL.out _ DD).mono ?_
      rintro e w9 ⟨rfl, hd9⟩
      have b9 := Drew.to (Drew.to b2 DD) hd9
      go_wp2
      go_ret
      refine ⟨?_, b9⟩
      first | rfl | (simp; done) | (simp; omega)
    · have hc0 : c0 = true := by rw [HSP.out]; simp
      subst hc0
      clear HSP
      go_wp2_with fail
      refine (CL.out _ DD).mono ?_
      rintro e w9 ⟨rfl, hd9⟩
      have b9 := Drew.to (Drew.to b2 DD) hd9
      go_wp2
      go_ret
      refine ⟨?_, b9⟩
      first | rfl | (simp; done) | (simp; omega)
set_option maxHeartbeats 4000000 in
theorem walk_clean_5 (b o n c k : Nat) (at0 : Int) (l : List Int) (w : World) (hl : l.length = n) (hn : n ≤ 300) (hc : n ≤ c) (hc2 : c ≤ maxLen) {B : Nat} (h : Lst w B (some ⟨b, o, none⟩) (l.map (Value.int .u8))) (hB : B ≤ w.heap.size) (hk : at0 % ((n : Int) + 1) = ((k : Nat) : Int)) (hy : k < n) (hz : ¬ 0 < k) :
    Calls Try.prog 3 #[.slice (some ⟨b, o, none⟩) n c, .int .i64 at0] w fun e w' => e = .returned (.bool true) ∧ Below w.heap.size w w' := by
  have hkr := within_rng at0 ((n : Int) + 1) (by omega)
  have hkn : k ≤ n := by omega
  have HSP : Hid (clean l = (clean (l.take k) && clean (l.drop k) && !(btw l k))) := Lib.hid (clean_split l k (by omega))
  have HB0 : Hid (btw l k = (decide (0 < k) && decide (k < n) && pairAt l (k - 1))) := Lib.hid (by rw [← hl]; rfl)
  have htk : Hid ((l.take k).length = k) := Lib.hid (by rw [List.length_take]; omega)
  have hdk : Hid ((l.drop k).length = n - k) := Lib.hid (by rw [List.length_drop, hl])
  have HL := Lib.hid hl
  have H := Lib.hid h
  have WI : Hid (∀ u, Calls Try.prog 6 #[.int .i64 at0, .int .i64 ((n : Int) + 1)] u fun e w'' => e = .returned (.int .i64 ((k : Nat) : Int)) ∧ u = w'') := Lib.hid (fun u => by
    have := within_any at0 ((n : Int) + 1) u (by omega) (by omega)
    rwa [hk] at this)
  unfold maxLen at hc2
  clear hl h hk hkr
  have hn3 : ¬ (300 : Int) < (n : Int) := by omega
  have hbt : btw l k = false := by rw [HB0.out]; simp <;> omega
  rw [hbt] at HSP
  clear hbt HB0
  have hzi : ¬ (0 : Int) < (k : Int) := by omega
  have i1 : (k : Int) < (n : Int) := by omega
  have i3 : k < c := by omega
  go_enter Try.func3, Try.ntmps3
  go_wp2_with fail
  refine (known19 _).mono ?_
  rintro e w1 ⟨rfl, b1⟩
  have s1 := b1.size
  go_wp2_with fail
  refine (WI.out _).mono ?_
  rintro e w2 ⟨rfl, rfl⟩
  have HL1 := Lib.hid (H.out.keep (w' := w1) fun p hp => b1.cell (by omega))
  clear H
  go_wp2_with fail
  refine (clean_any (l := l.take k) (B := B) htk.out (by have := HL1.out.take k; rwa [← List.map_take] at this) (by omega)).mono ?_
  rintro e w2 ⟨rfl, hd2⟩
  have b2 := Drew.to b1 hd2
  have HL2 := Lib.hid (Drew.lst HL1.out hd2)
  have s2 := b2.size

  clear HL1 b1 hd2 s1
  generalize clean (l.take k) = c1 at *
  have CL : Hid (∀ u, Drew w2 u → Calls Try.prog 7 #[.slice (some ⟨b, o, none⟩) n c] u fun e w' => e = .returned (.bool (clean l)) ∧ Drew u w') := Lib.hid (fun u hu => clean_any HL.out (Drew.lst HL2.out hu) (by omega))
  generalize clean l = c0 at *
  cases c1
  · have hc0 : c0 = false := by rw [HSP.out]; simp
    subst hc0
    clear HSP
    have DD := Drew.refl w2
    go_wp2_with fail
    refine (CL.out _ DD).mono ?_
    rintro e w9 ⟨rfl, hd9⟩
    have b9 := Drew.to (Drew.to b2 DD) hd9
    go_wp2
    go_ret
    refine ⟨?_, b9⟩
    first | rfl | (simp; done) | (simp; omega)
  · have CD : Hid (∀ A' c', Lst w2 B A' ((l.drop k).map (Value.int .u8)) → Calls Try.prog 7 #[.slice A' (n - k) c'] w2 fun e w' => e = .returned (.bool (clean (l.drop k))) ∧ Drew w2 w') := Lib.hid (fun A' c' h => clean_any hdk.out h (by omega))
    generalize clean (l.drop k) = c2 at *
    go_wp2_with fail
    refine (CD.out _ _ (by have := HL2.out.drop (k := k) rfl; rwa [← List.map_drop] at this)).mono ?_
    rintro e w3 ⟨rfl, hd3⟩
    have DD := hd3
    clear hd3
    cases c2
    · have hc0 : c0 = false := by rw [HSP.out]; simp
      subst hc0
      clear HSP
      go_wp2_with fail
      refine (CL.out _ DD).mono ?_
      rintro e w9 ⟨rfl, hd9⟩
      have b9 := Drew.to (Drew.to b2 DD) hd9
      go_wp2
      go_ret
      refine ⟨?_, b9⟩
      first | rfl | (simp; done) | (simp; omega)
    · have hc0 : c0 = true := by rw [HSP.out]; simp
      subst hc0
      clear HSP
      go_wp2_with fail
      refine (CL.out _ DD).mono ?_
      rintro e w9 ⟨rfl, hd9⟩
      have b9 := Drew.to (Drew.to b2 DD) hd9
      go_wp2
      go_ret
      refine ⟨?_, b9⟩
      first | rfl | (simp; done) | (simp; omega)
set_option maxHeartbeats 4000000 in
theorem walk_clean_6 (b o n c j : Nat) (x y : Int) (at0 : Int) (l : List Int) (w : World) (hl : l.length = n) (hn : n ≤ 300) (hc : n ≤ c) (hc2 : c ≤ maxLen) {B : Nat} (h : Lst w B (some ⟨b, o, none⟩) (l.map (Value.int .u8))) (hB : B ≤ w.heap.size) (hk : at0 % ((n : Int) + 1) = (((j + 1) : Nat) : Int)) (hy : j + 1 < n) (hxv : l.getD j 0 = x) (hyv : l.getD (j + 1) 0 = y) (hcase : x = 255 ∧ 143 < y) :
    Calls Try.prog 3 #[.slice (some ⟨b, o, none⟩) n c, .int .i64 at0] w fun e w' => e = .returned (.bool true) ∧ Below w.heap.size w w' := by
  have hkr := within_rng at0 ((n : Int) + 1) (by omega)
  have hkn : (j + 1) ≤ n := by omega
  have HSP : Hid (clean l = (clean (l.take (j + 1)) && clean (l.drop (j + 1)) && !(btw l (j + 1)))) := Lib.hid (clean_split l (j + 1) (by omega))
  have HB0 : Hid (btw l (j + 1) = (decide (0 < (j + 1)) && decide ((j + 1) < n) && pairAt l ((j + 1) - 1))) := Lib.hid (by rw [← hl]; rfl)
  have htk : Hid ((l.take (j + 1)).length = (j + 1)) := Lib.hid (by rw [List.length_take]; omega)
  have hdk : Hid ((l.drop (j + 1)).length = n - (j + 1)) := Lib.hid (by rw [List.length_drop, hl])
  have HL := Lib.hid hl
  have H := Lib.hid h
  have WI : Hid (∀ u, Calls Try.prog 6 #[.int .i64 at0, .int .i64 ((n : Int) + 1)] u fun e w'' => e = .returned (.int .i64 (((j + 1) : Nat) : Int)) ∧ u = w'') := Lib.hid (fun u => by
    have := within_any at0 ((n : Int) + 1) u (by omega) (by omega)
    rwa [hk] at this)
  unfold maxLen at hc2
  clear hl h hk hkr
  have hn3 : ¬ (300 : Int) < (n : Int) := by omega
  have hpv : pairAt l j = (decide (l.getD j 0 = 255) && decide (143 < l.getD (j + 1) 0)) := rfl
  rw [hxv, hyv] at hpv
  have hbt : btw l (j + 1) = true := by
    rw [HB0.out, show j + 1 - 1 = j from rfl, hpv, decide_eq_true (by omega : 0 < j + 1), decide_eq_true (by omega : j + 1 < n)]
    simp
    omega
  rw [hbt] at HSP
  have HX := Lib.hid hxv
  have HY := Lib.hid hyv
  clear hbt HB0 hpv hxv hyv
  have i1 : (j : Int) + 1 < (n : Int) := by omega
  have i2 : (j : Int) < (n : Int) := by omega
  have i3 : j + 1 < c := by omega
  have i4 : (0 : Int) < (j : Int) + 1 := by omega
  obtain ⟨rfl, hc143⟩ := hcase
  go_enter Try.func3, Try.ntmps3
  go_wp2_with fail
  refine (known19 _).mono ?_
  rintro e w1 ⟨rfl, b1⟩
  have s1 := b1.size
  go_wp2_with fail
  refine (WI.out _).mono ?_
  rintro e w2 ⟨rfl, rfl⟩
  have HL1 := Lib.hid (H.out.keep (w' := w1) fun p hp => b1.cell (by omega))
  clear H
  go_wp2_with fail
  refine (clean_any (l := l.take (j + 1)) (B := B) htk.out (by have := HL1.out.take (j + 1); rwa [← List.map_take] at this) (by omega)).mono ?_
  rintro e w2 ⟨rfl, hd2⟩
  have b2 := Drew.to b1 hd2
  have HL2 := Lib.hid (Drew.lst HL1.out hd2)
  have s2 := b2.size
  obtain ⟨b1', o1', e1', _, F1⟩ := lst_at HL2.out (k := j) (by rw [HL.out]; omega)
  injection e1' with e1'
  injection e1' with e1' e2'
  subst e1' e2'
  obtain ⟨b1', o1', e1', _, F2⟩ := lst_at HL2.out (k := j + 1) (by rw [HL.out]; omega)
  injection e1' with e1'
  injection e1' with e1' e2'
  subst e1' e2'
  rw [HX.out] at F1
  rw [HY.out] at F2
  have F1 := Lib.hid F1
  have F2 := Lib.hid F2
  clear HL1 b1 hd2 s1
  generalize clean (l.take (j + 1)) = c1 at *
  have CL : Hid (∀ u, Drew w2 u → Calls Try.prog 7 #[.slice (some ⟨b, o, none⟩) n c] u fun e w' => e = .returned (.bool (clean l)) ∧ Drew u w') := Lib.hid (fun u hu => clean_any HL.out (Drew.lst HL2.out hu) (by omega))
  generalize clean l = c0 at *
  cases c1
  · have hc0 : c0 = false := by rw [HSP.out]; simp
    subst hc0
    clear HSP
    have DD := Drew.refl w2
    have g1 := Drew.cel F1.out DD
    have g2 := Drew.cel F2.out DD
    go_wp2_with fail
    refine (CL.out _ DD).mono ?_
    rintro e w9 ⟨rfl, hd9⟩
    have b9 := Drew.to (Drew.to b2 DD) hd9
    go_wp2
    go_ret
    refine ⟨?_, b9⟩
    first | rfl | (simp; done) | (simp; omega)
  · have CD : Hid (∀ A' c', Lst w2 B A' ((l.drop (j + 1)).map (Value.int .u8)) → Calls Try.prog 7 #[.slice A' (n - (j + 1)) c'] w2 fun e w' => e = .returned (.bool (clean (l.drop (j + 1)))) ∧ Drew w2 w') := Lib.hid (fun A' c' h => clean_any hdk.out h (by omega))
    generalize clean (l.drop (j + 1)) = c2 at *
    go_wp2_with fail
    refine (CD.out _ _ (by have := HL2.out.drop (k := j + 1) rfl; rwa [← List.map_drop] at this)).mono ?_
    rintro e w3 ⟨rfl, hd3⟩
    have DD := hd3
    clear hd3
    cases c2
    · have hc0 : c0 = false := by rw [HSP.out]; simp
      subst hc0
      clear HSP
      have g1 := Drew.cel F1.out DD
      have g2 := Drew.cel F2.out DD
      go_wp2_with fail
      refine (CL.out _ DD).mono ?_
      rintro e w9 ⟨rfl, hd9⟩
      have b9 := Drew.to (Drew.to b2 DD) hd9
      go_wp2
      go_ret
      refine ⟨?_, b9⟩
      first | rfl | (simp; done) | (simp; omega)
    · have hc0 : c0 = false := by rw [HSP.out]; simp
      subst hc0
      clear HSP
      have g1 := Drew.cel F1.out DD
      have g2 := Drew.cel F2.out DD
      go_wp2_with fail
      refine (CL.out _ DD).mono ?_
      rintro e w9 ⟨rfl, hd9⟩
      have b9 := Drew.to (Drew.to b2 DD) hd9
      go_wp2
      go_ret
      refine ⟨?_, b9⟩
      first | rfl | (simp; done) | (simp; omega)
set_option maxHeartbeats 4000000 in
theorem walk_clean_7 (b o n c j : Nat) (x y : Int) (at0 : Int) (l : List Int) (w : World) (hl : l.length = n) (hn : n ≤ 300) (hc : n ≤ c) (hc2 : c ≤ maxLen) {B : Nat} (h : Lst w B (some ⟨b, o, none⟩) (l.map (Value.int .u8))) (hB : B ≤ w.heap.size) (hk : at0 % ((n : Int) + 1) = (((j + 1) : Nat) : Int)) (hy : j + 1 < n) (hxv : l.getD j 0 = x) (hyv : l.getD (j + 1) 0 = y) (hcase : x = 255 ∧ ¬ 143 < y) :
    Calls Try.prog 3 #[.slice (some ⟨b, o, none⟩) n c, .int .i64 at0] w fun e w' => e = .returned (.bool true) ∧ Below w.heap.size w w' := by
  have hkr := within_rng at0 ((n : Int) + 1) (by omega)
  have hkn : (j + 1) ≤ n := by omega
  have HSP : Hid (clean l = (clean (l.take (j + 1)) && clean (l.drop (j + 1)) && !(btw l (j + 1)))) := Lib.hid (clean_split l (j + 1) (by omega))
  have HB0 : Hid (btw l (j + 1) = (decide (0 < (j + 1)) && decide ((j + 1) < n) && pairAt l ((j + 1) - 1))) := Lib.hid (by rw [← hl]; rfl)
  have htk : Hid ((l.take (j + 1)).length = (j + 1)) := Lib.hid (by rw [List.length_take]; omega)
  have hdk : Hid ((l.drop (j + 1)).length = n - (j + 1)) := Lib.hid (by rw [List.length_drop, hl])
  have HL := Lib.hid hl
  have H := Lib.hid h
  have WI : Hid (∀ u, Calls Try.prog 6 #[.int .i64 at0, .int .i64 ((n : Int) + 1)] u fun e w'' => e = .returned (.int .i64 (((j + 1) : Nat) : Int)) ∧ u = w'') := Lib.hid (fun u => by
    have := within_any at0 ((n : Int) + 1) u (by omega) (by omega)
    rwa [hk] at this)
  unfold maxLen at hc2
  clear hl h hk hkr
  have hn3 : ¬ (300 : Int) < (n : Int) := by omega
  have hpv : pairAt l j = (decide (l.getD j 0 = 255) && decide (143 < l.getD (j + 1) 0)) := rfl
  rw [hxv, hyv] at hpv
  have hbt : btw l (j + 1) = false := by
    rw [HB0.out, show j + 1 - 1 = j from rfl, hpv, decide_eq_true (by omega : 0 < j + 1), decide_eq_true (by omega : j + 1 < n)]
    simp
    omega
  rw [hbt] at HSP
  have HX := Lib.hid hxv
  have HY := Lib.hid hyv
  clear hbt HB0 hpv hxv hyv
  have i1 : (j : Int) + 1 < (n : Int) := by omega
  have i2 : (j : Int) < (n : Int) := by omega
  have i3 : j + 1 < c := by omega
  have i4 : (0 : Int) < (j : Int) + 1 := by omega
  obtain ⟨rfl, hc143⟩ := hcase
  go_enter Try.func3, Try.ntmps3
  go_wp2_with fail
  refine (known19 _).mono ?_
  rintro e w1 ⟨rfl, b1⟩
  have s1 := b1.size
  go_wp2_with fail
  refine (WI.out _).mono ?_
  rintro e w2 ⟨rfl, rfl⟩
  have HL1 := Lib.hid (H.out.keep (w' := w1) fun p hp => b1.cell (by omega))
  clear H
  go_wp2_with fail
  refine (clean_any (l := l.take (j + 1)) (B := B) htk.out (by have := HL1.out.take (j + 1); rwa [← List.map_take] at this) (by omega)).mono ?_
  rintro e w2 ⟨rfl, hd2⟩
  have b2 := Drew.to b1 hd2
  have HL2 := Lib.hid (Drew.lst HL1.out hd2)
  have s2 := b2.size
  obtain ⟨b1', o1', e1', _, F1⟩ := lst_at HL2.out (k := j) (by rw [HL.out]; omega)
  injection e1' with e1'
  injection e1' with e1' e2'
  subst e1' e2'
  obtain ⟨b1', o1', e1', _, F2⟩ := lst_at HL2.out (k := j + 1) (by rw [HL.out]; omega)
  injection e1' with e1'
  injection e1' with e1' e2'
  subst e1' e2'
  rw [HX.out] at F1
  rw [HY.out] at F2
  have F1 := Lib.hid F1
  have F2 := Lib.hid F2
  clear HL1 b1 hd2 s1
  generalize clean (l.take (j + 1)) = c1 at *
  have CL : Hid (∀ u, Drew w2 u → Calls Try.prog 7 #[.slice (some ⟨b, o, none⟩) n c] u fun e w' => e = .returned (.bool (clean l)) ∧ Drew u w') := Lib.hid (fun u hu => clean_any HL.out (Drew.lst HL2.out hu) (by omega))
  generalize clean l = c0 at *
  cases c1
  · have hc0 : c0 = false := by rw [HSP.out]; simp
    subst hc0
    clear HSP
    have DD := Drew.refl w2
    have g1 := Drew.cel F1.out DD
    have g2 := Drew.cel F2.out DD
    go_wp2_with fail
    refine (CL.out _ DD).mono ?_
    rintro e w9 ⟨rfl, hd9⟩
    have b9 := Drew.to (Drew.to b2 DD) hd9
    go_wp2
    go_ret
    refine ⟨?_, b9⟩
    first | rfl | (simp; done) | (simp; omega)
  · have CD : Hid (∀ A' c', Lst w2 B A' ((l.drop (j + 1)).map (Value.int .u8)) → Calls Try.prog 7 #[.slice A' (n - (j + 1)) c'] w2 fun e w' => e = .returned (.bool (clean (l.drop (j + 1)))) ∧ Drew w2 w') := Lib.hid (fun A' c' h => clean_any hdk.out h (by omega))
    generalize clean (l.drop (j + 1)) = c2 at *
    go_wp2_with fail
    refine (CD.out _ _ (by have := HL2.out.drop (k := j + 1) rfl; rwa [← List.map_drop] at this)).mono ?_
    rintro e w3 ⟨rfl, hd3⟩
    have DD := hd3
    clear hd3
    cases c2
    · have hc0 : c0 = false := by rw [HSP.out]; simp
      subst hc0
      clear HSP
      have g1 := Drew.cel F1.out DD
      have g2 := Drew.cel F2.out DD
      go_wp2_with fail
      refine (CL.out _ DD).mono ?_
      rintro e w9 ⟨rfl, hd9⟩
      have b9 := Drew.to (Drew.to b2 DD) hd9
      go_wp2
      go_ret
      refine ⟨?_, b9⟩
      first | rfl | (simp; done) | (simp; omega)
    · have hc0 : c0 = true := by rw [HSP.out]; simp
      subst hc0
      clear HSP
      have g1 := Drew.cel F1.out DD
      have g2 := Drew.cel F2.out DD
      go_wp2_with fail
      refine (CL.out _ DD).mono ?_
      rintro e w9 ⟨rfl, hd9⟩
      have b9 := Drew.to (Drew.to b2 DD) hd9
      go_wp2
      go_ret
      refine ⟨?_, b9⟩
      first | rfl | (simp; done) | (simp; omega)
set_option maxHeartbeats 4000000 in
theorem walk_clean_8 (b o n c j : Nat) (x y : Int) (at0 : Int) (l : List Int) (w : World) (hl : l.length = n) (hn : n ≤ 300) (hc : n ≤ c) (hc2 : c ≤ maxLen) {B : Nat} (h : Lst w B (some ⟨b, o, none⟩) (l.map (Value.int .u8))) (hB : B ≤ w.heap.size) (hk : at0 % ((n : Int) + 1) = (((j + 1) : Nat) : Int)) (hy : j + 1 < n) (hxv : l.getD j 0 = x) (hyv : l.getD (j + 1) 0 = y) (hcase : ¬ x = 255) :
    Calls Try.prog 3 #[.slice (some ⟨b, o, none⟩) n c, .int .i64 at0] w fun e w' => e = .returned (.bool true) ∧ Below w.heap.size w w' := by
  have hkr := within_rng at0 ((n : Int) + 1) (by omega)
  have hkn : (j + 1) ≤ n := by omega
  have HSP : Hid (clean l = (clean (l.take (j + 1)) && clean (l.drop (j + 1)) && !(btw l (j + 1)))) := Lib.hid (clean_split l (j + 1) (by omega))
  have HB0 : Hid (btw l (j + 1) = (decide (0 < (j + 1)) && decide ((j + 1) < n) && pairAt l ((j + 1) - 1))) := Lib.hid (by rw [← hl]; rfl)
  have htk : Hid ((l.take (j + 1)).length = (j + 1)) := Lib.hid (by rw [List.length_take]; omega)
  have hdk : Hid ((l.drop (j + 1)).length = n - (j + 1)) := Lib.hid (by rw [List.length_drop, hl])
  have HL := Lib.hid hl
  have H := Lib.hid h
  have WI : Hid (∀ u, Calls Try.prog 6 #[.int .i64 at0, .int .i64 ((n : Int) + 1)] u fun e w'' => e = .returned (.int .i64 (((j + 1) : Nat) : Int)) ∧ u = w'') := Lib.hid (fun u => by
    have := within_any at0 ((n : Int) + 1) u (by omega) (by omega)
    rwa [hk] at this)
  unfold maxLen at hc2
  clear hl h hk hkr
  have hn3 : ¬ (300 : Int) < (n : Int) := by omega
  have hpv : pairAt l j = (decide (l.getD j 0 = 255) && decide (143 < l.getD (j + 1) 0)) := rfl
  rw [hxv, hyv] at hpv
  have hbt : btw l (j + 1) = false := by
    rw [HB0.out, show j + 1 - 1 = j from rfl, hpv, decide_eq_true (by omega : 0 < j + 1), decide_eq_true (by omega : j + 1 < n)]
    simp
    omega
  rw [hbt] at HSP
  have HX := Lib.hid hxv
  have HY := Lib.hid hyv
  clear hbt HB0 hpv hxv hyv
  have i1 : (j : Int) + 1 < (n : Int) := by omega
  have i2 : (j : Int) < (n : Int) := by omega
  have i3 : j + 1 < c := by omega
  have i4 : (0 : Int) < (j : Int) + 1 := by omega
  have hxb : (x == 255) = false := by simpa using hcase
  clear hcase
  go_enter Try.func3, Try.ntmps3
  go_wp2_with fail
  refine (known19 _).mono ?_
  rintro e w1 ⟨rfl, b1⟩
  have s1 := b1.size
  go_wp2_with fail
  refine (WI.out _).mono ?_
  rintro e w2 ⟨rfl, rfl⟩
  have HL1 := Lib.hid (H.out.keep (w' := w1) fun p hp => b1.cell (by omega))
  clear H
  go_wp2_with fail
  refine (clean_any (l := l.take (j + 1)) (B := B) htk.out (by have := HL1.out.take (j + 1); rwa [← List.map_take] at this) (by omega)).mono ?_
  rintro e w2 ⟨rfl, hd2⟩
  have b2 := Drew.to b1 hd2
  have HL2 := Lib.hid (Drew.lst HL1.out hd2)
  have s2 := b2.size
  obtain ⟨b1', o1', e1', _, F1⟩ := lst_at HL2.out (k := j) (by rw [HL.out]; omega)
  injection e1' with e1'
  injection e1' with e1' e2'
  subst e1' e2'
  obtain ⟨b1', o1', e1', _, F2⟩ := lst_at HL2.out (k := j + 1) (by rw [HL.out]; omega)
  injection e1' with e1'
  injection e1' with e1' e2'
  subst e1' e2'
  rw [HX.out] at F1
  rw [HY.out] at F2
  have F1 := Lib.hid F1
  have F2 := Lib.hid F2
  clear HL1 b1 hd2 s1
  generalize clean (l.take (j + 1)) = c1 at *
  have CL : Hid (∀ u, Drew w2 u → Calls Try.prog 7 #[.slice (some ⟨b, o, none⟩) n c] u fun e w' => e = .returned (.bool (clean l)) ∧ Drew u w') := Lib.hid (fun u hu => clean_any HL.out (Drew.lst HL2.out hu) (by omega))
  generalize clean l = c0 at *
  cases c1
  · have hc0 : c0 = false := by rw [HSP.out]; simp
    subst hc0
    clear HSP
    have DD := Drew.refl w2
    have g1 := Drew.cel F1.out DD
    have g2 := Drew.cel F2.out DD
    go_wp2_with fail
    refine (CL.out _ DD).mono ?_
    rintro e w9 ⟨rfl, hd9⟩
    have b9 := Drew.to (Drew.to b2 DD) hd9
    go_wp2
    go_ret
    refine ⟨?_, b9⟩
    first | rfl | (simp; done) | (simp; omega)
  · have CD : Hid (∀ A' c', Lst w2 B A' ((l.drop (j + 1)).map (Value.int .u8)) → Calls Try.prog 7 #[.slice A' (n - (j + 1)) c'] w2 fun e w' => e = .returned (.bool (clean (l.drop (j + 1)))) ∧ Drew w2 w') := Lib.hid (fun A' c' h => clean_any hdk.out h (by omega))
    generalize clean (l.drop (j + 1)) = c2 at *
    go_wp2_with fail
    refine (CD.out _ _ (by have := HL2.out.drop (k := j + 1) rfl; rwa [← List.map_drop] at this)).mono ?_
    rintro e w3 ⟨rfl, hd3⟩
    have DD := hd3
    clear hd3
    cases c2
    · have hc0 : c0 = false := by rw [HSP.out]; simp
      subst hc0
      clear HSP
      have g1 := Drew.cel F1.out DD
      have g2 := Drew.cel F2.out DD
      go_wp2_with fail
      refine (CL.out _ DD).mono ?_
      rintro e w9 ⟨rfl, hd9⟩
      have b9 := Drew.to (Drew.to b2 DD) hd9
      go_wp2
      go_ret
      refine ⟨?_, b9⟩
      first | rfl | (simp; done) | (simp; omega)
    · have hc0 : c0 = true := by rw [HSP.out]; simp
      subst hc0
      clear HSP
      have g1 := Drew.cel F1.out DD
      have g2 := Drew.cel F2.out DD
      go_wp2_with fail
      refine (CL.out _ DD).mono ?_
      rintro e w9 ⟨rfl, hd9⟩
      have b9 := Drew.to (Drew.to b2 DD) hd9
      go_wp2
      go_ret
      refine ⟨?_, b9⟩
      first | rfl | (simp; done) | (simp; omega)
theorem walk_grammarClean (a0 : Option Addr) (len0 cap0 : Nat) (z0 : List Int) (a1 : Int) (w : World) (w0 : IsRow .u8 w a0 len0 cap0 z0) (w1 : (Lit.int .i64 a1).wf = true) :
    Calls Try.prog 3 #[.slice a0 len0 cap0, .int .i64 a1] w fun e w' => e = .returned (.bool true) ∧ Below w.heap.size w w' := by
  have hl := lst_of_row w0
  obtain ⟨hlen, hlc, hcm, hnil⟩ := row_len w0
  clear w0
  generalize z0.take len0 = l at *
  by_cases hn : len0 ≤ 300
  · have hr := within_rng a1 ((len0 : Int) + 1) (by omega)
    obtain ⟨k, hk⟩ : ∃ k : Nat, a1 % ((len0 : Int) + 1) = (k : Int) := ⟨(a1 % ((len0 : Int) + 1)).toNat, by omega⟩
    by_cases h1 : k < len0
    · obtain ⟨b, o, rfl, _, _⟩ := lst_at hl (k := 0) (by omega)
      by_cases h2 : 0 < k
      · obtain ⟨j, rfl⟩ : ∃ j, k = j + 1 := ⟨k - 1, by omega⟩
        by_cases h3 : l.getD j 0 = 255
        · by_cases h4 : 143 < l.getD (j + 1) 0
          · exact walk_clean_6 b o len0 cap0 j _ _ a1 l w hlen hn hlc hcm hl (Nat.le_refl _) hk h1 rfl rfl ⟨h3, h4⟩
          · exact walk_clean_7 b o len0 cap0 j _ _ a1 l w hlen hn hlc hcm hl (Nat.le_refl _) hk h1 rfl rfl ⟨h3, h4⟩
        · exact walk_clean_8 b o len0 cap0 j _ _ a1 l w hlen hn hlc hcm hl (Nat.le_refl _) hk h1 rfl rfl h3
      · exact walk_clean_5 b o len0 cap0 k a1 l w hlen hn hlc hcm hl (Nat.le_refl _) hk h1 h2
    · obtain rfl : k = len0 := by omega
      by_cases h2 : 0 < k
      · rcases Nat.lt_or_ge k cap0 with h3 | h3
        · exact walk_clean_2 a0 cap0 k a1 l w hlen hn hlc hcm hl (Nat.le_refl _) hk h3 h2
        · obtain rfl : k = cap0 := by omega
          exact walk_clean_1 a0 k a1 l w hlen hn hlc hcm hl (Nat.le_refl _) hk h2
      · rcases Nat.lt_or_ge k cap0 with h3 | h3
        · exact walk_clean_4 a0 cap0 k a1 l w hlen hn hlc hcm hl (Nat.le_refl _) hk h3 h2
        · obtain rfl : k = cap0 := by omega
          exact walk_clean_3 a0 k a1 l w hlen hn hlc hcm hl (Nat.le_refl _) hk h2
  · have hn2 : (300 : Int) < (len0 : Int) := by omega
    have HL := Lib.hid hlen
    have HN := Lib.hid hnil
    clear hl hlen hnil
    unfold maxLen at hcm
    go_enter Try.func3, Try.ntmps3
    go_wp2_with fail
    refine (known19 _).mono ?_
    rintro e w1 ⟨rfl, b1⟩
    go_wp2
    go_ret
    exact ⟨rfl, b1⟩
end Go.Proofs.Ytgcnbeolibjmdaa
