/- Package boxes: the laws' helpers; BoxesMany. -/
import Derived.Test.YtfjkfajhfnmjjaaBoxW
set_option linter.unusedVariables false
set_option linter.unusedSimpArgs false
namespace Go.Proofs.Ytfjkfajhfnmjjaa
open Go.RowKit Go.Shelf
attribute [local go_sem ↓] appSem_eq
theorem numL_put (m : Int) (h : 0 ≤ m ∧ m < 4294967296) : num (putL m 4) = m := by
  have e : putL m 4 = [m / 16777216 % 256, m / 65536 % 256, m / 256 % 256, m / 1 % 256] := rfl
  have e2 : numL 0 (putL m 4) = m := by
    rw [e]
    show ((((0 * 256 % 18446744073709551616 + m / 16777216 % 256) * 256 % 18446744073709551616 + m / 65536 % 256) * 256 % 18446744073709551616 + m / 256 % 256) * 256 % 18446744073709551616 + m / 1 % 256) = m
    omega
  unfold num
  rw [e2]
  exact IntWalk.wrap64_in _ (by omega)
theorem putL_bytes (m : Int) (k : Nat) : ∀ x ∈ putL m k, 0 ≤ x ∧ x ≤ 255 := by
  induction k with
  | zero => intro x hx; simp [putL] at hx
  | succ k ih =>
    intro x hx
    rw [putL] at hx
    rcases List.mem_cons.1 hx with rfl | hx
    · omega
    · exact ih x hx
/-- A box that may be. -/
def GoodB (x : List Int × List Int) : Prop := x.1.length = 4 ∧ x.2.length ≤ 100000 ∧ (∀ y ∈ x.1, 0 ≤ y ∧ y ≤ 255) ∧ ∀ y ∈ x.2, 0 ≤ y ∧ y ≤ 255
theorem nxt_of {m : Int} {kd r : List Int} {n : Nat} (hk : kd.length = 4) (hm : m = 8 + n) (hn : n ≤ 100000) (hr : n ≤ r.length) : nxt (putL m 4 ++ kd ++ r) = .box kd (r.take n) (r.drop n) := by
  have h4 := putL_len m 4
  have e1 : (putL m 4 ++ kd ++ r).take 4 = putL m 4 := by rw [List.append_assoc]; exact List.take_left' h4
  have e2 : ((putL m 4 ++ kd ++ r).drop 4).take 4 = kd := by rw [List.append_assoc, List.drop_left' h4]; exact List.take_left' hk
  have e3 : (putL m 4 ++ kd ++ r).drop 8 = r := List.drop_left' (by rw [List.length_append]; omega)
  unfold nxt
  rw [if_neg (by rw [List.length_append, List.length_append]; omega), e1, e2, e3, numL_put m (by omega), if_neg (by omega), if_neg (by omega)]
  unfold nxtB
  rw [if_neg (by omega), if_neg (by omega), if_neg (by omega), show (m - (8 : Nat)).toNat = n by omega]
theorem nxt_boxB {x : List Int × List Int} (h : GoodB x) (r : List Int) : nxt (boxB x ++ r) = .box x.1 x.2 r := by
  unfold boxB
  rw [List.append_assoc]
  have := nxt_of (m := 8 + (x.2.length : Int)) (kd := x.1) (r := x.2 ++ r) (n := x.2.length) h.1 rfl h.2.1 (by rw [List.length_append]; omega)
  rw [this, List.take_left, List.drop_left]
theorem boxB_ne {x : List Int × List Int} (h : GoodB x) (r : List Int) : boxB x ++ r ≠ [] := by
  intro e
  have := congrArg List.length e
  unfold boxB at this
  simp only [List.length_append, putL_len, List.length_nil] at this
  omega
theorem rdF_wr : ∀ (l : List (List Int × List Int)) (f c : Nat), l.length < f → (∀ x ∈ l, GoodB x) → c ≤ 100 → rdF f c (wrB l) = if c + l.length ≤ 100 then .good l else .bad 4 := by
  intro l
  induction l with
  | nil =>
    intro f c hf _ hc
    obtain ⟨g, rfl⟩ : ∃ g, f = g + 1 := ⟨f - 1, by simp at hf; omega⟩
    rw [if_pos (by simpa using hc)]
    rfl
  | cons x l ih =>
    intro f c hf hg hc
    obtain ⟨g, rfl⟩ : ∃ g, f = g + 1 := ⟨f - 1, by simp at hf; omega⟩
    have hx := hg x (by simp)
    have hw : wrB (x :: l) = boxB x ++ wrB l := rfl
    rw [hw, rdF, if_neg (boxB_ne hx _), nxt_boxB hx]
    simp only
    by_cases h100 : c = 100
    · rw [if_pos h100, if_neg (by simp only [List.length_cons]; omega)]
    · rw [if_neg h100, ih g (c + 1) (by simp at hf; omega) (fun y hy => hg y (by simp [hy])) (by omega)]
      simp only [List.length_cons]
      by_cases hle : c + 1 + l.length ≤ 100
      · rw [if_pos hle, if_pos (by omega)]; rfl
      · rw [if_neg hle, if_neg (by omega)]; rfl
theorem wrB_bytes {l : List (List Int × List Int)} (h : ∀ x ∈ l, GoodB x) : ∀ y ∈ wrB l, 0 ≤ y ∧ y ≤ 255 := by
  intro y hy
  unfold wrB at hy
  obtain ⟨x, hx, hy⟩ := List.mem_flatMap.1 hy
  unfold boxB at hy
  rcases List.mem_append.1 hy with hy | hy
  · rcases List.mem_append.1 hy with hy | hy
    · exact putL_bytes _ _ y hy
    · exact (h x hx).2.2.1 y hy
  · exact (h x hx).2.2.2 y hy
theorem within20 (a n : Int) (w : World) (hn : 1 ≤ n) (hm : n ≤ 4611686018427387904) :
    Calls Try.prog 13 #[.int .i64 a, .int .i64 n] w fun e w' => e = .returned (.int .i64 (a % n)) ∧ w = w' := by
  have hb := within_bd a n hn
  have hk := within_key a n hn
  have HK := Lib.hid hk
  clear hk
  have h0 : ¬ n = 0 := by omega
  by_cases hc : a.tmod n < 0
  · go_enter Try.func13, Try.ntmps13
    go_wp2
    go_ret
    refine ⟨ret_i64 ?_, rfl⟩
    rw [← HK.out, if_pos (by omega)]
  · go_enter Try.func13, Try.ntmps13
    go_wp2
    go_ret
    refine ⟨ret_i64 ?_, rfl⟩
    rw [← HK.out, if_neg (by omega)]
def modN (a : Int) (n : Nat) : Nat := (a % (n : Int)).toNat
theorem modN_lt (a : Int) (n : Nat) (hn : 1 ≤ n) : modN a n < n ∧ a % (n : Int) = (modN a n : Int) := by
  have := within_rng a n (by omega)
  unfold modN
  omega
theorem some20 (a : Int) (n : Nat) (w : World) (hn : 1 ≤ n) (hm : n ≤ 100000) :
    Calls Try.prog 13 #[.int .i64 a, .int .i64 (n : Int)] w fun e w' => e = .returned (.int .i64 (modN a n : Int)) ∧ w = w' :=
  (within20 a n w (by omega) (by omega)).mono fun e w' ⟨he, hw⟩ => ⟨by rw [he, (modN_lt a n hn).2], hw⟩
set_option maxHeartbeats 1000000 in
theorem known20 (w : World) : Calls Try.prog 7 #[] w fun e w' => e = .returned (.bool true) ∧ Below w.heap.size w w' := by
  go_enter Try.func7, Try.ntmps7
  go_wp2_with fail
  obtain ⟨W1, hW1⟩ : ∃ W1, w.alloc (Obj.cells #[.int .u8 0, .int .u8 0, .int .u8 0, .int .u8 8] 5) = W1 := ⟨_, rfl⟩
  have hb1 : Below w.heap.size w W1 := by rw [← hW1]; exact (Below.refl _ w).alloc (Nat.le_refl _) _
  have hz1 : W1.heap[w.heap.size]? = some (.cells #[.int .u8 0, .int .u8 0, .int .u8 0, .int .u8 8] 5 (0, 0)) := by rw [← hW1]; exact World.alloc_heap_new w _
  have hL : Lst W1 W1.heap.size (some ⟨w.heap.size, 0, none⟩) (([0, 0, 0, 8] : List Int).map (Value.int .u8)) := fun i u hu => ⟨_, _, rfl, blk_lt hz1, by
    rw [Nat.zero_add, blk_cell hz1 i, ← hu]; simp⟩
  have CR := read_any (some ⟨w.heap.size, 0, none⟩) 4 4 [0, 0, 0, 8] W1 rfl (by simp) hL (by omega) (by decide)
  have e8 : rdF (([0, 0, 0, 8] : List Int).length + 1) 0 [0, 0, 0, 8] = .bad 8 := rfl
  rw [e8] at CR
  have CR := Lib.hid CR
  rw [hW1]
  clear hW1 hL e8 hz1
  refine CR.out.mono ?_
  rintro e w2 ⟨hb2, rfl⟩
  have HB2 := Lib.hid (hb1.trans (hb2.mono hb1.size))
  clear CR hb1 hb2
  go_wp2_with fail
  have hst : (ByteArray.mk #[97, 98, 99, 100]) = strOf [97, 98, 99, 100] := by rfl
  have hz2 := World.alloc_heap_new w2 (.cells #[.string ⟨#[97, 98, 99, 100]⟩, .slice none 0 0] 42)
  have hBX : BoxL (w2.alloc (.cells #[.string ⟨#[97, 98, 99, 100]⟩, .slice none 0 0] 42)) w2.heap.size (.slice (some ⟨w2.heap.size, 0, none⟩) 1 1) [([97, 98, 99, 100], [])] := by
    rw [hst] at hz2 ⊢
    exact ⟨[([97, 98, 99, 100], [], .slice none 0 0)], rfl, ⟨rfl, .inr ⟨w2.heap.size, 1, _, rfl, Nat.le_refl _, hz2, Nat.le_refl _, by unfold maxLen; omega, rfl, rfl⟩⟩, fun t ht => by
      obtain rfl : t = ([97, 98, 99, 100], [], .slice none 0 0) := by simpa using ht
      exact World.ownsRow_nil _ _ _ _⟩
  have hb3 : Below w.heap.size w (w2.alloc (.cells #[.string ⟨#[97, 98, 99, 100]⟩, .slice none 0 0] 42)) := HB2.out.alloc HB2.out.size _
  refine (write_any hBX (by decide) (by decide) (by decide)).mono ?_
  rintro e w4 ⟨v, rfl, ho, hb4⟩
  obtain ⟨A, c, rfl, _⟩ := own_any ho
  have e8 : (wrB [([97, 98, 99, 100], [])]).length = 8 := rfl
  rw [e8] at ho ⊢
  have HB4 := Lib.hid (hb3.trans (hb4.mono hb3.size))
  clear hst hz2 hBX hb3 ho hb4 e8
  go_wp2
  go_ret
  exact ⟨rfl, HB4.out⟩
end Go.Proofs.Ytfjkfajhfnmjjaa
