/- slices.Clone at bytes, and the two functions Put, by their contracts. -/
import Derived.Test.YtlbfjaifemnkpaaMem
set_option linter.unusedVariables false
namespace Go.Proofs.Ytlbfjaifemnkpaa
open Go.RowKit

set_option maxHeartbeats 1000000 in
theorem clone_u8 (A : Option Addr) (n c : Nat) (xs : List Value) (B : Nat) (w : World) (hl : xs.length = n) (hA : A = none → n = 0 ∧ c = 0) (h : Lst w B A xs) (h1 : ∀ u ∈ xs, u.oneCell' = true) (hn : n ≤ 140737488355328) :
    Calls Try.prog 56 #[.slice A n c] w fun e w' => ∃ v, e = .returned v ∧ w'.ownsRow w.heap.size 5 1 v n xs ∧ Below w.heap.size w w' := by
  have qT : ∀ (w : World) (a : Option Addr) (n c n' c' : Nat), (binOp .eql 25 (.slice a n c) (.slice none n' c')).run Try.prog w = .ok (.bool a.isNone) w := fun w a n c n' c' => Lib.run_eql_slice_nil w _ _ a n c n' c' Try.underlying25
  obtain ⟨i0, hi, hz0, hz1, hz2⟩ := info_parts Try.info5
  rcases A with _ | a
  · obtain ⟨rfl, rfl⟩ := hA rfl
    obtain rfl : xs = [] := List.eq_nil_of_length_eq_zero hl
    go_enter Try.func56, Try.ntmps56
    go_wp2
    go_ret
    exact ⟨_, rfl, World.ownsRow_nil _ _ _ _, Below.refl _ _⟩
  · have hcells := h.add rfl
    have HC := Lib.hid hcells
    clear hcells hA
    go_enter Try.func56, Try.ntmps56
    have hwl := Lib.hid hl
    clear hl
    go_wp2_with (at_builtin; refine wpList_append_own _ rfl (.tmp 5) (.tmp 6) 25 rfl w.heap.size 5 i0 (.int .u8 0) 1 1 Try.underlying25 hi hz0 hz1 hz2 rfl (by decide) (.slice (some ⟨w.heap.size, 0, none⟩) 0 0) 0 [] rfl (World.ownsRow_made w #[] 0 (Nat.le_refl _) (by unfold maxLen; omega) rfl) a n c xs rfl ?k1 ?k2 h1 ?k3 ?k4 ?k5 ?_)
    case k1 => rw [hwl.out]; simp
    case k2 =>
      intro j u hu
      exact (World.cell?_alloc_lt w _ _ (World.block_lt_of_cell? w _ (HC.out j u hu))).trans (HC.out j u hu)
    case k3 => unfold maxLen; omega
    case k4 => omega
    case k5 => simp
    intro v1 w1 hown hg _
    go_wp2
    go_ret
    refine ⟨v1, rfl, by simpa using hown, ?_⟩
    exact ((Below.refl _ _).alloc (Nat.le_refl _) _).grown hg (by simp) (by simp [Value.ownBlock])
theorem isSize_yes (s : Int) (w : World) (h : 1 ≤ s ∧ s ≤ 8) : Calls Try.prog 58 #[.int .i64 s] w fun e w' => e = .returned (.bool true) ∧ w = w' := by
  go_enter Try.func58, Try.ntmps58
  go_wp2
  go_ret
  exact ⟨rfl, rfl⟩
theorem isSize_no (s : Int) (w : World) (h : ¬ (1 ≤ s ∧ s ≤ 8)) : Calls Try.prog 58 #[.int .i64 s] w fun e w' => e = .returned (.bool false) ∧ w = w' := by
  by_cases c : 1 ≤ s
  all_goals
    go_enter Try.func58, Try.ntmps58
    go_wp2
    go_ret
    exact ⟨ret_bool (by simp; try omega), rfl⟩

/-- The lowest k bytes of m, the highest of them first. -/
def putL (m : Int) : Nat → List Int
  | 0 => []
  | k + 1 => m / 2 ^ (8 * k) % 256 :: putL m k
theorem putL_len (m : Int) (k : Nat) : (putL m k).length = k := by
  induction k with
  | zero => rfl
  | succ k ih => simp [putL, ih]
theorem putL_step (m : Int) (k : Int) (h : 1 ≤ k) : putL m k.toNat = m / 2 ^ (8 * (k - 1)).toNat % 256 :: putL m (k - 1).toNat := by
  obtain ⟨j, rfl⟩ : ∃ j : Nat, k = (j : Int) + 1 := ⟨(k - 1).toNat, by omega⟩
  rw [show ((j : Int) + 1).toNat = j + 1 from by omega, show ((j : Int) + 1 - 1).toNat = j from by omega, show (8 * ((j : Int) + 1 - 1)).toNat = 8 * j from by omega]
  rfl
theorem u8_one (l : List Int) : ∀ u ∈ l.map (Value.int .u8), u.oneCell' = true := ints_oneCell .u8 l

/-- bytes.Put: a new slice with the argument's bytes, and those of the number. -/
def putSaid (m size : Int) : List Int := if 1 ≤ size ∧ size ≤ 8 then putL m size.toNat else []

set_option maxHeartbeats 1000000 in
theorem put_in (A : Option Addr) (n c : Nat) (xs : List Value) (w : World) (size m : Int) (hl : xs.length = n) (hA : A = none → n = 0 ∧ c = 0) (h : Lst w w.heap.size A xs) (h1 : ∀ u ∈ xs, u.oneCell' = true) (hn : n ≤ 1000000)
    (hs : 1 ≤ size ∧ size ≤ 8) :
    Calls Try.prog 49 #[.slice A n c, .int .i64 size, .int .i64 m] w fun e w' => ∃ v, e = .returned v ∧ w'.ownsRow w.heap.size 5 1 v (n + size.toNat) (xs ++ (putL m size.toNat).map (Value.int .u8)) ∧ Below w.heap.size w w' := by
  obtain ⟨i0, hi, hz0, hz1, hz2⟩ := info_parts Try.info5
  have L1 := Lib.hid h1
  have HL := Lib.hid hl
  go_enter Try.func49, Try.ntmps49
  go_wp2_with fail
  refine (clone_u8 A n c xs _ _ hl hA h h1 (by omega)).mono ?_
  rintro e w1 ⟨v, rfl, hown, hb⟩
  have hsz := hb.size
  clear hl hA h h1
  go_wp2_with fail
  refine (isSize_yes _ _ hs).mono ?_
  rintro e w' ⟨rfl, rfl⟩
  go_wp2
  go_loopw [7, 8] (fun l i wr => ∃ (k : Int) (acc : List Int), 0 ≤ k ∧ k ≤ size ∧ (acc.length : Int) + k = size ∧ i = .int .i64 (k - 1) ∧ wr.ownsRow w.heap.size 5 1 l (n + acc.length) (xs ++ acc.map (Value.int .u8)) ∧
      Hid (acc ++ putL m k.toNat = putL m size.toNat) ∧ Below w.heap.size w wr) (fun _ i _ => (1 + intOf i).toNat)
  case atStart => exact ⟨size, [], by omega, by omega, by simp, rfl, by simpa using hown, rfl, hb⟩
  case round =>
    obtain ⟨k, acc, k0, k1, k2, rfl, hown1, HP, hb1⟩ := hrel
    clear hown hb hsz
    have hs1 := hb1.size
    by_cases c1 : 1 ≤ k
    · have k3 : acc.length ≤ 7 := by omega
      have K2 := Lib.hid k2
      clear k2
      go_wp2_with (at_builtin; refine wpList_append_own _ rfl _ _ 25 rfl w.heap.size 5 i0 (.int .u8 0) 1 1 Try.underlying25 hi hz0 hz1 hz2 rfl (by decide) _ _ _ rfl (hown1.alloc _) ⟨wr.heap.size, 0, none⟩ 1 1 [.int .u8 (m / 2 ^ (8 * (k - 1)).toNat % 256)] rfl rfl (cell_one_new _ _ _) ?k2 ?k3 ?k4 ?k5 ?_)
      case k2 => intro u hu; simp at hu; subst hu; rfl
      case k3 => unfold maxLen; omega
      case k4 => omega
      case k5 => simp; omega
      intro v2 w2 hown2 hg2 _
      have hb2 : Below w.heap.size w w2 := (hb1.alloc hs1 _).grown hg2 (by simp; omega) (fun g hg => (hown1.lt g hg).1)
      clear hg2 hown1
      go_wp2
      go_roundw
      case rel =>
        have := K2.out
        refine ⟨k - 1, acc ++ [m / 2 ^ (8 * (k - 1)).toNat % 256], by omega, by omega, by simp; omega, rfl, ?_, ?_, hb2⟩
        · simpa [Nat.add_assoc, List.map_append, List.append_assoc] using hown2
        · have h2 := HP.out
          rw [putL_step m k c1] at h2
          show _ = _
          rw [← h2]; simp
      case measure => simp [intOf]; omega
    · obtain rfl : k = 0 := by omega
      have HP2 : Hid (acc = putL m size.toNat) := by
        have := HP.out
        show acc = _
        simpa [putL] using this
      clear HP k2
      go_wp2
      go_ret
      refine ⟨_, rfl, ?_, hb1⟩
      have e := HP2.out
      have e2 := putL_len m size.toNat
      rw [← e] at e2 ⊢
      rw [← e2]
      exact hown1

theorem putL_get (m : Int) : ∀ (k j : Nat), j < k → (putL m k)[j]? = some (m / 2 ^ (8 * (k - 1 - j)) % 256) := by
  intro k
  induction k with
  | zero => intro j h; omega
  | succ k ih =>
    intro j h
    rcases j with _ | j
    · simp [putL]
    · rw [putL, List.getElem?_cons_succ, ih j (by omega)]
      rw [show k + 1 - 1 - (j + 1) = k - 1 - j from by omega]
theorem u64_byte (m : Int) (i : Nat) (h : i < 8) : (m % 18446744073709551616) / 2 ^ (8 * i) % 256 = m / 2 ^ (8 * i) % 256 := by
  obtain rfl | rfl | rfl | rfl | rfl | rfl | rfl | rfl : i = 0 ∨ i = 1 ∨ i = 2 ∨ i = 3 ∨ i = 4 ∨ i = 5 ∨ i = 6 ∨ i = 7 := by omega
  all_goals simp only [show (2 : Int) ^ (8 * 0) = 1 from rfl, show (2 : Int) ^ (8 * 1) = 256 from rfl, show (2 : Int) ^ (8 * 2) = 65536 from rfl, show (2 : Int) ^ (8 * 3) = 16777216 from rfl, show (2 : Int) ^ (8 * 4) = 4294967296 from rfl, show (2 : Int) ^ (8 * 5) = 1099511627776 from rfl, show (2 : Int) ^ (8 * 6) = 281474976710656 from rfl, show (2 : Int) ^ (8 * 7) = 72057594037927936 from rfl]; omega

/-- bytes.Put of a size that a field has: the slice that comes, by its row. -/
theorem put_some (A : Option Addr) (n c : Nat) (xs : List Value) (w : World) (size m : Int) (hl : xs.length = n) (hA : A = none → n = 0 ∧ c = 0) (h : Lst w w.heap.size A xs) (h1 : ∀ u ∈ xs, u.oneCell' = true) (hn : n ≤ 1000000)
    (hs : 1 ≤ size ∧ size ≤ 8) :
    Calls Try.prog 49 #[.slice A n c, .int .i64 size, .int .i64 m] w fun e w' => ∃ g cap, e = .returned (.slice (some ⟨g, 0, none⟩) (n + size.toNat) cap) ∧
      w'.ownsRow w.heap.size 5 1 (.slice (some ⟨g, 0, none⟩) (n + size.toNat) cap) (n + size.toNat) (xs ++ (putL m size.toNat).map (Value.int .u8)) ∧ Below w.heap.size w w' :=
  (put_in A n c xs w size m hl hA h h1 hn hs).mono fun e w' ⟨v, he, hown, hb⟩ => by
    obtain ⟨g, cap, hv, _⟩ := own_form hown (by omega)
    subst hv
    exact ⟨g, cap, he, hown, hb⟩

end Go.Proofs.Ytlbfjaifemnkpaa
