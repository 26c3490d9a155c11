/- Rows of whole numbers: within, Row, ints by their contracts. -/
import Derived.Test.YtgadebfelomhpaaMem
import Derived.RegionTactic
import Derived.ChangeAlike
set_option linter.unusedVariables false
namespace Go.Proofs.Ytgadebfelomhpaa
open Go.RowKit

/-- The slice reads as the list of numbers. -/
def RowI (w : World) (A : Option Addr) (n c : Nat) (l : List Int) : Prop :=
  l.length = n ∧ n ≤ c ∧ c ≤ maxLen ∧ (A = none → n = 0 ∧ c = 0) ∧ Lst w w.heap.size A (l.map (Value.int .i64))
theorem RowI.keep {w w' : World} {A : Option Addr} {n c B : Nat} {l : List Int} (h : RowI w A n c l) (hb : Below B w w') (hB : w.heap.size ≤ B) : RowI w' A n c l :=
  ⟨h.1, h.2.1, h.2.2.1, h.2.2.2.1, ((h.2.2.2.2.below (hb.mono hB)).more hb.size)⟩
theorem RowI.drew {w w' : World} {A : Option Addr} {n c : Nat} {l : List Int} (h : RowI w A n c l) (d : Drew w w') : RowI w' A n c l := h.keep d.below (Nat.le_refl _)
theorem rowI_own {w : World} {base n : Nat} {v : Value} {l : List Int} (h : w.ownsRow base 3 1 v n (l.map (Value.int .i64))) : ∃ A c, v = .slice A n c ∧ RowI w A n c l := by
  obtain ⟨A, c, rfl, hA, hc, hm⟩ := own_any h
  exact ⟨A, c, rfl, by have := h.1; simpa using this, hc, hm, hA, Lst.own h⟩
/-- The slice is the caller's own, from block lo on, and reads as the list. -/
def RowO (lo : Nat) (w : World) (A : Option Addr) (n c : Nat) (l : List Int) : Prop := w.ownsRow lo 3 1 (.slice A n c) n (l.map (Value.int .i64))
theorem RowO.row {lo : Nat} {w : World} {A : Option Addr} {n c : Nat} {l : List Int} (h : RowO lo w A n c l) : RowI w A n c l := by
  obtain ⟨A', c', hv, hr⟩ := rowI_own h
  injection hv with h1 _ h3
  subst h1 h3
  exact hr
theorem RowO.lower {lo lo' : Nat} {w : World} {A : Option Addr} {n c : Nat} {l : List Int} (h : RowO lo w A n c l) (hl : lo' ≤ lo) : RowO lo' w A n c l := by
  refine ⟨h.1, ?_⟩
  rcases h.2 with h | ⟨g, cap, cur, hv, hg, r⟩
  · exact Or.inl h
  · exact Or.inr ⟨g, cap, cur, hv, Nat.le_trans hl hg, r⟩
theorem rowI_is {w : World} {a : Option Addr} {len cap : Nat} {zs : List Int} (h : IsRow .i64 w a len cap zs) : RowI w a len cap (zs.take len) := by
  obtain ⟨h1, h2, h3, h4⟩ := row_len h
  exact ⟨h1, h2, h3, h4, lst_of_row h⟩
theorem RowI.take {w : World} {A : Option Addr} {n c : Nat} {l : List Int} (h : RowI w A n c l) {k : Nat} (hk : k ≤ n) (hA : A ≠ none ∨ k ≤ n) : RowI w A k c (l.take k) := by
  refine ⟨by rw [List.length_take, h.1]; omega, by have := h.2.1; omega, h.2.2.1, fun e => ?_, ?_⟩
  · have := h.2.2.2.1 e; omega
  · rw [List.map_take]; exact h.2.2.2.2.take k
theorem RowI.cell {w : World} {A : Option Addr} {n c : Nat} {l : List Int} (h : RowI w A n c l) {k : Nat} (hk : k < n) :
    ∃ b o, A = some ⟨b, o, none⟩ ∧ b < w.heap.size ∧ w.cell? ⟨b, o + k, none⟩ = some (.int .i64 (l.getD k 0)) :=
  h.2.2.2.2 k _ (by rw [List.getElem?_map, List.getElem?_eq_getElem (by rw [h.1]; exact hk), List.getD_eq_getElem?_getD, List.getElem?_eq_getElem (by rw [h.1]; exact hk)]; rfl)

set_option maxHeartbeats 400000 in
theorem within9 (a n : Int) (w : World) (hn : 1 ≤ n) (hm : n ≤ 4611686018427387904) :
    Calls Try.prog 33 #[.int .i64 a, .int .i64 n] w fun e w' => e = .returned (.int .i64 (a % n)) ∧ w = w' := by
  have hb := within_bd a n hn
  have hk := within_key a n hn
  have HK := Lib.hid hk
  clear hk
  have h0 : ¬ n = 0 := by omega
  by_cases hc : a.tmod n < 0
  · go_enter Try.func33, Try.ntmps33
    go_wp2
    go_ret
    refine ⟨ret_i64 ?_, rfl⟩
    rw [← HK.out, if_pos (by omega)]
  · go_enter Try.func33, Try.ntmps33
    go_wp2
    go_ret
    refine ⟨ret_i64 ?_, rfl⟩
    rw [← HK.out, if_neg (by omega)]

set_option maxHeartbeats 400000 in
theorem within10 (a n : Int) (w : World) (hn : 1 ≤ n) (hm : n ≤ 4611686018427387904) :
    Calls Try.prog 13 #[.int .i64 a, .int .i64 n] w fun e w' => e = .returned (.int .i64 (a % n)) ∧ w = w' := by
  have hb := within_bd a n hn
  have hk := within_key a n hn
  have HK := Lib.hid hk
  clear hk
  have h0 : ¬ n = 0 := by omega
  by_cases hc : a.tmod n < 0
  · go_enter Try.func13, Try.ntmps13
    go_wp2
    go_ret
    refine ⟨ret_i64 ?_, rfl⟩
    rw [← HK.out, if_pos (by omega)]
  · go_enter Try.func13, Try.ntmps13
    go_wp2
    go_ret
    refine ⟨ret_i64 ?_, rfl⟩
    rw [← HK.out, if_neg (by omega)]

/-- Samples of raw numbers. -/
def rowF (l : List Int) : List Int := (l.take 60).map fun x => x % 1048576 - 524288
theorem rowF_rng {l : List Int} : ∀ x ∈ rowF l, -524288 ≤ x ∧ x < 524288 := by
  intro x hx
  obtain ⟨y, _, rfl⟩ := List.mem_map.1 hx
  omega
theorem rowF_len (l : List Int) : (rowF l).length = min 60 l.length := by simp [rowF, List.length_take]
theorem rowF_getD (l : List Int) (j : Nat) : -524288 ≤ (rowF l).getD j 0 ∧ (rowF l).getD j 0 ≤ 524288 := by
  rw [List.getD_eq_getElem?_getD]
  cases h : (rowF l)[j]? with
  | none => simp
  | some x =>
    have := rowF_rng x (List.mem_of_getElem? h)
    simp only [Option.getD_some]
    omega
theorem take_succ_get {l : List Int} {k : Nat} (h : k < l.length) : l.take (k + 1) = l.take k ++ [l.getD k 0] := by
  rw [List.take_add_one, List.getD_eq_getElem?_getD, List.getElem?_eq_getElem h]; rfl

set_option maxHeartbeats 2000000 in
theorem row9 {A : Option Addr} {n c : Nat} {l : List Int} {w : World} (h : RowI w A n c l) :
    Calls Try.prog 20 #[.slice A n c] w fun e w' => ∃ A' c', e = .returned (.slice A' (min 60 n) c') ∧ RowO w.heap.size w' A' (min 60 n) c' (rowF l) ∧ Below w.heap.size w w' := by
  obtain ⟨i0, hi, hz0, hz1, hz2⟩ := info_parts Try.info3
  have hln := h.1
  have hnc := h.2.1
  have hcm := h.2.2.1
  unfold maxLen at hcm
  have H := Lib.hid h
  clear h
  go_enter Try.func20, Try.ntmps20
  go_wp2
  go_loopw [3, 4] (fun v i wr => ∃ k : Nat, k ≤ n ∧ k ≤ 60 ∧ i = .int .i64 k ∧ wr.ownsRow w.heap.size 3 1 v k (((l.take k).map fun x => x % 1048576 - 524288).map (Value.int .i64)) ∧ Below w.heap.size w wr) (fun _ i _ => 60 - (intOf i).toNat)
  case atStart => exact ⟨0, by omega, by omega, rfl, by simpa using World.ownsRow_nil _ _ _ _, Below.refl _ _⟩
  case round =>
    obtain ⟨k, k0, k1, rfl, hown, hb⟩ := hrel
    by_cases c1 : k < n
    · by_cases c2 : k < 60
      · obtain ⟨b, o, rfl, hbb, hc⟩ := (H.out.keep hb (Nat.le_refl _)).cell c1
        have htk := take_succ_get (l := l) (k := k) (by omega)
        have HT := Lib.hid htk
        clear htk
        have hsz := hb.size
        generalize l.getD k 0 = x at *
        go_wp2_with fail
        refine (within9 _ _ _ (by omega) (by omega)).mono ?_
        rintro e w' ⟨rfl, rfl⟩
        have hx : -524288 ≤ x % 1048576 - 524288 ∧ x % 1048576 - 524288 < 524288 := by omega
        have hwr : IntKind.i64.wrap (x % 1048576 - 524288) = x % 1048576 - 524288 := IntWalk.i64_in _ (by omega)
        have HW := Lib.hid hwr
        have HXx := Lib.hid (show (l.take (k + 1)).map (fun x => x % 1048576 - 524288) = (l.take k).map (fun x => x % 1048576 - 524288) ++ [x % 1048576 - 524288] from by rw [HT.out, List.map_append]; rfl)
        have hk61 : ((l.take k).map (fun x => x % 1048576 - 524288)).length = k := by rw [List.length_map, List.length_take]; omega
        go_wp2_with (at_builtin; refine wpList_append_own _ rfl _ _ 24 rfl w.heap.size 3 i0 (.int .i64 0) 1 8 Try.underlying24 hi hz0 hz1 hz2 rfl (by decide) _ _ _ rfl (hown.alloc _) ⟨wr.heap.size, 0, none⟩ 1 1 [.int .i64 (x % 1048576 - 524288)] rfl rfl (cell_one_new _ _ _) ?k2 ?k3 ?k4 ?k5 ?_)
        case k2 => intro u hu; simp at hu; subst hu; rfl
        case k3 => unfold maxLen; omega
        case k4 => omega
        case k5 => simp; omega
        intro v2 w2 hown2 hg2 _
        have hb2 : Below w.heap.size w w2 := (hb.alloc hsz _).grown hg2 (by simp; omega) (fun g hg => (hown.lt g hg).1)
        clear hg2 hown
        go_wp2
        go_roundw
        case rel =>
          refine ⟨k + 1, by omega, by omega, by go_num, ?_, hb2⟩
          rw [HXx.out, List.map_append]
          simpa [List.map_take] using hown2
        case measure => simp [intOf]; omega
      · obtain rfl : k = 60 := by omega
        go_wp2
        go_ret
        have hr := hown
        obtain ⟨A', c', rfl, _⟩ := rowI_own hown
        rw [show min 60 n = 60 from by omega]
        exact ⟨A', c', rfl, hr, hb⟩
    · obtain rfl : k = n := by omega
      go_wp2
      go_ret
      have hr := hown
      obtain ⟨A', c', rfl, _⟩ := rowI_own hown
      rw [show min 60 k = k from by omega]
      refine ⟨A', c', rfl, ?_, hb⟩
      unfold rowF RowO
      rw [List.take_of_length_le (by omega)] at hr ⊢
      exact hr

set_option maxHeartbeats 2000000 in
theorem ints_yes {A A' : Option Addr} {n c c' : Nat} {l : List Int} {w : World} (h : RowI w A n c l) (h' : RowI w A' n c' l) :
    Calls Try.prog 17 #[.slice A n c, .slice A' n c'] w fun e w' => e = .returned (.bool true) ∧ Drew w w' := by
  have hnc := h.2.1
  have hcm := h.2.2.1
  unfold maxLen at hcm
  have H := Lib.hid h
  have H' := Lib.hid h'
  clear h h'
  go_enter Try.func17, Try.ntmps17
  go_wp2
  go_loopw [5] (fun i wr => ∃ k : Nat, k ≤ n ∧ i = .int .i64 k ∧ Drew w wr) (fun i _ => n - (intOf i).toNat)
  case atStart => exact ⟨0, by omega, rfl, Drew.refl _⟩
  case round =>
    obtain ⟨k, k0, rfl, d⟩ := hrel
    by_cases c1 : k < n
    · obtain ⟨b, o, rfl, hbb, f1⟩ := (H.out.drew d).cell c1
      obtain ⟨b', o', rfl, hbb', f2⟩ := (H'.out.drew d).cell c1
      generalize l.getD k 0 = x at *
      have hx : (x == x) = true := beq_self_eq_true _
      go_wp2
      go_quiet (fail)
      go_wp2
      go_roundw
      case rel => exact ⟨k + 1, by omega, by go_num, d.trans (Drew.mk _ _)⟩
      case measure => simp [intOf]; omega
    · go_wp2
      go_ret
      exact ⟨rfl, d⟩

end Go.Proofs.Ytgadebfelomhpaa
