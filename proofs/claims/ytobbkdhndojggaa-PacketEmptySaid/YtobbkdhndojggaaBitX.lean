/- Chapter 2's helpers, and the rest of the Writer of package bits: Bits and Bytes; known. -/
import Derived.Test.YtobbkdhndojggaaBitW
set_option linter.unusedVariables false
namespace Go.Proofs.Ytobbkdhndojggaa
open Go.RowKit
set_option maxRecDepth 100000

set_option maxHeartbeats 1000000 in
theorem clone_u8 (A : Option Addr) (n c : Nat) (xs : List Value) (B : Nat) (w : World) (hl : xs.length = n) (hA : A = none → n = 0 ∧ c = 0) (h : Lst w B A xs) (h1 : ∀ u ∈ xs, u.oneCell' = true) (hn : n ≤ 140737488355328) :
    Calls Try.prog 55 #[.slice A n c] w fun e w' => ∃ v, e = .returned v ∧ w'.ownsRow w.heap.size 5 1 v n xs ∧ Below w.heap.size w w' := by
  have qT : ∀ (w : World) (a : Option Addr) (n c n' c' : Nat), (binOp .eql 27 (.slice a n c) (.slice none n' c')).run Try.prog w = .ok (.bool a.isNone) w := fun w a n c n' c' => Lib.run_eql_slice_nil w _ _ a n c n' c' Try.underlying27
  obtain ⟨i0, hi, hz0, hz1, hz2⟩ := info_parts Try.info5
  rcases A with _ | a
  · obtain ⟨rfl, rfl⟩ := hA rfl
    obtain rfl : xs = [] := List.eq_nil_of_length_eq_zero hl
    go_enter Try.func55, Try.ntmps55
    go_wp2
    go_ret
    exact ⟨_, rfl, World.ownsRow_nil _ _ _ _, Below.refl _ _⟩
  · have hcells := h.add rfl
    have HC := Lib.hid hcells
    clear hcells hA
    go_enter Try.func55, Try.ntmps55
    have hwl := Lib.hid hl
    clear hl
    go_wp2_with (at_builtin; refine wpList_append_own _ rfl (.tmp 5) (.tmp 6) 27 rfl w.heap.size 5 i0 (.int .u8 0) 1 1 Try.underlying27 hi hz0 hz1 hz2 rfl (by decide) (.slice (some ⟨w.heap.size, 0, none⟩) 0 0) 0 [] rfl (World.ownsRow_made w #[] 0 (Nat.le_refl _) (by unfold maxLen; omega) rfl) a n c xs rfl ?k1 ?k2 h1 ?k3 ?k4 ?k5 ?_)
    case k1 => rw [hwl.out]; simp
    case k2 =>
      intro j u hu
      exact (World.cell?_alloc_lt w _ _ (World.block_lt_of_cell? w _ (HC.out j u hu))).trans (HC.out j u hu)
    case k3 => unfold maxLen; omega
    case k4 => omega
    case k5 => simp
    intro v1 w1 hown hg _
    go_wp2
    go_ret
    refine ⟨v1, rfl, by simpa using hown, ?_⟩
    exact ((Below.refl _ _).alloc (Nat.le_refl _) _).grown hg (by simp) (by simp [Value.ownBlock])

/-- The bits of a number, the highest first (above the lowest bit there may be more). -/
def bitsOf (n : Int) (size : Nat) : List Int := (List.range size).map fun j => n / 2 ^ (size - 1 - j)
theorem bitsOf_len (n : Int) (k : Nat) : (bitsOf n k).length = k := by simp [bitsOf]
def wfold (s : List Int × Nat) (bs : List Int) : List Int × Nat := bs.foldl wstep s
theorem wfold_snoc (s : List Int × Nat) (bs : List Int) (b : Int) : wfold s (bs ++ [b]) = wstep (wfold s bs) b := by simp [wfold]
theorem wfold_app (s : List Int × Nat) (a b : List Int) : wfold s (a ++ b) = wfold (wfold s a) b := by simp [wfold]
theorem wfold_ok {s : List Int × Nat} (h : WOk s) (bs : List Int) : WOk (wfold s bs) := by
  induction bs generalizing s with
  | nil => exact h
  | cons b bs ih => exact ih (h.step b)
theorem wstep_len {s : List Int × Nat} (h : s.1 = [] → s.2 = 0) (b : Int) : (wstep s b).1.length ≤ s.1.length + 1 := by
  unfold wstep
  split
  · simp
  · simp <;> omega
theorem wfold_len {s : List Int × Nat} (h : WOk s) (bs : List Int) : (wfold s bs).1.length ≤ s.1.length + bs.length := by
  induction bs generalizing s with
  | nil => simp [wfold]
  | cons b bs ih =>
    have h1 := wstep_len h.none b
    have := ih (h.step b)
    simp only [wfold, List.foldl_cons, List.length_cons] at this ⊢
    omega
theorem bitsOf_take {n : Int} {size i : Nat} (hi : i < size) : (bitsOf n size).take (i + 1) = (bitsOf n size).take i ++ [n / 2 ^ (size - 1 - i)] := by
  rw [List.take_add_one]
  have : (bitsOf n size)[i]? = some (n / 2 ^ (size - 1 - i)) := by
    unfold bitsOf
    rw [List.getElem?_map, List.getElem?_range hi]; rfl
  rw [this]; rfl

/-- What Bytes tells. -/
def bytesF (it : List Int) : List Int := if it.getLastD 0 = 255 then it ++ [0] else it
set_option maxHeartbeats 4000000 in
theorem wb_bytes {P : Nat → Prop} {w : World} {p : Nat} {it : List Int} {fr : Nat} (h : Wb P w p it fr) (hl : it.length ≤ 80000) :
    Calls Try.prog 37 #[.pointer (some ⟨p, 0, none⟩)] w fun e w' => ∃ v, e = .returned v ∧ w'.ownsRow w.heap.size 5 1 v (bytesF it).length ((bytesF it).map (Value.int .u8)) ∧ Below w.heap.size w w' := by
  obtain ⟨i0, hi, hz0, hz1, hz2⟩ := info_parts Try.info5
  obtain ⟨hp, V, hb, hown, hVP⟩ := h
  obtain ⟨A, c, rfl, hA, _, _⟩ := own_any hown
  have c0 := blk_cell hb 0
  simp at c0
  have HB := Lib.hid hb
  have HO := Lib.hid hown
  have HA := Lib.hid hA
  have hll : it.length ≤ 100000 := by omega
  obtain ⟨F, hF⟩ : ∃ F, bytesF it = F := ⟨_, rfl⟩
  rw [hF]
  have HF := Lib.hid hF
  clear hb hown hA hVP hF
  go_enter Try.func37, Try.ntmps37
  go_wp2_with fail
  refine (clone_u8 A it.length c _ _ _ (by rw [List.length_map]) HA.out (Lst.own HO.out) (ints_oneCell .u8 _) (by omega)).mono ?_
  rintro e w1 ⟨v, rfl, hown1, b1⟩
  have HB1 : Hid (w1.heap[p]? = some (.cells #[.slice A it.length c, .int .i64 (it.length : Int), .int .i64 (fr : Int)] 135 (0, 0))) := (b1.block p (blk_lt HB.out)).trans HB.out
  have HO1 : Hid (w1.ownsRow 0 5 1 (.slice A it.length c) it.length (it.map (Value.int .u8))) := ownsRow_keep HO.out b1.size (fun k hk => b1.block k (HO.out.lt k hk).2)
  obtain ⟨A1, c1, rfl, hA1, _, _⟩ := own_any hown1
  have HN1 := Lib.hid hown1
  clear hown1 hA1
  have CU := Lib.hid (current_any (w := w1) (p := p) (n := it.length) (V := .slice A it.length c) (F := it) (by have := blk_cell HB1.out 0; simpa using this) (by have := blk_cell HB1.out 1; simpa using this) HO1.out hll (by omega))
  rw [curF_last] at CU
  go_wp2_with fail
  refine CU.out.mono ?_
  rintro e w2 ⟨rfl, dn, hd⟩
  have HN2 : Hid (w2.ownsRow w.heap.size 5 1 (.slice A1 it.length c1) it.length (it.map (Value.int .u8))) := by rw [hd]; exact HN1.out
  have B2 : Below w.heap.size w w2 := by rw [hd]; exact below_drewN b1 dn
  have s2 := B2.size
  clear hd HN1 HB1 HO1 CU HB HO HA b1 c0
  by_cases h255 : it.getLastD 0 = 255
  · have e1 : bytesF it = it ++ [0] := if_pos h255
    rw [e1] at HF
    obtain rfl : it ++ [0] = F := HF.out
    have hcb : (it.getLastD 0 == 255) = true := by simpa using h255
    rw [h255]
    clear h255 e1 hcb HF
    go_wp2_with (at_builtin; refine wpList_append_own_at _ rfl _ _ 27 rfl w.heap.size 5 i0 (.int .u8 0) 1 1 Try.underlying27 hi hz0 hz1 hz2 rfl (by decide) _ _ _ rfl (HN2.out.alloc _) ⟨w2.heap.size, 0, none⟩ 1 1 [.int .u8 0] rfl rfl (cell_one_new _ _ _) ?k2 ?k3 ?k4 ?k5 ?_)
    case k2 => intro u hu; simp at hu; subst hu; rfl
    case k3 => unfold maxLen; omega
    case k4 => omega
    case k5 => simp; omega
    intro v4 w4 hown4 hg4 _ hat4
    have B4 : Below w.heap.size w w4 := (B2.alloc s2 _).grown hg4 (by simp; omega) (fun k hk => (HN2.out.lt k hk).1)
    have e4 : it.map (Value.int .u8) ++ [Value.int .u8 0] = (it ++ [0]).map (Value.int .u8) := by simp
    rw [e4] at hown4
    clear hat4 hg4
    go_wp2
    go_ret
    refine ⟨_, rfl, ?_, B4⟩
    have e5 : (it ++ [(0 : Int)]).length = it.length + 1 := by simp
    rw [e5]
    exact hown4
  · have e1 : bytesF it = it := if_neg h255
    rw [e1] at HF
    obtain rfl : it = F := HF.out
    have hcb : (it.getLastD 0 == 255) = false := by simpa using h255
    generalize it.getLastD 0 = x at *
    go_wp2
    go_ret
    exact ⟨_, rfl, HN2.out, B2⟩

end Go.Proofs.Ytobbkdhndojggaa
