/- known of chapter 5's laws. -/
import Derived.Test.YtahnioenoecfeaaRawBit
set_option linter.unusedVariables false
namespace Go.Proofs.Ytahnioenoecfeaa
open Go.RowKit

theorem byteAt_rng {F : List Int} (h : ∀ x ∈ F, 0 ≤ x ∧ x ≤ 255) (i : Nat) : 0 ≤ byteAt F i ∧ byteAt F i ≤ 255 := by
  unfold byteAt
  rw [List.getD_eq_getElem?_getD]
  rcases Nat.lt_or_ge i F.length with hi | hi
  · rw [List.getElem?_eq_getElem hi]; exact h _ (List.getElem_mem hi)
  · rw [List.getElem?_eq_none hi]; decide
theorem Wr.below {w w' : World} {lo lo' p : Nat} {it : List Int} {fr : Nat} (h : Wr w lo p it fr) (hb : Below lo' w w') (hl : w.heap.size ≤ lo') : Wr w' lo p it fr := by
  obtain ⟨hp, V, h1, h2⟩ := h
  refine ⟨hp, V, (hb.block p (by have := blk_lt h1; omega)).trans h1, h2.kept (row := none) ⟨hb.os, hb.tape, hb.output, hb.size, fun k hk _ => hb.block k (by omega)⟩ ?_⟩
  cases V <;> simp [Value.ownBlock]
  rename_i a _ _
  cases a <;> simp
theorem wrun_len (bs : List Int) : (wrun bs).1.length ≤ bs.length := by
  unfold wrun
  suffices ∀ (bs : List Int) (s : List Int × Nat), (s.1 = [] → s.2 = 0) → (bs.foldl wstep s).1.length ≤ s.1.length + bs.length by
    have := this bs ([], 0) (fun _ => rfl)
    simpa using this
  intro bs
  induction bs with
  | nil => intro s _; simp
  | cons b bs ih =>
    intro s hs
    have h1 : (wstep s b).1.length ≤ s.1.length + 1 := by
      unfold wstep
      split
      · simp
      · simp <;> omega
    have h2 : (wstep s b).1 = [] → (wstep s b).2 = 0 := by
      unfold wstep
      split <;> intro e <;> simp at e
    have := ih (wstep s b) h2
    simp only [List.foldl_cons, List.length_cons]
    omega

set_option maxHeartbeats 2000000 in
theorem known5 (w : World) : Calls Try.prog 10 #[] w fun e w' => e = .returned (.bool true) ∧ Below w.heap.size w w' := by
  go_enter Try.func10, Try.ntmps10
  go_wp2_with fail
  refine (wnew_any _).mono ?_
  rintro e w1 ⟨p, rfl, h1, b1⟩
  go_wp2
  go_loopw [2] (fun i wr => ∃ k : Nat, k ≤ 8 ∧ i = .int .i64 (k : Int) ∧ Wr wr w.heap.size p (wrun (List.replicate k 1)).1 (wrun (List.replicate k 1)).2 ∧ Below w.heap.size w wr) (fun i _ => 8 - (intOf i).toNat)
  case atStart => exact ⟨0, by omega, rfl, h1, b1⟩
  case round =>
    obtain ⟨k, k8, rfl, hw, hb⟩ := hrel
    by_cases c1 : k < 8
    · have hs : wstep (wrun (List.replicate k 1)) 1 = wrun (List.replicate (k + 1) 1) := by rw [List.replicate_succ', wrun_snoc]
      have ok := wrun_ok (List.replicate k 1)
      have hl := wrun_len (List.replicate k 1)
      rw [List.length_replicate] at hl
      have HW := Lib.hid hw
      clear hw h1
      go_wp2_with fail
      refine (bit_any HW.out ok (by omega) hb.size).mono ?_
      rintro e w2 ⟨rfl, h2, b2⟩
      rw [hs] at h2
      have H2 := Lib.hid h2
      clear h2 HW hs ok
      go_wp2
      go_roundw
      case rel => exact ⟨k + 1, by omega, by go_num, H2.out, hb.trans b2⟩
      case measure => simp [intOf]; omega
    · obtain rfl : k = 8 := by omega
      rw [show wrun (List.replicate 8 1) = ([255], 0) from by decide] at hw
      have HW := Lib.hid hw
      clear hw h1
      go_wp2_with fail
      refine (out_any HW.out).mono ?_
      rintro e w2 ⟨rfl, rfl⟩
      go_wp2_with fail
      refine (flush_any HW.out (by simp) hb.size).mono ?_
      rintro e w3 ⟨v, rfl, hv, b3⟩
      rw [show flushF [255] = [] from by decide] at hv
      obtain ⟨A, c, rfl, _, _, _⟩ := own_any hv
      have hb3 := hb.trans b3
      have s3 := hb3.size
      clear HW hv hb b3
      go_wp2_with fail
      refine (rnew_any (F := []) rfl (fun _ => ⟨rfl, rfl⟩) Lst.nil (by simp)).mono ?_
      rintro e w4 ⟨q, rfl, h4, b4⟩
      have hb4 := hb3.trans (b4.mono hb3.size)
      clear b4 hb3
      go_wp2_with fail
      refine (rbit_any h4 (by simp) (by simp) (by simp) (byteAt_rng (by simp))).mono ?_
      rintro e w5 ⟨rfl, h5, b5⟩
      rw [show rbit [] (rstep [] (0, 8)) = 1 from by decide]
      have hb5 := hb4.trans (b5.mono s3)
      clear b5 h5 h4
      go_wp2
      go_ret
      exact ⟨rfl, hb5⟩

theorem row_u8 {w : World} {a : Option Addr} {len cap : Nat} {zs : List Int} (h : IsRow .u8 w a len cap zs) : ∀ x ∈ zs.take len, 0 ≤ x ∧ x ≤ 255 := by
  rcases h with ⟨rfl, rfl, rfl, rfl⟩ | ⟨x, rfl, hl, hm, hz, hc, hw⟩
  · simp
  · intro y hy
    have := hw y (List.mem_of_mem_take hy)
    have hmin : IntKind.u8.min = 0 := rfl
    have hmax : IntKind.u8.max = 255 := rfl
    simp only [Lit.wf, Bool.and_eq_true, decide_eq_true_eq] at this
    omega
theorem rstep_use {F : List Int} {r : Nat × Nat} (h2 : r.2 ≤ 8) : (rstep F r).2 ≤ 7 ∧ (rstep F r).1 ≤ r.1 + 1 ∧ 8 * (r.1 + 1) - r.2 + 1 ≤ 8 * ((rstep F r).1 + 1) - (rstep F r).2 ∧ (r.2 = 0 → (rstep F r).1 = r.1 + 1) ∧ (0 < r.2 → (rstep F r).1 = r.1) := by
  obtain ⟨a, l⟩ := r
  unfold rstep
  by_cases h0 : l = 0
  · subst h0
    by_cases h1 : byteAt F a = 255
    · rw [if_pos rfl, if_pos h1]
      show 7 - 1 ≤ 7 ∧ a + 1 ≤ a + 1 ∧ 8 * (a + 1) - 0 + 1 ≤ 8 * (a + 1 + 1) - (7 - 1) ∧ (0 = 0 → a + 1 = a + 1) ∧ (0 < 0 → a + 1 = a)
      exact ⟨by omega, by omega, by omega, fun _ => rfl, fun h => absurd h (by omega)⟩
    · rw [if_pos rfl, if_neg h1]
      show 8 - 1 ≤ 7 ∧ a + 1 ≤ a + 1 ∧ 8 * (a + 1) - 0 + 1 ≤ 8 * (a + 1 + 1) - (8 - 1) ∧ (0 = 0 → a + 1 = a + 1) ∧ (0 < 0 → a + 1 = a)
      exact ⟨by omega, by omega, by omega, fun _ => rfl, fun h => absurd h (by omega)⟩
  · rw [if_neg h0]
    have h3 : l ≤ 8 := h2
    show l - 1 ≤ 7 ∧ a ≤ a + 1 ∧ 8 * (a + 1) - l + 1 ≤ 8 * (a + 1) - (l - 1) ∧ (l = 0 → a = a + 1) ∧ (0 < l → a = a)
    exact ⟨by omega, by omega, by omega, fun h => absurd h h0, fun _ => rfl⟩
theorem ones_behind {F : List Int} {r : Nat × Nat} (h2 : r.2 ≤ 8) (h : 8 * F.length + r.2 ≤ 8 * (r.1 + 1)) : rbit F (rstep F r) = 1 := by
  obtain ⟨u1, u2, u3, u4, u5⟩ := rstep_use (F := F) h2
  unfold rbit
  have e : byteAt F (rstep F r).1 = 255 := by
    unfold byteAt
    rw [List.getD_eq_getElem?_getD, List.getElem?_eq_none (by rcases Nat.eq_zero_or_pos r.2 with h0 | h0 <;> omega)]; rfl
  rw [e]
  generalize (rstep F r).2 = k at *
  have : ∀ k : Fin 8, (255 : Int) / 2 ^ k.val % 2 = 1 := by decide
  exact this ⟨k, by omega⟩
end Go.Proofs.Ytahnioenoecfeaa
