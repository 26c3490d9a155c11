/- canvas: Few. -/
import Derived.Test.YthcpmonahmogaaaCvRn
set_option linter.unusedVariables false
set_option linter.unusedSimpArgs false
namespace Go.Proofs.Ythcpmonahmogaaa
open Go.RowKit
set_option maxRecDepth 100000
def fewF (cs : List Cp) : Bool := cs.all (fun c => decide (c.n ≤ 5000)) && decide (cs.length ≤ 6)
set_option maxHeartbeats 8000000 in
theorem few_any {AC : Option Addr} {cC : Nat} {cs : List Cp} {w : World} (x y ox oy : Int) (h : CompsAt w AC cs) (hc : cs.length ≤ cC ∧ cC ≤ maxLen) :
    Calls Try.prog 11 #[.agg #[.int .i64 x, .int .i64 y, .int .i64 ox, .int .i64 oy, .slice AC cs.length cC]] w fun e w' => e = .returned (.bool (fewF cs)) ∧ Below w.heap.size w w' := by
  have hc2 := hc.2
  unfold maxLen at hc2
  have HI := Lib.hid h
  obtain ⟨R, hR⟩ : ∃ R, fewF cs = R := ⟨_, rfl⟩
  rw [hR]
  unfold fewF at hR
  have HR := Lib.hid hR
  obtain ⟨N, hN⟩ : ∃ N, cs.length = N := ⟨_, rfl⟩
  rw [hN] at hc ⊢
  have hNm : N ≤ cC := hc.1
  have HN := Lib.hid hN
  clear hR h hN hc
  obtain ⟨B, hB⟩ : ∃ B, w.heap.size = B := ⟨_, rfl⟩
  obtain ⟨w1, hw1⟩ : ∃ w1, w.alloc (.cells #[.int .i64 x, .int .i64 y, .int .i64 ox, .int .i64 oy, .slice AC N cC] 24) = w1 := ⟨_, rfl⟩
  have H1 : Hid (Below w.heap.size w w1 ∧ w1.heap[B]? = some (.cells #[.int .i64 x, .int .i64 y, .int .i64 ox, .int .i64 oy, .slice AC N cC] 24 (0, 0))) := Lib.hid (by
    rw [← hw1, ← hB]
    exact ⟨(Below.refl _ w).alloc (Nat.le_refl _) _, World.alloc_heap_new w _⟩)
  have HE := Lib.hid (And.intro hw1 hB)
  clear hw1 hB
  go_enter Try.func11, Try.ntmps11
  go_upto_region 1 with fail
  rw [show w.alloc (.cells #[.int .i64 x, .int .i64 y, .int .i64 ox, .int .i64 oy, .slice AC N cC] 24) = w1 from HE.out.1, HE.out.2]
  clear HE
  go_upto_region 2 with fail
  go_loopw [3] (fun iv wr => ∃ i : Nat, i ≤ N ∧ iv = .int .i64 (i : Int) ∧ Hid (Below w.heap.size w wr ∧ wr.heap[B]? = some (.cells #[.int .i64 x, .int .i64 y, .int .i64 ox, .int .i64 oy, .slice AC N cC] 24 (0, 0))) ∧ Hid (∀ k c, k < i → cs[k]? = some c → c.n ≤ 5000)) (fun iv _ => N - (intOf iv).toNat)
  case atStart => exact ⟨0, by omega, rfl, H1, Lib.hid (fun k c hk => absurd hk (by omega))⟩
  case round =>
   obtain ⟨i, hi, rfl, HW, HA⟩ := hrel
   clear H1
   obtain ⟨W, hW⟩ : ∃ W, W = wr := ⟨_, rfl⟩
   subst hW
   obtain ⟨g0, g1, g2, g3, g4⟩ := img_cells HW.out.2
   clear g0 g1 g2 g3
   by_cases hin : i < N
   case neg =>
    obtain rfl : i = N := by omega
    have hin2 : ¬ (i : Int) < (i : Int) := by omega
    have hall : cs.all (fun c => decide (c.n ≤ 5000)) = true := List.all_eq_true.2 (fun c hc => by
      obtain ⟨k, hk, hk2⟩ := List.mem_iff_getElem.1 hc
      exact decide_eq_true (HA.out k c (by rw [← HN.out]; exact hk) (by rw [List.getElem?_eq_getElem hk, hk2])))
    have HR2 : Hid (decide (i ≤ 6) = R) := Lib.hid (by
      have h := HR.out
      rw [hall, HN.out, Bool.true_and] at h
      exact h)
    clear HR hall
    by_cases h6 : i ≤ 6
    · have hR : R = true := by rw [← HR2.out]; exact decide_eq_true h6
      have h6' : (i : Int) ≤ 6 := by omega
      subst hR
      clear HR2
      go_wp2
      go_ret
      first | exact HW.out.1 | exact ⟨rfl, HW.out.1⟩
    · have hR : R = false := by rw [← HR2.out]; exact decide_eq_false h6
      have h6' : ¬ (i : Int) ≤ 6 := by omega
      subst hR
      clear HR2
      go_wp2
      go_ret
      first | exact HW.out.1 | exact ⟨rfl, HW.out.1⟩
   case pos =>
   obtain ⟨c, hcc⟩ : ∃ c, cs[i]? = some c := ⟨_, List.getElem?_eq_getElem (by rw [HN.out]; exact hin)⟩
   have HCC := Lib.hid hcc
   obtain ⟨b, o, rfl, hbl, c0, c1, c2, c3, c4⟩ := (HI.out.keep HW.out.1) i c hcc
   obtain ⟨dd, sg, dx, dy, A, n, cap⟩ := c
   simp only at c0 c1 c2 c3 c4
   clear hcc c0 c1 c2 c3
   have hin2 : (i : Int) < (N : Int) := by omega
   by_cases h5 : n ≤ 5000
   · have h5' : ¬ (5000 : Int) < (n : Int) := by omega
     go_wp2
     go_roundw
     case rel => exact ⟨i + 1, by omega, by go_num, HW, Lib.hid (fun k c hk hc => by
       rcases (by omega : k < i ∨ k = i) with hk | rfl
       · exact HA.out k c hk hc
       · rw [HCC.out] at hc
         injection hc with hc
         rw [← hc]
         exact h5)⟩
     case measure => simp [intOf] <;> omega
   · have h5' : (5000 : Int) < (n : Int) := by omega
     have hR : R = false := by
       rw [← HR.out]
       have h : cs.all (fun c => decide (c.n ≤ 5000)) = false := by
         rw [List.all_eq_false]
         exact ⟨_, List.mem_of_getElem? HCC.out, by simp; omega⟩
       rw [h]
       rfl
     subst hR
     clear HR
     go_wp2
     go_ret
     first | exact HW.out.1 | exact ⟨rfl, HW.out.1⟩
end Go.Proofs.Ythcpmonahmogaaa
