/- Frame of the reference, at drawn pictures. -/
import Derived.Test.YtjmkkjgchgcleaaSkCheck
set_option linter.unusedVariables false
namespace Go.Proofs.Ytjmkkjgchgcleaa
open Go.RowKit

set_option maxHeartbeats 4000000 in
theorem rbounds_any (d : Int) (w : World) (hd : 1 ≤ d ∧ d ≤ 16) :
    Calls Try.prog 25 #[.int .i64 d, .bool false] w fun e w' => e = .returned (.tuple #[.int .i64 0, .int .i64 ((2 : Int) ^ d.toNat - 1)]) ∧ w' = w := by
  obtain rfl | rfl | rfl | rfl | rfl | rfl | rfl | rfl | rfl | rfl | rfl | rfl | rfl | rfl | rfl | rfl := (by omega : d = 1 ∨ d = 2 ∨ d = 3 ∨ d = 4 ∨ d = 5 ∨ d = 6 ∨ d = 7 ∨ d = 8 ∨ d = 9 ∨ d = 10 ∨ d = 11 ∨ d = 12 ∨ d = 13 ∨ d = 14 ∨ d = 15 ∨ d = 16)
  all_goals
    go_enter Try.func25, Try.ntmps25
    go_wp2
    go_ret2
    exact ⟨by rfl, rfl⟩
theorem ceil64 (x : Int) (hx : 1 ≤ x ∧ x ≤ 64) : ceilF x 64 = 1 := by
  rw [← rceil_is (by omega)]; omega
/-- The numbers that SketchValid holds a picture against. -/
def parV : Value := .agg #[.int .i64 64, .int .i64 64, .int .i64 0, .int .i64 2, .int .i64 2, .int .i64 1, .int .i64 0, .int .i64 0, .int .i64 1, .bool false, .bool false, .bool false]
set_option maxRecDepth 100000 in
set_option maxHeartbeats 8000000 in
theorem rnumbers_any (x y : Int) (AC : Option Addr) (n cC : Nat) (w : World) (hx : 1 ≤ x ∧ x ≤ 64) (hy : 1 ≤ y ∧ y ≤ 64) :
    Calls Try.prog 36 #[.agg #[.int .i64 x, .int .i64 y, .int .i64 0, .int .i64 0, .slice AC n cC], .agg #[.int .i64 64, .int .i64 64, .int .i64 0, .int .i64 2, .int .i64 2, .int .i64 1, .int .i64 0, .int .i64 0, .int .i64 1, .bool false, .bool false, .bool false]] w fun e w' => e = .returned (.int .i64 0) ∧ Below w.heap.size w w' := by
  go_enter Try.func36, Try.ntmps36
  go_wp2
  obtain ⟨X, hX⟩ : ∃ X, (w.alloc (Obj.cells #[.int .i64 x, .int .i64 y, .int .i64 0, .int .i64 0, .slice AC n cC] 25)).alloc (Obj.cells #[.int .i64 64, .int .i64 64, .int .i64 0, .int .i64 2, .int .i64 2, .int .i64 1, .int .i64 0, .int .i64 0, .int .i64 1, .bool false, .bool false, .bool false] 37) = X := ⟨_, rfl⟩
  have hB : Below w.heap.size w X := by rw [← hX]; exact ((Below.refl _ w).alloc (Nat.le_refl _) _).alloc (by simp) _
  have hz : (w.alloc (Obj.cells #[.int .i64 x, .int .i64 y, .int .i64 0, .int .i64 0, .slice AC n cC] 25)).heap.size = w.heap.size + 1 := by simp
  have b1 : X.heap[w.heap.size]? = some (.cells #[.int .i64 x, .int .i64 y, .int .i64 0, .int .i64 0, .slice AC n cC] 25 (0, 0)) := by
    rw [← hX, Below.heap_alloc _ _ _ (by simp)]; exact World.alloc_heap_new w _
  have b2 : X.heap[w.heap.size + 1]? = some (.cells #[.int .i64 64, .int .i64 64, .int .i64 0, .int .i64 2, .int .i64 2, .int .i64 1, .int .i64 0, .int .i64 0, .int .i64 1, .bool false, .bool false, .bool false] 37 (0, 0)) := by
    rw [← hX, ← hz]; exact World.alloc_heap_new _ _
  have g0 : X.cell? ⟨w.heap.size, 0, none⟩ = some (.int .i64 x) := by simp [World.cell?, b1]
  have g1 : X.cell? ⟨w.heap.size, 1, none⟩ = some (.int .i64 y) := by simp [World.cell?, b1]
  have k0 : X.cell? ⟨w.heap.size + 1, 0, none⟩ = some (.int .i64 64) := by simp [World.cell?, b2]
  have k1 : X.cell? ⟨w.heap.size + 1, 1, none⟩ = some (.int .i64 64) := by simp [World.cell?, b2]
  have k2 : X.cell? ⟨w.heap.size + 1, 2, none⟩ = some (.int .i64 0) := by simp [World.cell?, b2]
  have k3 : X.cell? ⟨w.heap.size + 1, 3, none⟩ = some (.int .i64 2) := by simp [World.cell?, b2]
  have k4 : X.cell? ⟨w.heap.size + 1, 4, none⟩ = some (.int .i64 2) := by simp [World.cell?, b2]
  have k5 : X.cell? ⟨w.heap.size + 1, 5, none⟩ = some (.int .i64 1) := by simp [World.cell?, b2]
  have k6 : X.cell? ⟨w.heap.size + 1, 6, none⟩ = some (.int .i64 0) := by simp [World.cell?, b2]
  have k7 : X.cell? ⟨w.heap.size + 1, 7, none⟩ = some (.int .i64 0) := by simp [World.cell?, b2]
  have k8 : X.cell? ⟨w.heap.size + 1, 8, none⟩ = some (.int .i64 1) := by simp [World.cell?, b2]
  have k9 : X.cell? ⟨w.heap.size + 1, 9, none⟩ = some (.bool false) := by simp [World.cell?, b2]
  rw [hX]
  clear hX hz b1 b2
  have c1 := rceil_any x 64 X.drew (by omega) (by omega)
  have c2 := rceil_any y 64 X.drew (by omega) (by omega)
  rw [ceil64 x hx] at c1
  rw [ceil64 y hy] at c2
  refine wp_region_still_lit (by kernel_rfl) (by kernel_rfl) ?_
  repeat still_step
  still_call c1
  repeat still_step
  still_call c2
  repeat still_step
  refine wpStill_nil ?_
  change Exit.then _ _ _ _ X.drew
  have hBd := below_drewN hB 1
  clear c1 c2
  go_wp2
  go_ret
  exact ⟨rfl, hBd⟩

set_option maxRecDepth 100000 in
set_option maxHeartbeats 8000000 in
theorem rframe_any {AC : Option Addr} {cC : Nat} {Ls : List (List Int)} {d : Int} {st : Nat → Int} {w : World} (x y : Int) (hx : 1 ≤ x ∧ x ≤ 64) (hy : 1 ≤ y ∧ y ≤ 64) (h : RdImg w AC Ls d st) (hl : 1 ≤ Ls.length ∧ Ls.length ≤ 4) (hc : Ls.length ≤ cC ∧ cC ≤ maxLen)
    (hd : 1 ≤ d ∧ d ≤ 16) (hst : ∀ i, 1 ≤ st i ∧ st i ≤ 2) :
    Calls Try.prog 23 #[.agg #[.int .i64 x, .int .i64 y, .int .i64 0, .int .i64 0, .slice AC Ls.length cC], .agg #[.int .i64 64, .int .i64 64, .int .i64 0, .int .i64 2, .int .i64 2, .int .i64 1, .int .i64 0, .int .i64 0, .int .i64 1, .bool false, .bool false, .bool false]] w fun e w' => e = .returned (.int .i64 0) ∧ Below w.heap.size w w' := by
  have hc2 := hc.2
  unfold maxLen at hc2
  have HI := Lib.hid h
  have HT := Lib.hid hst
  clear h hst
  go_enter Try.func23, Try.ntmps23
  go_wp2
  have hB0 := ((Below.refl w.heap.size w).alloc (Nat.le_refl _) (Obj.cells #[.int .i64 x, .int .i64 y, .int .i64 0, .int .i64 0, .slice AC Ls.length cC] 25)).alloc (by simp) (Obj.cells #[.int .i64 64, .int .i64 64, .int .i64 0, .int .i64 2, .int .i64 2, .int .i64 1, .int .i64 0, .int .i64 0, .int .i64 1, .bool false, .bool false, .bool false] 37)
  obtain ⟨X, hX⟩ : ∃ X, (w.alloc (Obj.cells #[.int .i64 x, .int .i64 y, .int .i64 0, .int .i64 0, .slice AC Ls.length cC] 25)).alloc (Obj.cells #[.int .i64 64, .int .i64 64, .int .i64 0, .int .i64 2, .int .i64 2, .int .i64 1, .int .i64 0, .int .i64 0, .int .i64 1, .bool false, .bool false, .bool false] 37) = X := ⟨_, rfl⟩
  have hz : (w.alloc (Obj.cells #[.int .i64 x, .int .i64 y, .int .i64 0, .int .i64 0, .slice AC Ls.length cC] 25)).heap.size = w.heap.size + 1 := by simp
  have b1 : X.heap[w.heap.size]? = some (.cells #[.int .i64 x, .int .i64 y, .int .i64 0, .int .i64 0, .slice AC Ls.length cC] 25 (0, 0)) := by
    rw [← hX, Below.heap_alloc _ _ _ (by simp)]; exact World.alloc_heap_new w _
  have b2 : X.heap[w.heap.size + 1]? = some (.cells #[.int .i64 64, .int .i64 64, .int .i64 0, .int .i64 2, .int .i64 2, .int .i64 1, .int .i64 0, .int .i64 0, .int .i64 1, .bool false, .bool false, .bool false] 37 (0, 0)) := by
    rw [← hX, ← hz]; exact World.alloc_heap_new _ _
  rw [hX] at hB0 ⊢
  clear hX hz
  go_loopw [5] (fun iv wr => ∃ i : Nat, i ≤ Ls.length ∧ iv = .int .i64 i ∧ Below w.heap.size w wr ∧ wr.heap[w.heap.size]? = some (.cells #[.int .i64 x, .int .i64 y, .int .i64 0, .int .i64 0, .slice AC Ls.length cC] 25 (0, 0)) ∧ wr.heap[w.heap.size + 1]? = some (.cells #[.int .i64 64, .int .i64 64, .int .i64 0, .int .i64 2, .int .i64 2, .int .i64 1, .int .i64 0, .int .i64 0, .int .i64 1, .bool false, .bool false, .bool false] 37 (0, 0))) (fun iv _ => Ls.length - (intOf iv).toNat)
  case atStart => exact ⟨0, by omega, rfl, hB0, b1, b2⟩
  case round =>
    obtain ⟨i, hi, rfl, hB, hb1, hb2⟩ := hrel
    have q0 : wr.cell? ⟨w.heap.size, 0, none⟩ = some (.int .i64 x) := by simp [World.cell?, hb1]
    have q1 : wr.cell? ⟨w.heap.size, 1, none⟩ = some (.int .i64 y) := by simp [World.cell?, hb1]
    have q2 : wr.cell? ⟨w.heap.size, 2, none⟩ = some (.int .i64 0) := by simp [World.cell?, hb1]
    have q3 : wr.cell? ⟨w.heap.size, 3, none⟩ = some (.int .i64 0) := by simp [World.cell?, hb1]
    have q4 : wr.cell? ⟨w.heap.size, 4, none⟩ = some (.slice AC Ls.length cC) := by simp [World.cell?, hb1]
    have p0 : wr.cell? ⟨w.heap.size + 1, 0, none⟩ = some (.int .i64 64) := by simp [World.cell?, hb2]
    have p1 : wr.cell? ⟨w.heap.size + 1, 1, none⟩ = some (.int .i64 64) := by simp [World.cell?, hb2]
    have p2 : wr.cell? ⟨w.heap.size + 1, 2, none⟩ = some (.int .i64 0) := by simp [World.cell?, hb2]
    have p3 : wr.cell? ⟨w.heap.size + 1, 3, none⟩ = some (.int .i64 2) := by simp [World.cell?, hb2]
    have p4 : wr.cell? ⟨w.heap.size + 1, 4, none⟩ = some (.int .i64 2) := by simp [World.cell?, hb2]
    have p5 : wr.cell? ⟨w.heap.size + 1, 5, none⟩ = some (.int .i64 1) := by simp [World.cell?, hb2]
    have p6 : wr.cell? ⟨w.heap.size + 1, 6, none⟩ = some (.int .i64 0) := by simp [World.cell?, hb2]
    have p7 : wr.cell? ⟨w.heap.size + 1, 7, none⟩ = some (.int .i64 0) := by simp [World.cell?, hb2]
    have p8 : wr.cell? ⟨w.heap.size + 1, 8, none⟩ = some (.int .i64 1) := by simp [World.cell?, hb2]
    have p9 : wr.cell? ⟨w.heap.size + 1, 9, none⟩ = some (.bool false) := by simp [World.cell?, hb2]
    have p10 : wr.cell? ⟨w.heap.size + 1, 10, none⟩ = some (.bool false) := by simp [World.cell?, hb2]
    have p11 : wr.cell? ⟨w.heap.size + 1, 11, none⟩ = some (.bool false) := by simp [World.cell?, hb2]
    have hsz : w.heap.size + 1 < wr.heap.size := (Array.getElem?_eq_some_iff.1 hb2).1
    have HB1 := Lib.hid (And.intro hb1 hb2)
    clear hb1 hb2 b1 b2
    clear hB0
    by_cases ci : i < Ls.length
    · obtain ⟨L, hL⟩ : ∃ L, Ls[i]? = some L := ⟨_, List.getElem?_eq_getElem ci⟩
      obtain ⟨b, A, cap, rfl, hbl, c0, c1, c2, c3, c4, hcap, hmx, hLst⟩ := (HI.out.keep hB) i L hL
      have hs := HT.out i
      have ci' : (i : Int) < (Ls.length : Int) := by omega
      have e1 : decide (d < 1) = false := by simp; omega
      have e2 : decide (16 < d) = false := by simp; omega
      have e3 : decide (st i < 1) = false := by simp; omega
      have e4 : decide (4 < st i) = false := by simp; omega
      clear hLst hL
      go_wp2
      exact ⟨⟨i + 1, by omega, by go_num, hB.alloc hB.size _, (Below.heap_alloc wr _ _ (by omega)).trans HB1.out.1, (Below.heap_alloc wr _ _ hsz).trans HB1.out.2⟩, by simp [intOf]; omega⟩
    · obtain rfl : i = Ls.length := by omega
      go_wp2_with fail
      refine (rnumbers_any x y AC Ls.length cC _ hx hy).mono ?_
      rintro e w1 ⟨rfl, h1⟩
      have hB1 := hB.trans (h1.mono hB.size)
      clear hB h1
      go_wp2
      go_ret
      exact ⟨rfl, hB1⟩
end Go.Proofs.Ytjmkkjgchgcleaa
