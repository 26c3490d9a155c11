/- Trees of one leaf: Set. -/
import Derived.Test.YthgbnkcbcepjdaaTrO
import Derived.Outline
set_option linter.unusedVariables false
set_option linter.unusedSimpArgs false
namespace Go.Proofs.Ythgbnkcbcepjdaa
open Go.RowKit
set_option maxRecDepth 100000
/-- A tree of one leaf: its block, the levels' and the node's; what it holds. -/
structure T1 (w : World) (p L I cl : Nat) (num low : Int) (said : Bool) : Prop where
  tp : w.heap[p]? = some (.cells #[.slice (some ⟨L, 0, none⟩) 1 cl] 55 (0, 0))
  l0 : w.cell? ⟨L, 0, none⟩ = some (.int .i64 1)
  l1 : w.cell? ⟨L, 1, none⟩ = some (.int .i64 1)
  l2 : w.cell? ⟨L, 2, none⟩ = some (.slice (some ⟨I, 0, none⟩) 1 1)
  nd : w.heap[I]? = some (.cells #[.int .i64 num, .int .i64 low, .bool said] 61 (0, 0))
  ne : p ≠ L ∧ p ≠ I ∧ L ≠ I
theorem T1.lt {w : World} {p L I cl : Nat} {num low : Int} {said : Bool} (h : T1 w p L I cl num low said) : p < w.heap.size ∧ L < w.heap.size ∧ I < w.heap.size :=
  ⟨lt_some h.tp, World.block_lt_of_cell? w _ h.l0, lt_some h.nd⟩
set_option maxHeartbeats 4000000 in
set_option pp.deepTerms true in
set_option pp.maxSteps 10000000 in
theorem set1 {w : World} {p L I cl : Nat} {num low : Int} {said : Bool} (h : T1 w p L I cl num low said) (n : Nat) (hn : n ≤ 1000) :
    Calls Try.prog 20 #[.pointer (some ⟨p, 0, none⟩), .int .i64 0, .int .i64 (n : Int)] w fun e w' => e = .returned (.tuple #[]) ∧ T1 w' p L I cl (n : Int) low said ∧ (∀ b, b < w.heap.size → b ≠ I → w'.heap[b]? = w.heap[b]?) ∧ w.heap.size ≤ w'.heap.size ∧ w'.os = w.os ∧ w'.tape = w.tape ∧ w'.output = w.output := by
  have hl := h.lt
  have c0 : w.cell? ⟨p, 0, none⟩ = some (.slice (some ⟨L, 0, none⟩) 1 cl) := by simp [World.cell?, h.tp]
  have HL := Lib.hid (leaf_yes p L 1 cl 1 1 1 0 0 0 (some ⟨I, 0, none⟩) w c0 (by omega) (by omega) h.l0 h.l2 (by omega) (by omega) rfl rfl)
  have HA := Lib.hid (fun W' => tat_any 1 1 1 1 0 0 0 I 0 W' (by omega) (by omega) (by omega) rfl rfl)
  have g0 := h.l0
  have g1 := h.l1
  have g2 := h.l2
  have H := Lib.hid h
  clear h
  go_enter Try.func20, Try.ntmps20
  go_wp2_with fail
  refine HL.out.mono ?_
  rintro e w1 ⟨rfl, nq, rfl⟩
  go_wp2_with fail
  refine (HA.out _).mono ?_
  rintro e w2 ⟨rfl, hb⟩
  have kp : ∀ b, b < w.heap.size → w2.heap[b]? = w.heap[b]? := fun b h => hb.block b h
  have H2 : Hid (T1 w2 p L I cl num low said) := Lib.hid ⟨(kp _ hl.1).trans H.out.tp, (World.cell?_of_block (w := w) (kp L hl.2.1)).trans H.out.l0, (World.cell?_of_block (w := w) (kp L hl.2.1)).trans H.out.l1, (World.cell?_of_block (w := w) (kp L hl.2.1)).trans H.out.l2, (kp _ hl.2.2).trans H.out.nd, H.out.ne⟩
  have HBL : Hid (Below w.heap.size w w2) := Lib.hid ((below_drewN (Below.refl _ w) nq).trans (hb.mono (Nat.le_refl _)))
  clear hb kp c0 g0 g1 g2
  have k0 : w2.cell? ⟨I, 0, none⟩ = some (.int .i64 num) := by simp [World.cell?, H2.out.nd]
  have kf : w2.frozen? ⟨I, 0, none⟩ = false := by simp [World.frozen?, H2.out.nd]
  have hne := H2.out.ne
  have H3 : Hid (T1 (w2.setCell ⟨I, 0, none⟩ (.int .i64 (n : Int))) p L I cl (n : Int) low said) := Lib.hid (by
    have e1 : (w2.setCell ⟨I, 0, none⟩ (.int .i64 (n : Int))).heap[p]? = w2.heap[p]? := Below.heap_setCell _ _ _ _ (by simp; omega)
    have e2 : (w2.setCell ⟨I, 0, none⟩ (.int .i64 (n : Int))).heap[L]? = w2.heap[L]? := Below.heap_setCell _ _ _ _ (by simp; omega)
    exact ⟨e1.trans H2.out.tp, (World.cell?_of_block (w := w2) e2).trans H2.out.l0, (World.cell?_of_block (w := w2) e2).trans H2.out.l1, (World.cell?_of_block (w := w2) e2).trans H2.out.l2, by simp [World.setCell, Array.getElem?_modify, H2.out.nd], hne⟩)
  have c0 : (w2.setCell ⟨I, 0, none⟩ (.int .i64 (n : Int))).cell? ⟨p, 0, none⟩ = some (.slice (some ⟨L, 0, none⟩) 1 cl) := by
    have h := H3.out.tp
    simp only [World.cell?, h]; rfl
  have HK : Hid ((∀ b, b < w.heap.size → b ≠ I → (w2.setCell ⟨I, 0, none⟩ (.int .i64 (n : Int))).heap[b]? = w.heap[b]?) ∧ w.heap.size ≤ (w2.setCell ⟨I, 0, none⟩ (.int .i64 (n : Int))).heap.size ∧ (w2.setCell ⟨I, 0, none⟩ (.int .i64 (n : Int))).os = w.os ∧ (w2.setCell ⟨I, 0, none⟩ (.int .i64 (n : Int))).tape = w.tape ∧ (w2.setCell ⟨I, 0, none⟩ (.int .i64 (n : Int))).output = w.output) := Lib.hid ⟨fun b hb hne => (Below.heap_setCell _ _ _ _ (by simpa using hne)).trans (HBL.out.block b hb), by simp [World.setCell]; exact HBL.out.size, HBL.out.os, HBL.out.tape, HBL.out.output⟩
  go_wp2_with fail
  obtain ⟨wf, hwf⟩ : ∃ wf, (w2.setCell ⟨I, 0, none⟩ (.int .i64 (n : Int))) = wf := ⟨_, rfl⟩
  rw [hwf] at H3 HK c0 ⊢
  clear hwf
  go_loopw [41] (fun iv wr => iv = .int .i64 0 ∧ Hid (wf = wr)) (fun _ _ => 0)
  case atStart => exact ⟨rfl, Lib.hid rfl⟩
  case round =>
    obtain ⟨rfl, hw⟩ := hrel
    obtain rfl := hw.out
    go_wp2
    go_end0
    exact ⟨rfl, H3.out, HK.out⟩
end Go.Proofs.Ythgbnkcbcepjdaa
