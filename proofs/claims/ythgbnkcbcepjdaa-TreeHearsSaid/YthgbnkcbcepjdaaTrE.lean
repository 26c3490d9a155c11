/- Trees: what Encode asks of a node. -/
import Derived.Test.YthgbnkcbcepjdaaTrS
import Derived.Test.YthgbnkcbcepjdaaBitW
set_option linter.unusedVariables false
set_option linter.unusedSimpArgs false
namespace Go.Proofs.Ythgbnkcbcepjdaa
open Go.RowKit
set_option maxRecDepth 100000
theorem encOne {P : Nat → Prop} {w : World} {qb wp b o : Nat} {s : List Int × Nat} {num low : Int} (h : Wb P w wp s.1 s.2) (ok : WOk s) (hl : s.1.length ≤ 90000) (hP : ∀ k, w.heap.size ≤ k → P k)
    (hq : w.cell? ⟨qb, 0, none⟩ = some (.pointer (some ⟨wp, 0, none⟩))) (h0 : w.cell? ⟨b, o, none⟩ = some (.int .i64 num)) (h1 : w.cell? ⟨b, o + 1, none⟩ = some (.int .i64 low)) :
    Calls Try.prog 38 #[.pointer (some ⟨b, o, none⟩), .pointer (some ⟨qb, 0, none⟩)] w fun e w' => e = .returned (.bool (decide (num ≤ low))) ∧ Wb P w' wp (wstep s (if low < num then 0 else 1)).1 (wstep s (if low < num then 0 else 1)).2 ∧ Only P w w' := by
  by_cases hc : low < num
  · have C := Lib.hid (fun m => wb_bit (b := 0) (w := w.drewN m) (h.drew m) ok hl hP)
    rw [if_pos hc]
    have hd : decide (num ≤ low) = false := by simp; omega
    rw [hd]
    clear h hd
    go_enter Try.func38, Try.ntmps38
    go_wp2
    go_quiet (fail)
    go_wp2_with fail
    refine (C.out nq).mono ?_
    rintro e w1 ⟨rfl, hw, ho⟩
    have HW := Lib.hid (And.intro hw ((only_drewN (Only.refl P w) nq).trans ho))
    clear hw ho C hq h0 h1
    go_wp2
    go_ret
    exact ⟨rfl, HW.out.1, HW.out.2⟩
  · have C := Lib.hid (fun m => wb_bit (b := 1) (w := w.drewN m) (h.drew m) ok hl hP)
    rw [if_neg hc]
    have hd : decide (num ≤ low) = true := by simp; omega
    rw [hd]
    clear h hd
    go_enter Try.func38, Try.ntmps38
    go_wp2
    go_quiet (fail)
    go_wp2_with fail
    refine (C.out nq).mono ?_
    rintro e w1 ⟨rfl, hw, ho⟩
    have HW := Lib.hid (And.intro hw ((only_drewN (Only.refl P w) nq).trans ho))
    clear hw ho C hq h0 h1
    go_wp2
    go_ret
    exact ⟨rfl, HW.out.1, HW.out.2⟩
end Go.Proofs.Ythgbnkcbcepjdaa
