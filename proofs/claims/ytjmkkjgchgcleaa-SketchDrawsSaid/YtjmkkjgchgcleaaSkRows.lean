/- The statement SketchRows of chapter 21, walked. -/
import Derived.Test.YtjmkkjgchgcleaaSkKinds
set_option linter.unusedVariables false
namespace Go.Proofs.Ytjmkkjgchgcleaa
open Go.RowKit

/-- May a picture be drawn of these numbers? -/
def okB (x y ox oy n d kind : Int) : Bool := decide (0 ≤ ox ∧ ox < x ∧ x ≤ 64 ∧ 0 ≤ oy ∧ oy < y ∧ y ≤ 64 ∧ 1 ≤ n ∧ n ≤ 4 ∧ 1 ≤ d ∧ d ≤ 16 ∧ 0 ≤ kind ∧ kind ≤ 4)
/-- What Draw refuses. -/
def NoPic (w : World) (e : Ending) (w' : World) : Prop := e = .returned (.tuple #[.agg #[.int .i64 0, .int .i64 0, .int .i64 0, .int .i64 0, .slice none 0 0], .int .i64 1]) ∧ Below w.heap.size w w'
theorem nopic_fin (w : World) : Below w.heap.size w (w.alloc (Obj.cells #[.int .i64 0, .int .i64 0, .int .i64 0, .int .i64 0, .slice none 0 0] 25)) := (Below.refl _ w).alloc (Nat.le_refl _) _
set_option maxRecDepth 100000 in
set_option maxHeartbeats 8000000 in
theorem draw_no (x y ox oy n d kind : Int) (w : World) (h : okB x y ox oy n d kind = false) :
    Calls Try.prog 9 #[.int .i64 x, .int .i64 y, .int .i64 ox, .int .i64 oy, .int .i64 n, .int .i64 d, .int .i64 kind] w (NoPic w) := by
  have hh : ¬ (0 ≤ ox ∧ ox < x ∧ x ≤ 64 ∧ 0 ≤ oy ∧ oy < y ∧ y ≤ 64 ∧ 1 ≤ n ∧ n ≤ 4 ∧ 1 ≤ d ∧ d ≤ 16 ∧ 0 ≤ kind ∧ kind ≤ 4) := by simpa [okB] using h
  clear h
  by_cases c0 : ox < 0
  · have b0 : decide (ox < 0) = true := by simpa using c0
    clear hh
    go_enter Try.func9, Try.ntmps9
    go_wp2
    exact bodyPost_ret (v := .tuple #[.agg #[.int .i64 0, .int .i64 0, .int .i64 0, .int .i64 0, .slice none 0 0], .int .i64 1]) (by simp [results, Try.results9, go_sem]) rfl ⟨rfl, nopic_fin w⟩
  have b0 : decide (ox < 0) = false := by simpa using c0
  by_cases c1 : oy < 0
  · have b1 : decide (oy < 0) = true := by simpa using c1
    clear hh
    go_enter Try.func9, Try.ntmps9
    go_wp2
    exact bodyPost_ret (v := .tuple #[.agg #[.int .i64 0, .int .i64 0, .int .i64 0, .int .i64 0, .slice none 0 0], .int .i64 1]) (by simp [results, Try.results9, go_sem]) rfl ⟨rfl, nopic_fin w⟩
  have b1 : decide (oy < 0) = false := by simpa using c1
  by_cases c2 : x ≤ ox
  · have b2 : decide (x ≤ ox) = true := by simpa using c2
    clear hh
    go_enter Try.func9, Try.ntmps9
    go_wp2
    exact bodyPost_ret (v := .tuple #[.agg #[.int .i64 0, .int .i64 0, .int .i64 0, .int .i64 0, .slice none 0 0], .int .i64 1]) (by simp [results, Try.results9, go_sem]) rfl ⟨rfl, nopic_fin w⟩
  have b2 : decide (x ≤ ox) = false := by simpa using c2
  by_cases c3 : 64 < x
  · have b3 : decide (64 < x) = true := by simpa using c3
    clear hh
    go_enter Try.func9, Try.ntmps9
    go_wp2
    exact bodyPost_ret (v := .tuple #[.agg #[.int .i64 0, .int .i64 0, .int .i64 0, .int .i64 0, .slice none 0 0], .int .i64 1]) (by simp [results, Try.results9, go_sem]) rfl ⟨rfl, nopic_fin w⟩
  have b3 : decide (64 < x) = false := by simpa using c3
  by_cases c4 : y ≤ oy
  · have b4 : decide (y ≤ oy) = true := by simpa using c4
    clear hh
    go_enter Try.func9, Try.ntmps9
    go_wp2
    exact bodyPost_ret (v := .tuple #[.agg #[.int .i64 0, .int .i64 0, .int .i64 0, .int .i64 0, .slice none 0 0], .int .i64 1]) (by simp [results, Try.results9, go_sem]) rfl ⟨rfl, nopic_fin w⟩
  have b4 : decide (y ≤ oy) = false := by simpa using c4
  by_cases c5 : 64 < y
  · have b5 : decide (64 < y) = true := by simpa using c5
    clear hh
    go_enter Try.func9, Try.ntmps9
    go_wp2
    exact bodyPost_ret (v := .tuple #[.agg #[.int .i64 0, .int .i64 0, .int .i64 0, .int .i64 0, .slice none 0 0], .int .i64 1]) (by simp [results, Try.results9, go_sem]) rfl ⟨rfl, nopic_fin w⟩
  have b5 : decide (64 < y) = false := by simpa using c5
  by_cases c6 : n < 1
  · have b6 : decide (n < 1) = true := by simpa using c6
    clear hh
    go_enter Try.func9, Try.ntmps9
    go_wp2
    exact bodyPost_ret (v := .tuple #[.agg #[.int .i64 0, .int .i64 0, .int .i64 0, .int .i64 0, .slice none 0 0], .int .i64 1]) (by simp [results, Try.results9, go_sem]) rfl ⟨rfl, nopic_fin w⟩
  have b6 : decide (n < 1) = false := by simpa using c6
  by_cases c7 : 4 < n
  · have b7 : decide (4 < n) = true := by simpa using c7
    clear hh
    go_enter Try.func9, Try.ntmps9
    go_wp2
    exact bodyPost_ret (v := .tuple #[.agg #[.int .i64 0, .int .i64 0, .int .i64 0, .int .i64 0, .slice none 0 0], .int .i64 1]) (by simp [results, Try.results9, go_sem]) rfl ⟨rfl, nopic_fin w⟩
  have b7 : decide (4 < n) = false := by simpa using c7
  by_cases c8 : d < 1
  · have b8 : decide (d < 1) = true := by simpa using c8
    clear hh
    go_enter Try.func9, Try.ntmps9
    go_wp2
    exact bodyPost_ret (v := .tuple #[.agg #[.int .i64 0, .int .i64 0, .int .i64 0, .int .i64 0, .slice none 0 0], .int .i64 1]) (by simp [results, Try.results9, go_sem]) rfl ⟨rfl, nopic_fin w⟩
  have b8 : decide (d < 1) = false := by simpa using c8
  by_cases c9 : 16 < d
  · have b9 : decide (16 < d) = true := by simpa using c9
    clear hh
    go_enter Try.func9, Try.ntmps9
    go_wp2
    exact bodyPost_ret (v := .tuple #[.agg #[.int .i64 0, .int .i64 0, .int .i64 0, .int .i64 0, .slice none 0 0], .int .i64 1]) (by simp [results, Try.results9, go_sem]) rfl ⟨rfl, nopic_fin w⟩
  have b9 : decide (16 < d) = false := by simpa using c9
  by_cases c10 : kind < 0
  · have b10 : decide (kind < 0) = true := by simpa using c10
    clear hh
    go_enter Try.func9, Try.ntmps9
    go_wp2
    exact bodyPost_ret (v := .tuple #[.agg #[.int .i64 0, .int .i64 0, .int .i64 0, .int .i64 0, .slice none 0 0], .int .i64 1]) (by simp [results, Try.results9, go_sem]) rfl ⟨rfl, nopic_fin w⟩
  have b10 : decide (kind < 0) = false := by simpa using c10
  by_cases c11 : 4 < kind
  · have b11 : decide (4 < kind) = true := by simpa using c11
    clear hh
    go_enter Try.func9, Try.ntmps9
    go_wp2
    exact bodyPost_ret (v := .tuple #[.agg #[.int .i64 0, .int .i64 0, .int .i64 0, .int .i64 0, .slice none 0 0], .int .i64 1]) (by simp [results, Try.results9, go_sem]) rfl ⟨rfl, nopic_fin w⟩
  have b11 : decide (4 < kind) = false := by simpa using c11
  exact absurd ⟨by omega, by omega, by omega, by omega, by omega, by omega, by omega, by omega, by omega, by omega, by omega, by omega⟩ hh
set_option maxRecDepth 100000 in
set_option maxHeartbeats 16000000 in
theorem walk_sketchRows (a0 : Int) (a1 : Bool) (w : World) (w0 : (Lit.int .i64 a0).wf = true) :
    Calls Try.prog 7 #[.int .i64 a0, .bool a1] w fun e w' => e = .returned (.bool true) ∧ Below w.heap.size w w' := by
  clear w0
  cases a1
  all_goals
    go_enter Try.func7, Try.ntmps7
    go_wp2_with fail
    refine (known21 _).mono ?_
    rintro e w1 ⟨rfl, h1⟩
    go_wp2_with fail
    refine (some21 _ _ _ (by omega) (by omega)).mono ?_
    rintro e w' ⟨r, rfl, r0, r1, rfl⟩
  · obtain rfl | rfl | rfl | rfl | rfl | rfl | rfl | rfl := (by omega : r = 0 ∨ r = 1 ∨ r = 2 ∨ r = 3 ∨ r = 4 ∨ r = 5 ∨ r = 6 ∨ r = 7)
    all_goals
      clear r0 r1
      go_wp2_with fail
      refine (draw_any _ _ _ _ _ _ _ _ (by omega) (by omega) (by omega) (by omega) (by omega)).mono ?_
      rintro e w2 ⟨Cv, CS, rfl, hP⟩
      obtain ⟨AC, cC, rfl, _⟩ := own_any hP.own
      have hb := hP.bel
      have hB := h1.trans ((((Below.refl _ w1).alloc (Nat.le_refl _) _).trans (hb.mono (by simp))).mono h1.size)
      have hB2 := hB.alloc hB.size
      have HB2 := Lib.hid hB2
      clear hP hb hB2 h1
      go_wp2
      go_ret
      exact ⟨rfl, HB2.out _⟩
  · obtain rfl | rfl | rfl | rfl | rfl | rfl | rfl | rfl := (by omega : r = 0 ∨ r = 1 ∨ r = 2 ∨ r = 3 ∨ r = 4 ∨ r = 5 ∨ r = 6 ∨ r = 7)
    all_goals
      clear r0 r1
      go_wp2_with fail
      refine (draw_no _ _ _ _ _ _ _ _ (by decide)).mono ?_
      rintro e w2 ⟨rfl, hb⟩
      have hB := h1.trans ((((Below.refl _ w1).alloc (Nat.le_refl _) _).trans (hb.mono (by simp))).mono h1.size)
      have hB2 := hB.alloc hB.size
      have HB2 := Lib.hid hB2
      clear hb hB2 h1
      go_wp2
      go_ret
      exact ⟨rfl, HB2.out _⟩
end Go.Proofs.Ytjmkkjgchgcleaa
