/- The reference's Reader of chapter 2: End. -/
import Derived.Test.YthgbnkcbcepjdaaBitNb
import Derived.Laws.Rows
set_option linter.unusedVariables false
namespace Go.Proofs.Ythgbnkcbcepjdaa
open Go.RowKit

/-- No 255 came last. -/
theorem qend_plain {w : World} {q n l : Nat} {cc : Int} {cut bad : Bool} {a0 : Option Addr} {cap0 m : Nat} (h : w.heap[q]? = some (.cells #[.slice a0 m cap0, .int .i64 (n : Int), .int .i64 cc, .int .i64 (l : Int), .bool cut, .bool bad] 75 (0, 0))) (hc : cc ≠ 255) :
    Calls Try.prog 19 #[.pointer (some ⟨q, 0, none⟩)] w fun e w' => e = .returned (.tuple #[.int .i64 (if cut then 0 else if bad then 0 else (n : Int)), .int .i64 (if cut then 8 else if bad then 10 else 0)]) ∧ Below w.heap.size w w' := by
  have hcb : (cc == 255) = false := by simpa using hc
  have B1 : ∀ o, Below w.heap.size w (w.alloc o) := fun o => (Below.refl _ _).alloc (Nat.le_refl _) _
  have H := Lib.hid h
  have q0 := blk_cell h 0
  simp at q0
  clear h hc
  rcases Nat.eq_zero_or_pos n with hz | hz
  · subst hz
    cases cut
    · cases bad
      · go_enter Try.func19, Try.ntmps19
        go_wp2_with (refine wpList_load_row rfl 75 _ rfl q rfl 75 _ _ _ H.out Try.underlying75 rfl (by kernel_rfl) ?_)
        go_ret2
        exact ⟨rfl, B1 _⟩
      · go_enter Try.func19, Try.ntmps19
        go_wp2_with (refine wpList_load_row rfl 75 _ rfl q rfl 75 _ _ _ H.out Try.underlying75 rfl (by kernel_rfl) ?_)
        go_ret2
        exact ⟨rfl, B1 _⟩
    · go_enter Try.func19, Try.ntmps19
      go_wp2_with (refine wpList_load_row rfl 75 _ rfl q rfl 75 _ _ _ H.out Try.underlying75 rfl (by kernel_rfl) ?_)
      go_ret2
      exact ⟨rfl, B1 _⟩
  · have hn0 : (0 : Int) < (n : Int) := by omega
    cases cut
    · cases bad
      · go_enter Try.func19, Try.ntmps19
        go_wp2_with (refine wpList_load_row rfl 75 _ rfl q rfl 75 _ _ _ H.out Try.underlying75 rfl (by kernel_rfl) ?_)
        go_ret2
        exact ⟨rfl, B1 _⟩
      · go_enter Try.func19, Try.ntmps19
        go_wp2_with (refine wpList_load_row rfl 75 _ rfl q rfl 75 _ _ _ H.out Try.underlying75 rfl (by kernel_rfl) ?_)
        go_ret2
        exact ⟨rfl, B1 _⟩
    · go_enter Try.func19, Try.ntmps19
      go_wp2_with (refine wpList_load_row rfl 75 _ rfl q rfl 75 _ _ _ H.out Try.underlying75 rfl (by kernel_rfl) ?_)
      go_ret2
      exact ⟨rfl, B1 _⟩

set_option maxHeartbeats 4000000 in
theorem qb_end {w : World} {q B : Nat} {a0 : Option Addr} {cap0 : Nat} {F : List Int} {s : RS} (h : Qr w q a0 cap0 F s) (hL : Lst w B a0 (F.map (Value.int .u8))) (hB : B ≤ q) (hl : F.length ≤ 90000) (hn : s.n ≤ 90000) (hl8 : s.l ≤ 8) (hF : ∀ x ∈ F, 0 ≤ x ∧ x ≤ 255) :
    Calls Try.prog 19 #[.pointer (some ⟨q, 0, none⟩)] w fun e w' => e = .returned (.tuple #[.int .i64 (endK F s : Int), .int .i64 (endE F s)]) ∧ Below w.heap.size w w' := by
  by_cases h255 : curF F s.n = 255
  · have hn0 : 0 < s.n := by
      rcases Nat.eq_zero_or_pos s.n with e | e
      · rw [e] at h255; exact absurd h255 (by rw [show curF F 0 = 0 from rfl]; decide)
      · exact e
    have hqlt : q < w.heap.size := blk_lt h
    have hN : endN F s = s.n + 1 := if_pos h255
    have hBd : endBad F s = (xnext F s).bad := by unfold endBad xnext; rfl
    have key : ∀ (cut bad : Bool), cut = decide (F.length < s.n + 1) → bad = (xnext F s).bad → Calls Try.prog 19 #[.pointer (some ⟨q, 0, none⟩)] w fun e w' => e = .returned (.tuple #[.int .i64 (if cut then 0 else if bad then 0 else ((s.n + 1 : Nat) : Int)), .int .i64 (if cut then 8 else if bad then 10 else 0)]) ∧ Below w.heap.size w w' := by
      intro cut bad hcut hbad
      have NX : Hid (Calls Try.prog 36 #[.pointer (some ⟨w.heap.size, 0, none⟩)] (w.alloc (.cells #[.slice a0 F.length cap0, .int .i64 (s.n : Int), .int .i64 255, .int .i64 (s.l : Int), .bool (decide (F.length < s.n)), .bool s.bad] 75)) fun e w' => e = .returned (.tuple #[]) ∧ (∃ l cc, w'.heap[w.heap.size]? = some (.cells #[.slice a0 F.length cap0, .int .i64 ((s.n + 1 : Nat) : Int), cc, l, .bool cut, .bool bad] 75 (0, 0))) ∧ Below w.heap.size w w') := by
        refine Lib.hid ((qnext_any (q := w.heap.size) (s := s) (a0 := a0) (cap0 := cap0) ?_ (hL.alloc (by omega) _) (by omega) (by omega) (by omega) hl8 hF).mono ?_)
        · unfold Qr
          rw [h255]
          exact heap_alloc_new w _
        · rintro e w' ⟨rfl, h1, o1⟩
          unfold Qr at h1
          refine ⟨rfl, ⟨.int .i64 ((xnext F s).l : Int), .int .i64 (curF F (xnext F s).n), ?_⟩, ((Below.refl _ _).alloc (Nat.le_refl _) _).trans (o1.below (lo := w.heap.size) (fun k hk => by subst hk; exact Nat.le_refl _))⟩
          rw [hcut, hbad]
          exact h1
      have hni : (0 : Int) < (s.n : Int) := by omega
      have hh := h
      unfold Qr at hh
      rw [h255] at hh
      have H := Lib.hid hh
      have q0 := blk_cell hh 0
      simp at q0
      generalize decide (F.length < s.n) = cut0 at *
      obtain ⟨n1, hn1⟩ : ∃ n1, s.n + 1 = n1 := ⟨_, rfl⟩
      rw [hn1] at NX ⊢
      generalize s.n = n at *
      generalize s.l = l at *
      generalize s.bad = bad0 at *
      clear hcut hbad hh h hL hF hN hBd hn1 h255
      go_enter Try.func19, Try.ntmps19
      go_wp2_with (refine wpList_load_row rfl 75 _ rfl q rfl 75 _ _ _ H.out Try.underlying75 rfl (by kernel_rfl) ?_)
      refine NX.out.mono ?_
      rintro e w2 ⟨rfl, ⟨l2, cc2, h2⟩, B2⟩
      have c1 := blk_cell h2 1
      have c4 := blk_cell h2 4
      have c5 := blk_cell h2 5
      simp at c1 c4 c5
      clear h2 NX H q0
      cases cut
      · cases bad
        · go_wp2
          go_ret2
          exact ⟨rfl, B2⟩
        · go_wp2
          go_ret2
          exact ⟨rfl, B2⟩
      · go_wp2
        go_ret2
        exact ⟨rfl, B2⟩
    have := key _ _ rfl rfl
    unfold endK endE
    rw [hN, hBd]
    refine this.mono ?_
    rintro e w' ⟨rfl, hb⟩
    refine ⟨?_, hb⟩
    by_cases x1 : F.length < s.n + 1
    · simp [x1]
    · cases x2 : (xnext F s).bad <;> simp [x1]
  · have hN : endN F s = s.n := if_neg h255
    have hBd : endBad F s = s.bad := by unfold endBad; simp [h255]
    unfold endK endE
    rw [hN, hBd]
    refine (qend_plain h h255).mono ?_
    rintro e w' ⟨rfl, hb⟩
    refine ⟨?_, hb⟩
    by_cases x1 : F.length < s.n
    · simp [x1]
    · cases x2 : s.bad <;> simp [x1]
end Go.Proofs.Ythgbnkcbcepjdaa
