/- Trees: leaves that are none; both readers behind the end. -/
import Derived.Test.YthgbnkcbcepjdaaTrH3
set_option linter.unusedVariables false
set_option linter.unusedSimpArgs false
namespace Go.Proofs.Ythgbnkcbcepjdaa
open Go.RowKit
set_option maxRecDepth 100000
/-- A tree of so many leaves (none: no levels). -/
def PL (w : World) (p n : Nat) : Prop := (n = 0 ∧ w.cell? ⟨p, 0, none⟩ = some (.slice none 0 0)) ∨ ∃ L d cl V c, 1 ≤ d ∧ w.cell? ⟨p, 0, none⟩ = some (.slice (some ⟨L, 0, none⟩) d cl) ∧ w.cell? ⟨L, 2, none⟩ = some (.slice V n c)
set_option maxHeartbeats 4000000 in
theorem leaf_no {w : World} {p n : Nat} {k : Int} (h : PL w p n) (hk : k < 0 ∨ (n : Int) ≤ k) :
    Calls Try.prog 31 #[.pointer (some ⟨p, 0, none⟩), .int .i64 k] w fun e w' => e = .returned (.tuple #[.int .i64 0, .int .i64 0, .bool false]) ∧ w = w' := by
  rcases h with ⟨rfl, h0⟩ | ⟨L, d, cl, V, c, hd, h0, h2⟩
  · clear hk
    go_enter Try.func31, Try.ntmps31
    go_wp2
    go_ret3
    exact ⟨rfl, rfl⟩
  · have e1 : ((d : Int) == 0) = false := by simp; omega
    have e4 : (0 : Int) < (d : Int) := by omega
    by_cases c1 : k < 0
    · have e0 : decide (k < 0) = true := by simp [c1]
      clear hk
      go_enter Try.func31, Try.ntmps31
      go_wp2
      go_ret3
      exact ⟨rfl, rfl⟩
    · have e0 : decide (k < 0) = false := by simp; omega
      have e5 : (n : Int) ≤ k := by omega
      have e6 : decide ((n : Int) ≤ k) = true := by simp [e5]
      clear hk
      go_enter Try.func31, Try.ntmps31
      go_wp2
      go_ret3
      exact ⟨rfl, rfl⟩
set_option maxHeartbeats 4000000 in
theorem known_no {w : World} {p n : Nat} {k : Int} (h : PL w p n) (hk : k < 0 ∨ (n : Int) ≤ k) :
    Calls Try.prog 16 #[.pointer (some ⟨p, 0, none⟩), .int .i64 k] w fun e w' => e = .returned (.int .i64 (-1)) ∧ w = w' := by
  have HL := Lib.hid (leaf_no h hk)
  clear h hk
  go_enter Try.func16, Try.ntmps16
  go_wp2_with fail
  refine HL.out.mono ?_
  rintro e w1 ⟨rfl, rfl⟩
  go_wp2
  go_ret
  exact ⟨rfl, rfl⟩
set_option maxHeartbeats 4000000 in
theorem walk_no {w : World} {p n : Nat} {k b : Int} {kf : FuncId} {cs : Array Value} (h : PL w p n) (hk : k < 0 ∨ (n : Int) ≤ k) :
    Calls Try.prog 27 #[.pointer (some ⟨p, 0, none⟩), .int .i64 k, .int .i64 b, .func (.func kf) #[] cs] w fun e w' => e = .returned (.tuple #[]) ∧ w = w' := by
  have HL := Lib.hid (leaf_no h hk)
  clear h hk
  go_enter Try.func27, Try.ntmps27
  go_wp2_with fail
  refine HL.out.mono ?_
  rintro e w1 ⟨rfl, rfl⟩
  go_wp2
  exact bodyPost_ret (v := .tuple #[]) (by simp [results, Try.results27, go_sem]) rfl ⟨rfl, rfl⟩
theorem PL.below {w w' : World} {p n : Nat} (h : PL w p n) (hb : Below w.heap.size w w') : PL w' p n := by
  have kc : ∀ {a : Addr} {v : Value}, w.cell? a = some v → w'.cell? a = some v := fun {a v} e => (hb.cell (World.block_lt_of_cell? w _ e)).trans e
  rcases h with ⟨h, h0⟩ | ⟨L, d, cl, V, c, hd, h0, h2⟩
  · exact .inl ⟨h, kc h0⟩
  · exact .inr ⟨L, d, cl, V, c, hd, kc h0, kc h2⟩
set_option maxHeartbeats 4000000 in
theorem decode_no {w : World} {p n : Nat} {k b : Int} {qv : Nat} (h : PL w p n) (hk : k < 0 ∨ (n : Int) ≤ k) :
    Calls Try.prog 14 #[.pointer (some ⟨p, 0, none⟩), .pointer (some ⟨qv, 0, none⟩), .int .i64 k, .int .i64 b] w fun e w' => e = .returned (.bool false) ∧ Below w.heap.size w w' := by
  obtain ⟨W1, hW1⟩ : ∃ W1, (w.alloc (Obj.cells #[.pointer (some ⟨qv, 0, none⟩)] 30)).alloc (Obj.cells #[.int .i64 b] 3) = W1 := ⟨_, rfl⟩
  have hB1 : Below w.heap.size w W1 := by rw [← hW1]; exact ((Below.refl _ w).alloc (Nat.le_refl _) _).alloc (by simp) _
  have hP1 := h.below hB1
  have hz : (w.alloc (Obj.cells #[.pointer (some ⟨qv, 0, none⟩)] 30)).heap.size = w.heap.size + 1 := by simp
  have hq2 : W1.heap[w.heap.size + 1]? = some (.cells #[.int .i64 b] 3 (0, 0)) := by rw [← hW1, ← hz]; exact World.alloc_heap_new _ _
  have qc : W1.cell? ⟨w.heap.size + 1, 0, none⟩ = some (.int .i64 b) := by simp [World.cell?, hq2]
  have HW := Lib.hid (walk_no (b := b) (kf := 28) (cs := #[.pointer (some ⟨w.heap.size, 0, none⟩), .pointer (some ⟨w.heap.size + 1, 0, none⟩)]) hP1 hk)
  have HK := Lib.hid (known_no hP1 hk)
  have HB := Lib.hid hB1
  have HW1 := Lib.hid hW1
  clear hW1 hB1 hP1 hq2 hz h hk
  go_enter Try.func14, Try.ntmps14
  go_wp2_with fail
  rw [HW1.out]
  refine HW.out.mono ?_
  rintro e w1 ⟨rfl, rfl⟩
  go_wp2_with fail
  refine HK.out.mono ?_
  rintro e w1 ⟨rfl, rfl⟩
  go_wp2
  go_ret
  exact ⟨rfl, HB.out⟩
/-- Both readers stand at one place, or both behind the end. -/
def RSim (F : List Int) (s s' : RS) : Prop := s = s' ∨ (F.length < s.n ∧ F.length < s'.n)
theorem curF_past {F : List Int} {n : Nat} (h : F.length < n) : curF F n = 0 := by
  obtain ⟨m, rfl⟩ : ∃ m, n = m + 1 := ⟨n - 1, by omega⟩
  rw [curF_next, List.getD_eq_getElem?_getD, List.getElem?_eq_none (by omega)]
  rfl
theorem pstep_mono (F : List Int) (x : Nat × Nat) : x.1 ≤ (pstep F x).1 := by
  unfold pstep
  split
  · simp only; omega
  · exact Nat.le_refl _
theorem past_bit {F : List Int} {s : RS} (h : F.length < s.n) : rsbit F s = 0 ∧ F.length < (rsnext F s).n := by
  have h1 : s.n ≤ (rsnext F s).n := pstep_mono F (s.n, s.l)
  refine ⟨?_, by omega⟩
  unfold rsbit
  rw [curF_past (by omega)]
  simp
theorem end_past {F : List Int} {s : RS} (h : F.length < s.n) : endE F s = 8 ∧ endK F s = 0 := by
  have h1 : F.length < endN F s := by unfold endN; split <;> omega
  exact ⟨by unfold endE; rw [if_pos h1], by unfold endK; rw [if_pos h1]⟩
theorem cut_bit {F : List Int} {s : RS} (hl : s.l ≤ 8) (hb : rsbit F s = 0) (he : endE F (rsnext F s) = 8) : F.length < (rsnext F s).n := by
  have hr := (rsnext_rng F s hl).1
  have h1 : F.length < endN F (rsnext F s) := by
    unfold endE at he
    split at he
    · assumption
    · split at he <;> simp at he
  unfold endN at h1
  split at h1
  · rename_i h255
    exfalso
    unfold rsbit at hb
    rw [h255] at hb
    generalize (rsnext F s).l = l at hr hb
    obtain rfl | rfl | rfl | rfl | rfl | rfl | rfl | rfl := (by omega : l = 0 ∨ l = 1 ∨ l = 2 ∨ l = 3 ∨ l = 4 ∨ l = 5 ∨ l = 6 ∨ l = 7) <;> simp at hb
  · exact h1
theorem loop_past {F : List Int} {bound : Int} {num : Int} : ∀ (f : Nat) (s : RS) (low : Int), F.length < s.n → s.l ≤ 8 → low ≤ bound → (bound - low).toNat + 1 ≤ f → ∃ s', loopN (rqstep F) bound f (s, ⟨num, low, false⟩) = (s', ⟨num, bound, false⟩) ∧ F.length < s'.n ∧ s'.l ≤ 8 := by
  intro f
  induction f with
  | zero => intro s low h1 h2 h3 h4; omega
  | succ f ih =>
    intro s low h1 h2 h3 h4
    rcases (by omega : low = bound ∨ low < bound) with rfl | hlt
    · exact ⟨s, loopN_stop (by simp) _, h1, h2⟩
    · obtain ⟨b0, b1⟩ := past_bit h1
      have hr := (rsnext_rng F s h2).1
      obtain ⟨s', e, h5, h6⟩ := ih (rsnext F s) (low + 1) b1 (by omega) (by omega) (by omega)
      refine ⟨s', ?_, h5, h6⟩
      rw [loopN_go (x := (s, (⟨num, low, false⟩ : Nd))) ⟨hlt, rfl⟩]
      have hnx : nxt (rqstep F) (s, ⟨num, low, false⟩) = (rsnext F s, ⟨num, low + 1, false⟩) := by simp [nxt, rqstep, b0]
      rw [hnx]
      exact e
/-- A node that is fine: its low is no less than nought, nor is its number once it is said. -/
def NdOk (n : Nd) : Prop := 0 ≤ n.low ∧ (n.said = true → 0 ≤ n.num)
theorem loop_sim {F : List Int} {bound : Int} : ∀ (f : Nat) (s s' : RS) (nd : Nd), RSim F s s' → s.l ≤ 8 → s'.l ≤ 8 → NdOk nd → (nd.low < bound ∧ nd.said = false → (bound - nd.low).toNat + 1 ≤ f) →
    (loopN (dstep F bound) bound f (s, nd)).2 = (loopN (rqstep F) bound f (s', nd)).2 ∧ RSim F (loopN (dstep F bound) bound f (s, nd)).1 (loopN (rqstep F) bound f (s', nd)).1 ∧ (loopN (dstep F bound) bound f (s, nd)).1.l ≤ 8 ∧ (loopN (rqstep F) bound f (s', nd)).1.l ≤ 8 ∧ NdOk (loopN (rqstep F) bound f (s', nd)).2 := by
  intro f
  induction f with
  | zero => intro s s' nd h1 h2 h3 h4 h5; exact ⟨rfl, h1, h2, h3, h4⟩
  | succ f ih =>
    intro s s' nd h1 h2 h3 h4 h5
    by_cases hc : nd.low < bound ∧ nd.said = false
    · have h6 := h5 hc
      obtain ⟨num, low, said⟩ := nd
      obtain ⟨hlt, hs⟩ := hc
      simp only at hlt hs h6
      subst hs
      have hr := (rsnext_rng F s h2).1
      have hr' := (rsnext_rng F s' h3).1
      rw [loopN_go (x := (s, (⟨num, low, false⟩ : Nd))) ⟨hlt, rfl⟩, loopN_go (x := (s', (⟨num, low, false⟩ : Nd))) ⟨hlt, rfl⟩]
      have hrb := rsbit_rng F s
      have h40 : (0 : Int) ≤ low := h4.1
      have hbz : (0 : Int) ≤ bound := by omega
      have stop : ∀ (x : RS), loopN (dstep F bound) bound f (x, ⟨num, bound - 1 + 1, false⟩) = (x, ⟨num, bound, false⟩) := fun x => by
        rw [show bound - 1 + 1 = bound by omega]
        exact loopN_stop (by simp) _
      rcases h1 with rfl | ⟨p1, p2⟩
      · by_cases hb1 : rsbit F s = 1
        · have n1 : nxt (dstep F bound) (s, ⟨num, low, false⟩) = (rsnext F s, ⟨low, low, true⟩) := by simp [nxt, dstep, hb1]
          have n2 : nxt (rqstep F) (s, ⟨num, low, false⟩) = (rsnext F s, ⟨low, low, true⟩) := by simp [nxt, rqstep, hb1]
          rw [n1, n2]
          exact ih _ _ _ (.inl rfl) (by omega) (by omega) ⟨h40, fun _ => h40⟩ (by simp)
        · have hb0 : rsbit F s = 0 := by omega
          have n2 : nxt (rqstep F) (s, ⟨num, low, false⟩) = (rsnext F s, ⟨num, low + 1, false⟩) := by simp [nxt, rqstep, hb0]
          by_cases he : endE F (rsnext F s) = 8
          · have n1 : nxt (dstep F bound) (s, ⟨num, low, false⟩) = (rsnext F s, ⟨num, bound - 1 + 1, false⟩) := by simp [nxt, dstep, hb0, he]
            rw [n1, n2, stop]
            have hp := cut_bit h2 hb0 he
            obtain ⟨s2, e, q1, q2⟩ := loop_past (bound := bound) (num := num) f (rsnext F s) (low + 1) hp (by omega) (by omega) (by omega)
            rw [e]
            exact ⟨rfl, .inr ⟨hp, q1⟩, by simp only; omega, q2, ⟨hbz, by simp⟩⟩
          · have n1 : nxt (dstep F bound) (s, ⟨num, low, false⟩) = (rsnext F s, ⟨num, low + 1, false⟩) := by simp [nxt, dstep, hb0, he]
            rw [n1, n2]
            exact ih _ _ _ (.inl rfl) (by omega) (by omega) ⟨by simp only; omega, by simp⟩ (by simp only; intro h; omega)
      · obtain ⟨b0, b1⟩ := past_bit p1
        obtain ⟨c0, c1⟩ := past_bit p2
        have he := (end_past b1).1
        have n1 : nxt (dstep F bound) (s, ⟨num, low, false⟩) = (rsnext F s, ⟨num, bound - 1 + 1, false⟩) := by simp [nxt, dstep, b0, he]
        have n2 : nxt (rqstep F) (s', ⟨num, low, false⟩) = (rsnext F s', ⟨num, low + 1, false⟩) := by simp [nxt, rqstep, c0]
        rw [n1, n2, stop]
        obtain ⟨s2, e, q1, q2⟩ := loop_past (bound := bound) (num := num) f (rsnext F s') (low + 1) c1 (by omega) (by omega) (by omega)
        rw [e]
        exact ⟨rfl, .inr ⟨b1, q1⟩, by simp only; omega, q2, ⟨hbz, by simp⟩⟩
    · rw [loopN_stop (x := (s, nd)) hc, loopN_stop (x := (s', nd)) hc]
      exact ⟨rfl, h1, h2, h3, h4⟩
/-- All nodes are fine. -/
def TOk (T : TT) : Prop := ∀ i m, NdOk (T i m)
theorem TOk.upd {T : TT} (h : TOk T) (i m : Nat) {n : Nd} (hn : NdOk n) : TOk (T.upd i m n) := by
  intro a b
  unfold TT.upd
  split
  · exact hn
  · exact h a b
theorem walk_sim {F : List Int} {bound : Int} {W x y : Nat} : ∀ (j : Nat) (s s' : RS) (T : TT) (lo : Int), RSim F s s' → s.l ≤ 8 → s'.l ≤ 8 → TOk T → 0 ≤ lo →
    (walkT (dstep F bound) bound (bound.toNat + 2) W x y j (s, T, lo)).2 = (walkT (rqstep F) bound (bound.toNat + 2) W x y j (s', T, lo)).2 ∧ RSim F (walkT (dstep F bound) bound (bound.toNat + 2) W x y j (s, T, lo)).1 (walkT (rqstep F) bound (bound.toNat + 2) W x y j (s', T, lo)).1 ∧
    (walkT (dstep F bound) bound (bound.toNat + 2) W x y j (s, T, lo)).1.l ≤ 8 ∧ (walkT (rqstep F) bound (bound.toNat + 2) W x y j (s', T, lo)).1.l ≤ 8 ∧ TOk (walkT (rqstep F) bound (bound.toNat + 2) W x y j (s', T, lo)).2.1 := by
  intro j
  induction j with
  | zero => intro s s' T lo h1 h2 h3 h4 h5; exact ⟨rfl, h1, h2, h3, h4⟩
  | succ j ih =>
    intro s s' T lo h1 h2 h3 h4 h5
    rw [walkT, walkT]
    have hT := h4 j (y / 2 ^ j * dimF W j + x / 2 ^ j)
    simp only
    obtain ⟨nd, hnd⟩ : ∃ nd : Nd, (⟨(T j (y / 2 ^ j * dimF W j + x / 2 ^ j)).num, maxI (T j (y / 2 ^ j * dimF W j + x / 2 ^ j)).low lo, (T j (y / 2 ^ j * dimF W j + x / 2 ^ j)).said⟩ : Nd) = nd := ⟨_, rfl⟩
    have hno : NdOk nd := by
      rw [← hnd]
      refine ⟨?_, hT.2⟩
      show 0 ≤ maxI _ lo
      unfold maxI
      have := hT.1
      split <;> omega
    rw [hnd]
    obtain ⟨a1, a2, a3, a4, a5⟩ := loop_sim (F := F) (bound := bound) (bound.toNat + 2) s s' nd h1 h2 h3 hno (fun h => by
      have h0 : (0 : Int) ≤ nd.low := hno.1
      have h1 := h.1
      generalize nd.low = z at *
      omega)
    rw [a1]
    exact ih _ _ _ _ a2 a3 a4 (h4.upd _ _ a5) a5.1
end Go.Proofs.Ythgbnkcbcepjdaa
