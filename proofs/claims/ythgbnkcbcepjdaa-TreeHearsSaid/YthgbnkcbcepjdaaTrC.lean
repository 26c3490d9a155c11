/- Trees: Encode and Decode, beside other objects; whose block is whose. -/
import Derived.Test.YthgbnkcbcepjdaaTrWk
import Derived.Test.YthgbnkcbcepjdaaTrE
import Derived.Test.YthgbnkcbcepjdaaBitQ
import Derived.Laws.EntriesVeiled
set_option linter.unusedVariables false
set_option linter.unusedSimpArgs false
namespace Go.Proofs.Ythgbnkcbcepjdaa
open Go.RowKit
set_option maxRecDepth 100000
theorem shp_len {W H : Nat} {sh sh' : Sh} (h : Shp W H sh) (h' : Shp W H sh') : sh.length = sh'.length := by
  have k : ∀ {a b : Sh}, Shp W H a → Shp W H b → ¬ a.length < b.length := by
    intro a b ha hb hlt
    have h1 := ha.len.1
    have h2 := hb.mid (a.length - 1) (by omega)
    have h3 := ha.top
    omega
  have h1 := k h h'
  have h2 := k h' h
  omega
/-- A tree whose blocks are j's. -/
def TrO (o : Nat → Nat) (j : Nat) (w : World) (p W0 H0 d : Nat) (T : TT) : Prop :=
  ∃ L cl sh, Tr w p L cl sh T ∧ Shp W0 H0 sh ∧ sh.length = d ∧ LowOk T ∧ ∀ k, TB p L sh k → o k = j
/-- A Writer whose blocks are j's. -/
def WrO (o : Nat → Nat) (j : Nat) (w : World) (wp : Nat) (s : List Int × Nat) : Prop := Wb (fun k => k < w.heap.size ∧ o k = j) w wp s.1 s.2 ∧ WOk s
/-- Nothing but a's and x's blocks was written. -/
def Onl (o : Nat → Nat) (a x : Nat) (w w' : World) : Prop := Only (fun k => k < w.heap.size → o k = a ∨ o k = x) w w'
section
variable {o o' : Nat → Nat} {a x b : Nat} {w w' : World} {p W0 H0 d wp : Nat} {T : TT} {s : List Int × Nat}
theorem Onl.at (h : Onl o a x w w') {k : Nat} (hk : k < w.heap.size) (ha : o k ≠ a) (hx : o k ≠ x) : w'.heap[k]? = w.heap[k]? := h.block k (fun f => by
  rcases f hk with e | e
  · exact ha e
  · exact hx e)
theorem TrO.other (h : TrO o b w p W0 H0 d T) (hn : Onl o a x w w') (ho : ∀ k, k < w.heap.size → o' k = o k) (ha : b ≠ a) (hx : b ≠ x) : TrO o' b w' p W0 H0 d T := by
  obtain ⟨L, cl, sh, h1, h2, h3, h4, h5⟩ := h
  have hlt := fun k (hk : TB p L sh k) => h1.lt h2.len.1 hk
  exact ⟨L, cl, sh, h1.keep fun k hk => hn.at (hlt k hk) (by rw [h5 k hk]; exact ha) (by rw [h5 k hk]; exact hx), h2, h3, h4, fun k hk => (ho k (hlt k hk)).trans (h5 k hk)⟩
theorem WrO.other (h : WrO o b w wp s) (hn : Onl o a x w w') (ho : ∀ k, k < w.heap.size → o' k = o k) (ha : b ≠ a) (hx : b ≠ x) : WrO o' b w' wp s :=
  ⟨(h.1.keep hn.size (fun k hk => hn.at hk.1 (by rw [hk.2]; exact ha) (by rw [hk.2]; exact hx))).imp (fun k _ hk => ⟨Nat.lt_of_lt_of_le hk.1 hn.size, (ho k hk.1).trans hk.2⟩), h.2⟩
theorem onl_below (h : Below w.heap.size w w') : Onl o a x w w' := ⟨h.os, h.tape, h.output, h.size, fun k hk => h.block k (by
  rcases Nat.lt_or_ge k w.heap.size with e | e
  · exact e
  · exact absurd (fun h => absurd h (by omega)) hk)⟩
theorem TrO.below (h : TrO o b w p W0 H0 d T) (hb : Below w.heap.size w w') (ho : ∀ k, k < w.heap.size → o' k = o k) : TrO o' b w' p W0 H0 d T := h.other (onl_below (a := b + 1) (x := b + 1) hb) ho (by omega) (by omega)
theorem WrO.below (h : WrO o b w wp s) (hb : Below w.heap.size w w') (ho : ∀ k, k < w.heap.size → o' k = o k) : WrO o' b w' wp s := h.other (onl_below (a := b + 1) (x := b + 1) hb) ho (by omega) (by omega)
theorem Onl.below {lo : Nat} (h : Onl o a x w w') (hlo : ∀ k, k < w.heap.size → o k = a ∨ o k = x → lo ≤ k) (hl : lo ≤ w.heap.size) : Below lo w w' := Only.below h (fun k hk => by
  rcases Nat.lt_or_ge k w.heap.size with e | e
  · exact hlo k e (hk e)
  · omega)
end
/-- New blocks are x's. -/
def onew (o : Nat → Nat) (w : World) (x : Nat) : Nat → Nat := fun k => if k < w.heap.size then o k else x
theorem onew_old (o : Nat → Nat) (w : World) (x : Nat) : ∀ k, k < w.heap.size → onew o w x k = o k := fun k h => if_pos h
theorem onew_new (o : Nat → Nat) (w : World) (x : Nat) {k : Nat} (h : w.heap.size ≤ k) : onew o w x k = x := if_neg (by omega)
/-- The caller's own blocks are nobody's. -/
def Bs (o : Nat → Nat) (n : Nat) : Prop := ∀ k, k < n → o k = 0
theorem Bs.zero (n : Nat) : Bs (fun _ => 0) n := fun _ _ => rfl
theorem Bs.new {o : Nat → Nat} {n : Nat} {w : World} (h : Bs o n) (hn : n ≤ w.heap.size) (x : Nat) : Bs (onew o w x) n := fun k hk => (onew_old o w x k (by omega)).trans (h k hk)
theorem Onl.base {o : Nat → Nat} {a x n : Nat} {w w' : World} (h : Onl o a x w w') (hb : Bs o n) (ha : a ≠ 0) (hx : x ≠ 0) (hn : n ≤ w.heap.size) : Below n w w' :=
  h.below (fun k _ e => by
    rcases Nat.lt_or_ge k n with h' | h'
    · have := hb k h'; omega
    · exact h') hn
theorem new_o (o : Nat → Nat) (j W H : Nat) (w : World) (hW : 1 ≤ W ∧ W ≤ 64) (hH : 1 ≤ H ∧ H ≤ 64) : Calls Try.prog 10 #[.int .i64 (W : Int), .int .i64 (H : Int)] w fun e w' => ∃ p d, e = .returned (.pointer (some ⟨p, 0, none⟩)) ∧ TrO (onew o w j) j w' p W H d T0 ∧ Below w.heap.size w w' ∧ d ≤ 8 :=
  (newTree W H w hW hH).mono fun e w' ⟨L, cl, sh, he, h1, h2, h3, h4⟩ => ⟨_, _, he, ⟨L, cl, sh, h1, h2, rfl, fun i m => by show 0 ≤ (0 : Int) ∧ (0 : Int) ≤ 1000; omega, fun k hk => onew_new o w j (h3 k hk)⟩, h4, h2.len.2⟩
theorem wnew_o (o : Nat → Nat) (j : Nat) (w : World) : Calls Try.prog 21 #[] w fun e w' => ∃ p, e = .returned (.pointer (some ⟨p, 0, none⟩)) ∧ WrO (onew o w j) j w' p ([], 0) ∧ Below w.heap.size w w' :=
  (bnew_any w).mono fun e w' ⟨p, he, h1, h2⟩ => ⟨p, he, ⟨h1.imp (fun k hk h => ⟨hk, onew_new o w j h.1⟩), wrun_ok []⟩, h2⟩
theorem set_o {o : Nat → Nat} {a : Nat} {w : World} {p W0 H0 d k : Nat} {T : TT} (h : TrO o a w p W0 H0 d T) (hk : k < W0 * H0) (n : Nat) (hn : n ≤ 1000) :
    Calls Try.prog 20 #[.pointer (some ⟨p, 0, none⟩), .int .i64 (k : Int), .int .i64 (n : Int)] w fun e w' => e = .returned (.tuple #[]) ∧ TrO (onew o w a) a w' p W0 H0 d (setM T W0 H0 d k n) ∧ Onl o a a w w' := by
  obtain ⟨L, cl, sh, h1, h2, rfl, h4, h5⟩ := h
  have hlt := fun k (hk : TB p L sh k) => h1.lt h2.len.1 hk
  have hlow : ∀ i, LowOk (setUp (T.upd 0 k ⟨(n : Int), (T 0 k).low, (T 0 k).said⟩) W0 H0 (k % W0) (k / W0) i) := by
    intro i
    induction i with
    | zero => exact h4.upd _ _ (h4 0 k)
    | succ i ih => exact ih.upd _ _ (ih _ _)
  exact (set_tr h1 h2 hk n hn).mono fun e w' ⟨he, hT, ho⟩ => ⟨he, ⟨L, cl, sh, hT, h2, rfl, hlow _, fun k hk => (onew_old o w a k (hlt k hk)).trans (h5 k hk)⟩, ho.mono (fun k hk hk' => by
    rcases hk with hk | hk
    · exact .inl (h5 k hk)
    · omega)⟩
/-- What Encode's question does. -/
def estep (s : List Int × Nat) (nd : Nd) : Bool × Nd × (List Int × Nat) := (decide (nd.num ≤ nd.low), nd, wstep s (if nd.low < nd.num then 0 else 1))
def encM (bound : Int) (W0 d k : Nat) (s : List Int × Nat) (T : TT) : (List Int × Nat) × TT × Int := walkT estep bound (bound.toNat + 2) W0 (k % W0) (k / W0) d (s, T, 0)
theorem enters38 : Enters Try.prog 38 := enters_of Try.func38 (by kernel_rfl) rfl
theorem wstep_len1 (s : List Int × Nat) (b : Int) : (wstep s b).1.length ≤ s.1.length + 1 := by
  unfold wstep
  split
  · simp
  · simp <;> omega
/-- The Writer's side of a question. -/
def EJ (Q : Nat → Prop) (qb wp : Nat) (s : List Int × Nat) (w : World) : Prop := qb < w.heap.size ∧ Wb Q w wp s.1 s.2 ∧ WOk s ∧ w.cell? ⟨qb, 0, none⟩ = some (.pointer (some ⟨wp, 0, none⟩))
theorem ask_enc {o : Nat → Nat} {a x : Nat} {w : World} {p L cl W0 H0 wp : Nat} {sh : Sh} {T : TT} {bound : Int} (h : Tr w p L cl sh T) (hs : Shp W0 H0 sh) (h5 : ∀ k, TB p L sh k → o k = a) (hne : a ≠ x) :
    Ask (List Int × Nat) 38 #[.pointer (some ⟨w.heap.size, 0, none⟩)] p L cl sh bound estep (EJ (fun k => (k < w.heap.size ∧ o k = x) ∨ w.heap.size < k) w.heap.size wp) (fun s => s.1.length) (fun k => k < w.heap.size → o k = a ∨ o k = x) where
  ent := enters38
  keep := by
    rintro s w1 w2 ⟨h1, h2, h3, h4⟩ hsz hk
    have hT : ∀ k, TB p L sh k → k < w.heap.size := fun k hk => h.lt hs.len.1 hk
    have hq : ¬ TB p L sh w.heap.size := fun e => by have := hT _ e; omega
    refine ⟨by omega, ?_, h3, (World.cell?_of_block (w := w1) (hk _ hq h1)).trans h4⟩
    have h2' := h2.imp (Q := fun k => ((k < w.heap.size ∧ o k = x) ∨ w.heap.size < k) ∧ k < w1.heap.size) (fun k hk hp => ⟨hp, hk⟩)
    refine (h2'.keep hsz (fun k hk' => hk k (fun e => ?_) hk'.2)).imp (fun k _ hp => hp.1)
    rcases hk'.1 with h | h
    · exact hne ((h5 k e).symm.trans h.2)
    · have := hT k e; omega
  up := by
    intro s nd
    exact wstep_len1 s _
  no := by
    intro s nd he h0 hb
    exact ⟨Int.le_refl _, hb⟩
  yes := fun s nd _ => rfl
  call := by
    rintro w1 s T i m W H I hT ⟨h1, h2, h3, h4⟩ hi hm hsd hl0 hlb hms
    obtain ⟨c0, c1, c2, cf⟩ := hT.cells hi hm
    have hTl : ∀ k, TB p L sh k → k < w.heap.size := fun k hk => h.lt hs.len.1 hk
    refine (encOne (P := fun k => (k < w.heap.size ∧ o k = x) ∨ w.heap.size < k) (qb := w.heap.size) h2 h3 (by omega) (fun k hk => .inr (by omega)) h4 c0 c1).mono ?_
    rintro e w2 ⟨rfl, hw, ho⟩
    refine ⟨rfl, ?_, ⟨Nat.lt_of_lt_of_le h1 ho.size, hw, h3.step _, (ho.cell (p := ⟨w.heap.size, 0, none⟩) (by simp)).trans h4⟩, ho.mono (fun k hk hk' => ?_)⟩
    · show Tr w2 p L cl sh (T.upd i m (T i m))
      rw [TT.upd_same]
      refine hT.only ho (fun k hk e => ?_)
      rcases e with e | e
      · exact hne ((h5 k hk).symm.trans e.2)
      · have := hTl k hk; omega
    · rcases hk with e | e
      · exact .inr e.2
      · omega
  pt := fun k hk _ => .inl (h5 k hk)
set_option maxHeartbeats 1000000 in
theorem enc_o {o : Nat → Nat} {a x : Nat} {w : World} {p W0 H0 d wp k : Nat} {T : TT} {s : List Int × Nat} (ha : TrO o a w p W0 H0 d T) (hx : WrO o x w wp s) (hne : a ≠ x) (hk : k < W0 * H0) (bound : Int) (hb : -1 ≤ bound ∧ bound ≤ 500) (hl : s.1.length + d * (bound.toNat + 2) ≤ 80000) :
    Calls Try.prog 22 #[.pointer (some ⟨p, 0, none⟩), .pointer (some ⟨wp, 0, none⟩), .int .i64 (k : Int), .int .i64 bound] w fun e w' => e = .returned (.tuple #[]) ∧ TrO (onew o w x) a w' p W0 H0 d (encM bound W0 d k s T).2.1 ∧ WrO (onew o w x) x w' wp (encM bound W0 d k s T).1 ∧ Onl o a x w w' ∧
      (encM bound W0 d k s T).1.1.length ≤ s.1.length + d * (bound.toNat + 2) := by
  obtain ⟨L, cl, sh, h1, h2, rfl, h4, h5⟩ := ha
  have hA := ask_enc (bound := bound) (wp := wp) h1 h2 h5 hne
  have hTl : ∀ k, TB p L sh k → k < w.heap.size := fun k hk => h1.lt h2.len.1 hk
  obtain ⟨W1, hW1⟩ : ∃ W1, w.alloc (Obj.cells #[.pointer (some ⟨wp, 0, none⟩)] 44) = W1 := ⟨_, rfl⟩
  have hB1 : Below w.heap.size w W1 := by rw [← hW1]; exact (Below.refl _ w).alloc (Nat.le_refl _) _
  have hs1 : W1.heap.size = w.heap.size + 1 := by rw [← hW1]; simp
  have hq1 : W1.heap[w.heap.size]? = some (.cells #[.pointer (some ⟨wp, 0, none⟩)] 44 (0, 0)) := by rw [← hW1]; exact World.alloc_heap_new w _
  have hJ : EJ (fun k => (k < w.heap.size ∧ o k = x) ∨ w.heap.size < k) w.heap.size wp s W1 := by
    refine ⟨by omega, ?_, hx.2, by simp [World.cell?, hq1]⟩
    exact (hx.1.keep hB1.size (fun k hk => hB1.block k hk.1)).imp (fun k _ hk => .inl hk)
  have hC := walk_tr hA (h1.below h2.len.1 hB1) h2 hk hb hJ h4 hl (fun b hb' => fun hb2 => by omega)
  have HC := Lib.hid hC
  have HW1 := Lib.hid hW1
  clear hC hA hJ hW1 hq1
  go_enter Try.func22, Try.ntmps22
  go_wp2_with fail
  rw [HW1.out]
  refine HC.out.mono ?_
  rintro e w2 ⟨rfl, hT, ⟨_, hw, hok, _⟩, ho, hlo, hlen⟩
  have hOn : Onl o a x w w2 := ((Only.refl _ w).trans ⟨hB1.os, hB1.tape, hB1.output, hB1.size, fun k hk => hB1.block k (by
    rcases Nat.lt_or_ge k w.heap.size with e | e
    · exact e
    · exact absurd (fun h => absurd h (by omega)) hk)⟩).trans ho
  have HF : Hid (TrO (onew o w x) a w2 p W0 H0 sh.length (encM bound W0 sh.length k s T).2.1 ∧ WrO (onew o w x) x w2 wp (encM bound W0 sh.length k s T).1 ∧ Onl o a x w w2 ∧
      (encM bound W0 sh.length k s T).1.1.length ≤ s.1.length + sh.length * (bound.toNat + 2)) := Lib.hid ⟨⟨L, cl, sh, hT, h2, rfl, hlo, fun k hk => (onew_old o w x k (hTl k hk)).trans (h5 k hk)⟩, ⟨hw.imp (fun k hk hp => ⟨hk, by
      rcases hp with hp | hp
      · rw [onew_old o w x k hp.1]; exact hp.2
      · exact onew_new o w x (Nat.le_of_lt hp)⟩), hok⟩, hOn, hlen⟩
  clear hT hw hok ho hlo hlen hOn h1 h2 h4 h5
  go_wp2
  go_end0
  exact ⟨rfl, HF.out⟩
end Go.Proofs.Ythgbnkcbcepjdaa
