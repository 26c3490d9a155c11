/- Package boxes: a range over its iterator, whatever the body. -/
import Derived.Test.YtfjkfajhfnmjjaaBoxA
set_option linter.unusedVariables false
set_option linter.unusedSimpArgs false
namespace Go.Proofs.Ytfjkfajhfnmjjaa
open Go.RowKit Go.Shelf
/-- How the body of a round over the boxes is left. -/
def RPost (w : World) (q : Nat) (A : World) (I : Nat → List (List Int × List Int) → World → Prop) (Ix : World → Prop) (pre : List (List Int × List Int)) (x : List Int × List Int) : Exit → Act → World → Prop := fun e _ A' =>
  ((e = .normal ∧ I q (pre ++ [x]) A' ∧ pre.length < 100) ∨ (e = .ret ∧ Ix A')) ∧ A.heap.size ≤ A'.heap.size ∧ ∀ k, w.heap.size ≤ k → k < q → A'.heap[k]? = A.heap[k]?
set_option maxHeartbeats 1000000 in
theorem wpIn_rangeAll {g : Operand} {ps : Array Tmp} {asg body : Code} {Q : Exit → Act → World → Prop} {a : Act} {w : World} (c : Nat) (A0 : Option Addr) (len cap : Nat) (bs : List Int) (R : Res)
    (hg : a.eval g = .func (.func 22) #[] #[.pointer (some ⟨c, 0, none⟩)])
    (hc : w.heap[c]? = some (.cells #[.slice A0 len cap] 24 (0, 0))) (hbl : bs.length = len) (hA : A0 = none → len = 0 ∧ cap = 0) (hL : Lst w w.heap.size A0 (bs.map (Value.int .u8))) (hlen : len ≤ 100000) (hby : ∀ x ∈ bs, 0 ≤ x ∧ x ≤ 255)
    (hR : R = rdF (bs.length + 1) 0 bs) (hps : ps.size = 2)
    (I : Nat → List (List Int × List Int) → World → Prop) (Ix : World → Prop)
    (h0 : ∀ q A, w.heap.size + 2 < q → Below w.heap.size w A → q ≤ A.heap.size → I q [] A)
    (hk : ∀ q p pre A A', w.heap.size ≤ p → p < q → q ≤ A.heap.size → I q pre A → A.grownBy A' (some p) → I q pre A')
    (hxk : ∀ p A A', w.heap.size ≤ p → Ix A → A.grownBy A' (some p) → Ix A')
    (asgA : Nat → Value → Value → Int → Act)
    (hasg : ∀ (l : Nat) (s : ByteArray) (va : Option Addr) (n1 c1 : Nat) (e : Int) (A : World) (K : Act → World → Prop), K (asgA A.heap.size (.string s) (.slice va n1 c1) e) (A.alloc (.cells #[.string s, .slice va n1 c1] 42)) →
      asg.wpIn (Fence.wide.inRound l) 7 Try.prog (Exit.then K (fun _ _ _ => False)) { tmps := (ps.zip #[.agg #[.string s, .slice va n1 c1], .int .i64 e]).foldl (fun t (p, v) => t.setIfInBounds p v) a.tmps, defers := [] } A)
    (hbody : ∀ (l q : Nat) (pre : List (List Int × List Int)) (kd d : List Int) (V : Value) (z : Nat) (A : World), I q pre A → w.heap.size + 2 < q → q ≤ A.heap.size → A.ownsRow q 5 1 V d.length (d.map (Value.int .u8)) → A.heap[z]? = some (.cells #[.string (strOf kd), V] 42 (0, 0)) →
      (pre.length = 100 → R = .bad 4) → pre.length ≤ 100 → body.wpIn (Fence.wide.inRound l) 7 Try.prog (RPost w q A I Ix pre (kd, d)) (asgA z (.string (strOf kd)) V 0) A)
    (herr : ∀ (l q : Nat) (pre : List (List Int × List Int)) (ce : Int) (z : Nat) (A : World), I q pre A → w.heap.size + 2 < q → q ≤ A.heap.size → A.heap[z]? = some (.cells #[.string ⟨#[]⟩, .slice none 0 0] 42 (0, 0)) →
      (ce = 8 ∨ ce = 15) → R = .bad ce → body.wpIn (Fence.wide.inRound l) 7 Try.prog (fun e _ A' => e = .ret ∧ Ix A' ∧ ∀ k, w.heap.size ≤ k → k < q → A'.heap[k]? = A.heap[k]?) (asgA z (.string ⟨#[]⟩) (.slice none 0 0) ce) A)
    (hdone : ∀ q pre A, R = .good pre → I q pre A → w.heap.size + 2 < q → A.heap[w.heap.size]? = some (.deferred (some [])) → Q .normal { a with defers := { target := .collected w.heap.size, args := #[] } :: a.defers } A)
    (hstop : ∀ A, Ix A → A.heap[w.heap.size]? = some (.deferred (some [])) → Code.ret.wpIn Fence.wide 9 Try.prog Q { a with defers := { target := .collected w.heap.size, args := #[] } :: a.defers } A) :
    (Code.rangeFunc g ps asg body).wpIn Fence.wide 9 Try.prog Q a w := by
  refine wpIn_rangeFunc ?_
  intro fn hfn
  obtain ⟨rec, hrec⟩ : ∃ rec : LoopState → Option Code → Loop, rec = fun st pe => { state := st, pending := pe, fn, tmps := a.tmps, params := ps, assign := asg, body, defers := w.heap.size } := ⟨_, rfl⟩
  obtain ⟨W1, hW1⟩ : ∃ W1, (w.alloc (.deferred (some []))).alloc (.loop (rec .ready none)) = W1 := ⟨_, rfl⟩
  have hs1 : W1.heap.size = w.heap.size + 2 := by rw [← hW1]; simp
  have hl1 : W1.heap[w.heap.size + 1]? = some (.loop (rec .ready none)) := by
    rw [← hW1]; have := World.alloc_heap_new (w.alloc (.deferred (some []))) (.loop (rec .ready none)); rwa [World.size_alloc] at this
  have hd1 : W1.heap[w.heap.size]? = some (.deferred (some [])) := by
    rw [← hW1]; exact (Below.heap_alloc _ _ _ (by simp)).trans (World.alloc_heap_new w _)
  have hb1 : Below w.heap.size w W1 := by rw [← hW1]; exact ((Below.refl _ w).alloc (Nat.le_refl _) _).alloc (by simp) _
  have hcl : c < w.heap.size := (Array.getElem?_eq_some_iff.1 hc).1
  have hL1 : Lst W1 W1.heap.size A0 (bs.map (Value.int .u8)) := fun i u hu => by
    obtain ⟨b, o, e, hlt, hcell⟩ := hL i u hu
    exact ⟨b, o, e, by omega, (hb1.cell (p := ⟨b, o + i, none⟩) hlt).trans hcell⟩
  have eg := enters_of (P := Try.prog) Try.func22 (by kernel_rfl) rfl
  refine ⟨w.heap.size + 1, [{ target := .collected w.heap.size, args := #[] }], W1, { target := .fn (.func 22) #[.pointer (some ⟨c, 0, none⟩)], args := #[.func (.yield (w.heap.size + 1)) #[] #[]] }, W1, 22,
    #[.func (.yield (w.heap.size + 1)) #[] #[]] ++ #[.pointer (some ⟨c, 0, none⟩)], W1, ?_, ?_, ?_, ?_, fun _ => by omega, ?_⟩
  · rw [← hW1, hrec]; exact run_enterLoop_outer _ _ _ _ _
  · simp only [resolve, hg]
    simp [go_sem]
  · intro f' _; trivial
  · simp [invoke, go_sem, eg]
  have keep1 : ∀ {A A' : World} {p k : Nat} {o : Obj}, A.grownBy A' (some p) → A.heap[k]? = some o → k ≠ p → A'.heap[k]? = some o := fun hg h hne =>
    (hg.block _ (Array.getElem?_eq_some_iff.1 h).1 (fun e => hne (by cases e; rfl))).trans h
  have busy : ∀ (A : World) (kd V : Value), A.heap[w.heap.size + 1]? = some (.loop (rec .ready none)) → A.heap[w.heap.size]? = some (.deferred (some [])) →
      ∃ A2, (Instr.beginRound (w.heap.size + 1)).run Try.prog (A.alloc (.cells #[kd, V] 42)) = .ok () A2 ∧ A2 = (A.alloc (.cells #[kd, V] 42)).putObj (w.heap.size + 1) (.loop { rec .ready none with state := .busy }) ∧ A2.heap[w.heap.size + 1]? = some (.loop { rec .ready none with state := .busy }) ∧ A2.heap[w.heap.size]? = some (.deferred (some [])) ∧ A2.heap[A.heap.size]? = some (.cells #[kd, V] 42 (0, 0)) ∧
        (A.alloc (.cells #[kd, V] 42)).grownBy A2 (some (w.heap.size + 1)) ∧ A.heap.size ≤ A2.heap.size := fun A kd V hl hd => by
    have hlt := (Array.getElem?_eq_some_iff.1 hl).1
    have hl2 := (Below.heap_alloc A (.cells #[kd, V] 42) _ hlt).trans hl
    have hgp := grownBy_putObj' (A.alloc (.cells #[kd, V] 42)) (w.heap.size + 1) (.loop { rec .ready none with state := .busy })
    refine ⟨_, run_beginRound hl2 (by rw [hrec]), rfl, World.putObj_heap_same (by simp; omega), ?_, ?_, hgp, Nat.le_trans (by rw [World.size_alloc]; omega) hgp.size⟩
    · rw [World.putObj_heap_other (by omega)]
      exact (Below.heap_alloc A _ _ (by omega)).trans hd
    · rw [World.putObj_heap_other (by omega)]
      exact World.alloc_heap_new A _
  refine (all1_in 8 (by omega) (w.heap.size + 1) c A0 len cap bs R
    (fun q pre A => I q pre A ∧ A.heap[w.heap.size + 1]? = some (.loop (rec .ready none)) ∧ A.heap[w.heap.size]? = some (.deferred (some [])))
    (fun A => Ix A ∧ A.heap[w.heap.size + 1]? = some (.loop (rec .done (some .ret))) ∧ A.heap[w.heap.size]? = some (.deferred (some [])))
    W1 ((hb1.block c hcl).trans hc) hbl hA hL1 hlen hby hR ?hst ?hk ?hY ?hE).mono ?hend
  case hst =>
    intro q A hq hb hqA
    rw [hs1] at hq hb
    refine ⟨h0 q A hq (hb1.trans (hb.mono (by omega))) hqA, (hb.block _ (by omega)).trans hl1, (hb.block _ (by omega)).trans hd1⟩
  case hk =>
    rintro q p pre A A' hp hpq hqA ⟨hi, hl, hd⟩ hg
    rw [hs1] at hp
    exact ⟨hk q p pre A A' (by omega) hpq hqA hi hg, keep1 hg hl (by omega), keep1 hg hd (by omega)⟩
  case hY =>
    rintro q pre kd d V A ⟨hi, hl, hd⟩ hq hqA hown h100 hle
    rw [hs1] at hq
    obtain ⟨va, vc, rfl, _⟩ := own_any hown
    have hy := run_yield (P := Try.prog) (args := #[.agg #[.string (strOf kd), .slice va d.length vc], .int .i64 0]) hl (by rw [hrec]; exact hps.symm)
    rw [hrec] at hy
    obtain ⟨A2, hbr, hA2, hl2, hd2, hz2, hg2, hs2⟩ := busy A (.string (strOf kd)) (.slice va d.length vc) hl hd
    have hal : A.grownBy (A.alloc (.cells #[.string (strOf kd), .slice va d.length vc] 42)) (some (w.heap.size + 1)) := World.grownBy_alloc A _ _
    have hg3 := grown_trans hal hg2
    have hi2 := hk q (w.heap.size + 1) pre A A2 (by omega) (by omega) hqA hi hg3
    have ho2 := ownsRow_keep hown hg3.size (fun j hj => hg3.block j (own_lt hown hj).2 (fun e => by have := (own_lt hown hj).1; injection e with e; omega))
    refine ⟨fn, _, asg, body, hy, roundIn_of_wpIn hfn (hasg (w.heap.size + 1) (strOf kd) va d.length vc 0 A _ ⟨A2, hbr, ?_⟩)⟩
    refine wpIn_mono (hbody (w.heap.size + 1) q pre kd d _ A.heap.size A2 hi2 hq (Nat.le_trans hqA hs2) ho2 hz2 h100 hle) ?_
    rintro e a3 A3 ⟨hcase, hs3, hkp⟩
    have hl3 := (hkp _ (by omega) (by omega)).trans hl2
    have hd3 := (hkp _ (by omega) (by omega)).trans hd2
    have hkA : ∀ k, W1.heap.size ≤ k → k < q → A3.heap[k]? = A.heap[k]? := fun k h1 h2 => by
      rw [hkp k (by omega) h2]
      exact hg3.block k (by omega) (fun e => by injection e with e; omega)
    have hfin : ∀ (o : Obj), A.heap.size ≤ (A3.putObj (w.heap.size + 1) o).heap.size ∧ ∀ k, W1.heap.size ≤ k → k < q → (A3.putObj (w.heap.size + 1) o).heap[k]? = A.heap[k]? := fun o =>
      ⟨Nat.le_trans (Nat.le_trans hs2 hs3) (grownBy_putObj' A3 (w.heap.size + 1) o).size, fun k h1 h2 => by
        rw [World.putObj_heap_other (by omega)]; exact hkA k h1 h2⟩
    rcases hcase with ⟨rfl, hi3, hlt⟩ | ⟨rfl, hx3⟩
    · have hr := run_endRound (P := Try.prog) none hl3
      refine ⟨_, _, hr, .inl ⟨rfl, ⟨hk q (w.heap.size + 1) _ A3 _ (by omega) (by omega) (Nat.le_trans (Nat.le_trans hqA hs2) hs3) hi3 (grownBy_putObj' _ _ _), ?_, ?_⟩, hlt⟩, hfin _⟩
      · rw [World.putObj_heap_same (Array.getElem?_eq_some_iff.1 hl3).1, hrec]; rfl
      · rw [World.putObj_heap_other (by omega)]; exact hd3
    · have hr := run_endRound (P := Try.prog) (some .ret) hl3
      refine ⟨_, _, hr, .inr ⟨rfl, hxk (w.heap.size + 1) A3 _ (by omega) hx3 (grownBy_putObj' _ _ _), ?_, ?_⟩, hfin _⟩
      · rw [World.putObj_heap_same (Array.getElem?_eq_some_iff.1 hl3).1, hrec]; rfl
      · rw [World.putObj_heap_other (by omega)]; exact hd3
  case hE =>
    rintro q pre ce A ⟨hi, hl, hd⟩ hq hqA hce hRc
    rw [hs1] at hq
    have hy := run_yield (P := Try.prog) (args := #[.agg #[.string ⟨#[]⟩, .slice none 0 0], .int .i64 ce]) hl (by rw [hrec]; exact hps.symm)
    rw [hrec] at hy
    obtain ⟨A2, hbr, hA2, hl2, hd2, hz2, hg2, hs2⟩ := busy A (.string ⟨#[]⟩) (.slice none 0 0) hl hd
    have hal : A.grownBy (A.alloc (.cells #[.string ⟨#[]⟩, .slice none 0 0] 42)) (some (w.heap.size + 1)) := World.grownBy_alloc A _ _
    have hg3 := grown_trans hal hg2
    have hi2 := hk q (w.heap.size + 1) pre A A2 (by omega) (by omega) hqA hi hg3
    refine ⟨fn, _, asg, body, hy, roundIn_of_wpIn hfn (hasg (w.heap.size + 1) ⟨#[]⟩ none 0 0 ce A _ ⟨A2, hbr, ?_⟩)⟩
    refine wpIn_mono (herr (w.heap.size + 1) q pre ce A.heap.size A2 hi2 hq (Nat.le_trans hqA hs2) hz2 hce hRc) ?_
    rintro e a3 A3 ⟨rfl, hx3, hkp⟩
    have hl3 := (hkp _ (by omega) (by omega)).trans hl2
    have hd3 := (hkp _ (by omega) (by omega)).trans hd2
    have hr := run_endRound (P := Try.prog) (some .ret) hl3
    refine ⟨_, _, hr, rfl, hxk (w.heap.size + 1) A3 _ (by omega) hx3 (grownBy_putObj' _ _ _), ?_, ?_⟩
    · rw [World.putObj_heap_same (Array.getElem?_eq_some_iff.1 hl3).1, hrec]; rfl
    · rw [World.putObj_heap_other (by omega)]; exact hd3
  case hend =>
    rintro e W2 ⟨⟨v, rfl⟩, ⟨q, pre, hRp, ⟨hi, hl, hd⟩, hq, hq2⟩ | ⟨hx, hl, hd⟩⟩
    · rw [hs1] at hq
      have hr : (Instr.endLoop (w.heap.size + 1)).run Try.prog W2 = .ok none (W2.putObj (w.heap.size + 1) (.loop { rec .ready none with state := .exhausted })) := by
        have := run_endLoop (P := Try.prog) hl (by rw [hrec]; simp)
        rw [hrec] at this ⊢
        exact this
      refine ⟨none, _, hr, hdone q pre _ hRp (hk q (w.heap.size + 1) pre W2 _ (by omega) (by omega) hq2 hi (grownBy_putObj' _ _ _)) hq ?_⟩
      rw [World.putObj_heap_other (by omega)]; exact hd
    · have hr : (Instr.endLoop (w.heap.size + 1)).run Try.prog W2 = .ok (some .ret) (W2.putObj (w.heap.size + 1) (.loop { rec .done (some .ret) with state := .exhausted })) := by
        have := run_endLoop (P := Try.prog) hl (by rw [hrec]; simp)
        rw [hrec] at this ⊢
        exact this
      refine ⟨some .ret, _, hr, hstop _ (hxk (w.heap.size + 1) W2 _ (by omega) hx (grownBy_putObj' _ _ _)) ?_⟩
      rw [World.putObj_heap_other (by omega)]; exact hd
end Go.Proofs.Ytfjkfajhfnmjjaa
