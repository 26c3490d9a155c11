/- canvas: as many samples as places (CanvasSamples): mathematics. -/
import Derived.Test.YthcpmonahmogaaaCvK
import Derived.Test.YthcpmonahmogaaaCvCh
import Derived.Test.YthcpmonahmogaaaCvTu
set_option linter.unusedVariables false
set_option linter.unusedSimpArgs false
namespace Go.Proofs.Ythcpmonahmogaaa
open Go.RowKit
set_option maxRecDepth 100000
theorem sa_frame (x y d dx dy : Int) (sg : Bool) (A : Option Addr) (n c : Nat) (hx : 1 ≤ x ∧ x ≤ 20) (hy : 1 ≤ y ∧ y ≤ 20) (hd : 1 ≤ d ∧ d ≤ 16) (hdx : 1 ≤ dx ∧ dx ≤ 4) (hdy : 1 ≤ dy ∧ dy ≤ 4) :
    frameF x y 0 0 [⟨d, sg, dx, dy, A, n, c⟩] 64 64 2 4 4 15 0 0 1 false = 0 := by
  have hg : gridF x y 0 0 = 0 := by unfold gridF; rw [if_neg (by omega), if_neg (by omega)]
  have h1 : ceilF x 64 = 1 := by unfold ceilF; rw [if_pos (by omega)]; omega
  have h2 : ceilF y 64 = 1 := by unfold ceilF; rw [if_pos (by omega)]; omega
  have ht : tilesF x y 0 0 64 64 = 0 := by unfold tilesF; rw [if_neg (by omega), h1, h2, if_neg (by omega)]
  have hc : compB ⟨d, sg, dx, dy, A, n, c⟩ = true := by unfold compB inB; simp; omega
  unfold frameF
  simp [hg, ht, hc]
  decide
theorem sa_bad (x y d dx dy : Int) (sg : Bool) (A : Option Addr) (n c : Nat) (l : List Int) (ds : Nat → List Int) (h : ds 0 = l) :
    firstBad x y 0 0 ds [⟨d, sg, dx, dy, A, n, c⟩] 0 = smpF d.toNat sg n (ceilF 0 dx) (ceilF 0 dy) (ceilF x dx) (ceilF y dy) l := by
  unfold firstBad firstBad sampC
  simp only [h]
  split
  · rename_i h; exact h.symm
  · rfl
theorem sa_zero (b : Int) : ceilF 0 b = 0 := by unfold ceilF; simp
theorem sa_pos (x b : Int) (hx : 1 ≤ x) (hb : 1 ≤ b) : 1 ≤ ceilF x b := by
  have h0 := Int.emod_nonneg x (show b ≠ 0 by omega)
  have h1 := Int.emod_add_mul_ediv x b
  have h2 : 0 ≤ x / b := Int.ediv_nonneg (by omega) (by omega)
  unfold ceilF
  split
  · omega
  · rcases (by omega : x / b = 0 ∨ 1 ≤ x / b) with h | h
    · rw [h] at h1; omega
    · exact h
theorem sa_bds (d : Nat) (sg : Bool) (hd : 1 ≤ d ∧ d ≤ 16) : -65536 ≤ leastF d sg ∧ leastF d sg ≤ 0 ∧ 0 ≤ mostF d sg ∧ mostF d sg ≤ 65536 := by
  have p : ∀ k : Nat, k ≤ 16 → 1 ≤ (2 : Int) ^ k ∧ (2 : Int) ^ k ≤ 65536 := fun k hk => by
    have h1 : ((2 ^ k : Nat) : Int) = (2 : Int) ^ k := by simp
    have h2 : 2 ^ k ≤ 2 ^ 16 := Nat.pow_le_pow_right (by decide) hk
    have h3 : 1 ≤ 2 ^ k := Nat.one_le_two_pow
    have h4 : 2 ^ 16 = 65536 := by decide
    rw [← h1]; omega
  have p1 := p d hd.2
  have p2 := p (d - 1) (by omega)
  unfold leastF mostF
  cases sg
  · simp; omega
  · simp; omega
theorem sa_ceil (x b : Int) (hx : 1 ≤ x) (hb : 1 ≤ b ∧ b ≤ 4) : (x + b - 1).tdiv b = ceilF x b := by
  rw [Int.tdiv_eq_ediv_of_nonneg (by omega)]
  unfold ceilF
  obtain rfl | rfl | rfl | rfl := (by omega : b = 1 ∨ b = 2 ∨ b = 3 ∨ b = 4) <;> split <;> omega
/-- A block of whole numbers. -/
def BlkI (w : World) (b : Nat) (l : List Int) : Prop := ∃ arr : Array Value, w.heap[b]? = some (.cells arr 3 (0, 0)) ∧ arr.toList = l.map (Value.int .i64)
theorem BlkI.lst {w : World} {b : Nat} {l : List Int} (h : BlkI w b l) : Lst w w.heap.size (some ⟨b, 0, none⟩) (l.map (Value.int .i64)) := by
  obtain ⟨arr, h1, h2⟩ := h
  intro i u hu
  refine ⟨b, 0, rfl, (Array.getElem?_eq_some_iff.1 h1).1, ?_⟩
  rw [← h2, Array.getElem?_toList] at hu
  simp [World.cell?, h1, hu]
theorem BlkI.frozen {w : World} {b : Nat} {l : List Int} (h : BlkI w b l) (o : Nat) : w.frozen? ⟨b, o, none⟩ = false := by
  obtain ⟨arr, h1, h2⟩ := h
  simp [World.frozen?, h1]
theorem BlkI.cell {w : World} {b : Nat} {l : List Int} (h : BlkI w b l) {k : Nat} {x : Int} (hk : l[k]? = some x) : w.cell? ⟨b, k, none⟩ = some (.int .i64 x) := by
  obtain ⟨arr, h1, h2⟩ := h
  have : arr[k]? = some (.int .i64 x) := by rw [← Array.getElem?_toList, h2, List.getElem?_map, hk]; rfl
  simp [World.cell?, h1, this]
theorem BlkI.set {w : World} {b : Nat} {l : List Int} (h : BlkI w b l) (k : Nat) (x : Int) : BlkI (w.setCell ⟨b, k, none⟩ (.int .i64 x)) b (l.set k x) := by
  obtain ⟨arr, h1, h2⟩ := h
  refine ⟨arr.setIfInBounds k (.int .i64 x), ?_, ?_⟩
  · simp [World.setCell, Array.getElem?_modify, h1]
  · rw [Array.toList_setIfInBounds, h2, List.map_set]
theorem BlkI.keep {w w' : World} {b : Nat} {l : List Int} (h : BlkI w b l) (hk : w'.heap[b]? = w.heap[b]?) : BlkI w' b l := by
  obtain ⟨arr, h1, h2⟩ := h
  exact ⟨arr, hk.trans h1, h2⟩
theorem blk_made (w : World) (n : Nat) : BlkI (w.alloc (.cells (madeCells #[.int .i64 0] n) 3)) w.heap.size (List.replicate n 0) :=
  ⟨_, World.alloc_heap_new w _, by rw [toList_madeCells_one]; simp⟩
theorem hmkI (u : World) (q : Nat) (hq : q ≤ 5000) : (Instr.makeSlice 27 (.int .i64 (q : Int)) (.int .i64 (q : Int))).run Try.prog u = .ok (.slice (some ⟨u.heap.size, 0, none⟩) q q) (u.alloc (.cells (madeCells #[.int .i64 0] q) 3)) := by
  obtain ⟨i, hi, hzz⟩ := Option.map_eq_some_iff.1 Try.info3
  simp only [Prod.mk.injEq] at hzz
  obtain ⟨hz, hs, hb⟩ := hzz
  have hr := run_make (P := Try.prog) u 27 3 i (.int .i64 0) (by kernel_rfl) hi hz .i64 .i64 q q (by omega) (Int.le_refl _) (by rw [hb]; omega) (by omega)
  simp only [Int.toNat_natCast, hs, Nat.mul_one] at hr
  exact hr
/-- One number more behind a row of whole numbers. -/
theorem app_int {w : World} {base m z : Nat} {x : Int} {v : Value} {xs : List Value} (hown : w.ownsRow base 3 1 v m xs) (hz : w.heap[z]? = some (.cells #[.int .i64 x] 3 (0, 0))) (hb : base ≤ w.heap.size) (hm : m ≤ 100000) :
    ∃ v' w', (appSem #[27, 27] 27 #[v, .slice (some ⟨z, 0, none⟩) 1 1]).run Try.prog w = .ok v' w' ∧ w'.ownsRow base 3 1 v' (m + 1) (xs ++ [.int .i64 x]) ∧ w.grownBy w' v.ownBlock ∧ (v'.ownBlock = v.ownBlock ∨ v'.ownBlock = some w.heap.size) := by
  obtain ⟨i0, hi, hzz⟩ := Option.map_eq_some_iff.1 Try.info3
  simp only [Prod.mk.injEq] at hzz
  obtain ⟨hz0, hz1, hz2⟩ := hzz
  obtain ⟨v', w', hr, hown', hg, _, hat⟩ := run_append_own_at (P := Try.prog) w base 27 27 3 i0 _ 1 8 (by kernel_rfl) hi hz0 hz1 hz2 rfl (by decide) v m xs hown ⟨z, 0, none⟩ 1 1 [.int .i64 x] rfl (fun j u hu => by
    rcases j with _ | j
    · simp at hu; subst hu; simp [World.cell?, Addr.add, hz]
    · simp at hu) (fun u hu => by
    simp at hu
    subst hu; rfl) (by unfold maxLen; omega) (by omega) hb
  exact ⟨v', w', hr, hown', hg, hat⟩
theorem blk_row {w : World} {b n : Nat} {l : List Int} (h : BlkI w b l) (hl : l.length = n) (hn : n ≤ 100000) : w.ownsRow b 3 1 (.slice (some ⟨b, 0, none⟩) n n) n (l.map (Value.int .i64)) := by
  obtain ⟨arr, h1, h2⟩ := h
  have hs : arr.size = n := by have := congrArg List.length h2; simpa [hl] using this
  exact ⟨by simp [hl], .inr ⟨b, n, arr, rfl, Nat.le_refl _, h1, Nat.le_refl _, by unfold maxLen; omega, by omega, by rw [← h2, List.take_of_length_le (by simp; omega)]⟩⟩
/-- What Check says at the end. -/
theorem sa_chk {w : World} {cb n c : Nat} {x y dx dy : Int} {d : Nat} {sg : Bool} {A : Option Addr} {l : List Int} {nx ny : Nat} (hb : w.heap[cb]? = some (.cells #[.int .i64 (d : Int), .bool sg, .int .i64 dx, .int .i64 dy, .slice A n c] 39 (0, 0))) (hL : Lst w w.heap.size A (l.map (Value.int .i64))) (hl : l.length = n)
    (hn : n ≤ 1000) (hx : 1 ≤ x ∧ x ≤ 20) (hy : 1 ≤ y ∧ y ≤ 20) (hd : 1 ≤ d ∧ d ≤ 16) (hdx : 1 ≤ dx ∧ dx ≤ 4) (hdy : 1 ≤ dy ∧ dy ≤ 4) (hnx : ceilF x dx = (nx : Int)) (hny : ceilF y dy = (ny : Int)) :
    Calls Try.prog 12 #[.agg #[.int .i64 x, .int .i64 y, .int .i64 0, .int .i64 0, .slice (some ⟨cb, 0, none⟩) 1 1], .agg #[.int .i64 64, .int .i64 64, .int .i64 2, .int .i64 4, .int .i64 4, .int .i64 15, .int .i64 0, .int .i64 0, .int .i64 1, .bool false, .bool false, .bool false]] w fun e w' =>
      e = .returned (.int .i64 (smpF d sg n 0 0 nx ny l)) ∧ Below w.heap.size w w' := by
  have hC : CompsAt w (some ⟨cb, 0, none⟩) [⟨(d : Int), sg, dx, dy, A, n, c⟩] := by
    intro i cc e
    rcases i with _ | i
    · simp at e
      subst e
      refine ⟨cb, 0, rfl, (Array.getElem?_eq_some_iff.1 hb).1, ?_⟩
      simp [World.cell?, hb]
    · simp at e
  have h := check_any (w := w) (cC := 1) (fun _ => l) x y 0 0 64 64 2 4 4 15 0 0 1 false false false hC (by unfold maxLen; simp) (fun i cc e => by
    rcases i with _ | i
    · simp at e
      subst e
      exact ⟨hL, hl, by simp only; omega⟩
    · simp at e)
  rw [sa_frame x y d dx dy sg A n c hx hy (by omega) hdx hdy, if_pos rfl, sa_bad x y d dx dy sg A n c l _ rfl, sa_zero, sa_zero, hnx, hny, Int.toNat_natCast] at h
  exact h
theorem sa_size {d : Nat} {sg : Bool} {n N nx ny : Nat} {l : List Int} (h : (nx : Int) * ny = (N : Int)) (hn : n ≠ N) : smpF d sg n 0 0 nx ny l = 7 := by
  unfold smpF
  rw [if_neg (by rw [Int.sub_zero, Int.sub_zero, h]; omega)]
theorem sa_in {d : Nat} {sg : Bool} {N nx ny : Nat} {l : List Int} (h : (nx : Int) * ny = (N : Int)) (hl : ∀ x ∈ l, leastF d sg ≤ x ∧ x ≤ mostF d sg) : smpF d sg N 0 0 nx ny l = 0 := by
  unfold smpF
  rw [if_pos (by rw [Int.sub_zero, Int.sub_zero, h]), if_pos]
  rw [List.all_eq_true]
  intro x hx
  have := hl x hx
  simp [inB, this.1, this.2]
theorem sa_out {d : Nat} {sg : Bool} {N nx ny : Nat} {l : List Int} (h : (nx : Int) * ny = (N : Int)) {x : Int} (hx : x ∈ l) (hl : x < leastF d sg ∨ mostF d sg < x) : smpF d sg N 0 0 nx ny l = 11 := by
  unfold smpF
  rw [if_pos (by rw [Int.sub_zero, Int.sub_zero, h]), if_neg]
  rw [List.all_eq_true]
  intro ha
  have := ha x hx
  simp [inB] at this
  omega
/-- The picture, its params, its component in memory. -/
structure SA (w0 w : World) (bm cb : Nat) (x y d dx dy : Int) (sg : Bool) (V : Value) : Prop where
  m : w.heap[bm]? = some (.cells #[.int .i64 x, .int .i64 y, .int .i64 0, .int .i64 0, .slice (some ⟨cb, 0, none⟩) 1 1] 24 (0, 0))
  p : w.heap[bm + 1]? = some (.cells #[.int .i64 64, .int .i64 64, .int .i64 2, .int .i64 4, .int .i64 4, .int .i64 15, .int .i64 0, .int .i64 0, .int .i64 1, .bool false, .bool false, .bool false] 26 (0, 0))
  c : w.heap[cb]? = some (.cells #[.int .i64 d, .bool sg, .int .i64 dx, .int .i64 dy, V] 39 (0, 0))
  bel : Below w0.heap.size w0 w
  bb : w0.heap.size ≤ cb ∧ cb < bm
section
variable {w0 w w' : World} {bm cb : Nat} {x y d dx dy : Int} {sg : Bool} {V : Value}
theorem SA.drewN (h : SA w0 w bm cb x y d dx dy sg V) (n : Nat) : SA w0 (w.drewN n) bm cb x y d dx dy sg V := ⟨h.m, h.p, h.c, below_drewN h.bel n, h.bb⟩
theorem SA.drew (h : SA w0 w bm cb x y d dx dy sg V) : SA w0 w.drew bm cb x y d dx dy sg V := h.drewN 1
theorem SA.lt (h : SA w0 w bm cb x y d dx dy sg V) : bm + 1 < w.heap.size := (Array.getElem?_eq_some_iff.1 h.p).1
theorem SA.alloc (h : SA w0 w bm cb x y d dx dy sg V) (o : Obj) : SA w0 (w.alloc o) bm cb x y d dx dy sg V := by
  have hl := h.lt
  have hb := h.bb
  exact ⟨(Below.heap_alloc _ _ _ (by omega)).trans h.m, (Below.heap_alloc _ _ _ (by omega)).trans h.p, (Below.heap_alloc _ _ _ (by omega)).trans h.c, h.bel.alloc h.bel.size o, h.bb⟩
theorem SA.setV (h : SA w0 w bm cb x y d dx dy sg V) (U : Value) : SA w0 (w.setCell ⟨cb, 4, none⟩ U) bm cb x y d dx dy sg U := by
  have hb := h.bb
  have kp : ∀ k, k ≠ cb → (w.setCell ⟨cb, 4, none⟩ U).heap[k]? = w.heap[k]? := fun k hk => Below.heap_setCell _ _ _ _ (by simpa using hk)
  refine ⟨(kp _ (by omega)).trans h.m, (kp _ (by omega)).trans h.p, ?_, h.bel.setCell (p := ⟨cb, 4, none⟩) hb.1 _, hb⟩
  simp [World.setCell, Array.getElem?_modify, h.c]
theorem SA.setN (h : SA w0 w bm cb x y d dx dy sg V) {nb : Nat} (hn : bm + 1 < nb) (k : Nat) (U : Value) : SA w0 (w.setCell ⟨nb, k, none⟩ U) bm cb x y d dx dy sg V := by
  have hb := h.bb
  have kp : ∀ j, j ≠ nb → (w.setCell ⟨nb, k, none⟩ U).heap[j]? = w.heap[j]? := fun j hk => Below.heap_setCell _ _ _ _ (by simpa using hk)
  exact ⟨(kp _ (by omega)).trans h.m, (kp _ (by omega)).trans h.p, (kp _ (by omega)).trans h.c, h.bel.setCell (p := ⟨nb, k, none⟩) (by show w0.heap.size ≤ nb; omega) _, hb⟩
theorem SA.grown (h : SA w0 w bm cb x y d dx dy sg V) {nb : Nat} (hn : bm + 1 < nb) (hg : w.grownBy w' (some nb)) : SA w0 w' bm cb x y d dx dy sg V := by
  have hl := h.lt
  have hb := h.bb
  exact ⟨(hg.block _ (by omega) (by simp; omega)).trans h.m, (hg.block _ (by omega) (by simp; omega)).trans h.p, (hg.block _ (by omega) (by simp; omega)).trans h.c, h.bel.grown hg h.bel.size (fun k e => by simp at e; omega), hb⟩
theorem SA.cells (h : SA w0 w bm cb x y d dx dy sg V) : w.cell? ⟨cb, 0, none⟩ = some (.int .i64 d) ∧ w.cell? ⟨cb, 1, none⟩ = some (.bool sg) ∧ w.cell? ⟨cb, 2, none⟩ = some (.int .i64 dx) ∧ w.cell? ⟨cb, 3, none⟩ = some (.int .i64 dy) ∧ w.cell? ⟨cb, 4, none⟩ = some V ∧ ∀ o, w.frozen? ⟨cb, o, none⟩ = false := by
  have := h.c
  refine ⟨?_, ?_, ?_, ?_, ?_, ?_⟩ <;> simp [World.cell?, World.frozen?, this]
end
end Go.Proofs.Ythcpmonahmogaaa
