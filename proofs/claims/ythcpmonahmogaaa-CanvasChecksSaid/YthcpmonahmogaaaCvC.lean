/- canvas: cut. -/
import Derived.Test.YthcpmonahmogaaaCvX
import Derived.Test.YthcpmonahmogaaaAnyInv
import Derived.Test.YthcpmonahmogaaaApps
import Derived.RangeFuncNested
import Derived.RangeFuncBound
import Derived.RangeFuncCalls
import Derived.Shelf.RegionOpen
import Derived.Maps.AppendAt
import Derived.Maps.OwnIn
import Derived.IntWalk
set_option linter.unusedVariables false
set_option linter.unusedSimpArgs false
namespace Go.Proofs.Ythcpmonahmogaaa
open Go.RowKit Go.Shelf
attribute [local go_sem] Oper.semAt_some
attribute [local go_sem ↓] appSem_eq
theorem Try.info48 : (Try.prog.info? 48).map (fun i => (i.zero, i.size, i.bytes)) = some (some (.agg #[.int .i64 0, .int .i64 0, .int .i64 0, .int .i64 0]), 4, 32) := by kernel_rfl
/-- What a rectangle has of a cell of the grid. -/
def cellR (r0 r1 r2 r3 wc hc : Int) (p : Int × Int) : Int × Int × Int × Int := (maxJ r0 (p.1 * wc), maxJ r1 (p.2 * hc), minJ r2 ((p.1 + 1) * wc), minJ r3 ((p.2 + 1) * hc))
def recV (r : Int × Int × Int × Int) : List Value := [.int .i64 r.1, .int .i64 r.2.1, .int .i64 r.2.2.1, .int .i64 r.2.2.2]
theorem app_rect {w : World} {base m z : Nat} {v : Value} {xs : List Value} {a b c d : Int} (hown : w.ownsRow base 48 4 v m xs) (hz : w.heap[z]? = some (.cells #[.int .i64 a, .int .i64 b, .int .i64 c, .int .i64 d] 48 (0, 0))) (hb : base ≤ w.heap.size) (hm : m ≤ 100000) :
    ∃ v' w', (appSem #[44, 44] 44 #[v, .slice (some ⟨z, 0, none⟩) 1 1]).run Try.prog w = .ok v' w' ∧ w'.ownsRow base 48 4 v' (m + 1) (xs ++ recV (a, b, c, d)) ∧ w.grownBy w' v.ownBlock ∧ (v'.ownBlock = v.ownBlock ∨ v'.ownBlock = some w.heap.size) := by
  obtain ⟨i0, hi, hzz⟩ := Option.map_eq_some_iff.1 Try.info48
  simp only [Prod.mk.injEq] at hzz
  obtain ⟨hz0, hz1, hz2⟩ := hzz
  obtain ⟨v', w', hr, hown', hg, _, hat⟩ := run_append_own_at (P := Try.prog) w base 44 44 48 i0 _ 4 32 (by kernel_rfl) hi hz0 hz1 hz2 rfl (by decide) v m xs hown ⟨z, 0, none⟩ 1 1 (recV (a, b, c, d)) rfl (fun j u hu => by
    rcases j with _ | _ | _ | _ | j
    · simp [recV] at hu; subst hu; simp [World.cell?, Addr.add, hz]
    · simp [recV] at hu; subst hu; simp [World.cell?, Addr.add, hz]
    · simp [recV] at hu; subst hu; simp [World.cell?, Addr.add, hz]
    · simp [recV] at hu; subst hu; simp [World.cell?, Addr.add, hz]
    · simp [recV] at hu) (fun u hu => by
    simp [recV] at hu
    rcases hu with rfl | rfl | rfl | rfl <;> rfl) (by unfold maxLen; omega) (by omega) hb
  exact ⟨v', w', hr, hown', hg, hat⟩
/-- A place of a rectangle. -/
abbrev Plc (x0 y0 : Int) (wd ht : Nat) := { p : Int × Int // x0 ≤ p.1 ∧ p.1 < x0 + wd ∧ y0 ≤ p.2 ∧ p.2 < y0 + ht }
theorem places_sub (n : Nat) (hn : 3 ≤ n) (b : Nat) (x0 y0 : Int) (wd ht : Nat) (hx : 0 ≤ x0 ∧ x0 + wd ≤ 100000) (hy : 0 ≤ y0 ∧ y0 + ht ≤ 100000) (w : World) (hb : b < w.heap.size)
    (hbx : w.heap[b]? = some (.cells #[.int .i64 x0, .int .i64 y0, .int .i64 (x0 + wd), .int .i64 (y0 + ht)] 48 (0, 0))) :
    SeqStopsK Fence.wide n Try.prog 63 #[.pointer (some ⟨b, 0, none⟩)] (fun x : Plc x0 y0 wd ht => encQ x.1) (KeepB b)
      (fun ys => ys.map (·.1) = plP x0 y0 wd ht) (fun _ => True) (ht * wd) w := fun l J Jx W hW _ _ hY h0 => by
  refine (places1_in n hn l b x0 y0 wd ht hx hy (fun xs W => ∃ ys : List (Plc x0 y0 wd ht), ys.map (·.1) = xs ∧ J ys W) (fun _ W => ∃ ys : List (Plc x0 y0 wd ht), Jx ys W) ?_ W
    ((hW.block b hb).trans hbx) ⟨[], rfl, h0⟩).mono ?_
  · rintro pre x W1 ⟨ys, rfl, hj⟩ hx hlen
    refine (hY ys ⟨x, hx⟩ W1 hj (by simpa using hlen)).mono ?_
    rintro e W' (⟨rfl, hj', hk⟩ | ⟨rfl, hx'⟩)
    · exact .inl ⟨rfl, ⟨_, by simp, hj'⟩, hk⟩
    · exact .inr ⟨rfl, _, hx'⟩
  · rintro e W' ⟨he, ⟨_, rfl, ys, hy, hj⟩ | ⟨_, _, ys, hx⟩⟩
    · exact ⟨he, .inl ⟨ys, hy, hj⟩⟩
    · exact ⟨he, .inr ⟨ys, trivial, hx⟩⟩
theorem keepb_t {b : Nat} {A B C : World} (h : KeepB b A B) (k : KeepB b B C) : KeepB b A C := Eq.trans k h
theorem keepb_b {b N : Nat} (hb : b < N) (W : World) (l : Nat) (o o' : Obj) (hl : N ≤ l) (h : W.heap[l]? = some o) (_ : o.isCells = false) (_ : o.isWalk = false) : KeepB b W (W.putObj l o') :=
  (grownBy_putObj' W l o').block b (by have := (Array.getElem?_eq_some_iff.1 h).1; omega) (by simp; omega)
theorem boxed_own2 {W W' : World} {B : Nat} {cs : Array Value} {t : TypeId} {row : Option Nat} (h : W.heap[B]? = some (.cells cs t (0, 0))) (hg : W.grownBy W' row) (hr : ∀ r, row = some r → ∃ o : Obj, W.heap[r]? = some o ∧ o.isCells = false) : W'.heap[B]? = some (.cells cs t (0, 0)) :=
  (hg.block B (Array.getElem?_eq_some_iff.1 h).1 fun e => by
    obtain ⟨o, ho, hc⟩ := hr B e.symm
    rw [h] at ho; cases ho; cases hc).trans h
theorem row_own2 {W W' : World} {base : Nat} {e : TypeId} {size k : Nat} {v : Value} {xs : List Value} {row : Option Nat} (h : W.ownsRow base e size v k xs) (hg : W.grownBy W' row) (hr : ∀ r, row = some r → ∃ o : Obj, W.heap[r]? = some o ∧ o.isCells = false) : W'.ownsRow base e size v k xs := by
  refine h.kept hg ?_
  rcases h.2 with ⟨rfl, _⟩ | ⟨g, cap, cur, rfl, _, hgb, _⟩
  · exact .inl rfl
  · refine .inr fun e' => ?_
    obtain ⟨o, ho, hc⟩ := hr g (by simpa [Value.ownBlock] using e'.symm)
    rw [hgb] at ho; cases ho; cases hc
theorem own_mono {w : World} {base base' : Nat} {e : TypeId} {size n : Nat} {v : Value} {xs : List Value} (h : w.ownsRow base e size v n xs) (hb : base' ≤ base) : w.ownsRow base' e size v n xs := by
  refine ⟨h.1, ?_⟩
  rcases h.2 with h | ⟨g, cap, cur, hv, hg, r⟩
  · exact Or.inl h
  · exact Or.inr ⟨g, cap, cur, hv, by omega, r⟩
/-- The boxes of cut, in a round. -/
structure Box5 (H N : Nat) (W W' : World) (r0 r1 r2 r3 wc hc : Int) (V : Value) : Prop where
  r : W'.heap[H]? = some (.cells #[.int .i64 r0, .int .i64 r1, .int .i64 r2, .int .i64 r3] 48 (0, 0))
  w : W'.heap[H + 1 + 1]? = some (.cells #[.int .i64 wc] 3 (0, 0))
  h : W'.heap[H + 1 + 1 + 1]? = some (.cells #[.int .i64 hc] 3 (0, 0))
  l : W'.heap[H + 1 + 1 + 1 + 1]? = some (.cells #[V] 44 (0, 0))
  n : N = H + 1 + 1 + 1 + 1 + 1 + 1
  s : N ≤ W'.heap.size
  ko : KeepsOthers W W'
  kb : KeepB (H + 1 + 1 + 1 + 1 + 1) W W'
  bel : Below H W W'
section
variable {H N : Nat} {W W' W2 : World} {r0 r1 r2 r3 wc hc : Int} {V V9 : Value}
theorem Box5.below (h : Box5 H N W W' r0 r1 r2 r3 wc hc V) (hb : Below W'.heap.size W' W2) : Box5 H N W W2 r0 r1 r2 r3 wc hc V := by
  have hs := h.s
  have hn := h.n
  exact ⟨(hb.block _ (by omega)).trans h.r, (hb.block _ (by omega)).trans h.w, (hb.block _ (by omega)).trans h.h, (hb.block _ (by omega)).trans h.l, hn, Nat.le_trans hs hb.size,
    h.ko.trans ⟨hb.size, fun k o hk _ => (hb.block k (Array.getElem?_eq_some_iff.1 hk).1).trans hk⟩, (hb.block _ (by omega)).trans h.kb, h.bel.trans (hb.mono (by omega))⟩
theorem Box5.grown (h : Box5 H N W W' r0 r1 r2 r3 wc hc V) {row : Option Nat} (hg : W'.grownBy W2 row) (hr : ∀ j, row = some j → N ≤ j ∧ ∃ o, W'.heap[j]? = some o ∧ o.isCells = true) : Box5 H N W W2 r0 r1 r2 r3 wc hc V := by
  have hs := h.s
  have hn := h.n
  have kp : ∀ k, k < N → W2.heap[k]? = W'.heap[k]? := fun k hk => hg.block k (by omega) (fun e => by have := (hr k e.symm).1; omega)
  refine ⟨(kp _ (by omega)).trans h.r, (kp _ (by omega)).trans h.w, (kp _ (by omega)).trans h.h, (kp _ (by omega)).trans h.l, hn, Nat.le_trans hs hg.size, h.ko.trans (KeepsOthers.of_grownBy hg fun j o ej hj => ?_), (kp _ (by omega)).trans h.kb, h.bel.trans ((Below.refl H W').grown hg (by omega) fun j ej => by have := (hr j ej).1; omega)⟩
  obtain ⟨_, o2, ho2, hc2⟩ := hr j ej
  rw [hj] at ho2
  cases ho2
  exact hc2
theorem Box5.setl (h : Box5 H N W W' r0 r1 r2 r3 wc hc V) : Box5 H N W (W'.setCell ⟨H + 1 + 1 + 1 + 1, 0, none⟩ V9) r0 r1 r2 r3 wc hc V9 := by
  have hs := h.s
  have hn := h.n
  have kp : ∀ k, k ≠ H + 1 + 1 + 1 + 1 → (W'.setCell ⟨H + 1 + 1 + 1 + 1, 0, none⟩ V9).heap[k]? = W'.heap[k]? := fun k hk => Below.heap_setCell _ _ _ _ (by simpa using hk)
  exact ⟨(kp _ (by omega)).trans h.r, (kp _ (by omega)).trans h.w, (kp _ (by omega)).trans h.h, Boxed.set (t := 44) (v := V) V9 h.l, hn, by simp [World.setCell]; omega, h.ko.trans (KeepsOthers.setCell _ _ _), (kp _ (by omega)).trans h.kb, h.bel.setCell (p := ⟨H + 1 + 1 + 1 + 1, 0, none⟩) (by show H ≤ H + 1 + 1 + 1 + 1; omega) _⟩
theorem row_blk {W : World} {N e size : Nat} {v : Value} {k : Nat} {xs : List Value} (h : W.ownsRow N e size v k xs) : ∀ q, v.ownBlock = some q → N ≤ q ∧ ∃ o, W.heap[q]? = some o ∧ o.isCells = true := fun q hq => by
  have h1 := own_lt h hq
  refine ⟨h1.1, ?_⟩
  rcases h.2 with ⟨rfl, _⟩ | ⟨g, cap, cur, rfl, _, hgb, _⟩
  · cases hq
  · obtain rfl : g = q := by simpa [Value.ownBlock] using hq
    exact ⟨_, hgb, rfl⟩
end
/-- What holds between the rounds. -/
def CutI (H N : Nat) (w W : World) (r0 r1 r2 r3 wc hc : Int) (k : Nat) (xs : List Value) : Prop :=
  ∃ V, W.heap[H]? = some (.cells #[.int .i64 r0, .int .i64 r1, .int .i64 r2, .int .i64 r3] 48 (0, 0)) ∧ W.heap[H + 1 + 1]? = some (.cells #[.int .i64 wc] 3 (0, 0)) ∧ W.heap[H + 1 + 1 + 1]? = some (.cells #[.int .i64 hc] 3 (0, 0)) ∧ W.heap[H + 1 + 1 + 1 + 1]? = some (.cells #[V] 44 (0, 0)) ∧
    W.ownsRow N 48 4 V k xs ∧ N ≤ W.heap.size ∧ Below H w W

set_option maxRecDepth 100000 in
set_option maxHeartbeats 8000000 in
set_option pp.deepTerms true in
set_option pp.maxSteps 10000000 in
theorem cut_any (r0 r1 r2 r3 x0 y0 wc hc : Int) (wd ht : Nat) (w : World) (hx : 0 ≤ x0 ∧ x0 + wd ≤ 1000) (hy : 0 ≤ y0 ∧ y0 + ht ≤ 1000) (hw : 1 ≤ wc ∧ wc ≤ 100000) (hh : 1 ≤ hc ∧ hc ≤ 100000) (hlim : ht * wd ≤ 90000) :
    Calls Try.prog 45 #[.agg #[.int .i64 r0, .int .i64 r1, .int .i64 r2, .int .i64 r3], .agg #[.int .i64 x0, .int .i64 y0, .int .i64 (x0 + wd), .int .i64 (y0 + ht)], .int .i64 wc, .int .i64 hc] w fun e w' => ∃ A c, e = .returned (.slice A (ht * wd) c) ∧
      w'.ownsRow w.heap.size 48 4 (.slice A (ht * wd) c) (ht * wd) ((plP x0 y0 wd ht).flatMap fun p => recV (cellR r0 r1 r2 r3 wc hc p)) ∧ Below w.heap.size w w' := by
  refine callsIn_wide (n := 9) |>.1 ?_
  have hF1 : Fence.wide.fn 61 := trivial
  have hF2 : Fence.wide.fn 59 := trivial
  refine callsIn_of_wp_marks Try.func45 rfl trivial ?_ rfl
  simp only [Try.ntmps45, List.size_toArray, List.length_cons, List.length_nil, Nat.reduceAdd, Nat.reduceSub, Array.replicate_succ, Array.replicate_zero, List.push_toArray, List.append_toArray, List.nil_append, List.cons_append]
  gi_wp2_with (gi_at_call 61; refine (callsIn_wide.2 (places_any _ _ _ _ _)).mono ?_; rintro e w' ⟨rfl, rfl⟩)
  obtain ⟨W6, hW6⟩ : ∃ W6, (((((w.alloc (.cells #[.int .i64 r0, .int .i64 r1, .int .i64 r2, .int .i64 r3] 48)).alloc (.cells #[.int .i64 x0, .int .i64 y0, .int .i64 (x0 + wd), .int .i64 (y0 + ht)] 48)).alloc (.cells #[.int .i64 wc] 3)).alloc (.cells #[.int .i64 hc] 3)).alloc (.cells #[.slice none 0 0] 44)).alloc (.cells #[.int .i64 x0, .int .i64 y0, .int .i64 (x0 + wd), .int .i64 (y0 + ht)] 48) = W6 := ⟨_, rfl⟩
  have hB6 : Below w.heap.size w W6 := by rw [← hW6]; exact (((((((Below.refl _ w).alloc (Nat.le_refl _) _).alloc (by simp) _).alloc (by simp; omega) _).alloc (by simp; omega) _).alloc (by simp; omega) _).alloc (by simp; omega) _)
  have hz6 : W6.heap.size = w.heap.size + 1 + 1 + 1 + 1 + 1 + 1 := by rw [← hW6]; simp
  have kk : ∀ (V : World) (o : Obj) (k : Nat), k < V.heap.size → (V.alloc o).heap[k]? = V.heap[k]? := fun V o k hk => Below.heap_alloc V o k hk
  have nn : ∀ (V : World) (o : Obj) (k : Nat), V.heap.size = k → (V.alloc o).heap[k]? = some o := fun V o k hk => by rw [← hk]; exact World.alloc_heap_new V o
  have q0 : W6.heap[w.heap.size]? = some (.cells #[.int .i64 r0, .int .i64 r1, .int .i64 r2, .int .i64 r3] 48 (0, 0)) := by rw [← hW6, kk _ _ _ (by simp <;> omega), kk _ _ _ (by simp <;> omega), kk _ _ _ (by simp <;> omega), kk _ _ _ (by simp <;> omega), kk _ _ _ (by simp)]; exact World.alloc_heap_new w _
  have q2 : W6.heap[w.heap.size + 1 + 1]? = some (.cells #[.int .i64 wc] 3 (0, 0)) := by rw [← hW6, kk _ _ _ (by simp <;> omega), kk _ _ _ (by simp <;> omega), kk _ _ _ (by simp <;> omega)]; exact nn _ _ _ (by simp)
  have q3 : W6.heap[w.heap.size + 1 + 1 + 1]? = some (.cells #[.int .i64 hc] 3 (0, 0)) := by rw [← hW6, kk _ _ _ (by simp <;> omega), kk _ _ _ (by simp <;> omega)]; exact nn _ _ _ (by simp)
  have q4 : W6.heap[w.heap.size + 1 + 1 + 1 + 1]? = some (.cells #[.slice none 0 0] 44 (0, 0)) := by rw [← hW6, kk _ _ _ (by simp)]; exact nn _ _ _ (by simp)
  have q5 : W6.heap[w.heap.size + 1 + 1 + 1 + 1 + 1]? = some (.cells #[.int .i64 x0, .int .i64 y0, .int .i64 (x0 + wd), .int .i64 (y0 + ht)] 48 (0, 0)) := by rw [← hW6]; exact nn _ _ _ (by simp)
  rw [hW6]
  clear hW6 kk nn
  have hF : Fence.wide.fn 63 := trivial
  refine wpIn_rangeFunc_ownF rfl (by omega) (gf := 63) (lb := #[.pointer (some ⟨w.heap.size + 1 + 1 + 1 + 1 + 1, 0, none⟩)]) rfl hF (enters_of Try.func63 (by kernel_rfl) rfl)
    (places_sub (9 - 1) (by omega) (w.heap.size + 1 + 1 + 1 + 1 + 1) x0 y0 wd ht (by omega) (by omega) W6 (by omega) q5) keepb_t (keepb_b (by omega)) (Below.refl _ _) (fun _ => rfl)
    (fun (pre : List (Plc x0 y0 wd ht)) W => CutI w.heap.size W6.heap.size w W r0 r1 r2 r3 wc hc pre.length (pre.flatMap fun x => recV (cellR r0 r1 r2 r3 wc hc x.1)))
    (fun _ _ _ => False)
    ?hI
    (fun _ _ _ _ _ hs _ _ => hs)
    ?h0
    (fun x => { tmps := #[.agg #[.int .i64 r0, .int .i64 r1, .int .i64 r2, .int .i64 r3], .agg #[.int .i64 x0, .int .i64 y0, .int .i64 (x0 + wd), .int .i64 (y0 + ht)], .int .i64 wc, .int .i64 hc, .pointer (some ⟨w.heap.size, 0, none⟩), .pointer (some ⟨w.heap.size + 1, 0, none⟩), .pointer (some ⟨w.heap.size + 1 + 1, 0, none⟩), .pointer (some ⟨w.heap.size + 1 + 1 + 1, 0, none⟩), .slice none 0 0, .pointer (some ⟨w.heap.size + 1 + 1 + 1 + 1, 0, none⟩), .int .i64 x.1.1, .int .i64 x.1.2, .agg #[.int .i64 x0, .int .i64 y0, .int .i64 (x0 + wd), .int .i64 (y0 + ht)], .func (.func 63) #[] #[.pointer (some ⟨w.heap.size + 1 + 1 + 1 + 1 + 1, 0, none⟩)], .int .i64 x.1.1, .int .i64 x.1.2, undef, undef, undef, undef, undef, undef, undef, undef, undef, undef, undef, undef, undef, undef, undef, undef, undef, undef, undef, undef, undef], defers := [] }) ?assign ?body ?done ?stop
  case hI =>
    rintro pre A B row ⟨V, h1, h2, h3, h4, h5, h6, h7⟩ hg hr
    have hr' := fun r e => (hr r e).2
    exact ⟨V, boxed_own2 h1 hg hr', boxed_own2 h2 hg hr', boxed_own2 h3 hg hr', boxed_own2 h4 hg hr', row_own2 h5 hg hr', Nat.le_trans h6 hg.size, h7.grown hg (by have := h7.size; omega) (fun k e => by have := (hr k e).1; omega)⟩
  case h0 =>
    exact ⟨_, q0, q2, q3, q4, World.ownsRow_nil _ _ _ _, Nat.le_refl _, hB6⟩
  case assign =>
    intro l x W K hK
    gi_wp2
    exact hK
  case body =>
    rintro lr pre x W ⟨V, h1, h2, h3, h4, h5, h6, h7⟩ hlt
    obtain ⟨⟨i, j⟩, hi1, hi2, hj1, hj2⟩ := x
    simp only at hi1 hi2 hj1 hj2
    have hlt1 : pre.length < 100000 := by omega
    have hmul : ∀ a b : Int, 0 ≤ a → a ≤ 2000 → 1 ≤ b → b ≤ 100000 → IntKind.i64.wrap (a * b) = a * b := fun a b ha ha2 hb hb2 => by
      have p0 : 0 ≤ a * b := Int.mul_nonneg ha (by omega)
      have p1 : a * b ≤ 2000 * 100000 := Int.mul_le_mul ha2 hb2 (by omega) (by omega)
      exact IntWalk.i64_in _ (by omega)
    have s4 := hmul i wc (by omega) (by omega) hw.1 hw.2
    have s7 := hmul j hc (by omega) (by omega) hh.1 hh.2
    have s11 := hmul (i + 1) wc (by omega) (by omega) hw.1 hw.2
    have s15 := hmul (j + 1) hc (by omega) (by omega) hh.1 hh.2
    have s9 : IntKind.i64.wrap (i + 1) = i + 1 := IntWalk.i64_in _ (by omega)
    have s13 : IntKind.i64.wrap (j + 1) = j + 1 := IntWalk.i64_in _ (by omega)
    obtain ⟨N, hNe⟩ : ∃ N, W6.heap.size = N := ⟨_, rfl⟩
    rw [hNe] at h5 h6 hz6
    have HNE := Lib.hid hNe
    have HX0 : Hid (Box5 w.heap.size N W W.drew r0 r1 r2 r3 wc hc V ∧ W.drew.ownsRow N 48 4 V pre.length (pre.flatMap fun x => recV (cellR r0 r1 r2 r3 wc hc x.1))) := Lib.hid ⟨⟨h1, h2, h3, h4, hz6, h6, KeepsOthers.drew W, rfl, below_drewN (Below.refl _ _) 1⟩, h5⟩
    have H7 := Lib.hid h7
    have e9 : cellR r0 r1 r2 r3 wc hc (i, j) = (maxJ r0 (i * wc), maxJ r1 (j * hc), minJ r2 ((i + 1) * wc), minJ r3 ((j + 1) * hc)) := rfl
    have HE9 := Lib.hid e9
    obtain ⟨a0, ha0⟩ : ∃ a0, maxJ r0 (i * wc) = a0 := ⟨_, rfl⟩
    obtain ⟨a1, ha1⟩ : ∃ a1, maxJ r1 (j * hc) = a1 := ⟨_, rfl⟩
    obtain ⟨a2, ha2⟩ : ∃ a2, minJ r2 ((i + 1) * wc) = a2 := ⟨_, rfl⟩
    obtain ⟨a3, ha3⟩ : ∃ a3, minJ r3 ((j + 1) * hc) = a3 := ⟨_, rfl⟩
    have CX := Lib.hid (fun u => cross_any r0 r1 r2 r3 (i * wc) (j * hc) ((i + 1) * wc) ((j + 1) * hc) u)
    rw [ha0, ha1, ha2, ha3] at CX HE9
    obtain ⟨xs, hxs⟩ : ∃ xs, (pre.flatMap fun x => recV (cellR r0 r1 r2 r3 wc hc x.1)) = xs := ⟨_, rfl⟩
    obtain ⟨kl, hkl⟩ : ∃ kl, pre.length = kl := ⟨_, rfl⟩
    rw [hxs, hkl] at HX0
    rw [hkl] at hlt1
    have HXS := Lib.hid hxs
    have HKL := Lib.hid hkl
    clear hmul h1 h2 h3 h4 h5 h6 h7 hNe e9 ha0 ha1 ha2 ha3 q0 q2 q3 q4 q5 hB6 hlt hxs hkl
    obtain ⟨m4, hm4⟩ : ∃ m4, i * wc = m4 := ⟨_, rfl⟩
    obtain ⟨m7, hm7⟩ : ∃ m7, j * hc = m7 := ⟨_, rfl⟩
    obtain ⟨m11, hm11⟩ : ∃ m11, (i + 1) * wc = m11 := ⟨_, rfl⟩
    obtain ⟨m15, hm15⟩ : ∃ m15, (j + 1) * hc = m15 := ⟨_, rfl⟩
    rw [hm4] at s4 CX
    rw [hm7] at s7 CX
    rw [hm11] at s11 CX
    rw [hm15] at s15 CX
    have s4' : IntKind.i64.wrap (i * wc) = m4 := by rw [hm4]; exact s4
    have s7' : IntKind.i64.wrap (j * hc) = m7 := by rw [hm7]; exact s7
    have s11' : IntKind.i64.wrap ((i + 1) * wc) = m11 := by rw [hm11]; exact s11
    have s15' : IntKind.i64.wrap ((j + 1) * hc) = m15 := by rw [hm15]; exact s15
    clear s4 s7 s11 s15 hm4 hm7 hm11 hm15
    gi_wp2_with fail
    refine (regionIn_inv (w := W) (Inv := fun L a' w' => ∃ (z : Nat) (A9 : Option Addr) (c9 : Nat), a' = { tmps := #[.agg #[.int .i64 r0, .int .i64 r1, .int .i64 r2, .int .i64 r3], .agg #[.int .i64 x0, .int .i64 y0, .int .i64 (x0 + wd), .int .i64 (y0 + ht)], .int .i64 wc, .int .i64 hc, .pointer (some ⟨w.heap.size, 0, none⟩), .pointer (some ⟨w.heap.size + 1, 0, none⟩), .pointer (some ⟨w.heap.size + 1 + 1, 0, none⟩), .pointer (some ⟨w.heap.size + 1 + 1 + 1, 0, none⟩), .slice none 0 0, .pointer (some ⟨w.heap.size + 1 + 1 + 1 + 1, 0, none⟩), .int .i64 i, .int .i64 j, .agg #[.int .i64 x0, .int .i64 y0, .int .i64 (x0 + wd), .int .i64 (y0 + ht)], .func (.func 63) #[] #[.pointer (some ⟨w.heap.size + 1 + 1 + 1 + 1 + 1, 0, none⟩)], .int .i64 i, .int .i64 j, bif L 0 then V else undef, bif L 1 then .agg #[.int .i64 r0, .int .i64 r1, .int .i64 r2, .int .i64 r3] else undef, bif L 2 then .int .i64 i else undef, bif L 3 then .int .i64 wc else undef, bif L 4 then .int .i64 m4 else undef, bif L 5 then .int .i64 j else undef, bif L 6 then .int .i64 hc else undef, bif L 7 then .int .i64 m7 else undef, bif L 8 then .int .i64 i else undef, bif L 9 then .int .i64 (i + 1) else undef, bif L 10 then .int .i64 wc else undef, bif L 11 then .int .i64 m11 else undef, bif L 12 then .int .i64 j else undef, bif L 13 then .int .i64 (j + 1) else undef, bif L 14 then .int .i64 hc else undef, bif L 15 then .int .i64 m15 else undef, bif L 16 then .agg #[.int .i64 m4, .int .i64 m7, .int .i64 m11, .int .i64 m15] else undef, bif L 17 then .agg #[.int .i64 a0, .int .i64 a1, .int .i64 a2, .int .i64 a3] else undef, bif L 18 then .slice (some ⟨z, 0, none⟩) 1 1 else undef, bif L 19 then .slice A9 (kl + 1) c9 else undef, undef], defers := [] } ∧ (bif L 20 then ((Box5 w.heap.size N W w' r0 r1 r2 r3 wc hc (.slice A9 (kl + 1) c9) ∧ w'.ownsRow N 48 4 (.slice A9 (kl + 1) c9) (kl + 1) (xs ++ recV (a0, a1, a2, a3)))) else (bif L 19 then ((Box5 w.heap.size N W w' r0 r1 r2 r3 wc hc V ∧ w'.ownsRow N 48 4 (.slice A9 (kl + 1) c9) (kl + 1) (xs ++ recV (a0, a1, a2, a3)))) else (bif L 18 then ((Box5 w.heap.size N W w' r0 r1 r2 r3 wc hc V ∧ w'.ownsRow N 48 4 V kl xs ∧ w'.heap[z]? = some (.cells #[.int .i64 a0, .int .i64 a1, .int .i64 a2, .int .i64 a3] 48 (0, 0)))) else (Box5 w.heap.size N W w' r0 r1 r2 r3 wc hc V ∧ w'.ownsRow N 48 4 V kl xs))))) (by kernel_rfl) (by kernel_rfl) ?startq ?stepq ?finq)
    case startq => exact ⟨0, none, 0, rfl, HX0.out⟩
    case stepq =>
      intro i hi L a' w' hI hs hu
      obtain ⟨z, A9, c9, rfl, hph⟩ := hI
      have hL := hu.1
      have hi : i < 21 := hi
      obtain rfl | rfl | rfl | rfl | rfl | rfl | rfl | rfl | rfl | rfl | rfl | rfl | rfl | rfl | rfl | rfl | rfl | rfl | rfl | rfl | rfl := (by omega : i = 0 ∨ i = 1 ∨ i = 2 ∨ i = 3 ∨ i = 4 ∨ i = 5 ∨ i = 6 ∨ i = 7 ∨ i = 8 ∨ i = 9 ∨ i = 10 ∨ i = 11 ∨ i = 12 ∨ i = 13 ∨ i = 14 ∨ i = 15 ∨ i = 16 ∨ i = 17 ∨ i = 18 ∨ i = 19 ∨ i = 20)
      · skip
        have n19 : L 19 = false := not_yet hL fun h => shut_at hs 19 0 (by kernel_rfl) (h)
        have n20 : L 20 = false := not_yet hL fun h => shut_at hs 20 0 (by kernel_rfl) (h)
        simp only [n19, n20, hL, cond_true, cond_false] at hph
        have hb1 : Box5 w.heap.size N W w' r0 r1 r2 r3 wc hc V := by cases h18 : L 18 <;> simp only [h18, cond_true, cond_false] at hph <;> exact hph.1
        have k0 : w'.cell? ⟨w.heap.size + 1 + 1 + 1 + 1, 0, none⟩ = some V := by simp [World.cell?, hb1.l]
        refine opIn_run (v := V) (w' := w') rfl rfl (fun c h => by cases h) (fun _ => trivial) ?_ ⟨z, A9, c9, by simp [Act.put, upd, n19, n20, hL], by simp only [upd, n19, n20, hL]; exact hph⟩
        simp only [n19, n20, hL, cond_true, cond_false]
        go_simp
      · skip
        have n18 : L 18 = false := not_yet hL fun h => shut_at hs 17 1 (by kernel_rfl) (shut_at hs 18 17 (by kernel_rfl) (h))
        have n19 : L 19 = false := not_yet hL fun h => shut_at hs 17 1 (by kernel_rfl) (shut_at hs 19 17 (by kernel_rfl) (h))
        have n20 : L 20 = false := not_yet hL fun h => shut_at hs 20 1 (by kernel_rfl) (h)
        simp only [n18, n19, n20, hL, cond_true, cond_false] at hph
        obtain ⟨k0, k1, k2, k3⟩ := rc_cells hph.1.r
        refine opIn_run (v := .agg #[.int .i64 r0, .int .i64 r1, .int .i64 r2, .int .i64 r3]) (w' := w') rfl rfl (fun c h => by cases h) (fun _ => trivial) ?_ ⟨z, A9, c9, by simp [Act.put, upd, n18, n19, n20, hL], by simp only [upd, n18, n19, n20, hL]; exact hph⟩
        simp only [n18, n19, n20, hL, cond_true, cond_false]
        go_simp
      · skip
        have n18 : L 18 = false := not_yet hL fun h => shut_at hs 4 2 (by kernel_rfl) (shut_at hs 16 4 (by kernel_rfl) (shut_at hs 17 16 (by kernel_rfl) (shut_at hs 18 17 (by kernel_rfl) (h))))
        have n19 : L 19 = false := not_yet hL fun h => shut_at hs 4 2 (by kernel_rfl) (shut_at hs 16 4 (by kernel_rfl) (shut_at hs 17 16 (by kernel_rfl) (shut_at hs 19 17 (by kernel_rfl) (h))))
        have n20 : L 20 = false := not_yet hL fun h => shut_at hs 20 2 (by kernel_rfl) (h)
        refine opIn_run (v := .int .i64 i) (w' := w') rfl rfl (fun c h => by cases h) (fun _ => trivial) ?_ ⟨z, A9, c9, by simp [Act.put, upd, n18, n19, n20, hL], by simpa [upd] using hph⟩
        simp only [n18, n19, n20, hL, cond_true, cond_false]
        go_simp
      · skip
        have n18 : L 18 = false := not_yet hL fun h => shut_at hs 4 3 (by kernel_rfl) (shut_at hs 16 4 (by kernel_rfl) (shut_at hs 17 16 (by kernel_rfl) (shut_at hs 18 17 (by kernel_rfl) (h))))
        have n19 : L 19 = false := not_yet hL fun h => shut_at hs 4 3 (by kernel_rfl) (shut_at hs 16 4 (by kernel_rfl) (shut_at hs 17 16 (by kernel_rfl) (shut_at hs 19 17 (by kernel_rfl) (h))))
        have n20 : L 20 = false := not_yet hL fun h => shut_at hs 20 3 (by kernel_rfl) (h)
        simp only [n18, n19, n20, hL, cond_true, cond_false] at hph
        have k0 : w'.cell? ⟨w.heap.size + 1 + 1, 0, none⟩ = some (.int .i64 wc) := by simp [World.cell?, hph.1.w]
        refine opIn_run (v := .int .i64 wc) (w' := w') rfl rfl (fun c h => by cases h) (fun _ => trivial) ?_ ⟨z, A9, c9, by simp [Act.put, upd, n18, n19, n20, hL], by simp only [upd, n18, n19, n20, hL]; exact hph⟩
        simp only [n18, n19, n20, hL, cond_true, cond_false]
        go_simp
      · skip
        have y2 : L 2 = true := up_at hu 2 (by kernel_rfl)
        have y3 : L 3 = true := up_at hu 3 (by kernel_rfl)
        have n18 : L 18 = false := not_yet hL fun h => shut_at hs 16 4 (by kernel_rfl) (shut_at hs 17 16 (by kernel_rfl) (shut_at hs 18 17 (by kernel_rfl) (h)))
        have n19 : L 19 = false := not_yet hL fun h => shut_at hs 16 4 (by kernel_rfl) (shut_at hs 17 16 (by kernel_rfl) (shut_at hs 19 17 (by kernel_rfl) (h)))
        have n20 : L 20 = false := not_yet hL fun h => shut_at hs 20 4 (by kernel_rfl) (h)
        refine opIn_run (v := .int .i64 m4) (w' := w') rfl rfl (fun c h => by cases h) (fun _ => trivial) ?_ ⟨z, A9, c9, by simp [Act.put, upd, y2, y3, n18, n19, n20, hL], by simpa [upd] using hph⟩
        simp only [y2, y3, n18, n19, n20, hL, cond_true, cond_false]
        go_simp
      · skip
        have n18 : L 18 = false := not_yet hL fun h => shut_at hs 7 5 (by kernel_rfl) (shut_at hs 16 7 (by kernel_rfl) (shut_at hs 17 16 (by kernel_rfl) (shut_at hs 18 17 (by kernel_rfl) (h))))
        have n19 : L 19 = false := not_yet hL fun h => shut_at hs 7 5 (by kernel_rfl) (shut_at hs 16 7 (by kernel_rfl) (shut_at hs 17 16 (by kernel_rfl) (shut_at hs 19 17 (by kernel_rfl) (h))))
        have n20 : L 20 = false := not_yet hL fun h => shut_at hs 20 5 (by kernel_rfl) (h)
        refine opIn_run (v := .int .i64 j) (w' := w') rfl rfl (fun c h => by cases h) (fun _ => trivial) ?_ ⟨z, A9, c9, by simp [Act.put, upd, n18, n19, n20, hL], by simpa [upd] using hph⟩
        simp only [n18, n19, n20, hL, cond_true, cond_false]
        go_simp
      · skip
        have n18 : L 18 = false := not_yet hL fun h => shut_at hs 7 6 (by kernel_rfl) (shut_at hs 16 7 (by kernel_rfl) (shut_at hs 17 16 (by kernel_rfl) (shut_at hs 18 17 (by kernel_rfl) (h))))
        have n19 : L 19 = false := not_yet hL fun h => shut_at hs 7 6 (by kernel_rfl) (shut_at hs 16 7 (by kernel_rfl) (shut_at hs 17 16 (by kernel_rfl) (shut_at hs 19 17 (by kernel_rfl) (h))))
        have n20 : L 20 = false := not_yet hL fun h => shut_at hs 20 6 (by kernel_rfl) (h)
        simp only [n18, n19, n20, hL, cond_true, cond_false] at hph
        have k0 : w'.cell? ⟨w.heap.size + 1 + 1 + 1, 0, none⟩ = some (.int .i64 hc) := by simp [World.cell?, hph.1.h]
        refine opIn_run (v := .int .i64 hc) (w' := w') rfl rfl (fun c h => by cases h) (fun _ => trivial) ?_ ⟨z, A9, c9, by simp [Act.put, upd, n18, n19, n20, hL], by simp only [upd, n18, n19, n20, hL]; exact hph⟩
        simp only [n18, n19, n20, hL, cond_true, cond_false]
        go_simp
      · skip
        have y5 : L 5 = true := up_at hu 5 (by kernel_rfl)
        have y6 : L 6 = true := up_at hu 6 (by kernel_rfl)
        have n18 : L 18 = false := not_yet hL fun h => shut_at hs 16 7 (by kernel_rfl) (shut_at hs 17 16 (by kernel_rfl) (shut_at hs 18 17 (by kernel_rfl) (h)))
        have n19 : L 19 = false := not_yet hL fun h => shut_at hs 16 7 (by kernel_rfl) (shut_at hs 17 16 (by kernel_rfl) (shut_at hs 19 17 (by kernel_rfl) (h)))
        have n20 : L 20 = false := not_yet hL fun h => shut_at hs 20 7 (by kernel_rfl) (h)
        refine opIn_run (v := .int .i64 m7) (w' := w') rfl rfl (fun c h => by cases h) (fun _ => trivial) ?_ ⟨z, A9, c9, by simp [Act.put, upd, y5, y6, n18, n19, n20, hL], by simpa [upd] using hph⟩
        simp only [y5, y6, n18, n19, n20, hL, cond_true, cond_false]
        go_simp
      · skip
        have n18 : L 18 = false := not_yet hL fun h => shut_at hs 9 8 (by kernel_rfl) (shut_at hs 11 9 (by kernel_rfl) (shut_at hs 16 11 (by kernel_rfl) (shut_at hs 17 16 (by kernel_rfl) (shut_at hs 18 17 (by kernel_rfl) (h)))))
        have n19 : L 19 = false := not_yet hL fun h => shut_at hs 9 8 (by kernel_rfl) (shut_at hs 11 9 (by kernel_rfl) (shut_at hs 16 11 (by kernel_rfl) (shut_at hs 17 16 (by kernel_rfl) (shut_at hs 19 17 (by kernel_rfl) (h)))))
        have n20 : L 20 = false := not_yet hL fun h => shut_at hs 20 8 (by kernel_rfl) (h)
        refine opIn_run (v := .int .i64 i) (w' := w') rfl rfl (fun c h => by cases h) (fun _ => trivial) ?_ ⟨z, A9, c9, by simp [Act.put, upd, n18, n19, n20, hL], by simpa [upd] using hph⟩
        simp only [n18, n19, n20, hL, cond_true, cond_false]
        go_simp
      · skip
        have y8 : L 8 = true := up_at hu 8 (by kernel_rfl)
        have n18 : L 18 = false := not_yet hL fun h => shut_at hs 11 9 (by kernel_rfl) (shut_at hs 16 11 (by kernel_rfl) (shut_at hs 17 16 (by kernel_rfl) (shut_at hs 18 17 (by kernel_rfl) (h))))
        have n19 : L 19 = false := not_yet hL fun h => shut_at hs 11 9 (by kernel_rfl) (shut_at hs 16 11 (by kernel_rfl) (shut_at hs 17 16 (by kernel_rfl) (shut_at hs 19 17 (by kernel_rfl) (h))))
        have n20 : L 20 = false := not_yet hL fun h => shut_at hs 20 9 (by kernel_rfl) (h)
        refine opIn_run (v := .int .i64 (i + 1)) (w' := w') rfl rfl (fun c h => by cases h) (fun _ => trivial) ?_ ⟨z, A9, c9, by simp [Act.put, upd, y8, n18, n19, n20, hL], by simpa [upd] using hph⟩
        simp only [y8, n18, n19, n20, hL, cond_true, cond_false]
        go_simp
      · skip
        have n18 : L 18 = false := not_yet hL fun h => shut_at hs 11 10 (by kernel_rfl) (shut_at hs 16 11 (by kernel_rfl) (shut_at hs 17 16 (by kernel_rfl) (shut_at hs 18 17 (by kernel_rfl) (h))))
        have n19 : L 19 = false := not_yet hL fun h => shut_at hs 11 10 (by kernel_rfl) (shut_at hs 16 11 (by kernel_rfl) (shut_at hs 17 16 (by kernel_rfl) (shut_at hs 19 17 (by kernel_rfl) (h))))
        have n20 : L 20 = false := not_yet hL fun h => shut_at hs 20 10 (by kernel_rfl) (h)
        simp only [n18, n19, n20, hL, cond_true, cond_false] at hph
        have k0 : w'.cell? ⟨w.heap.size + 1 + 1, 0, none⟩ = some (.int .i64 wc) := by simp [World.cell?, hph.1.w]
        refine opIn_run (v := .int .i64 wc) (w' := w') rfl rfl (fun c h => by cases h) (fun _ => trivial) ?_ ⟨z, A9, c9, by simp [Act.put, upd, n18, n19, n20, hL], by simp only [upd, n18, n19, n20, hL]; exact hph⟩
        simp only [n18, n19, n20, hL, cond_true, cond_false]
        go_simp
      · skip
        have y8 : L 8 = true := shut_at hs 9 8 (by kernel_rfl) (up_at hu 9 (by kernel_rfl))
        have y9 : L 9 = true := up_at hu 9 (by kernel_rfl)
        have y10 : L 10 = true := up_at hu 10 (by kernel_rfl)
        have n18 : L 18 = false := not_yet hL fun h => shut_at hs 16 11 (by kernel_rfl) (shut_at hs 17 16 (by kernel_rfl) (shut_at hs 18 17 (by kernel_rfl) (h)))
        have n19 : L 19 = false := not_yet hL fun h => shut_at hs 16 11 (by kernel_rfl) (shut_at hs 17 16 (by kernel_rfl) (shut_at hs 19 17 (by kernel_rfl) (h)))
        have n20 : L 20 = false := not_yet hL fun h => shut_at hs 20 11 (by kernel_rfl) (h)
        refine opIn_run (v := .int .i64 m11) (w' := w') rfl rfl (fun c h => by cases h) (fun _ => trivial) ?_ ⟨z, A9, c9, by simp [Act.put, upd, y8, y9, y10, n18, n19, n20, hL], by simpa [upd] using hph⟩
        simp only [y8, y9, y10, n18, n19, n20, hL, cond_true, cond_false]
        go_simp
      · skip
        have n18 : L 18 = false := not_yet hL fun h => shut_at hs 13 12 (by kernel_rfl) (shut_at hs 15 13 (by kernel_rfl) (shut_at hs 16 15 (by kernel_rfl) (shut_at hs 17 16 (by kernel_rfl) (shut_at hs 18 17 (by kernel_rfl) (h)))))
        have n19 : L 19 = false := not_yet hL fun h => shut_at hs 13 12 (by kernel_rfl) (shut_at hs 15 13 (by kernel_rfl) (shut_at hs 16 15 (by kernel_rfl) (shut_at hs 17 16 (by kernel_rfl) (shut_at hs 19 17 (by kernel_rfl) (h)))))
        have n20 : L 20 = false := not_yet hL fun h => shut_at hs 20 12 (by kernel_rfl) (h)
        refine opIn_run (v := .int .i64 j) (w' := w') rfl rfl (fun c h => by cases h) (fun _ => trivial) ?_ ⟨z, A9, c9, by simp [Act.put, upd, n18, n19, n20, hL], by simpa [upd] using hph⟩
        simp only [n18, n19, n20, hL, cond_true, cond_false]
        go_simp
      · skip
        have y12 : L 12 = true := up_at hu 12 (by kernel_rfl)
        have n18 : L 18 = false := not_yet hL fun h => shut_at hs 15 13 (by kernel_rfl) (shut_at hs 16 15 (by kernel_rfl) (shut_at hs 17 16 (by kernel_rfl) (shut_at hs 18 17 (by kernel_rfl) (h))))
        have n19 : L 19 = false := not_yet hL fun h => shut_at hs 15 13 (by kernel_rfl) (shut_at hs 16 15 (by kernel_rfl) (shut_at hs 17 16 (by kernel_rfl) (shut_at hs 19 17 (by kernel_rfl) (h))))
        have n20 : L 20 = false := not_yet hL fun h => shut_at hs 20 13 (by kernel_rfl) (h)
        refine opIn_run (v := .int .i64 (j + 1)) (w' := w') rfl rfl (fun c h => by cases h) (fun _ => trivial) ?_ ⟨z, A9, c9, by simp [Act.put, upd, y12, n18, n19, n20, hL], by simpa [upd] using hph⟩
        simp only [y12, n18, n19, n20, hL, cond_true, cond_false]
        go_simp
      · skip
        have n18 : L 18 = false := not_yet hL fun h => shut_at hs 15 14 (by kernel_rfl) (shut_at hs 16 15 (by kernel_rfl) (shut_at hs 17 16 (by kernel_rfl) (shut_at hs 18 17 (by kernel_rfl) (h))))
        have n19 : L 19 = false := not_yet hL fun h => shut_at hs 15 14 (by kernel_rfl) (shut_at hs 16 15 (by kernel_rfl) (shut_at hs 17 16 (by kernel_rfl) (shut_at hs 19 17 (by kernel_rfl) (h))))
        have n20 : L 20 = false := not_yet hL fun h => shut_at hs 20 14 (by kernel_rfl) (h)
        simp only [n18, n19, n20, hL, cond_true, cond_false] at hph
        have k0 : w'.cell? ⟨w.heap.size + 1 + 1 + 1, 0, none⟩ = some (.int .i64 hc) := by simp [World.cell?, hph.1.h]
        refine opIn_run (v := .int .i64 hc) (w' := w') rfl rfl (fun c h => by cases h) (fun _ => trivial) ?_ ⟨z, A9, c9, by simp [Act.put, upd, n18, n19, n20, hL], by simp only [upd, n18, n19, n20, hL]; exact hph⟩
        simp only [n18, n19, n20, hL, cond_true, cond_false]
        go_simp
      · skip
        have y12 : L 12 = true := shut_at hs 13 12 (by kernel_rfl) (up_at hu 13 (by kernel_rfl))
        have y13 : L 13 = true := up_at hu 13 (by kernel_rfl)
        have y14 : L 14 = true := up_at hu 14 (by kernel_rfl)
        have n18 : L 18 = false := not_yet hL fun h => shut_at hs 16 15 (by kernel_rfl) (shut_at hs 17 16 (by kernel_rfl) (shut_at hs 18 17 (by kernel_rfl) (h)))
        have n19 : L 19 = false := not_yet hL fun h => shut_at hs 16 15 (by kernel_rfl) (shut_at hs 17 16 (by kernel_rfl) (shut_at hs 19 17 (by kernel_rfl) (h)))
        have n20 : L 20 = false := not_yet hL fun h => shut_at hs 20 15 (by kernel_rfl) (h)
        refine opIn_run (v := .int .i64 m15) (w' := w') rfl rfl (fun c h => by cases h) (fun _ => trivial) ?_ ⟨z, A9, c9, by simp [Act.put, upd, y12, y13, y14, n18, n19, n20, hL], by simpa [upd] using hph⟩
        simp only [y12, y13, y14, n18, n19, n20, hL, cond_true, cond_false]
        go_simp
      · skip
        have y2 : L 2 = true := shut_at hs 4 2 (by kernel_rfl) (up_at hu 4 (by kernel_rfl))
        have y3 : L 3 = true := shut_at hs 4 3 (by kernel_rfl) (up_at hu 4 (by kernel_rfl))
        have y4 : L 4 = true := up_at hu 4 (by kernel_rfl)
        have y5 : L 5 = true := shut_at hs 7 5 (by kernel_rfl) (up_at hu 7 (by kernel_rfl))
        have y6 : L 6 = true := shut_at hs 7 6 (by kernel_rfl) (up_at hu 7 (by kernel_rfl))
        have y7 : L 7 = true := up_at hu 7 (by kernel_rfl)
        have y8 : L 8 = true := shut_at hs 9 8 (by kernel_rfl) (shut_at hs 11 9 (by kernel_rfl) (up_at hu 11 (by kernel_rfl)))
        have y9 : L 9 = true := shut_at hs 11 9 (by kernel_rfl) (up_at hu 11 (by kernel_rfl))
        have y10 : L 10 = true := shut_at hs 11 10 (by kernel_rfl) (up_at hu 11 (by kernel_rfl))
        have y11 : L 11 = true := up_at hu 11 (by kernel_rfl)
        have y12 : L 12 = true := shut_at hs 13 12 (by kernel_rfl) (shut_at hs 15 13 (by kernel_rfl) (up_at hu 15 (by kernel_rfl)))
        have y13 : L 13 = true := shut_at hs 15 13 (by kernel_rfl) (up_at hu 15 (by kernel_rfl))
        have y14 : L 14 = true := shut_at hs 15 14 (by kernel_rfl) (up_at hu 15 (by kernel_rfl))
        have y15 : L 15 = true := up_at hu 15 (by kernel_rfl)
        have n18 : L 18 = false := not_yet hL fun h => shut_at hs 17 16 (by kernel_rfl) (shut_at hs 18 17 (by kernel_rfl) (h))
        have n19 : L 19 = false := not_yet hL fun h => shut_at hs 17 16 (by kernel_rfl) (shut_at hs 19 17 (by kernel_rfl) (h))
        have n20 : L 20 = false := not_yet hL fun h => shut_at hs 20 16 (by kernel_rfl) (h)
        refine opIn_run (v := .agg #[.int .i64 m4, .int .i64 m7, .int .i64 m11, .int .i64 m15]) (w' := w') rfl rfl (fun c h => by cases h) (fun _ => trivial) ?_ ⟨z, A9, c9, by simp [Act.put, upd, y2, y3, y4, y5, y6, y7, y8, y9, y10, y11, y12, y13, y14, y15, n18, n19, n20, hL], by simpa [upd] using hph⟩
        simp only [y2, y3, y4, y5, y6, y7, y8, y9, y10, y11, y12, y13, y14, y15, n18, n19, n20, hL, cond_true, cond_false]
        go_simp
      · skip
        have y1 : L 1 = true := up_at hu 1 (by kernel_rfl)
        have y2 : L 2 = true := shut_at hs 4 2 (by kernel_rfl) (shut_at hs 16 4 (by kernel_rfl) (up_at hu 16 (by kernel_rfl)))
        have y3 : L 3 = true := shut_at hs 4 3 (by kernel_rfl) (shut_at hs 16 4 (by kernel_rfl) (up_at hu 16 (by kernel_rfl)))
        have y4 : L 4 = true := shut_at hs 16 4 (by kernel_rfl) (up_at hu 16 (by kernel_rfl))
        have y5 : L 5 = true := shut_at hs 7 5 (by kernel_rfl) (shut_at hs 16 7 (by kernel_rfl) (up_at hu 16 (by kernel_rfl)))
        have y6 : L 6 = true := shut_at hs 7 6 (by kernel_rfl) (shut_at hs 16 7 (by kernel_rfl) (up_at hu 16 (by kernel_rfl)))
        have y7 : L 7 = true := shut_at hs 16 7 (by kernel_rfl) (up_at hu 16 (by kernel_rfl))
        have y8 : L 8 = true := shut_at hs 9 8 (by kernel_rfl) (shut_at hs 11 9 (by kernel_rfl) (shut_at hs 16 11 (by kernel_rfl) (up_at hu 16 (by kernel_rfl))))
        have y9 : L 9 = true := shut_at hs 11 9 (by kernel_rfl) (shut_at hs 16 11 (by kernel_rfl) (up_at hu 16 (by kernel_rfl)))
        have y10 : L 10 = true := shut_at hs 11 10 (by kernel_rfl) (shut_at hs 16 11 (by kernel_rfl) (up_at hu 16 (by kernel_rfl)))
        have y11 : L 11 = true := shut_at hs 16 11 (by kernel_rfl) (up_at hu 16 (by kernel_rfl))
        have y12 : L 12 = true := shut_at hs 13 12 (by kernel_rfl) (shut_at hs 15 13 (by kernel_rfl) (shut_at hs 16 15 (by kernel_rfl) (up_at hu 16 (by kernel_rfl))))
        have y13 : L 13 = true := shut_at hs 15 13 (by kernel_rfl) (shut_at hs 16 15 (by kernel_rfl) (up_at hu 16 (by kernel_rfl)))
        have y14 : L 14 = true := shut_at hs 15 14 (by kernel_rfl) (shut_at hs 16 15 (by kernel_rfl) (up_at hu 16 (by kernel_rfl)))
        have y15 : L 15 = true := shut_at hs 16 15 (by kernel_rfl) (up_at hu 16 (by kernel_rfl))
        have y16 : L 16 = true := up_at hu 16 (by kernel_rfl)
        have n18 : L 18 = false := not_yet hL fun h => shut_at hs 18 17 (by kernel_rfl) (h)
        have n19 : L 19 = false := not_yet hL fun h => shut_at hs 19 17 (by kernel_rfl) (h)
        have n20 : L 20 = false := not_yet hL fun h => shut_at hs 20 17 (by kernel_rfl) (h)
        simp only [y1, y2, y3, y4, y5, y6, y7, y8, y9, y10, y11, y12, y13, y14, y15, y16, n18, n19, n20, hL, cond_true, cond_false] at hph
        refine opIn_call (f := 59) (args := #[.agg #[.int .i64 r0, .int .i64 r1, .int .i64 r2, .int .i64 r3], .agg #[.int .i64 m4, .int .i64 m7, .int .i64 m11, .int .i64 m15]]) (w' := w') rfl rfl (fun c h => by cases h) (fun _ => trivial) rfl ?_ ((CallsIn.inRound lr (callsIn_wide.2 (CX.out w'))).mono ?_)
        · simp only [y1, y2, y3, y4, y5, y6, y7, y8, y9, y10, y11, y12, y13, y14, y15, y16, n18, n19, n20, hL, cond_true, cond_false]
          go_simp
        · rintro e w2 ⟨rfl, hb9⟩
          exact ⟨_, rfl, z, A9, c9, by simp [Act.put, upd, y1, y2, y3, y4, y5, y6, y7, y8, y9, y10, y11, y12, y13, y14, y15, y16, n18, n19, n20, hL], by simp only [upd, y1, y2, y3, y4, y5, y6, y7, y8, y9, y10, y11, y12, y13, y14, y15, y16, n18, n19, n20, hL]; exact ⟨hph.1.below hb9, ownsRow_keep hph.2 hb9.size (fun k e => hb9.block k (own_lt hph.2 e).2)⟩⟩
      · skip
        have y1 : L 1 = true := shut_at hs 17 1 (by kernel_rfl) (up_at hu 17 (by kernel_rfl))
        have y2 : L 2 = true := shut_at hs 4 2 (by kernel_rfl) (shut_at hs 16 4 (by kernel_rfl) (shut_at hs 17 16 (by kernel_rfl) (up_at hu 17 (by kernel_rfl))))
        have y3 : L 3 = true := shut_at hs 4 3 (by kernel_rfl) (shut_at hs 16 4 (by kernel_rfl) (shut_at hs 17 16 (by kernel_rfl) (up_at hu 17 (by kernel_rfl))))
        have y4 : L 4 = true := shut_at hs 16 4 (by kernel_rfl) (shut_at hs 17 16 (by kernel_rfl) (up_at hu 17 (by kernel_rfl)))
        have y5 : L 5 = true := shut_at hs 7 5 (by kernel_rfl) (shut_at hs 16 7 (by kernel_rfl) (shut_at hs 17 16 (by kernel_rfl) (up_at hu 17 (by kernel_rfl))))
        have y6 : L 6 = true := shut_at hs 7 6 (by kernel_rfl) (shut_at hs 16 7 (by kernel_rfl) (shut_at hs 17 16 (by kernel_rfl) (up_at hu 17 (by kernel_rfl))))
        have y7 : L 7 = true := shut_at hs 16 7 (by kernel_rfl) (shut_at hs 17 16 (by kernel_rfl) (up_at hu 17 (by kernel_rfl)))
        have y8 : L 8 = true := shut_at hs 9 8 (by kernel_rfl) (shut_at hs 11 9 (by kernel_rfl) (shut_at hs 16 11 (by kernel_rfl) (shut_at hs 17 16 (by kernel_rfl) (up_at hu 17 (by kernel_rfl)))))
        have y9 : L 9 = true := shut_at hs 11 9 (by kernel_rfl) (shut_at hs 16 11 (by kernel_rfl) (shut_at hs 17 16 (by kernel_rfl) (up_at hu 17 (by kernel_rfl))))
        have y10 : L 10 = true := shut_at hs 11 10 (by kernel_rfl) (shut_at hs 16 11 (by kernel_rfl) (shut_at hs 17 16 (by kernel_rfl) (up_at hu 17 (by kernel_rfl))))
        have y11 : L 11 = true := shut_at hs 16 11 (by kernel_rfl) (shut_at hs 17 16 (by kernel_rfl) (up_at hu 17 (by kernel_rfl)))
        have y12 : L 12 = true := shut_at hs 13 12 (by kernel_rfl) (shut_at hs 15 13 (by kernel_rfl) (shut_at hs 16 15 (by kernel_rfl) (shut_at hs 17 16 (by kernel_rfl) (up_at hu 17 (by kernel_rfl)))))
        have y13 : L 13 = true := shut_at hs 15 13 (by kernel_rfl) (shut_at hs 16 15 (by kernel_rfl) (shut_at hs 17 16 (by kernel_rfl) (up_at hu 17 (by kernel_rfl))))
        have y14 : L 14 = true := shut_at hs 15 14 (by kernel_rfl) (shut_at hs 16 15 (by kernel_rfl) (shut_at hs 17 16 (by kernel_rfl) (up_at hu 17 (by kernel_rfl))))
        have y15 : L 15 = true := shut_at hs 16 15 (by kernel_rfl) (shut_at hs 17 16 (by kernel_rfl) (up_at hu 17 (by kernel_rfl)))
        have y16 : L 16 = true := shut_at hs 17 16 (by kernel_rfl) (up_at hu 17 (by kernel_rfl))
        have y17 : L 17 = true := up_at hu 17 (by kernel_rfl)
        have n19 : L 19 = false := not_yet hL fun h => shut_at hs 19 18 (by kernel_rfl) (h)
        have n20 : L 20 = false := not_yet hL fun h => shut_at hs 20 18 (by kernel_rfl) (h)
        simp only [y1, y2, y3, y4, y5, y6, y7, y8, y9, y10, y11, y12, y13, y14, y15, y16, y17, n19, n20, hL, cond_true, cond_false] at hph
        have hb9 : Below w'.heap.size w' (w'.alloc (Obj.cells #[.int .i64 a0, .int .i64 a1, .int .i64 a2, .int .i64 a3] 48)) := (Below.refl _ _).alloc (Nat.le_refl _) _
        refine opIn_run (v := .slice (some ⟨w'.heap.size, 0, none⟩) 1 1) (w' := w'.alloc (Obj.cells #[.int .i64 a0, .int .i64 a1, .int .i64 a2, .int .i64 a3] 48)) rfl rfl (fun c h => by cases h) (fun _ => trivial) ?_ ⟨w'.heap.size, A9, c9, by simp [Act.put, upd, y1, y2, y3, y4, y5, y6, y7, y8, y9, y10, y11, y12, y13, y14, y15, y16, y17, n19, n20, hL], by simp only [upd, y1, y2, y3, y4, y5, y6, y7, y8, y9, y10, y11, y12, y13, y14, y15, y16, y17, n19, n20, hL]; exact ⟨hph.1.below hb9, ownsRow_keep hph.2 hb9.size (fun k e => hb9.block k (own_lt hph.2 e).2), World.alloc_heap_new w' _⟩⟩
        simp only [y1, y2, y3, y4, y5, y6, y7, y8, y9, y10, y11, y12, y13, y14, y15, y16, y17, n19, n20, hL, cond_true, cond_false]
        go_simp
      · skip
        have y0 : L 0 = true := up_at hu 0 (by kernel_rfl)
        have y1 : L 1 = true := shut_at hs 17 1 (by kernel_rfl) (up_at hu 17 (by kernel_rfl))
        have y2 : L 2 = true := shut_at hs 4 2 (by kernel_rfl) (shut_at hs 16 4 (by kernel_rfl) (shut_at hs 17 16 (by kernel_rfl) (up_at hu 17 (by kernel_rfl))))
        have y3 : L 3 = true := shut_at hs 4 3 (by kernel_rfl) (shut_at hs 16 4 (by kernel_rfl) (shut_at hs 17 16 (by kernel_rfl) (up_at hu 17 (by kernel_rfl))))
        have y4 : L 4 = true := shut_at hs 16 4 (by kernel_rfl) (shut_at hs 17 16 (by kernel_rfl) (up_at hu 17 (by kernel_rfl)))
        have y5 : L 5 = true := shut_at hs 7 5 (by kernel_rfl) (shut_at hs 16 7 (by kernel_rfl) (shut_at hs 17 16 (by kernel_rfl) (up_at hu 17 (by kernel_rfl))))
        have y6 : L 6 = true := shut_at hs 7 6 (by kernel_rfl) (shut_at hs 16 7 (by kernel_rfl) (shut_at hs 17 16 (by kernel_rfl) (up_at hu 17 (by kernel_rfl))))
        have y7 : L 7 = true := shut_at hs 16 7 (by kernel_rfl) (shut_at hs 17 16 (by kernel_rfl) (up_at hu 17 (by kernel_rfl)))
        have y8 : L 8 = true := shut_at hs 9 8 (by kernel_rfl) (shut_at hs 11 9 (by kernel_rfl) (shut_at hs 16 11 (by kernel_rfl) (shut_at hs 17 16 (by kernel_rfl) (up_at hu 17 (by kernel_rfl)))))
        have y9 : L 9 = true := shut_at hs 11 9 (by kernel_rfl) (shut_at hs 16 11 (by kernel_rfl) (shut_at hs 17 16 (by kernel_rfl) (up_at hu 17 (by kernel_rfl))))
        have y10 : L 10 = true := shut_at hs 11 10 (by kernel_rfl) (shut_at hs 16 11 (by kernel_rfl) (shut_at hs 17 16 (by kernel_rfl) (up_at hu 17 (by kernel_rfl))))
        have y11 : L 11 = true := shut_at hs 16 11 (by kernel_rfl) (shut_at hs 17 16 (by kernel_rfl) (up_at hu 17 (by kernel_rfl)))
        have y12 : L 12 = true := shut_at hs 13 12 (by kernel_rfl) (shut_at hs 15 13 (by kernel_rfl) (shut_at hs 16 15 (by kernel_rfl) (shut_at hs 17 16 (by kernel_rfl) (up_at hu 17 (by kernel_rfl)))))
        have y13 : L 13 = true := shut_at hs 15 13 (by kernel_rfl) (shut_at hs 16 15 (by kernel_rfl) (shut_at hs 17 16 (by kernel_rfl) (up_at hu 17 (by kernel_rfl))))
        have y14 : L 14 = true := shut_at hs 15 14 (by kernel_rfl) (shut_at hs 16 15 (by kernel_rfl) (shut_at hs 17 16 (by kernel_rfl) (up_at hu 17 (by kernel_rfl))))
        have y15 : L 15 = true := shut_at hs 16 15 (by kernel_rfl) (shut_at hs 17 16 (by kernel_rfl) (up_at hu 17 (by kernel_rfl)))
        have y16 : L 16 = true := shut_at hs 17 16 (by kernel_rfl) (up_at hu 17 (by kernel_rfl))
        have y17 : L 17 = true := up_at hu 17 (by kernel_rfl)
        have y18 : L 18 = true := up_at hu 18 (by kernel_rfl)
        have n20 : L 20 = false := not_yet hL fun h => shut_at hs 20 19 (by kernel_rfl) (h)
        simp only [y0, y1, y2, y3, y4, y5, y6, y7, y8, y9, y10, y11, y12, y13, y14, y15, y16, y17, y18, n20, hL, cond_true, cond_false] at hph
        obtain ⟨v9, w9, hrun9, hown9, hg9, _⟩ := app_rect hph.2.1 hph.2.2 hph.1.s (by omega)
        obtain ⟨A9x, c9x, rfl, _, _, _⟩ := own_any hown9
        refine opIn_run (v := .slice A9x (kl + 1) c9x) (w' := w9) rfl rfl (fun c h => by cases h) (fun _ => trivial) ?_ ⟨z, A9x, c9x, by simp [Act.put, upd, y0, y1, y2, y3, y4, y5, y6, y7, y8, y9, y10, y11, y12, y13, y14, y15, y16, y17, y18, n20, hL], by simp only [upd, y0, y1, y2, y3, y4, y5, y6, y7, y8, y9, y10, y11, y12, y13, y14, y15, y16, y17, y18, n20, hL]; exact ⟨hph.1.grown hg9 (row_blk hph.2.1), hown9⟩⟩
        simp only [y0, y1, y2, y3, y4, y5, y6, y7, y8, y9, y10, y11, y12, y13, y14, y15, y16, y17, y18, n20, hL, cond_true, cond_false]
        go_simp
      · skip
        have y0 : L 0 = true := up_at hu 0 (by kernel_rfl)
        have y1 : L 1 = true := up_at hu 1 (by kernel_rfl)
        have y2 : L 2 = true := up_at hu 2 (by kernel_rfl)
        have y3 : L 3 = true := up_at hu 3 (by kernel_rfl)
        have y4 : L 4 = true := up_at hu 4 (by kernel_rfl)
        have y5 : L 5 = true := up_at hu 5 (by kernel_rfl)
        have y6 : L 6 = true := up_at hu 6 (by kernel_rfl)
        have y7 : L 7 = true := up_at hu 7 (by kernel_rfl)
        have y8 : L 8 = true := up_at hu 8 (by kernel_rfl)
        have y9 : L 9 = true := up_at hu 9 (by kernel_rfl)
        have y10 : L 10 = true := up_at hu 10 (by kernel_rfl)
        have y11 : L 11 = true := up_at hu 11 (by kernel_rfl)
        have y12 : L 12 = true := up_at hu 12 (by kernel_rfl)
        have y13 : L 13 = true := up_at hu 13 (by kernel_rfl)
        have y14 : L 14 = true := up_at hu 14 (by kernel_rfl)
        have y15 : L 15 = true := up_at hu 15 (by kernel_rfl)
        have y16 : L 16 = true := up_at hu 16 (by kernel_rfl)
        have y17 : L 17 = true := up_at hu 17 (by kernel_rfl)
        have y18 : L 18 = true := up_at hu 18 (by kernel_rfl)
        have y19 : L 19 = true := up_at hu 19 (by kernel_rfl)
        simp only [y0, y1, y2, y3, y4, y5, y6, y7, y8, y9, y10, y11, y12, y13, y14, y15, y16, y17, y18, y19, hL, cond_true, cond_false] at hph
        have k0 : w'.cell? ⟨w.heap.size + 1 + 1 + 1 + 1, 0, none⟩ = some V := by simp [World.cell?, hph.1.l]
        have kf : w'.frozen? ⟨w.heap.size + 1 + 1 + 1 + 1, 0, none⟩ = false := by simp [World.frozen?, hph.1.l]
        refine opIn_skip (w' := w'.setCell ⟨w.heap.size + 1 + 1 + 1 + 1, 0, none⟩ (.slice A9 (kl + 1) c9)) rfl rfl (fun c h => by cases h) (fun _ => trivial) ?_ ⟨z, A9, c9, by simp [Act.put, upd, y0, y1, y2, y3, y4, y5, y6, y7, y8, y9, y10, y11, y12, y13, y14, y15, y16, y17, y18, y19, hL], by simp only [upd, y0, y1, y2, y3, y4, y5, y6, y7, y8, y9, y10, y11, y12, y13, y14, y15, y16, y17, y18, y19, hL]; exact ⟨hph.1.setl, ownsRow_keep hph.2 (by simp [World.setCell]) (fun k e => Below.heap_setCell _ _ _ _ (by have := (own_lt hph.2 e).1; have := hph.1.n; simp; omega))⟩⟩
        simp only [y0, y1, y2, y3, y4, y5, y6, y7, y8, y9, y10, y11, y12, y13, y14, y15, y16, y17, y18, y19, hL, cond_true, cond_false]
        go_simp
    case finq =>
      intro L a' w' hall hI
      obtain ⟨z, A9, c9, rfl, hph⟩ := hI
      have l0 := hall 0 (by decide)
      have l1 := hall 1 (by decide)
      have l2 := hall 2 (by decide)
      have l3 := hall 3 (by decide)
      have l4 := hall 4 (by decide)
      have l5 := hall 5 (by decide)
      have l6 := hall 6 (by decide)
      have l7 := hall 7 (by decide)
      have l8 := hall 8 (by decide)
      have l9 := hall 9 (by decide)
      have l10 := hall 10 (by decide)
      have l11 := hall 11 (by decide)
      have l12 := hall 12 (by decide)
      have l13 := hall 13 (by decide)
      have l14 := hall 14 (by decide)
      have l15 := hall 15 (by decide)
      have l16 := hall 16 (by decide)
      have l17 := hall 17 (by decide)
      have l18 := hall 18 (by decide)
      have l19 := hall 19 (by decide)
      have l20 := hall 20 (by decide)
      simp only [l0, l1, l2, l3, l4, l5, l6, l7, l8, l9, l10, l11, l12, l13, l14, l15, l16, l17, l18, l19, l20, cond_true] at hph ⊢
      clear l0 l1 l2 l3 l4 l5 l6 l7 l8 l9 l10 l11 l12 l13 l14 l15 l16 l17 l18 l19 l20 hall
      refine ⟨hph.1.ko, hph.1.kb, ⟨_, hph.1.r, hph.1.w, hph.1.h, hph.1.l, ?_, by rw [HNE.out]; exact hph.1.s, H7.out.trans hph.1.bel⟩⟩
      rw [HNE.out, List.length_append, List.flatMap_append, HXS.out, HKL.out]
      simpa [HE9.out] using hph.2
  case done =>
    rintro D ys W hD hys ⟨V, h1, h2, h3, h4, h5, h6, h7⟩ hK
    have hl : ys.length = ht * wd := by rw [← plP_len x0 y0 wd ht, ← hys, List.length_map]
    have hf : (ys.flatMap fun x => recV (cellR r0 r1 r2 r3 wc hc x.1)) = (plP x0 y0 wd ht).flatMap fun p => recV (cellR r0 r1 r2 r3 wc hc p) := by rw [← hys, List.flatMap_map]
    rw [hl, hf] at h5
    obtain ⟨A1, k1, rfl, hA1, hk1, hm1⟩ := own_any h5
    have c1 : W.cell? ⟨w.heap.size + 1 + 1 + 1 + 1, 0, none⟩ = some (.slice A1 (ht * wd) k1) := by simp [World.cell?, h4]
    have HD := Lib.hid (And.intro h5 (And.intro h7 (And.intro hK hD)))
    clear h1 h2 h3 h4 h5 h6 h7 hK hD hl hf q0 q2 q3 q4 q5 hB6
    gi_wp2
    refine ⟨by simp, .inl ⟨_, _, rfl, run_takeDeferred HD.out.2.2.1, ?_⟩⟩
    obtain ⟨h5, h7, hK, hD⟩ := HD.out
    refine ⟨.slice A1 (ht * wd) k1, by simp [results, Try.f45, go_sem], A1, k1, rfl, ?_, h7.trans (belowK_b (w := w) (Nat.le_refl _) W D _ _ (by omega) hK rfl rfl)⟩
    exact own_mono (ownsRow_putObj h5 (.deferred none) hK rfl) (by omega)
  case stop =>
    rintro D c pre W _ _ h _
    exact h.elim
end Go.Proofs.Ythcpmonahmogaaa
