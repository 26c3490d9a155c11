/- Segments itself. -/
import Derived.Test.YtglplhiafeopdaaLaySeg
import Derived.Test.YtglplhiafeopdaaAnyInv
set_option linter.unusedVariables false
namespace Go.Proofs.Ytglplhiafeopdaa
open Go.RowKit Go.Shelf

attribute [local go_sem] Oper.semAt_some
attribute [local go_sem ↓] appSem_eq

/-- A piece: where it begins, and the pass behind it. -/
abbrev Pc (t : Int) := { p : Int × Int // 0 ≤ p.1 ∧ p.1 < p.2 ∧ p.2 ≤ t }
theorem pieces_sub (n : Nat) (hn : 3 ≤ n) (b : Nat) (s f t : Int) (hf : 0 ≤ f) (hft : f ≤ t) (ht : t ≤ 1000) (hs : -9223372036854775808 ≤ s ∧ s ≤ 9223372036854775807) (w : World)
    (hb : b + 2 < w.heap.size) (cs : w.cell? ⟨b, 0, none⟩ = some (.int .i64 s)) (cf : w.cell? ⟨b + 1, 0, none⟩ = some (.int .i64 f)) (ct : w.cell? ⟨b + 2, 0, none⟩ = some (.int .i64 t)) :
    SeqStopsK Fence.wide n Try.prog 22 #[.pointer (some ⟨b + 1, 0, none⟩), .pointer (some ⟨b + 2, 0, none⟩), .pointer (some ⟨b, 0, none⟩)] (fun x : Pc t => encP x.1) (Keep3 b)
      (fun ys => ys.map (·.1) = (pcs s f t (t - f).toNat).1) (fun _ => True) (t - f).toNat w := fun l J Jx W hW _ _ hY h0 => by
  refine (pieces1_in n hn l b s f t hf hft ht hs (fun xs W => ∃ ys : List (Pc t), ys.map (·.1) = xs ∧ J ys W) (fun _ W => ∃ ys : List (Pc t), Jx ys W) ?_ W
    ((hW.cell (p := ⟨b + 1, 0, none⟩) (by show b + 1 < _; omega)).trans cf) ((hW.cell (p := ⟨b + 2, 0, none⟩) (by show b + 2 < _; omega)).trans ct) ((hW.cell (p := ⟨b, 0, none⟩) (by show b < _; omega)).trans cs) ⟨[], rfl, h0⟩).mono ?_
  · rintro pre x W1 ⟨ys, rfl, hj⟩ hx hlen
    refine (hY ys ⟨x, hx⟩ W1 hj (by simpa using hlen)).mono ?_
    rintro e W' (⟨rfl, hj', hk⟩ | ⟨rfl, hx'⟩)
    · exact .inl ⟨rfl, ⟨_, by simp, hj'⟩, hk⟩
    · exact .inr ⟨rfl, _, hx'⟩
  · rintro e W' ⟨he, ⟨_, rfl, ys, hy, hj⟩ | ⟨_, _, ys, hx⟩⟩
    · exact ⟨he, .inl ⟨ys, hy, hj⟩⟩
    · exact ⟨he, .inr ⟨ys, trivial, hx⟩⟩
theorem keep3_t {b : Nat} {A B C : World} (h : Keep3 b A B) (k : Keep3 b B C) : Keep3 b A C := h.trans k
theorem keep3_b {b N : Nat} (hb : b + 2 < N) (W : World) (l : Nat) (o o' : Obj) (hl : N ≤ l) (h : W.heap[l]? = some o) (_ : o.isCells = false) (_ : o.isWalk = false) : Keep3 b W (W.putObj l o') := fun k hk =>
  World.cell?_of_block (w := W) (a := ⟨b + k, 0, none⟩) ((grownBy_putObj' W l o').block (b + k) (by have := (Array.getElem?_eq_some_iff.1 h).1; omega) (by simp; omega))

/-- How many passes each piece has, and how many bytes. -/
def pN {t : Int} (x : Pc t) : Int := x.1.2 - x.1.1
def pB {t : Int} (l : List Int) (x : Pc t) : Int := bef l x.1.2 - bef l x.1.1

/-- Two boxes that hold slices of their own, from block N on. -/
def TwoRows (H N : Nat) (W : World) (X Y : List Int) : Prop :=
  ∃ v1 v2, Boxed W (H + 1) 22 v1 ∧ Boxed W (H + 1 + 1) 22 v2 ∧ W.ownsRow N 3 1 v1 X.length (X.map (Value.int .i64)) ∧ W.ownsRow N 3 1 v2 Y.length (Y.map (Value.int .i64)) ∧ (∀ g, v1.ownBlock = some g → v2.ownBlock ≠ some g)
theorem boxed_own' {W W' : World} {B : Nat} {t : TypeId} {v : Value} {row : Option Nat} (h : Boxed W B t v) (hg : W.grownBy W' row) (hr : ∀ r, row = some r → ∃ o : Obj, W.heap[r]? = some o ∧ o.isCells = false) : Boxed W' B t v :=
  h.kept hg fun e => by
    obtain ⟨o, ho, hc⟩ := hr B e.symm
    rw [show W.heap[B]? = _ from h] at ho; cases ho; cases hc
theorem row_own' {W W' : World} {base : Nat} {e : TypeId} {size k : Nat} {v : Value} {xs : List Value} {row : Option Nat} (h : W.ownsRow base e size v k xs) (hg : W.grownBy W' row) (hr : ∀ r, row = some r → ∃ o : Obj, W.heap[r]? = some o ∧ o.isCells = false) : W'.ownsRow base e size v k xs := by
  refine h.kept hg ?_
  rcases h.2 with ⟨rfl, _⟩ | ⟨g, cap, cur, rfl, _, hgb, _⟩
  · exact .inl rfl
  · refine .inr fun e' => ?_
    obtain ⟨o, ho, hc⟩ := hr g (by simpa [Value.ownBlock] using e'.symm)
    rw [hgb] at ho; cases ho; cases hc
theorem TwoRows.own {β : Type} (H N : Nat) (X Y : β → List Int) : Own (fun s W => TwoRows H N W (X s) (Y s)) := by
  rintro s A B row ⟨v1, v2, b1, b2, r1, r2, hd⟩ hg hr
  exact ⟨v1, v2, boxed_own' b1 hg hr, boxed_own' b2 hg hr, row_own' r1 hg hr, row_own' r2 hg hr, hd⟩

/-- One of two slices in boxes grows: all that becomes of the world. -/
theorem app_step {W w1 : World} {H N B1 : Nat} {T E : TypeId} {v1 v2 : Value} {k1 k2 g c : Nat} {xs2 ys : List Value} {tmp : Obj} (hH : H ≤ B1) (hN : B1 < N) (hNW : N ≤ W.heap.size)
    (b1 : Boxed W B1 T v1) (r1 : ∀ q, v1.ownBlock = some q → N ≤ q ∧ q < W.heap.size ∧ ∃ o, W.heap[q]? = some o ∧ o.isCells = true) (r2 : W.ownsRow N E 1 v2 k2 xs2) (hd : ∀ q, v1.ownBlock = some q → v2.ownBlock ≠ some q)
    (hown : w1.ownsRow N E 1 (.slice (some ⟨g, 0, none⟩) (k1 + 1) c) (k1 + 1) ys) (hgrow : (W.alloc tmp).grownBy w1 v1.ownBlock) (hat : (Value.slice (some ⟨g, 0, none⟩) (k1 + 1) c).ownBlock = v1.ownBlock ∨ (Value.slice (some ⟨g, 0, none⟩) (k1 + 1) c).ownBlock = some (W.alloc tmp).heap.size) :
    Boxed w1 B1 T v1 ∧ Boxed (w1.setCell ⟨B1, 0, none⟩ (.slice (some ⟨g, 0, none⟩) (k1 + 1) c)) B1 T (.slice (some ⟨g, 0, none⟩) (k1 + 1) c) ∧
      (w1.setCell ⟨B1, 0, none⟩ (.slice (some ⟨g, 0, none⟩) (k1 + 1) c)).ownsRow N E 1 (.slice (some ⟨g, 0, none⟩) (k1 + 1) c) (k1 + 1) ys ∧
      (w1.setCell ⟨B1, 0, none⟩ (.slice (some ⟨g, 0, none⟩) (k1 + 1) c)).ownsRow N E 1 v2 k2 xs2 ∧
      (∀ q, (Value.slice (some ⟨g, 0, none⟩) (k1 + 1) c).ownBlock = some q → v2.ownBlock ≠ some q) ∧
      KeepsOthers W (w1.setCell ⟨B1, 0, none⟩ (.slice (some ⟨g, 0, none⟩) (k1 + 1) c)) ∧ (∀ k, k < N → k ≠ B1 → (w1.setCell ⟨B1, 0, none⟩ (.slice (some ⟨g, 0, none⟩) (k1 + 1) c)).heap[k]? = W.heap[k]?) ∧
      Below H W (w1.setCell ⟨B1, 0, none⟩ (.slice (some ⟨g, 0, none⟩) (k1 + 1) c)) := by
  have hlow : ∀ k, k < N → w1.heap[k]? = W.heap[k]? := fun k hk =>
    (hgrow.block k (by simp; omega) (fun e => by have := (r1 k e.symm).1; omega)).trans (Below.heap_alloc W tmp k (by omega))
  have hb1 : Boxed w1 B1 T v1 := (hlow B1 hN).trans b1
  have hsz : W.heap.size ≤ w1.heap.size := by have := hgrow.size; simp at this; omega
  have hg : N ≤ g ∧ g < w1.heap.size := own_lt hown rfl
  have hr2 : w1.ownsRow N E 1 v2 k2 xs2 := ownsRow_keep r2 hsz fun k hk => by
    have hk2 := own_lt r2 hk
    exact (hgrow.block k (by simp; omega) (fun e => hd k e.symm hk)).trans (Below.heap_alloc W tmp k hk2.2)
  have hset : ∀ k, k ≠ B1 → (w1.setCell ⟨B1, 0, none⟩ (.slice (some ⟨g, 0, none⟩) (k1 + 1) c)).heap[k]? = w1.heap[k]? := fun k hk => Below.heap_setCell _ _ _ k hk
  have hz : (w1.setCell ⟨B1, 0, none⟩ (.slice (some ⟨g, 0, none⟩) (k1 + 1) c)).heap.size = w1.heap.size := by simp [World.setCell]
  refine ⟨hb1, hb1.set _, ownsRow_keep hown (by omega) fun k hk => ?_, ownsRow_keep hr2 (by omega) fun k hk => ?_, fun q hq h2 => ?_, ?_, fun k hk hne => ?_, ?_⟩
  · have := (own_lt hown hk).1
    exact hset k (by omega)
  · have := (own_lt hr2 hk).1
    exact hset k (by omega)
  · have e : g = q := by simpa [Value.ownBlock] using hq
    subst e
    rcases hat with h | h
    · exact hd g (by rw [← h]; rfl) h2
    · have h1 : g = (W.alloc tmp).heap.size := by simpa [Value.ownBlock] using h
      have h3 := (own_lt r2 h2).2
      simp at h1
      omega
  · refine ((KeepsOthers.alloc W tmp).trans (KeepsOthers.of_grownBy hgrow fun j o ej hj => ?_)).trans (KeepsOthers.setCell _ _ _)
    obtain ⟨_, hlt, o2, ho2, hc2⟩ := r1 j ej
    rw [Below.heap_alloc W tmp j hlt] at hj
    rw [hj] at ho2
    cases ho2
    exact hc2
  · exact (hset k hne).trans (hlow k hk)
  · exact (((Below.refl H W).alloc (by omega) tmp).grown hgrow (by simp; omega) fun j ej => by have := (r1 j ej).1; omega).setCell (p := ⟨B1, 0, none⟩) hH _
theorem row_blocks {W : World} {N E : Nat} {v : Value} {k : Nat} {xs : List Value} (h : W.ownsRow N E 1 v k xs) : ∀ q, v.ownBlock = some q → N ≤ q ∧ q < W.heap.size ∧ ∃ o, W.heap[q]? = some o ∧ o.isCells = true := fun q hq => by
  have h1 := own_lt h hq
  refine ⟨h1.1, h1.2, ?_⟩
  rcases h.2 with ⟨rfl, _⟩ | ⟨g, cap, cur, rfl, _, hgb, _⟩
  · cases hq
  · obtain rfl : g = q := by simpa [Value.ownBlock] using hq
    exact ⟨_, hgb, rfl⟩

set_option maxRecDepth 100000 in
set_option maxHeartbeats 8000000 in
theorem segments_any {A : Option Addr} {n c : Nat} {l : List Int} {w : World} (h : RowI w A n c l) (near : Near l) (s f t : Int) (hf : 0 ≤ f) (hft : f ≤ t) (htn : t ≤ n) (hn : n ≤ 900) (hs : -9223372036854775808 ≤ s ∧ s ≤ 9223372036854775807) :
    Calls Try.prog 11 #[.int .i64 s, .int .i64 f, .int .i64 t, .slice A n c] w fun e w' => ∃ (ys : List (Pc t)) (A1 : Option Addr) (c1 : Nat) (A2 : Option Addr) (c2 : Nat), e = .returned (.tuple #[.slice A1 ys.length c1, .slice A2 ys.length c2]) ∧
      ys.map (·.1) = (pcs s f t (t - f).toNat).1 ∧ RowI w' A1 ys.length c1 (ys.map pN) ∧ RowI w' A2 ys.length c2 (ys.map (pB l)) ∧ Below w.heap.size w w' := by
  obtain ⟨i0, hi, hz0, hz1, hz2⟩ := info_parts Try.info3
  have HR := Lib.hid h
  have NR := Lib.hid near
  clear h near
  refine callsIn_wide (n := 9) |>.1 ?_
  have hF1 : Fence.wide.fn 18 := trivial
  have hF2 : Fence.wide.fn 19 := trivial
  refine callsIn_of_wp_marks Try.func11 rfl trivial ?_ rfl
  simp only [Try.ntmps11, List.size_toArray, List.length_cons, List.length_nil, Nat.reduceAdd, Nat.reduceSub, Array.replicate_succ, Array.replicate_zero, List.push_toArray, List.append_toArray, List.nil_append, List.cons_append]
  have hf1 : decide (f < 0) = false := by simpa using hf
  have htn1 : decide ((n : Int) < t) = false := by simpa using htn
  gi_wp2_with (gi_at_call 18; refine (callsIn_wide.2 (pieces_any _ _ _ _)).mono ?_; rintro e w' ⟨rfl, rfl⟩)
  have bE := Boxed.new w 22 (.slice A n c)
  have bP := Boxed.new (w.alloc (.cells #[.slice A n c] 22)) 22 (.slice none 0 0)
  have bB := Boxed.new ((w.alloc (.cells #[.slice A n c] 22)).alloc (.cells #[.slice none 0 0] 22)) 22 (.slice none 0 0)
  obtain ⟨W3, hW3⟩ : ∃ W3, ((w.alloc (.cells #[.slice A n c] 22)).alloc (.cells #[.slice none 0 0] 22)).alloc (.cells #[.slice none 0 0] 22) = W3 := ⟨_, rfl⟩
  have hB3 : Below w.heap.size w W3 := by rw [← hW3]; exact (((Below.refl _ w).alloc (Nat.le_refl _) _).alloc (by simp) _).alloc (by simp; omega) _
  have hz3 : W3.heap.size = w.heap.size + 1 + 1 + 1 := by rw [← hW3]; simp
  rw [World.size_alloc] at bP
  rw [World.size_alloc, World.size_alloc] at bB
  have bE3 : Boxed W3 w.heap.size 22 (.slice A n c) := by rw [← hW3]; exact (bE.alloc _).alloc _
  have bP3 : Boxed W3 (w.heap.size + 1) 22 (.slice none 0 0) := by rw [← hW3]; exact bP.alloc _
  have bB3 : Boxed W3 (w.heap.size + 1 + 1) 22 (.slice none 0 0) := by rw [← hW3]; exact bB
  obtain ⟨W6, hW6⟩ : ∃ W6, ((W3.alloc (.cells #[.int .i64 s] 3)).alloc (.cells #[.int .i64 f] 3)).alloc (.cells #[.int .i64 t] 3) = W6 := ⟨_, rfl⟩
  have hB6 : Below w.heap.size w W6 := by rw [← hW6]; exact ((hB3.alloc hB3.size _).alloc (by simp; omega) _).alloc (by simp; omega) _
  have hz6 : W6.heap.size = w.heap.size + 1 + 1 + 1 + 1 + 1 + 1 := by rw [← hW6]; simp [hz3]
  have bE6 : Boxed W6 w.heap.size 22 (.slice A n c) := by rw [← hW6]; exact ((bE3.alloc _).alloc _).alloc _
  have bP6 : Boxed W6 (w.heap.size + 1) 22 (.slice none 0 0) := by rw [← hW6]; exact ((bP3.alloc _).alloc _).alloc _
  have bB6 : Boxed W6 (w.heap.size + 1 + 1) 22 (.slice none 0 0) := by rw [← hW6]; exact ((bB3.alloc _).alloc _).alloc _
  have bs : Boxed W6 (w.heap.size + 1 + 1 + 1) 3 (.int .i64 s) := by
    rw [← hW6, ← hz3]; exact ((Boxed.new W3 3 _).alloc _).alloc _
  have bf : Boxed W6 (w.heap.size + 1 + 1 + 1 + 1) 3 (.int .i64 f) := by
    have := Boxed.new (W3.alloc (.cells #[.int .i64 s] 3)) 3 (.int .i64 f)
    rw [World.size_alloc, hz3] at this
    rw [← hW6]; exact this.alloc _
  have bt : Boxed W6 (w.heap.size + 1 + 1 + 1 + 2) 3 (.int .i64 t) := by
    have := Boxed.new ((W3.alloc (.cells #[.int .i64 s] 3)).alloc (.cells #[.int .i64 f] 3)) 3 (.int .i64 t)
    rw [World.size_alloc, World.size_alloc, hz3] at this
    rw [← hW6]; exact this
  rw [hW3, hW6]
  have HR6 := Lib.hid (HR.out.keep hB6 (Nat.le_refl _))
  clear hW3 hW6 hB3 hz3 bE bP bB bE3 bP3 bB3
  have hF : Fence.wide.fn 22 := trivial
  refine wpIn_rangeFunc_ownF rfl (by omega) (gf := 22) (lb := #[.pointer (some ⟨w.heap.size + 1 + 1 + 1 + 1, 0, none⟩), .pointer (some ⟨w.heap.size + 1 + 1 + 1 + 2, 0, none⟩), .pointer (some ⟨w.heap.size + 1 + 1 + 1, 0, none⟩)]) rfl hF (enters_of Try.func22 (by kernel_rfl) rfl)
    (pieces_sub (9 - 1) (by omega) (w.heap.size + 1 + 1 + 1) s f t hf hft (by omega) hs W6 (by omega) bs.cell bf.cell bt.cell) keep3_t (keep3_b (by omega)) (Below.refl _ _) (fun _ => rfl)
    (fun (pre : List (Pc t)) W => TwoRows w.heap.size W6.heap.size W (pre.map pN) (pre.map (pB l)) ∧ Boxed W w.heap.size 22 (.slice A n c) ∧ Below w.heap.size w W ∧ W6.heap.size ≤ W.heap.size)
    (fun _ _ _ => False)
    ?hI
    (fun _ _ _ _ _ hs _ _ => hs)
    ?h0
    (fun x => { tmps := #[.int .i64 s, .int .i64 f, .int .i64 t, .slice A n c, undef, undef, undef, .pointer (some ⟨w.heap.size, 0, none⟩), .pointer (some ⟨w.heap.size + 1, 0, none⟩), .pointer (some ⟨w.heap.size + 1 + 1, 0, none⟩), .int .i64 x.1.1, .int .i64 x.1.2, .int .i64 f, .bool false, .bool false, .int .i64 t, .slice A n c, .int .i64 n, .bool false, .bool false, .int .i64 s, .int .i64 f, .int .i64 t, .func (.func 22) #[] #[.pointer (some ⟨w.heap.size + 1 + 1 + 1 + 1, 0, none⟩), .pointer (some ⟨w.heap.size + 1 + 1 + 1 + 2, 0, none⟩), .pointer (some ⟨w.heap.size + 1 + 1 + 1, 0, none⟩)], .int .i64 x.1.1, .int .i64 x.1.2, undef, undef, undef, undef, undef, undef, undef, undef, undef, undef, undef, undef, undef, undef, undef, undef, undef, undef], defers := [] }) ?assign ?body ?done ?stop
  case hI =>
    exact OwnFrom.and (Own.from (TwoRows.own w.heap.size W6.heap.size (fun pre : List (Pc t) => pre.map pN) (fun pre => pre.map (pB l))) _) (OwnFrom.and (Own.from (fun _ _ _ _ hs hg hr => boxed_own' hs hg hr) _) (OwnFrom.and (ownFrom_below (Nat.le_refl _) (by omega)) (fun _ _ _ _ hs hg _ => Nat.le_trans hs hg.size)))
  case h0 =>
    exact ⟨⟨_, _, bP6, bB6, World.ownsRow_nil _ _ _ _, World.ownsRow_nil _ _ _ _, by simp [Value.ownBlock]⟩, bE6, hB6, Nat.le_refl _⟩
  case assign =>
    intro l x W K hK
    gi_wp2
    exact hK
  case body =>
    rintro lr pre x W ⟨⟨v1, v2, b1, b2, r1, r2, hd⟩, bE, hB, hN⟩ hlt
    obtain ⟨⟨x1, x2⟩, hx1, hx2, hx3⟩ := x
    simp only at hx1 hx2 hx3
    have hlt1 : pre.length < 1000 := by omega
    have hl1 := r1.1
    simp only [List.length_map] at r1 r2
    have c1 := b1.cell
    have HW6 := Lib.hid (And.intro bs (And.intro bf (And.intro bt (And.intro bE6 (And.intro bP6 (And.intro bB6 hB6))))))
    clear bs bf bt bE6 bP6 bB6 hB6 HR6
    obtain ⟨N, hNe⟩ : ∃ N, W6.heap.size = N := ⟨_, rfl⟩
    rw [hNe] at r1 r2 hN hz6
    have HNe := Lib.hid hNe
    have HZ6 := Lib.hid hz6
    clear hNe
    gi_wp2_with (gi_at_builtin; refine wpListIn_append_own_at _ rfl _ _ 22 rfl N 3 i0 (.int .i64 0) 1 8 Try.underlying22 hi hz0 hz1 hz2 rfl (by decide) v1 _ _ rfl (r1.alloc _) ⟨W.heap.size, 0, none⟩ 1 1 [.int .i64 (x2 - x1)] rfl rfl (cell_one_new _ _ _) (by simp [Value.oneCell']) (by unfold maxLen; omega) (by omega) (by simp; omega) ?_; intro v' w1 hown' hgrow _ hat; obtain ⟨g', cap', rfl⟩ := ownsRow_succ hown'; obtain ⟨hv1, hv2, hr2, s2, d2, ko2, low2, hb2⟩ := app_step (H := w.heap.size) (by omega) (by omega) hN b1 (row_blocks r1) r2 hd hown' hgrow hat; have hc1 := hv1.cell; have hf1 := hv1.frozen)
    obtain ⟨X, hX⟩ : ∃ X, w1.setCell ⟨w.heap.size + 1, 0, none⟩ (.slice (some ⟨g', 0, none⟩) (pre.length + 1) cap') = X := ⟨_, rfl⟩
    have tE : Boxed X w.heap.size 22 (.slice A n c) := by rw [← hX]; exact (low2 _ (by omega) (by omega)).trans bE
    have t2 : Boxed X (w.heap.size + 1 + 1) 22 v2 := by rw [← hX]; exact (low2 _ (by omega) (by omega)).trans b2
    rw [hX] at hv2 hr2 s2 ko2 low2 hb2 ⊢
    have hBB := hB.trans hb2
    have hNX : N ≤ X.heap.size := by have := hb2.size; omega
    have hcE := tE.cell
    have hcB := t2.cell
    have q1 := bef_bd NR.out x1
    have q2 := bef_bd NR.out x2
    have hRX2 : RowI X.drew A n c l := (HR.out.keep hBB (Nat.le_refl _)).drew (Drew.mk X 1)
    obtain ⟨o9, ho9⟩ : ∃ o9, Obj.cells #[.int .i64 (bef l x2 - bef l x1)] 3 = o9 := ⟨_, rfl⟩
    obtain ⟨u', w9, hr, hown9, hgrow9, _, hat9⟩ := run_append_own_at (P := Try.prog) (X.alloc o9).drew N 22 22 3 i0 (.int .i64 0) 1 8 Try.underlying22 hi hz0 hz1 hz2 rfl (by decide) v2 pre.length _ (s2.alloc o9 : (X.alloc o9).drew.ownsRow _ _ _ _ _ _) ⟨X.heap.size, 0, none⟩ 1 1 [.int .i64 (bef l x2 - bef l x1)] rfl (by rw [← ho9]; exact cell_one_new X _ _) (by simp [Value.oneCell']) (by unfold maxLen; omega) (by omega) (by show _ ≤ (X.alloc o9).heap.size; simp; omega)
    obtain ⟨g9, cap9, rfl⟩ := ownsRow_succ hown9
    have hr9 : (appSem #[22, 22] 22 #[v2, .slice (some ⟨X.heap.size, 0, none⟩) 1 1]).run Try.prog (X.alloc (Obj.cells #[.int .i64 (bef l x2 - bef l x1)] 3)).drew = .ok (.slice (some ⟨g9, 0, none⟩) (pre.length + 1) cap9) w9 := by rw [ho9]; exact hr
    have hg9 : (X.alloc o9).grownBy w9 v2.ownBlock := ⟨hgrow9.os, hgrow9.tape, hgrow9.output, hgrow9.size, hgrow9.block⟩
    obtain ⟨hv1', hv3, hr3, s3, d3, ko3, low3, hb3⟩ := app_step (H := w.heap.size) (by omega) (by omega) hNX t2 (row_blocks s2) hr2 (fun g h1 h2 => d2 g h2 h1) hown9 hg9 hat9
    have hc9 := hv1'.cell
    have hf9 := hv1'.frozen
    have hcB8 : (X.alloc (Obj.cells #[.int .i64 (bef l x2 - bef l x1)] 3)).cell? ⟨w.heap.size + 1 + 1, 0, none⟩ = some v2 := (t2.alloc _).cell
    have hwr : IntKind.i64.wrap (bef l x2 - bef l x1) = bef l x2 - bef l x1 := IntWalk.i64_in _ (by omega)
    have hmo : Try.prog.follows .mixedOrders = true := by kernel_rfl
    have HQ : Hid (pB l (⟨(x1, x2), hx1, hx2, hx3⟩ : Pc t) = bef l x2 - bef l x1 ∧ pN (⟨(x1, x2), hx1, hx2, hx3⟩ : Pc t) = x2 - x1) := Lib.hid ⟨rfl, rfl⟩
    have HZ := Lib.hid (And.intro hr2 (And.intro ko2 (And.intro low2 (And.intro hb2 (And.intro hv2 (And.intro hr3 (And.intro s3 (And.intro d3 (And.intro ko3 (And.intro low3 (And.intro hb3 (And.intro hv3 tE))))))))))))
    have HY := Lib.hid (And.intro hB (And.intro hBB (And.intro hX hNX)))
    clear hr ho9 hv1 hgrow hat hown' hc1 b1 b2 r1 r2 hd bE c1 hr2 ko2 low2 hb2 hv1' hv2 s2 d2 hv3 hr3 s3 d3 ko3 low3 hb3 hown9 hgrow9 hg9 hat9 hX hB hBB tE t2 HR HW6 hl1 hlt hlt1 hf1 htn1 hN hNX hz6 i0 hi hz0 hz1 hz2
    refine regionIn_inv (Inv := fun L a' w' => a' = { tmps := #[.int .i64 s, .int .i64 f, .int .i64 t, .slice A n c, undef, undef, undef, .pointer (some ⟨w.heap.size, 0, none⟩), .pointer (some ⟨w.heap.size + 1, 0, none⟩), .pointer (some ⟨w.heap.size + 1 + 1, 0, none⟩), .int .i64 x1, .int .i64 x2, .int .i64 f, .bool false, .bool false, .int .i64 t, .slice A n c, .int .i64 n, .bool false, .bool false, .int .i64 s, .int .i64 f, .int .i64 t, .func (.func 22) #[] #[.pointer (some ⟨w.heap.size + 1 + 1 + 1 + 1, 0, none⟩), .pointer (some ⟨w.heap.size + 1 + 1 + 1 + 2, 0, none⟩), .pointer (some ⟨w.heap.size + 1 + 1 + 1, 0, none⟩)], .int .i64 x1, .int .i64 x2, v1, .int .i64 x2, .int .i64 x1, .int .i64 (x2 - x1), .slice (some ⟨W.heap.size, 0, none⟩) 1 1, .slice (some ⟨g', 0, none⟩) (pre.length + 1) cap', bif L 0 then v2 else undef, bif L 1 then .slice A n c else undef, bif L 2 then .int .i64 x2 else undef, bif L 3 then .int .i64 (bef l x2) else undef, bif L 4 then .slice A n c else undef, bif L 5 then .int .i64 x1 else undef, bif L 6 then .int .i64 (bef l x1) else undef, bif L 7 then .int .i64 (bef l x2 - bef l x1) else undef, bif L 8 then .slice (some ⟨X.heap.size, 0, none⟩) 1 1 else undef, bif L 9 then .slice (some ⟨g9, 0, none⟩) (pre.length + 1) cap9 else undef, undef, undef], defers := [] } ∧ w' = (bif L 10 then w9.setCell ⟨w.heap.size + 1 + 1, 0, none⟩ (.slice (some ⟨g9, 0, none⟩) (pre.length + 1) cap9) else bif L 9 then w9 else bif L 8 then (X.alloc (Obj.cells #[.int .i64 (bef l x2 - bef l x1)] 3)).drew else X.drew)) hmo (by kernel_rfl) ⟨rfl, rfl⟩ ?step ?fin
    case step =>
      intro i hi L a' w' hI hs hu
      obtain ⟨rfl, rfl⟩ := hI
      have hL := hu.1
      have hi : i < 11 := hi
      obtain rfl | rfl | rfl | rfl | rfl | rfl | rfl | rfl | rfl | rfl | rfl := (by omega : i = 0 ∨ i = 1 ∨ i = 2 ∨ i = 3 ∨ i = 4 ∨ i = 5 ∨ i = 6 ∨ i = 7 ∨ i = 8 ∨ i = 9 ∨ i = 10)
      · trace "op 0"
        have n9 : L 9 = false := not_yet hL fun h => shut_at hs 9 0 (by kernel_rfl) (h)
        have n10 : L 10 = false := not_yet hL fun h => shut_at hs 10 0 (by kernel_rfl) (h)
        cases h8 : L 8
        · skip
          refine opIn_run (v := v2) (w' := X.drew) rfl rfl (fun c h => by cases h) (fun _ => trivial) ?_ ⟨by simp [Act.put, upd, n9, n10, h8, hL], by simp [upd, n9, n10, h8, hL]⟩
          simp only [n9, n10, h8, cond_true, cond_false]
          go_simp
        · skip
          refine opIn_run (v := v2) (w' := (X.alloc (Obj.cells #[.int .i64 (bef l x2 - bef l x1)] 3)).drew) rfl rfl (fun c h => by cases h) (fun _ => trivial) ?_ ⟨by simp [Act.put, upd, n9, n10, h8, hL], by simp [upd, n9, n10, h8, hL]⟩
          simp only [n9, n10, h8, cond_true, cond_false]
          go_simp
      · trace "op 1"
        have n8 : L 8 = false := not_yet hL fun h => shut_at hs 3 1 (by kernel_rfl) (shut_at hs 7 3 (by kernel_rfl) (shut_at hs 8 7 (by kernel_rfl) (h)))
        have n9 : L 9 = false := not_yet hL fun h => shut_at hs 3 1 (by kernel_rfl) (shut_at hs 6 3 (by kernel_rfl) (shut_at hs 9 6 (by kernel_rfl) (h)))
        have n10 : L 10 = false := not_yet hL fun h => shut_at hs 10 1 (by kernel_rfl) (h)
        refine opIn_run (v := .slice A n c) (w' := X.drew) rfl rfl (fun c h => by cases h) (fun _ => trivial) ?_ ⟨by simp [Act.put, upd, n8, n9, n10, hL], by simp [upd, n8, n9, n10, hL]⟩
        simp only [n8, n9, n10, cond_true, cond_false]
        go_simp
      · trace "op 2"
        have n8 : L 8 = false := not_yet hL fun h => shut_at hs 3 2 (by kernel_rfl) (shut_at hs 7 3 (by kernel_rfl) (shut_at hs 8 7 (by kernel_rfl) (h)))
        have n9 : L 9 = false := not_yet hL fun h => shut_at hs 3 2 (by kernel_rfl) (shut_at hs 6 3 (by kernel_rfl) (shut_at hs 9 6 (by kernel_rfl) (h)))
        have n10 : L 10 = false := not_yet hL fun h => shut_at hs 10 2 (by kernel_rfl) (h)
        refine opIn_run (v := .int .i64 x2) (w' := X.drew) rfl rfl (fun c h => by cases h) (fun _ => trivial) ?_ ⟨by simp [Act.put, upd, n8, n9, n10, hL], by simp [upd, n8, n9, n10, hL]⟩
        simp only [n8, n9, n10, cond_true, cond_false]
        go_simp
      · trace "op 3"
        have y1 : L 1 = true := up_at hu 1 (by kernel_rfl)
        have y2 : L 2 = true := up_at hu 2 (by kernel_rfl)
        have n8 : L 8 = false := not_yet hL fun h => shut_at hs 7 3 (by kernel_rfl) (shut_at hs 8 7 (by kernel_rfl) (h))
        have n9 : L 9 = false := not_yet hL fun h => shut_at hs 6 3 (by kernel_rfl) (shut_at hs 9 6 (by kernel_rfl) (h))
        have n10 : L 10 = false := not_yet hL fun h => shut_at hs 10 3 (by kernel_rfl) (h)
        refine opIn_call (f := 19) (args := #[.slice A n c, .int .i64 x2]) (w' := X.drew) rfl rfl (fun c h => by cases h) (fun _ => trivial) rfl ?_ ((CallsIn.inRound lr (callsIn_wide.2 (before_any hRX2 x2 (by omega) (by omega)))).mono ?_)
        · simp only [y1, y2, n8, n9, n10, cond_true, cond_false]
          go_simp
        · rintro e w'' ⟨rfl, rfl⟩
          exact ⟨_, rfl, by simp [Act.put, upd, y1, y2, n8, n9, n10, hL], by simp [upd, y1, y2, n8, n9, n10, hL]⟩
      · trace "op 4"
        have n8 : L 8 = false := not_yet hL fun h => shut_at hs 6 4 (by kernel_rfl) (shut_at hs 7 6 (by kernel_rfl) (shut_at hs 8 7 (by kernel_rfl) (h)))
        have n9 : L 9 = false := not_yet hL fun h => shut_at hs 6 4 (by kernel_rfl) (shut_at hs 9 6 (by kernel_rfl) (h))
        have n10 : L 10 = false := not_yet hL fun h => shut_at hs 10 4 (by kernel_rfl) (h)
        refine opIn_run (v := .slice A n c) (w' := X.drew) rfl rfl (fun c h => by cases h) (fun _ => trivial) ?_ ⟨by simp [Act.put, upd, n8, n9, n10, hL], by simp [upd, n8, n9, n10, hL]⟩
        simp only [n8, n9, n10, cond_true, cond_false]
        go_simp
      · trace "op 5"
        have n8 : L 8 = false := not_yet hL fun h => shut_at hs 6 5 (by kernel_rfl) (shut_at hs 7 6 (by kernel_rfl) (shut_at hs 8 7 (by kernel_rfl) (h)))
        have n9 : L 9 = false := not_yet hL fun h => shut_at hs 6 5 (by kernel_rfl) (shut_at hs 9 6 (by kernel_rfl) (h))
        have n10 : L 10 = false := not_yet hL fun h => shut_at hs 10 5 (by kernel_rfl) (h)
        refine opIn_run (v := .int .i64 x1) (w' := X.drew) rfl rfl (fun c h => by cases h) (fun _ => trivial) ?_ ⟨by simp [Act.put, upd, n8, n9, n10, hL], by simp [upd, n8, n9, n10, hL]⟩
        simp only [n8, n9, n10, cond_true, cond_false]
        go_simp
      · trace "op 6"
        have y1 : L 1 = true := shut_at hs 3 1 (by kernel_rfl) (up_at hu 3 (by kernel_rfl))
        have y2 : L 2 = true := shut_at hs 3 2 (by kernel_rfl) (up_at hu 3 (by kernel_rfl))
        have y3 : L 3 = true := up_at hu 3 (by kernel_rfl)
        have y4 : L 4 = true := up_at hu 4 (by kernel_rfl)
        have y5 : L 5 = true := up_at hu 5 (by kernel_rfl)
        have n8 : L 8 = false := not_yet hL fun h => shut_at hs 7 6 (by kernel_rfl) (shut_at hs 8 7 (by kernel_rfl) (h))
        have n9 : L 9 = false := not_yet hL fun h => shut_at hs 9 6 (by kernel_rfl) (h)
        have n10 : L 10 = false := not_yet hL fun h => shut_at hs 10 6 (by kernel_rfl) (h)
        refine opIn_call (f := 19) (args := #[.slice A n c, .int .i64 x1]) (w' := X.drew) rfl rfl (fun c h => by cases h) (fun _ => trivial) rfl ?_ ((CallsIn.inRound lr (callsIn_wide.2 (before_any hRX2 x1 (by omega) (by omega)))).mono ?_)
        · simp only [y1, y2, y3, y4, y5, n8, n9, n10, cond_true, cond_false]
          go_simp
        · rintro e w'' ⟨rfl, rfl⟩
          exact ⟨_, rfl, by simp [Act.put, upd, y1, y2, y3, y4, y5, n8, n9, n10, hL], by simp [upd, y1, y2, y3, y4, y5, n8, n9, n10, hL]⟩
      · trace "op 7"
        have y1 : L 1 = true := shut_at hs 3 1 (by kernel_rfl) (up_at hu 3 (by kernel_rfl))
        have y2 : L 2 = true := shut_at hs 3 2 (by kernel_rfl) (up_at hu 3 (by kernel_rfl))
        have y3 : L 3 = true := up_at hu 3 (by kernel_rfl)
        have y4 : L 4 = true := shut_at hs 6 4 (by kernel_rfl) (up_at hu 6 (by kernel_rfl))
        have y5 : L 5 = true := shut_at hs 6 5 (by kernel_rfl) (up_at hu 6 (by kernel_rfl))
        have y6 : L 6 = true := up_at hu 6 (by kernel_rfl)
        have n8 : L 8 = false := not_yet hL fun h => shut_at hs 8 7 (by kernel_rfl) (h)
        have n9 : L 9 = false := not_yet hL fun h => shut_at hs 8 7 (by kernel_rfl) (shut_at hs 9 8 (by kernel_rfl) (h))
        have n10 : L 10 = false := not_yet hL fun h => shut_at hs 10 7 (by kernel_rfl) (h)
        refine opIn_run (v := .int .i64 (bef l x2 - bef l x1)) (w' := X.drew) rfl rfl (fun c h => by cases h) (fun _ => trivial) ?_ ⟨by simp [Act.put, upd, y1, y2, y3, y4, y5, y6, n8, n9, n10, hL], by simp [upd, y1, y2, y3, y4, y5, y6, n8, n9, n10, hL]⟩
        simp only [y1, y2, y3, y4, y5, y6, n8, n9, n10, cond_true, cond_false]
        go_simp
      · trace "op 8"
        have y1 : L 1 = true := shut_at hs 3 1 (by kernel_rfl) (shut_at hs 7 3 (by kernel_rfl) (up_at hu 7 (by kernel_rfl)))
        have y2 : L 2 = true := shut_at hs 3 2 (by kernel_rfl) (shut_at hs 7 3 (by kernel_rfl) (up_at hu 7 (by kernel_rfl)))
        have y3 : L 3 = true := shut_at hs 7 3 (by kernel_rfl) (up_at hu 7 (by kernel_rfl))
        have y4 : L 4 = true := shut_at hs 6 4 (by kernel_rfl) (shut_at hs 7 6 (by kernel_rfl) (up_at hu 7 (by kernel_rfl)))
        have y5 : L 5 = true := shut_at hs 6 5 (by kernel_rfl) (shut_at hs 7 6 (by kernel_rfl) (up_at hu 7 (by kernel_rfl)))
        have y6 : L 6 = true := shut_at hs 7 6 (by kernel_rfl) (up_at hu 7 (by kernel_rfl))
        have y7 : L 7 = true := up_at hu 7 (by kernel_rfl)
        have n9 : L 9 = false := not_yet hL fun h => shut_at hs 9 8 (by kernel_rfl) (h)
        have n10 : L 10 = false := not_yet hL fun h => shut_at hs 10 8 (by kernel_rfl) (h)
        refine opIn_run (v := .slice (some ⟨X.heap.size, 0, none⟩) 1 1) (w' := (X.alloc (Obj.cells #[.int .i64 (bef l x2 - bef l x1)] 3)).drew) rfl rfl (fun c h => by cases h) (fun _ => trivial) ?_ ⟨by simp [Act.put, upd, y1, y2, y3, y4, y5, y6, y7, n9, n10, hL], by simp [upd, y1, y2, y3, y4, y5, y6, y7, n9, n10, hL]⟩
        simp only [y1, y2, y3, y4, y5, y6, y7, n9, n10, cond_true, cond_false]
        go_simp
      · trace "op 9"
        have y0 : L 0 = true := up_at hu 0 (by kernel_rfl)
        have y1 : L 1 = true := shut_at hs 3 1 (by kernel_rfl) (shut_at hs 6 3 (by kernel_rfl) (up_at hu 6 (by kernel_rfl)))
        have y2 : L 2 = true := shut_at hs 3 2 (by kernel_rfl) (shut_at hs 6 3 (by kernel_rfl) (up_at hu 6 (by kernel_rfl)))
        have y3 : L 3 = true := shut_at hs 6 3 (by kernel_rfl) (up_at hu 6 (by kernel_rfl))
        have y4 : L 4 = true := shut_at hs 6 4 (by kernel_rfl) (up_at hu 6 (by kernel_rfl))
        have y5 : L 5 = true := shut_at hs 6 5 (by kernel_rfl) (up_at hu 6 (by kernel_rfl))
        have y6 : L 6 = true := up_at hu 6 (by kernel_rfl)
        have y7 : L 7 = true := shut_at hs 8 7 (by kernel_rfl) (up_at hu 8 (by kernel_rfl))
        have y8 : L 8 = true := up_at hu 8 (by kernel_rfl)
        have n10 : L 10 = false := not_yet hL fun h => shut_at hs 10 9 (by kernel_rfl) (h)
        refine opIn_run (v := .slice (some ⟨g9, 0, none⟩) (pre.length + 1) cap9) (w' := w9) rfl rfl (fun c h => by cases h) (fun _ => trivial) ?_ ⟨by simp [Act.put, upd, y0, y1, y2, y3, y4, y5, y6, y7, y8, n10, hL], by simp [upd, y0, y1, y2, y3, y4, y5, y6, y7, y8, n10, hL]⟩
        simp only [y0, y1, y2, y3, y4, y5, y6, y7, y8, n10, cond_true, cond_false]
        go_simp
      · trace "op 10"
        have y0 : L 0 = true := up_at hu 0 (by kernel_rfl)
        have y1 : L 1 = true := up_at hu 1 (by kernel_rfl)
        have y2 : L 2 = true := up_at hu 2 (by kernel_rfl)
        have y3 : L 3 = true := up_at hu 3 (by kernel_rfl)
        have y4 : L 4 = true := up_at hu 4 (by kernel_rfl)
        have y5 : L 5 = true := up_at hu 5 (by kernel_rfl)
        have y6 : L 6 = true := up_at hu 6 (by kernel_rfl)
        have y7 : L 7 = true := up_at hu 7 (by kernel_rfl)
        have y8 : L 8 = true := up_at hu 8 (by kernel_rfl)
        have y9 : L 9 = true := up_at hu 9 (by kernel_rfl)
        refine opIn_skip (w' := w9.setCell ⟨w.heap.size + 1 + 1, 0, none⟩ (.slice (some ⟨g9, 0, none⟩) (pre.length + 1) cap9)) rfl rfl (fun c h => by cases h) (fun _ => trivial) ?_ ⟨by simp [Act.put, upd, y0, y1, y2, y3, y4, y5, y6, y7, y8, y9, hL], by simp [upd, y0, y1, y2, y3, y4, y5, y6, y7, y8, y9, hL]⟩
        simp only [y0, y1, y2, y3, y4, y5, y6, y7, y8, y9, hL, cond_true, cond_false]
        go_simp
    case fin =>
      rintro L a' w' hall ⟨rfl, rfl⟩
      have l10 := hall 10 (by decide)
      simp only [l10, cond_true]
      obtain ⟨hr2, ko2, low2, hb2, hv2, hr3, s3, d3, ko3, low3, hb3, hv3, tE⟩ := HZ.out
      obtain ⟨hB, hBB, hX, hNX⟩ := HY.out
      have hz6 := HZ6.out
      have e1 : (pre ++ [(⟨(x1, x2), hx1, hx2, hx3⟩ : Pc t)]).map pN = pre.map pN ++ [x2 - x1] := by rw [List.map_append]; rfl
      have e2 : (pre ++ [(⟨(x1, x2), hx1, hx2, hx3⟩ : Pc t)]).map (pB l) = pre.map (pB l) ++ [bef l x2 - bef l x1] := by rw [List.map_append]; rfl
      refine ⟨ko2.trans ko3, fun k hk => World.cell?_of_block (w := W) (a := ⟨w.heap.size + 1 + 1 + 1 + k, 0, none⟩) ((low3 (w.heap.size + 1 + 1 + 1 + k) (by omega) (by omega)).trans (low2 (w.heap.size + 1 + 1 + 1 + k) (by omega) (by omega))), ⟨_, _, (low3 _ (by omega) (by omega)).trans hv2, hv3, ?_, ?_, fun g h1 h2 => d3 g h2 h1⟩, (low3 _ (by omega) (by omega)).trans tE, hBB.trans hb3, ?_⟩
      · rw [e1, HNe.out, List.map_append, List.length_append, List.length_map]; exact s3
      · rw [e2, HNe.out, List.map_append, List.length_append, List.length_map]; exact hr3
      · rw [HNe.out]; have := hb3.size; omega
  case done =>
    rintro D ys W hD hys ⟨⟨v1, v2, b1, b2, r1, r2, hd⟩, bE, hB, hN⟩ hK
    simp only [List.length_map] at r1 r2
    obtain ⟨A1, k1, rfl, hA1, hk1, hm1⟩ := own_any r1
    obtain ⟨A2, k2, rfl, hA2, hk2, hm2⟩ := own_any r2
    have c1 := b1.cell
    have c2 := b2.cell
    have f1 := b1.frozen
    have f2 := b2.frozen
    have HD := Lib.hid (And.intro r1 (And.intro r2 (And.intro b1 (And.intro b2 (And.intro hB (And.intro hK hD))))))
    clear r1 r2 b1 b2 hB hd bE hN hA1 hA2 hK hD bs bf bt bE6 bP6 bB6 hB6 HR6
    gi_wp2
    gi_region
    obtain ⟨r1, r2, b1, b2, hB, hK, hD⟩ := HD.out
    obtain ⟨W8, hW8⟩ : ∃ W8, ((W.setCell ⟨w.heap.size + 1, 0, none⟩ (.slice A1 ys.length k1)).setCell ⟨w.heap.size + 1 + 1, 0, none⟩ (.slice A2 ys.length k2)).drew = W8 := ⟨_, rfl⟩
    have b1' : Boxed W8 (w.heap.size + 1) 22 (.slice A1 ys.length k1) := by
      have h := (b1.set (.slice A1 ys.length k1)).kept (grownBy_setCell' _ (w.heap.size + 1 + 1) (.slice A2 ys.length k2)) (by simp)
      rw [← hW8]; exact h
    have b2' : Boxed W8 (w.heap.size + 1 + 1) 22 (.slice A2 ys.length k2) := by
      have h := (b2.kept (grownBy_setCell' W (w.heap.size + 1) (.slice A1 ys.length k1)) (by simp)).set (.slice A2 ys.length k2)
      rw [← hW8]; exact h
    have hset : ∀ k, k ≠ w.heap.size + 1 → k ≠ w.heap.size + 1 + 1 → W8.heap[k]? = W.heap[k]? := fun k h1 h2 => by
      rw [← hW8]
      exact (Below.heap_setCell _ _ _ k h2).trans (Below.heap_setCell _ _ _ k h1)
    have hsz : W8.heap.size = W.heap.size := by rw [← hW8]; simp [World.setCell, World.drew]
    have hK8 : W8.heap[D]? = some (.deferred (some [])) := (hset D (by omega) (by omega)).trans hK
    have r1' := ownsRow_keep r1 (by omega) fun k hk => hset k (by have := own_lt r1 hk; omega) (by have := own_lt r1 hk; omega)
    have r2' := ownsRow_keep r2 (by omega) fun k hk => hset k (by have := own_lt r2 hk; omega) (by have := own_lt r2 hk; omega)
    have hB8 : Below w.heap.size w W8 := by rw [← hW8]; exact below_drewN ((hB.setCell (p := ⟨w.heap.size + 1, 0, none⟩) (by show _ ≤ w.heap.size + 1; omega) _).setCell (p := ⟨w.heap.size + 1 + 1, 0, none⟩) (by show _ ≤ w.heap.size + 1 + 1; omega) _) 1
    rw [hW8]
    have HB := Lib.hid (And.intro r1' (And.intro r2' hB8))
    clear hW8 hset r1 r2 r1' r2' hB8 hB HD b1 b2 c1 c2 f1 f2
    gi_wp2
    refine ⟨by simp, .inl ⟨_, _, rfl, run_takeDeferred hK8, ?_⟩⟩
    obtain ⟨r1', r2', hB8⟩ := HB.out
    have g1 := cell_kept b1'.cell (grownBy_putObj' W8 D (.deferred none)) (fun r e => by cases e; exact ⟨_, hK8, rfl⟩)
    have g2 := cell_kept b2'.cell (grownBy_putObj' W8 D (.deferred none)) (fun r e => by cases e; exact ⟨_, hK8, rfl⟩)
    have o1 := ownsRow_putObj r1' (.deferred none) hK8 rfl
    have o2 := ownsRow_putObj r2' (.deferred none) hK8 rfl
    refine ⟨.tuple #[.slice A1 ys.length k1, .slice A2 ys.length k2], by simp [results, Try.f11, go_sem, g1, g2], ys, A1, k1, A2, k2, rfl, hys, ?_, ?_, hB8.trans (belowK_b (w := w) (Nat.le_refl _) W8 D _ _ (by omega) hK8 rfl rfl)⟩
    · obtain ⟨A, c, e, h⟩ := rowI_own (n := ys.length) o1
      cases e; exact h
    · obtain ⟨A, c, e, h⟩ := rowI_own (n := ys.length) o2
      cases e; exact h
  case stop =>
    rintro D c pre W _ _ h _
    exact h.elim
end Go.Proofs.Ytglplhiafeopdaa
