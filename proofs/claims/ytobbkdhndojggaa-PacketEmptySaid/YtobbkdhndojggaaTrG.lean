/- Trees: a new tree of any sides. -/
import Derived.Test.YtobbkdhndojggaaTrO
import Derived.Test.YtobbkdhndojggaaTrM
set_option linter.unusedVariables false
set_option linter.unusedSimpArgs false
namespace Go.Proofs.Ytobbkdhndojggaa
open Go.RowKit
set_option maxRecDepth 100000
/-- Fresh nodes of all levels. -/
def T0 : TT := fun _ _ => ⟨0, 0, false⟩
def tblS (s : Nat × Nat × Nat) : List Value := tbl s.1 s.2.1 s.2.2
theorem tblS_len (s : Nat × Nat × Nat) : (tblS s).length = 3 := rfl
theorem tbls_get (sh : Sh) : ∀ (i : Nat) (a : Nat × Nat × Nat), sh[i]? = some a → (sh.flatMap tblS)[i * 3]? = some (.int .i64 (a.1 : Int)) ∧ (sh.flatMap tblS)[i * 3 + 1]? = some (.int .i64 (a.2.1 : Int)) ∧ (sh.flatMap tblS)[i * 3 + 2]? = some (.slice (some ⟨a.2.2, 0, none⟩) (a.1 * a.2.1) (a.1 * a.2.1)) := by
  induction sh with
  | nil => intro i a h; simp at h
  | cons s sh ih =>
    intro i a h
    rw [List.flatMap_cons]
    cases i with
    | zero =>
      simp at h
      subst h
      exact ⟨rfl, rfl, rfl⟩
    | succ i =>
      have h' := ih i a (by simpa using h)
      rw [List.getElem?_append_right (by rw [tblS_len]; omega), List.getElem?_append_right (by rw [tblS_len]; omega), List.getElem?_append_right (by rw [tblS_len]; omega), tblS_len,
        show (i + 1) * 3 - 3 = i * 3 by omega, show (i + 1) * 3 + 1 - 3 = i * 3 + 1 by omega, show (i + 1) * 3 + 2 - 3 = i * 3 + 2 by omega]
      exact h'
theorem nodes0_get (n m : Nat) (hm : m < n) : (nodes0 n)[m * 3]? = some (.int .i64 0) ∧ (nodes0 n)[m * 3 + 1]? = some (.int .i64 0) ∧ (nodes0 n)[m * 3 + 2]? = some (.bool false) := by
  unfold nodes0
  simp only [madeCells, Array.getElem?_map]
  have e0 : (Array.range (n * 3))[m * 3]? = some (m * 3) := by rw [Array.getElem?_range]; simp; omega
  have e1 : (Array.range (n * 3))[m * 3 + 1]? = some (m * 3 + 1) := by rw [Array.getElem?_range]; simp; omega
  have e2 : (Array.range (n * 3))[m * 3 + 2]? = some (m * 3 + 2) := by rw [Array.getElem?_range]; simp; omega
  rw [e0, e1, e2]
  simp only [Option.map_some]
  refine ⟨?_, ?_, ?_⟩
  · rw [show m * 3 % (#[Value.int .i64 0, .int .i64 0, .bool false] : Array Value).size = 0 by show m * 3 % 3 = 0; omega]; rfl
  · rw [show (m * 3 + 1) % (#[Value.int .i64 0, .int .i64 0, .bool false] : Array Value).size = 1 by show (m * 3 + 1) % 3 = 1; omega]; rfl
  · rw [show (m * 3 + 2) % (#[Value.int .i64 0, .int .i64 0, .bool false] : Array Value).size = 2 by show (m * 3 + 2) % 3 = 2; omega]; rfl
/-- The levels that were made. -/
structure NewN (B : Nat) (w wr : World) (W0 H0 : Nat) (sh : Sh) : Prop where
  nd : ∀ i W H I : Nat, sh[i]? = some (W, H, I) → wr.heap[I]? = some (.cells (nodes0 (W * H)) 120 (0, 0)) ∧ B < I ∧ W = dimF W0 i ∧ H = dimF H0 i
  df : ∀ (i j : Nat) (a b : Nat × Nat × Nat), sh[i]? = some a → sh[j]? = some b → a.2.2 = b.2.2 → i = j
  bel : Below B w wr
  mid : ∀ i, i + 1 < sh.length → 1 < dimF W0 i ∨ 1 < dimF H0 i
  len : 1 ≤ sh.length ∧ sh.length ≤ 8
  sz : B < wr.heap.size
theorem NewN.keep {B : Nat} {w wr w' : World} {W0 H0 : Nat} {sh : Sh} (h : NewN B w wr W0 H0 sh) (hb : Below B w w') (hs : wr.heap.size ≤ w'.heap.size) (hk : ∀ (k : Nat) (cs : Array Value), wr.heap[k]? = some (.cells cs 120 (0, 0)) → w'.heap[k]? = wr.heap[k]?) : NewN B w w' W0 H0 sh :=
  ⟨fun i W H I e => by obtain ⟨a, b⟩ := h.nd i W H I e; exact ⟨(hk I _ a).trans a, b⟩, h.df, hb, h.mid, h.len, Nat.lt_of_lt_of_le h.sz hs⟩
theorem NewN.kept {B : Nat} {w wr w' : World} {W0 H0 : Nat} {sh : Sh} (h : NewN B w wr W0 H0 sh) (hb : Below wr.heap.size wr w') : NewN B w w' W0 H0 sh :=
  h.keep (h.bel.trans (hb.mono (Nat.le_of_lt h.sz))) hb.size (fun k cs e => hb.block k (blk_lt e))
theorem NewN.more {B : Nat} {w wr : World} {W0 H0 : Nat} {sh : Sh} (h : NewN B w wr W0 H0 sh) {I : Nat} (hI : wr.heap[I]? = some (.cells (nodes0 (dimF W0 sh.length * dimF H0 sh.length)) 120 (0, 0))) (hB : B < I)
    (hne : ∀ (i : Nat) (a : Nat × Nat × Nat), sh[i]? = some a → a.2.2 ≠ I) (hm : 1 < dimF W0 (sh.length - 1) ∨ 1 < dimF H0 (sh.length - 1)) (hl : sh.length ≤ 7) : NewN B w wr W0 H0 (sh ++ [(dimF W0 sh.length, dimF H0 sh.length, I)]) := by
  have hlen := h.len
  refine ⟨?_, ?_, h.bel, ?_, by simp; omega, h.sz⟩
  · intro i W H I' e
    rcases Nat.lt_or_ge i sh.length with hi | hi
    · rw [List.getElem?_append_left hi] at e
      exact h.nd i W H I' e
    · rw [List.getElem?_append_right hi] at e
      have h0 : i - sh.length = 0 := by
        rcases Nat.eq_zero_or_pos (i - sh.length) with h | h
        · exact h
        · rw [List.getElem?_eq_none (by simp; omega)] at e; cases e
      rw [h0] at e
      simp at e
      obtain ⟨rfl, rfl, rfl⟩ := e
      rw [show i = sh.length by omega]
      exact ⟨hI, hB, rfl, rfl⟩
  · intro i j a b ea eb hab
    have key : ∀ (i : Nat) (a : Nat × Nat × Nat), (sh ++ [(dimF W0 sh.length, dimF H0 sh.length, I)])[i]? = some a → (sh[i]? = some a) ∨ (i = sh.length ∧ a.2.2 = I) := by
      intro i a e
      rcases Nat.lt_or_ge i sh.length with hi | hi
      · rw [List.getElem?_append_left hi] at e; exact .inl e
      · rw [List.getElem?_append_right hi] at e
        have h0 : i - sh.length = 0 := by
          rcases Nat.eq_zero_or_pos (i - sh.length) with h | h
          · exact h
          · rw [List.getElem?_eq_none (by simp; omega)] at e; cases e
        rw [h0] at e
        simp at e
        subst e
        exact .inr ⟨by omega, rfl⟩
    rcases key i a ea with ea | ⟨rfl, ha⟩
    · rcases key j b eb with eb | ⟨rfl, hb⟩
      · exact h.df i j a b ea eb hab
      · exact absurd (hab.trans hb) (hne i a ea)
    · rcases key j b eb with eb | ⟨rfl, hb⟩
      · exact absurd (hab.symm.trans ha) (hne j b eb)
      · rfl
  · intro i hi
    simp at hi
    rcases Nat.lt_or_ge (i + 1) sh.length with h1 | h1
    · exact h.mid i h1
    · rw [show i = sh.length - 1 by omega]; exact hm

section
variable {B : Nat} {w wr w' : World} {W0 H0 m n I : Nat} {sh : Sh} {V : Value}
def G0 (B : Nat) (w wr : World) (W0 H0 m : Nat) (sh : Sh) (V : Value) : Prop := wr.heap[B]? = some (.cells #[V] 114 (0, 0)) ∧ NewN B w wr W0 H0 sh ∧ wr.ownsRow (B + 1) 117 3 V m (sh.flatMap tblS)
def GI (B : Nat) (wr : World) (sh : Sh) (n I : Nat) : Prop := wr.heap[I]? = some (.cells (nodes0 n) 120 (0, 0)) ∧ B < I ∧ ∀ (i : Nat) (a : Nat × Nat × Nat), sh[i]? = some a → a.2.2 ≠ I
def GT (wr : World) (x y n I z : Nat) : Prop := wr.heap[z]? = some (.cells #[.int .i64 (x : Int), .int .i64 (y : Int), .slice (some ⟨I, 0, none⟩) n n] 117 (0, 0))
def G9 (B : Nat) (w wr : World) (W0 H0 m : Nat) (sh : Sh) (V V9 : Value) (x y n I : Nat) : Prop := wr.heap[B]? = some (.cells #[V] 114 (0, 0)) ∧ NewN B w wr W0 H0 sh ∧ GI B wr sh n I ∧ wr.ownsRow (B + 1) 117 3 V9 (m + 1) (sh.flatMap tblS ++ tbl x y I)
theorem G0.kept (h : G0 B w wr W0 H0 m sh V) (hb : Below wr.heap.size wr w') : G0 B w w' W0 H0 m sh V :=
  ⟨(hb.block _ h.2.1.sz).trans h.1, h.2.1.kept hb, ownsRow_keep h.2.2 hb.size (fun k e => hb.block _ (own_lt h.2.2 e).2)⟩
theorem GI.kept (h : GI B wr sh n I) (hb : Below wr.heap.size wr w') : GI B w' sh n I := ⟨(hb.block _ (blk_lt h.1)).trans h.1, h.2⟩
theorem g7 (h : G0 B w wr W0 H0 m sh V) (hn : w'.heap[wr.heap.size + 1]? = some (.cells (nodes0 n) 120 (0, 0))) (hb : Below wr.heap.size wr w') : G0 B w w' W0 H0 m sh V ∧ GI B w' sh n (wr.heap.size + 1) :=
  ⟨h.kept hb, hn, by have := h.2.1.sz; omega, fun i a e => by
    obtain ⟨W, H, I⟩ := a
    have := blk_lt (h.2.1.nd i W H I e).1
    show I ≠ _
    omega⟩
theorem g8 {x y : Nat} (h : G0 B w wr W0 H0 m sh V ∧ GI B wr sh n I) : G0 B w (wr.alloc (Obj.cells #[.int .i64 (x : Int), .int .i64 (y : Int), .slice (some ⟨I, 0, none⟩) n n] 117)) W0 H0 m sh V ∧ GI B (wr.alloc (Obj.cells #[.int .i64 (x : Int), .int .i64 (y : Int), .slice (some ⟨I, 0, none⟩) n n] 117)) sh n I ∧ GT (wr.alloc (Obj.cells #[.int .i64 (x : Int), .int .i64 (y : Int), .slice (some ⟨I, 0, none⟩) n n] 117)) x y n I wr.heap.size :=
  ⟨h.1.kept ((Below.refl _ wr).alloc (Nat.le_refl _) _), h.2.kept ((Below.refl _ wr).alloc (Nat.le_refl _) _), World.alloc_heap_new wr _⟩
theorem g9 {x y : Nat} {V9 : Value} (h : G0 B w wr W0 H0 m sh V ∧ GI B wr sh n I) (hg : wr.grownBy w' V.ownBlock) (ho : w'.ownsRow (B + 1) 117 3 V9 (m + 1) (sh.flatMap tblS ++ tbl x y I)) : G9 B w w' W0 H0 m sh V V9 x y n I := by
  obtain ⟨⟨h1, h2, h3⟩, hi⟩ := h
  have kn : ∀ (k : Nat) (cs : Array Value), wr.heap[k]? = some (.cells cs 120 (0, 0)) → w'.heap[k]? = wr.heap[k]? := fun k cs e =>
    hg.block k (blk_lt e) (fun e' => blk_not_row e (by decide) h3 e'.symm)
  have kp : w'.heap[B]? = wr.heap[B]? := hg.block B h2.sz (fun e' => blk_not_row h1 (by decide) h3 e'.symm)
  refine ⟨kp.trans h1, h2.keep (h2.bel.grown hg (by have := h2.sz; omega) ?_) hg.size kn, ⟨(kn I _ hi.1).trans hi.1, hi.2⟩, ho⟩
  intro k e
  have := own_lt h3 e
  omega
theorem g12 {x y : Nat} {V9 : Value} (h : G9 B w wr W0 H0 m sh V V9 x y n I) : G9 B w (wr.setCell ⟨B, 0, none⟩ V9) W0 H0 m sh V9 V9 x y n I := by
  obtain ⟨h1, h2, h3, h4⟩ := h
  have kp : ∀ k, k ≠ B → (wr.setCell ⟨B, 0, none⟩ V9).heap[k]? = wr.heap[k]? := fun k hk => Below.heap_setCell _ _ _ _ (by simpa using hk)
  refine ⟨by rw [blk_set h1]; rfl, h2.keep (h2.bel.setCell (p := ⟨B, 0, none⟩) (Nat.le_refl _) _) (by simp [World.setCell]) (fun k cs e => kp k (fun e' => by subst e'; rw [h1] at e; simp at e)), ⟨(kp I (by have := h3.2.1; omega)).trans h3.1, h3.2⟩, ownsRow_keep h4 (by simp [World.setCell]) (fun k e => kp k (by have := own_lt h4 e; omega))⟩
end

attribute [local go_sem ↓] appSem_eq in
set_option maxHeartbeats 8000000 in
set_option pp.deepTerms true in
set_option pp.maxSteps 10000000 in
theorem newTree (W H : Nat) (w : World) (hW : 1 ≤ W ∧ W ≤ 64) (hH : 1 ≤ H ∧ H ≤ 64) : Calls Try.prog 15 #[.int .i64 (W : Int), .int .i64 (H : Int)] w fun e w' => ∃ L cl sh, e = .returned (.pointer (some ⟨w.heap.size, 0, none⟩)) ∧ Tr w' w.heap.size L cl sh T0 ∧ Shp W H sh ∧ (∀ k, TB w.heap.size L sh k → w.heap.size ≤ k) ∧ Below w.heap.size w w' := by
  obtain ⟨N, hN⟩ : ∃ N, W * H = N := ⟨_, rfl⟩
  have hnt := fun V => newT W H N V (by omega) hN
  have HT := Lib.hid hnt
  have HN := Lib.hid hN
  have d1 : decide ((W : Int) < 1) = false := by simp; omega
  have d2 : decide ((64 : Int) < (W : Int)) = false := by simp; omega
  have d3 : decide ((H : Int) < 1) = false := by simp; omega
  have d4 : decide ((64 : Int) < (H : Int)) = false := by simp; omega
  clear hnt hN
  go_enter Try.func15, Try.ntmps15
  go_wp2_with fail
  clear d1 d2 d3 d4
  obtain ⟨W1, hW1⟩ : ∃ W1, w.alloc (Obj.cells #[.slice none 0 0] 114) = W1 := ⟨_, rfl⟩
  have hx1 : W1.heap[w.heap.size]? = some (.cells #[.slice none 0 0] 114 (0, 0)) := by rw [← hW1]; exact World.alloc_heap_new w _
  have hs1 : W1.heap.size = w.heap.size + 1 := by rw [← hW1]; simp
  rw [hW1]
  obtain ⟨Y, hYe⟩ : ∃ Y, W1.drew = Y := ⟨_, rfl⟩
  have hxY : Y.heap[w.heap.size]? = some (.cells #[.slice none 0 0] 114 (0, 0)) := by rw [← hYe]; exact hx1
  have hsY : Y.heap.size = w.heap.size + 1 := by rw [← hYe]; exact hs1
  have HBW : Hid (Below w.heap.size w Y) := Lib.hid (by rw [← hYe, ← hW1]; exact below_drewN ((Below.refl _ w).alloc (Nat.le_refl _) _) 1)
  have HYE := Lib.hid hYe
  have HXY := Lib.hid hxY
  clear hYe hW1 hx1 hs1 hxY
  refine (wpIn_wide (n := 9)).1 (regionIn_inv (w := W1) (Inv := fun L a' w' => ∃ (I : Nat) (z : Nat) (A9 : Option Addr) (c9 : Nat), a' = { tmps := #[.int .i64 (W : Int), .int .i64 (H : Int), undef, undef, .pointer none, .pointer (some ⟨w.heap.size, 0, none⟩), .agg #[.slice none 0 0], .pointer (some ⟨w.heap.size, 0, none⟩), .int .i64 (W : Int), .bool false, .bool false, .int .i64 (W : Int), .bool false, .bool false, .bool false, .int .i64 (H : Int), .bool false, .bool false, .bool false, .int .i64 (H : Int), .bool false, .bool false, undef, bif L 0 then .pointer (some ⟨w.heap.size, 0, none⟩) else undef, bif L 1 then .pointer (some ⟨w.heap.size, 0, none⟩) else undef, bif L 2 then .pointer (some ⟨w.heap.size, 0, none⟩) else undef, bif L 3 then .pointer (some ⟨w.heap.size, 0, none⟩) else undef, bif L 4 then .slice none 0 0 else undef, bif L 5 then .int .i64 (W : Int) else undef, bif L 6 then .int .i64 (H : Int) else undef, bif L 7 then .agg #[.int .i64 (W : Int), .int .i64 (H : Int), .slice (some ⟨I, 0, none⟩) N N] else undef, bif L 8 then .slice (some ⟨z, 0, none⟩) 1 1 else undef, bif L 9 then .slice A9 1 c9 else undef, bif L 10 then .pointer (some ⟨w.heap.size, 0, none⟩) else undef, bif L 11 then .pointer (some ⟨w.heap.size, 0, none⟩) else undef, undef, undef, undef, undef, undef, undef, undef, undef, undef, undef, undef, undef, undef, undef, undef, undef, undef, undef, undef, undef, undef, undef, undef, undef, undef], defers := [] } ∧ (Below w.heap.size Y w' ∧ w.heap.size + 1 ≤ w'.heap.size) ∧ (bif L 12 then (w'.heap[w.heap.size]? = some (.cells #[.slice A9 1 c9] 114 (0, 0)) ∧ (w'.heap[I]? = some (.cells (nodes0 N) 120 (0, 0)) ∧ w.heap.size < I) ∧ w'.ownsRow (w.heap.size + 1) 117 3 (.slice A9 1 c9) 1 (tbl W H I)) else (bif L 9 then (w'.heap[w.heap.size]? = some (.cells #[.slice none 0 0] 114 (0, 0)) ∧ (w'.heap[I]? = some (.cells (nodes0 N) 120 (0, 0)) ∧ w.heap.size < I) ∧ w'.ownsRow (w.heap.size + 1) 117 3 (.slice A9 1 c9) 1 (tbl W H I)) else (bif L 8 then (w'.heap[w.heap.size]? = some (.cells #[.slice none 0 0] 114 (0, 0)) ∧ (w'.heap[I]? = some (.cells (nodes0 N) 120 (0, 0)) ∧ w.heap.size < I) ∧ w'.heap[z]? = some (.cells #[.int .i64 (W : Int), .int .i64 (H : Int), .slice (some ⟨I, 0, none⟩) N N] 117 (0, 0))) else (bif L 7 then (w'.heap[w.heap.size]? = some (.cells #[.slice none 0 0] 114 (0, 0)) ∧ w'.heap[I]? = some (.cells (nodes0 N) 120 (0, 0)) ∧ w.heap.size < I) else w'.heap[w.heap.size]? = some (.cells #[.slice none 0 0] 114 (0, 0))))))) (by kernel_rfl) (by kernel_rfl) ?start ?step ?fin)
  case start => exact ⟨0, 0, none, 0, rfl, (by rw [HYE.out]; exact ⟨Below.refl _ _, by omega⟩ : Below w.heap.size Y W1.drew ∧ w.heap.size + 1 ≤ W1.drew.heap.size), (by rw [HYE.out]; exact HXY.out)⟩
  case step =>
    intro i hi L a' w' hI hs hu
    obtain ⟨I, z, A9, c9, rfl, hcm, hph⟩ := hI
    have hL := hu.1
    have hi : i < 13 := hi
    obtain rfl | rfl | rfl | rfl | rfl | rfl | rfl | rfl | rfl | rfl | rfl | rfl | rfl := (by omega : i = 0 ∨ i = 1 ∨ i = 2 ∨ i = 3 ∨ i = 4 ∨ i = 5 ∨ i = 6 ∨ i = 7 ∨ i = 8 ∨ i = 9 ∨ i = 10 ∨ i = 11 ∨ i = 12)
    · skip
      have n12 : L 12 = false := not_yet hL fun h => shut_at hs 12 0 (by kernel_rfl) (h)
      refine opIn_run (v := .pointer (some ⟨w.heap.size, 0, none⟩)) (w' := w') rfl rfl (fun c h => by cases h) (fun _ => trivial) ?_ ⟨I, z, A9, c9, by simp [Act.put, upd, n12, hL], hcm, by simpa [upd] using hph⟩
      simp only [n12, hL, cond_true, cond_false]
      go_simp
    · skip
      have n9 : L 9 = false := not_yet hL fun h => shut_at hs 2 1 (by kernel_rfl) (shut_at hs 3 2 (by kernel_rfl) (shut_at hs 4 3 (by kernel_rfl) (shut_at hs 9 4 (by kernel_rfl) (h))))
      have n12 : L 12 = false := not_yet hL fun h => shut_at hs 12 1 (by kernel_rfl) (h)
      refine opIn_run (v := .pointer (some ⟨w.heap.size, 0, none⟩)) (w' := w') rfl rfl (fun c h => by cases h) (fun _ => trivial) ?_ ⟨I, z, A9, c9, by simp [Act.put, upd, n9, n12, hL], hcm, by simpa [upd] using hph⟩
      simp only [n9, n12, hL, cond_true, cond_false]
      go_simp
    · skip
      have y1 : L 1 = true := up_at hu 1 (by kernel_rfl)
      have n9 : L 9 = false := not_yet hL fun h => shut_at hs 3 2 (by kernel_rfl) (shut_at hs 4 3 (by kernel_rfl) (shut_at hs 9 4 (by kernel_rfl) (h)))
      have n12 : L 12 = false := not_yet hL fun h => shut_at hs 12 2 (by kernel_rfl) (h)
      refine opIn_run (v := .pointer (some ⟨w.heap.size, 0, none⟩)) (w' := w') rfl rfl (fun c h => by cases h) (fun _ => trivial) ?_ ⟨I, z, A9, c9, by simp [Act.put, upd, y1, n9, n12, hL], hcm, by simpa [upd] using hph⟩
      simp only [y1, n9, n12, hL, cond_true, cond_false]
      go_simp
    · skip
      have y1 : L 1 = true := shut_at hs 2 1 (by kernel_rfl) (up_at hu 2 (by kernel_rfl))
      have y2 : L 2 = true := up_at hu 2 (by kernel_rfl)
      have n9 : L 9 = false := not_yet hL fun h => shut_at hs 4 3 (by kernel_rfl) (shut_at hs 9 4 (by kernel_rfl) (h))
      have n12 : L 12 = false := not_yet hL fun h => shut_at hs 12 3 (by kernel_rfl) (h)
      refine opIn_run (v := .pointer (some ⟨w.heap.size, 0, none⟩)) (w' := w') rfl rfl (fun c h => by cases h) (fun _ => trivial) ?_ ⟨I, z, A9, c9, by simp [Act.put, upd, y1, y2, n9, n12, hL], hcm, by simpa [upd] using hph⟩
      simp only [y1, y2, n9, n12, hL, cond_true, cond_false]
      go_simp
    · skip
      have y1 : L 1 = true := shut_at hs 2 1 (by kernel_rfl) (shut_at hs 3 2 (by kernel_rfl) (up_at hu 3 (by kernel_rfl)))
      have y2 : L 2 = true := shut_at hs 3 2 (by kernel_rfl) (up_at hu 3 (by kernel_rfl))
      have y3 : L 3 = true := up_at hu 3 (by kernel_rfl)
      have n9 : L 9 = false := not_yet hL fun h => shut_at hs 9 4 (by kernel_rfl) (h)
      have n12 : L 12 = false := not_yet hL fun h => shut_at hs 12 4 (by kernel_rfl) (h)
      simp only [y1, y2, y3, n9, n12, hL, cond_true, cond_false] at hph
      have hbx : w'.heap[w.heap.size]? = some (.cells #[.slice none 0 0] 114 (0, 0)) := by cases h7 : L 7 <;> cases h8 : L 8 <;> simp only [h7, h8, cond_true, cond_false] at hph <;> first | exact hph | exact hph.1
      have k0 : w'.cell? ⟨w.heap.size, 0, none⟩ = some (.slice none 0 0) := by simp [World.cell?, hbx]
      refine opIn_run (v := .slice none 0 0) (w' := w') rfl rfl (fun c h => by cases h) (fun _ => trivial) ?_ ⟨I, z, A9, c9, by simp [Act.put, upd, y1, y2, y3, n9, n12, hL], hcm, by simp only [upd, y1, y2, y3, n9, n12, hL]; exact hph⟩
      simp only [y1, y2, y3, n9, n12, hL, cond_true, cond_false]
      go_simp
    · skip
      have n7 : L 7 = false := not_yet hL fun h => shut_at hs 7 5 (by kernel_rfl) (h)
      have n8 : L 8 = false := not_yet hL fun h => shut_at hs 7 5 (by kernel_rfl) (shut_at hs 8 7 (by kernel_rfl) (h))
      have n9 : L 9 = false := not_yet hL fun h => shut_at hs 7 5 (by kernel_rfl) (shut_at hs 9 7 (by kernel_rfl) (h))
      have n12 : L 12 = false := not_yet hL fun h => shut_at hs 12 5 (by kernel_rfl) (h)
      refine opIn_run (v := .int .i64 (W : Int)) (w' := w') rfl rfl (fun c h => by cases h) (fun _ => trivial) ?_ ⟨I, z, A9, c9, by simp [Act.put, upd, n7, n8, n9, n12, hL], hcm, by simpa [upd] using hph⟩
      simp only [n7, n8, n9, n12, hL, cond_true, cond_false]
      go_simp
    · skip
      have n7 : L 7 = false := not_yet hL fun h => shut_at hs 7 6 (by kernel_rfl) (h)
      have n8 : L 8 = false := not_yet hL fun h => shut_at hs 7 6 (by kernel_rfl) (shut_at hs 8 7 (by kernel_rfl) (h))
      have n9 : L 9 = false := not_yet hL fun h => shut_at hs 7 6 (by kernel_rfl) (shut_at hs 9 7 (by kernel_rfl) (h))
      have n12 : L 12 = false := not_yet hL fun h => shut_at hs 12 6 (by kernel_rfl) (h)
      refine opIn_run (v := .int .i64 (H : Int)) (w' := w') rfl rfl (fun c h => by cases h) (fun _ => trivial) ?_ ⟨I, z, A9, c9, by simp [Act.put, upd, n7, n8, n9, n12, hL], hcm, by simpa [upd] using hph⟩
      simp only [n7, n8, n9, n12, hL, cond_true, cond_false]
      go_simp
    · skip
      have y5 : L 5 = true := up_at hu 5 (by kernel_rfl)
      have y6 : L 6 = true := up_at hu 6 (by kernel_rfl)
      have n8 : L 8 = false := not_yet hL fun h => shut_at hs 8 7 (by kernel_rfl) (h)
      have n9 : L 9 = false := not_yet hL fun h => shut_at hs 9 7 (by kernel_rfl) (h)
      have n12 : L 12 = false := not_yet hL fun h => shut_at hs 12 7 (by kernel_rfl) (h)
      simp only [y5, y6, n8, n9, n12, hL, cond_true, cond_false] at hph
      refine opIn_call (f := 46) (args := #[.int .i64 (W : Int), .int .i64 (H : Int)]) (w' := w') rfl rfl (fun c h => by cases h) (fun _ => trivial) rfl ?_ ((callsIn_wide.2 (HT.out w')).mono ?_)
      · simp only [y5, y6, n8, n9, n12, hL, cond_true, cond_false]
        go_simp
      · rintro e w2 ⟨rfl, hn9, hb9⟩
        exact ⟨_, rfl, w'.heap.size + 1, z, A9, c9, by simp [Act.put, upd, y5, y6, n8, n9, n12, hL], ⟨hcm.1.trans (hb9.mono (by omega)), by have := hb9.size; omega⟩, by simp only [upd, y5, y6, n8, n9, n12, hL]; exact ⟨(hb9.block _ (by omega)).trans hph, hn9, by omega⟩⟩
    · skip
      have y5 : L 5 = true := shut_at hs 7 5 (by kernel_rfl) (up_at hu 7 (by kernel_rfl))
      have y6 : L 6 = true := shut_at hs 7 6 (by kernel_rfl) (up_at hu 7 (by kernel_rfl))
      have y7 : L 7 = true := up_at hu 7 (by kernel_rfl)
      have n9 : L 9 = false := not_yet hL fun h => shut_at hs 9 8 (by kernel_rfl) (h)
      have n12 : L 12 = false := not_yet hL fun h => shut_at hs 12 8 (by kernel_rfl) (h)
      simp only [y5, y6, y7, n9, n12, hL, cond_true, cond_false] at hph
      refine opIn_run (v := .slice (some ⟨w'.heap.size, 0, none⟩) 1 1) (w' := w'.alloc (Obj.cells #[.int .i64 (W : Int), .int .i64 (H : Int), .slice (some ⟨I, 0, none⟩) N N] 117)) rfl rfl (fun c h => by cases h) (fun _ => trivial) ?_ ⟨I, w'.heap.size, A9, c9, by simp [Act.put, upd, y5, y6, y7, n9, n12, hL], ⟨hcm.1.alloc (by omega) _, by simp; omega⟩, by simp only [upd, y5, y6, y7, n9, n12, hL]; exact ⟨(Below.heap_alloc w' _ _ (by omega)).trans hph.1, ⟨(Below.heap_alloc w' _ _ (lt_some hph.2.1)).trans hph.2.1, hph.2.2⟩, World.alloc_heap_new w' _⟩⟩
      simp only [y5, y6, y7, n9, n12, hL, cond_true, cond_false]
      go_simp
    · skip
      have y1 : L 1 = true := shut_at hs 2 1 (by kernel_rfl) (shut_at hs 3 2 (by kernel_rfl) (shut_at hs 4 3 (by kernel_rfl) (up_at hu 4 (by kernel_rfl))))
      have y2 : L 2 = true := shut_at hs 3 2 (by kernel_rfl) (shut_at hs 4 3 (by kernel_rfl) (up_at hu 4 (by kernel_rfl)))
      have y3 : L 3 = true := shut_at hs 4 3 (by kernel_rfl) (up_at hu 4 (by kernel_rfl))
      have y4 : L 4 = true := up_at hu 4 (by kernel_rfl)
      have y5 : L 5 = true := shut_at hs 7 5 (by kernel_rfl) (up_at hu 7 (by kernel_rfl))
      have y6 : L 6 = true := shut_at hs 7 6 (by kernel_rfl) (up_at hu 7 (by kernel_rfl))
      have y7 : L 7 = true := up_at hu 7 (by kernel_rfl)
      have y8 : L 8 = true := up_at hu 8 (by kernel_rfl)
      have n12 : L 12 = false := not_yet hL fun h => shut_at hs 12 9 (by kernel_rfl) (h)
      simp only [y1, y2, y3, y4, y5, y6, y7, y8, n12, hL, cond_true, cond_false] at hph
      have hown0 : w'.ownsRow (w.heap.size + 1) 117 3 (.slice none 0 0) 0 [] := World.ownsRow_nil _ _ _ _
      have hz9 := hph.2.2
      rw [← HN.out] at hz9
      obtain ⟨v9, w9, hrun9, hown9, hg9, _⟩ := app_tbl hown0 hz9 (by omega) (by omega)
      rw [Nat.zero_add, List.nil_append] at hown9
      obtain ⟨A9x, c9x, rfl, _, _, _⟩ := own_any hown9
      have hb9 : Below (w'.heap.size) w' w9 := (Below.refl _ w').grown hg9 (Nat.le_refl _) (by simp [Value.ownBlock])
      refine opIn_run (v := .slice A9x 1 c9x) (w' := w9) rfl rfl (fun c h => by cases h) (fun _ => trivial) ?_ ⟨I, z, A9x, c9x, by simp [Act.put, upd, y1, y2, y3, y4, y5, y6, y7, y8, n12, hL], ⟨hcm.1.trans (hb9.mono (by omega)), by have := hb9.size; omega⟩, by simp only [upd, y1, y2, y3, y4, y5, y6, y7, y8, n12, hL]; exact ⟨(hb9.block _ (by omega)).trans hph.1, ⟨(hb9.block _ (lt_some hph.2.1.1)).trans hph.2.1.1, hph.2.1.2⟩, hown9⟩⟩
      simp only [y1, y2, y3, y4, y5, y6, y7, y8, n12, hL, cond_true, cond_false]
      go_simp
    · skip
      have y0 : L 0 = true := up_at hu 0 (by kernel_rfl)
      have y1 : L 1 = true := up_at hu 1 (by kernel_rfl)
      have y2 : L 2 = true := up_at hu 2 (by kernel_rfl)
      have y3 : L 3 = true := up_at hu 3 (by kernel_rfl)
      have y4 : L 4 = true := up_at hu 4 (by kernel_rfl)
      have y5 : L 5 = true := up_at hu 5 (by kernel_rfl)
      have y6 : L 6 = true := up_at hu 6 (by kernel_rfl)
      have y7 : L 7 = true := up_at hu 7 (by kernel_rfl)
      have y8 : L 8 = true := up_at hu 8 (by kernel_rfl)
      have y9 : L 9 = true := up_at hu 9 (by kernel_rfl)
      have n12 : L 12 = false := not_yet hL fun h => shut_at hs 11 10 (by kernel_rfl) (shut_at hs 12 11 (by kernel_rfl) (h))
      refine opIn_run (v := .pointer (some ⟨w.heap.size, 0, none⟩)) (w' := w') rfl rfl (fun c h => by cases h) (fun _ => trivial) ?_ ⟨I, z, A9, c9, by simp [Act.put, upd, y0, y1, y2, y3, y4, y5, y6, y7, y8, y9, n12, hL], hcm, by simpa [upd] using hph⟩
      simp only [y0, y1, y2, y3, y4, y5, y6, y7, y8, y9, n12, hL, cond_true, cond_false]
      go_simp
    · skip
      have y0 : L 0 = true := up_at hu 0 (by kernel_rfl)
      have y1 : L 1 = true := up_at hu 1 (by kernel_rfl)
      have y2 : L 2 = true := up_at hu 2 (by kernel_rfl)
      have y3 : L 3 = true := up_at hu 3 (by kernel_rfl)
      have y4 : L 4 = true := up_at hu 4 (by kernel_rfl)
      have y5 : L 5 = true := up_at hu 5 (by kernel_rfl)
      have y6 : L 6 = true := up_at hu 6 (by kernel_rfl)
      have y7 : L 7 = true := up_at hu 7 (by kernel_rfl)
      have y8 : L 8 = true := up_at hu 8 (by kernel_rfl)
      have y9 : L 9 = true := up_at hu 9 (by kernel_rfl)
      have y10 : L 10 = true := up_at hu 10 (by kernel_rfl)
      have n12 : L 12 = false := not_yet hL fun h => shut_at hs 12 11 (by kernel_rfl) (h)
      refine opIn_run (v := .pointer (some ⟨w.heap.size, 0, none⟩)) (w' := w') rfl rfl (fun c h => by cases h) (fun _ => trivial) ?_ ⟨I, z, A9, c9, by simp [Act.put, upd, y0, y1, y2, y3, y4, y5, y6, y7, y8, y9, y10, n12, hL], hcm, by simpa [upd] using hph⟩
      simp only [y0, y1, y2, y3, y4, y5, y6, y7, y8, y9, y10, n12, hL, cond_true, cond_false]
      go_simp
    · skip
      have y0 : L 0 = true := up_at hu 0 (by kernel_rfl)
      have y1 : L 1 = true := up_at hu 1 (by kernel_rfl)
      have y2 : L 2 = true := up_at hu 2 (by kernel_rfl)
      have y3 : L 3 = true := up_at hu 3 (by kernel_rfl)
      have y4 : L 4 = true := up_at hu 4 (by kernel_rfl)
      have y5 : L 5 = true := up_at hu 5 (by kernel_rfl)
      have y6 : L 6 = true := up_at hu 6 (by kernel_rfl)
      have y7 : L 7 = true := up_at hu 7 (by kernel_rfl)
      have y8 : L 8 = true := up_at hu 8 (by kernel_rfl)
      have y9 : L 9 = true := up_at hu 9 (by kernel_rfl)
      have y10 : L 10 = true := shut_at hs 11 10 (by kernel_rfl) (up_at hu 11 (by kernel_rfl))
      have y11 : L 11 = true := up_at hu 11 (by kernel_rfl)
      simp only [y0, y1, y2, y3, y4, y5, y6, y7, y8, y9, y10, y11, hL, cond_true, cond_false] at hph
      have k0 : w'.cell? ⟨w.heap.size, 0, none⟩ = some (.slice none 0 0) := by simp [World.cell?, hph.1]
      have kf : w'.frozen? ⟨w.heap.size, 0, none⟩ = false := by simp [World.frozen?, hph.1]
      refine opIn_skip (w' := w'.setCell ⟨w.heap.size, 0, none⟩ (.slice A9 1 c9)) rfl rfl (fun c h => by cases h) (fun _ => trivial) ?_ ⟨I, z, A9, c9, by simp [Act.put, upd, y0, y1, y2, y3, y4, y5, y6, y7, y8, y9, y10, y11, hL], ⟨hcm.1.setCell (p := ⟨w.heap.size, 0, none⟩) (Nat.le_refl _) _, by simp [World.setCell]; omega⟩, by simp only [upd, y0, y1, y2, y3, y4, y5, y6, y7, y8, y9, y10, y11, hL]; exact ⟨by simp [World.setCell, Array.getElem?_modify, hph.1], ⟨(Below.heap_setCell _ _ _ _ (by simp; omega)).trans hph.2.1.1, hph.2.1.2⟩, ownsRow_keep hph.2.2 (by simp [World.setCell]) (fun b e => Below.heap_setCell _ _ _ _ (by have := own_lt hph.2.2 e; simp; omega))⟩⟩
      simp only [y0, y1, y2, y3, y4, y5, y6, y7, y8, y9, y10, y11, hL, cond_true, cond_false]
      go_simp
  case fin =>
    intro L a' w' hall hI
    obtain ⟨I, z, A9, c9, rfl, hcm, hph⟩ := hI
    have l0 := hall 0 (by decide)
    have l1 := hall 1 (by decide)
    have l2 := hall 2 (by decide)
    have l3 := hall 3 (by decide)
    have l4 := hall 4 (by decide)
    have l5 := hall 5 (by decide)
    have l6 := hall 6 (by decide)
    have l7 := hall 7 (by decide)
    have l8 := hall 8 (by decide)
    have l9 := hall 9 (by decide)
    have l10 := hall 10 (by decide)
    have l11 := hall 11 (by decide)
    have l12 := hall 12 (by decide)
    simp only [l0, l1, l2, l3, l4, l5, l6, l7, l8, l9, l10, l11, l12, cond_true] at hph ⊢
    clear l0 l1 l2 l3 l4 l5 l6 l7 l8 l9 l10 l11 l12 hall
    obtain ⟨Lz, clz, hv, _, _, _⟩ := own_form hph.2.2 (by omega)
    cases hv
    have hbelF := HBW.out.trans hcm.1
    have HS : Hid (NewN w.heap.size w w' W H [(W, H, I)]) := Lib.hid ⟨by
      intro i W' H' I' e
      cases i with
      | zero => simp at e; obtain ⟨rfl, rfl, rfl⟩ := e; exact ⟨by rw [HN.out]; exact hph.2.1.1, hph.2.1.2, rfl, rfl⟩
      | succ i => simp at e, by
      intro i j a b ea eb _
      have h1 := (List.getElem?_eq_some_iff.1 ea).1
      have h2 := (List.getElem?_eq_some_iff.1 eb).1
      simp at h1 h2
      omega, hbelF, by intro i hi; simp at hi, by simp, hcm.2⟩
    have HO : Hid (w'.ownsRow (w.heap.size + 1) 117 3 (.slice (some ⟨Lz, 0, none⟩) 1 c9) 1 (([(W, H, I)] : Sh).flatMap tblS)) := Lib.hid (by simpa [tblS] using hph.2.2)
    have HP := Lib.hid hph.1
    clear hph hcm hbelF
    obtain ⟨wf, hwf⟩ : ∃ wf : World, wf = w' := ⟨_, rfl⟩
    rw [← hwf] at HP HO HS ⊢
    clear hwf HXY HYE HBW hsY
    go_wp2
    go_loopw [0, 1] (fun a b wr => ∃ (j L cl : Nat) (sh : Sh), sh.length = j + 1 ∧ a = .int .i64 (dimF W j : Int) ∧ b = .int .i64 (dimF H j : Int) ∧ Hid (wr.heap[w.heap.size]? = some (.cells #[.slice (some ⟨L, 0, none⟩) (j + 1) cl] 114 (0, 0))) ∧ Hid (wr.ownsRow (w.heap.size + 1) 117 3 (.slice (some ⟨L, 0, none⟩) (j + 1) cl) (j + 1) (sh.flatMap tblS)) ∧ Hid (NewN w.heap.size w wr W H sh)) (fun a b _ => (intOf a).toNat + (intOf b).toNat)
    case atStart => exact ⟨0, Lz, _, [(W, H, I)], rfl, rfl, rfl, HP, HO, HS⟩
    case round =>
      obtain ⟨j, Lq, cl, sh, hlen, rfl, rfl, HP, HO, HS⟩ := hrel
      have hl8 := HS.out.len
      have HL := Lib.hid hlen
      clear hlen
      have bW := dimF_le W j hW.1
      have bH := dimF_le H j hH.1
      have sW : dimF W (j + 1) = (dimF W j + 1) / 2 := rfl
      have sH : dimF H (j + 1) = (dimF H j + 1) / 2 := rfl
      by_cases hc : 1 < dimF W j ∨ 1 < dimF H j
      · have hj5 : j ≤ 5 := by
          rcases hc with h | h
          · exact dimF_gt h hW.2
          · exact dimF_gt h hH.2
        obtain ⟨N2, hN2⟩ : ∃ N2, dimF W (j + 1) * dimF H (j + 1) = N2 := ⟨_, rfl⟩
        have HN2 := Lib.hid hN2
        have bW2 := dimF_le W (j + 1) hW.1
        have bH2 := dimF_le H (j + 1) hH.1
        have hnt2 := fun V => newT (dimF W (j + 1)) (dimF H (j + 1)) N2 V (by omega) hN2
        have HT2 := Lib.hid hnt2
        have HC := Lib.hid hc
        obtain ⟨x, hx⟩ : ∃ x, dimF W j = x := ⟨_, rfl⟩
        obtain ⟨y, hy⟩ : ∃ y, dimF H j = y := ⟨_, rfl⟩
        obtain ⟨x2, hx2⟩ : ∃ x2, dimF W (j + 1) = x2 := ⟨_, rfl⟩
        obtain ⟨y2, hy2⟩ : ∃ y2, dimF H (j + 1) = y2 := ⟨_, rfl⟩
        rw [hx, hx2] at sW
        rw [hy, hy2] at sH
        rw [hx] at bW
        rw [hy] at bH
        rw [hx2] at bW2
        rw [hy2] at bH2
        rw [hx, hy] at hc
        have HX := Lib.hid hx
        have HY := Lib.hid hy
        have HX2 := Lib.hid hx2
        have HY2 := Lib.hid hy2
        rw [hx, hy]
        rw [hx2, hy2] at HT2
        have q1 : ((x : Int) + 1) / 2 = (x2 : Int) := by omega
        have q2 : ((y : Int) + 1) / 2 = (y2 : Int) := by omega
        clear hnt2 hN2 hx hy hx2 hy2
        by_cases hcx : 1 < x
        · have e1 : decide ((1 : Int) < (x : Int)) = true := by simp; omega
          go_wp2_with fail
          rw [q1, q2]
          clear q1 q2 e1
          have G00 : Hid (G0 w.heap.size w wr.drew W H (j + 1) sh (.slice (some ⟨Lq, 0, none⟩) (j + 1) cl)) := Lib.hid ⟨HP.out, HS.out.kept (below_drewN (Below.refl _ _) 1), HO.out⟩
          clear HP HO HS
          refine (wpIn_wide (n := 9)).1 (regionIn_inv (w := wr) (Inv := fun L a' w' => ∃ (I2 : Nat) (z2 : Nat) (A9b : Option Addr) (c9b : Nat), a' = { tmps := #[.int .i64 (x2 : Int), .int .i64 (y2 : Int), undef, undef, .pointer none, .pointer (some ⟨w.heap.size, 0, none⟩), .agg #[.slice none 0 0], .pointer (some ⟨w.heap.size, 0, none⟩), .int .i64 (W : Int), .bool false, .bool false, .int .i64 (W : Int), .bool false, .bool false, .bool false, .int .i64 (H : Int), .bool false, .bool false, .bool false, .int .i64 (H : Int), .bool false, .bool false, undef, .pointer (some ⟨w.heap.size, 0, none⟩), .pointer (some ⟨w.heap.size, 0, none⟩), .pointer (some ⟨w.heap.size, 0, none⟩), .pointer (some ⟨w.heap.size, 0, none⟩), .slice none 0 0, .int .i64 (W : Int), .int .i64 (H : Int), .agg #[.int .i64 (W : Int), .int .i64 (H : Int), .slice (some ⟨I, 0, none⟩) N N], .slice (some ⟨z, 0, none⟩) 1 1, .slice (some ⟨Lz, 0, none⟩) 1 c9, .pointer (some ⟨w.heap.size, 0, none⟩), .pointer (some ⟨w.heap.size, 0, none⟩), .int .i64 (x : Int), .bool true, .bool true, undef, undef, .bool true, .int .i64 (x : Int), .int .i64 ((x : Int) + 1), .int .i64 (x2 : Int), .int .i64 (y : Int), .int .i64 ((y : Int) + 1), .int .i64 (y2 : Int), bif L 0 then .pointer (some ⟨w.heap.size, 0, none⟩) else u47, bif L 1 then .pointer (some ⟨w.heap.size, 0, none⟩) else u48, bif L 2 then .pointer (some ⟨w.heap.size, 0, none⟩) else u49, bif L 3 then .pointer (some ⟨w.heap.size, 0, none⟩) else u50, bif L 4 then .slice (some ⟨Lq, 0, none⟩) (j + 1) cl else u51, bif L 5 then .int .i64 (x2 : Int) else u52, bif L 6 then .int .i64 (y2 : Int) else u53, bif L 7 then .agg #[.int .i64 (x2 : Int), .int .i64 (y2 : Int), .slice (some ⟨I2, 0, none⟩) N2 N2] else u54, bif L 8 then .slice (some ⟨z2, 0, none⟩) 1 1 else u55, bif L 9 then .slice A9b (j + 1 + 1) c9b else u56, bif L 10 then .pointer (some ⟨w.heap.size, 0, none⟩) else u57, bif L 11 then .pointer (some ⟨w.heap.size, 0, none⟩) else u58, undef], defers := [] } ∧ (bif L 12 then ((G9 w.heap.size w w' W H (j + 1) sh (.slice A9b (j + 1 + 1) c9b) (.slice A9b (j + 1 + 1) c9b) x2 y2 N2 I2)) else (bif L 9 then ((G9 w.heap.size w w' W H (j + 1) sh (.slice (some ⟨Lq, 0, none⟩) (j + 1) cl) (.slice A9b (j + 1 + 1) c9b) x2 y2 N2 I2)) else (bif L 8 then ((G0 w.heap.size w w' W H (j + 1) sh (.slice (some ⟨Lq, 0, none⟩) (j + 1) cl) ∧ GI w.heap.size w' sh N2 I2 ∧ GT w' x2 y2 N2 I2 z2)) else (bif L 7 then ((G0 w.heap.size w w' W H (j + 1) sh (.slice (some ⟨Lq, 0, none⟩) (j + 1) cl) ∧ GI w.heap.size w' sh N2 I2)) else G0 w.heap.size w w' W H (j + 1) sh (.slice (some ⟨Lq, 0, none⟩) (j + 1) cl)))))) (by kernel_rfl) (by kernel_rfl) ?starta ?stepa ?fina)
          case starta => exact ⟨0, 0, none, 0, rfl, G00.out⟩
          case stepa =>
            intro i hi L a' w' hI hs hu
            obtain ⟨I2, z2, A9b, c9b, rfl, hph⟩ := hI
            have hL := hu.1
            have hi : i < 13 := hi
            obtain rfl | rfl | rfl | rfl | rfl | rfl | rfl | rfl | rfl | rfl | rfl | rfl | rfl := (by omega : i = 0 ∨ i = 1 ∨ i = 2 ∨ i = 3 ∨ i = 4 ∨ i = 5 ∨ i = 6 ∨ i = 7 ∨ i = 8 ∨ i = 9 ∨ i = 10 ∨ i = 11 ∨ i = 12)
            · skip
              have n12 : L 12 = false := not_yet hL fun h => shut_at hs 12 0 (by kernel_rfl) (h)
              refine opIn_run (v := .pointer (some ⟨w.heap.size, 0, none⟩)) (w' := w') rfl rfl (fun c h => by cases h) (fun _ => trivial) ?_ ⟨I2, z2, A9b, c9b, by simp [Act.put, upd, n12, hL], by simpa [upd] using hph⟩
              simp only [n12, hL, cond_true, cond_false]
              go_simp
            · skip
              have n9 : L 9 = false := not_yet hL fun h => shut_at hs 2 1 (by kernel_rfl) (shut_at hs 3 2 (by kernel_rfl) (shut_at hs 4 3 (by kernel_rfl) (shut_at hs 9 4 (by kernel_rfl) (h))))
              have n12 : L 12 = false := not_yet hL fun h => shut_at hs 12 1 (by kernel_rfl) (h)
              refine opIn_run (v := .pointer (some ⟨w.heap.size, 0, none⟩)) (w' := w') rfl rfl (fun c h => by cases h) (fun _ => trivial) ?_ ⟨I2, z2, A9b, c9b, by simp [Act.put, upd, n9, n12, hL], by simpa [upd] using hph⟩
              simp only [n9, n12, hL, cond_true, cond_false]
              go_simp
            · skip
              have y1 : L 1 = true := up_at hu 1 (by kernel_rfl)
              have n9 : L 9 = false := not_yet hL fun h => shut_at hs 3 2 (by kernel_rfl) (shut_at hs 4 3 (by kernel_rfl) (shut_at hs 9 4 (by kernel_rfl) (h)))
              have n12 : L 12 = false := not_yet hL fun h => shut_at hs 12 2 (by kernel_rfl) (h)
              refine opIn_run (v := .pointer (some ⟨w.heap.size, 0, none⟩)) (w' := w') rfl rfl (fun c h => by cases h) (fun _ => trivial) ?_ ⟨I2, z2, A9b, c9b, by simp [Act.put, upd, y1, n9, n12, hL], by simpa [upd] using hph⟩
              simp only [y1, n9, n12, hL, cond_true, cond_false]
              go_simp
            · skip
              have y1 : L 1 = true := shut_at hs 2 1 (by kernel_rfl) (up_at hu 2 (by kernel_rfl))
              have y2 : L 2 = true := up_at hu 2 (by kernel_rfl)
              have n9 : L 9 = false := not_yet hL fun h => shut_at hs 4 3 (by kernel_rfl) (shut_at hs 9 4 (by kernel_rfl) (h))
              have n12 : L 12 = false := not_yet hL fun h => shut_at hs 12 3 (by kernel_rfl) (h)
              refine opIn_run (v := .pointer (some ⟨w.heap.size, 0, none⟩)) (w' := w') rfl rfl (fun c h => by cases h) (fun _ => trivial) ?_ ⟨I2, z2, A9b, c9b, by simp [Act.put, upd, y1, y2, n9, n12, hL], by simpa [upd] using hph⟩
              simp only [y1, y2, n9, n12, hL, cond_true, cond_false]
              go_simp
            · skip
              have y1 : L 1 = true := shut_at hs 2 1 (by kernel_rfl) (shut_at hs 3 2 (by kernel_rfl) (up_at hu 3 (by kernel_rfl)))
              have y2 : L 2 = true := shut_at hs 3 2 (by kernel_rfl) (up_at hu 3 (by kernel_rfl))
              have y3 : L 3 = true := up_at hu 3 (by kernel_rfl)
              have n9 : L 9 = false := not_yet hL fun h => shut_at hs 9 4 (by kernel_rfl) (h)
              have n12 : L 12 = false := not_yet hL fun h => shut_at hs 12 4 (by kernel_rfl) (h)
              simp only [y1, y2, y3, n9, n12, hL, cond_true, cond_false] at hph
              have hbx : w'.heap[w.heap.size]? = some (.cells #[.slice (some ⟨Lq, 0, none⟩) (j + 1) cl] 114 (0, 0)) := by cases h7 : L 7 <;> cases h8 : L 8 <;> simp only [h7, h8, cond_true, cond_false] at hph <;> first | exact hph.1 | exact hph.1.1
              have k0 : w'.cell? ⟨w.heap.size, 0, none⟩ = some (.slice (some ⟨Lq, 0, none⟩) (j + 1) cl) := by simp [World.cell?, hbx]
              refine opIn_run (v := .slice (some ⟨Lq, 0, none⟩) (j + 1) cl) (w' := w') rfl rfl (fun c h => by cases h) (fun _ => trivial) ?_ ⟨I2, z2, A9b, c9b, by simp [Act.put, upd, y1, y2, y3, n9, n12, hL], by simp only [upd, y1, y2, y3, n9, n12, hL]; exact hph⟩
              simp only [y1, y2, y3, n9, n12, hL, cond_true, cond_false]
              go_simp
            · skip
              have n7 : L 7 = false := not_yet hL fun h => shut_at hs 7 5 (by kernel_rfl) (h)
              have n8 : L 8 = false := not_yet hL fun h => shut_at hs 7 5 (by kernel_rfl) (shut_at hs 8 7 (by kernel_rfl) (h))
              have n9 : L 9 = false := not_yet hL fun h => shut_at hs 7 5 (by kernel_rfl) (shut_at hs 9 7 (by kernel_rfl) (h))
              have n12 : L 12 = false := not_yet hL fun h => shut_at hs 12 5 (by kernel_rfl) (h)
              refine opIn_run (v := .int .i64 (x2 : Int)) (w' := w') rfl rfl (fun c h => by cases h) (fun _ => trivial) ?_ ⟨I2, z2, A9b, c9b, by simp [Act.put, upd, n7, n8, n9, n12, hL], by simpa [upd] using hph⟩
              simp only [n7, n8, n9, n12, hL, cond_true, cond_false]
              go_simp
            · skip
              have n7 : L 7 = false := not_yet hL fun h => shut_at hs 7 6 (by kernel_rfl) (h)
              have n8 : L 8 = false := not_yet hL fun h => shut_at hs 7 6 (by kernel_rfl) (shut_at hs 8 7 (by kernel_rfl) (h))
              have n9 : L 9 = false := not_yet hL fun h => shut_at hs 7 6 (by kernel_rfl) (shut_at hs 9 7 (by kernel_rfl) (h))
              have n12 : L 12 = false := not_yet hL fun h => shut_at hs 12 6 (by kernel_rfl) (h)
              refine opIn_run (v := .int .i64 (y2 : Int)) (w' := w') rfl rfl (fun c h => by cases h) (fun _ => trivial) ?_ ⟨I2, z2, A9b, c9b, by simp [Act.put, upd, n7, n8, n9, n12, hL], by simpa [upd] using hph⟩
              simp only [n7, n8, n9, n12, hL, cond_true, cond_false]
              go_simp
            · skip
              have y5 : L 5 = true := up_at hu 5 (by kernel_rfl)
              have y6 : L 6 = true := up_at hu 6 (by kernel_rfl)
              have n8 : L 8 = false := not_yet hL fun h => shut_at hs 8 7 (by kernel_rfl) (h)
              have n9 : L 9 = false := not_yet hL fun h => shut_at hs 9 7 (by kernel_rfl) (h)
              have n12 : L 12 = false := not_yet hL fun h => shut_at hs 12 7 (by kernel_rfl) (h)
              simp only [y5, y6, n8, n9, n12, hL, cond_true, cond_false] at hph
              refine opIn_call (f := 46) (args := #[.int .i64 (x2 : Int), .int .i64 (y2 : Int)]) (w' := w') rfl rfl (fun c h => by cases h) (fun _ => trivial) rfl ?_ ((callsIn_wide.2 (HT2.out w')).mono ?_)
              · simp only [y5, y6, n8, n9, n12, hL, cond_true, cond_false]
                go_simp
              · rintro e w2 ⟨rfl, hn9, hb9⟩
                exact ⟨_, rfl, w'.heap.size + 1, z2, A9b, c9b, by simp [Act.put, upd, y5, y6, n8, n9, n12, hL], by simp only [upd, y5, y6, n8, n9, n12, hL]; exact g7 hph hn9 hb9⟩
            · skip
              have y5 : L 5 = true := shut_at hs 7 5 (by kernel_rfl) (up_at hu 7 (by kernel_rfl))
              have y6 : L 6 = true := shut_at hs 7 6 (by kernel_rfl) (up_at hu 7 (by kernel_rfl))
              have y7 : L 7 = true := up_at hu 7 (by kernel_rfl)
              have n9 : L 9 = false := not_yet hL fun h => shut_at hs 9 8 (by kernel_rfl) (h)
              have n12 : L 12 = false := not_yet hL fun h => shut_at hs 12 8 (by kernel_rfl) (h)
              simp only [y5, y6, y7, n9, n12, hL, cond_true, cond_false] at hph
              refine opIn_run (v := .slice (some ⟨w'.heap.size, 0, none⟩) 1 1) (w' := w'.alloc (Obj.cells #[.int .i64 (x2 : Int), .int .i64 (y2 : Int), .slice (some ⟨I2, 0, none⟩) N2 N2] 117)) rfl rfl (fun c h => by cases h) (fun _ => trivial) ?_ ⟨I2, w'.heap.size, A9b, c9b, by simp [Act.put, upd, y5, y6, y7, n9, n12, hL], by simp only [upd, y5, y6, y7, n9, n12, hL]; exact g8 hph⟩
              simp only [y5, y6, y7, n9, n12, hL, cond_true, cond_false]
              go_simp
            · skip
              have y1 : L 1 = true := shut_at hs 2 1 (by kernel_rfl) (shut_at hs 3 2 (by kernel_rfl) (shut_at hs 4 3 (by kernel_rfl) (up_at hu 4 (by kernel_rfl))))
              have y2 : L 2 = true := shut_at hs 3 2 (by kernel_rfl) (shut_at hs 4 3 (by kernel_rfl) (up_at hu 4 (by kernel_rfl)))
              have y3 : L 3 = true := shut_at hs 4 3 (by kernel_rfl) (up_at hu 4 (by kernel_rfl))
              have y4 : L 4 = true := up_at hu 4 (by kernel_rfl)
              have y5 : L 5 = true := shut_at hs 7 5 (by kernel_rfl) (up_at hu 7 (by kernel_rfl))
              have y6 : L 6 = true := shut_at hs 7 6 (by kernel_rfl) (up_at hu 7 (by kernel_rfl))
              have y7 : L 7 = true := up_at hu 7 (by kernel_rfl)
              have y8 : L 8 = true := up_at hu 8 (by kernel_rfl)
              have n12 : L 12 = false := not_yet hL fun h => shut_at hs 12 9 (by kernel_rfl) (h)
              simp only [y1, y2, y3, y4, y5, y6, y7, y8, n12, hL, cond_true, cond_false] at hph
              have hz9 := hph.2.2
              unfold GT at hz9
              rw [← HN2.out, HX2.out, HY2.out] at hz9
              obtain ⟨v9, w9, hrun9, hown9, hg9, _⟩ := app_tbl hph.1.2.2 hz9 (by have := hph.1.2.1.sz; omega) (by omega)
              obtain ⟨A9x, c9x, rfl, _, _, _⟩ := own_any hown9
              refine opIn_run (v := .slice A9x (j + 1 + 1) c9x) (w' := w9) rfl rfl (fun c h => by cases h) (fun _ => trivial) ?_ ⟨I2, z2, A9x, c9x, by simp [Act.put, upd, y1, y2, y3, y4, y5, y6, y7, y8, n12, hL], by simp only [upd, y1, y2, y3, y4, y5, y6, y7, y8, n12, hL]; exact g9 ⟨hph.1, hph.2.1⟩ hg9 hown9⟩
              simp only [y1, y2, y3, y4, y5, y6, y7, y8, n12, hL, cond_true, cond_false]
              go_simp
            · skip
              have y0 : L 0 = true := up_at hu 0 (by kernel_rfl)
              have y1 : L 1 = true := up_at hu 1 (by kernel_rfl)
              have y2 : L 2 = true := up_at hu 2 (by kernel_rfl)
              have y3 : L 3 = true := up_at hu 3 (by kernel_rfl)
              have y4 : L 4 = true := up_at hu 4 (by kernel_rfl)
              have y5 : L 5 = true := up_at hu 5 (by kernel_rfl)
              have y6 : L 6 = true := up_at hu 6 (by kernel_rfl)
              have y7 : L 7 = true := up_at hu 7 (by kernel_rfl)
              have y8 : L 8 = true := up_at hu 8 (by kernel_rfl)
              have y9 : L 9 = true := up_at hu 9 (by kernel_rfl)
              have n12 : L 12 = false := not_yet hL fun h => shut_at hs 11 10 (by kernel_rfl) (shut_at hs 12 11 (by kernel_rfl) (h))
              refine opIn_run (v := .pointer (some ⟨w.heap.size, 0, none⟩)) (w' := w') rfl rfl (fun c h => by cases h) (fun _ => trivial) ?_ ⟨I2, z2, A9b, c9b, by simp [Act.put, upd, y0, y1, y2, y3, y4, y5, y6, y7, y8, y9, n12, hL], by simpa [upd] using hph⟩
              simp only [y0, y1, y2, y3, y4, y5, y6, y7, y8, y9, n12, hL, cond_true, cond_false]
              go_simp
            · skip
              have y0 : L 0 = true := up_at hu 0 (by kernel_rfl)
              have y1 : L 1 = true := up_at hu 1 (by kernel_rfl)
              have y2 : L 2 = true := up_at hu 2 (by kernel_rfl)
              have y3 : L 3 = true := up_at hu 3 (by kernel_rfl)
              have y4 : L 4 = true := up_at hu 4 (by kernel_rfl)
              have y5 : L 5 = true := up_at hu 5 (by kernel_rfl)
              have y6 : L 6 = true := up_at hu 6 (by kernel_rfl)
              have y7 : L 7 = true := up_at hu 7 (by kernel_rfl)
              have y8 : L 8 = true := up_at hu 8 (by kernel_rfl)
              have y9 : L 9 = true := up_at hu 9 (by kernel_rfl)
              have y10 : L 10 = true := up_at hu 10 (by kernel_rfl)
              have n12 : L 12 = false := not_yet hL fun h => shut_at hs 12 11 (by kernel_rfl) (h)
              refine opIn_run (v := .pointer (some ⟨w.heap.size, 0, none⟩)) (w' := w') rfl rfl (fun c h => by cases h) (fun _ => trivial) ?_ ⟨I2, z2, A9b, c9b, by simp [Act.put, upd, y0, y1, y2, y3, y4, y5, y6, y7, y8, y9, y10, n12, hL], by simpa [upd] using hph⟩
              simp only [y0, y1, y2, y3, y4, y5, y6, y7, y8, y9, y10, n12, hL, cond_true, cond_false]
              go_simp
            · skip
              have y0 : L 0 = true := up_at hu 0 (by kernel_rfl)
              have y1 : L 1 = true := up_at hu 1 (by kernel_rfl)
              have y2 : L 2 = true := up_at hu 2 (by kernel_rfl)
              have y3 : L 3 = true := up_at hu 3 (by kernel_rfl)
              have y4 : L 4 = true := up_at hu 4 (by kernel_rfl)
              have y5 : L 5 = true := up_at hu 5 (by kernel_rfl)
              have y6 : L 6 = true := up_at hu 6 (by kernel_rfl)
              have y7 : L 7 = true := up_at hu 7 (by kernel_rfl)
              have y8 : L 8 = true := up_at hu 8 (by kernel_rfl)
              have y9 : L 9 = true := up_at hu 9 (by kernel_rfl)
              have y10 : L 10 = true := shut_at hs 11 10 (by kernel_rfl) (up_at hu 11 (by kernel_rfl))
              have y11 : L 11 = true := up_at hu 11 (by kernel_rfl)
              simp only [y0, y1, y2, y3, y4, y5, y6, y7, y8, y9, y10, y11, hL, cond_true, cond_false] at hph
              have k0 : w'.cell? ⟨w.heap.size, 0, none⟩ = some (.slice (some ⟨Lq, 0, none⟩) (j + 1) cl) := by simp [World.cell?, hph.1]
              have kf : w'.frozen? ⟨w.heap.size, 0, none⟩ = false := by simp [World.frozen?, hph.1]
              refine opIn_skip (w' := w'.setCell ⟨w.heap.size, 0, none⟩ (.slice A9b (j + 1 + 1) c9b)) rfl rfl (fun c h => by cases h) (fun _ => trivial) ?_ ⟨I2, z2, A9b, c9b, by simp [Act.put, upd, y0, y1, y2, y3, y4, y5, y6, y7, y8, y9, y10, y11, hL], by simp only [upd, y0, y1, y2, y3, y4, y5, y6, y7, y8, y9, y10, y11, hL]; exact g12 hph⟩
              simp only [y0, y1, y2, y3, y4, y5, y6, y7, y8, y9, y10, y11, hL, cond_true, cond_false]
              go_simp
          case fina =>
            intro L a' w' hall hI
            obtain ⟨I2, z2, A9b, c9b, rfl, hph⟩ := hI
            have l0 := hall 0 (by decide)
            have l1 := hall 1 (by decide)
            have l2 := hall 2 (by decide)
            have l3 := hall 3 (by decide)
            have l4 := hall 4 (by decide)
            have l5 := hall 5 (by decide)
            have l6 := hall 6 (by decide)
            have l7 := hall 7 (by decide)
            have l8 := hall 8 (by decide)
            have l9 := hall 9 (by decide)
            have l10 := hall 10 (by decide)
            have l11 := hall 11 (by decide)
            have l12 := hall 12 (by decide)
            simp only [l0, l1, l2, l3, l4, l5, l6, l7, l8, l9, l10, l11, l12, cond_true] at hph ⊢
            clear l0 l1 l2 l3 l4 l5 l6 l7 l8 l9 l10 l11 l12 hall
            obtain ⟨L9, c9z, hv, _, _, _⟩ := own_form hph.2.2.2 (by omega)
            cases hv
            have HX12 := Lib.hid hph
            clear hph
            obtain ⟨wf, hwf⟩ : ∃ wf : World, wf = w' := ⟨_, rfl⟩
            rw [← hwf] at HX12 ⊢
            clear hwf
            go_wp2
            go_roundw
            case rel => exact ⟨j + 1, L9, _, sh ++ [(x2, y2, I2)], by simp [HL.out], by rw [HX2.out], by rw [HY2.out], Lib.hid HX12.out.1, Lib.hid (by simpa [tblS, List.flatMap_append] using HX12.out.2.2.2), Lib.hid (by
              have h1 := HX12.out.2.2.1
              have hm := HX12.out.2.1.more (I := I2) (by rw [HL.out, HX2.out, HY2.out]; rw [← HX2.out, ← HY2.out, HN2.out]; exact h1.1) h1.2.1 h1.2.2 (by rw [HL.out]; exact HC.out) (by rw [HL.out]; omega)
              rw [HL.out, HX2.out, HY2.out] at hm
              exact hm)⟩
            case measure => simp [intOf]; omega
        · have e1 : decide ((1 : Int) < (x : Int)) = false := by simp; omega
          have e2 : decide ((1 : Int) < (y : Int)) = true := by simp; omega
          go_wp2_with fail
          rw [q1, q2]
          clear q1 q2 e1 e2
          have G00 : Hid (G0 w.heap.size w wr.drew W H (j + 1) sh (.slice (some ⟨Lq, 0, none⟩) (j + 1) cl)) := Lib.hid ⟨HP.out, HS.out.kept (below_drewN (Below.refl _ _) 1), HO.out⟩
          clear HP HO HS
          refine (wpIn_wide (n := 9)).1 (regionIn_inv (w := wr) (Inv := fun L a' w' => ∃ (I2 : Nat) (z2 : Nat) (A9b : Option Addr) (c9b : Nat), a' = { tmps := #[.int .i64 (x2 : Int), .int .i64 (y2 : Int), undef, undef, .pointer none, .pointer (some ⟨w.heap.size, 0, none⟩), .agg #[.slice none 0 0], .pointer (some ⟨w.heap.size, 0, none⟩), .int .i64 (W : Int), .bool false, .bool false, .int .i64 (W : Int), .bool false, .bool false, .bool false, .int .i64 (H : Int), .bool false, .bool false, .bool false, .int .i64 (H : Int), .bool false, .bool false, undef, .pointer (some ⟨w.heap.size, 0, none⟩), .pointer (some ⟨w.heap.size, 0, none⟩), .pointer (some ⟨w.heap.size, 0, none⟩), .pointer (some ⟨w.heap.size, 0, none⟩), .slice none 0 0, .int .i64 (W : Int), .int .i64 (H : Int), .agg #[.int .i64 (W : Int), .int .i64 (H : Int), .slice (some ⟨I, 0, none⟩) N N], .slice (some ⟨z, 0, none⟩) 1 1, .slice (some ⟨Lz, 0, none⟩) 1 c9, .pointer (some ⟨w.heap.size, 0, none⟩), .pointer (some ⟨w.heap.size, 0, none⟩), .int .i64 (x : Int), .bool false, .bool false, .int .i64 (y : Int), .bool true, .bool true, .int .i64 (x : Int), .int .i64 ((x : Int) + 1), .int .i64 (x2 : Int), .int .i64 (y : Int), .int .i64 ((y : Int) + 1), .int .i64 (y2 : Int), bif L 0 then .pointer (some ⟨w.heap.size, 0, none⟩) else u47, bif L 1 then .pointer (some ⟨w.heap.size, 0, none⟩) else u48, bif L 2 then .pointer (some ⟨w.heap.size, 0, none⟩) else u49, bif L 3 then .pointer (some ⟨w.heap.size, 0, none⟩) else u50, bif L 4 then .slice (some ⟨Lq, 0, none⟩) (j + 1) cl else u51, bif L 5 then .int .i64 (x2 : Int) else u52, bif L 6 then .int .i64 (y2 : Int) else u53, bif L 7 then .agg #[.int .i64 (x2 : Int), .int .i64 (y2 : Int), .slice (some ⟨I2, 0, none⟩) N2 N2] else u54, bif L 8 then .slice (some ⟨z2, 0, none⟩) 1 1 else u55, bif L 9 then .slice A9b (j + 1 + 1) c9b else u56, bif L 10 then .pointer (some ⟨w.heap.size, 0, none⟩) else u57, bif L 11 then .pointer (some ⟨w.heap.size, 0, none⟩) else u58, undef], defers := [] } ∧ (bif L 12 then ((G9 w.heap.size w w' W H (j + 1) sh (.slice A9b (j + 1 + 1) c9b) (.slice A9b (j + 1 + 1) c9b) x2 y2 N2 I2)) else (bif L 9 then ((G9 w.heap.size w w' W H (j + 1) sh (.slice (some ⟨Lq, 0, none⟩) (j + 1) cl) (.slice A9b (j + 1 + 1) c9b) x2 y2 N2 I2)) else (bif L 8 then ((G0 w.heap.size w w' W H (j + 1) sh (.slice (some ⟨Lq, 0, none⟩) (j + 1) cl) ∧ GI w.heap.size w' sh N2 I2 ∧ GT w' x2 y2 N2 I2 z2)) else (bif L 7 then ((G0 w.heap.size w w' W H (j + 1) sh (.slice (some ⟨Lq, 0, none⟩) (j + 1) cl) ∧ GI w.heap.size w' sh N2 I2)) else G0 w.heap.size w w' W H (j + 1) sh (.slice (some ⟨Lq, 0, none⟩) (j + 1) cl)))))) (by kernel_rfl) (by kernel_rfl) ?startb ?stepb ?finb)
          case startb => exact ⟨0, 0, none, 0, rfl, G00.out⟩
          case stepb =>
            intro i hi L a' w' hI hs hu
            obtain ⟨I2, z2, A9b, c9b, rfl, hph⟩ := hI
            have hL := hu.1
            have hi : i < 13 := hi
            obtain rfl | rfl | rfl | rfl | rfl | rfl | rfl | rfl | rfl | rfl | rfl | rfl | rfl := (by omega : i = 0 ∨ i = 1 ∨ i = 2 ∨ i = 3 ∨ i = 4 ∨ i = 5 ∨ i = 6 ∨ i = 7 ∨ i = 8 ∨ i = 9 ∨ i = 10 ∨ i = 11 ∨ i = 12)
            · skip
              have n12 : L 12 = false := not_yet hL fun h => shut_at hs 12 0 (by kernel_rfl) (h)
              refine opIn_run (v := .pointer (some ⟨w.heap.size, 0, none⟩)) (w' := w') rfl rfl (fun c h => by cases h) (fun _ => trivial) ?_ ⟨I2, z2, A9b, c9b, by simp [Act.put, upd, n12, hL], by simpa [upd] using hph⟩
              simp only [n12, hL, cond_true, cond_false]
              go_simp
            · skip
              have n9 : L 9 = false := not_yet hL fun h => shut_at hs 2 1 (by kernel_rfl) (shut_at hs 3 2 (by kernel_rfl) (shut_at hs 4 3 (by kernel_rfl) (shut_at hs 9 4 (by kernel_rfl) (h))))
              have n12 : L 12 = false := not_yet hL fun h => shut_at hs 12 1 (by kernel_rfl) (h)
              refine opIn_run (v := .pointer (some ⟨w.heap.size, 0, none⟩)) (w' := w') rfl rfl (fun c h => by cases h) (fun _ => trivial) ?_ ⟨I2, z2, A9b, c9b, by simp [Act.put, upd, n9, n12, hL], by simpa [upd] using hph⟩
              simp only [n9, n12, hL, cond_true, cond_false]
              go_simp
            · skip
              have y1 : L 1 = true := up_at hu 1 (by kernel_rfl)
              have n9 : L 9 = false := not_yet hL fun h => shut_at hs 3 2 (by kernel_rfl) (shut_at hs 4 3 (by kernel_rfl) (shut_at hs 9 4 (by kernel_rfl) (h)))
              have n12 : L 12 = false := not_yet hL fun h => shut_at hs 12 2 (by kernel_rfl) (h)
              refine opIn_run (v := .pointer (some ⟨w.heap.size, 0, none⟩)) (w' := w') rfl rfl (fun c h => by cases h) (fun _ => trivial) ?_ ⟨I2, z2, A9b, c9b, by simp [Act.put, upd, y1, n9, n12, hL], by simpa [upd] using hph⟩
              simp only [y1, n9, n12, hL, cond_true, cond_false]
              go_simp
            · skip
              have y1 : L 1 = true := shut_at hs 2 1 (by kernel_rfl) (up_at hu 2 (by kernel_rfl))
              have y2 : L 2 = true := up_at hu 2 (by kernel_rfl)
              have n9 : L 9 = false := not_yet hL fun h => shut_at hs 4 3 (by kernel_rfl) (shut_at hs 9 4 (by kernel_rfl) (h))
              have n12 : L 12 = false := not_yet hL fun h => shut_at hs 12 3 (by kernel_rfl) (h)
              refine opIn_run (v := .pointer (some ⟨w.heap.size, 0, none⟩)) (w' := w') rfl rfl (fun c h => by cases h) (fun _ => trivial) ?_ ⟨I2, z2, A9b, c9b, by simp [Act.put, upd, y1, y2, n9, n12, hL], by simpa [upd] using hph⟩
              simp only [y1, y2, n9, n12, hL, cond_true, cond_false]
              go_simp
            · skip
              have y1 : L 1 = true := shut_at hs 2 1 (by kernel_rfl) (shut_at hs 3 2 (by kernel_rfl) (up_at hu 3 (by kernel_rfl)))
              have y2 : L 2 = true := shut_at hs 3 2 (by kernel_rfl) (up_at hu 3 (by kernel_rfl))
              have y3 : L 3 = true := up_at hu 3 (by kernel_rfl)
              have n9 : L 9 = false := not_yet hL fun h => shut_at hs 9 4 (by kernel_rfl) (h)
              have n12 : L 12 = false := not_yet hL fun h => shut_at hs 12 4 (by kernel_rfl) (h)
              simp only [y1, y2, y3, n9, n12, hL, cond_true, cond_false] at hph
              have hbx : w'.heap[w.heap.size]? = some (.cells #[.slice (some ⟨Lq, 0, none⟩) (j + 1) cl] 114 (0, 0)) := by cases h7 : L 7 <;> cases h8 : L 8 <;> simp only [h7, h8, cond_true, cond_false] at hph <;> first | exact hph.1 | exact hph.1.1
              have k0 : w'.cell? ⟨w.heap.size, 0, none⟩ = some (.slice (some ⟨Lq, 0, none⟩) (j + 1) cl) := by simp [World.cell?, hbx]
              refine opIn_run (v := .slice (some ⟨Lq, 0, none⟩) (j + 1) cl) (w' := w') rfl rfl (fun c h => by cases h) (fun _ => trivial) ?_ ⟨I2, z2, A9b, c9b, by simp [Act.put, upd, y1, y2, y3, n9, n12, hL], by simp only [upd, y1, y2, y3, n9, n12, hL]; exact hph⟩
              simp only [y1, y2, y3, n9, n12, hL, cond_true, cond_false]
              go_simp
            · skip
              have n7 : L 7 = false := not_yet hL fun h => shut_at hs 7 5 (by kernel_rfl) (h)
              have n8 : L 8 = false := not_yet hL fun h => shut_at hs 7 5 (by kernel_rfl) (shut_at hs 8 7 (by kernel_rfl) (h))
              have n9 : L 9 = false := not_yet hL fun h => shut_at hs 7 5 (by kernel_rfl) (shut_at hs 9 7 (by kernel_rfl) (h))
              have n12 : L 12 = false := not_yet hL fun h => shut_at hs 12 5 (by kernel_rfl) (h)
              refine opIn_run (v := .int .i64 (x2 : Int)) (w' := w') rfl rfl (fun c h => by cases h) (fun _ => trivial) ?_ ⟨I2, z2, A9b, c9b, by simp [Act.put, upd, n7, n8, n9, n12, hL], by simpa [upd] using hph⟩
              simp only [n7, n8, n9, n12, hL, cond_true, cond_false]
              go_simp
            · skip
              have n7 : L 7 = false := not_yet hL fun h => shut_at hs 7 6 (by kernel_rfl) (h)
              have n8 : L 8 = false := not_yet hL fun h => shut_at hs 7 6 (by kernel_rfl) (shut_at hs 8 7 (by kernel_rfl) (h))
              have n9 : L 9 = false := not_yet hL fun h => shut_at hs 7 6 (by kernel_rfl) (shut_at hs 9 7 (by kernel_rfl) (h))
              have n12 : L 12 = false := not_yet hL fun h => shut_at hs 12 6 (by kernel_rfl) (h)
              refine opIn_run (v := .int .i64 (y2 : Int)) (w' := w') rfl rfl (fun c h => by cases h) (fun _ => trivial) ?_ ⟨I2, z2, A9b, c9b, by simp [Act.put, upd, n7, n8, n9, n12, hL], by simpa [upd] using hph⟩
              simp only [n7, n8, n9, n12, hL, cond_true, cond_false]
              go_simp
            · skip
              have y5 : L 5 = true := up_at hu 5 (by kernel_rfl)
              have y6 : L 6 = true := up_at hu 6 (by kernel_rfl)
              have n8 : L 8 = false := not_yet hL fun h => shut_at hs 8 7 (by kernel_rfl) (h)
              have n9 : L 9 = false := not_yet hL fun h => shut_at hs 9 7 (by kernel_rfl) (h)
              have n12 : L 12 = false := not_yet hL fun h => shut_at hs 12 7 (by kernel_rfl) (h)
              simp only [y5, y6, n8, n9, n12, hL, cond_true, cond_false] at hph
              refine opIn_call (f := 46) (args := #[.int .i64 (x2 : Int), .int .i64 (y2 : Int)]) (w' := w') rfl rfl (fun c h => by cases h) (fun _ => trivial) rfl ?_ ((callsIn_wide.2 (HT2.out w')).mono ?_)
              · simp only [y5, y6, n8, n9, n12, hL, cond_true, cond_false]
                go_simp
              · rintro e w2 ⟨rfl, hn9, hb9⟩
                exact ⟨_, rfl, w'.heap.size + 1, z2, A9b, c9b, by simp [Act.put, upd, y5, y6, n8, n9, n12, hL], by simp only [upd, y5, y6, n8, n9, n12, hL]; exact g7 hph hn9 hb9⟩
            · skip
              have y5 : L 5 = true := shut_at hs 7 5 (by kernel_rfl) (up_at hu 7 (by kernel_rfl))
              have y6 : L 6 = true := shut_at hs 7 6 (by kernel_rfl) (up_at hu 7 (by kernel_rfl))
              have y7 : L 7 = true := up_at hu 7 (by kernel_rfl)
              have n9 : L 9 = false := not_yet hL fun h => shut_at hs 9 8 (by kernel_rfl) (h)
              have n12 : L 12 = false := not_yet hL fun h => shut_at hs 12 8 (by kernel_rfl) (h)
              simp only [y5, y6, y7, n9, n12, hL, cond_true, cond_false] at hph
              refine opIn_run (v := .slice (some ⟨w'.heap.size, 0, none⟩) 1 1) (w' := w'.alloc (Obj.cells #[.int .i64 (x2 : Int), .int .i64 (y2 : Int), .slice (some ⟨I2, 0, none⟩) N2 N2] 117)) rfl rfl (fun c h => by cases h) (fun _ => trivial) ?_ ⟨I2, w'.heap.size, A9b, c9b, by simp [Act.put, upd, y5, y6, y7, n9, n12, hL], by simp only [upd, y5, y6, y7, n9, n12, hL]; exact g8 hph⟩
              simp only [y5, y6, y7, n9, n12, hL, cond_true, cond_false]
              go_simp
            · skip
              have y1 : L 1 = true := shut_at hs 2 1 (by kernel_rfl) (shut_at hs 3 2 (by kernel_rfl) (shut_at hs 4 3 (by kernel_rfl) (up_at hu 4 (by kernel_rfl))))
              have y2 : L 2 = true := shut_at hs 3 2 (by kernel_rfl) (shut_at hs 4 3 (by kernel_rfl) (up_at hu 4 (by kernel_rfl)))
              have y3 : L 3 = true := shut_at hs 4 3 (by kernel_rfl) (up_at hu 4 (by kernel_rfl))
              have y4 : L 4 = true := up_at hu 4 (by kernel_rfl)
              have y5 : L 5 = true := shut_at hs 7 5 (by kernel_rfl) (up_at hu 7 (by kernel_rfl))
              have y6 : L 6 = true := shut_at hs 7 6 (by kernel_rfl) (up_at hu 7 (by kernel_rfl))
              have y7 : L 7 = true := up_at hu 7 (by kernel_rfl)
              have y8 : L 8 = true := up_at hu 8 (by kernel_rfl)
              have n12 : L 12 = false := not_yet hL fun h => shut_at hs 12 9 (by kernel_rfl) (h)
              simp only [y1, y2, y3, y4, y5, y6, y7, y8, n12, hL, cond_true, cond_false] at hph
              have hz9 := hph.2.2
              unfold GT at hz9
              rw [← HN2.out, HX2.out, HY2.out] at hz9
              obtain ⟨v9, w9, hrun9, hown9, hg9, _⟩ := app_tbl hph.1.2.2 hz9 (by have := hph.1.2.1.sz; omega) (by omega)
              obtain ⟨A9x, c9x, rfl, _, _, _⟩ := own_any hown9
              refine opIn_run (v := .slice A9x (j + 1 + 1) c9x) (w' := w9) rfl rfl (fun c h => by cases h) (fun _ => trivial) ?_ ⟨I2, z2, A9x, c9x, by simp [Act.put, upd, y1, y2, y3, y4, y5, y6, y7, y8, n12, hL], by simp only [upd, y1, y2, y3, y4, y5, y6, y7, y8, n12, hL]; exact g9 ⟨hph.1, hph.2.1⟩ hg9 hown9⟩
              simp only [y1, y2, y3, y4, y5, y6, y7, y8, n12, hL, cond_true, cond_false]
              go_simp
            · skip
              have y0 : L 0 = true := up_at hu 0 (by kernel_rfl)
              have y1 : L 1 = true := up_at hu 1 (by kernel_rfl)
              have y2 : L 2 = true := up_at hu 2 (by kernel_rfl)
              have y3 : L 3 = true := up_at hu 3 (by kernel_rfl)
              have y4 : L 4 = true := up_at hu 4 (by kernel_rfl)
              have y5 : L 5 = true := up_at hu 5 (by kernel_rfl)
              have y6 : L 6 = true := up_at hu 6 (by kernel_rfl)
              have y7 : L 7 = true := up_at hu 7 (by kernel_rfl)
              have y8 : L 8 = true := up_at hu 8 (by kernel_rfl)
              have y9 : L 9 = true := up_at hu 9 (by kernel_rfl)
              have n12 : L 12 = false := not_yet hL fun h => shut_at hs 11 10 (by kernel_rfl) (shut_at hs 12 11 (by kernel_rfl) (h))
              refine opIn_run (v := .pointer (some ⟨w.heap.size, 0, none⟩)) (w' := w') rfl rfl (fun c h => by cases h) (fun _ => trivial) ?_ ⟨I2, z2, A9b, c9b, by simp [Act.put, upd, y0, y1, y2, y3, y4, y5, y6, y7, y8, y9, n12, hL], by simpa [upd] using hph⟩
              simp only [y0, y1, y2, y3, y4, y5, y6, y7, y8, y9, n12, hL, cond_true, cond_false]
              go_simp
            · skip
              have y0 : L 0 = true := up_at hu 0 (by kernel_rfl)
              have y1 : L 1 = true := up_at hu 1 (by kernel_rfl)
              have y2 : L 2 = true := up_at hu 2 (by kernel_rfl)
              have y3 : L 3 = true := up_at hu 3 (by kernel_rfl)
              have y4 : L 4 = true := up_at hu 4 (by kernel_rfl)
              have y5 : L 5 = true := up_at hu 5 (by kernel_rfl)
              have y6 : L 6 = true := up_at hu 6 (by kernel_rfl)
              have y7 : L 7 = true := up_at hu 7 (by kernel_rfl)
              have y8 : L 8 = true := up_at hu 8 (by kernel_rfl)
              have y9 : L 9 = true := up_at hu 9 (by kernel_rfl)
              have y10 : L 10 = true := up_at hu 10 (by kernel_rfl)
              have n12 : L 12 = false := not_yet hL fun h => shut_at hs 12 11 (by kernel_rfl) (h)
              refine opIn_run (v := .pointer (some ⟨w.heap.size, 0, none⟩)) (w' := w') rfl rfl (fun c h => by cases h) (fun _ => trivial) ?_ ⟨I2, z2, A9b, c9b, by simp [Act.put, upd, y0, y1, y2, y3, y4, y5, y6, y7, y8, y9, y10, n12, hL], by simpa [upd] using hph⟩
              simp only [y0, y1, y2, y3, y4, y5, y6, y7, y8, y9, y10, n12, hL, cond_true, cond_false]
              go_simp
            · skip
              have y0 : L 0 = true := up_at hu 0 (by kernel_rfl)
              have y1 : L 1 = true := up_at hu 1 (by kernel_rfl)
              have y2 : L 2 = true := up_at hu 2 (by kernel_rfl)
              have y3 : L 3 = true := up_at hu 3 (by kernel_rfl)
              have y4 : L 4 = true := up_at hu 4 (by kernel_rfl)
              have y5 : L 5 = true := up_at hu 5 (by kernel_rfl)
              have y6 : L 6 = true := up_at hu 6 (by kernel_rfl)
              have y7 : L 7 = true := up_at hu 7 (by kernel_rfl)
              have y8 : L 8 = true := up_at hu 8 (by kernel_rfl)
              have y9 : L 9 = true := up_at hu 9 (by kernel_rfl)
              have y10 : L 10 = true := shut_at hs 11 10 (by kernel_rfl) (up_at hu 11 (by kernel_rfl))
              have y11 : L 11 = true := up_at hu 11 (by kernel_rfl)
              simp only [y0, y1, y2, y3, y4, y5, y6, y7, y8, y9, y10, y11, hL, cond_true, cond_false] at hph
              have k0 : w'.cell? ⟨w.heap.size, 0, none⟩ = some (.slice (some ⟨Lq, 0, none⟩) (j + 1) cl) := by simp [World.cell?, hph.1]
              have kf : w'.frozen? ⟨w.heap.size, 0, none⟩ = false := by simp [World.frozen?, hph.1]
              refine opIn_skip (w' := w'.setCell ⟨w.heap.size, 0, none⟩ (.slice A9b (j + 1 + 1) c9b)) rfl rfl (fun c h => by cases h) (fun _ => trivial) ?_ ⟨I2, z2, A9b, c9b, by simp [Act.put, upd, y0, y1, y2, y3, y4, y5, y6, y7, y8, y9, y10, y11, hL], by simp only [upd, y0, y1, y2, y3, y4, y5, y6, y7, y8, y9, y10, y11, hL]; exact g12 hph⟩
              simp only [y0, y1, y2, y3, y4, y5, y6, y7, y8, y9, y10, y11, hL, cond_true, cond_false]
              go_simp
          case finb =>
            intro L a' w' hall hI
            obtain ⟨I2, z2, A9b, c9b, rfl, hph⟩ := hI
            have l0 := hall 0 (by decide)
            have l1 := hall 1 (by decide)
            have l2 := hall 2 (by decide)
            have l3 := hall 3 (by decide)
            have l4 := hall 4 (by decide)
            have l5 := hall 5 (by decide)
            have l6 := hall 6 (by decide)
            have l7 := hall 7 (by decide)
            have l8 := hall 8 (by decide)
            have l9 := hall 9 (by decide)
            have l10 := hall 10 (by decide)
            have l11 := hall 11 (by decide)
            have l12 := hall 12 (by decide)
            simp only [l0, l1, l2, l3, l4, l5, l6, l7, l8, l9, l10, l11, l12, cond_true] at hph ⊢
            clear l0 l1 l2 l3 l4 l5 l6 l7 l8 l9 l10 l11 l12 hall
            obtain ⟨L9, c9z, hv, _, _, _⟩ := own_form hph.2.2.2 (by omega)
            cases hv
            have HX12 := Lib.hid hph
            clear hph
            obtain ⟨wf, hwf⟩ : ∃ wf : World, wf = w' := ⟨_, rfl⟩
            rw [← hwf] at HX12 ⊢
            clear hwf
            go_wp2
            go_roundw
            case rel => exact ⟨j + 1, L9, _, sh ++ [(x2, y2, I2)], by simp [HL.out], by rw [HX2.out], by rw [HY2.out], Lib.hid HX12.out.1, Lib.hid (by simpa [tblS, List.flatMap_append] using HX12.out.2.2.2), Lib.hid (by
              have h1 := HX12.out.2.2.1
              have hm := HX12.out.2.1.more (I := I2) (by rw [HL.out, HX2.out, HY2.out]; rw [← HX2.out, ← HY2.out, HN2.out]; exact h1.1) h1.2.1 h1.2.2 (by rw [HL.out]; exact HC.out) (by rw [HL.out]; omega)
              rw [HL.out, HX2.out, HY2.out] at hm
              exact hm)⟩
            case measure => simp [intOf]; omega
      · have hc2 : ¬ 1 < dimF W j ∧ ¬ 1 < dimF H j := by omega
        have e1 : decide ((1 : Int) < (dimF W j : Int)) = false := by simp; omega
        have e2 : decide ((1 : Int) < (dimF H j : Int)) = false := by simp; omega
        have e3 : ¬ (1 : Int) < (dimF W j : Int) := by omega
        have e4 : ¬ (1 : Int) < (dimF H j : Int) := by omega
        clear hc sW sH
        go_wp2
        go_ret
        have hdj : dimF W j = 1 ∧ dimF H j = 1 := by omega
        have hl := HL.out
        refine ⟨rfl, Lq, cl, sh, ⟨by rw [hl]; exact HP.out, ?_, ?_, HS.out.df, ?_, ?_⟩, ⟨⟨hW.1, hW.2, hH.1, hH.2⟩, fun i W' H' I' e => (HS.out.nd i W' H' I' e).2.2, HS.out.len, ?_, HS.out.mid⟩, ?_, HS.out.bel⟩
        · intro i W' H' I' e
          obtain ⟨t0, t1, t2⟩ := tbls_get sh i _ e
          have hi := (List.getElem?_eq_some_iff.1 e).1
          have hlen := HO.out.1
          have z2 := (List.getElem?_eq_some_iff.1 t2).1
          have c0 := HO.out.cellAt (i * 3) (by omega)
          have c1 := HO.out.cellAt (i * 3 + 1) (by omega)
          have c2 := HO.out.cellAt (i * 3 + 2) (by omega)
          rw [t0] at c0
          rw [t1] at c1
          rw [t2] at c2
          exact ⟨c0, c1, c2⟩
        · intro i W' H' I' e
          refine ⟨_, (HS.out.nd i W' H' I' e).1, ?_⟩
          intro m hm
          exact nodes0_get _ m hm
        · intro i a e
          obtain ⟨W', H', I'⟩ := a
          have hn := HS.out.nd i W' H' I' e
          refine ⟨by show I' ≠ _; omega, fun e' => ?_⟩
          have e' : I' = Lq := e'
          exact blk_not_row hn.1 (by decide) HO.out (by rw [e']; rfl)
        · have := own_lt HO.out (k := Lq) rfl; omega
        · rw [hl]; simpa using hdj
        · intro k hk
          rcases hk with rfl | rfl | ⟨i, ⟨W', H', I'⟩, e, rfl⟩
          · exact Nat.le_refl _
          · have := own_lt HO.out (k := k) rfl; omega
          · have := (HS.out.nd i W' H' I' e).2.1
            exact Nat.le_of_lt this
end Go.Proofs.Ytobbkdhndojggaa
