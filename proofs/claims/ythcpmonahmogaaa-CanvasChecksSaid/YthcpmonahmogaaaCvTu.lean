/- canvas: three components that are alike may be turned (CanvasTurn). -/
import Derived.Test.YthcpmonahmogaaaCvG
import Derived.Test.YthcpmonahmogaaaAnyInv
import Derived.Deep.LoopGhost
set_option linter.unusedVariables false
set_option linter.unusedSimpArgs false
namespace Go.Proofs.Ythcpmonahmogaaa
open Go.RowKit
attribute [local go_sem ↓] appSem_eq
set_option maxRecDepth 100000
def plC : Cp := ⟨8, false, 1, 1, none, 0, 0⟩
def cellsC (c : Cp) : List Value := [.int .i64 c.d, .bool c.sg, .int .i64 c.dx, .int .i64 c.dy, .slice c.A c.n c.cap]
theorem comps_set {w : World} {B g n cp k f : Nat} {u : Value} {c' : Cp} (h : w.ownsRow B 39 5 (.slice (some ⟨g, 0, none⟩) n cp) n (plR n)) (hk : k < n) (hf : f < 5) (hc : cellsC c' = plainV.set f u) :
    CompsAt (w.setCell ⟨g, k * 5 + f, none⟩ u) (some ⟨g, 0, none⟩) ((List.replicate n plC).set k c') := by
  rcases h.2 with ⟨h', _⟩ | ⟨g', cap', cur, h', _, hg, _, _, hsz, htake⟩
  · simp at h'
  · simp only [Value.slice.injEq, Option.some.injEq, Addr.mk.injEq] at h'
    obtain ⟨⟨rfl, _⟩, _, rfl⟩ := h'
    have hcap : n ≤ cp := by assumption
    have hl : g < w.heap.size := (Array.getElem?_eq_some_iff.1 hg).1
    have hW : (w.setCell ⟨g, k * 5 + f, none⟩ u).heap[g]? = some (.cells (cur.setIfInBounds (k * 5 + f) u) 39 (0, 0)) := by
      simp [World.setCell, Array.getElem?_modify, hg]
    have hget : ∀ o, o < n * 5 → cur[o]? = (plR n)[o]? := by
      intro o ho
      rw [← htake, List.getElem?_take, if_pos ho, Array.getElem?_toList]
    have hcell : ∀ o, o < n * 5 → (w.setCell ⟨g, k * 5 + f, none⟩ u).cell? ⟨g, o, none⟩ = if k * 5 + f = o then some u else (plR n)[o]? := by
      intro o ho
      have : (w.setCell ⟨g, k * 5 + f, none⟩ u).cell? ⟨g, o, none⟩ = (cur.setIfInBounds (k * 5 + f) u)[o]? := by simp [World.cell?, hW]
      rw [this, Array.getElem?_setIfInBounds]
      by_cases e : k * 5 + f = o
      · rw [if_pos e, if_pos e, if_pos (by omega)]
      · rw [if_neg e, if_neg e]
        exact hget o ho
    intro i c e
    have hi : i < n := by
      rcases Nat.lt_or_ge i n with h' | h'
      · exact h'
      · rw [List.getElem?_eq_none (by simpa using h')] at e; cases e
    refine ⟨g, 0, rfl, by simp [World.setCell]; exact hl, ?_⟩
    rw [Nat.zero_add]
    obtain ⟨p0, p1, p2, p3, p4⟩ := plR_get n i hi
    rw [List.getElem?_set] at e
    by_cases hik : k = i
    · subst hik
      rw [if_pos rfl, if_pos (by simpa using hk)] at e
      cases e
      have hcs : ∀ q, q < 5 → (w.setCell ⟨g, k * 5 + f, none⟩ u).cell? ⟨g, k * 5 + q, none⟩ = (cellsC c')[q]? := by
        intro q hq
        rw [hcell _ (by omega), hc, List.getElem?_set]
        by_cases hqf : f = q
        · subst hqf
          rw [if_pos rfl, if_pos rfl, if_pos (by simpa [plainV] using hf)]
        · rw [if_neg (by omega), if_neg hqf]
          obtain rfl | rfl | rfl | rfl | rfl := (by omega : q = 0 ∨ q = 1 ∨ q = 2 ∨ q = 3 ∨ q = 4)
          · exact p0
          · exact p1
          · exact p2
          · exact p3
          · exact p4
      exact ⟨hcs 0 (by omega), hcs 1 (by omega), hcs 2 (by omega), hcs 3 (by omega), hcs 4 (by omega)⟩
    · rw [if_neg hik, List.getElem?_replicate, if_pos hi] at e
      cases e
      refine ⟨?_, ?_, ?_, ?_, ?_⟩
      · rw [hcell _ (by omega), if_neg (by omega)]; exact p0
      · rw [hcell _ (by omega), if_neg (by omega)]; exact p1
      · rw [hcell _ (by omega), if_neg (by omega)]; exact p2
      · rw [hcell _ (by omega), if_neg (by omega)]; exact p3
      · rw [hcell _ (by omega), if_neg (by omega)]; exact p4
theorem GS.setp {B : Nat} {w0 w : World} {bm bp j : Nat} {x y ox oy : Int} {P : Array Value} {V U : Value} (h : GS B w0 w bm bp x y ox oy P V U j) (i : Nat) (u : Value) : GS B w0 (w.setCell ⟨bp, i, none⟩ u) bm bp x y ox oy (P.setIfInBounds i u) V U j := by
  have kp : ∀ k, k ≠ bp → (w.setCell ⟨bp, i, none⟩ u).heap[k]? = w.heap[k]? := fun k hk => Below.heap_setCell _ _ _ _ (by simpa using hk)
  refine ⟨(kp _ h.bb.2.2).trans h.m, ?_, ownsRow_keep h.o (by simp [World.setCell]) (fun k e => kp k (fun e' => blk_not_row h.p (by decide) h.o (by rw [e, e']))), h.bel.setCell (p := ⟨bp, i, none⟩) (by show B ≤ bp; have := h.bb; omega) _, h.bb⟩
  simp [World.setCell, Array.getElem?_modify, h.p]
/-- What Frame says of a turned picture. -/
def turnF (cs : List Cp) : Int := frameF 8 8 0 0 cs 64 64 2 4 4 15 0 0 1 true
theorem turn_0 (n k : Nat) (h1 : 1 ≤ n) (h4 : n ≤ 4) (hk : k < n) : turnF ((List.replicate n plC).set k ⟨9, false, 1, 1, none, 0, 0⟩) = if k = 3 then 0 else 3 := by
  obtain rfl | rfl | rfl | rfl := (by omega : n = 1 ∨ n = 2 ∨ n = 3 ∨ n = 4)
  · obtain rfl := (by omega : k = 0); decide
  · obtain rfl | rfl := (by omega : k = 0 ∨ k = 1) <;> decide
  · obtain rfl | rfl | rfl := (by omega : k = 0 ∨ k = 1 ∨ k = 2) <;> decide
  · obtain rfl | rfl | rfl | rfl := (by omega : k = 0 ∨ k = 1 ∨ k = 2 ∨ k = 3) <;> decide
theorem turn_1 (n k : Nat) (h1 : 1 ≤ n) (h4 : n ≤ 4) (hk : k < n) : turnF ((List.replicate n plC).set k ⟨8, true, 1, 1, none, 0, 0⟩) = if k = 3 then 0 else 3 := by
  obtain rfl | rfl | rfl | rfl := (by omega : n = 1 ∨ n = 2 ∨ n = 3 ∨ n = 4)
  · obtain rfl := (by omega : k = 0); decide
  · obtain rfl | rfl := (by omega : k = 0 ∨ k = 1) <;> decide
  · obtain rfl | rfl | rfl := (by omega : k = 0 ∨ k = 1 ∨ k = 2) <;> decide
  · obtain rfl | rfl | rfl | rfl := (by omega : k = 0 ∨ k = 1 ∨ k = 2 ∨ k = 3) <;> decide
theorem turn_2 (n k : Nat) (h1 : 1 ≤ n) (h4 : n ≤ 4) (hk : k < n) : turnF ((List.replicate n plC).set k ⟨8, false, 2, 1, none, 0, 0⟩) = if k = 3 then 0 else 3 := by
  obtain rfl | rfl | rfl | rfl := (by omega : n = 1 ∨ n = 2 ∨ n = 3 ∨ n = 4)
  · obtain rfl := (by omega : k = 0); decide
  · obtain rfl | rfl := (by omega : k = 0 ∨ k = 1) <;> decide
  · obtain rfl | rfl | rfl := (by omega : k = 0 ∨ k = 1 ∨ k = 2) <;> decide
  · obtain rfl | rfl | rfl | rfl := (by omega : k = 0 ∨ k = 1 ∨ k = 2 ∨ k = 3) <;> decide
theorem turn_3 (n k : Nat) (h1 : 1 ≤ n) (h4 : n ≤ 4) (hk : k < n) : turnF ((List.replicate n plC).set k ⟨8, false, 1, 2, none, 0, 0⟩) = if k = 3 then 0 else 3 := by
  obtain rfl | rfl | rfl | rfl := (by omega : n = 1 ∨ n = 2 ∨ n = 3 ∨ n = 4)
  · obtain rfl := (by omega : k = 0); decide
  · obtain rfl | rfl := (by omega : k = 0 ∨ k = 1) <;> decide
  · obtain rfl | rfl | rfl := (by omega : k = 0 ∨ k = 1 ∨ k = 2) <;> decide
  · obtain rfl | rfl | rfl | rfl := (by omega : k = 0 ∨ k = 1 ∨ k = 2 ∨ k = 3) <;> decide
theorem turn_4 (n : Nat) (h1 : 1 ≤ n) (h4 : n ≤ 4) : turnF (List.replicate n plC) = if 3 ≤ n then 0 else 3 := by
  obtain rfl | rfl | rfl | rfl := (by omega : n = 1 ∨ n = 2 ∨ n = 3 ∨ n = 4) <;> decide

set_option maxHeartbeats 32000000 in
set_option pp.deepTerms true in
set_option pp.maxSteps 10000000 in
theorem walk_canvasTurn (a0 : Int) (a1 : Int) (a2 : Int) (w : World) (w0 : (Lit.int .i64 a0).wf = true) (w1 : (Lit.int .i64 a1).wf = true) (w2 : (Lit.int .i64 a2).wf = true) :
    Calls Try.prog 7 #[.int .i64 a0, .int .i64 a1, .int .i64 a2] w fun e w' => e = .returned (.bool true) ∧ Below w.heap.size w w' := by
  have hbd0 := bd_i64 w0
  have hbd1 := bd_i64 w1
  have hbd2 := bd_i64 w2
  clear w0 w1 w2
  have K := Lib.hid (fun u => known12 u)
  go_enter Try.func7, Try.ntmps7
  go_wp2_with fail
  refine (K.out _).mono ?_
  rintro e u0 ⟨rfl, hb⟩
  have HB0 := Lib.hid hb
  clear hb
  go_wp2_with fail
  refine (some12 a0 4 _ (by omega) (by omega)).mono ?_
  rintro e w' ⟨r, rfl, hr0, hr1, rfl⟩
  obtain ⟨n, hn⟩ : ∃ n : Nat, (1 : Int) + r = (n : Int) := ⟨(1 + r).toNat, by omega⟩
  have hn1 : 1 ≤ n ∧ n ≤ 4 := by omega
  go_wp2_with fail
  clear hn hr0 hr1
  refine (one_any 8 8 0 0 u0).mono ?_
  rintro e u1 ⟨cb, rfl, hcb, hcc, hb⟩
  have HB1 := Lib.hid (HB0.out.trans (hb.mono HB0.out.size))
  have HC1 := Lib.hid hcc
  have hcw : w.heap.size ≤ cb := Nat.le_trans HB0.out.size hcb
  have hcu : cb < u1.heap.size := (Array.getElem?_eq_some_iff.1 hcc).1
  clear hb hcc
  go_wp2_with fail
  obtain ⟨bm, hbm⟩ : ∃ bm, u1.heap.size = bm := ⟨_, rfl⟩
  obtain ⟨W6, hW6⟩ : ∃ W6, (u1.alloc (Obj.cells #[.int .i64 8, .int .i64 8, .int .i64 0, .int .i64 0, .slice (some ⟨cb, 0, none⟩) 1 1] 24)).alloc (Obj.cells #[.int .i64 64, .int .i64 64, .int .i64 2, .int .i64 4, .int .i64 4, .int .i64 15, .int .i64 0, .int .i64 0, .int .i64 1, .bool false, .bool false, .bool false] 26) = W6 := ⟨_, rfl⟩
  have q0 : W6.heap[bm]? = some (.cells #[.int .i64 8, .int .i64 8, .int .i64 0, .int .i64 0, .slice (some ⟨cb, 0, none⟩) 1 1] 24 (0, 0)) := by
    rw [← hW6, Below.heap_alloc _ _ _ (by simp; omega), ← hbm]; exact World.alloc_heap_new u1 _
  have q1 : W6.heap[bm + 1]? = some (.cells #[.int .i64 64, .int .i64 64, .int .i64 2, .int .i64 4, .int .i64 4, .int .i64 15, .int .i64 0, .int .i64 0, .int .i64 1, .bool false, .bool false, .bool false] 26 (0, 0)) := by
    rw [← hW6, show bm + 1 = (u1.alloc (Obj.cells #[.int .i64 8, .int .i64 8, .int .i64 0, .int .i64 0, .slice (some ⟨cb, 0, none⟩) 1 1] 24)).heap.size by simp; omega]; exact World.alloc_heap_new _ _
  have q2 : W6.heap[cb]? = some (.cells #[.int .i64 8, .bool false, .int .i64 1, .int .i64 1, .slice none 0 0] 39 (0, 0)) := by
    rw [← hW6, Below.heap_alloc _ _ _ (by simp; omega), Below.heap_alloc _ _ _ hcu]; exact HC1.out
  have hB6 : Below w.heap.size w W6 := by rw [← hW6]; exact (HB1.out.alloc HB1.out.size _).alloc (by have := HB1.out.size; simp; omega) _
  rw [hW6]
  rw [hbm]
  obtain ⟨bp, hbp⟩ : ∃ bp, bm + 1 = bp := ⟨_, rfl⟩
  rw [hbp] at q1 ⊢
  have hne : cb < bm ∧ bm < bp ∧ w.heap.size ≤ bm := by have := HB1.out.size; omega
  have G0 : Hid (GS w.heap.size w W6 bm bp 8 8 0 0 #[.int .i64 64, .int .i64 64, .int .i64 2, .int .i64 4, .int .i64 4, .int .i64 15, .int .i64 0, .int .i64 0, .int .i64 1, .bool false, .bool false, .bool false] (.slice (some ⟨cb, 0, none⟩) 1 1) (.slice (some ⟨cb, 0, none⟩) 1 1) 1) := Lib.hid ⟨q0, q1, own_plain q2 hcw, hB6, ⟨hne.2.2, by omega, by omega⟩⟩
  clear hW6 hbm hbp q0 q1 q2 hB6 hcu hcb
  go_loopg [22] 5 (fun g v wr => ∃ (j : Nat) (A : Option Addr) (c : Nat), 1 ≤ j ∧ j ≤ n ∧ j + g = 6 ∧ Hid (GS w.heap.size w wr bm bp 8 8 0 0 #[.int .i64 64, .int .i64 64, .int .i64 2, .int .i64 4, .int .i64 4, .int .i64 15, .int .i64 0, .int .i64 0, .int .i64 1, .bool false, .bool false, .bool false] (.slice A j c) (.slice A j c) j))
  case atStart => exact ⟨1, _, _, by omega, by omega, by omega, G0⟩
  case round =>
    obtain ⟨j, A, c, hj1, hj2, hjg, HG⟩ := hrel
    clear G0
    obtain ⟨gb, cc, hv, hgb, hgl, hcc1, hcc2⟩ := own_form HG.out.o (by omega)
    cases hv
    have hcm : c ≤ 9223372036854775807 := by unfold maxLen at hcc2; omega
    obtain ⟨g0, g1, g2, g3, g4⟩ := img_cells HG.out.m
    by_cases hlt : j < n
    · have hlt' : (j : Int) < (n : Int) := by omega
      go_wp2_with fail
      clear g0 g1 g2 g3 g4
      refine (wpIn_wide (n := 9)).1 (regionIn_inv (w := wr) (Inv := fun L a' w' => ∃ (z : Nat) (A9 : Option Addr) (c9 : Nat), a' = { tmps := #[.int .i64 (n : Int), .int .i64 a1, .int .i64 a2, undef, undef, undef, .bool false, .pointer (some ⟨bm, 0, none⟩), .pointer (some ⟨bp, 0, none⟩), undef, undef, undef, undef, .bool true, .bool false, .int .i64 a0, .int .i64 r, .int .i64 (n : Int), .tuple #[.agg #[.int .i64 8, .int .i64 8, .int .i64 0, .int .i64 0, .slice (some ⟨cb, 0, none⟩) 1 1], .agg #[.int .i64 64, .int .i64 64, .int .i64 2, .int .i64 4, .int .i64 4, .int .i64 15, .int .i64 0, .int .i64 0, .int .i64 1, .bool false, .bool false, .bool false]], .tuple #[.agg #[.int .i64 8, .int .i64 8, .int .i64 0, .int .i64 0, .slice (some ⟨cb, 0, none⟩) 1 1], .agg #[.int .i64 64, .int .i64 64, .int .i64 2, .int .i64 4, .int .i64 4, .int .i64 15, .int .i64 0, .int .i64 0, .int .i64 1, .bool false, .bool false, .bool false]], .agg #[.int .i64 8, .int .i64 8, .int .i64 0, .int .i64 0, .slice (some ⟨cb, 0, none⟩) 1 1], .agg #[.int .i64 64, .int .i64 64, .int .i64 2, .int .i64 4, .int .i64 4, .int .i64 15, .int .i64 0, .int .i64 0, .int .i64 1, .bool false, .bool false, .bool false], .pointer (some ⟨bm, 4, none⟩), .slice (some ⟨gb, 0, none⟩) j c, .int .i64 (j : Int), .int .i64 (n : Int), .bool true, bif L 0 then .pointer (some ⟨bm, 4, none⟩) else u27, bif L 1 then .slice (some ⟨gb, 0, none⟩) j c else u28, bif L 2 then .pointer (some ⟨bm, 4, none⟩) else u29, bif L 3 then .slice (some ⟨gb, 0, none⟩) j c else u30, bif L 4 then .pointer (some ⟨gb, 0, none⟩) else u31, bif L 5 then .agg #[.int .i64 8, .bool false, .int .i64 1, .int .i64 1, .slice none 0 0] else u32, bif L 6 then .slice (some ⟨z, 0, none⟩) 1 1 else u33, bif L 7 then .slice A9 (j + 1) c9 else u34, bif L 8 then .pointer (some ⟨bm, 4, none⟩) else u35, undef, undef, undef, undef, undef, undef, undef, undef, undef, undef, undef, undef, undef, undef, undef, undef, undef, undef, undef, undef, undef, undef, undef, undef, undef, undef, undef, undef, undef, undef, undef, undef, undef, undef, undef, undef, undef, undef, undef, undef, undef, undef, undef, undef, undef, undef, undef, undef, undef, undef, undef, undef, undef, undef, undef, undef, undef, undef, undef, undef, undef, undef, undef, undef, undef, undef, undef, undef, undef, undef, undef, undef, undef], defers := [] } ∧ (bif L 9 then ((GS w.heap.size w w' bm bp 8 8 0 0 #[.int .i64 64, .int .i64 64, .int .i64 2, .int .i64 4, .int .i64 4, .int .i64 15, .int .i64 0, .int .i64 0, .int .i64 1, .bool false, .bool false, .bool false] (.slice A9 (j + 1) c9) (.slice A9 (j + 1) c9) (j + 1))) else (bif L 7 then ((GS w.heap.size w w' bm bp 8 8 0 0 #[.int .i64 64, .int .i64 64, .int .i64 2, .int .i64 4, .int .i64 4, .int .i64 15, .int .i64 0, .int .i64 0, .int .i64 1, .bool false, .bool false, .bool false] (.slice (some ⟨gb, 0, none⟩) j c) (.slice A9 (j + 1) c9) (j + 1))) else (bif L 6 then ((GS w.heap.size w w' bm bp 8 8 0 0 #[.int .i64 64, .int .i64 64, .int .i64 2, .int .i64 4, .int .i64 4, .int .i64 15, .int .i64 0, .int .i64 0, .int .i64 1, .bool false, .bool false, .bool false] (.slice (some ⟨gb, 0, none⟩) j c) (.slice (some ⟨gb, 0, none⟩) j c) j ∧ w'.heap[z]? = some (.cells #[.int .i64 8, .bool false, .int .i64 1, .int .i64 1, .slice none 0 0] 39 (0, 0)))) else (GS w.heap.size w w' bm bp 8 8 0 0 #[.int .i64 64, .int .i64 64, .int .i64 2, .int .i64 4, .int .i64 4, .int .i64 15, .int .i64 0, .int .i64 0, .int .i64 1, .bool false, .bool false, .bool false] (.slice (some ⟨gb, 0, none⟩) j c) (.slice (some ⟨gb, 0, none⟩) j c) j))))) (by kernel_rfl) (by kernel_rfl) ?startq ?stepq ?finq)
      case startq => exact ⟨0, none, 0, rfl, HG.out.below (below_drewN (Below.refl _ _) 1)⟩
      case stepq =>
        intro i hi L a' w' hI hs hu
        obtain ⟨z, A9, c9, rfl, hph⟩ := hI
        have hL := hu.1
        have hi : i < 10 := hi
        obtain rfl | rfl | rfl | rfl | rfl | rfl | rfl | rfl | rfl | rfl := (by omega : i = 0 ∨ i = 1 ∨ i = 2 ∨ i = 3 ∨ i = 4 ∨ i = 5 ∨ i = 6 ∨ i = 7 ∨ i = 8 ∨ i = 9)
        · skip
          have n7 : L 7 = false := not_yet hL fun h => shut_at hs 1 0 (by kernel_rfl) (shut_at hs 7 1 (by kernel_rfl) (h))
          have n9 : L 9 = false := not_yet hL fun h => shut_at hs 9 0 (by kernel_rfl) (h)
          refine opIn_run (v := .pointer (some ⟨bm, 4, none⟩)) (w' := w') rfl rfl (fun c h => by cases h) (fun _ => trivial) ?_ ⟨z, A9, c9, by simp [Act.put, upd, n7, n9, hL], by simpa [upd] using hph⟩
          simp only [n7, n9, hL, cond_true, cond_false]
          go_simp
        · skip
          have y0 : L 0 = true := up_at hu 0 (by kernel_rfl)
          have n7 : L 7 = false := not_yet hL fun h => shut_at hs 7 1 (by kernel_rfl) (h)
          have n9 : L 9 = false := not_yet hL fun h => shut_at hs 9 1 (by kernel_rfl) (h)
          simp only [y0, n7, n9, hL, cond_true, cond_false] at hph
          have hb1 : GS w.heap.size w w' bm bp 8 8 0 0 #[.int .i64 64, .int .i64 64, .int .i64 2, .int .i64 4, .int .i64 4, .int .i64 15, .int .i64 0, .int .i64 0, .int .i64 1, .bool false, .bool false, .bool false] (.slice (some ⟨gb, 0, none⟩) j c) (.slice (some ⟨gb, 0, none⟩) j c) j := by cases h6 : L 6 <;> simp only [h6, cond_true, cond_false] at hph <;> first | exact hph | exact hph.1
          obtain ⟨m0, m1, m2, m3, m4⟩ := img_cells hb1.m
          refine opIn_run (v := .slice (some ⟨gb, 0, none⟩) j c) (w' := w') rfl rfl (fun c h => by cases h) (fun _ => trivial) ?_ ⟨z, A9, c9, by simp [Act.put, upd, y0, n7, n9, hL], by simp only [upd, y0, n7, n9, hL]; exact hph⟩
          simp only [y0, n7, n9, hL, cond_true, cond_false]
          go_simp
        · skip
          have n6 : L 6 = false := not_yet hL fun h => shut_at hs 3 2 (by kernel_rfl) (shut_at hs 4 3 (by kernel_rfl) (shut_at hs 5 4 (by kernel_rfl) (shut_at hs 6 5 (by kernel_rfl) (h))))
          have n7 : L 7 = false := not_yet hL fun h => shut_at hs 3 2 (by kernel_rfl) (shut_at hs 4 3 (by kernel_rfl) (shut_at hs 5 4 (by kernel_rfl) (shut_at hs 6 5 (by kernel_rfl) (shut_at hs 7 6 (by kernel_rfl) (h)))))
          have n9 : L 9 = false := not_yet hL fun h => shut_at hs 9 2 (by kernel_rfl) (h)
          refine opIn_run (v := .pointer (some ⟨bm, 4, none⟩)) (w' := w') rfl rfl (fun c h => by cases h) (fun _ => trivial) ?_ ⟨z, A9, c9, by simp [Act.put, upd, n6, n7, n9, hL], by simpa [upd] using hph⟩
          simp only [n6, n7, n9, hL, cond_true, cond_false]
          go_simp
        · skip
          have y2 : L 2 = true := up_at hu 2 (by kernel_rfl)
          have n6 : L 6 = false := not_yet hL fun h => shut_at hs 4 3 (by kernel_rfl) (shut_at hs 5 4 (by kernel_rfl) (shut_at hs 6 5 (by kernel_rfl) (h)))
          have n7 : L 7 = false := not_yet hL fun h => shut_at hs 4 3 (by kernel_rfl) (shut_at hs 5 4 (by kernel_rfl) (shut_at hs 6 5 (by kernel_rfl) (shut_at hs 7 6 (by kernel_rfl) (h))))
          have n9 : L 9 = false := not_yet hL fun h => shut_at hs 9 3 (by kernel_rfl) (h)
          simp only [y2, n6, n7, n9, hL, cond_true, cond_false] at hph
          obtain ⟨m0, m1, m2, m3, m4⟩ := img_cells hph.m
          refine opIn_run (v := .slice (some ⟨gb, 0, none⟩) j c) (w' := w') rfl rfl (fun c h => by cases h) (fun _ => trivial) ?_ ⟨z, A9, c9, by simp [Act.put, upd, y2, n6, n7, n9, hL], by simp only [upd, y2, n6, n7, n9, hL]; exact hph⟩
          simp only [y2, n6, n7, n9, hL, cond_true, cond_false]
          go_simp
        · skip
          have y2 : L 2 = true := shut_at hs 3 2 (by kernel_rfl) (up_at hu 3 (by kernel_rfl))
          have y3 : L 3 = true := up_at hu 3 (by kernel_rfl)
          have n6 : L 6 = false := not_yet hL fun h => shut_at hs 5 4 (by kernel_rfl) (shut_at hs 6 5 (by kernel_rfl) (h))
          have n7 : L 7 = false := not_yet hL fun h => shut_at hs 5 4 (by kernel_rfl) (shut_at hs 6 5 (by kernel_rfl) (shut_at hs 7 6 (by kernel_rfl) (h)))
          have n9 : L 9 = false := not_yet hL fun h => shut_at hs 9 4 (by kernel_rfl) (h)
          simp only [y2, y3, n6, n7, n9, hL, cond_true, cond_false] at hph
          have hj0 : (0 : Int) < (j : Int) := by omega
          have hj00 : 0 < j := by omega
          have hjn : ¬ j = 0 := by omega
          refine opIn_run (v := .pointer (some ⟨gb, 0, none⟩)) (w' := w') rfl rfl (fun c h => by cases h) (fun _ => trivial) ?_ ⟨z, A9, c9, by simp [Act.put, upd, y2, y3, n6, n7, n9, hL], by simp only [upd, y2, y3, n6, n7, n9, hL]; exact hph⟩
          simp only [y2, y3, n6, n7, n9, hL, cond_true, cond_false]
          go_simp
        · skip
          have y2 : L 2 = true := shut_at hs 3 2 (by kernel_rfl) (shut_at hs 4 3 (by kernel_rfl) (up_at hu 4 (by kernel_rfl)))
          have y3 : L 3 = true := shut_at hs 4 3 (by kernel_rfl) (up_at hu 4 (by kernel_rfl))
          have y4 : L 4 = true := up_at hu 4 (by kernel_rfl)
          have n6 : L 6 = false := not_yet hL fun h => shut_at hs 6 5 (by kernel_rfl) (h)
          have n7 : L 7 = false := not_yet hL fun h => shut_at hs 6 5 (by kernel_rfl) (shut_at hs 7 6 (by kernel_rfl) (h))
          have n9 : L 9 = false := not_yet hL fun h => shut_at hs 9 5 (by kernel_rfl) (h)
          simp only [y2, y3, y4, n6, n7, n9, hL, cond_true, cond_false] at hph
          obtain ⟨p0, p1, p2, p3, p4⟩ := hph.first (by omega)
          refine opIn_run (v := .agg #[.int .i64 8, .bool false, .int .i64 1, .int .i64 1, .slice none 0 0]) (w' := w') rfl rfl (fun c h => by cases h) (fun _ => trivial) ?_ ⟨z, A9, c9, by simp [Act.put, upd, y2, y3, y4, n6, n7, n9, hL], by simp only [upd, y2, y3, y4, n6, n7, n9, hL]; exact hph⟩
          simp only [y2, y3, y4, n6, n7, n9, hL, cond_true, cond_false]
          go_simp
        · skip
          have y2 : L 2 = true := shut_at hs 3 2 (by kernel_rfl) (shut_at hs 4 3 (by kernel_rfl) (shut_at hs 5 4 (by kernel_rfl) (up_at hu 5 (by kernel_rfl))))
          have y3 : L 3 = true := shut_at hs 4 3 (by kernel_rfl) (shut_at hs 5 4 (by kernel_rfl) (up_at hu 5 (by kernel_rfl)))
          have y4 : L 4 = true := shut_at hs 5 4 (by kernel_rfl) (up_at hu 5 (by kernel_rfl))
          have y5 : L 5 = true := up_at hu 5 (by kernel_rfl)
          have n7 : L 7 = false := not_yet hL fun h => shut_at hs 7 6 (by kernel_rfl) (h)
          have n9 : L 9 = false := not_yet hL fun h => shut_at hs 9 6 (by kernel_rfl) (h)
          simp only [y2, y3, y4, y5, n7, n9, hL, cond_true, cond_false] at hph
          refine opIn_run (v := .slice (some ⟨w'.heap.size, 0, none⟩) 1 1) (w' := w'.alloc (Obj.cells #[.int .i64 8, .bool false, .int .i64 1, .int .i64 1, .slice none 0 0] 39)) rfl rfl (fun c h => by cases h) (fun _ => trivial) ?_ ⟨w'.heap.size, A9, c9, by simp [Act.put, upd, y2, y3, y4, y5, n7, n9, hL], by simp only [upd, y2, y3, y4, y5, n7, n9, hL]; exact ⟨hph.below ((Below.refl _ _).alloc (Nat.le_refl _) _), World.alloc_heap_new w' _⟩⟩
          simp only [y2, y3, y4, y5, n7, n9, hL, cond_true, cond_false]
          go_simp
        · skip
          have y0 : L 0 = true := shut_at hs 1 0 (by kernel_rfl) (up_at hu 1 (by kernel_rfl))
          have y1 : L 1 = true := up_at hu 1 (by kernel_rfl)
          have y2 : L 2 = true := shut_at hs 3 2 (by kernel_rfl) (shut_at hs 4 3 (by kernel_rfl) (shut_at hs 5 4 (by kernel_rfl) (shut_at hs 6 5 (by kernel_rfl) (up_at hu 6 (by kernel_rfl)))))
          have y3 : L 3 = true := shut_at hs 4 3 (by kernel_rfl) (shut_at hs 5 4 (by kernel_rfl) (shut_at hs 6 5 (by kernel_rfl) (up_at hu 6 (by kernel_rfl))))
          have y4 : L 4 = true := shut_at hs 5 4 (by kernel_rfl) (shut_at hs 6 5 (by kernel_rfl) (up_at hu 6 (by kernel_rfl)))
          have y5 : L 5 = true := shut_at hs 6 5 (by kernel_rfl) (up_at hu 6 (by kernel_rfl))
          have y6 : L 6 = true := up_at hu 6 (by kernel_rfl)
          have n9 : L 9 = false := not_yet hL fun h => shut_at hs 9 7 (by kernel_rfl) (h)
          simp only [y0, y1, y2, y3, y4, y5, y6, n9, hL, cond_true, cond_false] at hph
          obtain ⟨v9, w9, hrun9, hown9, hg9, _⟩ := app_comp hph.1.o hph.2 (by have := hph.1.bel.size; omega) (by omega)
          obtain ⟨A9x, c9x, rfl, _, _, _⟩ := own_any hown9
          refine opIn_run (v := .slice A9x (j + 1) c9x) (w' := w9) rfl rfl (fun c h => by cases h) (fun _ => trivial) ?_ ⟨z, A9x, c9x, by simp [Act.put, upd, y0, y1, y2, y3, y4, y5, y6, n9, hL], by simp only [upd, y0, y1, y2, y3, y4, y5, y6, n9, hL]; exact hph.1.grown hg9 hown9⟩
          simp only [y0, y1, y2, y3, y4, y5, y6, n9, hL, cond_true, cond_false]
          go_simp
        · skip
          have y0 : L 0 = true := up_at hu 0 (by kernel_rfl)
          have y1 : L 1 = true := up_at hu 1 (by kernel_rfl)
          have y2 : L 2 = true := up_at hu 2 (by kernel_rfl)
          have y3 : L 3 = true := up_at hu 3 (by kernel_rfl)
          have y4 : L 4 = true := up_at hu 4 (by kernel_rfl)
          have y5 : L 5 = true := up_at hu 5 (by kernel_rfl)
          have y6 : L 6 = true := up_at hu 6 (by kernel_rfl)
          have y7 : L 7 = true := up_at hu 7 (by kernel_rfl)
          have n9 : L 9 = false := not_yet hL fun h => shut_at hs 9 8 (by kernel_rfl) (h)
          refine opIn_run (v := .pointer (some ⟨bm, 4, none⟩)) (w' := w') rfl rfl (fun c h => by cases h) (fun _ => trivial) ?_ ⟨z, A9, c9, by simp [Act.put, upd, y0, y1, y2, y3, y4, y5, y6, y7, n9, hL], by simpa [upd] using hph⟩
          simp only [y0, y1, y2, y3, y4, y5, y6, y7, n9, hL, cond_true, cond_false]
          go_simp
        · skip
          have y0 : L 0 = true := up_at hu 0 (by kernel_rfl)
          have y1 : L 1 = true := up_at hu 1 (by kernel_rfl)
          have y2 : L 2 = true := up_at hu 2 (by kernel_rfl)
          have y3 : L 3 = true := up_at hu 3 (by kernel_rfl)
          have y4 : L 4 = true := up_at hu 4 (by kernel_rfl)
          have y5 : L 5 = true := up_at hu 5 (by kernel_rfl)
          have y6 : L 6 = true := up_at hu 6 (by kernel_rfl)
          have y7 : L 7 = true := up_at hu 7 (by kernel_rfl)
          have y8 : L 8 = true := up_at hu 8 (by kernel_rfl)
          simp only [y0, y1, y2, y3, y4, y5, y6, y7, y8, hL, cond_true, cond_false] at hph
          obtain ⟨m0, m1, m2, m3, m4⟩ := img_cells hph.m
          have kf : w'.frozen? ⟨bm, 4, none⟩ = false := by simp [World.frozen?, hph.m]
          refine opIn_skip (w' := w'.setCell ⟨bm, 4, none⟩ (.slice A9 (j + 1) c9)) rfl rfl (fun c h => by cases h) (fun _ => trivial) ?_ ⟨z, A9, c9, by simp [Act.put, upd, y0, y1, y2, y3, y4, y5, y6, y7, y8, hL], by simp only [upd, y0, y1, y2, y3, y4, y5, y6, y7, y8, hL]; exact hph.setm⟩
          simp only [y0, y1, y2, y3, y4, y5, y6, y7, y8, hL, cond_true, cond_false]
          go_simp
      case finq =>
        intro L a' w' hall hI
        obtain ⟨z, A9, c9, rfl, hph⟩ := hI
        have l0 := hall 0 (by decide)
        have l1 := hall 1 (by decide)
        have l2 := hall 2 (by decide)
        have l3 := hall 3 (by decide)
        have l4 := hall 4 (by decide)
        have l5 := hall 5 (by decide)
        have l6 := hall 6 (by decide)
        have l7 := hall 7 (by decide)
        have l8 := hall 8 (by decide)
        have l9 := hall 9 (by decide)
        simp only [l0, l1, l2, l3, l4, l5, l6, l7, l8, l9, cond_true] at hph ⊢
        clear l0 l1 l2 l3 l4 l5 l6 l7 l8 l9 hall
        have HG9 := Lib.hid hph
        clear hph
        obtain ⟨wf, hwf⟩ : ∃ wf : World, wf = w' := ⟨_, rfl⟩
        rw [← hwf] at HG9 ⊢
        clear hwf
        go_wp2
        go_roundg (gk - 1)
        case rel => exact ⟨j + 1, _, _, by omega, by omega, by omega, HG9⟩
        case measure => omega
    · obtain rfl : j = n := by omega
      have HP : Hid (GS w.heap.size w (wr.setCell ⟨bp, 9, none⟩ (.bool true)) bm bp 8 8 0 0 #[.int .i64 64, .int .i64 64, .int .i64 2, .int .i64 4, .int .i64 4, .int .i64 15, .int .i64 0, .int .i64 0, .int .i64 1, .bool true, .bool false, .bool false] (.slice (some ⟨gb, 0, none⟩) j c) (.slice (some ⟨gb, 0, none⟩) j c) j) := Lib.hid (HG.out.setp 9 (.bool true))
      obtain ⟨k0, k1, k2, k3, k4, k5, k6, k7, k8, k9, k10, k11⟩ := par_cells HG.out.p
      have f1 : wr.frozen? ⟨bp, 9, none⟩ = false := by simp [World.frozen?, HG.out.p]
      have hnlt : ¬ (j : Int) < (j : Int) := by omega
      go_wp2_with fail
      clear g0 g1 g2 g3 g4 k0 k1 k2 k3 k4 k5 k6 k7 k8 k9 k10 k11 f1 hnlt
      obtain ⟨wp, hwp⟩ : ∃ wp, wr.setCell ⟨bp, 9, none⟩ (.bool true) = wp := ⟨_, rfl⟩
      rw [hwp] at HP ⊢
      clear hwp HG
      refine (some12 a1 (j : Int) _ (by omega) (by omega)).mono ?_
      rintro e w' ⟨r2, rfl, hk0, hk1, rfl⟩
      obtain ⟨k, rfl⟩ : ∃ k : Nat, r2 = (k : Int) := ⟨r2.toNat, by omega⟩
      have hkj : k < j := by omega
      obtain ⟨g0, g1, g2, g3, g4⟩ := img_cells HP.out.m
      obtain ⟨k0, k1, k2, k3, k4, k5, k6, k7, k8, k9, k10, k11⟩ := par_cells HP.out.p
      obtain ⟨p0, p1, p2, p3, p4⟩ := plR_get j k hkj
      have x0 : wp.cell? ⟨gb, k * 5, none⟩ = some (.int .i64 8) := (HP.out.o.cellAt _ (by omega)).trans p0
      have x1 : wp.cell? ⟨gb, k * 5 + 1, none⟩ = some (.bool false) := (HP.out.o.cellAt _ (by omega)).trans p1
      have x2 : wp.cell? ⟨gb, k * 5 + 2, none⟩ = some (.int .i64 1) := (HP.out.o.cellAt _ (by omega)).trans p2
      have x3 : wp.cell? ⟨gb, k * 5 + 3, none⟩ = some (.int .i64 1) := (HP.out.o.cellAt _ (by omega)).trans p3
      have x4 : wp.cell? ⟨gb, k * 5 + 4, none⟩ = some (.slice none 0 0) := (HP.out.o.cellAt _ (by omega)).trans p4
      have xf : ∀ o, wp.frozen? ⟨gb, o, none⟩ = false := fun o => HP.out.o.frozenAt o
      have hbne : gb ≠ bm ∧ gb ≠ bp := ⟨fun e => blk_not_row HP.out.m (by decide) HP.out.o (by rw [← e]; rfl), fun e => blk_not_row HP.out.p (by decide) HP.out.o (by rw [← e]; rfl)⟩
      have hkj' : (k : Int) < (j : Int) := by omega
      clear p0 p1 p2 p3 p4
      go_wp2_with fail
      refine (some12 a2 5 _ (by omega) (by omega)).mono ?_
      rintro e w' ⟨r, rfl, hr0, hr1, rfl⟩
      obtain rfl | rfl | rfl | rfl | rfl := (by omega : r = 0 ∨ r = 1 ∨ r = 2 ∨ r = 3 ∨ r = 4)
      · skip
        have hcp := comps_set (u := .int .i64 9) (f := 0) (c' := ⟨9, false, 1, 1, none, 0, 0⟩) HP.out.o hkj (by omega) rfl
        have hlen : ((List.replicate j plC).set k ⟨9, false, 1, 1, none, 0, 0⟩).length = j := by simp
        have CF0 := frame_any (cC := c) 8 8 0 0 64 64 2 4 4 15 0 0 1 true false false hcp (by rw [hlen]; exact ⟨hcc1, hcc2⟩)
        rw [hlen] at CF0
        have CF := Lib.hid CF0
        have HB : Hid (Below w.heap.size w (wp.setCell ⟨gb, k * 5, none⟩ (.int .i64 9))) := Lib.hid (HP.out.bel.setCell (p := ⟨gb, k * 5, none⟩) hgb _)
        have hval := turn_0 j k hj1 hn1.2 hkj
        unfold turnF at hval
        clear hcp hlen CF0
        rcases (by omega : j < 3 ∨ (3 ≤ j ∧ k ≠ 3) ∨ (3 ≤ j ∧ k = 3)) with h3 | ⟨h3, hk3⟩ | ⟨h3, hk3⟩
        · skip
          have HV := Lib.hid (hval.trans (if_neg (by omega)))
          have e1 : decide ((3 : Int) ≤ (j : Int)) = false := by simp; omega
          have e9 : ¬ (3 : Int) ≤ (j : Int) := by omega
          clear hval
          go_wp2_with fail
          refine CF.out.mono ?_
          rintro e w2 ⟨rfl, hb⟩
          rw [HV.out]
          have HB2 := Lib.hid (HB.out.trans (hb.mono HB.out.size))
          clear hb CF g0 g1 g2 g3 g4 k0 k1 k2 k3 k4 k5 k6 k7 k8 k9 k10 k11 x0 x1 x2 x3 x4 xf
          go_wp2
          go_ret
          exact ⟨rfl, HB2.out⟩
        · skip
          have HV := Lib.hid (hval.trans (if_neg (by omega)))
          have e1 : decide ((3 : Int) ≤ (j : Int)) = true := by simp; omega
          have e9 : (3 : Int) ≤ (j : Int) := by omega
          have e2 : ((k : Int) == 3) = false := by simp; omega
          have e3 : decide ((k : Int) = 3) = false := by simp; omega
          clear hval hk3
          go_wp2_with fail
          refine CF.out.mono ?_
          rintro e w2 ⟨rfl, hb⟩
          rw [HV.out]
          have HB2 := Lib.hid (HB.out.trans (hb.mono HB.out.size))
          clear hb CF g0 g1 g2 g3 g4 k0 k1 k2 k3 k4 k5 k6 k7 k8 k9 k10 k11 x0 x1 x2 x3 x4 xf
          go_wp2
          go_ret
          exact ⟨rfl, HB2.out⟩
        · skip
          have HV := Lib.hid (hval.trans (if_pos hk3))
          have e1 : decide ((3 : Int) ≤ (j : Int)) = true := by simp; omega
          have e9 : (3 : Int) ≤ (j : Int) := by omega
          have e2 : ((k : Int) == 3) = true := by simp; omega
          have e3 : decide ((k : Int) = 3) = true := by simp; omega
          clear hval hk3
          go_wp2_with fail
          refine CF.out.mono ?_
          rintro e w2 ⟨rfl, hb⟩
          rw [HV.out]
          have HB2 := Lib.hid (HB.out.trans (hb.mono HB.out.size))
          clear hb CF g0 g1 g2 g3 g4 k0 k1 k2 k3 k4 k5 k6 k7 k8 k9 k10 k11 x0 x1 x2 x3 x4 xf
          go_wp2
          go_ret
          exact ⟨rfl, HB2.out⟩
      · skip
        have hcp := comps_set (u := .bool true) (f := 1) (c' := ⟨8, true, 1, 1, none, 0, 0⟩) HP.out.o hkj (by omega) rfl
        have hlen : ((List.replicate j plC).set k ⟨8, true, 1, 1, none, 0, 0⟩).length = j := by simp
        have CF0 := frame_any (cC := c) 8 8 0 0 64 64 2 4 4 15 0 0 1 true false false hcp (by rw [hlen]; exact ⟨hcc1, hcc2⟩)
        rw [hlen] at CF0
        have CF := Lib.hid CF0
        have HB : Hid (Below w.heap.size w (wp.setCell ⟨gb, k * 5 + 1, none⟩ (.bool true))) := Lib.hid (HP.out.bel.setCell (p := ⟨gb, k * 5 + 1, none⟩) hgb _)
        have hval := turn_1 j k hj1 hn1.2 hkj
        unfold turnF at hval
        clear hcp hlen CF0
        rcases (by omega : j < 3 ∨ (3 ≤ j ∧ k ≠ 3) ∨ (3 ≤ j ∧ k = 3)) with h3 | ⟨h3, hk3⟩ | ⟨h3, hk3⟩
        · skip
          have HV := Lib.hid (hval.trans (if_neg (by omega)))
          have e1 : decide ((3 : Int) ≤ (j : Int)) = false := by simp; omega
          have e9 : ¬ (3 : Int) ≤ (j : Int) := by omega
          clear hval
          go_wp2_with fail
          refine CF.out.mono ?_
          rintro e w2 ⟨rfl, hb⟩
          rw [HV.out]
          have HB2 := Lib.hid (HB.out.trans (hb.mono HB.out.size))
          clear hb CF g0 g1 g2 g3 g4 k0 k1 k2 k3 k4 k5 k6 k7 k8 k9 k10 k11 x0 x1 x2 x3 x4 xf
          go_wp2
          go_ret
          exact ⟨rfl, HB2.out⟩
        · skip
          have HV := Lib.hid (hval.trans (if_neg (by omega)))
          have e1 : decide ((3 : Int) ≤ (j : Int)) = true := by simp; omega
          have e9 : (3 : Int) ≤ (j : Int) := by omega
          have e2 : ((k : Int) == 3) = false := by simp; omega
          have e3 : decide ((k : Int) = 3) = false := by simp; omega
          clear hval hk3
          go_wp2_with fail
          refine CF.out.mono ?_
          rintro e w2 ⟨rfl, hb⟩
          rw [HV.out]
          have HB2 := Lib.hid (HB.out.trans (hb.mono HB.out.size))
          clear hb CF g0 g1 g2 g3 g4 k0 k1 k2 k3 k4 k5 k6 k7 k8 k9 k10 k11 x0 x1 x2 x3 x4 xf
          go_wp2
          go_ret
          exact ⟨rfl, HB2.out⟩
        · skip
          have HV := Lib.hid (hval.trans (if_pos hk3))
          have e1 : decide ((3 : Int) ≤ (j : Int)) = true := by simp; omega
          have e9 : (3 : Int) ≤ (j : Int) := by omega
          have e2 : ((k : Int) == 3) = true := by simp; omega
          have e3 : decide ((k : Int) = 3) = true := by simp; omega
          clear hval hk3
          go_wp2_with fail
          refine CF.out.mono ?_
          rintro e w2 ⟨rfl, hb⟩
          rw [HV.out]
          have HB2 := Lib.hid (HB.out.trans (hb.mono HB.out.size))
          clear hb CF g0 g1 g2 g3 g4 k0 k1 k2 k3 k4 k5 k6 k7 k8 k9 k10 k11 x0 x1 x2 x3 x4 xf
          go_wp2
          go_ret
          exact ⟨rfl, HB2.out⟩
      · skip
        have hcp := comps_set (u := .int .i64 2) (f := 2) (c' := ⟨8, false, 2, 1, none, 0, 0⟩) HP.out.o hkj (by omega) rfl
        have hlen : ((List.replicate j plC).set k ⟨8, false, 2, 1, none, 0, 0⟩).length = j := by simp
        have CF0 := frame_any (cC := c) 8 8 0 0 64 64 2 4 4 15 0 0 1 true false false hcp (by rw [hlen]; exact ⟨hcc1, hcc2⟩)
        rw [hlen] at CF0
        have CF := Lib.hid CF0
        have HB : Hid (Below w.heap.size w (wp.setCell ⟨gb, k * 5 + 2, none⟩ (.int .i64 2))) := Lib.hid (HP.out.bel.setCell (p := ⟨gb, k * 5 + 2, none⟩) hgb _)
        have hval := turn_2 j k hj1 hn1.2 hkj
        unfold turnF at hval
        clear hcp hlen CF0
        rcases (by omega : j < 3 ∨ (3 ≤ j ∧ k ≠ 3) ∨ (3 ≤ j ∧ k = 3)) with h3 | ⟨h3, hk3⟩ | ⟨h3, hk3⟩
        · skip
          have HV := Lib.hid (hval.trans (if_neg (by omega)))
          have e1 : decide ((3 : Int) ≤ (j : Int)) = false := by simp; omega
          have e9 : ¬ (3 : Int) ≤ (j : Int) := by omega
          clear hval
          go_wp2_with fail
          refine CF.out.mono ?_
          rintro e w2 ⟨rfl, hb⟩
          rw [HV.out]
          have HB2 := Lib.hid (HB.out.trans (hb.mono HB.out.size))
          clear hb CF g0 g1 g2 g3 g4 k0 k1 k2 k3 k4 k5 k6 k7 k8 k9 k10 k11 x0 x1 x2 x3 x4 xf
          go_wp2
          go_ret
          exact ⟨rfl, HB2.out⟩
        · skip
          have HV := Lib.hid (hval.trans (if_neg (by omega)))
          have e1 : decide ((3 : Int) ≤ (j : Int)) = true := by simp; omega
          have e9 : (3 : Int) ≤ (j : Int) := by omega
          have e2 : ((k : Int) == 3) = false := by simp; omega
          have e3 : decide ((k : Int) = 3) = false := by simp; omega
          clear hval hk3
          go_wp2_with fail
          refine CF.out.mono ?_
          rintro e w2 ⟨rfl, hb⟩
          rw [HV.out]
          have HB2 := Lib.hid (HB.out.trans (hb.mono HB.out.size))
          clear hb CF g0 g1 g2 g3 g4 k0 k1 k2 k3 k4 k5 k6 k7 k8 k9 k10 k11 x0 x1 x2 x3 x4 xf
          go_wp2
          go_ret
          exact ⟨rfl, HB2.out⟩
        · skip
          have HV := Lib.hid (hval.trans (if_pos hk3))
          have e1 : decide ((3 : Int) ≤ (j : Int)) = true := by simp; omega
          have e9 : (3 : Int) ≤ (j : Int) := by omega
          have e2 : ((k : Int) == 3) = true := by simp; omega
          have e3 : decide ((k : Int) = 3) = true := by simp; omega
          clear hval hk3
          go_wp2_with fail
          refine CF.out.mono ?_
          rintro e w2 ⟨rfl, hb⟩
          rw [HV.out]
          have HB2 := Lib.hid (HB.out.trans (hb.mono HB.out.size))
          clear hb CF g0 g1 g2 g3 g4 k0 k1 k2 k3 k4 k5 k6 k7 k8 k9 k10 k11 x0 x1 x2 x3 x4 xf
          go_wp2
          go_ret
          exact ⟨rfl, HB2.out⟩
      · skip
        have hcp := comps_set (u := .int .i64 2) (f := 3) (c' := ⟨8, false, 1, 2, none, 0, 0⟩) HP.out.o hkj (by omega) rfl
        have hlen : ((List.replicate j plC).set k ⟨8, false, 1, 2, none, 0, 0⟩).length = j := by simp
        have CF0 := frame_any (cC := c) 8 8 0 0 64 64 2 4 4 15 0 0 1 true false false hcp (by rw [hlen]; exact ⟨hcc1, hcc2⟩)
        rw [hlen] at CF0
        have CF := Lib.hid CF0
        have HB : Hid (Below w.heap.size w (wp.setCell ⟨gb, k * 5 + 3, none⟩ (.int .i64 2))) := Lib.hid (HP.out.bel.setCell (p := ⟨gb, k * 5 + 3, none⟩) hgb _)
        have hval := turn_3 j k hj1 hn1.2 hkj
        unfold turnF at hval
        clear hcp hlen CF0
        rcases (by omega : j < 3 ∨ (3 ≤ j ∧ k ≠ 3) ∨ (3 ≤ j ∧ k = 3)) with h3 | ⟨h3, hk3⟩ | ⟨h3, hk3⟩
        · skip
          have HV := Lib.hid (hval.trans (if_neg (by omega)))
          have e1 : decide ((3 : Int) ≤ (j : Int)) = false := by simp; omega
          have e9 : ¬ (3 : Int) ≤ (j : Int) := by omega
          clear hval
          go_wp2_with fail
          refine CF.out.mono ?_
          rintro e w2 ⟨rfl, hb⟩
          rw [HV.out]
          have HB2 := Lib.hid (HB.out.trans (hb.mono HB.out.size))
          clear hb CF g0 g1 g2 g3 g4 k0 k1 k2 k3 k4 k5 k6 k7 k8 k9 k10 k11 x0 x1 x2 x3 x4 xf
          go_wp2
          go_ret
          exact ⟨rfl, HB2.out⟩
        · skip
          have HV := Lib.hid (hval.trans (if_neg (by omega)))
          have e1 : decide ((3 : Int) ≤ (j : Int)) = true := by simp; omega
          have e9 : (3 : Int) ≤ (j : Int) := by omega
          have e2 : ((k : Int) == 3) = false := by simp; omega
          have e3 : decide ((k : Int) = 3) = false := by simp; omega
          clear hval hk3
          go_wp2_with fail
          refine CF.out.mono ?_
          rintro e w2 ⟨rfl, hb⟩
          rw [HV.out]
          have HB2 := Lib.hid (HB.out.trans (hb.mono HB.out.size))
          clear hb CF g0 g1 g2 g3 g4 k0 k1 k2 k3 k4 k5 k6 k7 k8 k9 k10 k11 x0 x1 x2 x3 x4 xf
          go_wp2
          go_ret
          exact ⟨rfl, HB2.out⟩
        · skip
          have HV := Lib.hid (hval.trans (if_pos hk3))
          have e1 : decide ((3 : Int) ≤ (j : Int)) = true := by simp; omega
          have e9 : (3 : Int) ≤ (j : Int) := by omega
          have e2 : ((k : Int) == 3) = true := by simp; omega
          have e3 : decide ((k : Int) = 3) = true := by simp; omega
          clear hval hk3
          go_wp2_with fail
          refine CF.out.mono ?_
          rintro e w2 ⟨rfl, hb⟩
          rw [HV.out]
          have HB2 := Lib.hid (HB.out.trans (hb.mono HB.out.size))
          clear hb CF g0 g1 g2 g3 g4 k0 k1 k2 k3 k4 k5 k6 k7 k8 k9 k10 k11 x0 x1 x2 x3 x4 xf
          go_wp2
          go_ret
          exact ⟨rfl, HB2.out⟩
      · skip
        obtain ⟨hcp, hc1, hc2⟩ := HP.out.comps (by omega)
        have CF0 := frame_any (cC := c) 8 8 0 0 64 64 2 4 4 15 0 0 1 true false false hcp (by rw [List.length_replicate]; exact ⟨hcc1, hcc2⟩)
        rw [List.length_replicate] at CF0
        have CF := Lib.hid CF0
        have HB : Hid (Below w.heap.size w wp) := Lib.hid HP.out.bel
        have hval := turn_4 j hj1 hn1.2
        unfold turnF plC at hval
        clear hcp hc1 hc2 CF0
        rcases (by omega : j < 3 ∨ 3 ≤ j) with h3 | h3
        · skip
          have HV := Lib.hid (hval.trans (if_neg (by omega)))
          have e1 : decide ((3 : Int) ≤ (j : Int)) = false := by simp; omega
          have e9 : ¬ (3 : Int) ≤ (j : Int) := by omega
          clear hval
          go_wp2_with fail
          refine CF.out.mono ?_
          rintro e w2 ⟨rfl, hb⟩
          rw [HV.out]
          have HB2 := Lib.hid (HB.out.trans (hb.mono HB.out.size))
          clear hb CF g0 g1 g2 g3 g4 k0 k1 k2 k3 k4 k5 k6 k7 k8 k9 k10 k11 x0 x1 x2 x3 x4 xf
          go_wp2
          go_ret
          exact ⟨rfl, HB2.out⟩
        · skip
          have HV := Lib.hid (hval.trans (if_pos h3))
          have e1 : decide ((3 : Int) ≤ (j : Int)) = true := by simp; omega
          have e9 : (3 : Int) ≤ (j : Int) := by omega
          clear hval
          go_wp2_with fail
          refine CF.out.mono ?_
          rintro e w2 ⟨rfl, hb⟩
          rw [HV.out]
          have HB2 := Lib.hid (HB.out.trans (hb.mono HB.out.size))
          clear hb CF g0 g1 g2 g3 g4 k0 k1 k2 k3 k4 k5 k6 k7 k8 k9 k10 k11 x0 x1 x2 x3 x4 xf
          go_wp2
          go_ret
          exact ⟨rfl, HB2.out⟩
end Go.Proofs.Ythcpmonahmogaaa
