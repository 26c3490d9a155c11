/- beside, and the laying of a row, by their contracts. -/
import Derived.Test.YtgadebfelomhpaaLiftFill
set_option linter.unusedVariables false
namespace Go.Proofs.Ytgadebfelomhpaa
open Go.RowKit

set_option maxHeartbeats 1000000 in
theorem beside_any (g n c : Nat) (w : World) (hn : 1 ≤ n) (hn2 : n ≤ 1000) :
    Calls Try.prog 47 #[.slice (some ⟨g, 0, none⟩) n c] w fun e w' => ∃ pl pb, e = .returned (.func (.func 57) #[] #[.pointer (some ⟨pl, 0, none⟩), .pointer (some ⟨pb, 0, none⟩)]) ∧
      w.heap.size ≤ pl ∧ w.heap.size ≤ pb ∧ w'.cell? ⟨pl, 0, none⟩ = some (.int .i64 ((n : Int) - 1)) ∧ w'.cell? ⟨pb, 0, none⟩ = some (.slice (some ⟨g, 0, none⟩) n c) ∧ Below w.heap.size w w' := by
  go_enter Try.func47, Try.ntmps47
  go_wp2
  go_ret
  refine ⟨_, _, rfl, ?_, ?_, ?_, ?_, ?_⟩
  · omega
  · omega
  · rw [World.cell?_alloc_at _ _ _ _ (by simp)]; rfl
  · rw [World.cell?_alloc_past _ _ _ (by simp), World.cell?_alloc_new]; rfl
  · exact ((Below.refl _ _).alloc (Nat.le_refl _) _).alloc (by simp) _

set_option maxHeartbeats 1000000 in
theorem fill_any (pt qv g n c cv s lo t0 : Nat) (A : Option Addr) (r : Nat → Int) (l : List Int) (w : World) (hn2 : n ≤ 1000) (hs1 : s ≤ 1) (ht : t0 + (n + 1 - s) / 2 ≤ n)
    (hb : Box w pt 3 (.int .i64 (t0 : Int))) (hv : w.cell? ⟨qv, 0, none⟩ = some (.slice A n cv)) (h1 : pt ≠ qv) (h2 : pt ≠ g) (h3 : qv ≠ g) (hlo : lo ≤ pt) (hg : lo ≤ g)
    (hl : ∀ t, t < n → ∃ b o, A = some ⟨b, o, none⟩ ∧ b < lo ∧ w.cell? ⟨b, o + t, none⟩ = some (.int .i64 (l.getD t 0)))
    (hrow : w.ownsRow lo 3 1 (.slice (some ⟨g, 0, none⟩) n c) n ((ranged r n).map (Value.int .i64))) :
    Calls Try.prog 49 #[.slice (some ⟨g, 0, none⟩) n c, .int .i64 (s : Int), .func (.func 54) #[] #[.pointer (some ⟨pt, 0, none⟩), .pointer (some ⟨qv, 0, none⟩)]] w fun e w' => e = .returned (.tuple #[]) ∧
      w'.ownsRow lo 3 1 (.slice (some ⟨g, 0, none⟩) n c) n ((ranged (fun i => if i % 2 = s then l.getD (t0 + i / 2) 0 else r i) n).map (Value.int .i64)) ∧ Box w' pt 3 (.int .i64 ((t0 + (n + 1 - s) / 2 : Nat) : Int)) ∧
      w'.cell? ⟨qv, 0, none⟩ = some (.slice A n cv) ∧ Below lo w w' ∧ (∀ b, b ≠ pt → b ≠ g → w'.heap[b]? = w.heap[b]?) ∧ w.heap.size ≤ w'.heap.size := by
  refine (second_any 54 #[.pointer (some ⟨pt, 0, none⟩), .pointer (some ⟨qv, 0, none⟩)] enters54 g n c s w hs1 hn2 (fun j W =>
      W.ownsRow lo 3 1 (.slice (some ⟨g, 0, none⟩) n c) n ((ranged (fun i => if i % 2 = s ∧ i < s + 2 * j then l.getD (t0 + i / 2) 0 else r i) n).map (Value.int .i64)) ∧ Box W pt 3 (.int .i64 ((t0 + j : Nat) : Int)) ∧
      W.cell? ⟨qv, 0, none⟩ = some (.slice A n cv) ∧ Below lo w W ∧ (∀ b, b ≠ pt → b ≠ g → W.heap[b]? = w.heap[b]?)) ?_ ?_).mono ?_
  · refine ⟨?_, hb, hv, Below.refl _ _, fun _ _ _ => rfl⟩
    rw [ranged_congr (s := r) (fun i _ => if_neg (by omega))]
    exact hrow
  · rintro j m w1 hm hmn ⟨ho, hb1, hv1, hB1, hk1⟩
    have f0 : w1.cell? ⟨g, m, none⟩ = some (.int .i64 (r m)) := by
      rw [ho.cellAt m (by omega), List.getElem?_map, ranged_get _ _ _ hmn, if_neg (by omega)]; rfl
    refine ⟨r m, f0, ?_⟩
    have htj : t0 + j < n := by omega
    obtain ⟨b, o, hA, hblo, hc⟩ := hl _ htj
    have hc1 := (hB1.cell (p := ⟨b, o + (t0 + j), none⟩) hblo).trans hc
    refine (take1_any pt qv (t0 + j) m (r m) (l.getD (t0 + j) 0) A n cv l w1 hb1 hv1 h1 htj hn2 ⟨b, o, hA, by omega, hc1⟩).mono ?_
    rintro e w2 ⟨rfl, rfl⟩
    have ho2 := ownsRow_setCell_other ho (a := ⟨pt, 0, none⟩) (by simp [Value.ownBlock]; omega) (.int .i64 (((t0 + j : Nat) : Int) + 1))
    have S := ho2.stored m (.int .i64 (l.getD (t0 + j) 0))
    have S1 := S.1
    rw [← List.map_set, ranged_set _ _ _ _ hmn] at S1
    refine ⟨_, r m, rfl, ?_, ho2.frozenAt m, ?_, ?_, ?_, ?_, ?_⟩
    · rw [ho2.cellAt m (by omega), List.getElem?_map, ranged_get _ _ _ hmn, if_neg (by omega)]; rfl
    · rw [ranged_congr (fun i hi => ?_)]
      · exact S1
      · show (if i % 2 = s ∧ i < s + 2 * (j + 1) then l.getD (t0 + i / 2) 0 else r i) = if i = m then l.getD (t0 + j) 0 else if i % 2 = s ∧ i < s + 2 * j then l.getD (t0 + i / 2) 0 else r i
        by_cases e : i = m
        · subst e
          rw [if_pos ⟨by omega, by omega⟩, if_pos rfl, show i / 2 = j from by omega]
        · rw [if_neg e]
          by_cases c1 : i % 2 = s ∧ i < s + 2 * j
          · rw [if_pos c1, if_pos ⟨c1.1, by omega⟩]
          · rw [if_neg c1, if_neg (by omega)]
    · have hb2 := (hb1.set (.int .i64 (((t0 + j : Nat) : Int) + 1))).kept S.2 (by simpa using h2)
      rw [show ((t0 + j : Nat) : Int) + 1 = ((t0 + (j + 1) : Nat) : Int) from by omega] at hb2 ⊢
      exact hb2
    · rw [World.cell?_of_block (Below.heap_setCell _ _ _ _ (by simpa using h3)), World.cell?_of_block (w := w1) (Below.heap_setCell _ _ _ _ (by simpa using fun e => h1 e.symm))]
      exact hv1
    · exact (hB1.setCell (p := ⟨pt, 0, none⟩) hlo _).setCell (p := ⟨g, m, none⟩) hg _
    · intro b hbp hbg
      exact ((Below.heap_setCell _ _ _ _ (by simpa using hbg)).trans (Below.heap_setCell _ _ _ _ (by simpa using hbp))).trans (hk1 b hbp hbg)
  · rintro e w' ⟨rfl, j, ⟨ho, hb1, hv1, hB1, hk1⟩, hj, hj2⟩
    have ej : (n + 1 - s) / 2 = j := by omega
    rw [ej]
    refine ⟨rfl, ?_, hb1, hv1, hB1, hk1, hB1.size⟩
    rw [ranged_congr (s := fun i => if i % 2 = s then l.getD (t0 + i / 2) 0 else r i) (fun i hi => ?_)] at ho
    · exact ho
    · by_cases c1 : i % 2 = s
      · rw [if_pos ⟨c1, by omega⟩, if_pos c1]
      · rw [if_neg (by omega), if_neg c1]
end Go.Proofs.Ytgadebfelomhpaa
