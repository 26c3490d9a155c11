/- Packets in order: the chapter's example. -/
import Derived.Test.YtejoedanhonpkaaOrH
set_option linter.unusedVariables false
set_option linter.unusedSimpArgs false
namespace Go.Proofs.Ytejoedanhonpkaa
open Go.RowKit
set_option maxRecDepth 100000
theorem known_list {M : List Pk} (h : OL (geo (0, 0, 1, 1) [(1, 1)] 0 15) 2 0 M) : M = [(geo (0, 0, 1, 1) [(1, 1)] 0 15).pk 0 0 0 0, (geo (0, 0, 1, 1) [(1, 1)] 0 15).pk 1 0 0 0] := by
  obtain ⟨G, hG⟩ : ∃ G, geo (0, 0, 1, 1) [(1, 1)] 0 15 = G := ⟨_, rfl⟩
  have h1 : G.nc = 1 := by rw [← hG]; rfl
  have h2 : G.lv = 0 := by rw [← hG]; rfl
  have h3 : G.wh 0 0 = 1 := by rw [← hG]; decide +kernel
  rw [hG] at h ⊢
  refine h.unique ⟨?_, ?_⟩
  · have : G.pks 2 = [G.pk 0 0 0 0, G.pk 1 0 0 0] := by
      simp [GE.pks, GE.spots, h1, h2, h3, List.range_succ, Pk.at, GE.pk]
    rw [this]
  · unfold Srt
    refine List.Pairwise.cons ?_ (List.pairwise_singleton _ _)
    intro b hb
    simp only [List.mem_singleton] at hb
    subst hb
    exact lexL_asymm _ _ (lex_ly G 0 0 1 0 0 0 (by omega))
set_option maxHeartbeats 4000000 in
theorem known16 (w : World) : Calls Try.prog 10 #[] w fun e w' => e = .returned (.bool true) ∧ Below w.heap.size w w' := by
  obtain ⟨W1, hW1⟩ : ∃ W, w.alloc (.cells #[.int .i64 0] 3) = W := ⟨_, rfl⟩
  obtain ⟨W2, hW2⟩ : ∃ W, W1.alloc (.cells #[.int .i64 8, .bool false, .int .i64 1, .int .i64 1, .slice (some ⟨w.heap.size, 0, none⟩) 1 1] 48) = W := ⟨_, rfl⟩
  obtain ⟨W3, hW3⟩ : ∃ W, W2.alloc (.cells #[.int .i64 1, .int .i64 1, .int .i64 0, .int .i64 0, .slice (some ⟨w.heap.size + 1, 0, none⟩) 1 1] 28) = W := ⟨_, rfl⟩
  have s1 : W1.heap.size = w.heap.size + 1 := by rw [← hW1, World.size_alloc]
  have s2 : W2.heap.size = w.heap.size + 2 := by rw [← hW2, World.size_alloc, s1]
  have hb3 : Below w.heap.size w W3 := by rw [← hW3, ← hW2, ← hW1]; exact (((Below.refl _ w).alloc (Nat.le_refl _) _).alloc (by simp) _).alloc (by simp; omega) _
  have hz : W3.heap[w.heap.size + 1]? = some (.cells #[.int .i64 8, .bool false, .int .i64 1, .int .i64 1, .slice (some ⟨w.heap.size, 0, none⟩) 1 1] 48 (0, 0)) := by
    rw [← hW3, Below.heap_alloc _ _ _ (by omega), ← s1, ← hW2]; exact World.alloc_heap_new W1 _
  have hL := list_any 0 (by omega) 0 0 1 1 1 1 0 0 (w.heap.size + 1) 0 1 1 _ [⟨8, false, 1, 1, some ⟨w.heap.size, 0, none⟩, 1, 1⟩] 4 4 2 2 0 false false false 0 15 2 W3 ⟨by simp, by simp, by simp, by simp⟩ ⟨by simp, by simp⟩ (fun i c hc => by
      rcases i with _ | i
      · simp at hc; subst hc; simp
      · simp at hc) (by simp) rfl (by omega) (by omega) (by omega) hz (fun X hX i c hc => by
      rcases i with _ | i
      · simp at hc
        subst hc
        simp [World.cell?, hX]
      · simp at hc) 0 15 2 0 rfl rfl rfl rfl
  have HL := Lib.hid hL
  clear hL hz
  have ic : W3.heap[w.heap.size + 2]? = some (.cells #[.int .i64 1, .int .i64 1, .int .i64 0, .int .i64 0, .slice (some ⟨w.heap.size + 1, 0, none⟩) 1 1] 28 (0, 0)) := by rw [← hW3, ← s2]; exact World.alloc_heap_new W2 _
  have ic0 : W3.cell? ⟨w.heap.size + 2, 0, none⟩ = some (.int .i64 1) := by simp [World.cell?, ic]
  have ic1 : W3.cell? ⟨w.heap.size + 2, 1, none⟩ = some (.int .i64 1) := by simp [World.cell?, ic]
  have ic2 : W3.cell? ⟨w.heap.size + 2, 2, none⟩ = some (.int .i64 0) := by simp [World.cell?, ic]
  have ic3 : W3.cell? ⟨w.heap.size + 2, 3, none⟩ = some (.int .i64 0) := by simp [World.cell?, ic]
  have ic4 : W3.cell? ⟨w.heap.size + 2, 4, none⟩ = some (.slice (some ⟨w.heap.size + 1, 0, none⟩) 1 1) := by simp [World.cell?, ic]
  clear ic
  go_enter Try.func10, Try.ntmps10
  go_wp2_with fail
  refine HL.out.mono ?_
  rintro e w' ⟨M, A, c, rfl, hM, hR, hB⟩
  obtain rfl := known_list hM
  have hK := own_keyR hR rfl
  obtain ⟨g, o, rfl, hg, k0, -, -, -⟩ := hK 1 _ rfl
  have k0' : w'.cell? ⟨g, o + 4, none⟩ = some (.int .i64 1) := by rw [Nat.one_mul] at k0; exact k0
  clear HL hR k0
  have hB' := hb3.trans (hB.mono hb3.size)
  simp only [List.length_cons, List.length_nil, Nat.zero_add, Nat.reduceAdd]
  go_wp2_with fail
  go_ret
  exact ⟨rfl, hB'⟩
end Go.Proofs.Ytejoedanhonpkaa
