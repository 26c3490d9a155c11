/- The steps that gather and that lay, and beside, of package lift, by their contracts. -/
import Derived.Test.YtgadebfelomhpaaLiftPass
set_option linter.unusedVariables false
namespace Go.Proofs.Ytgadebfelomhpaa
open Go.RowKit

/-- A variable's box. -/
def Box (w : World) (b : Nat) (t : TypeId) (v : Value) : Prop := w.heap[b]? = some (.cells #[v] t (0, 0))
theorem Box.cell {w : World} {b : Nat} {t : TypeId} {v : Value} (h : Box w b t v) : w.cell? ⟨b, 0, none⟩ = some v := by simp [World.cell?, show w.heap[b]? = _ from h]
theorem Box.frozen {w : World} {b : Nat} {t : TypeId} {v : Value} (h : Box w b t v) : w.frozen? ⟨b, 0, none⟩ = false := by simp [World.frozen?, show w.heap[b]? = _ from h]
theorem Box.lt {w : World} {b : Nat} {t : TypeId} {v : Value} (h : Box w b t v) : b < w.heap.size := (Array.getElem?_eq_some_iff.1 h).1
theorem Box.set {w : World} {b : Nat} {t : TypeId} {v : Value} (v' : Value) (h : Box w b t v) : Box (w.setCell ⟨b, 0, none⟩ v') b t v' := by
  obtain ⟨hlt, hk⟩ := Array.getElem?_eq_some_iff.1 h
  show (w.heap.modify b _)[b]? = _
  rw [Array.getElem?_eq_getElem (by rw [Array.size_modify]; exact hlt), Array.getElem_modify_self, hk]
  rfl
theorem Box.new (w : World) (t : TypeId) (v : Value) : Box (w.alloc (.cells #[v] t)) w.heap.size t v := heap_alloc_new w _
theorem Box.kept {w w' : World} {row : Option Nat} {b : Nat} {t : TypeId} {v : Value} (h : Box w b t v) (hg : w.grownBy w' row) (hne : some b ≠ row) : Box w' b t v := (hg.block b h.lt hne).trans h
theorem Box.not_row {w : World} {b : Nat} {t e : TypeId} {u : Value} (h : Box w b t u) (hte : t ≠ e) {base size k : Nat} {v : Value} {xs : List Value} (hr : w.ownsRow base e size v k xs) : some b ≠ v.ownBlock := by
  rcases hr.2 with ⟨rfl, _⟩ | ⟨g, cap, cur, rfl, _, hgb, _⟩
  · simp [Value.ownBlock]
  · intro e'
    obtain rfl : b = g := by simpa [Value.ownBlock] using e'
    have := (show w.heap[b]? = _ from h).symm.trans hgb
    simp at this
    exact hte this.2

set_option maxHeartbeats 2000000 in
theorem append1_any (qo len g n c lo i : Nat) (x : Int) (V : Value) (xs ys : List Value) (w : World) (hb : Box w qo 24 V) (hv : w.ownsRow lo 3 1 V len xs) (hVg : V.ownBlock ≠ some g) (hlo : lo ≤ qo) (hl : len ≤ 100000)
    (hrow : w.ownsRow lo 3 1 (.slice (some ⟨g, 0, none⟩) n c) n ys) (hbase : lo ≤ w.heap.size) (p : Nat) (hpq : p ≠ qo) (hVp : V.ownBlock ≠ some p) (hpl : p < w.heap.size) :
    Calls Try.prog 52 #[.int .i64 (i : Int), .int .i64 x, .pointer (some ⟨qo, 0, none⟩)] w fun e w' => e = .returned (.int .i64 x) ∧ ∃ V', Box w' qo 24 V' ∧ w'.ownsRow lo 3 1 V' (len + 1) (xs ++ [.int .i64 x]) ∧ V'.ownBlock ≠ some g ∧
      w'.ownsRow lo 3 1 (.slice (some ⟨g, 0, none⟩) n c) n ys ∧ Below lo w w' ∧ w'.heap[p]? = w.heap[p]? ∧ V'.ownBlock ≠ some p := by
  obtain ⟨i0, hi, hz0, hz1, hz2⟩ := info_parts Try.info3
  obtain ⟨A, cv, rfl, hA, hcv, hcm⟩ := own_any hv
  have hcell := hb.cell
  have HB := Lib.hid hb
  have HV := Lib.hid hv
  have HR := Lib.hid hrow
  have hqg : qo ≠ g := by
    intro e
    have := hb.not_row (by decide) hrow
    simp [Value.ownBlock, e] at this
  have hgl : g < w.heap.size := (hrow.lt g rfl).2
  clear hb hv hrow
  go_enter Try.func52, Try.ntmps52
  go_wp2_with (at_builtin; refine wpList_append_own_at _ rfl _ _ 24 rfl lo 3 i0 (.int .i64 0) 1 8 Try.underlying24 hi hz0 hz1 hz2 rfl (by decide) _ _ _ rfl (HV.out.alloc _) ⟨w.heap.size, 0, none⟩ 1 1 [.int .i64 x] rfl rfl (cell_one_new _ _ _) ?k2 ?k3 ?k4 ?k5 ?_)
  case k2 => intro u hu; simp at hu; subst hu; rfl
  case k3 => unfold maxLen; omega
  case k4 => omega
  case k5 => simp; omega
  intro v2 w2 hown2 hg2 _ hat
  obtain ⟨A2, c2, rfl, _, _, _⟩ := own_any hown2
  have hb1 : Box (w.alloc (Obj.cells #[.int .i64 x] 3)) qo 24 (.slice A len cv) := HB.out.kept (World.grownBy_alloc w _ none) (by simp)
  have hb2 : Box w2 qo 24 (.slice A len cv) := hb1.kept hg2 (hb1.not_row (by decide) (HV.out.alloc _))
  have hr2 := (HR.out.alloc (Obj.cells #[.int .i64 x] 3)).kept hg2 (Or.inr (by simp [Value.ownBlock] at hVg ⊢; exact fun h => hVg h.symm))
  have hB2 : Below lo w w2 := ((Below.refl _ _).alloc hbase _).grown hg2 (by simp; omega) (fun k hk => (HV.out.lt k hk).1)
  have hne : (Value.slice A2 (len + 1) c2).ownBlock ≠ some g := by
    rcases hat with h | h
    · rw [h]; exact hVg
    · rw [h]; simp; omega
  have hnp : (Value.slice A2 (len + 1) c2).ownBlock ≠ some p := by
    rcases hat with h | h
    · rw [h]; exact hVp
    · rw [h]; simp; omega
  have hp2 : w2.heap[p]? = w.heap[p]? := (hg2.block p (by simp; omega) (fun h => hVp h.symm)).trans (Below.heap_alloc w _ p hpl)
  have hnq : (Value.slice A2 (len + 1) c2).ownBlock ≠ some qo := fun h => (hb2.not_row (by decide) hown2) h.symm
  have g1 := hb2.cell
  have g2 := hb2.frozen
  have HB2 := Lib.hid hb2
  have HO := Lib.hid hown2
  clear hb1 hb2 hown2 hg2 hat HB HV HR
  go_wp2
  go_ret
  refine ⟨rfl, _, HB2.out.set _, ownsRow_setCell_other HO.out hnq _, hne, ownsRow_setCell_other hr2 (by simp [Value.ownBlock]; omega) _, hB2.setCell (p := ⟨qo, 0, none⟩) hlo _, (Below.heap_setCell _ _ _ _ (by simpa using hpq)).trans hp2, hnp⟩

set_option maxHeartbeats 1000000 in
theorem collect_any (qo len g n c s lo : Nat) (r : Nat → Int) (acc : List Int) (V : Value) (w : World) (hn2 : n ≤ 1000) (hs1 : s ≤ 1) (hb : Box w qo 24 V) (hv : w.ownsRow lo 3 1 V acc.length (acc.map (Value.int .i64))) (hVg : V.ownBlock ≠ some g) (hlo : lo ≤ qo) (hg : lo ≤ g) (hl : acc.length ≤ 1000)
    (hrow : w.ownsRow lo 3 1 (.slice (some ⟨g, 0, none⟩) n c) n ((ranged r n).map (Value.int .i64))) (hbase : lo ≤ w.heap.size) (p : Nat) (hpq : p ≠ qo) (hpg : p ≠ g) (hVp : V.ownBlock ≠ some p) (hpl : p < w.heap.size) :
    Calls Try.prog 49 #[.slice (some ⟨g, 0, none⟩) n c, .int .i64 (s : Int), .func (.func 52) #[] #[.pointer (some ⟨qo, 0, none⟩)]] w fun e w' => e = .returned (.tuple #[]) ∧
      ∃ V', Box w' qo 24 V' ∧ w'.ownsRow lo 3 1 V' (acc ++ ranged (fun j => r (s + 2 * j)) ((n + 1 - s) / 2)).length ((acc ++ ranged (fun j => r (s + 2 * j)) ((n + 1 - s) / 2)).map (Value.int .i64)) ∧ V'.ownBlock ≠ some g ∧
      w'.ownsRow lo 3 1 (.slice (some ⟨g, 0, none⟩) n c) n ((ranged r n).map (Value.int .i64)) ∧ Below lo w w' ∧ w'.heap[p]? = w.heap[p]? ∧ V'.ownBlock ≠ some p := by
  refine (second_any 52 #[.pointer (some ⟨qo, 0, none⟩)] enters52 g n c s w hs1 hn2 (fun j W => ∃ V', Box W qo 24 V' ∧ W.ownsRow lo 3 1 V' (acc.length + j) ((acc ++ ranged (fun j => r (s + 2 * j)) j).map (Value.int .i64)) ∧ V'.ownBlock ≠ some g ∧
      W.ownsRow lo 3 1 (.slice (some ⟨g, 0, none⟩) n c) n ((ranged r n).map (Value.int .i64)) ∧ Below lo w W ∧ W.heap[p]? = w.heap[p]? ∧ V'.ownBlock ≠ some p ∧ p < W.heap.size) ?_ ?_).mono ?_
  · exact ⟨V, hb, by simpa [ranged] using hv, hVg, hrow, Below.refl _ _, rfl, hVp, hpl⟩
  · rintro j m w1 hm hmn ⟨V1, hb1, hv1, hVg1, hr1, hB1, hp1, hVp1, hpl1⟩
    have f0 : w1.cell? ⟨g, m, none⟩ = some (.int .i64 (r m)) := by
      rw [hr1.cellAt m (by omega), List.getElem?_map, ranged_get _ _ _ hmn]; rfl
    refine ⟨r m, f0, ?_⟩
    refine (append1_any qo (acc.length + j) g n c lo m (r m) V1 _ _ w1 hb1 hv1 hVg1 hlo (by omega) hr1 (Nat.le_trans hbase hB1.size) p hpq hVp1 hpl1).mono ?_
    rintro e w2 ⟨rfl, V2, hb2, hv2, hVg2, hr2, hB2, hp2, hVp2⟩
    have S := hr2.stored m (.int .i64 (r m))
    have hset : ((ranged r n).map (Value.int .i64)).set m (.int .i64 (r m)) = (ranged r n).map (Value.int .i64) := by
      rw [← List.map_set, ranged_set _ _ _ _ hmn, ranged_congr (s := r) (fun i _ => by split <;> simp_all)]
    rw [hset] at S
    have hqg : qo ≠ g := by
      intro e
      have := hb2.not_row (by decide) hr2
      simp [Value.ownBlock, e] at this
    refine ⟨r m, r m, rfl, by rw [hr2.cellAt m (by omega), List.getElem?_map, ranged_get _ _ _ hmn]; rfl, hr2.frozenAt m, V2, hb2.kept S.2 (by simpa using hqg), ?_, hVg2, S.1, (hB1.trans hB2).setCell (p := ⟨g, m, none⟩) hg _, ((Below.heap_setCell _ _ _ _ (by simpa using hpg)).trans hp2).trans hp1, hVp2, Nat.lt_of_lt_of_le hpl1 (Nat.le_trans hB2.size S.2.size)⟩
    have hv3 := ownsRow_setCell_other hv2 (a := ⟨g, m, none⟩) hVg2 (.int .i64 (r m))
    have e1 : acc ++ ranged (fun j => r (s + 2 * j)) (j + 1) = (acc ++ ranged (fun j => r (s + 2 * j)) j) ++ [r m] := by
      unfold ranged
      rw [List.range_succ, List.map_append, ← List.append_assoc, hm]
      rfl
    rw [e1, List.map_append]
    exact hv3
  · rintro e w' ⟨rfl, j, ⟨V1, hb1, hv1, hVg1, hr1, hB1, hp1, hVp1, hpl1⟩, hj, hj2⟩
    have ej : (n + 1 - s) / 2 = j := by omega
    rw [ej]
    refine ⟨rfl, V1, hb1, ?_, hVg1, hr1, hB1, hp1, hVp1⟩
    rw [List.length_append, ranged_len]
    exact hv1

set_option maxHeartbeats 1000000 in
theorem take1_any (pt qv t i : Nat) (x v : Int) (A : Option Addr) (n c : Nat) (l : List Int) (w : World) (hb : Box w pt 3 (.int .i64 (t : Int))) (hv : w.cell? ⟨qv, 0, none⟩ = some (.slice A n c)) (hne : pt ≠ qv) (ht : t < n) (hn : n ≤ 1000)
    (hc : ∃ b o, A = some ⟨b, o, none⟩ ∧ b ≠ pt ∧ w.cell? ⟨b, o + t, none⟩ = some (.int .i64 v)) :
    Calls Try.prog 54 #[.int .i64 (i : Int), .int .i64 x, .pointer (some ⟨pt, 0, none⟩), .pointer (some ⟨qv, 0, none⟩)] w fun e w' => e = .returned (.int .i64 v) ∧ w' = w.setCell ⟨pt, 0, none⟩ (.int .i64 ((t : Int) + 1)) := by
  obtain ⟨b, o, rfl, hbp, hcell⟩ := hc
  have f1 := hb.cell
  have f2 := hb.frozen
  have f3 := (hb.set (.int .i64 ((t : Int) + 1))).cell
  have f4 : (w.setCell ⟨pt, 0, none⟩ (.int .i64 ((t : Int) + 1))).cell? ⟨qv, 0, none⟩ = some (.slice (some ⟨b, o, none⟩) n c) := by
    rw [World.cell?_of_block (w := w) (Below.heap_setCell _ _ _ _ (by simpa using fun e => hne e.symm))]; exact hv
  have f5 : (w.setCell ⟨pt, 0, none⟩ (.int .i64 ((t : Int) + 1))).cell? ⟨b, o + t, none⟩ = some (.int .i64 v) := by
    rw [World.cell?_of_block (w := w) (Below.heap_setCell _ _ _ _ (by simpa using hbp))]; exact hcell
  have f6 : (t : Int) < (n : Int) := by omega
  clear hb
  go_enter Try.func54, Try.ntmps54
  go_wp2
  go_ret
  exact ⟨rfl, rfl⟩
end Go.Proofs.Ytgadebfelomhpaa
