/- The Writer of package raw: what it is in memory, and its methods by their contracts. -/
import Derived.Test.YtahnioenoecfeaaMem
import Derived.Test.YtahnioenoecfeaaRawSpec
import Derived.OneCell
import Derived.BigQuiet
import Derived.Deep.QuietTactic
import Derived.StillTailTactics
set_option linter.unusedVariables false
namespace Go.Proofs.Ytahnioenoecfeaa
open Go.RowKit

theorem blk_cell {w : World} {p : Nat} {cs : Array Value} {t : TypeId} (h : w.heap[p]? = some (.cells cs t (0, 0))) (i : Nat) : w.cell? ⟨p, i, none⟩ = cs[i]? := cell_of_row w p i cs t (0, 0) h
theorem blk_frozen {w : World} {p : Nat} {cs : Array Value} {t : TypeId} (h : w.heap[p]? = some (.cells cs t (0, 0))) (i : Nat) : w.frozen? ⟨p, i, none⟩ = false := by simp [World.frozen?, h]
theorem blk_lt {w : World} {p : Nat} {o : Obj} (h : w.heap[p]? = some o) : p < w.heap.size := (Array.getElem?_eq_some_iff.1 h).1
theorem blk_set {w : World} {p : Nat} {cs : Array Value} {t : TypeId} (h : w.heap[p]? = some (.cells cs t (0, 0))) (i : Nat) (u : Value) :
    (w.setCell ⟨p, i, none⟩ u).heap[p]? = some (.cells (cs.setIfInBounds i u) t (0, 0)) := by
  simp [World.setCell, Array.getElem?_modify, h]
theorem blk_not_row {w : World} {p : Nat} {cs : Array Value} {t e : TypeId} (h : w.heap[p]? = some (.cells cs t (0, 0))) (hte : t ≠ e) {base size k : Nat} {v : Value} {xs : List Value} (hr : w.ownsRow base e size v k xs) : v.ownBlock ≠ some p := by
  rcases hr.2 with ⟨rfl, _⟩ | ⟨g, cap, cur, rfl, _, hgb, _⟩
  · simp [Value.ownBlock]
  · intro e'
    obtain rfl : g = p := by simpa [Value.ownBlock] using e'
    rw [h] at hgb
    simp at hgb
    exact hte hgb.2
theorem and_bit (a : Int) : bits .and .i64 a 1 = a % 2 := by
  show IntKind.i64.wrap ((BitVec.ofInt 64 a &&& BitVec.ofInt 64 1).toNat : Int) = _
  have e1 : (BitVec.ofInt 64 (1 : Int)).toNat = 1 := by decide
  rw [BitVec.toNat_and, e1, Nat.and_one_is_mod, BitVec.toNat_ofInt]
  have h64 : ((a % (2 ^ 64 : Nat)).toNat : Int) = a % (2 ^ 64 : Nat) := Int.toNat_of_nonneg (Int.emod_nonneg _ (by decide))
  have e2 : (((a % ((2 ^ 64 : Nat) : Int)).toNat % 2 : Nat) : Int) = a % 2 := by
    rw [Int.natCast_emod, h64]
    omega
  rw [e2]
  exact IntWalk.i64_in _ (by omega)

/-- Block p is a Writer: its bytes are it, of the last of them fr bits are free. -/
def Wr (w : World) (lo p : Nat) (it : List Int) (fr : Nat) : Prop :=
  lo ≤ p ∧ ∃ V, w.heap[p]? = some (.cells #[V, .int .u8 0, .int .i64 (fr : Int)] 45 (0, 0)) ∧ w.ownsRow lo 5 1 V it.length (it.map (Value.int .u8))

set_option maxHeartbeats 1000000 in
theorem wnew_any (w : World) : Calls Try.prog 11 #[] w fun e w' => ∃ p, e = .returned (.pointer (some ⟨p, 0, none⟩)) ∧ Wr w' w.heap.size p [] 0 ∧ Below w.heap.size w w' := by
  go_enter Try.func11, Try.ntmps11
  go_wp2
  go_ret
  exact ⟨_, rfl, ⟨Nat.le_refl _, _, heap_alloc_new w _, World.ownsRow_nil _ _ _ _⟩, (Below.refl _ _).alloc (Nat.le_refl _) _⟩

theorem Wr.lt {w : World} {lo p : Nat} {it : List Int} {fr : Nat} (h : Wr w lo p it fr) : p < w.heap.size := by
  obtain ⟨_, V, hb, _⟩ := h
  exact blk_lt hb

set_option maxHeartbeats 1000000 in
theorem out_any {w : World} {lo p : Nat} {it : List Int} {fr : Nat} (h : Wr w lo p it fr) :
    Calls Try.prog 15 #[.pointer (some ⟨p, 0, none⟩)] w fun e w' => e = .returned (.int .i64 (it.length : Int)) ∧ w = w' := by
  obtain ⟨hlo, V, hb, hv⟩ := h
  obtain ⟨A, c, rfl, _, _, _⟩ := own_any hv
  have c0 := blk_cell hb 0
  simp at c0
  clear hb hv
  go_enter Try.func15, Try.ntmps15
  go_wp2
  go_ret
  exact ⟨rfl, rfl⟩

set_option maxHeartbeats 1000000 in
theorem full_any {w : World} {lo p : Nat} {it : List Int} {fr : Nat} (h : Wr w lo p it fr) (hl : it.length ≤ 100000) :
    Calls Try.prog 23 #[.pointer (some ⟨p, 0, none⟩)] w fun e w' => e = .returned (.bool (decide (it.getLastD 0 = 255))) ∧ Drew w w' := by
  obtain ⟨hlo, V, hb, hv⟩ := h
  by_cases h0 : it = []
  · subst h0
    obtain ⟨A, c, rfl, _, _, _⟩ := own_any hv
    have c0 := blk_cell hb 0
    simp at c0
    clear hb hv
    go_enter Try.func23, Try.ntmps23
    go_wp2
    go_ret
    exact ⟨rfl, Drew.refl _⟩
  · obtain ⟨m, hm⟩ : ∃ m, it.length = m + 1 := ⟨it.length - 1, by have := List.length_pos_iff.2 h0; omega⟩
    obtain ⟨g, c, rfl, hg, hgl, hcm, _⟩ := own_form hv (by omega)
    have c0 := blk_cell hb 0
    simp at c0
    have f1 := hv.cellAt m (by omega)
    have e1 : (it.map (Value.int .u8))[m]? = some (.int .u8 (it.getLastD 0)) := by
      rw [List.getElem?_map, List.getLastD_eq_getLast?, List.getLast?_eq_getElem?, hm, show m + 1 - 1 = m from rfl, List.getElem?_eq_getElem (by omega)]; rfl
    rw [e1] at f1
    rw [hm] at c0
    clear hb hv e1
    generalize it.getLastD 0 = x at *
    go_enter Try.func23, Try.ntmps23
    go_wp2
    go_ret
    exact ⟨ret_bool (by rw [Bool.eq_iff_iff]; simp), Drew.refl _⟩

theorem or8 (v x : Nat) (f : Nat) (hf : f ≤ 7) (hv : v % 2 ^ (f + 1) = 0) (hv2 : v < 256) (hx : x ≤ 1) : bits .or .u8 (v : Int) ((x * 2 ^ f : Nat) : Int) = ((v + x * 2 ^ f : Nat) : Int) := by
  have H : ∀ f : Fin 8, ∀ x : Fin 2, ∀ v : Fin 256, v.val % 2 ^ (f.val + 1) = 0 → bits .or .u8 (v.val : Int) ((x.val * 2 ^ f.val : Nat) : Int) = ((v.val + x.val * 2 ^ f.val : Nat) : Int) := by decide +kernel
  exact H ⟨f, by omega⟩ ⟨x, by omega⟩ ⟨v, hv2⟩ hv

/-- The bit that is set. -/
def Set6 (w : World) (lo p : Nat) (d : List Int) (v : Int) (f : Nat) : Prop :=
  lo ≤ p ∧ ∃ g c, w.heap[p]? = some (.cells #[.slice (some ⟨g, 0, none⟩) (d.length + 1) c, .int .u8 0, .int .i64 ((f : Int) + 1)] 45 (0, 0)) ∧ w.ownsRow lo 5 1 (.slice (some ⟨g, 0, none⟩) (d.length + 1) c) (d.length + 1) ((d ++ [v]).map (Value.int .u8))

set_option maxHeartbeats 2000000 in
theorem bit_old {w : World} {lo p : Nat} {d : List Int} {v b : Int} {f : Nat} (h : Wr w lo p (d ++ [v]) (f + 1)) (hf : f ≤ 6) (hv : 0 ≤ v ∧ v ≤ 255) (hlow : v % 2 ^ (f + 1) = 0) (hl : d.length ≤ 100000) (hlo : lo ≤ w.heap.size) :
    Calls Try.prog 13 #[.pointer (some ⟨p, 0, none⟩), .int .i64 b] w fun e w' => e = .returned (.tuple #[]) ∧ Wr w' lo p (d ++ [v + b % 2 * 2 ^ f]) f ∧ Below lo w w' := by
  obtain ⟨hp, V, hb, hown⟩ := h
  obtain ⟨m, hm⟩ : ∃ m, d.length = m := ⟨_, rfl⟩
  have hlen : (d ++ [v]).length = m + 1 := by simp [hm]
  rw [hlen] at hown
  obtain ⟨g, c, rfl, hg, hgl, hcm, _⟩ := own_form hown (by omega)
  have hpg : g ≠ p := by
    have := blk_not_row hb (by decide) hown
    simpa [Value.ownBlock] using this
  have c0 := blk_cell hb 0
  have c2 := blk_cell hb 2
  simp at c0 c2
  have z2 := blk_frozen hb 2
  have hb1 := blk_set hb 2 (.int .i64 (f : Int))
  have own1 := ownsRow_setCell_other hown (a := ⟨p, 2, none⟩) (by simp [Value.ownBlock]; exact hpg) (.int .i64 (f : Int))
  have B1 : Below lo w (w.setCell ⟨p, 2, none⟩ (.int .i64 (f : Int))) := (Below.refl _ _).setCell (p := ⟨p, 2, none⟩) hp _
  have hband := and_bit b
  have hx := Int.emod_nonneg b (show (2 : Int) ≠ 0 by omega)
  have hx2 := Int.emod_lt_of_pos b (show (0 : Int) < 2 by omega)
  obtain ⟨x, hxx⟩ : ∃ x : Nat, b % 2 = x := ⟨(b % 2).toNat, by omega⟩
  rw [hxx] at hband ⊢
  have hx1 : x ≤ 1 := by omega
  generalize hW : w.setCell ⟨p, 2, none⟩ (.int .i64 (f : Int)) = W at *
  have d0 := blk_cell hb1 0
  have d2 := blk_cell hb1 2
  simp at d0 d2
  have f1 := own1.cellAt m (by omega)
  have e1 : ((d ++ [v]).map (Value.int .u8))[m]? = some (.int .u8 v) := by
    rw [List.getElem?_map, List.getElem?_append_right (by omega), show m - d.length = 0 from by omega]; rfl
  rw [e1] at f1
  have f2 := own1.frozenAt m
  have HB := Lib.hid hb1
  have HO := Lib.hid own1
  have wm : IntKind.i64.wrap (m : Int) = (m : Int) := IntWalk.i64_in _ (by omega)
  have im : (m : Int) < (m : Int) + 1 := by omega
  have im0 : (0 : Int) ≤ (m : Int) := by omega
  have wx : IntKind.u8.wrap (x : Int) = (x : Int) := IntWalk.u8_in _ (by omega)
  clear hb hown hb1 own1 e1 hx hx2 hxx hlen
  go_enter Try.func13, Try.ntmps13
  go_wp2
  refine wp_region_still_tail 24 (by kernel_rfl) (by kernel_rfl) ?_
  simp only [List.take_succ_cons, List.take_zero, List.drop_succ_cons, List.drop_zero]
  repeat still_step
  refine wpStill_nil ?_
  change wpList _ _ _ _ _ W.drew
  have g1 : W.drew.cell? ⟨g, m, none⟩ = some (.int .u8 v) := f1
  have g2 : W.drew.frozen? ⟨g, m, none⟩ = false := f2
  have HB2 : Hid (W.drew.heap[p]? = _) := HB.out
  have HO2 : Hid (W.drew.ownsRow lo 5 1 (.slice (some ⟨g, 0, none⟩) (m + 1) c) (m + 1) ((d ++ [v]).map (Value.int .u8))) := HO.out
  have B2 : Below lo w W.drew := below_drewN B1 1
  clear f1 f2 HB HO B1 d0 d2
  generalize W.drew = W2 at *
  have hor : bits .or .u8 v ((x : Int) * 2 ^ f % 256) = v + (x : Int) * 2 ^ f := by
    obtain ⟨y, rfl⟩ := Int.eq_ofNat_of_zero_le hv.1
    have p6 : (2 : Nat) ^ f ≤ 2 ^ 6 := Nat.pow_le_pow_right (by decide) hf
    have p64 : (2 : Nat) ^ 6 = 64 := by decide
    have hxf : x * 2 ^ f < 256 := by
      have : x * 2 ^ f ≤ 1 * 2 ^ f := Nat.mul_le_mul_right _ hx1
      omega
    have e0 : (x : Int) * 2 ^ f = ((x * 2 ^ f : Nat) : Int) := by simp
    have hy : y % 2 ^ (f + 1) = 0 := by
      have e2 : ((2 : Int) ^ (f + 1)) = ((2 ^ (f + 1) : Nat) : Int) := by simp
      rw [e2] at hlow
      omega
    rw [e0, show ((x * 2 ^ f : Nat) : Int) % 256 = ((x * 2 ^ f : Nat) : Int) from by omega, or8 y x f (by omega) hy (by omega) hx1]
    rfl
  have HOR := Lib.hid hor
  clear hor
  go_wp2
  go_end0
  rw [HOR.out]
  have S := HO2.out.stored m (.int .u8 (v + (x : Int) * 2 ^ f))
  have S1 := S.1
  have es : ((d ++ [v]).map (Value.int .u8)).set m (.int .u8 (v + (x : Int) * 2 ^ f)) = (d ++ [v + (x : Int) * 2 ^ f]).map (Value.int .u8) := by
    rw [← List.map_set, List.set_append_right _ _ (by omega), show m - d.length = 0 from by omega]; rfl
  rw [es] at S1
  refine ⟨rfl, ⟨hp, .slice (some ⟨g, 0, none⟩) (m + 1) c, ?_, ?_⟩, B2.setCell (p := ⟨g, m, none⟩) hg _⟩
  · rw [S.2.block p (blk_lt HB2.out) (by simpa using fun e => hpg e.symm)]
    exact HB2.out
  · rw [show (d ++ [v + (x : Int) * 2 ^ f]).length = m + 1 from by simp [hm]]
    exact S1
end Go.Proofs.Ytahnioenoecfeaa
