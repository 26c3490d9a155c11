/- canvas: a plain picture's components grow. -/
import Derived.Test.YthcpmonahmogaaaCvK
import Derived.Test.YthcpmonahmogaaaApps
set_option linter.unusedVariables false
set_option linter.unusedSimpArgs false
namespace Go.Proofs.Ythcpmonahmogaaa
open Go.RowKit
set_option maxRecDepth 100000
theorem Try.info39 : (Try.prog.info? 39).map (fun i => (i.zero, i.size, i.bytes)) = some (some (.agg #[.int .i64 0, .bool false, .int .i64 0, .int .i64 0, .slice none 0 0]), 5, 56) := by kernel_rfl
def plainV : List Value := [.int .i64 8, .bool false, .int .i64 1, .int .i64 1, .slice none 0 0]
def plR : Nat → List Value
  | 0 => []
  | j + 1 => plR j ++ plainV
theorem plR_get : ∀ (j i : Nat), i < j → (plR j)[i * 5]? = some (.int .i64 8) ∧ (plR j)[i * 5 + 1]? = some (.bool false) ∧ (plR j)[i * 5 + 2]? = some (.int .i64 1) ∧ (plR j)[i * 5 + 3]? = some (.int .i64 1) ∧ (plR j)[i * 5 + 4]? = some (.slice none 0 0) := by
  intro j
  have hlen : ∀ j, (plR j).length = j * 5 := by
    intro j
    induction j with
    | zero => rfl
    | succ j ih => rw [plR, List.length_append, ih]; simp [plainV]; omega
  induction j with
  | zero => intro i h; omega
  | succ j ih =>
    intro i h
    rw [plR]
    rcases Nat.lt_or_ge i j with hi | hi
    · rw [List.getElem?_append_left (by rw [hlen]; omega), List.getElem?_append_left (by rw [hlen]; omega), List.getElem?_append_left (by rw [hlen]; omega), List.getElem?_append_left (by rw [hlen]; omega), List.getElem?_append_left (by rw [hlen]; omega)]
      exact ih i hi
    · have : i = j := by omega
      subst this
      rw [List.getElem?_append_right (by rw [hlen]; omega), List.getElem?_append_right (by rw [hlen]; omega), List.getElem?_append_right (by rw [hlen]; omega), List.getElem?_append_right (by rw [hlen]; omega), List.getElem?_append_right (by rw [hlen]; omega), hlen,
        show i * 5 - i * 5 = 0 by omega, show i * 5 + 1 - i * 5 = 1 by omega, show i * 5 + 2 - i * 5 = 2 by omega, show i * 5 + 3 - i * 5 = 3 by omega, show i * 5 + 4 - i * 5 = 4 by omega]
      exact ⟨rfl, rfl, rfl, rfl, rfl⟩
theorem app_comp {w : World} {base m z : Nat} {v : Value} {xs : List Value} (hown : w.ownsRow base 39 5 v m xs) (hz : w.heap[z]? = some (.cells #[.int .i64 8, .bool false, .int .i64 1, .int .i64 1, .slice none 0 0] 39 (0, 0))) (hb : base ≤ w.heap.size) (hm : m ≤ 100000) :
    ∃ v' w', (appSem #[22, 22] 22 #[v, .slice (some ⟨z, 0, none⟩) 1 1]).run Try.prog w = .ok v' w' ∧ w'.ownsRow base 39 5 v' (m + 1) (xs ++ plainV) ∧ w.grownBy w' v.ownBlock ∧ (v'.ownBlock = v.ownBlock ∨ v'.ownBlock = some w.heap.size) := by
  obtain ⟨i0, hi, hzz⟩ := Option.map_eq_some_iff.1 Try.info39
  simp only [Prod.mk.injEq] at hzz
  obtain ⟨hz0, hz1, hz2⟩ := hzz
  obtain ⟨v', w', hr, hown', hg, _, hat⟩ := run_append_own_at (P := Try.prog) w base 22 22 39 i0 _ 5 56 (by kernel_rfl) hi hz0 hz1 hz2 rfl (by decide) v m xs hown ⟨z, 0, none⟩ 1 1 plainV rfl (fun j u hu => by
    rcases j with _ | _ | _ | _ | _ | j
    · simp [plainV] at hu; subst hu; simp [World.cell?, Addr.add, hz]
    · simp [plainV] at hu; subst hu; simp [World.cell?, Addr.add, hz]
    · simp [plainV] at hu; subst hu; simp [World.cell?, Addr.add, hz]
    · simp [plainV] at hu; subst hu; simp [World.cell?, Addr.add, hz]
    · simp [plainV] at hu; subst hu; simp [World.cell?, Addr.add, hz]
    · simp [plainV] at hu) (fun u hu => by
    simp [plainV] at hu
    rcases hu with rfl | rfl | rfl | rfl | rfl <;> rfl) (by unfold maxLen; omega) (by omega) hb
  exact ⟨v', w', hr, hown', hg, hat⟩
theorem blk_not_row {w : World} {p : Nat} {cs : Array Value} {t e : TypeId} (h : w.heap[p]? = some (.cells cs t (0, 0))) (hte : t ≠ e) {base size k : Nat} {v : Value} {xs : List Value} (hr : w.ownsRow base e size v k xs) : v.ownBlock ≠ some p := by
  rcases hr.2 with ⟨rfl, _⟩ | ⟨g, cap, cur, rfl, _, hgb, _⟩
  · simp [Value.ownBlock]
  · intro e'
    obtain rfl : g = p := by simpa [Value.ownBlock] using e'
    rw [h] at hgb
    simp at hgb
    exact hte hgb.2
/-- A picture of j plain components, its params and its components in memory. -/
structure GS (B : Nat) (w0 w : World) (bm bp : Nat) (x y ox oy : Int) (P : Array Value) (V U : Value) (j : Nat) : Prop where
  m : w.heap[bm]? = some (.cells #[.int .i64 x, .int .i64 y, .int .i64 ox, .int .i64 oy, V] 24 (0, 0))
  p : w.heap[bp]? = some (.cells P 26 (0, 0))
  o : w.ownsRow B 39 5 U j (plR j)
  bel : Below B w0 w
  bb : B ≤ bm ∧ B ≤ bp ∧ bm ≠ bp
section
variable {B : Nat} {w0 w w' : World} {bm bp j : Nat} {x y ox oy : Int} {P : Array Value} {V U : Value}
theorem GS.below (h : GS B w0 w bm bp x y ox oy P V U j) (hb : Below w.heap.size w w') : GS B w0 w' bm bp x y ox oy P V U j :=
  ⟨(hb.block _ (Array.getElem?_eq_some_iff.1 h.m).1).trans h.m, (hb.block _ (Array.getElem?_eq_some_iff.1 h.p).1).trans h.p, ownsRow_keep h.o hb.size (fun k e => hb.block k (own_lt h.o e).2), h.bel.trans (hb.mono (by have := (Array.getElem?_eq_some_iff.1 h.m).1; have := h.bb; omega)), h.bb⟩
theorem GS.grown (h : GS B w0 w bm bp x y ox oy P V U j) {U2 : Value} (hg : w.grownBy w' U.ownBlock) (ho : w'.ownsRow B 39 5 U2 (j + 1) (plR j ++ plainV)) : GS B w0 w' bm bp x y ox oy P V U2 (j + 1) := by
  have hm := (Array.getElem?_eq_some_iff.1 h.m).1
  have hp := (Array.getElem?_eq_some_iff.1 h.p).1
  refine ⟨(hg.block _ hm (fun e => blk_not_row h.m (by decide) h.o e.symm)).trans h.m, (hg.block _ hp (fun e => blk_not_row h.p (by decide) h.o e.symm)).trans h.p, ho, h.bel.grown hg (by have := h.bb; omega) (fun k e => (own_lt h.o e).1), h.bb⟩
theorem GS.setm (h : GS B w0 w bm bp x y ox oy P V U j) : GS B w0 (w.setCell ⟨bm, 4, none⟩ U) bm bp x y ox oy P U U j := by
  have kp : ∀ k, k ≠ bm → (w.setCell ⟨bm, 4, none⟩ U).heap[k]? = w.heap[k]? := fun k hk => Below.heap_setCell _ _ _ _ (by simpa using hk)
  refine ⟨?_, (kp _ (Ne.symm h.bb.2.2)).trans h.p, ownsRow_keep h.o (by simp [World.setCell]) (fun k e => kp k (fun e' => blk_not_row h.m (by decide) h.o (by rw [e, e']))), h.bel.setCell (p := ⟨bm, 4, none⟩) (by show B ≤ bm; have := h.bb; omega) _, h.bb⟩
  simp [World.setCell, Array.getElem?_modify, h.m]
/-- The components as a list. -/
theorem GS.comps {A : Option Addr} {c : Nat} (h : GS B w0 w bm bp x y ox oy P V (.slice A j c) j) (hj : 1 ≤ j) : CompsAt w A (List.replicate j ⟨8, false, 1, 1, none, 0, 0⟩) ∧ j ≤ c ∧ c ≤ maxLen := by
  obtain ⟨g, cap, hv, hg, hgl, hc, hm⟩ := own_form h.o (by omega)
  cases hv
  refine ⟨fun i c' e => ?_, hc, hm⟩
  have hi : i < j := by
    rcases Nat.lt_or_ge i j with h' | h'
    · exact h'
    · rw [List.getElem?_eq_none (by simpa using h')] at e; cases e
  rw [List.getElem?_replicate, if_pos hi] at e
  cases e
  obtain ⟨p0, p1, p2, p3, p4⟩ := plR_get j i hi
  refine ⟨g, 0, rfl, hgl, ?_⟩
  rw [Nat.zero_add]
  exact ⟨(h.o.cellAt _ (by omega)).trans p0, (h.o.cellAt _ (by omega)).trans p1, (h.o.cellAt _ (by omega)).trans p2, (h.o.cellAt _ (by omega)).trans p3, (h.o.cellAt _ (by omega)).trans p4⟩
end
/-- The first component, to be appended. -/
theorem GS.first {B : Nat} {w0 w : World} {bm bp j g c : Nat} {x y ox oy : Int} {P : Array Value} {V : Value} (h : GS B w0 w bm bp x y ox oy P V (.slice (some ⟨g, 0, none⟩) j c) j) (hj : 1 ≤ j) : w.cell? ⟨g, 0, none⟩ = some (.int .i64 8) ∧ w.cell? ⟨g, 1, none⟩ = some (.bool false) ∧ w.cell? ⟨g, 2, none⟩ = some (.int .i64 1) ∧ w.cell? ⟨g, 3, none⟩ = some (.int .i64 1) ∧ w.cell? ⟨g, 4, none⟩ = some (.slice none 0 0) := by
  obtain ⟨p0, p1, p2, p3, p4⟩ := plR_get j 0 (by omega)
  simp only [Nat.zero_mul, Nat.zero_add] at p0 p1 p2 p3 p4
  exact ⟨(h.o.cellAt _ (by omega)).trans p0, (h.o.cellAt _ (by omega)).trans p1, (h.o.cellAt _ (by omega)).trans p2, (h.o.cellAt _ (by omega)).trans p3, (h.o.cellAt _ (by omega)).trans p4⟩
theorem own_plain {w : World} {B b : Nat} (h : w.heap[b]? = some (.cells #[.int .i64 8, .bool false, .int .i64 1, .int .i64 1, .slice none 0 0] 39 (0, 0))) (hB : B ≤ b) : w.ownsRow B 39 5 (.slice (some ⟨b, 0, none⟩) 1 1) 1 (plR 1) :=
  ⟨rfl, .inr ⟨b, 1, _, rfl, hB, h, Nat.le_refl _, by unfold maxLen; omega, rfl, rfl⟩⟩
end Go.Proofs.Ythcpmonahmogaaa
