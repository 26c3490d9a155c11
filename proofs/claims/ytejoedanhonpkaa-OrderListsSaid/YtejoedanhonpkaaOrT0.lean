/- Packets in order: order.sorted. -/
import Derived.Test.YtejoedanhonpkaaOrS
import Derived.Test.YtejoedanhonpkaaOrQ0
import Derived.Deep.MidRow
import Derived.Laws.MakeOwn
import Derived.Deep.LoopGhost
set_option linter.unusedVariables false
set_option linter.unusedSimpArgs false
namespace Go.Proofs.Ytejoedanhonpkaa
open Go.RowKit Go.Shelf Go.Sort
set_option maxRecDepth 100000
theorem infoRk : (Try.prog.info? 87).map (fun i => (i.zero, i.size, i.bytes)) = some (some (.agg #[.int .i64 0, .int .i64 0, .int .i64 0, .int .i64 0, .int .i64 0, .int .i64 0, .int .i64 0, .int .i64 0, .int .i64 0, .int .i64 0, .int .i64 0, .int .i64 0]), 12, 96) := by kernel_rfl
theorem infoPk : (Try.prog.info? 66).map (fun i => (i.zero, i.size, i.bytes)) = some (some (.agg #[.int .i64 0, .int .i64 0, .int .i64 0, .int .i64 0, .int .i64 0, .int .i64 0]), 6, 48) := by kernel_rfl
theorem hmkRk (u : World) (q : Nat) (hq : q ≤ 20000000) : (Instr.makeSlice 85 (.int .i64 (q : Int)) (.int .i64 (q : Int))).run Try.prog u = .ok (.slice (some ⟨u.heap.size, 0, none⟩) q q) (u.alloc (.cells (madeCells #[.int .i64 0, .int .i64 0, .int .i64 0, .int .i64 0, .int .i64 0, .int .i64 0, .int .i64 0, .int .i64 0, .int .i64 0, .int .i64 0, .int .i64 0, .int .i64 0] (q * 12)) 87)) := by
  obtain ⟨i, hi, hzz⟩ := Option.map_eq_some_iff.1 infoRk
  simp only [Prod.mk.injEq] at hzz
  obtain ⟨hz, hs, hb⟩ := hzz
  have hr := run_make (P := Try.prog) u 85 87 i (.agg #[.int .i64 0, .int .i64 0, .int .i64 0, .int .i64 0, .int .i64 0, .int .i64 0, .int .i64 0, .int .i64 0, .int .i64 0, .int .i64 0, .int .i64 0, .int .i64 0]) (by kernel_rfl) hi hz .i64 .i64 q q (by omega) (Int.le_refl _) (by rw [hb]; omega) (by omega)
  simp only [Int.toNat_natCast, hs] at hr
  exact hr
theorem hmkPk (u : World) (q : Nat) (hq : q ≤ 20000000) : (Instr.makeSlice 61 (.int .i64 (q : Int)) (.int .i64 (q : Int))).run Try.prog u = .ok (.slice (some ⟨u.heap.size, 0, none⟩) q q) (u.alloc (.cells (madeCells #[.int .i64 0, .int .i64 0, .int .i64 0, .int .i64 0, .int .i64 0, .int .i64 0] (q * 6)) 66)) := by
  obtain ⟨i, hi, hzz⟩ := Option.map_eq_some_iff.1 infoPk
  simp only [Prod.mk.injEq] at hzz
  obtain ⟨hz, hs, hb⟩ := hzz
  have hr := run_make (P := Try.prog) u 61 66 i (.agg #[.int .i64 0, .int .i64 0, .int .i64 0, .int .i64 0, .int .i64 0, .int .i64 0]) (by kernel_rfl) hi hz .i64 .i64 q q (by omega) (Int.le_refl _) (by rw [hb]; omega) (by omega)
  simp only [Int.toNat_natCast, hs] at hr
  exact hr
/-- Packets in memory. -/
def PkR (w : World) (A : Option Addr) (L : List Pk) : Prop := ∀ (i : Nat) (x : Pk), L[i]? = some x → ∃ g o, A = some ⟨g, o, none⟩ ∧ g < w.heap.size ∧
  w.cell? ⟨g, o + i * 6, none⟩ = some (.int .i64 x.ly) ∧ w.cell? ⟨g, o + i * 6 + 1, none⟩ = some (.int .i64 x.rs) ∧ w.cell? ⟨g, o + i * 6 + 2, none⟩ = some (.int .i64 x.cp) ∧ w.cell? ⟨g, o + i * 6 + 3, none⟩ = some (.int .i64 x.pc) ∧ w.cell? ⟨g, o + i * 6 + 4, none⟩ = some (.int .i64 x.dn) ∧ w.cell? ⟨g, o + i * 6 + 5, none⟩ = some (.int .i64 x.ac)
theorem PkR.below {w w' : World} {A : Option Addr} {L : List Pk} (h : PkR w A L) (hb : Below w.heap.size w w') : PkR w' A L := fun i x hx => by
  obtain ⟨g, o, h1, h2, k0, k1, k2, k3, k4, k5⟩ := h i x hx
  exact ⟨g, o, h1, Nat.lt_of_lt_of_le h2 hb.size, (hb.cell (p := ⟨g, _, none⟩) h2).trans k0, (hb.cell (p := ⟨g, _, none⟩) h2).trans k1, (hb.cell (p := ⟨g, _, none⟩) h2).trans k2, (hb.cell (p := ⟨g, _, none⟩) h2).trans k3, (hb.cell (p := ⟨g, _, none⟩) h2).trans k4, (hb.cell (p := ⟨g, _, none⟩) h2).trans k5⟩
theorem range_below {w w' : World} {B b o : Nat} {cs : List Value} (h : w.rangeAt b o cs) (hb : Below B w w') (hB : b < B) : w'.rangeAt b o cs := fun j v hv => (hb.cell (p := ⟨b, o + j, none⟩) hB).trans (h j v hv)
theorem frozen_below {w w' : World} {B : Nat} (hb : Below B w w') {a : Addr} (ha : a.block < B) : w'.frozen? a = w.frozen? a := by simp [World.frozen?, hb.block _ ha]
theorem there_below {w w' : World} {B b o n : Nat} (h : w.there b o n) (hb : Below B w w') (hB : b < B) : w'.there b o n := fun j hj =>
  ⟨by rw [hb.cell (p := ⟨b, o + j, none⟩) hB]; exact (h j hj).1, by rw [frozen_below hb (a := ⟨b, o + j, none⟩) hB]; exact (h j hj).2⟩
theorem below_setCells {a : World} {B b : Nat} (hB : B ≤ b) : ∀ (vs : List Value) (o : Nat) (w : World), Below B a w → Below B a (w.setCells b o vs)
  | [], _, _, h => h
  | v :: r, o, w, h => by
    rw [World.setCells]
    exact below_setCells hB r (o + 1) _ (h.setCell (p := ⟨b, o, none⟩) hB v)
theorem there_sub {w : World} {b o n o' n' : Nat} (h : w.there b o n) (h1 : o ≤ o') (h2 : o' + n' ≤ o + n) : w.there b o' n' := fun j hj => by
  have := h (o' - o + j) (by omega)
  rwa [show o + (o' - o + j) = o' + j by omega] at this
theorem there_made (w : World) (t : TypeId) (z : Array Value) (n : Nat) : (w.alloc (.cells (madeCells z n) t)).there w.heap.size 0 n := fun j hj => by
  have h := World.alloc_heap_new w (.cells (madeCells z n) t)
  have h2 : j < (madeCells z n).size := by rw [size_madeCells]; exact hj
  constructor
  · rw [cell_of_row _ _ _ _ _ _ h, Nat.zero_add, Array.getElem?_eq_getElem h2]; rfl
  · unfold World.frozen?; rw [h]; simp
/-- The first rows of a block. -/
structure RowsAt (w : World) (b k n i : Nat) (enc : Pk → List Value) (L : List Pk) : Prop where
  th : w.there b 0 (n * k)
  row : ∀ (j : Nat) (x : Pk), j < i → L[j]? = some x → w.rangeAt b (j * k) (enc x)
theorem RowsAt.below {w w' : World} {B b k n i : Nat} {enc : Pk → List Value} {L : List Pk} (h : RowsAt w b k n i enc L) (hb : Below B w w') (hB : b < B) : RowsAt w' b k n i enc L :=
  ⟨there_below h.th hb hB, fun j x hj hx => range_below (h.row j x hj hx) hb hB⟩
theorem RowsAt.put {w : World} {b k n i : Nat} {enc : Pk → List Value} {L : List Pk} (h : RowsAt w b k n i enc L) (hk : ∀ x, (enc x).length = k) {x : Pk} (hx : L[i]? = some x) (hi : i < n) : RowsAt (w.setCells b (i * k) (enc x)) b k n (i + 1) enc L := by
  have hle : (i + 1) * k ≤ n * k := Nat.mul_le_mul_right k hi
  rw [Nat.succ_mul] at hle
  refine ⟨World.there_setCells h.th _ _ _, fun j y hj hy => ?_⟩
  rcases Nat.lt_or_eq_of_le (Nat.le_of_lt_succ hj) with hj | rfl
  · have hle2 : (j + 1) * k ≤ i * k := Nat.mul_le_mul_right k hj
    rw [Nat.succ_mul] at hle2
    exact World.rangeAt_setCells_apart (h.row j y hj hy) _ _ _ (.inr (.inl (by rw [hk]; omega)))
  · rw [hx] at hy; injection hy with hy; subst hy
    exact World.rangeAt_setCells_same _ _ _ _ (there_sub h.th (Nat.zero_le _) (by rw [hk]; omega))
theorem RowsAt.holds {w : World} {b o n : Nat} {L : List Pk} (h : RowsAt w b 12 n n (encR o) L) (hl : L.length = n) : HoldsK (encR o) 12 w b 0 L.toArray := by
  intro j hj
  rw [size_flatK, List.size_toArray, hl] at hj
  have hq : j / 12 < n := Nat.div_lt_of_lt_mul (by omega)
  have hr : j % 12 < 12 := Nat.mod_lt _ (by omega)
  obtain ⟨x, hx⟩ : ∃ x, L[j / 12]? = some x := ⟨_, List.getElem?_eq_getElem (by rw [hl]; exact hq)⟩
  have h1 := h.row (j / 12) x hq hx
  obtain ⟨v, hv⟩ : ∃ v, (encR o x)[j % 12]? = some v := ⟨_, List.getElem?_eq_getElem (by rw [encR_len]; exact hr)⟩
  have h2 := h1 (j % 12) v hv
  rw [show j / 12 * 12 + j % 12 = j by omega] at h2
  have h3 := (h.th j hj).2
  rw [Nat.zero_add] at h3
  have e1 : (L.toArray)[j / 12]! = x := by
    rw [getElem!_pos L.toArray (j / 12) (by simp [hl]; exact hq)]
    obtain ⟨_, e⟩ := List.getElem?_eq_some_iff.1 hx
    simpa using e
  have e2 : (encR o x)[j % 12]! = v := by
    obtain ⟨hh, e⟩ := List.getElem?_eq_some_iff.1 hv
    rw [getElem!_pos (encR o x) (j % 12) hh]
    exact e
  rw [get_flatK _ _ _ _ (by rw [List.size_toArray, hl]; exact hj), e1, e2, Nat.zero_add]
  exact ⟨h2, h3⟩
@[reducible] def Pk.vals (x : Pk) : List Value := [.int .i64 x.ly, .int .i64 x.rs, .int .i64 x.cp, .int .i64 x.pc, .int .i64 x.dn, .int .i64 x.ac]
theorem RowsAt.pk {w : World} {b n : Nat} {L : List Pk} (h : RowsAt w b 6 n n Pk.vals L) (hl : L.length = n) (hb : b < w.heap.size) : PkR w (some ⟨b, 0, none⟩) L := fun i x hx => by
  have hi : i < n := by rw [← hl]; exact (List.getElem?_eq_some_iff.1 hx).1
  have h1 := h.row i x hi hx
  exact ⟨b, 0, rfl, hb, by rw [Nat.zero_add]; exact h1 0 _ rfl, by rw [Nat.zero_add]; exact h1 1 _ rfl, by rw [Nat.zero_add]; exact h1 2 _ rfl, by rw [Nat.zero_add]; exact h1 3 _ rfl, by rw [Nat.zero_add]; exact h1 4 _ rfl, by rw [Nat.zero_add]; exact h1 5 _ rfl⟩
end Go.Proofs.Ytejoedanhonpkaa
