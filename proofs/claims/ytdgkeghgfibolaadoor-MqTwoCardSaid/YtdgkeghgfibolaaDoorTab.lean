/- The table of package states as the walks see it. -/
import Derived.Test.YtdgkeghgfibolaaDoorTie
import Derived.Test.YtdgkeghgfibolaaDoorRows
import Derived.WalkKit
import Derived.ProofKit
import Derived.OpenShut
import Derived.ShutString
import Derived.ChangeOld
import Derived.Below
import Derived.LaidMore
import Derived.Stop.Joined
set_option linter.unusedVariables false
namespace Go.Proofs.YtdgkeghgfibolaaDoor
open Go.ChangeShapes Go.WideShapes Go.ChangeAt Go.WideMaps Go.WideElems Go.RowKit

/-- The rows of the table: Qe, Mps, Lps, Swap. -/
def tb : List (Nat × Nat × Nat × Bool) := [(22017, 1, 1, true), (13313, 2, 6, false), (6145, 3, 9, false), (2753, 4, 12, false), (1313, 5, 29, false), (545, 38, 33, false), (22017, 7, 6, true), (21505, 8, 14, false), (18433, 9, 14, false), (14337, 10, 14, false), (12289, 11, 17, false), (9217, 12, 18, false), (7169, 13, 20, false), (5633, 29, 21, false), (22017, 15, 14, true), (21505, 16, 14, false), (20737, 17, 15, false), (18433, 18, 16, false), (14337, 19, 17, false), (13313, 20, 18, false), (12289, 21, 19, false), (10241, 22, 19, false), (9217, 23, 20, false), (8705, 24, 21, false), (7169, 25, 22, false), (6145, 26, 23, false), (5633, 27, 24, false), (5121, 28, 25, false), (4609, 29, 26, false), (4353, 30, 27, false), (2753, 31, 28, false), (2497, 32, 29, false), (2209, 33, 30, false), (1313, 34, 31, false), (1089, 35, 32, false), (673, 36, 33, false), (545, 37, 34, false), (321, 38, 35, false), (273, 39, 36, false), (133, 40, 37, false), (73, 41, 38, false), (37, 42, 39, false), (21, 43, 40, false), (9, 44, 41, false), (5, 45, 42, false), (1, 45, 43, false), (22017, 46, 46, false)]
def qe (i : Nat) : Nat := (tb.getD i (0, 0, 0, false)).1
def mps (i : Nat) : Nat := (tb.getD i (0, 0, 0, false)).2.1
def lps (i : Nat) : Nat := (tb.getD i (0, 0, 0, false)).2.2.1
def swp (i : Nat) : Bool := (tb.getD i (0, 0, 0, false)).2.2.2
theorem laid_tb {H : Type} : (Rows.laid_wavelet_states_table : DataW H) = .agg (tb.map fun r => .agg [.lit (.int .i64 r.1), .lit (.int .i64 r.2.1), .lit (.int .i64 r.2.2.1), .lit (.bool r.2.2.2)]) := rfl
theorem tb_len : tb.length = 47 := rfl

theorem gTab : Tryd.prog.globalNamed "wavelet/states.table" = some 0 := by kernel_rfl
theorem tTab : (Tryd.prog.globals[0]?).map (·.type) = some 84 := by kernel_rfl
theorem c3 : Tryd.prog.cellsOf 3 = 1 := by kernel_rfl
theorem c4 : Tryd.prog.cellsOf 4 = 1 := by kernel_rfl
theorem c25 : Tryd.prog.cellsOf 70 = 4 := by kernel_rfl

theorem int_of_trod {H : Type} {enc : TypeId × Value → H} {P : Program} {w : World} {base : Nat} {sp : Nat → Bool} {held : Bool} {fuel : Nat} {t : TypeId} {k : IntKind} {c : Value} {y : DataW H × List MemPlace}
    (ht : P.underlying t = some (.int k)) (h : DataW.trod enc P w base sp held fuel t [c] = some y) : ∃ n, c = .int k n ∧ y = (.lit (.int k n), []) := by
  cases fuel with
  | zero => simp [DataW.trod] at h
  | succ fuel =>
    cases c <;> simp [DataW.trod, ht] at h
    rename_i k' n
    obtain ⟨⟨rfl, _⟩, rfl⟩ := h
    exact ⟨n, rfl, rfl⟩
theorem bool_of_trod {H : Type} {enc : TypeId × Value → H} {P : Program} {w : World} {base : Nat} {sp : Nat → Bool} {held : Bool} {fuel : Nat} {t : TypeId} {c : Value} {y : DataW H × List MemPlace}
    (ht : P.underlying t = some .bool) (h : DataW.trod enc P w base sp held fuel t [c] = some y) : ∃ n, c = .bool n ∧ y = (.lit (.bool n), []) := by
  cases fuel with
  | zero => simp [DataW.trod] at h
  | succ fuel =>
    cases c <;> simp [DataW.trod, ht] at h
    rename_i n
    subst h
    exact ⟨n, rfl, rfl⟩
theorem row_trod {H : Type} {enc : TypeId × Value → H} {w : World} {base : Nat} {sp : Nat → Bool} {held : Bool} {fuel : Nat} {cs : List Value} {a b c : Int} {d : Bool} {q : List MemPlace}
    (h : DataW.trod enc Tryd.prog w base sp held fuel 70 cs = some (.agg [.lit (.int .i64 a), .lit (.int .i64 b), .lit (.int .i64 c), .lit (.bool d)], q)) :
    cs = [.int .i64 a, .int .i64 b, .int .i64 c, .bool d] := by
  obtain ⟨xs, n, _, hx, hl, hlen, hf⟩ := DataW.trod_struct Tryd.underlying70 h
  rw [c25] at hl
  match cs, hl with
  | [v0, v1, v2, v3], _ =>
    match xs, hlen with
    | [y0, y1, y2, y3], _ =>
      have f0 := hf 0 _ rfl
      have f1 := hf 1 _ rfl
      have f2 := hf 2 _ rfl
      have f3 := hf 3 _ rfl
      change DataW.trod enc Tryd.prog w base sp held n 3 (List.take (Tryd.prog.cellsOf 3) [v0, v1, v2, v3]) = some y0 at f0
      change DataW.trod enc Tryd.prog w base sp held n 3 (List.take (Tryd.prog.cellsOf 3) [v1, v2, v3]) = some y1 at f1
      change DataW.trod enc Tryd.prog w base sp held n 3 (List.take (Tryd.prog.cellsOf 3) [v2, v3]) = some y2 at f2
      change DataW.trod enc Tryd.prog w base sp held n 4 (List.take (Tryd.prog.cellsOf 4) [v3]) = some y3 at f3
      rw [c3] at f0 f1 f2
      rw [c4] at f3
      obtain ⟨n0, rfl, rfl⟩ := int_of_trod Tryd.underlying3 f0
      obtain ⟨n1, rfl, rfl⟩ := int_of_trod Tryd.underlying3 f1
      obtain ⟨n2, rfl, rfl⟩ := int_of_trod Tryd.underlying3 f2
      obtain ⟨n3, rfl, rfl⟩ := bool_of_trod Tryd.underlying4 f3
      simp at hx
      obtain ⟨⟨rfl, rfl, rfl, rfl⟩, _⟩ := hx
      rfl
/-- The table lies in block 0. -/
structure Tab (w : World) : Prop where
  pos : 0 < w.heap.size
  q : ∀ i, i < 47 → w.cell? ⟨0, i * 4, none⟩ = some (.int .i64 (qe i : Nat)) ∧ w.cell? ⟨0, i * 4 + 1, none⟩ = some (.int .i64 (mps i : Nat)) ∧ w.cell? ⟨0, i * 4 + 2, none⟩ = some (.int .i64 (lps i : Nat)) ∧ w.cell? ⟨0, i * 4 + 3, none⟩ = some (.bool (swp i))
theorem Tab.below {w w' : World} {B : Nat} (h : Tab w) (hB : 0 < B) (b : Below B w w') : Tab w' :=
  ⟨Nat.lt_of_lt_of_le h.pos b.size, fun i hi => by
    obtain ⟨a, c, d, e⟩ := h.q i hi
    exact ⟨(b.cell (p := ⟨0, i * 4, none⟩) hB).trans a, (b.cell (p := ⟨0, i * 4 + 1, none⟩) hB).trans c, (b.cell (p := ⟨0, i * 4 + 2, none⟩) hB).trans d, (b.cell (p := ⟨0, i * 4 + 3, none⟩) hB).trans e⟩⟩

theorem of_laid {W : World} (h : laidMetH Tryd.prog [("wavelet/states.table", Rows.laid_wavelet_states_table)] W) : Tab W := by
  rw [MakeChecks.laidMetH_plain _ _ _ (by kernel_rfl)] at h
  obtain ⟨ps, ⟨g0, t0, cs0, f0, p0, q0, hg0, ht0, hv0, hd0, _, _⟩, _⟩ := h
  obtain rfl := Option.some.inj (gTab.symm.trans hg0)
  obtain rfl := Option.some.inj (tTab.symm.trans ht0)
  rw [laid_tb] at hd0
  obtain ⟨xs, m1, rfl, hx1, hlen, hn3, hel⟩ := DataW.trod_array Tryd.underlying84 hd0
  rw [c25] at hel
  simp only [Prod.mk.injEq, DataW.agg.injEq] at hx1
  have hcell : ∀ j u, cs0[j]? = some u → W.cell? ⟨0, j, none⟩ = some u := fun j u hu => by
    have := World.var?_cell hg0 hv0 j
    rw [this, hu]
  have hrow : ∀ i, i < 47 → (cs0.toList.drop (i * 4)).take 4 = [.int .i64 (qe i : Nat), .int .i64 (mps i : Nat), .int .i64 (lps i : Nat), .bool (swp i)] := fun i hi => by
    have h1 := hel i hi
    obtain ⟨y, hy⟩ : ∃ y, xs[i]? = some y := ⟨_, List.getElem?_eq_getElem (by omega)⟩
    rw [hy] at h1
    have h2 : (xs.map (·.1))[i]? = some y.1 := by rw [List.getElem?_map, hy]; rfl
    rw [← hx1.1, List.getElem?_map] at h2
    have h3 : tb[i]? = some (tb.getD i (0, 0, 0, false)) := by rw [List.getD_eq_getElem?_getD, List.getElem?_eq_getElem (by rw [tb_len]; omega)]; rfl
    rw [h3] at h2
    simp only [Option.map_some, Option.some.injEq] at h2
    obtain ⟨y1, y2⟩ := y
    simp only at h2
    subst h2
    exact row_trod h1
  have hat : ∀ i k u, i < 47 → k < 4 → ([.int .i64 (qe i : Nat), .int .i64 (mps i : Nat), .int .i64 (lps i : Nat), .bool (swp i)] : List Value)[k]? = some u → W.cell? ⟨0, i * 4 + k, none⟩ = some u := fun i k u hi hk hu => by
    refine hcell _ _ ?_
    rw [← hrow i hi, List.getElem?_take, if_pos hk, List.getElem?_drop] at hu
    simpa using hu
  have h00 := hat 0 0 _ (by omega) (by omega) rfl
  exact ⟨World.block_lt_of_cell? W _ h00, fun i hi => ⟨hat i 0 _ hi (by omega) rfl, hat i 1 _ hi (by omega) rfl, hat i 2 _ hi (by omega) rfl, hat i 3 _ hi (by omega) rfl⟩⟩
theorem door_met (os : Os) (args : Array Value) : laidMetH Tryd.prog [("wavelet/states.table", Rows.laid_wavelet_states_table)] ((World.doorLaid Tryd.prog 400 os).forCall (fun _ _ => 0) ⟨#[], args, []⟩).memory :=
  laidMetH_of_parts3 (fuel := 8) (laidMet_of_run' 8 (by kernel_rfl) (by kernel_rfl)) (by kernel_rfl) (by kernel_rfl)
end Go.Proofs.YtdgkeghgfibolaaDoor
