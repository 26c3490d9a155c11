/- join of package dwt: rows copied into a plane. -/
import Derived.Test.YtgadebfelomhpaaDwE
import Derived.Laws.IdiomCopy
import Derived.Outline
set_option linter.unusedVariables false
set_option linter.unusedSimpArgs false
namespace Go.Proofs.Ytgadebfelomhpaa
open Go.RowKit

theorem wri_mul (a b : Nat) (h : a ≤ 4096) (h' : b ≤ 4096) : IntKind.i64.wrap ((a : Int) * (b : Int)) = ((a * b : Nat) : Int) := by
  have := Nat.mul_le_mul h h'
  rw [show (a : Int) * (b : Int) = ((a * b : Nat) : Int) by simp]
  exact IntWalk.i64_in _ (by omega)
theorem wri_suc (a : Nat) (h : a ≤ 4096) : IntKind.i64.wrap ((a : Int) + 1) = (a : Int) + 1 := IntWalk.i64_in _ (by omega)
/-- What a copy comes to, as one word. -/
def cpySem (ts : Array TypeId) (ty : TypeId) (args : Array Value) : Sem Value := Builtin.copy_ ts ty args
theorem cpySem_eq {ts : Array TypeId} {ty : TypeId} {args : Array Value} : Builtin.copy_ ts ty args = cpySem ts ty args := rfl
theorem own_sets {lo g n c : Nat} (l : List Int) : ∀ (w : World) (o : Nat) (r : Nat → Int), w.ownsRow lo 3 1 (.slice (some ⟨g, 0, none⟩) n c) n ((ranged r n).map (Value.int .i64)) → o + l.length ≤ n →
    (w.setCells g o (l.map (Value.int .i64))).ownsRow lo 3 1 (.slice (some ⟨g, 0, none⟩) n c) n ((ranged (fun m => if o ≤ m ∧ m < o + l.length then l.getD (m - o) 0 else r m) n).map (Value.int .i64)) ∧ w.grownBy (w.setCells g o (l.map (Value.int .i64))) (some g) := by
  induction l with
  | nil =>
    intro w o r h hl
    refine ⟨own_map h (fun i _ => ?_), World.grownBy.refl _ _⟩
    rw [if_neg (by first | (simp; done) | (simp; omega))]
  | cons x l ih =>
    intro w o r h hl
    simp only [List.length_cons] at hl
    have s := own_set (s := fun i => if i = o then x else r i) h x (show o < n by omega) (fun i _ => rfl)
    obtain ⟨h2, g2⟩ := ih (w.setCell ⟨g, o, none⟩ (.int .i64 x)) (o + 1) _ s.1 (by omega)
    refine ⟨own_map h2 (fun i _ => ?_), s.2.trans g2⟩
    simp only [List.length_cons]
    by_cases c1 : o + 1 ≤ i ∧ i < o + 1 + l.length
    · rw [if_pos c1, if_pos (by omega), show i - o = (i - (o + 1)) + 1 from by omega]; rfl
    · rw [if_neg c1]
      by_cases c2 : i = o
      · subst c2
        rw [if_pos rfl, if_pos (by omega), Nat.sub_self]; rfl
      · rw [if_neg c2, if_neg (by omega)]
theorem copy_row {w : World} {lo g n c o cd : Nat} {r : Nat → Int} {D S : Option Addr} {m cs : Nat} {L : List Int} (h : w.ownsRow lo 3 1 (.slice (some ⟨g, 0, none⟩) n c) n ((ranged r n).map (Value.int .i64))) (hs : RowI w S m cs L) (ho : o + m ≤ n) (hD : o < n → D = some ⟨g, o, none⟩) :
    ∃ w', (cpySem #[24, 24] 3 #[.slice D (n - o) cd, .slice S m cs]).run Try.prog w = .ok (.int .i64 (m : Int)) w' ∧
      w'.ownsRow lo 3 1 (.slice (some ⟨g, 0, none⟩) n c) n ((ranged (fun i => if o ≤ i ∧ i < o + m then L.getD (i - o) 0 else r i) n).map (Value.int .i64)) ∧ w.grownBy w' (some g) := by
  have hinf : (Try.prog.info? 3).map (·.size) = some 1 := by
    obtain ⟨i0, hi, hz0, hz1, hz2⟩ := info_parts Try.info3
    rw [hi]; simp [hz1]
  rcases Nat.eq_zero_or_pos m with h0 | h0
  · subst h0
    refine ⟨w, ?_, own_map h (fun i _ => by rw [if_neg (by omega)]), World.grownBy.refl _ _⟩
    exact run_copy_none (P := Try.prog) w 24 24 3 3 D S (n - o) cd 0 cs Try.underlying24 hinf (Nat.zero_min _)
  · have hD := hD (by omega)
    subst hD
    have hl := hs.1
    obtain ⟨a, hS⟩ : ∃ a, S = some a := by
      cases S with
      | none => have := hs.2.2.2.1 rfl; omega
      | some a => exact ⟨a, rfl⟩
    subst hS
    have hsz := own_sets L w o r h (by omega)
    rw [hl] at hsz
    refine ⟨_, ?_, hsz.1, hsz.2⟩
    have hr := run_copy_cells (P := Try.prog) w 24 24 3 3 g o (n - o) cd a m cs (L.map (Value.int .i64)) Try.underlying24 hinf (by rw [List.length_map, hl]; exact (Nat.min_eq_left (by omega)).symm) (hs.2.2.2.2.add rfl)
      (fun j hj => by
        rw [List.length_map, hl] at hj
        rw [own_cell h (m := o + j) (by omega)]; rfl) (fun j hj => h.frozenAt (o + j)) (ints_oneCell .i64 L)
    rw [List.length_map, hl] at hr
    exact hr
theorem slice_from {g n c : Nat} (o : Nat) (ho : o ≤ n) (hnc : n ≤ c) : ∃ D, (∀ W, (slcSem 24 (.slice (some ⟨g, 0, none⟩) n c) (some (.int .i64 (o : Int))) none none).run Try.prog W = .ok (.slice D (n - o) (c - o)) W) ∧ (o < n → D = some ⟨g, o, none⟩) := by
  obtain ⟨i0, hi0, hz0, hz1, hz2⟩ := info_parts Try.info3
  refine ⟨if c = o then some ⟨g, 0, none⟩ else (some (⟨g, 0, none⟩ : Addr)).map (·.add o), fun W => ?_, fun h => ?_⟩
  · unfold slcSem
    rw [run_slice_l W 24 (some ⟨g, 0, none⟩) n c (by exact Try.underlying24) .i64 (o : Int) (by omega) (by omega)]
    have hs : (sizeOf (Try.prog.elem 24)).run Try.prog W = .ok 1 W := by
      have he : Try.prog.elem 24 = 3 := by kernel_rfl
      rw [he]
      simp [sizeOf, typeInfo, hi0, hz1]
    rw [hs]
    simp [Result.andThen, sliced]
  · rw [if_neg (by omega)]
    simp only [Option.map_some, Addr.add]
    split
    · rename_i h0; subst h0; rfl
    · simp
/-- Behind k quarters, and y rows of the next one. -/
def inq (g : Geo) (j X Y : Nat) : Prop := qX g j ≤ X ∧ X < qX g j + qW g j ∧ qY g j ≤ Y ∧ Y < qY g j + qH g j
def Cov (g : Geo) (Q : Nat → Nat → Int) (r : Nat → Int) (k y : Nat) : Prop := ∀ X Y, X < g.w → Y < g.h → (∃ j, j < k ∧ inq g j X Y) ∨ (inq g k X Y ∧ Y < qY g k + y) → r (Y * g.w + X) = Q X Y
theorem Cov.row {g : Geo} {Q : Nat → Nat → Int} {r : Nat → Int} {k y : Nat} (h : Cov g Q r k y) {o : Nat} (ho : o = (qY g k + y) * g.w + qX g k) (hy : y < qH g k) :
    Cov g Q (fun i => if o ≤ i ∧ i < o + qW g k then (ranged (fun x => Q (qX g k + x) (qY g k + y)) (qW g k)).getD (i - o) 0 else r i) k (y + 1) := by
  intro X Y hX hY hc
  have hq := qX_le g k
  dsimp only
  by_cases c1 : o ≤ Y * g.w + X ∧ Y * g.w + X < o + qW g k
  · rw [if_pos c1, ranged_getD _ (by omega)]
    obtain ⟨t, ht⟩ : ∃ t, Y * g.w + X = (qY g k + y) * g.w + (qX g k + t) := ⟨Y * g.w + X - o, by omega⟩
    have hat : qX g k + t < g.w := by omega
    have e1 := spot_div Y hX
    have e2 := spot_mod Y hX
    rw [ht, spot_div _ hat] at e1
    rw [ht, spot_mod _ hat] at e2
    rw [← e1, ← e2, ho, show (qY g k + y) * g.w + (qX g k + t) - ((qY g k + y) * g.w + qX g k) = t from by omega]
  · rw [if_neg c1]
    refine h X Y hX hY ?_
    rcases hc with hc | ⟨hc, hlt⟩
    · exact Or.inl hc
    · refine Or.inr ⟨hc, ?_⟩
      rcases Nat.lt_or_ge Y (qY g k + y) with h2 | h2
      · exact h2
      · exfalso
        obtain rfl : Y = qY g k + y := by omega
        have h3 := hc.1
        have h4 := hc.2.1
        exact c1 (by omega)
theorem Cov.next {g : Geo} {Q : Nat → Nat → Int} {r : Nat → Int} {k : Nat} (h : Cov g Q r k (qH g k)) : Cov g Q r (k + 1) 0 := by
  intro X Y hX hY hc
  refine h X Y hX hY ?_
  rcases hc with ⟨j, hj, hc⟩ | ⟨hc, hlt⟩
  · by_cases e : j = k
    · subst e; exact Or.inr ⟨hc, hc.2.2.2⟩
    · exact Or.inl ⟨j, by omega, hc⟩
  · have := hc.2.2.1; omega
theorem Cov.all {g : Geo} {Q : Nat → Nat → Int} {r : Nat → Int} (h : Cov g Q r 4 0) {X Y : Nat} (hX : X < g.w) (hY : Y < g.h) : r (Y * g.w + X) = Q X Y := by
  refine h X Y hX hY (Or.inl ?_)
  have lw := half_w g
  have lh := half_h g
  by_cases c1 : X < g.half.w
  · by_cases c2 : Y < g.half.h
    · exact ⟨0, by omega, by unfold inq qX qY qW qH; simp; omega⟩
    · exact ⟨2, by omega, by unfold inq qX qY qW qH; simp; omega⟩
  · by_cases c2 : Y < g.half.h
    · exact ⟨1, by omega, by unfold inq qX qY qW qH; simp; omega⟩
    · exact ⟨3, by omega, by unfold inq qX qY qW qH; simp; omega⟩
theorem cov_own {w : World} {lo u : Nat} {g : Geo} {Q : Nat → Nat → Int} {r : Nat → Int} (h : Cov g Q r 4 0) (ho : w.ownsRow lo 3 1 (.slice (some ⟨u, 0, none⟩) (g.w * g.h) (g.w * g.h)) (g.w * g.h) ((ranged r (g.w * g.h)).map (Value.int .i64))) : PlO lo w (some ⟨u, 0, none⟩) (g.w * g.h) g Q := by
  unfold PlO
  have e : ranged r (g.w * g.h) = flat g.w g.h Q := by
    rw [← flat_of]
    exact flat_congr fun x y hx hy => h.all hx hy
  rw [← e]
  exact ho
end Go.Proofs.Ytgadebfelomhpaa
