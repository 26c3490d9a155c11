/- Packets in order: a row of bools; two lists of the same packets matched one by one. -/
import Derived.Test.YtejoedanhonpkaaOrH
set_option linter.unusedVariables false
set_option linter.unusedSimpArgs false
set_option linter.unusedSectionVars false
namespace Go.Proofs.Ytejoedanhonpkaa
open Go.RowKit
set_option maxRecDepth 100000
/-- Bools as cells. -/
def bA (n : Nat) (V : Nat → Bool) : Array Value := ((List.range n).map fun i => Value.bool (V i)).toArray
theorem bA_size (n : Nat) (V : Nat → Bool) : (bA n V).size = n := by simp [bA]
theorem bA_get {n : Nat} {V : Nat → Bool} {i : Nat} (h : i < n) : (bA n V)[i]? = some (.bool (V i)) := by
  simp [bA, List.getElem?_range h]
def putV (V : Nat → Bool) (i : Nat) : Nat → Bool := fun j => V j || Nat.beq j i
theorem bA_put {n : Nat} {V : Nat → Bool} {i : Nat} (h : i < n) : (bA n V).setIfInBounds i (.bool true) = bA n (putV V i) := by
  apply Array.ext_getElem?
  intro j
  by_cases hj : j < n
  · by_cases e : i = j
    · subst e
      rw [Array.getElem?_setIfInBounds_self_of_lt (by rw [bA_size]; exact h), bA_get h]
      simp [putV]
    · rw [Array.getElem?_setIfInBounds_ne e, bA_get hj, bA_get hj]
      have : Nat.beq j i = false := by
        cases hb : Nat.beq j i
        · rfl
        · exact absurd (Nat.eq_of_beq_eq_true hb).symm e
      simp [putV, this]
  · rw [Array.getElem?_eq_none (by rw [Array.size_setIfInBounds, bA_size]; omega), Array.getElem?_eq_none (by rw [bA_size]; omega)]
theorem Try.info4 : (Try.prog.info? 4).map (fun i => (i.zero, i.size, i.bytes)) = some (some (.bool false), 1, 1) := by kernel_rfl
theorem hmkB (u : World) (q : Nat) (hq : q ≤ 13000000) : (Instr.makeSlice 51 (.int .i64 (q : Int)) (.int .i64 (q : Int))).run Try.prog u = .ok (.slice (some ⟨u.heap.size, 0, none⟩) q q) (u.alloc (.cells (bA q fun _ => false) 4)) := by
  obtain ⟨i, hi, hzz⟩ := Option.map_eq_some_iff.1 Try.info4
  simp only [Prod.mk.injEq] at hzz
  obtain ⟨hz, hs, hb⟩ := hzz
  have hr := run_make (P := Try.prog) u 51 4 i (.bool false) (by kernel_rfl) hi hz .i64 .i64 q q (by omega) (Int.le_refl _) (by rw [hb]; omega) (by omega)
  simp only [Int.toNat_natCast, hs, Nat.mul_one] at hr
  rw [hr]
  have e : ∀ n, madeCells #[.bool false] n = bA n fun _ => false := fun n => by
    unfold madeCells bA
    apply Array.ext
    · simp
    · intro j h1 h2
      simp [Nat.mod_one]
  rw [show (Value.bool false).cells = #[.bool false] from rfl, e]
/-- Which of Y were met in the first i of X. -/
def MatchIs (X Y : List Pk) (i : Nat) (V : Nat → Bool) : Prop := ∀ (k : Nat) (y : Pk), Y[k]? = some y → (V k = true ↔ y ∈ X.take i)
theorem match0 (X Y : List Pk) : MatchIs X Y 0 fun _ => false := fun k y _ => by simp
section
variable {G : GE} {n o o' : Nat} {X Y : List Pk} (hX : OL G n o X) (hY : OL G n o' Y)
include hX hY
theorem same_perm : X.Perm Y := hX.perm.trans hY.perm.symm
/-- A packet that is marked was met before: it is not this one. -/
theorem match_ne {i k : Nat} {V : Nat → Bool} {a y : Pk} (h : MatchIs X Y i V) (ha : X[i]? = some a) (hy : Y[k]? = some y) (hv : V k = true) : y ≠ a := by
  intro e
  subst e
  obtain ⟨j, hj, he⟩ := List.mem_take_iff_getElem.1 ((h k y hy).1 hv)
  obtain ⟨hi, rfl⟩ := List.getElem?_eq_some_iff.1 ha
  have hji : j < i := by omega
  exact (List.pairwise_iff_getElem.1 (List.nodup_iff_pairwise_ne.1 hX.nodup) j i (by omega) hi hji) he
theorem match_put {i k : Nat} {V : Nat → Bool} {a : Pk} (h : MatchIs X Y i V) (ha : X[i]? = some a) (hy : Y[k]? = some a) : MatchIs X Y (i + 1) (putV V k) := fun j y hj => by
  rw [List.take_add_one, ha]
  simp only [Option.toList_some, List.mem_append, List.mem_singleton]
  rw [← h j y hj]
  unfold putV
  constructor
  · intro hv
    rcases Bool.or_eq_true _ _ |>.mp hv with h1 | h1
    · exact .inl h1
    · have := Nat.eq_of_beq_eq_true h1
      subst this
      rw [hy] at hj
      exact .inr (Option.some.inj hj).symm
  · rintro (h1 | rfl)
    · simp [h1]
    · obtain ⟨hk, e1⟩ := List.getElem?_eq_some_iff.1 hy
      obtain ⟨hj', e2⟩ := List.getElem?_eq_some_iff.1 hj
      have : j = k := by
        rcases Nat.lt_trichotomy j k with hlt | he | hlt
        · exact absurd (e2.trans e1.symm) (List.pairwise_iff_getElem.1 (List.nodup_iff_pairwise_ne.1 hY.nodup) j k hj' hk hlt)
        · exact he
        · exact absurd (e1.trans e2.symm) (List.pairwise_iff_getElem.1 (List.nodup_iff_pairwise_ne.1 hY.nodup) k j hk hj' hlt)
      subst this
      simp
/-- It stands somewhere. -/
theorem match_some {i : Nat} {a : Pk} (ha : X[i]? = some a) : ∃ k : Nat, Y[k]? = some a := List.mem_iff_getElem?.1 ((same_perm hX hY).mem_iff.1 (List.mem_of_getElem? ha))
/-- A packet is known by its key. -/
theorem key_eq {a y : Pk} (ha : a ∈ X) (hy : y ∈ Y) (h1 : a.ly = y.ly) (h2 : a.rs = y.rs) (h3 : a.cp = y.cp) (h4 : a.pc = y.pc) : a = y := by
  obtain ⟨l, c, r, k, _, _, _, _, rfl⟩ := (hX.mem a).1 ha
  obtain ⟨l', c', r', k', _, _, _, _, rfl⟩ := (hY.mem y).1 hy
  simp only [GE.pk] at h1 h2 h3 h4
  have e1 : l = l' := by omega
  have e2 : r = r' := by omega
  have e3 : c = c' := by omega
  have e4 : k = k' := by omega
  subst e1 e2 e3 e4
  rfl
end
/-- Keys in memory, from a block on. -/
def KeyL (lo : Nat) (w : World) (A : Option Addr) (L : List Pk) : Prop := ∀ (i : Nat) (x : Pk), L[i]? = some x → ∃ g o, A = some ⟨g, o, none⟩ ∧ lo ≤ g ∧ g < w.heap.size ∧
  w.cell? ⟨g, o + i * 4, none⟩ = some (.int .i64 x.ly) ∧ w.cell? ⟨g, o + i * 4 + 1, none⟩ = some (.int .i64 x.rs) ∧ w.cell? ⟨g, o + i * 4 + 2, none⟩ = some (.int .i64 x.cp) ∧ w.cell? ⟨g, o + i * 4 + 3, none⟩ = some (.int .i64 x.pc)
theorem KeyL.keep {lo b : Nat} {w w' : World} {A : Option Addr} {L : List Pk} (h : KeyL lo w A L) (hs : w.heap.size ≤ w'.heap.size) (hw : ∀ k, k ≠ b → k < w.heap.size → w'.heap[k]? = w.heap[k]?) (hb : b < lo) : KeyR w' A L := fun i x hx => by
  obtain ⟨g, o, h1, h0, h2, k0, k1, k2, k3⟩ := h i x hx
  have hc : ∀ n, w'.cell? ⟨g, n, none⟩ = w.cell? ⟨g, n, none⟩ := fun n => World.cell?_of_block (hw g (by omega) h2)
  exact ⟨g, o, h1, by omega, (hc _).trans k0, (hc _).trans k1, (hc _).trans k2, (hc _).trans k3⟩
theorem own_keyL {w : World} {B c n : Nat} {A : Option Addr} {L : List Pk} (h : w.ownsRow B 42 4 (.slice A n c) n (L.flatMap Pk.key)) (hl : L.length = n) : KeyL B w A L := fun i x e => by
  have hi : i < L.length := (List.getElem?_eq_some_iff.1 e).1
  obtain ⟨g, c', hV, hge, _⟩ := own_form h (by omega)
  cases hV
  obtain ⟨k0, k1, k2, k3⟩ := flat4 L i x e
  have f0 := h.cellAt (i * 4) (by omega)
  have f1 := h.cellAt (i * 4 + 1) (by omega)
  have f2 := h.cellAt (i * 4 + 2) (by omega)
  have f3 := h.cellAt (i * 4 + 3) (by omega)
  exact ⟨g, 0, rfl, hge, (own_lt h rfl).2, by simpa using f0.trans k0, by simpa using f1.trans k1, by simpa using f2.trans k2, by simpa using f3.trans k3⟩
/-- order.List of a tile of a picture by rows. -/
theorem listL_any {lo : Nat} (o : Nat) (ho : o < 5) (t : Int × Int × Int × Int) (ix iy iox ioy : Int) (A2 : Option Addr) (n C2 : Nat) (cs : List Cp) (tx ty bw bh st : Int) (rc so ep : Bool) (LV PR LY : Nat) (w : World)
    (ht : inN t 255) (hto : Ord4 t) (hcs : ∀ (i : Nat) (c : Cp), cs[i]? = some c → (1 ≤ c.dx ∧ c.dx ≤ 4) ∧ (1 ≤ c.dy ∧ c.dy ≤ 4)) (hn4 : cs.length ≤ 4) (hn1 : 1 ≤ cs.length) (hn : cs.length = n) (hlv : LV ≤ 5) (hpr : 1 ≤ PR ∧ PR ≤ 15) (hly : LY ≤ 8)
    (hcr : CRow lo w (.slice A2 n C2) cs) :
    Calls Try.prog 13 #[rA t, .agg #[.int .i64 ix, .int .i64 iy, .int .i64 iox, .int .i64 ioy, .slice A2 n C2], .agg #[.int .i64 tx, .int .i64 ty, .int .i64 (LV : Int), .int .i64 bw, .int .i64 bh, .int .i64 (PR : Int), .int .i64 st, .int .i64 (o : Int), .int .i64 (LY : Int), .bool rc, .bool so, .bool ep]] w fun e w' =>
      ∃ (M : List Pk) (A : Option Addr) (m c : Nat), e = .returned (.slice A m c) ∧ M.length = m ∧ m ≤ 13000000 ∧ OL (geo t (cs.map fun c => (c.dx, c.dy)) LV PR) LY o M ∧ KeyL w.heap.size w' A M ∧ Below w.heap.size w w' := by
  obtain ⟨c0, hc0⟩ : ∃ c, cs[0]? = some c := ⟨_, List.getElem?_eq_getElem (by omega)⟩
  obtain ⟨g, cap, hV, hg, hgl, hcc, hm, _⟩ := CRow.cells hcr hc0
  injection hV with hA hnn hcap
  subst hA
  obtain ⟨oc, hoc⟩ : ∃ oc, w.heap[g]? = some oc := ⟨_, Array.getElem?_eq_getElem hgl⟩
  obtain ⟨t0, t1, t2, t3⟩ := t
  have hL := list_any o ho t0 t1 t2 t3 ix iy iox ioy g 0 n C2 oc cs tx ty bw bh st rc so ep LV PR LY w ht hto hcs hn4 hn hlv hpr hly hoc (fun X hX i c hc => by
    obtain ⟨g', cap', hV', _, _, _, _, k0, k1, k2, k3, k4⟩ := CRow.cells hcr hc
    injection hV' with hA' _ _
    injection hA' with hA'
    injection hA' with hA'
    subst hA'
    have e := fun k => cell_heap hoc hX k
    rw [Nat.zero_add]
    exact ⟨(e _).trans k0, (e _).trans k1, (e _).trans k2, (e _).trans k3, (e _).trans k4⟩) _ _ _ _ rfl rfl rfl rfl
  refine hL.mono ?_
  rintro e w' ⟨M, A, c, rfl, h1, h2, h3⟩
  refine ⟨M, A, M.length, c, rfl, rfl, ?_, h1, own_keyL h2 rfl, h3⟩
  have h4 := h1.length
  obtain ⟨G, hG⟩ : ∃ G, geo (t0, t1, t2, t3) (cs.map fun c => (c.dx, c.dy)) LV PR = G := ⟨_, rfl⟩
  have h5 := h1.perm.length_eq
  rw [hG] at h5
  have hwh : ∀ c' r', c' < G.nc → G.wh c' r' ≤ 65025 := fun c' r' hc' => by
    have hc'' : c' < cs.length := by rw [← hG] at hc'; have : c' < (cs.map fun c => (c.dx, c.dy)).length := hc'; rwa [List.length_map] at this
    obtain ⟨c2, hc2⟩ : ∃ c, cs[c']? = some c := ⟨_, List.getElem?_eq_getElem hc''⟩
    have hcd2 := hcs c' c2 hc2
    have hda2 : dAt (cs.map fun c => (c.dx, c.dy)) c' = (c2.dx, c2.dy) := by simp [dAt, List.getD, hc2]
    have hdp := geo_pc (ds := cs.map fun c => (c.dx, c.dy)) (lv := LV) (pr := PR) (c := c') (r := r') ht hto (by rw [hda2]; simp only; omega) (by rw [hda2]; simp only; omega)
    rw [← hG]
    exact Nat.mul_le_mul hdp.2.1 hdp.2.2
  have g1 := compL_len G LY G.nc 65025 hwh
  have hGl : G.lv = LV := by rw [← hG]; rfl
  have hGn : G.nc ≤ 4 := by rw [← hG]; show (cs.map fun c => (c.dx, c.dy)).length ≤ 4; rw [List.length_map]; exact hn4
  rw [compL_all, hGl] at g1
  have g2 : (LV + 1) * (65025 * LY) ≤ 6 * (65025 * 8) := Nat.mul_le_mul (by omega) (Nat.mul_le_mul_left _ hly)
  have g3 : G.nc * ((LV + 1) * (65025 * LY)) ≤ 4 * (6 * (65025 * 8)) := Nat.mul_le_mul hGn g2
  omega
end Go.Proofs.Ytejoedanhonpkaa
