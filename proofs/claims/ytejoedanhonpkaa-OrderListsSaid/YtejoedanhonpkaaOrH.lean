/- Packets in order: what the laws share: rows of keys, a tile of a made picture, the chapter's example. -/
import Derived.Test.YtejoedanhonpkaaOrU
import Derived.Test.YtejoedanhonpkaaCvQ0
set_option linter.unusedVariables false
set_option linter.unusedSimpArgs false
namespace Go.Proofs.Ytejoedanhonpkaa
open Go.RowKit
set_option maxRecDepth 100000
/-- Keys in memory. -/
def KeyR (w : World) (A : Option Addr) (L : List Pk) : Prop := ∀ (i : Nat) (x : Pk), L[i]? = some x → ∃ g o, A = some ⟨g, o, none⟩ ∧ g < w.heap.size ∧
  w.cell? ⟨g, o + i * 4, none⟩ = some (.int .i64 x.ly) ∧ w.cell? ⟨g, o + i * 4 + 1, none⟩ = some (.int .i64 x.rs) ∧ w.cell? ⟨g, o + i * 4 + 2, none⟩ = some (.int .i64 x.cp) ∧ w.cell? ⟨g, o + i * 4 + 3, none⟩ = some (.int .i64 x.pc)
theorem KeyR.below {w w' : World} {A : Option Addr} {L : List Pk} (h : KeyR w A L) (hb : Below w.heap.size w w') : KeyR w' A L := fun i x hx => by
  obtain ⟨g, o, h1, h2, k0, k1, k2, k3⟩ := h i x hx
  exact ⟨g, o, h1, Nat.lt_of_lt_of_le h2 hb.size, (hb.cell (p := ⟨g, _, none⟩) h2).trans k0, (hb.cell (p := ⟨g, _, none⟩) h2).trans k1, (hb.cell (p := ⟨g, _, none⟩) h2).trans k2, (hb.cell (p := ⟨g, _, none⟩) h2).trans k3⟩
theorem flat4 : ∀ (L : List Pk) (i : Nat) (x : Pk), L[i]? = some x → (L.flatMap Pk.key)[i * 4]? = some (.int .i64 x.ly) ∧ (L.flatMap Pk.key)[i * 4 + 1]? = some (.int .i64 x.rs) ∧ (L.flatMap Pk.key)[i * 4 + 2]? = some (.int .i64 x.cp) ∧ (L.flatMap Pk.key)[i * 4 + 3]? = some (.int .i64 x.pc)
  | [], i, x, h => by simp at h
  | y :: l, 0, x, h => by
    simp at h
    subst h
    exact ⟨rfl, rfl, rfl, rfl⟩
  | y :: l, i + 1, x, h => by
    have := flat4 l i x (by simpa using h)
    rw [List.flatMap_cons, Nat.succ_mul]
    obtain ⟨a, b, c, d⟩ := this
    refine ⟨?_, ?_, ?_, ?_⟩ <;> (rw [List.getElem?_append_right (by simp)]; simp only [List.length_cons, List.length_nil])
    · rw [show i * 4 + 4 - 4 = i * 4 by omega]; exact a
    · rw [show i * 4 + 4 + 1 - 4 = i * 4 + 1 by omega]; exact b
    · rw [show i * 4 + 4 + 2 - 4 = i * 4 + 2 by omega]; exact c
    · rw [show i * 4 + 4 + 3 - 4 = i * 4 + 3 by omega]; exact d
theorem own_keyR {w : World} {B c n : Nat} {A : Option Addr} {L : List Pk} (h : w.ownsRow B 42 4 (.slice A n c) n (L.flatMap Pk.key)) (hl : L.length = n) : KeyR w A L := fun i x e => by
  have hi : i < L.length := (List.getElem?_eq_some_iff.1 e).1
  obtain ⟨g, c', hV, _⟩ := own_form h (by omega)
  cases hV
  obtain ⟨k0, k1, k2, k3⟩ := flat4 L i x e
  have f0 := h.cellAt (i * 4) (by omega)
  have f1 := h.cellAt (i * 4 + 1) (by omega)
  have f2 := h.cellAt (i * 4 + 2) (by omega)
  have f3 := h.cellAt (i * 4 + 3) (by omega)
  exact ⟨g, 0, rfl, (own_lt h rfl).2, by simpa using f0.trans k0, by simpa using f1.trans k1, by simpa using f2.trans k2, by simpa using f3.trans k3⟩
theorem cell_heap {w X : World} {b : Nat} {o : Obj} (hw : w.heap[b]? = some o) (hX : X.heap[b]? = some o) (i : Nat) : X.cell? ⟨b, i, none⟩ = w.cell? ⟨b, i, none⟩ := by
  simp [World.cell?, hw, hX]
/-- order.List of a tile of a picture by rows. -/
theorem listP_any {lo : Nat} (o : Nat) (ho : o < 5) (t : Int × Int × Int × Int) (ix iy iox ioy : Int) (A2 : Option Addr) (n C2 : Nat) (cs : List Cp) (tx ty bw bh st : Int) (rc so ep : Bool) (LV PR LY : Nat) (w : World)
    (ht : inN t 255) (hto : Ord4 t) (hcs : ∀ (i : Nat) (c : Cp), cs[i]? = some c → (1 ≤ c.dx ∧ c.dx ≤ 4) ∧ (1 ≤ c.dy ∧ c.dy ≤ 4)) (hn4 : cs.length ≤ 4) (hn1 : 1 ≤ cs.length) (hn : cs.length = n) (hlv : LV ≤ 5) (hpr : 1 ≤ PR ∧ PR ≤ 15) (hly : LY ≤ 8)
    (hcr : CRow lo w (.slice A2 n C2) cs) :
    Calls Try.prog 13 #[rA t, .agg #[.int .i64 ix, .int .i64 iy, .int .i64 iox, .int .i64 ioy, .slice A2 n C2], .agg #[.int .i64 tx, .int .i64 ty, .int .i64 (LV : Int), .int .i64 bw, .int .i64 bh, .int .i64 (PR : Int), .int .i64 st, .int .i64 (o : Int), .int .i64 (LY : Int), .bool rc, .bool so, .bool ep]] w fun e w' =>
      ∃ (M : List Pk) (A : Option Addr) (m c : Nat), e = .returned (.slice A m c) ∧ M.length = m ∧ m ≤ 13000000 ∧ OL (geo t (cs.map fun c => (c.dx, c.dy)) LV PR) LY o M ∧ KeyR w' A M ∧ Below w.heap.size w w' := by
  obtain ⟨c0, hc0⟩ : ∃ c, cs[0]? = some c := ⟨_, List.getElem?_eq_getElem (by omega)⟩
  obtain ⟨g, cap, hV, hg, hgl, hcc, hm, _⟩ := CRow.cells hcr hc0
  injection hV with hA hnn hcap
  subst hA
  obtain ⟨oc, hoc⟩ : ∃ oc, w.heap[g]? = some oc := ⟨_, Array.getElem?_eq_getElem hgl⟩
  obtain ⟨t0, t1, t2, t3⟩ := t
  have hL := list_any o ho t0 t1 t2 t3 ix iy iox ioy g 0 n C2 oc cs tx ty bw bh st rc so ep LV PR LY w ht hto hcs hn4 hn hlv hpr hly hoc (fun X hX i c hc => by
    obtain ⟨g', cap', hV', _, _, _, _, k0, k1, k2, k3, k4⟩ := CRow.cells hcr hc
    injection hV' with hA' _ _
    injection hA' with hA'
    injection hA' with hA'
    subst hA'
    have e := fun k => cell_heap hoc hX k
    rw [Nat.zero_add]
    exact ⟨(e _).trans k0, (e _).trans k1, (e _).trans k2, (e _).trans k3, (e _).trans k4⟩) _ _ _ _ rfl rfl rfl rfl
  refine hL.mono ?_
  rintro e w' ⟨M, A, c, rfl, h1, h2, h3⟩
  refine ⟨M, A, M.length, c, rfl, rfl, ?_, h1, own_keyR h2 rfl, h3⟩
  have h4 := h1.length
  obtain ⟨G, hG⟩ : ∃ G, geo (t0, t1, t2, t3) (cs.map fun c => (c.dx, c.dy)) LV PR = G := ⟨_, rfl⟩
  have h5 := h1.perm.length_eq
  rw [hG] at h5
  have hwh : ∀ c' r', c' < G.nc → G.wh c' r' ≤ 65025 := fun c' r' hc' => by
    have hc'' : c' < cs.length := by rw [← hG] at hc'; have : c' < (cs.map fun c => (c.dx, c.dy)).length := hc'; rwa [List.length_map] at this
    obtain ⟨c2, hc2⟩ : ∃ c, cs[c']? = some c := ⟨_, List.getElem?_eq_getElem hc''⟩
    have hcd2 := hcs c' c2 hc2
    have hda2 : dAt (cs.map fun c => (c.dx, c.dy)) c' = (c2.dx, c2.dy) := by simp [dAt, List.getD, hc2]
    have hdp := geo_pc (ds := cs.map fun c => (c.dx, c.dy)) (lv := LV) (pr := PR) (c := c') (r := r') ht hto (by rw [hda2]; simp only; omega) (by rw [hda2]; simp only; omega)
    rw [← hG]
    exact Nat.mul_le_mul hdp.2.1 hdp.2.2
  have g1 := compL_len G LY G.nc 65025 hwh
  have hGl : G.lv = LV := by rw [← hG]; rfl
  have hGn : G.nc ≤ 4 := by rw [← hG]; show (cs.map fun c => (c.dx, c.dy)).length ≤ 4; rw [List.length_map]; exact hn4
  rw [compL_all, hGl] at g1
  have g2 : (LV + 1) * (65025 * LY) ≤ 6 * (65025 * 8) := Nat.mul_le_mul (by omega) (Nat.mul_le_mul_left _ hly)
  have g3 : G.nc * ((LV + 1) * (65025 * LY)) ≤ 4 * (6 * (65025 * 8)) := Nat.mul_le_mul hGn g2
  omega
/-- A tile's rectangle. -/
theorem tile_in {X Y OX OY TX TY : Int} {wd ht : Nat} (hx : 0 ≤ OX ∧ OX < X ∧ X ≤ 64) (hy : 0 ≤ OY ∧ OY < Y ∧ Y ≤ 64) (htx : OX < TX) (hty : OY < TY) (hwd : ceilF X TX = (wd : Int)) (hht : ceilF Y TY = (ht : Int)) : ∀ r ∈ rtls X Y OX OY TX TY wd ht, inN r 255 ∧ Ord4 r := by
  intro r hr
  unfold rtls rrow at hr
  simp only [List.mem_flatMap, List.mem_range, List.mem_map] at hr
  obtain ⟨j, hj, i, hi, rfl⟩ := hr
  have lim : ∀ (a b : Int) (k n : Nat), 0 < b → ceilF a b = (n : Int) → k < n → (k : Int) * b < a := fun a b k n hb hc hk => by
    unfold ceilF at hc
    have e1 := Int.mul_ediv_add_emod a b
    have e2 := Int.emod_nonneg a (show b ≠ 0 by omega)
    have hle : (k : Int) * b ≤ (a / b) * b ∨ ((k : Int) < a / b ∧ (k : Int) * b + b ≤ (a / b) * b) := by
      by_cases h : (k : Int) ≤ a / b
      · exact .inl (Int.mul_le_mul_of_nonneg_right h (by omega))
      · split at hc <;> omega
    rw [Int.mul_comm b] at e1
    split at hc
    · rcases hle with h | h
      · omega
      · omega
    · have hk2 : (k : Int) + 1 ≤ a / b := by omega
      have := Int.mul_le_mul_of_nonneg_right hk2 (show 0 ≤ b by omega)
      rw [Int.add_mul, Int.one_mul] at this
      omega
  have l1 := lim X TX i wd (by omega) hwd hi
  have l2 := lim Y TY j ht (by omega) hht hj
  have p1 : 0 ≤ (i : Int) * TX := Int.mul_nonneg (by omega) (by omega)
  have p2 : 0 ≤ (j : Int) * TY := Int.mul_nonneg (by omega) (by omega)
  have q1 : ((i : Int) + 1) * TX = (i : Int) * TX + TX := by rw [Int.add_mul, Int.one_mul]
  have q2 : ((j : Int) + 1) * TY = (j : Int) * TY + TY := by rw [Int.add_mul, Int.one_mul]
  unfold rtl inN Ord4 maxJ minJ
  simp only
  rw [q1, q2]
  generalize (i : Int) * TX = a at *
  generalize (j : Int) * TY = b at *
  refine ⟨⟨?_, ?_, ?_, ?_⟩, ?_, ?_⟩ <;> (repeat' split) <;> omega
end Go.Proofs.Ytejoedanhonpkaa
