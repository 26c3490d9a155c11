/- marks: components compared. -/
import Derived.Test.YtlbfjaifemnkpaaMkSa
set_option linter.unusedVariables false
set_option linter.unusedSimpArgs false
namespace Go.Proofs.Ytlbfjaifemnkpaa
open Go.RowKit
set_option maxRecDepth 100000
def likeL (cs cs' : List Cp) : Prop := cs.length = cs'.length ∧ ∀ (i : Nat) (c c' : Cp), cs[i]? = some c → cs'[i]? = some c' → likeC c c' = true
/-- A component's cells. -/
theorem CRow.cells {lo : Nat} {w : World} {V : Value} {cs : List Cp} (h : CRow lo w V cs) {i : Nat} {c : Cp} (hc : cs[i]? = some c) : ∃ g cap, V = .slice (some ⟨g, 0, none⟩) cs.length cap ∧ lo ≤ g ∧ g < w.heap.size ∧ cs.length ≤ cap ∧ cap ≤ maxLen ∧
    w.cell? ⟨g, i * 5, none⟩ = some (.int .i64 c.d) ∧ w.cell? ⟨g, i * 5 + 1, none⟩ = some (.bool c.sg) ∧ w.cell? ⟨g, i * 5 + 2, none⟩ = some (.int .i64 c.dx) ∧ w.cell? ⟨g, i * 5 + 3, none⟩ = some (.int .i64 c.dy) ∧ w.cell? ⟨g, i * 5 + 4, none⟩ = some (.slice c.A c.n c.cap) := by
  have hi : i < cs.length := (List.getElem?_eq_some_iff.1 hc).1
  obtain ⟨g, cap, hv, hg, hgl, hcc, hm⟩ := own_form h.own (by omega)
  have flat : ∀ (l : List Cp) (i : Nat) (c : Cp), l[i]? = some c → ∀ k, k < 5 → (l.flatMap cpV)[i * 5 + k]? = (cpV c)[k]? := by
    intro l
    induction l with
    | nil => intro i c hc; simp at hc
    | cons a l ih =>
      intro i c hc k hk
      rw [List.flatMap_cons]
      cases i with
      | zero =>
        simp at hc
        subst hc
        rw [Nat.zero_mul, Nat.zero_add, List.getElem?_append_left (by simp [cpV]; omega)]
      | succ i =>
        rw [List.getElem?_append_right (by simp [cpV]; omega), show (i + 1) * 5 + k - (cpV a).length = i * 5 + k by simp [cpV]; omega]
        exact ih i c (by simpa using hc) k hk
  have fc : ∀ k, k < 5 → w.cell? ⟨g, i * 5 + k, none⟩ = (cpV c)[k]? := fun k hk => by
    rw [← flat cs i c hc k hk]
    have h1 := h.own
    rw [hv] at h1
    exact h1.cellAt _ (by omega)
  exact ⟨g, cap, hv, hg, hgl, hcc, hm, fc 0 (by omega), fc 1 (by omega), fc 2 (by omega), fc 3 (by omega), fc 4 (by omega)⟩
/-- Components that can be read. -/
def CpL (w : World) (V : Value) (cs : List Cp) : Prop := ∀ (i : Nat) (c : Cp), cs[i]? = some c → ∃ g cap, V = .slice (some ⟨g, 0, none⟩) cs.length cap ∧ g < w.heap.size ∧ cs.length ≤ cap ∧ cap ≤ maxLen ∧
    w.cell? ⟨g, i * 5, none⟩ = some (.int .i64 c.d) ∧ w.cell? ⟨g, i * 5 + 1, none⟩ = some (.bool c.sg) ∧ w.cell? ⟨g, i * 5 + 2, none⟩ = some (.int .i64 c.dx) ∧ w.cell? ⟨g, i * 5 + 3, none⟩ = some (.int .i64 c.dy) ∧ w.cell? ⟨g, i * 5 + 4, none⟩ = some (.slice c.A c.n c.cap)
theorem CRow.cpl {lo : Nat} {w : World} {V : Value} {cs : List Cp} (h : CRow lo w V cs) : CpL w V cs := fun i c hc => by
  obtain ⟨g, cap, h1, _, h2, h3, h4, h5⟩ := h.cells hc
  exact ⟨g, cap, h1, h2, h3, h4, h5⟩
theorem CpL.keep {w w' : World} {g n cap : Nat} {cs : List Cp} (h : CpL w (.slice (some ⟨g, 0, none⟩) n cap) cs) (hs : w.heap.size ≤ w'.heap.size) (hk : g < w.heap.size → w'.heap[g]? = w.heap[g]?) : CpL w' (.slice (some ⟨g, 0, none⟩) n cap) cs := fun i c hc => by
  obtain ⟨g', cap', h1, h2, h3, h4, h5, h6, h7, h8, h9⟩ := h i c hc
  injection h1 with a1 a2 a3
  injection a1 with a1
  injection a1 with a1
  subst a1 a3
  have e := hk h2
  have ce : ∀ k, w'.cell? ⟨g, k, none⟩ = w.cell? ⟨g, k, none⟩ := fun k => by simp [World.cell?, e]
  exact ⟨g, cap, by rw [a2], Nat.lt_of_lt_of_le h2 hs, h3, h4, (ce _).trans h5, (ce _).trans h6, (ce _).trans h7, (ce _).trans h8, (ce _).trans h9⟩
theorem CpL.below {w w' : World} {V : Value} {cs : List Cp} (h : CpL w V cs) (hb : Below w.heap.size w w') : CpL w' V cs := fun i c hc => by
  obtain ⟨g, cap, h1, h2, h3, h4, h5, h6, h7, h8, h9⟩ := h i c hc
  exact ⟨g, cap, h1, Nat.lt_of_lt_of_le h2 hb.size, h3, h4, (hb.cell (p := ⟨g, _, none⟩) h2).trans h5, (hb.cell (p := ⟨g, _, none⟩) h2).trans h6, (hb.cell (p := ⟨g, _, none⟩) h2).trans h7, (hb.cell (p := ⟨g, _, none⟩) h2).trans h8, (hb.cell (p := ⟨g, _, none⟩) h2).trans h9⟩
set_option maxHeartbeats 8000000 in
theorem eqf_any (A A' : Option Addr) (c c' : Nat) (cs cs' : List Cp) (w : World) (h1 : CpL w (.slice A cs.length c) cs) (h2 : CpL w (.slice A' cs'.length c') cs') (hn : cs.length ≤ 4) (hn' : cs'.length ≤ 4) :
    Calls Try.prog 38 #[.slice A cs.length c, .slice A' cs'.length c', .func (Fn.func 37) #[] #[]] w fun e w' => ∃ b, e = .returned (.bool b) ∧ (b = true ↔ likeL cs cs') ∧ Below w.heap.size w w' := by
  obtain ⟨m, hm⟩ : ∃ m, cs.length = m := ⟨_, rfl⟩
  obtain ⟨m', hm'⟩ : ∃ m', cs'.length = m' := ⟨_, rfl⟩
  rw [hm] at h1 hn ⊢
  rw [hm'] at h2 hn' ⊢
  have H1 := Lib.hid h1
  have H2 := Lib.hid h2
  have HM := Lib.hid hm
  have HM' := Lib.hid hm'
  clear h1 h2 hm hm'
  by_cases hne : m = m'
  · subst hne
    go_enter Try.func38, Try.ntmps38
    go_wp2_with fail
    go_loopw [17] (fun i wr => ∃ k : Nat, k ≤ m ∧ i = .int .i64 k ∧ Hid (Below w.heap.size w wr ∧ ∀ (j : Nat) (c c' : Cp), j < k → cs[j]? = some c → cs'[j]? = some c' → likeC c c' = true)) (fun i _ => m - (intOf i).toNat)
    case atStart => exact ⟨0, by omega, rfl, Lib.hid ⟨Below.refl _ _, fun j _ _ hj => by omega⟩⟩
    case round =>
      obtain ⟨k, k0, rfl, HK⟩ := hrel
      by_cases hk : k < m
      · obtain ⟨x, hx⟩ : ∃ x, cs[k]? = some x := ⟨_, List.getElem?_eq_getElem (by rw [HM.out]; exact hk)⟩
        obtain ⟨y, hy⟩ : ∃ y, cs'[k]? = some y := ⟨_, List.getElem?_eq_getElem (by rw [HM'.out]; exact hk)⟩
        obtain ⟨g, cap, hv, hg1, hc1, hc2, a0, a1, a2, a3, a4⟩ := (H1.out.below (HK.out.1)) _ _ hx
        obtain ⟨g', cap', hv', hg1', hc1', hc2', b0, b1, b2, b3, b4⟩ := (H2.out.below (HK.out.1)) _ _ hy
        injection hv with hv1 hv2 hv3
        injection hv' with hv1' hv2' hv3'
        subst hv1 hv1'
        have HX := Lib.hid (And.intro hx hy)
        clear hx hy hv2 hv3 hv2' hv3' H1 H2
        obtain ⟨L, hL⟩ : ∃ L, likeC x y = L := ⟨_, rfl⟩
        have HL := Lib.hid hL
        clear hL
        have HA : Hid (∀ (o o' : Obj) (w2 : World), Below ((wr.alloc o).alloc o').heap.size ((wr.alloc o).alloc o') w2 → Below w.heap.size w w2) := Lib.hid fun o o' w2 hb => by
          have h1 := HK.out.1
          have h2 : Below w.heap.size w ((wr.alloc o).alloc o') := (h1.alloc h1.size o).alloc (Nat.le_trans h1.size (by unfold World.alloc; simp)) o'
          exact h2.trans (hb.mono h2.size)
        go_wp2_with fail
        refine (alike_fn x y _).mono ?_
        rintro e w2 ⟨he, hb2⟩
        rw [HL.out] at he
        subst he
        have HB2 := Lib.hid (HA.out _ _ _ hb2)
        clear hb2 HA
        cases L
        · go_wp2
          go_ret
          exact ⟨false, rfl, ⟨fun h => (by cases h), fun h => absurd (h.2 k x y HX.out.1 HX.out.2) (by rw [HL.out]; decide)⟩, HB2.out⟩
        · go_wp2
          go_roundw
          case rel => exact ⟨k + 1, by omega, by go_num, Lib.hid ⟨HB2.out, fun j c c' hj h1 h2 => by
            rcases Nat.lt_or_ge j k with h | h
            · exact HK.out.2 j c c' h h1 h2
            · obtain rfl : j = k := by omega
              have e1 := h1.symm.trans HX.out.1
              have e2 := h2.symm.trans HX.out.2
              injection e1 with e1
              injection e2 with e2
              rw [e1, e2]; exact HL.out⟩⟩
          case measure => simp [intOf]; omega
      · obtain rfl : k = m := by omega
        go_wp2
        go_ret
        exact ⟨true, rfl, ⟨fun _ => ⟨HM.out.trans HM'.out.symm, fun i c c' h1 h2 => HK.out.2 i c c' (by have := (List.getElem?_eq_some_iff.1 h1).1; rw [HM.out] at this; exact this) h1 h2⟩, fun _ => rfl⟩, HK.out.1⟩
  · go_enter Try.func38, Try.ntmps38
    have hne2 : ¬ ((m : Int) = (m' : Int)) := by omega
    go_wp2_with fail
    go_ret
    exact ⟨false, rfl, ⟨fun h => (by cases h), fun h => absurd (HM.out.symm.trans (h.1.trans HM'.out)) hne⟩, Below.refl _ _⟩
end Go.Proofs.Ytlbfjaifemnkpaa
