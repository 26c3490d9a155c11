/- boxes: two rows of boxes compared. -/
import Derived.Test.YtfjkfajhfnmjjaaBoxL
import Derived.Deep.LoopGhost
set_option linter.unusedVariables false
set_option linter.unusedSimpArgs false
namespace Go.Proofs.Ytfjkfajhfnmjjaa
open Go.RowKit
set_option maxRecDepth 100000
/-- Boxes in memory, to be read: their blocks lie below B. -/
def BxR (w : World) (B : Nat) (V : Value) (bs : List (List Int × List Int)) : Prop :=
  ∃ A c, V = .slice A bs.length c ∧ ∀ i k d, bs[i]? = some (k, d) → ∃ g o va vc, A = some ⟨g, o, none⟩ ∧ g < B ∧ w.cell? ⟨g, o + i * 2, none⟩ = some (.string (strOf k)) ∧ w.cell? ⟨g, o + i * 2 + 1, none⟩ = some (.slice va d.length vc) ∧
    (va = none → d.length = 0 ∧ vc = 0) ∧ d.length ≤ vc ∧ vc ≤ maxLen ∧ Lst w B va (d.map (Value.int .u8))
theorem BxR.below {w w' : World} {B B' : Nat} {V : Value} {bs : List (List Int × List Int)} (h : BxR w B V bs) (hb : Below B w w') (hB : B ≤ B') : BxR w' B' V bs := by
  obtain ⟨A, c, rfl, h⟩ := h
  refine ⟨A, c, rfl, fun i k d e => ?_⟩
  obtain ⟨g, o, va, vc, h1, h2, h3, h4, h5, h6, h7, h8⟩ := h i k d e
  exact ⟨g, o, va, vc, h1, Nat.lt_of_lt_of_le h2 hB, (hb.cell (p := ⟨g, _, none⟩) h2).trans h3, (hb.cell (p := ⟨g, _, none⟩) h2).trans h4, h5, h6, h7, (h8.below hb).more hB⟩
theorem BoxL.rd {w : World} {q : Nat} {V : Value} {bs : List (List Int × List Int)} (h : BoxL w q V bs) : BxR w w.heap.size V bs := by
  obtain ⟨A, c, rfl⟩ := h.len
  refine ⟨A, c, rfl, fun i k d e => ?_⟩
  have hi : i < bs.length := by
    rcases Nat.lt_or_ge i bs.length with h' | h'
    · exact h'
    · rw [List.getElem?_eq_none h'] at e; cases e
  have hx : bs[i] = (k, d) := by rw [List.getElem?_eq_getElem hi] at e; exact Option.some.inj e
  obtain ⟨g, c', va, vc, hV, h1, h2, h3, h4⟩ := h.at hi
  rw [hx] at h2 h3 h4
  simp only at h2 h3 h4
  cases hV
  obtain ⟨A', c'', hv, ha, hb, hc⟩ := own_any h4
  cases hv
  exact ⟨g, 0, va, vc, rfl, h1, by simpa using h2, by simpa using h3, ha, hb, hc, Lst.own h4⟩
set_option maxHeartbeats 4000000 in
theorem same_any {w : World} {V1 V2 : Value} {bs : List (List Int × List Int)} (h1 : BxR w w.heap.size V1 bs) (h2 : BxR w w.heap.size V2 bs) (hn : bs.length ≤ 1000) :
    Calls Try.prog 12 #[V1, V2] w fun e w' => e = .returned (.bool true) ∧ Below w.heap.size w w' := by
  obtain ⟨n, hn'⟩ : ∃ n, bs.length = n := ⟨_, rfl⟩
  obtain ⟨A1, c1, rfl, H1⟩ := h1
  obtain ⟨A2, c2, rfl, H2⟩ := h2
  rw [hn'] at hn ⊢
  have HN := Lib.hid hn'
  have H1 := Lib.hid H1
  have H2 := Lib.hid H2
  clear hn'
  go_enter Try.func12, Try.ntmps12
  go_wp2_with fail
  go_loopg [5] n (fun g v wr => ∃ i : Nat, i + g = n ∧ v = .int .i64 (i : Int) ∧ Below w.heap.size w wr)
  case atStart => exact ⟨0, by omega, rfl, Below.refl _ _⟩
  case round =>
    obtain ⟨i, hig, rfl, hb⟩ := hrel
    have HB := Lib.hid hb
    clear hb
    by_cases hlt : i < n
    · obtain ⟨g1, rfl⟩ : ∃ g1, gk = g1 + 1 := ⟨gk - 1, by omega⟩
      have hil : i < bs.length := by rw [HN.out]; exact hlt
      obtain ⟨kd, hkd⟩ : ∃ kd, bs[i] = kd := ⟨_, rfl⟩
      obtain ⟨k, d⟩ := kd
      have he : bs[i]? = some (k, d) := by rw [List.getElem?_eq_getElem hil, hkd]
      obtain ⟨g, o, va, vc, rfl, hg, q0, q1, q2, q3, q4, q5⟩ := H1.out i k d he
      obtain ⟨g', o', va', vc', rfl, hg', r0, r1, r2, r3, r4, r5⟩ := H2.out i k d he
      have p0 := (HB.out.cell (p := ⟨g, o + i * 2, none⟩) hg).trans q0
      have p1 := (HB.out.cell (p := ⟨g, o + i * 2 + 1, none⟩) hg).trans q1
      have s0 := (HB.out.cell (p := ⟨g', o' + i * 2, none⟩) hg').trans r0
      have s1 := (HB.out.cell (p := ⟨g', o' + i * 2 + 1, none⟩) hg').trans r1
      have l1 := q5.below HB.out
      have l2 := r5.below HB.out
      have cv1 : ∀ m, (convert 24 9 (.slice va d.length vc)).run Try.prog (wr.drewN m) = .ok (.string (strOf d)) (wr.drewN m) := fun m => conv_str rfl (lst_drewN l1 m)
      have cv2 : ∀ m, (convert 24 9 (.slice va' d.length vc')).run Try.prog (wr.drewN m) = .ok (.string (strOf d)) (wr.drewN m) := fun m => conv_str rfl (lst_drewN l2 m)
      generalize strOf d = S at *
      generalize strOf k = T at *
      generalize d.length = m at *
      have hI : (i : Int) < (n : Int) ∧ (0 : Int) ≤ (i : Int) := by omega
      clear q0 q1 q2 q3 q4 q5 r0 r1 r2 r3 r4 r5 l1 l2 hkd he hil hg hg'
      go_wp2
      go_quiet (fail)
      have HB2 := Lib.hid (below_drewN HB.out nq)
      clear cv1 cv2 p0 p1 s0 s1 HB
      go_wp2
      go_roundg g1
      case rel => exact ⟨i + 1, by omega, by go_num, HB2.out⟩
      case measure => omega
    · obtain rfl : i = n := by omega
      have hnlt : ¬ (i : Int) < (i : Int) := by omega
      go_wp2
      go_ret
      exact ⟨rfl, HB.out⟩
end Go.Proofs.Ytfjkfajhfnmjjaa
