/- canvas: rows of rectangles, and rows of numbers, compared by the law. -/
import Derived.Test.YthcpmonahmogaaaCvM4
import Derived.Deep.LoopGhost
set_option linter.unusedVariables false
set_option linter.unusedSimpArgs false
namespace Go.Proofs.Ythcpmonahmogaaa
open Go.RowKit
set_option maxRecDepth 100000
/-- Rectangles in memory, below block B. -/
def RcL (w : World) (B : Nat) (V : Value) (rs : List (Int × Int × Int × Int)) : Prop :=
  ∃ A c, V = .slice A rs.length c ∧ ∀ i r, rs[i]? = some r → ∃ g o, A = some ⟨g, o, none⟩ ∧ g < B ∧ w.cell? ⟨g, o + i * 4, none⟩ = some (.int .i64 r.1) ∧ w.cell? ⟨g, o + i * 4 + 1, none⟩ = some (.int .i64 r.2.1) ∧ w.cell? ⟨g, o + i * 4 + 2, none⟩ = some (.int .i64 r.2.2.1) ∧ w.cell? ⟨g, o + i * 4 + 3, none⟩ = some (.int .i64 r.2.2.2)
theorem RcL.below {w w' : World} {B B' : Nat} {V : Value} {rs : List (Int × Int × Int × Int)} (h : RcL w B V rs) (hb : Below B w w') (hB : B ≤ B') : RcL w' B' V rs := by
  obtain ⟨A, c, rfl, h⟩ := h
  refine ⟨A, c, rfl, fun i r e => ?_⟩
  obtain ⟨g, o, h1, h2, h3, h4, h5, h6⟩ := h i r e
  exact ⟨g, o, h1, Nat.lt_of_lt_of_le h2 hB, (hb.cell (p := ⟨g, _, none⟩) h2).trans h3, (hb.cell (p := ⟨g, _, none⟩) h2).trans h4, (hb.cell (p := ⟨g, _, none⟩) h2).trans h5, (hb.cell (p := ⟨g, _, none⟩) h2).trans h6⟩
theorem flat_recV : ∀ (rs : List (Int × Int × Int × Int)) (i : Nat) (r : Int × Int × Int × Int), rs[i]? = some r → (rs.flatMap recV)[i * 4]? = some (.int .i64 r.1) ∧ (rs.flatMap recV)[i * 4 + 1]? = some (.int .i64 r.2.1) ∧ (rs.flatMap recV)[i * 4 + 2]? = some (.int .i64 r.2.2.1) ∧ (rs.flatMap recV)[i * 4 + 3]? = some (.int .i64 r.2.2.2) := by
  intro rs
  induction rs with
  | nil => intro i r h; simp at h
  | cons x l ih =>
    intro i r h
    cases i with
    | zero =>
      simp at h
      subst h
      exact ⟨rfl, rfl, rfl, rfl⟩
    | succ i =>
      have := ih i r (by simpa using h)
      rw [List.flatMap_cons]
      rw [show (i + 1) * 4 = i * 4 + 4 by omega, show i * 4 + 4 + 1 = (i * 4 + 1) + 4 by omega, show i * 4 + 4 + 2 = (i * 4 + 2) + 4 by omega, show i * 4 + 4 + 3 = (i * 4 + 3) + 4 by omega]
      exact this
theorem RcL.own {w : World} {q m : Nat} {V : Value} {rs : List (Int × Int × Int × Int)} (h : w.ownsRow q 48 4 V m (rs.flatMap recV)) (hm : rs.length = m) : RcL w w.heap.size V rs := by
  obtain ⟨A, c, rfl, _⟩ := own_any h
  refine ⟨A, c, by rw [hm], fun i r e => ?_⟩
  have hi : i < rs.length := (List.getElem?_eq_some_iff.1 e).1
  obtain ⟨g, c', hV, _⟩ := own_form h (by omega)
  cases hV
  obtain ⟨k0, k1, k2, k3⟩ := flat_recV rs i r e
  have f0 := h.cellAt (i * 4) (by omega)
  have f1 := h.cellAt (i * 4 + 1) (by omega)
  have f2 := h.cellAt (i * 4 + 2) (by omega)
  have f3 := h.cellAt (i * 4 + 3) (by omega)
  exact ⟨g, 0, rfl, (own_lt h rfl).2, by simpa using f0.trans k0, by simpa using f1.trans k1, by simpa using f2.trans k2, by simpa using f3.trans k3⟩
set_option maxHeartbeats 4000000 in
theorem rects_any {w : World} {V1 V2 : Value} {rs : List (Int × Int × Int × Int)} (h1 : RcL w w.heap.size V1 rs) (h2 : RcL w w.heap.size V2 rs) (hn : rs.length ≤ 100000) :
    Calls Try.prog 19 #[V1, V2] w fun e w' => e = .returned (.bool true) ∧ Below w.heap.size w w' := by
  obtain ⟨n, hn'⟩ : ∃ n, rs.length = n := ⟨_, rfl⟩
  obtain ⟨A1, c1, rfl, H1⟩ := h1
  obtain ⟨A2, c2, rfl, H2⟩ := h2
  rw [hn'] at hn ⊢
  have HN := Lib.hid hn'
  have H1 := Lib.hid H1
  have H2 := Lib.hid H2
  clear hn'
  go_enter Try.func19, Try.ntmps19
  go_wp2_with fail
  go_loopg [5] n (fun g v wr => ∃ i : Nat, i + g = n ∧ v = .int .i64 (i : Int) ∧ Hid (Below w.heap.size w wr))
  case atStart => exact ⟨0, by omega, rfl, Lib.hid (Below.refl _ _)⟩
  case round =>
    obtain ⟨i, hig, rfl, HB⟩ := hrel
    by_cases hlt : i < n
    · obtain ⟨g1, rfl⟩ : ∃ g1, gk = g1 + 1 := ⟨gk - 1, by omega⟩
      have hil : i < rs.length := by rw [HN.out]; exact hlt
      obtain ⟨r, hr⟩ : ∃ r, rs[i] = r := ⟨_, rfl⟩
      have he : rs[i]? = some r := by rw [List.getElem?_eq_getElem hil, hr]
      obtain ⟨g, o, rfl, hg, q0, q1, q2, q3⟩ := H1.out i r he
      obtain ⟨g', o', rfl, hg', r0, r1, r2, r3⟩ := H2.out i r he
      obtain ⟨a, b, c, d⟩ := r
      have p0 := (HB.out.cell (p := ⟨g, o + i * 4, none⟩) hg).trans q0
      have p1 := (HB.out.cell (p := ⟨g, o + i * 4 + 1, none⟩) hg).trans q1
      have p2 := (HB.out.cell (p := ⟨g, o + i * 4 + 2, none⟩) hg).trans q2
      have p3 := (HB.out.cell (p := ⟨g, o + i * 4 + 3, none⟩) hg).trans q3
      have s0 := (HB.out.cell (p := ⟨g', o' + i * 4, none⟩) hg').trans r0
      have s1 := (HB.out.cell (p := ⟨g', o' + i * 4 + 1, none⟩) hg').trans r1
      have s2 := (HB.out.cell (p := ⟨g', o' + i * 4 + 2, none⟩) hg').trans r2
      have s3 := (HB.out.cell (p := ⟨g', o' + i * 4 + 3, none⟩) hg').trans r3
      simp only at p0 p1 p2 p3 s0 s1 s2 s3
      have hI : (i : Int) < (n : Int) ∧ (0 : Int) ≤ (i : Int) := by omega
      clear q0 q1 q2 q3 r0 r1 r2 r3 hr he hil hg hg'
      go_wp2
      go_quiet (fail)
      have HB2 := Lib.hid (below_drewN HB.out nq)
      clear p0 p1 p2 p3 s0 s1 s2 s3 HB
      go_wp2
      go_roundg g1
      case rel => exact ⟨i + 1, by omega, by go_num, HB2⟩
      case measure => omega
    · obtain rfl : i = n := by omega
      have hnlt : ¬ (i : Int) < (i : Int) := by omega
      go_wp2
      go_ret
      exact ⟨rfl, HB.out⟩
set_option maxHeartbeats 4000000 in
theorem ints_any {w : World} {A1 A2 : Option Addr} {c1 c2 n : Nat} {l : List Int} (h1 : Lst w w.heap.size A1 (l.map (Value.int .i64))) (h2 : Lst w w.heap.size A2 (l.map (Value.int .i64))) (hl : l.length = n) (hn : n ≤ 100000) :
    Calls Try.prog 29 #[.slice A1 n c1, .slice A2 n c2] w fun e w' => e = .returned (.bool true) ∧ Below w.heap.size w w' := by
  have HN := Lib.hid hl
  have H1 := Lib.hid h1
  have H2 := Lib.hid h2
  clear hl h1 h2
  go_enter Try.func29, Try.ntmps29
  go_wp2_with fail
  go_loopg [5] n (fun g v wr => ∃ i : Nat, i + g = n ∧ v = .int .i64 (i : Int) ∧ Hid (Below w.heap.size w wr))
  case atStart => exact ⟨0, by omega, rfl, Lib.hid (Below.refl _ _)⟩
  case round =>
    obtain ⟨i, hig, rfl, HB⟩ := hrel
    by_cases hlt : i < n
    · obtain ⟨g1, rfl⟩ : ∃ g1, gk = g1 + 1 := ⟨gk - 1, by omega⟩
      have hil : i < l.length := by rw [HN.out]; exact hlt
      obtain ⟨r, hr⟩ : ∃ r, l[i] = r := ⟨_, rfl⟩
      have he : (l.map (Value.int .i64))[i]? = some (.int .i64 r) := by rw [List.getElem?_map, List.getElem?_eq_getElem hil, hr]; rfl
      obtain ⟨g, o, rfl, hg, q0⟩ := H1.out i _ he
      obtain ⟨g', o', rfl, hg', r0⟩ := H2.out i _ he
      have p0 := (HB.out.cell (p := ⟨g, o + i, none⟩) hg).trans q0
      have s0 := (HB.out.cell (p := ⟨g', o' + i, none⟩) hg').trans r0
      have hI : (i : Int) < (n : Int) ∧ (0 : Int) ≤ (i : Int) := by omega
      clear q0 r0 hr he hil hg hg'
      go_wp2
      go_quiet (fail)
      have HB2 := Lib.hid (below_drewN HB.out nq)
      clear p0 s0 HB
      go_wp2
      go_roundg g1
      case rel => exact ⟨i + 1, by omega, by go_num, HB2⟩
      case measure => omega
    · obtain rfl : i = n := by omega
      have hnlt : ¬ (i : Int) < (i : Int) := by omega
      go_wp2
      go_ret
      exact ⟨rfl, HB.out⟩
end Go.Proofs.Ythcpmonahmogaaa
