/- A Form that is handed in, opened: its numbers, its row. -/
import Derived.Test.YthcpmonahmogaaaCvN1
import Derived.WalkKit
import Derived.ProofKit
import Derived.OpenShut
import Derived.ChangeOld
import Derived.Lib.SmallJoins
import Derived.Deep.Fields
set_option linter.unusedVariables false
set_option linter.unusedSimpArgs false
namespace Go.Proofs.Ythcpmonahmogaaa
open Go.ChangeShapes Go.WideShapes Go.ChangeAt Go.RowKit Go.Joins Go.Deep
set_option maxRecDepth 100000
theorem list21 {α : Type} (l : List α) (h : l.length = 21) : ∃ c0 c1 c2 c3 c4 c5 c6 c7 c8 c9 c10 c11 c12 c13 c14 c15 c16 c17 c18 c19 c20, l = [c0, c1, c2, c3, c4, c5, c6, c7, c8, c9, c10, c11, c12, c13, c14, c15, c16, c17, c18, c19, c20] := by
  rcases l with _ | ⟨c0, l⟩
  · exact absurd h (by simp)
  rcases l with _ | ⟨c1, l⟩
  · exact absurd h (by simp)
  rcases l with _ | ⟨c2, l⟩
  · exact absurd h (by simp)
  rcases l with _ | ⟨c3, l⟩
  · exact absurd h (by simp)
  rcases l with _ | ⟨c4, l⟩
  · exact absurd h (by simp)
  rcases l with _ | ⟨c5, l⟩
  · exact absurd h (by simp)
  rcases l with _ | ⟨c6, l⟩
  · exact absurd h (by simp)
  rcases l with _ | ⟨c7, l⟩
  · exact absurd h (by simp)
  rcases l with _ | ⟨c8, l⟩
  · exact absurd h (by simp)
  rcases l with _ | ⟨c9, l⟩
  · exact absurd h (by simp)
  rcases l with _ | ⟨c10, l⟩
  · exact absurd h (by simp)
  rcases l with _ | ⟨c11, l⟩
  · exact absurd h (by simp)
  rcases l with _ | ⟨c12, l⟩
  · exact absurd h (by simp)
  rcases l with _ | ⟨c13, l⟩
  · exact absurd h (by simp)
  rcases l with _ | ⟨c14, l⟩
  · exact absurd h (by simp)
  rcases l with _ | ⟨c15, l⟩
  · exact absurd h (by simp)
  rcases l with _ | ⟨c16, l⟩
  · exact absurd h (by simp)
  rcases l with _ | ⟨c17, l⟩
  · exact absurd h (by simp)
  rcases l with _ | ⟨c18, l⟩
  · exact absurd h (by simp)
  rcases l with _ | ⟨c19, l⟩
  · exact absurd h (by simp)
  rcases l with _ | ⟨c20, l⟩
  · exact absurd h (by simp)
  rcases l with _ | ⟨c21, l⟩
  · exact ⟨c0, c1, c2, c3, c4, c5, c6, c7, c8, c9, c10, c11, c12, c13, c14, c15, c16, c17, c18, c19, c20, rfl⟩
  · exact absurd h (by simp)
theorem take_one {α : Type} {l : List α} {i : Nat} {c : α} (h : l[i]? = some c) : (l.drop i).take 1 = [c] := by
  obtain ⟨hi, rfl⟩ := List.getElem?_eq_some_iff.1 h
  rw [List.drop_eq_getElem_cons hi]
  rfl
theorem form_open {H : Type} {enc : TypeId × Value → H} {W : World} {b0 : Nat} {r : Reach} {v : Value} {d : DataW H} {p : List MemPlace} (hv : Value.okWide Try.prog W r b0 29 v) (h : DataW.Trod enc Try.prog W 0 (fun _ => true) true 29 v d p) :
    ∃ (x y ox oy nc dp sb tx ty lv bw bh pr st od ly : Int) (sg rc so ep : Bool) (A : Option Addr) (n c : Nat) (zs : List Int), v = .agg (fmA x y ox oy nc dp sb sg rc so ep tx ty lv bw bh pr st od ly A n c) ∧ IsRow .i64 W A n c zs ∧ -9223372036854775808 ≤ sb ∧ sb ≤ 9223372036854775807 := by
  have hone : oneCellFields Try.prog _ = true := (by kernel_rfl : oneCellFields Try.prog (match Try.prog.underlying 29 with | some (.struct fs) => fs | _ => #[]) = true)
  have hund := Try.underlying29
  rw [hund] at hone
  simp only at hone
  obtain ⟨cs, rfl, hsz⟩ := okWide_struct hund hv
  have hC : Try.prog.cellsOf 29 = 21 := by kernel_rfl
  obtain ⟨fuel, hf⟩ := h
  obtain ⟨xs, n, _, _, hl, hlen, hfd⟩ := DataW.trod_struct hund hf
  obtain ⟨c0, c1, c2, c3, c4, c5, c6, c7, c8, c9, c10, c11, c12, c13, c14, c15, c16, c17, c18, c19, c20, hcs⟩ := list21 cs.toList (by rw [Array.length_toList, hsz, hC])
  have hcs2 : cs = #[c0, c1, c2, c3, c4, c5, c6, c7, c8, c9, c10, c11, c12, c13, c14, c15, c16, c17, c18, c19, c20] := by rw [← Array.toArray_toList (xs := cs), hcs]
  subst hcs2
  clear hcs hv
  have hlen : xs.length = 21 := hlen
  have g : ∀ (i : Nat) (f : Field) (c : Value), _ → ((#[c0, c1, c2, c3, c4, c5, c6, c7, c8, c9, c10, c11, c12, c13, c14, c15, c16, c17, c18, c19, c20] : Array Value).toList)[i]? = some c → ∃ y, DataW.trod enc Try.prog W 0 (fun _ => true) true n f.type [c] = some y := fun i f c hi hc => by
    have h1 := hfd i f hi
    obtain ⟨o, k⟩ := hone_of hone i f hi
    have hi21 : i < 21 := (List.getElem?_eq_some_iff.1 hc).1
    rw [o, k, show ((Value.agg #[c0, c1, c2, c3, c4, c5, c6, c7, c8, c9, c10, c11, c12, c13, c14, c15, c16, c17, c18, c19, c20]).cells.toList) = [c0, c1, c2, c3, c4, c5, c6, c7, c8, c9, c10, c11, c12, c13, c14, c15, c16, c17, c18, c19, c20] from rfl, take_one hc, List.getElem?_eq_getElem (by rw [hlen]; exact hi21)] at h1
    exact ⟨_, h1⟩
  obtain ⟨y0, h0⟩ := g 0 _ c0 rfl rfl
  obtain ⟨x, e0, _, w0⟩ := DataW.trod_int Try.underlying3 h0
  simp only [List.cons.injEq, and_true] at e0
  subst e0
  obtain ⟨y1, h1⟩ := g 1 _ c1 rfl rfl
  obtain ⟨y, e1, _, w1⟩ := DataW.trod_int Try.underlying3 h1
  simp only [List.cons.injEq, and_true] at e1
  subst e1
  obtain ⟨y2, h2⟩ := g 2 _ c2 rfl rfl
  obtain ⟨ox, e2, _, w2⟩ := DataW.trod_int Try.underlying3 h2
  simp only [List.cons.injEq, and_true] at e2
  subst e2
  obtain ⟨y3, h3⟩ := g 3 _ c3 rfl rfl
  obtain ⟨oy, e3, _, w3⟩ := DataW.trod_int Try.underlying3 h3
  simp only [List.cons.injEq, and_true] at e3
  subst e3
  obtain ⟨y4, h4⟩ := g 4 _ c4 rfl rfl
  obtain ⟨nc, e4, _, w4⟩ := DataW.trod_int Try.underlying3 h4
  simp only [List.cons.injEq, and_true] at e4
  subst e4
  obtain ⟨y5, h5⟩ := g 5 _ c5 rfl rfl
  obtain ⟨dp, e5, _, w5⟩ := DataW.trod_int Try.underlying3 h5
  simp only [List.cons.injEq, and_true] at e5
  subst e5
  obtain ⟨y6, h6⟩ := g 6 _ c6 rfl rfl
  obtain ⟨sb, e6, _, w6⟩ := DataW.trod_int Try.underlying3 h6
  simp only [List.cons.injEq, and_true] at e6
  subst e6
  obtain ⟨y7, h7⟩ := g 7 _ c7 rfl rfl
  obtain ⟨sg, e7, _⟩ := DataW.trod_bool Try.underlying4 h7
  simp only [List.cons.injEq, and_true] at e7
  subst e7
  obtain ⟨y8, h8⟩ := g 8 _ c8 rfl rfl
  obtain ⟨rc, e8, _⟩ := DataW.trod_bool Try.underlying4 h8
  simp only [List.cons.injEq, and_true] at e8
  subst e8
  obtain ⟨y9, h9⟩ := g 9 _ c9 rfl rfl
  obtain ⟨so, e9, _⟩ := DataW.trod_bool Try.underlying4 h9
  simp only [List.cons.injEq, and_true] at e9
  subst e9
  obtain ⟨y10, h10⟩ := g 10 _ c10 rfl rfl
  obtain ⟨ep, e10, _⟩ := DataW.trod_bool Try.underlying4 h10
  simp only [List.cons.injEq, and_true] at e10
  subst e10
  obtain ⟨y11, h11⟩ := g 11 _ c11 rfl rfl
  obtain ⟨tx, e11, _, w11⟩ := DataW.trod_int Try.underlying3 h11
  simp only [List.cons.injEq, and_true] at e11
  subst e11
  obtain ⟨y12, h12⟩ := g 12 _ c12 rfl rfl
  obtain ⟨ty, e12, _, w12⟩ := DataW.trod_int Try.underlying3 h12
  simp only [List.cons.injEq, and_true] at e12
  subst e12
  obtain ⟨y13, h13⟩ := g 13 _ c13 rfl rfl
  obtain ⟨lv, e13, _, w13⟩ := DataW.trod_int Try.underlying3 h13
  simp only [List.cons.injEq, and_true] at e13
  subst e13
  obtain ⟨y14, h14⟩ := g 14 _ c14 rfl rfl
  obtain ⟨bw, e14, _, w14⟩ := DataW.trod_int Try.underlying3 h14
  simp only [List.cons.injEq, and_true] at e14
  subst e14
  obtain ⟨y15, h15⟩ := g 15 _ c15 rfl rfl
  obtain ⟨bh, e15, _, w15⟩ := DataW.trod_int Try.underlying3 h15
  simp only [List.cons.injEq, and_true] at e15
  subst e15
  obtain ⟨y16, h16⟩ := g 16 _ c16 rfl rfl
  obtain ⟨pr, e16, _, w16⟩ := DataW.trod_int Try.underlying3 h16
  simp only [List.cons.injEq, and_true] at e16
  subst e16
  obtain ⟨y17, h17⟩ := g 17 _ c17 rfl rfl
  obtain ⟨st, e17, _, w17⟩ := DataW.trod_int Try.underlying3 h17
  simp only [List.cons.injEq, and_true] at e17
  subst e17
  obtain ⟨y18, h18⟩ := g 18 _ c18 rfl rfl
  obtain ⟨od, e18, _, w18⟩ := DataW.trod_int Try.underlying3 h18
  simp only [List.cons.injEq, and_true] at e18
  subst e18
  obtain ⟨y19, h19⟩ := g 19 _ c19 rfl rfl
  obtain ⟨ly, e19, _, w19⟩ := DataW.trod_int Try.underlying3 h19
  simp only [List.cons.injEq, and_true] at e19
  subst e19
  obtain ⟨y20, h20⟩ := g 20 _ c20 rfl rfl
  have hb := bd_i64 w6
  rcases open_ints Try.underlying27 Try.underlying3 (by kernel_rfl) h20 with ⟨hcs, _⟩ | ⟨a, l2, c2, zs, hcs, _, hl2, hm, hz, _, hcell, hwz⟩
  · simp only [List.cons.injEq, and_true] at hcs
    subst hcs
    exact ⟨_, _, _, _, _, _, _, _, _, _, _, _, _, _, _, _, _, _, _, _, none, 0, 0, [], rfl, .inl ⟨rfl, rfl, rfl, rfl⟩, hb.1, hb.2⟩
  · simp only [List.cons.injEq, and_true] at hcs
    subst hcs
    exact ⟨_, _, _, _, _, _, _, _, _, _, _, _, _, _, _, _, _, _, _, _, some a, l2, c2, zs, rfl, .inr ⟨_, rfl, hl2, hm, by simpa using hz, hcell, hwz⟩, hb.1, hb.2⟩
end Go.Proofs.Ythcpmonahmogaaa
