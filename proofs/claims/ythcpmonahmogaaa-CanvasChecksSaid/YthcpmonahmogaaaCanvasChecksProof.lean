/-
  P1201, W4: any picture, any params, and valid ones with one thing turned, are checked as the document says: Check and Frame of package canvas answer as the reference does, at every picture and params, a form, and two numbers that say what is turned.
  The proof: the walk stands in YthcpmonahmogaaaCvLk; this text is the frame round it, written by program off the guide.
-/
import Derived.Test.YthcpmonahmogaaaRows
import Derived.WalkKit
import Derived.ProofKit
import Derived.OpenShut
import Derived.ShutString
import Derived.ChangeOld
import Derived.Below
import Derived.Lib.SmallJoins
import Derived.Test.YthcpmonahmogaaaCvFm
import Derived.Test.YthcpmonahmogaaaCvLk
import Derived.Test.YthcpmonahmogaaaCvIn
namespace Go.Proofs.Ythcpmonahmogaaa.canvasChecks
open Go.ChangeShapes Go.WideShapes Go.ChangeAt Go.RowKit
open Go.ChangeMaps (open_string shut_string)
open Go.Joins
set_option linter.unusedVariables false

theorem own : ownKnob Try.prog.godebug = none := by kernel_rfl
theorem laidOut : laidOutB Try.prog = true := by kernel_rfl

theorem walk (x0 y0 ox0 oy0 : Int) (a0 : Option Addr) (len0 cap0 : Nat) (cs0 : List Cp) (zs0 : Nat → List Int) (tx1 ty1 lv1 bw1 bh1 pr1 st1 od1 ly1 : Int) (rc1 so1 ep1 : Bool) (f2 : FN) (a2 : Option Addr) (len2 cap2 : Nat) (z2 : List Int) (a3 : Int) (a4 : Int) (w : World) (i0 : ImgIn w a0 len0 cap0 cs0 zs0) (w2 : IsRow .i64 w a2 len2 cap2 z2) (s2 : -9223372036854775808 ≤ f2.sb ∧ f2.sb ≤ 9223372036854775807) (w3 : (Lit.int .i64 a3).wf = true) (w4 : (Lit.int .i64 a4).wf = true) :
    Calls Try.prog 3 #[.agg #[.int .i64 x0, .int .i64 y0, .int .i64 ox0, .int .i64 oy0, .slice a0 len0 cap0], .agg #[.int .i64 tx1, .int .i64 ty1, .int .i64 lv1, .int .i64 bw1, .int .i64 bh1, .int .i64 pr1, .int .i64 st1, .int .i64 od1, .int .i64 ly1, .bool rc1, .bool so1, .bool ep1], .agg (f2.arr a2 len2 cap2), .int .i64 a3, .int .i64 a4] w fun e w' => e = .returned (.bool true) ∧ Below w.heap.size w w' :=
  walk_canvasChecks x0 y0 ox0 oy0 a0 len0 cap0 cs0 zs0 tx1 ty1 lv1 bw1 bh1 pr1 st1 od1 ly1 rc1 so1 ep1 f2 a2 len2 cap2 z2 a3 a4 w i0 w2 s2 w3 w4

set_option maxRecDepth 100000 in
theorem lifted (os : Os) (started : os.Started) (H : Type) (enc : TypeId × Value → H) :
    ReturnsInHanded {} Try.checked os 3 .any (Rows.canvasChecksSpec.pre6 enc Try.prog Try.f3 Rows.canvasChecksRow.domain false) (Rows.canvasChecksSpec.post enc Try.prog Try.f3 false true false false) := by
  refine returnsInHanded_of_change (C := Try.checked) own started (by kernel_rfl) Try.func3
    (ChangeSpec.witness6 (enc := enc) (C := Try.checked) false ⟨#[], #[.agg #[.int .i64 0, .int .i64 0, .int .i64 0, .int .i64 0, .slice none 0 0], .agg #[.int .i64 0, .int .i64 0, .int .i64 0, .int .i64 0, .int .i64 0, .int .i64 0, .int .i64 0, .int .i64 0, .int .i64 0, .bool false, .bool false, .bool false], .agg #[.int .i64 0, .int .i64 0, .int .i64 0, .int .i64 0, .int .i64 0, .int .i64 0, .int .i64 0, .bool false, .bool false, .bool false, .bool false, .int .i64 0, .int .i64 0, .int .i64 0, .int .i64 0, .int .i64 0, .int .i64 0, .int .i64 0, .int .i64 0, .int .i64 0, .slice none 0 0], .int .i64 0, .int .i64 0], []⟩ 8 (by kernel_rfl) (by kernel_rfl) (by kernel_rfl) (by kernel_rfl)) ?_
  intro W base args ds gs before hval0 hW hcnd _
  have hval : ∀ (j : Nat) t v, Try.f3.params[j]? = some t → args[j]? = some v → Value.okWide Try.prog W .any base t v := hval0
  have hW' := hW
  obtain ⟨p, q, hA0, hV, rfl, hfz, hnd⟩ := hW
  have hA : DataW.TrodAll enc Try.prog W 0 (fun _ => true) true Try.f3.params.toList args.toList ds p := hA0
  rw [Try.params3] at hA hval
  obtain ⟨v0, vs0, d0, ds0, p0, q0, hargs, rfl, rfl, h0, r0⟩ := trodAll_cons hA
  obtain ⟨v1, vs1, d1, ds1, p1, q1, rfl, rfl, rfl, h1, r1⟩ := trodAll_cons r0
  obtain ⟨v2, vs2, d2, ds2, p2, q2, rfl, rfl, rfl, h2, r2⟩ := trodAll_cons r1
  obtain ⟨v3, vs3, d3, ds3, p3, q3, rfl, rfl, rfl, h3, r3⟩ := trodAll_cons r2
  obtain ⟨v4, vs4, d4, ds4, p4, q4, rfl, rfl, rfl, h4, r4⟩ := trodAll_cons r3
  obtain ⟨rfl, rfl, rfl⟩ := trodAll_nil r4
  obtain rfl : args = #[v0, v1, v2, v3, v4] := by cases args; simp_all
  obtain ⟨rfl, rfl⟩ := trodVars_none hV
  have k0 := h0
  have lt0 : ∀ x ∈ p0, x.block < W.heap.size := by obtain ⟨m, hm⟩ := k0; exact DataW.trod_lt m _ _ _ hm
  obtain ⟨x0, y0, ox0, oy0, a0, len0, cap0, cs0, zs0, rfl, i0⟩ := img_open (hval 0 24 v0 rfl rfl) h0
  have k1 := h1
  have lt1 : ∀ x ∈ p1, x.block < W.heap.size := by obtain ⟨m, hm⟩ := k1; exact DataW.trod_lt m _ _ _ hm
  obtain ⟨tx1, ty1, lv1, bw1, bh1, pr1, st1, od1, ly1, rc1, so1, ep1, rfl⟩ := par_open (hval 1 26 v1 rfl rfl) h1
  have k2 := h2
  have lt2 : ∀ x ∈ p2, x.block < W.heap.size := by obtain ⟨m, hm⟩ := k2; exact DataW.trod_lt m _ _ _ hm
  obtain ⟨g2_x, g2_y, g2_ox, g2_oy, g2_nc, g2_dp, g2_sb, g2_tx, g2_ty, g2_lv, g2_bw, g2_bh, g2_pr, g2_st, g2_od, g2_ly, g2_sg, g2_rc, g2_so, g2_ep, a2, len2, cap2, z2, rfl, w2, s2⟩ := form_open (hval 2 29 v2 rfl rfl) h2
  obtain ⟨f2, hf2⟩ : ∃ f : FN, f = ⟨g2_x, g2_y, g2_ox, g2_oy, g2_nc, g2_dp, g2_sb, g2_sg, g2_rc, g2_so, g2_ep, g2_tx, g2_ty, g2_lv, g2_bw, g2_bh, g2_pr, g2_st, g2_od, g2_ly⟩ := ⟨_, rfl⟩
  have s2x : -9223372036854775808 ≤ f2.sb ∧ f2.sb ≤ 9223372036854775807 := by rw [hf2]; exact s2
  have ea2 : (.agg (fmA g2_x g2_y g2_ox g2_oy g2_nc g2_dp g2_sb g2_sg g2_rc g2_so g2_ep g2_tx g2_ty g2_lv g2_bw g2_bh g2_pr g2_st g2_od g2_ly a2 len2 cap2) : Value) = .agg (f2.arr a2 len2 cap2) := by rw [hf2]
  obtain ⟨a3, rfl, rfl, rfl, w3⟩ := open_int Try.underlying3 (hval 3 3 v3 rfl rfl) h3
  obtain ⟨a4, rfl, rfl, rfl, w4⟩ := open_int Try.underlying3 (hval 4 3 v4 rfl rfl) h4
  clear hA0 hval0
  have hcall := walk x0 y0 ox0 oy0 a0 len0 cap0 cs0 zs0 tx1 ty1 lv1 bw1 bh1 pr1 st1 od1 ly1 rc1 so1 ep1 f2 a2 len2 cap2 z2 a3 a4 W i0 w2 s2x w3 w4
  rw [← ea2] at hcall
  refine hcall.mono fun e W' ⟨he, bel⟩ => ?_
  subst he
  exact ⟨_, rfl, _, _, _, [], _, [], hW', trodAll_mk1 (shut_bool Try.underlying4 _), (trodAll_cons_mk (Below.trod laidOut (by kernel_rfl) (of_decide_eq_true (by kernel_rfl)) k0 bel lt0) (trodAll_cons_mk (Below.trod laidOut (by kernel_rfl) (of_decide_eq_true (by kernel_rfl)) k1 bel lt1) (trodAll_cons_mk (Below.trod laidOut (by kernel_rfl) (of_decide_eq_true (by kernel_rfl)) k2 bel lt2) (trodAll_cons_mk (shut_int Try.underlying3 w3) (trodAll_cons_mk (shut_int Try.underlying3 w4) trodAll_mk0))))), rfl, bel.frame _, fun h => by cases h⟩

theorem over : Rows.canvasChecksRow.holds Try.pinned (OpenSpec.ofChange Rows.canvasChecksSpec) :=
  OpenClaim.holds_of_wide 3 Try.f3 rfl rfl rfl rfl rfl rfl rfl ⟨rfl, rfl, rfl, rfl, rfl⟩ rfl rfl rfl rfl rfl (by kernel_rfl) Try.func3 (by kernel_rfl)
    (of_decide_eq_true (by kernel_rfl)) (by unfold Func.isWrapper; first | (rw [if_pos (by decide +kernel)]; kernel_rfl) | (rw [if_neg (by decide +kernel)]; exact ⟨rfl, rfl⟩))
    (fun os started H enc _ => lifted os started H enc)

theorem proved : Rows.CanvasChecksSaid := over
#print axioms proved
end Go.Proofs.Ythcpmonahmogaaa.canvasChecks
