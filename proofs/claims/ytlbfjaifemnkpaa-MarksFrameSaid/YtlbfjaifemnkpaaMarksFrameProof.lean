/-
  P1702: a head whose frame may not be is refused as the frame is.
  The proof: the walk stands in YtlbfjaifemnkpaaMkRI; this text is the frame round it, written by program off the guide.
-/
import Derived.Test.YtlbfjaifemnkpaaRows
import Derived.WalkKit
import Derived.ProofKit
import Derived.OpenShut
import Derived.ShutString
import Derived.ChangeOld
import Derived.Below
import Derived.Lib.SmallJoins
import Derived.Test.YtlbfjaifemnkpaaCvFm
import Derived.Test.YtlbfjaifemnkpaaMkRI
namespace Go.Proofs.Ytlbfjaifemnkpaa.marksFrame
open Go.ChangeShapes Go.WideShapes Go.ChangeAt Go.RowKit
open Go.ChangeMaps (open_string shut_string)
open Go.Joins
set_option linter.unusedVariables false

theorem own : ownKnob Try.prog.godebug = none := by kernel_rfl
theorem laidOut : laidOutB Try.prog = true := by kernel_rfl

theorem walk (f0 : FN) (a0 : Option Addr) (len0 cap0 : Nat) (z0 : List Int) (a1 : Int) (w : World) (w0 : IsRow .i64 w a0 len0 cap0 z0) (s0 : -9223372036854775808 ≤ f0.sb ∧ f0.sb ≤ 9223372036854775807) (w1 : (Lit.int .i64 a1).wf = true) :
    Calls Try.prog 9 #[.agg (f0.arr a0 len0 cap0), .int .i64 a1] w fun e w' => e = .returned (.bool true) ∧ Below w.heap.size w w' :=
  walk_marksFrame f0 a0 len0 cap0 z0 a1 w w0 s0 w1

set_option maxRecDepth 100000 in
theorem lifted (os : Os) (started : os.Started) (H : Type) (enc : TypeId × Value → H) :
    ReturnsInHanded {} Try.checked os 9 .any (Rows.marksFrameSpec.pre6 enc Try.prog Try.f9 Rows.marksFrameRow.domain false) (Rows.marksFrameSpec.post enc Try.prog Try.f9 false true false false) := by
  refine returnsInHanded_of_change (C := Try.checked) own started (by kernel_rfl) Try.func9
    (ChangeSpec.witness6 (enc := enc) (C := Try.checked) false ⟨#[], #[.agg #[.int .i64 0, .int .i64 0, .int .i64 0, .int .i64 0, .int .i64 0, .int .i64 0, .int .i64 0, .bool false, .bool false, .bool false, .bool false, .int .i64 0, .int .i64 0, .int .i64 0, .int .i64 0, .int .i64 0, .int .i64 0, .int .i64 0, .int .i64 0, .int .i64 0, .slice none 0 0], .int .i64 0], []⟩ 8 (by kernel_rfl) (by kernel_rfl) (by kernel_rfl) (by kernel_rfl)) ?_
  intro W base args ds gs before hval0 hW hcnd _
  have hval : ∀ (j : Nat) t v, Try.f9.params[j]? = some t → args[j]? = some v → Value.okWide Try.prog W .any base t v := hval0
  have hW' := hW
  obtain ⟨p, q, hA0, hV, rfl, hfz, hnd⟩ := hW
  have hA : DataW.TrodAll enc Try.prog W 0 (fun _ => true) true Try.f9.params.toList args.toList ds p := hA0
  rw [Try.params9] at hA hval
  obtain ⟨v0, vs0, d0, ds0, p0, q0, hargs, rfl, rfl, h0, r0⟩ := trodAll_cons hA
  obtain ⟨v1, vs1, d1, ds1, p1, q1, rfl, rfl, rfl, h1, r1⟩ := trodAll_cons r0
  obtain ⟨rfl, rfl, rfl⟩ := trodAll_nil r1
  obtain rfl : args = #[v0, v1] := by cases args; simp_all
  obtain ⟨rfl, rfl⟩ := trodVars_none hV
  have k0 := h0
  have lt0 : ∀ x ∈ p0, x.block < W.heap.size := by obtain ⟨m, hm⟩ := k0; exact DataW.trod_lt m _ _ _ hm
  obtain ⟨g0_x, g0_y, g0_ox, g0_oy, g0_nc, g0_dp, g0_sb, g0_tx, g0_ty, g0_lv, g0_bw, g0_bh, g0_pr, g0_st, g0_od, g0_ly, g0_sg, g0_rc, g0_so, g0_ep, a0, len0, cap0, z0, rfl, w0, s0⟩ := form_open (hval 0 24 v0 rfl rfl) h0
  obtain ⟨f0, hf0⟩ : ∃ f : FN, f = ⟨g0_x, g0_y, g0_ox, g0_oy, g0_nc, g0_dp, g0_sb, g0_sg, g0_rc, g0_so, g0_ep, g0_tx, g0_ty, g0_lv, g0_bw, g0_bh, g0_pr, g0_st, g0_od, g0_ly⟩ := ⟨_, rfl⟩
  have s0x : -9223372036854775808 ≤ f0.sb ∧ f0.sb ≤ 9223372036854775807 := by rw [hf0]; exact s0
  have ea0 : (.agg (fmA g0_x g0_y g0_ox g0_oy g0_nc g0_dp g0_sb g0_sg g0_rc g0_so g0_ep g0_tx g0_ty g0_lv g0_bw g0_bh g0_pr g0_st g0_od g0_ly a0 len0 cap0) : Value) = .agg (f0.arr a0 len0 cap0) := by rw [hf0]
  obtain ⟨a1, rfl, rfl, rfl, w1⟩ := open_int Try.underlying3 (hval 1 3 v1 rfl rfl) h1
  clear hA0 hval0
  have hcall := walk f0 a0 len0 cap0 z0 a1 W w0 s0x w1
  rw [← ea0] at hcall
  refine hcall.mono fun e W' ⟨he, bel⟩ => ?_
  subst he
  exact ⟨_, rfl, _, _, _, [], _, [], hW', trodAll_mk1 (shut_bool Try.underlying4 _), (trodAll_cons_mk (Below.trod laidOut (by kernel_rfl) (of_decide_eq_true (by kernel_rfl)) k0 bel lt0) (trodAll_cons_mk (shut_int Try.underlying3 w1) trodAll_mk0)), rfl, bel.frame _, fun h => by cases h⟩

theorem over : Rows.marksFrameRow.holds Try.pinned (OpenSpec.ofChange Rows.marksFrameSpec) :=
  OpenClaim.holds_of_wide 9 Try.f9 rfl rfl rfl rfl rfl rfl rfl ⟨rfl, rfl, rfl, rfl, rfl⟩ rfl rfl rfl rfl rfl (by kernel_rfl) Try.func9 (by kernel_rfl)
    (of_decide_eq_true (by kernel_rfl)) (by unfold Func.isWrapper; first | (rw [if_pos (by decide +kernel)]; kernel_rfl) | (rw [if_neg (by decide +kernel)]; exact ⟨rfl, rfl⟩))
    (fun os started H enc _ => lifted os started H enc)

theorem proved : Rows.MarksFrameSaid := over
#print axioms proved
end Go.Proofs.Ytlbfjaifemnkpaa.marksFrame
