/-
  NARROWER THAN 'FOR EVERY INPUT', by the rows' own cells (each row's printed sentence says how): MqEncodes: laid · MqBack: laid · MqFronts: laid · MqClean: laid · MqStates: laid · MqShort: laid · MqUniform: laid · MqTwo: laid · MqNone: laid · MqBehind: laid.
  DERIVED. THE GIVEN ROWS OF THIS SEAT. 10 by the template 'for every input the law returns true; each argument reads behind the call as it read before'; 0 by the template 'total and deterministic' (their statements: YtdgkeghgfibolaaDoorTotals.lean).
  GIVEN WITH THE SEED: the statements are not yours to turn. If you find one false, say at which input.
  Laid BY PROGRAM, IN A SANDBOX (cutbox-rows.mjs): the forced cells as the released guide's own fill.sh prints them over the translation 5a58f794cfbf8941… (all of the seat's roots in one cut). By AI agents, Wed Nov 11 2026. No macro, syntax, notation, axiom, sorry.
-/
import Derived.Test.YtdgkeghgfibolaaDoorChecked
import GoSem.Claim
import GoSem.ClaimJoined
import GoSem.ClaimMapViews
import Derived.JoinedTies
import Derived.KernelRfl
namespace Go.Proofs.YtdgkeghgfibolaaDoor
/- THE CELL 'sum', in the pinned program and in every row, IS THE sha256 OF THE DUMP (.gsa) THAT YtdgkeghgfibolaaDoorProg.lean LOADS. Nothing in Lean hashes anything: it is a label: what it is worth is what the hold of that sum in a sandbox is worth. -/
noncomputable def Tryd.pinned : Pinned := { name := "ytdgkeghgfibolaadoor", sum := "5a58f794cfbf89416ca657bda659515e6f17578936a4ebdf0b9be9f13b969b1c", checked := Tryd.checked }
namespace Rows
def none {H : Type} : Left H := { results := [], args := [] }

/- WHAT THE LISTED PACKAGE-LEVEL VARIABLES READ AS WHEN THE CALL BEGINS. Each datum BY PROGRAM (the guide's laid-datum.mjs) off the statement by which the dump's own 'gosem.cut.vars' lays the variable. In a bare row this is a premise. The card (YtdgkeghgfibolaaDoorCards.lean) ties it to the program's text. -/
def laid_wavelet_states_table {H : Type} : DataW H := .agg [.agg [.lit (.int .i64 22017), .lit (.int .i64 1), .lit (.int .i64 1), .lit (.bool true)], .agg [.lit (.int .i64 13313), .lit (.int .i64 2), .lit (.int .i64 6), .lit (.bool false)], .agg [.lit (.int .i64 6145), .lit (.int .i64 3), .lit (.int .i64 9), .lit (.bool false)], .agg [.lit (.int .i64 2753), .lit (.int .i64 4), .lit (.int .i64 12), .lit (.bool false)], .agg [.lit (.int .i64 1313), .lit (.int .i64 5), .lit (.int .i64 29), .lit (.bool false)], .agg [.lit (.int .i64 545), .lit (.int .i64 38), .lit (.int .i64 33), .lit (.bool false)], .agg [.lit (.int .i64 22017), .lit (.int .i64 7), .lit (.int .i64 6), .lit (.bool true)], .agg [.lit (.int .i64 21505), .lit (.int .i64 8), .lit (.int .i64 14), .lit (.bool false)], .agg [.lit (.int .i64 18433), .lit (.int .i64 9), .lit (.int .i64 14), .lit (.bool false)], .agg [.lit (.int .i64 14337), .lit (.int .i64 10), .lit (.int .i64 14), .lit (.bool false)], .agg [.lit (.int .i64 12289), .lit (.int .i64 11), .lit (.int .i64 17), .lit (.bool false)], .agg [.lit (.int .i64 9217), .lit (.int .i64 12), .lit (.int .i64 18), .lit (.bool false)], .agg [.lit (.int .i64 7169), .lit (.int .i64 13), .lit (.int .i64 20), .lit (.bool false)], .agg [.lit (.int .i64 5633), .lit (.int .i64 29), .lit (.int .i64 21), .lit (.bool false)], .agg [.lit (.int .i64 22017), .lit (.int .i64 15), .lit (.int .i64 14), .lit (.bool true)], .agg [.lit (.int .i64 21505), .lit (.int .i64 16), .lit (.int .i64 14), .lit (.bool false)], .agg [.lit (.int .i64 20737), .lit (.int .i64 17), .lit (.int .i64 15), .lit (.bool false)], .agg [.lit (.int .i64 18433), .lit (.int .i64 18), .lit (.int .i64 16), .lit (.bool false)], .agg [.lit (.int .i64 14337), .lit (.int .i64 19), .lit (.int .i64 17), .lit (.bool false)], .agg [.lit (.int .i64 13313), .lit (.int .i64 20), .lit (.int .i64 18), .lit (.bool false)], .agg [.lit (.int .i64 12289), .lit (.int .i64 21), .lit (.int .i64 19), .lit (.bool false)], .agg [.lit (.int .i64 10241), .lit (.int .i64 22), .lit (.int .i64 19), .lit (.bool false)], .agg [.lit (.int .i64 9217), .lit (.int .i64 23), .lit (.int .i64 20), .lit (.bool false)], .agg [.lit (.int .i64 8705), .lit (.int .i64 24), .lit (.int .i64 21), .lit (.bool false)], .agg [.lit (.int .i64 7169), .lit (.int .i64 25), .lit (.int .i64 22), .lit (.bool false)], .agg [.lit (.int .i64 6145), .lit (.int .i64 26), .lit (.int .i64 23), .lit (.bool false)], .agg [.lit (.int .i64 5633), .lit (.int .i64 27), .lit (.int .i64 24), .lit (.bool false)], .agg [.lit (.int .i64 5121), .lit (.int .i64 28), .lit (.int .i64 25), .lit (.bool false)], .agg [.lit (.int .i64 4609), .lit (.int .i64 29), .lit (.int .i64 26), .lit (.bool false)], .agg [.lit (.int .i64 4353), .lit (.int .i64 30), .lit (.int .i64 27), .lit (.bool false)], .agg [.lit (.int .i64 2753), .lit (.int .i64 31), .lit (.int .i64 28), .lit (.bool false)], .agg [.lit (.int .i64 2497), .lit (.int .i64 32), .lit (.int .i64 29), .lit (.bool false)], .agg [.lit (.int .i64 2209), .lit (.int .i64 33), .lit (.int .i64 30), .lit (.bool false)], .agg [.lit (.int .i64 1313), .lit (.int .i64 34), .lit (.int .i64 31), .lit (.bool false)], .agg [.lit (.int .i64 1089), .lit (.int .i64 35), .lit (.int .i64 32), .lit (.bool false)], .agg [.lit (.int .i64 673), .lit (.int .i64 36), .lit (.int .i64 33), .lit (.bool false)], .agg [.lit (.int .i64 545), .lit (.int .i64 37), .lit (.int .i64 34), .lit (.bool false)], .agg [.lit (.int .i64 321), .lit (.int .i64 38), .lit (.int .i64 35), .lit (.bool false)], .agg [.lit (.int .i64 273), .lit (.int .i64 39), .lit (.int .i64 36), .lit (.bool false)], .agg [.lit (.int .i64 133), .lit (.int .i64 40), .lit (.int .i64 37), .lit (.bool false)], .agg [.lit (.int .i64 73), .lit (.int .i64 41), .lit (.int .i64 38), .lit (.bool false)], .agg [.lit (.int .i64 37), .lit (.int .i64 42), .lit (.int .i64 39), .lit (.bool false)], .agg [.lit (.int .i64 21), .lit (.int .i64 43), .lit (.int .i64 40), .lit (.bool false)], .agg [.lit (.int .i64 9), .lit (.int .i64 44), .lit (.int .i64 41), .lit (.bool false)], .agg [.lit (.int .i64 5), .lit (.int .i64 45), .lit (.int .i64 42), .lit (.bool false)], .agg [.lit (.int .i64 1), .lit (.int .i64 45), .lit (.int .i64 43), .lit (.bool false)], .agg [.lit (.int .i64 22017), .lit (.int .i64 46), .lit (.int .i64 46), .lit (.bool false)]]

/-- 'waveletlaw4.MqEncodes': WHATEVER THE INPUT: true; the input reads as it did. -/
def mqEncodesSpec : ChangeSpec := { name := "mqEncodes", fn := fun _ => fun
  | [d1, d2] => { results := [.lit (.bool true)], args := [d1, d2] }
  | _ => none }
def mqEncodesRow : OpenClaim := { program := "ytdgkeghgfibolaadoor", sum := "5a58f794cfbf89416ca657bda659515e6f17578936a4ebdf0b9be9f13b969b1c", func := "wavelet/waveletlaw4.MqEncodes", spec := "mqEncodes", named := ["wavelet/states.table"], apart := false, laid := [("wavelet/states.table", laid_wavelet_states_table)] }
def MqEncodesSaid : Prop := mqEncodesRow.holds Tryd.pinned (OpenSpec.ofChange mqEncodesSpec)

/-- ITS FALSE NEIGHBOUR: 'it returns false'. Refute it at one input. -/
def mqEncodesWrong : ChangeSpec := { name := "mqEncodes", fn := fun _ => fun
  | [d1, d2] => { results := [.lit (.bool false)], args := [d1, d2] }
  | _ => none }
def MqEncodesWrongFalsely : Prop := mqEncodesRow.holds Tryd.pinned (OpenSpec.ofChange mqEncodesWrong)

/-- 'waveletlaw4.MqBack': WHATEVER THE INPUT: true; the input reads as it did. -/
def mqBackSpec : ChangeSpec := { name := "mqBack", fn := fun _ => fun
  | [d] => { results := [.lit (.bool true)], args := [d] }
  | _ => none }
def mqBackRow : OpenClaim := { program := "ytdgkeghgfibolaadoor", sum := "5a58f794cfbf89416ca657bda659515e6f17578936a4ebdf0b9be9f13b969b1c", func := "wavelet/waveletlaw4.MqBack", spec := "mqBack", named := ["wavelet/states.table"], apart := false, laid := [("wavelet/states.table", laid_wavelet_states_table)] }
def MqBackSaid : Prop := mqBackRow.holds Tryd.pinned (OpenSpec.ofChange mqBackSpec)

/-- ITS FALSE NEIGHBOUR: 'it returns false'. Refute it at one input. -/
def mqBackWrong : ChangeSpec := { name := "mqBack", fn := fun _ => fun
  | [d] => { results := [.lit (.bool false)], args := [d] }
  | _ => none }
def MqBackWrongFalsely : Prop := mqBackRow.holds Tryd.pinned (OpenSpec.ofChange mqBackWrong)

/-- 'waveletlaw4.MqFronts': WHATEVER THE INPUT: true; the input reads as it did. -/
def mqFrontsSpec : ChangeSpec := { name := "mqFronts", fn := fun _ => fun
  | [d1, d2] => { results := [.lit (.bool true)], args := [d1, d2] }
  | _ => none }
def mqFrontsRow : OpenClaim := { program := "ytdgkeghgfibolaadoor", sum := "5a58f794cfbf89416ca657bda659515e6f17578936a4ebdf0b9be9f13b969b1c", func := "wavelet/waveletlaw4.MqFronts", spec := "mqFronts", named := ["wavelet/states.table"], apart := false, laid := [("wavelet/states.table", laid_wavelet_states_table)] }
def MqFrontsSaid : Prop := mqFrontsRow.holds Tryd.pinned (OpenSpec.ofChange mqFrontsSpec)

/-- ITS FALSE NEIGHBOUR: 'it returns false'. Refute it at one input. -/
def mqFrontsWrong : ChangeSpec := { name := "mqFronts", fn := fun _ => fun
  | [d1, d2] => { results := [.lit (.bool false)], args := [d1, d2] }
  | _ => none }
def MqFrontsWrongFalsely : Prop := mqFrontsRow.holds Tryd.pinned (OpenSpec.ofChange mqFrontsWrong)

/-- 'waveletlaw4.MqClean': WHATEVER THE INPUT: true; the input reads as it did. -/
def mqCleanSpec : ChangeSpec := { name := "mqClean", fn := fun _ => fun
  | [d] => { results := [.lit (.bool true)], args := [d] }
  | _ => none }
def mqCleanRow : OpenClaim := { program := "ytdgkeghgfibolaadoor", sum := "5a58f794cfbf89416ca657bda659515e6f17578936a4ebdf0b9be9f13b969b1c", func := "wavelet/waveletlaw4.MqClean", spec := "mqClean", named := ["wavelet/states.table"], apart := false, laid := [("wavelet/states.table", laid_wavelet_states_table)] }
def MqCleanSaid : Prop := mqCleanRow.holds Tryd.pinned (OpenSpec.ofChange mqCleanSpec)

/-- ITS FALSE NEIGHBOUR: 'it returns false'. Refute it at one input. -/
def mqCleanWrong : ChangeSpec := { name := "mqClean", fn := fun _ => fun
  | [d] => { results := [.lit (.bool false)], args := [d] }
  | _ => none }
def MqCleanWrongFalsely : Prop := mqCleanRow.holds Tryd.pinned (OpenSpec.ofChange mqCleanWrong)

/-- 'waveletlaw4.MqStates': WHATEVER THE INPUT: true; the input reads as it did. -/
def mqStatesSpec : ChangeSpec := { name := "mqStates", fn := fun _ => fun
  | [d1, d2, d3] => { results := [.lit (.bool true)], args := [d1, d2, d3] }
  | _ => none }
def mqStatesRow : OpenClaim := { program := "ytdgkeghgfibolaadoor", sum := "5a58f794cfbf89416ca657bda659515e6f17578936a4ebdf0b9be9f13b969b1c", func := "wavelet/waveletlaw4.MqStates", spec := "mqStates", named := ["wavelet/states.table"], apart := false, laid := [("wavelet/states.table", laid_wavelet_states_table)] }
def MqStatesSaid : Prop := mqStatesRow.holds Tryd.pinned (OpenSpec.ofChange mqStatesSpec)

/-- ITS FALSE NEIGHBOUR: 'it returns false'. Refute it at one input. -/
def mqStatesWrong : ChangeSpec := { name := "mqStates", fn := fun _ => fun
  | [d1, d2, d3] => { results := [.lit (.bool false)], args := [d1, d2, d3] }
  | _ => none }
def MqStatesWrongFalsely : Prop := mqStatesRow.holds Tryd.pinned (OpenSpec.ofChange mqStatesWrong)

/-- 'waveletlaw4.MqShort': WHATEVER THE INPUT: true; the input reads as it did. -/
def mqShortSpec : ChangeSpec := { name := "mqShort", fn := fun _ => fun
  | [d1, d2] => { results := [.lit (.bool true)], args := [d1, d2] }
  | _ => none }
def mqShortRow : OpenClaim := { program := "ytdgkeghgfibolaadoor", sum := "5a58f794cfbf89416ca657bda659515e6f17578936a4ebdf0b9be9f13b969b1c", func := "wavelet/waveletlaw4.MqShort", spec := "mqShort", named := ["wavelet/states.table"], apart := false, laid := [("wavelet/states.table", laid_wavelet_states_table)] }
def MqShortSaid : Prop := mqShortRow.holds Tryd.pinned (OpenSpec.ofChange mqShortSpec)

/-- ITS FALSE NEIGHBOUR: 'it returns false'. Refute it at one input. -/
def mqShortWrong : ChangeSpec := { name := "mqShort", fn := fun _ => fun
  | [d1, d2] => { results := [.lit (.bool false)], args := [d1, d2] }
  | _ => none }
def MqShortWrongFalsely : Prop := mqShortRow.holds Tryd.pinned (OpenSpec.ofChange mqShortWrong)

/-- 'waveletlaw4.MqUniform': WHATEVER THE INPUT: true; the input reads as it did. -/
def mqUniformSpec : ChangeSpec := { name := "mqUniform", fn := fun _ => fun
  | [d] => { results := [.lit (.bool true)], args := [d] }
  | _ => none }
def mqUniformRow : OpenClaim := { program := "ytdgkeghgfibolaadoor", sum := "5a58f794cfbf89416ca657bda659515e6f17578936a4ebdf0b9be9f13b969b1c", func := "wavelet/waveletlaw4.MqUniform", spec := "mqUniform", named := ["wavelet/states.table"], apart := false, laid := [("wavelet/states.table", laid_wavelet_states_table)] }
def MqUniformSaid : Prop := mqUniformRow.holds Tryd.pinned (OpenSpec.ofChange mqUniformSpec)

/-- ITS FALSE NEIGHBOUR: 'it returns false'. Refute it at one input. -/
def mqUniformWrong : ChangeSpec := { name := "mqUniform", fn := fun _ => fun
  | [d] => { results := [.lit (.bool false)], args := [d] }
  | _ => none }
def MqUniformWrongFalsely : Prop := mqUniformRow.holds Tryd.pinned (OpenSpec.ofChange mqUniformWrong)

/-- 'waveletlaw4.MqTwo': WHATEVER THE INPUT: true; the input reads as it did. -/
def mqTwoSpec : ChangeSpec := { name := "mqTwo", fn := fun _ => fun
  | [d1, d2] => { results := [.lit (.bool true)], args := [d1, d2] }
  | _ => none }
def mqTwoRow : OpenClaim := { program := "ytdgkeghgfibolaadoor", sum := "5a58f794cfbf89416ca657bda659515e6f17578936a4ebdf0b9be9f13b969b1c", func := "wavelet/waveletlaw4.MqTwo", spec := "mqTwo", named := ["wavelet/states.table"], apart := false, laid := [("wavelet/states.table", laid_wavelet_states_table)] }
def MqTwoSaid : Prop := mqTwoRow.holds Tryd.pinned (OpenSpec.ofChange mqTwoSpec)

/-- ITS FALSE NEIGHBOUR: 'it returns false'. Refute it at one input. -/
def mqTwoWrong : ChangeSpec := { name := "mqTwo", fn := fun _ => fun
  | [d1, d2] => { results := [.lit (.bool false)], args := [d1, d2] }
  | _ => none }
def MqTwoWrongFalsely : Prop := mqTwoRow.holds Tryd.pinned (OpenSpec.ofChange mqTwoWrong)

/-- 'waveletlaw4.MqNone': WHATEVER THE INPUT: true; the input reads as it did. -/
def mqNoneSpec : ChangeSpec := { name := "mqNone", fn := fun _ => fun
  | [d1, d2, d3] => { results := [.lit (.bool true)], args := [d1, d2, d3] }
  | _ => none }
def mqNoneRow : OpenClaim := { program := "ytdgkeghgfibolaadoor", sum := "5a58f794cfbf89416ca657bda659515e6f17578936a4ebdf0b9be9f13b969b1c", func := "wavelet/waveletlaw4.MqNone", spec := "mqNone", named := ["wavelet/states.table"], apart := false, laid := [("wavelet/states.table", laid_wavelet_states_table)] }
def MqNoneSaid : Prop := mqNoneRow.holds Tryd.pinned (OpenSpec.ofChange mqNoneSpec)

/-- ITS FALSE NEIGHBOUR: 'it returns false'. Refute it at one input. -/
def mqNoneWrong : ChangeSpec := { name := "mqNone", fn := fun _ => fun
  | [d1, d2, d3] => { results := [.lit (.bool false)], args := [d1, d2, d3] }
  | _ => none }
def MqNoneWrongFalsely : Prop := mqNoneRow.holds Tryd.pinned (OpenSpec.ofChange mqNoneWrong)

/-- 'waveletlaw4.MqBehind': WHATEVER THE INPUT: true; the input reads as it did. -/
def mqBehindSpec : ChangeSpec := { name := "mqBehind", fn := fun _ => fun
  | [d1, d2, d3] => { results := [.lit (.bool true)], args := [d1, d2, d3] }
  | _ => none }
def mqBehindRow : OpenClaim := { program := "ytdgkeghgfibolaadoor", sum := "5a58f794cfbf89416ca657bda659515e6f17578936a4ebdf0b9be9f13b969b1c", func := "wavelet/waveletlaw4.MqBehind", spec := "mqBehind", named := ["wavelet/states.table"], apart := false, laid := [("wavelet/states.table", laid_wavelet_states_table)] }
def MqBehindSaid : Prop := mqBehindRow.holds Tryd.pinned (OpenSpec.ofChange mqBehindSpec)

/-- ITS FALSE NEIGHBOUR: 'it returns false'. Refute it at one input. -/
def mqBehindWrong : ChangeSpec := { name := "mqBehind", fn := fun _ => fun
  | [d1, d2, d3] => { results := [.lit (.bool false)], args := [d1, d2, d3] }
  | _ => none }
def MqBehindWrongFalsely : Prop := mqBehindRow.holds Tryd.pinned (OpenSpec.ofChange mqBehindWrong)

/- THE SECOND FORM. 'bulk': how many values and letters a reading holds, each counted each time it is reached (what is shared counts as often as it is met; a slice's spare places count too). A statement '..UptoSaid' is the law's where the arguments, and the package variables that the reading takes, are together of bulk at most 1048576: NARROWER than '..Said'. Prove '..Said' where nothing that the law and all that it calls make is longer than what came in: it says more and counts as full. Else prove '..UptoSaid'. A law counts once. -/
mutual
def uptoBulk {H : Type} : DataW H → Nat
  | .lit (.string bytes) => bytes.length + 1
  | .lit _ => 1
  | .nil => 1
  | .ptr d => uptoBulk d + 1
  | .slice elems spare => uptoBulkAll elems + uptoBulkAll spare + 1
  | .agg parts => uptoBulkAll parts + 1
  | .iface _ d => uptoBulk d + 1
  | .map entries => uptoBulkEntries entries + 1
  | .held _ => 1
def uptoBulkAll {H : Type} : List (DataW H) → Nat
  | [] => 0
  | d :: r => uptoBulk d + uptoBulkAll r
def uptoBulkEntries {H : Type} : List (Lit × DataW H) → Nat
  | [] => 0
  | x :: r => uptoBulkEntry x + uptoBulkEntries r
def uptoBulkEntry {H : Type} : Lit × DataW H → Nat
  | (.string bytes, d) => bytes.length + uptoBulk d + 1
  | (_, d) => uptoBulk d + 1
 end
def uptoSmall : (H : Type) → List (DataW H) → Bool := fun _ ds => decide (uptoBulkAll ds ≤ 1048576)
def OpenSpec.upto (s : _root_.Go.ChangeSpec) : _root_.Go.OpenSpec := { _root_.Go.OpenSpec.ofChange s with cond := some uptoSmall }

/-- 'waveletlaw4.MqEncodes', WHERE WHAT IT READS IS OF BULK AT MOST 1048576: true; the input reads as it did. -/
def mqEncodesUptoRow : OpenClaim := { program := "ytdgkeghgfibolaadoor", sum := "5a58f794cfbf89416ca657bda659515e6f17578936a4ebdf0b9be9f13b969b1c", func := "wavelet/waveletlaw4.MqEncodes", spec := "mqEncodes", named := ["wavelet/states.table"], apart := false, laid := [("wavelet/states.table", laid_wavelet_states_table)], narrowed := true }
def MqEncodesUptoSaid : Prop := mqEncodesUptoRow.holds Tryd.pinned (OpenSpec.upto mqEncodesSpec)

/-- 'waveletlaw4.MqBack', WHERE WHAT IT READS IS OF BULK AT MOST 1048576: true; the input reads as it did. -/
def mqBackUptoRow : OpenClaim := { program := "ytdgkeghgfibolaadoor", sum := "5a58f794cfbf89416ca657bda659515e6f17578936a4ebdf0b9be9f13b969b1c", func := "wavelet/waveletlaw4.MqBack", spec := "mqBack", named := ["wavelet/states.table"], apart := false, laid := [("wavelet/states.table", laid_wavelet_states_table)], narrowed := true }
def MqBackUptoSaid : Prop := mqBackUptoRow.holds Tryd.pinned (OpenSpec.upto mqBackSpec)

/-- 'waveletlaw4.MqFronts', WHERE WHAT IT READS IS OF BULK AT MOST 1048576: true; the input reads as it did. -/
def mqFrontsUptoRow : OpenClaim := { program := "ytdgkeghgfibolaadoor", sum := "5a58f794cfbf89416ca657bda659515e6f17578936a4ebdf0b9be9f13b969b1c", func := "wavelet/waveletlaw4.MqFronts", spec := "mqFronts", named := ["wavelet/states.table"], apart := false, laid := [("wavelet/states.table", laid_wavelet_states_table)], narrowed := true }
def MqFrontsUptoSaid : Prop := mqFrontsUptoRow.holds Tryd.pinned (OpenSpec.upto mqFrontsSpec)

/-- 'waveletlaw4.MqClean', WHERE WHAT IT READS IS OF BULK AT MOST 1048576: true; the input reads as it did. -/
def mqCleanUptoRow : OpenClaim := { program := "ytdgkeghgfibolaadoor", sum := "5a58f794cfbf89416ca657bda659515e6f17578936a4ebdf0b9be9f13b969b1c", func := "wavelet/waveletlaw4.MqClean", spec := "mqClean", named := ["wavelet/states.table"], apart := false, laid := [("wavelet/states.table", laid_wavelet_states_table)], narrowed := true }
def MqCleanUptoSaid : Prop := mqCleanUptoRow.holds Tryd.pinned (OpenSpec.upto mqCleanSpec)

/-- 'waveletlaw4.MqStates', WHERE WHAT IT READS IS OF BULK AT MOST 1048576: true; the input reads as it did. -/
def mqStatesUptoRow : OpenClaim := { program := "ytdgkeghgfibolaadoor", sum := "5a58f794cfbf89416ca657bda659515e6f17578936a4ebdf0b9be9f13b969b1c", func := "wavelet/waveletlaw4.MqStates", spec := "mqStates", named := ["wavelet/states.table"], apart := false, laid := [("wavelet/states.table", laid_wavelet_states_table)], narrowed := true }
def MqStatesUptoSaid : Prop := mqStatesUptoRow.holds Tryd.pinned (OpenSpec.upto mqStatesSpec)

/-- 'waveletlaw4.MqShort', WHERE WHAT IT READS IS OF BULK AT MOST 1048576: true; the input reads as it did. -/
def mqShortUptoRow : OpenClaim := { program := "ytdgkeghgfibolaadoor", sum := "5a58f794cfbf89416ca657bda659515e6f17578936a4ebdf0b9be9f13b969b1c", func := "wavelet/waveletlaw4.MqShort", spec := "mqShort", named := ["wavelet/states.table"], apart := false, laid := [("wavelet/states.table", laid_wavelet_states_table)], narrowed := true }
def MqShortUptoSaid : Prop := mqShortUptoRow.holds Tryd.pinned (OpenSpec.upto mqShortSpec)

/-- 'waveletlaw4.MqUniform', WHERE WHAT IT READS IS OF BULK AT MOST 1048576: true; the input reads as it did. -/
def mqUniformUptoRow : OpenClaim := { program := "ytdgkeghgfibolaadoor", sum := "5a58f794cfbf89416ca657bda659515e6f17578936a4ebdf0b9be9f13b969b1c", func := "wavelet/waveletlaw4.MqUniform", spec := "mqUniform", named := ["wavelet/states.table"], apart := false, laid := [("wavelet/states.table", laid_wavelet_states_table)], narrowed := true }
def MqUniformUptoSaid : Prop := mqUniformUptoRow.holds Tryd.pinned (OpenSpec.upto mqUniformSpec)

/-- 'waveletlaw4.MqTwo', WHERE WHAT IT READS IS OF BULK AT MOST 1048576: true; the input reads as it did. -/
def mqTwoUptoRow : OpenClaim := { program := "ytdgkeghgfibolaadoor", sum := "5a58f794cfbf89416ca657bda659515e6f17578936a4ebdf0b9be9f13b969b1c", func := "wavelet/waveletlaw4.MqTwo", spec := "mqTwo", named := ["wavelet/states.table"], apart := false, laid := [("wavelet/states.table", laid_wavelet_states_table)], narrowed := true }
def MqTwoUptoSaid : Prop := mqTwoUptoRow.holds Tryd.pinned (OpenSpec.upto mqTwoSpec)

/-- 'waveletlaw4.MqNone', WHERE WHAT IT READS IS OF BULK AT MOST 1048576: true; the input reads as it did. -/
def mqNoneUptoRow : OpenClaim := { program := "ytdgkeghgfibolaadoor", sum := "5a58f794cfbf89416ca657bda659515e6f17578936a4ebdf0b9be9f13b969b1c", func := "wavelet/waveletlaw4.MqNone", spec := "mqNone", named := ["wavelet/states.table"], apart := false, laid := [("wavelet/states.table", laid_wavelet_states_table)], narrowed := true }
def MqNoneUptoSaid : Prop := mqNoneUptoRow.holds Tryd.pinned (OpenSpec.upto mqNoneSpec)

/-- 'waveletlaw4.MqBehind', WHERE WHAT IT READS IS OF BULK AT MOST 1048576: true; the input reads as it did. -/
def mqBehindUptoRow : OpenClaim := { program := "ytdgkeghgfibolaadoor", sum := "5a58f794cfbf89416ca657bda659515e6f17578936a4ebdf0b9be9f13b969b1c", func := "wavelet/waveletlaw4.MqBehind", spec := "mqBehind", named := ["wavelet/states.table"], apart := false, laid := [("wavelet/states.table", laid_wavelet_states_table)], narrowed := true }
def MqBehindUptoSaid : Prop := mqBehindUptoRow.holds Tryd.pinned (OpenSpec.upto mqBehindSpec)

end Rows
end Go.Proofs.YtdgkeghgfibolaaDoor
