/-
  NARROWER THAN 'FOR EVERY INPUT', by the rows' own cells (each row's printed sentence says how): StatesAll: laid · StatesWays: laid · StatesFall: laid · StatesNone: laid.
  DERIVED. THE GIVEN ROWS OF THIS SEAT. 4 by the template 'for every input the law returns true; each argument reads behind the call as it read before'; 0 by the template 'total and deterministic' (their statements: YtekfgkdihdmhoaaDoorTotals.lean).
  GIVEN WITH THE SEED: the statements are not yours to turn. If you find one false, say at which input.
  Laid BY PROGRAM, IN A SANDBOX (cutbox-rows.mjs): the forced cells as the released guide's own fill.sh prints them over the translation 2043e841aec4b4f0… (all of the seat's roots in one cut). By AI agents, Wed Nov 11 2026. No macro, syntax, notation, axiom, sorry.
-/
import Derived.Test.YtekfgkdihdmhoaaDoorChecked
import GoSem.Claim
import GoSem.ClaimJoined
import GoSem.ClaimMapViews
import Derived.JoinedTies
import Derived.KernelRfl
namespace Go.Proofs.YtekfgkdihdmhoaaDoor
/- THE CELL 'sum', in the pinned program and in every row, IS THE sha256 OF THE DUMP (.gsa) THAT YtekfgkdihdmhoaaDoorProg.lean LOADS. Nothing in Lean hashes anything: it is a label: what it is worth is what the hold of that sum in a sandbox is worth. -/
noncomputable def Tryd.pinned : Pinned := { name := "ytekfgkdihdmhoaadoor", sum := "2043e841aec4b4f05fefc21db80af3636a92d73cce489b9ec74e66174ad482fa", checked := Tryd.checked }
namespace Rows
def none {H : Type} : Left H := { results := [], args := [] }

/- WHAT THE LISTED PACKAGE-LEVEL VARIABLES READ AS WHEN THE CALL BEGINS. Each datum BY PROGRAM (the guide's laid-datum.mjs) off the statement by which the dump's own 'gosem.cut.vars' lays the variable. In a bare row this is a premise. The card (YtekfgkdihdmhoaaDoorCards.lean) ties it to the program's text. -/
def laid_wavelet_states_table {H : Type} : DataW H := .agg [.agg [.lit (.int .i64 22017), .lit (.int .i64 1), .lit (.int .i64 1), .lit (.bool true)], .agg [.lit (.int .i64 13313), .lit (.int .i64 2), .lit (.int .i64 6), .lit (.bool false)], .agg [.lit (.int .i64 6145), .lit (.int .i64 3), .lit (.int .i64 9), .lit (.bool false)], .agg [.lit (.int .i64 2753), .lit (.int .i64 4), .lit (.int .i64 12), .lit (.bool false)], .agg [.lit (.int .i64 1313), .lit (.int .i64 5), .lit (.int .i64 29), .lit (.bool false)], .agg [.lit (.int .i64 545), .lit (.int .i64 38), .lit (.int .i64 33), .lit (.bool false)], .agg [.lit (.int .i64 22017), .lit (.int .i64 7), .lit (.int .i64 6), .lit (.bool true)], .agg [.lit (.int .i64 21505), .lit (.int .i64 8), .lit (.int .i64 14), .lit (.bool false)], .agg [.lit (.int .i64 18433), .lit (.int .i64 9), .lit (.int .i64 14), .lit (.bool false)], .agg [.lit (.int .i64 14337), .lit (.int .i64 10), .lit (.int .i64 14), .lit (.bool false)], .agg [.lit (.int .i64 12289), .lit (.int .i64 11), .lit (.int .i64 17), .lit (.bool false)], .agg [.lit (.int .i64 9217), .lit (.int .i64 12), .lit (.int .i64 18), .lit (.bool false)], .agg [.lit (.int .i64 7169), .lit (.int .i64 13), .lit (.int .i64 20), .lit (.bool false)], .agg [.lit (.int .i64 5633), .lit (.int .i64 29), .lit (.int .i64 21), .lit (.bool false)], .agg [.lit (.int .i64 22017), .lit (.int .i64 15), .lit (.int .i64 14), .lit (.bool true)], .agg [.lit (.int .i64 21505), .lit (.int .i64 16), .lit (.int .i64 14), .lit (.bool false)], .agg [.lit (.int .i64 20737), .lit (.int .i64 17), .lit (.int .i64 15), .lit (.bool false)], .agg [.lit (.int .i64 18433), .lit (.int .i64 18), .lit (.int .i64 16), .lit (.bool false)], .agg [.lit (.int .i64 14337), .lit (.int .i64 19), .lit (.int .i64 17), .lit (.bool false)], .agg [.lit (.int .i64 13313), .lit (.int .i64 20), .lit (.int .i64 18), .lit (.bool false)], .agg [.lit (.int .i64 12289), .lit (.int .i64 21), .lit (.int .i64 19), .lit (.bool false)], .agg [.lit (.int .i64 10241), .lit (.int .i64 22), .lit (.int .i64 19), .lit (.bool false)], .agg [.lit (.int .i64 9217), .lit (.int .i64 23), .lit (.int .i64 20), .lit (.bool false)], .agg [.lit (.int .i64 8705), .lit (.int .i64 24), .lit (.int .i64 21), .lit (.bool false)], .agg [.lit (.int .i64 7169), .lit (.int .i64 25), .lit (.int .i64 22), .lit (.bool false)], .agg [.lit (.int .i64 6145), .lit (.int .i64 26), .lit (.int .i64 23), .lit (.bool false)], .agg [.lit (.int .i64 5633), .lit (.int .i64 27), .lit (.int .i64 24), .lit (.bool false)], .agg [.lit (.int .i64 5121), .lit (.int .i64 28), .lit (.int .i64 25), .lit (.bool false)], .agg [.lit (.int .i64 4609), .lit (.int .i64 29), .lit (.int .i64 26), .lit (.bool false)], .agg [.lit (.int .i64 4353), .lit (.int .i64 30), .lit (.int .i64 27), .lit (.bool false)], .agg [.lit (.int .i64 2753), .lit (.int .i64 31), .lit (.int .i64 28), .lit (.bool false)], .agg [.lit (.int .i64 2497), .lit (.int .i64 32), .lit (.int .i64 29), .lit (.bool false)], .agg [.lit (.int .i64 2209), .lit (.int .i64 33), .lit (.int .i64 30), .lit (.bool false)], .agg [.lit (.int .i64 1313), .lit (.int .i64 34), .lit (.int .i64 31), .lit (.bool false)], .agg [.lit (.int .i64 1089), .lit (.int .i64 35), .lit (.int .i64 32), .lit (.bool false)], .agg [.lit (.int .i64 673), .lit (.int .i64 36), .lit (.int .i64 33), .lit (.bool false)], .agg [.lit (.int .i64 545), .lit (.int .i64 37), .lit (.int .i64 34), .lit (.bool false)], .agg [.lit (.int .i64 321), .lit (.int .i64 38), .lit (.int .i64 35), .lit (.bool false)], .agg [.lit (.int .i64 273), .lit (.int .i64 39), .lit (.int .i64 36), .lit (.bool false)], .agg [.lit (.int .i64 133), .lit (.int .i64 40), .lit (.int .i64 37), .lit (.bool false)], .agg [.lit (.int .i64 73), .lit (.int .i64 41), .lit (.int .i64 38), .lit (.bool false)], .agg [.lit (.int .i64 37), .lit (.int .i64 42), .lit (.int .i64 39), .lit (.bool false)], .agg [.lit (.int .i64 21), .lit (.int .i64 43), .lit (.int .i64 40), .lit (.bool false)], .agg [.lit (.int .i64 9), .lit (.int .i64 44), .lit (.int .i64 41), .lit (.bool false)], .agg [.lit (.int .i64 5), .lit (.int .i64 45), .lit (.int .i64 42), .lit (.bool false)], .agg [.lit (.int .i64 1), .lit (.int .i64 45), .lit (.int .i64 43), .lit (.bool false)], .agg [.lit (.int .i64 22017), .lit (.int .i64 46), .lit (.int .i64 46), .lit (.bool false)]]

/-- 'waveletlaw3.StatesAll': WHATEVER THE INPUT: true; the input reads as it did. -/
def statesAllSpec : ChangeSpec := { name := "statesAll", fn := fun _ => fun
  | [d1, d2] => { results := [.lit (.bool true)], args := [d1, d2] }
  | _ => none }
def statesAllRow : OpenClaim := { program := "ytekfgkdihdmhoaadoor", sum := "2043e841aec4b4f05fefc21db80af3636a92d73cce489b9ec74e66174ad482fa", func := "wavelet/waveletlaw3.StatesAll", spec := "statesAll", named := ["wavelet/states.table"], apart := false, laid := [("wavelet/states.table", laid_wavelet_states_table)] }
def StatesAllSaid : Prop := statesAllRow.holds Tryd.pinned (OpenSpec.ofChange statesAllSpec)

/-- ITS FALSE NEIGHBOUR: 'it returns false'. Refute it at one input. -/
def statesAllWrong : ChangeSpec := { name := "statesAll", fn := fun _ => fun
  | [d1, d2] => { results := [.lit (.bool false)], args := [d1, d2] }
  | _ => none }
def StatesAllWrongFalsely : Prop := statesAllRow.holds Tryd.pinned (OpenSpec.ofChange statesAllWrong)

/-- 'waveletlaw3.StatesWays': WHATEVER THE INPUT: true; the input reads as it did. -/
def statesWaysSpec : ChangeSpec := { name := "statesWays", fn := fun _ => fun
  | [d1, d2] => { results := [.lit (.bool true)], args := [d1, d2] }
  | _ => none }
def statesWaysRow : OpenClaim := { program := "ytekfgkdihdmhoaadoor", sum := "2043e841aec4b4f05fefc21db80af3636a92d73cce489b9ec74e66174ad482fa", func := "wavelet/waveletlaw3.StatesWays", spec := "statesWays", named := ["wavelet/states.table"], apart := false, laid := [("wavelet/states.table", laid_wavelet_states_table)] }
def StatesWaysSaid : Prop := statesWaysRow.holds Tryd.pinned (OpenSpec.ofChange statesWaysSpec)

/-- ITS FALSE NEIGHBOUR: 'it returns false'. Refute it at one input. -/
def statesWaysWrong : ChangeSpec := { name := "statesWays", fn := fun _ => fun
  | [d1, d2] => { results := [.lit (.bool false)], args := [d1, d2] }
  | _ => none }
def StatesWaysWrongFalsely : Prop := statesWaysRow.holds Tryd.pinned (OpenSpec.ofChange statesWaysWrong)

/-- 'waveletlaw3.StatesFall': WHATEVER THE INPUT: true; the input reads as it did. -/
def statesFallSpec : ChangeSpec := { name := "statesFall", fn := fun _ => fun
  | [d] => { results := [.lit (.bool true)], args := [d] }
  | _ => none }
def statesFallRow : OpenClaim := { program := "ytekfgkdihdmhoaadoor", sum := "2043e841aec4b4f05fefc21db80af3636a92d73cce489b9ec74e66174ad482fa", func := "wavelet/waveletlaw3.StatesFall", spec := "statesFall", named := ["wavelet/states.table"], apart := false, laid := [("wavelet/states.table", laid_wavelet_states_table)] }
def StatesFallSaid : Prop := statesFallRow.holds Tryd.pinned (OpenSpec.ofChange statesFallSpec)

/-- ITS FALSE NEIGHBOUR: 'it returns false'. Refute it at one input. -/
def statesFallWrong : ChangeSpec := { name := "statesFall", fn := fun _ => fun
  | [d] => { results := [.lit (.bool false)], args := [d] }
  | _ => none }
def StatesFallWrongFalsely : Prop := statesFallRow.holds Tryd.pinned (OpenSpec.ofChange statesFallWrong)

/-- 'waveletlaw3.StatesNone': WHATEVER THE INPUT: true; the input reads as it did. -/
def statesNoneSpec : ChangeSpec := { name := "statesNone", fn := fun _ => fun
  | [d1, d2] => { results := [.lit (.bool true)], args := [d1, d2] }
  | _ => none }
def statesNoneRow : OpenClaim := { program := "ytekfgkdihdmhoaadoor", sum := "2043e841aec4b4f05fefc21db80af3636a92d73cce489b9ec74e66174ad482fa", func := "wavelet/waveletlaw3.StatesNone", spec := "statesNone", named := ["wavelet/states.table"], apart := false, laid := [("wavelet/states.table", laid_wavelet_states_table)] }
def StatesNoneSaid : Prop := statesNoneRow.holds Tryd.pinned (OpenSpec.ofChange statesNoneSpec)

/-- ITS FALSE NEIGHBOUR: 'it returns false'. Refute it at one input. -/
def statesNoneWrong : ChangeSpec := { name := "statesNone", fn := fun _ => fun
  | [d1, d2] => { results := [.lit (.bool false)], args := [d1, d2] }
  | _ => none }
def StatesNoneWrongFalsely : Prop := statesNoneRow.holds Tryd.pinned (OpenSpec.ofChange statesNoneWrong)

/- THE SECOND FORM. 'bulk': how many values and letters a reading holds, each counted each time it is reached (what is shared counts as often as it is met; a slice's spare places count too). A statement '..UptoSaid' is the law's where the arguments, and the package variables that the reading takes, are together of bulk at most 1048576: NARROWER than '..Said'. Prove '..Said' where nothing that the law and all that it calls make is longer than what came in: it says more and counts as full. Else prove '..UptoSaid'. A law counts once. -/
mutual
def uptoBulk {H : Type} : DataW H → Nat
  | .lit (.string bytes) => bytes.length + 1
  | .lit _ => 1
  | .nil => 1
  | .ptr d => uptoBulk d + 1
  | .slice elems spare => uptoBulkAll elems + uptoBulkAll spare + 1
  | .agg parts => uptoBulkAll parts + 1
  | .iface _ d => uptoBulk d + 1
  | .map entries => uptoBulkEntries entries + 1
  | .held _ => 1
def uptoBulkAll {H : Type} : List (DataW H) → Nat
  | [] => 0
  | d :: r => uptoBulk d + uptoBulkAll r
def uptoBulkEntries {H : Type} : List (Lit × DataW H) → Nat
  | [] => 0
  | x :: r => uptoBulkEntry x + uptoBulkEntries r
def uptoBulkEntry {H : Type} : Lit × DataW H → Nat
  | (.string bytes, d) => bytes.length + uptoBulk d + 1
  | (_, d) => uptoBulk d + 1
 end
def uptoSmall : (H : Type) → List (DataW H) → Bool := fun _ ds => decide (uptoBulkAll ds ≤ 1048576)
def OpenSpec.upto (s : _root_.Go.ChangeSpec) : _root_.Go.OpenSpec := { _root_.Go.OpenSpec.ofChange s with cond := some uptoSmall }

/-- 'waveletlaw3.StatesAll', WHERE WHAT IT READS IS OF BULK AT MOST 1048576: true; the input reads as it did. -/
def statesAllUptoRow : OpenClaim := { program := "ytekfgkdihdmhoaadoor", sum := "2043e841aec4b4f05fefc21db80af3636a92d73cce489b9ec74e66174ad482fa", func := "wavelet/waveletlaw3.StatesAll", spec := "statesAll", named := ["wavelet/states.table"], apart := false, laid := [("wavelet/states.table", laid_wavelet_states_table)], narrowed := true }
def StatesAllUptoSaid : Prop := statesAllUptoRow.holds Tryd.pinned (OpenSpec.upto statesAllSpec)

/-- 'waveletlaw3.StatesWays', WHERE WHAT IT READS IS OF BULK AT MOST 1048576: true; the input reads as it did. -/
def statesWaysUptoRow : OpenClaim := { program := "ytekfgkdihdmhoaadoor", sum := "2043e841aec4b4f05fefc21db80af3636a92d73cce489b9ec74e66174ad482fa", func := "wavelet/waveletlaw3.StatesWays", spec := "statesWays", named := ["wavelet/states.table"], apart := false, laid := [("wavelet/states.table", laid_wavelet_states_table)], narrowed := true }
def StatesWaysUptoSaid : Prop := statesWaysUptoRow.holds Tryd.pinned (OpenSpec.upto statesWaysSpec)

/-- 'waveletlaw3.StatesFall', WHERE WHAT IT READS IS OF BULK AT MOST 1048576: true; the input reads as it did. -/
def statesFallUptoRow : OpenClaim := { program := "ytekfgkdihdmhoaadoor", sum := "2043e841aec4b4f05fefc21db80af3636a92d73cce489b9ec74e66174ad482fa", func := "wavelet/waveletlaw3.StatesFall", spec := "statesFall", named := ["wavelet/states.table"], apart := false, laid := [("wavelet/states.table", laid_wavelet_states_table)], narrowed := true }
def StatesFallUptoSaid : Prop := statesFallUptoRow.holds Tryd.pinned (OpenSpec.upto statesFallSpec)

/-- 'waveletlaw3.StatesNone', WHERE WHAT IT READS IS OF BULK AT MOST 1048576: true; the input reads as it did. -/
def statesNoneUptoRow : OpenClaim := { program := "ytekfgkdihdmhoaadoor", sum := "2043e841aec4b4f05fefc21db80af3636a92d73cce489b9ec74e66174ad482fa", func := "wavelet/waveletlaw3.StatesNone", spec := "statesNone", named := ["wavelet/states.table"], apart := false, laid := [("wavelet/states.table", laid_wavelet_states_table)], narrowed := true }
def StatesNoneUptoSaid : Prop := statesNoneUptoRow.holds Tryd.pinned (OpenSpec.upto statesNoneSpec)

end Rows
end Go.Proofs.YtekfgkdihdmhoaaDoor
