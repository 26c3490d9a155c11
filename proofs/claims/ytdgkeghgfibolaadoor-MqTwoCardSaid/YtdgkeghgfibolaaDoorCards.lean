/-
  DERIVED. GIVEN WITH THE SEED: THE CARDS: each row of YtdgkeghgfibolaaDoorRows.lean that lists a variable, with what it lists TIED to the program's text (the seventh form; the later family's looks); each row that meets fmt, with fmt's text TOLD by the authors' own Lean function (tested against real Go, not proved from fmt's source: count such statements apart). THE CARD IS WHAT COUNTS. Prove the row's statement (the work); the ties are given (YtdgkeghgfibolaaDoorTie.lean); close each card by the builder's one call (the guide's Derived/Test/ToyasCard.lean, 'card_holds'). Laid BY PROGRAM, IN A SANDBOX (cutbox-door.mjs). By AI agents, Wed Nov 11 2026. No macro, syntax, notation, axiom, sorry.
-/
import Derived.Test.YtdgkeghgfibolaaDoorRows
import GoSem.ClaimSeven
namespace Go.Proofs.YtdgkeghgfibolaaDoor
namespace Rows

/-- THE TIED CARD OF 'waveletlaw4.MqEncodes'. -/
def mqEncodesCard : Claim7 := { stood := { row := mqEncodesRow, standIns := [], harness := (true, "4d279cf6f79577e9f1c17fbe1a0398b0689775ce04dc9ecb782afbd4467c7c09"), looks := false }, kinds := [], alts := [], laidByText := true, laidKinds := [.data], laidTests := true, laidLooks := .later }
def MqEncodesCardSaid : Prop := Claim7.holds Tryd.pinned (.plain (OpenSpec.ofChange mqEncodesSpec)) mqEncodesCard

/-- THE TIED CARD OF 'waveletlaw4.MqBack'. -/
def mqBackCard : Claim7 := { stood := { row := mqBackRow, standIns := [], harness := (true, "4d279cf6f79577e9f1c17fbe1a0398b0689775ce04dc9ecb782afbd4467c7c09"), looks := false }, kinds := [], alts := [], laidByText := true, laidKinds := [.data], laidTests := true, laidLooks := .later }
def MqBackCardSaid : Prop := Claim7.holds Tryd.pinned (.plain (OpenSpec.ofChange mqBackSpec)) mqBackCard

/-- THE TIED CARD OF 'waveletlaw4.MqFronts'. -/
def mqFrontsCard : Claim7 := { stood := { row := mqFrontsRow, standIns := [], harness := (true, "4d279cf6f79577e9f1c17fbe1a0398b0689775ce04dc9ecb782afbd4467c7c09"), looks := false }, kinds := [], alts := [], laidByText := true, laidKinds := [.data], laidTests := true, laidLooks := .later }
def MqFrontsCardSaid : Prop := Claim7.holds Tryd.pinned (.plain (OpenSpec.ofChange mqFrontsSpec)) mqFrontsCard

/-- THE TIED CARD OF 'waveletlaw4.MqClean'. -/
def mqCleanCard : Claim7 := { stood := { row := mqCleanRow, standIns := [], harness := (true, "4d279cf6f79577e9f1c17fbe1a0398b0689775ce04dc9ecb782afbd4467c7c09"), looks := false }, kinds := [], alts := [], laidByText := true, laidKinds := [.data], laidTests := true, laidLooks := .later }
def MqCleanCardSaid : Prop := Claim7.holds Tryd.pinned (.plain (OpenSpec.ofChange mqCleanSpec)) mqCleanCard

/-- THE TIED CARD OF 'waveletlaw4.MqStates'. -/
def mqStatesCard : Claim7 := { stood := { row := mqStatesRow, standIns := [], harness := (true, "4d279cf6f79577e9f1c17fbe1a0398b0689775ce04dc9ecb782afbd4467c7c09"), looks := false }, kinds := [], alts := [], laidByText := true, laidKinds := [.data], laidTests := true, laidLooks := .later }
def MqStatesCardSaid : Prop := Claim7.holds Tryd.pinned (.plain (OpenSpec.ofChange mqStatesSpec)) mqStatesCard

/-- THE TIED CARD OF 'waveletlaw4.MqShort'. -/
def mqShortCard : Claim7 := { stood := { row := mqShortRow, standIns := [], harness := (true, "4d279cf6f79577e9f1c17fbe1a0398b0689775ce04dc9ecb782afbd4467c7c09"), looks := false }, kinds := [], alts := [], laidByText := true, laidKinds := [.data], laidTests := true, laidLooks := .later }
def MqShortCardSaid : Prop := Claim7.holds Tryd.pinned (.plain (OpenSpec.ofChange mqShortSpec)) mqShortCard

/-- THE TIED CARD OF 'waveletlaw4.MqUniform'. -/
def mqUniformCard : Claim7 := { stood := { row := mqUniformRow, standIns := [], harness := (true, "4d279cf6f79577e9f1c17fbe1a0398b0689775ce04dc9ecb782afbd4467c7c09"), looks := false }, kinds := [], alts := [], laidByText := true, laidKinds := [.data], laidTests := true, laidLooks := .later }
def MqUniformCardSaid : Prop := Claim7.holds Tryd.pinned (.plain (OpenSpec.ofChange mqUniformSpec)) mqUniformCard

/-- THE TIED CARD OF 'waveletlaw4.MqTwo'. -/
def mqTwoCard : Claim7 := { stood := { row := mqTwoRow, standIns := [], harness := (true, "4d279cf6f79577e9f1c17fbe1a0398b0689775ce04dc9ecb782afbd4467c7c09"), looks := false }, kinds := [], alts := [], laidByText := true, laidKinds := [.data], laidTests := true, laidLooks := .later }
def MqTwoCardSaid : Prop := Claim7.holds Tryd.pinned (.plain (OpenSpec.ofChange mqTwoSpec)) mqTwoCard

/-- THE TIED CARD OF 'waveletlaw4.MqNone'. -/
def mqNoneCard : Claim7 := { stood := { row := mqNoneRow, standIns := [], harness := (true, "4d279cf6f79577e9f1c17fbe1a0398b0689775ce04dc9ecb782afbd4467c7c09"), looks := false }, kinds := [], alts := [], laidByText := true, laidKinds := [.data], laidTests := true, laidLooks := .later }
def MqNoneCardSaid : Prop := Claim7.holds Tryd.pinned (.plain (OpenSpec.ofChange mqNoneSpec)) mqNoneCard

/-- THE TIED CARD OF 'waveletlaw4.MqBehind'. -/
def mqBehindCard : Claim7 := { stood := { row := mqBehindRow, standIns := [], harness := (true, "4d279cf6f79577e9f1c17fbe1a0398b0689775ce04dc9ecb782afbd4467c7c09"), looks := false }, kinds := [], alts := [], laidByText := true, laidKinds := [.data], laidTests := true, laidLooks := .later }
def MqBehindCardSaid : Prop := Claim7.holds Tryd.pinned (.plain (OpenSpec.ofChange mqBehindSpec)) mqBehindCard

/-- THE SECOND FORM's CARD OF 'waveletlaw4.MqEncodes'. -/
def mqEncodesUptoCard : Claim7 := { stood := { row := mqEncodesUptoRow, standIns := [], harness := (true, "4d279cf6f79577e9f1c17fbe1a0398b0689775ce04dc9ecb782afbd4467c7c09"), looks := false }, kinds := [], alts := [], laidByText := true, laidKinds := [.data], laidTests := true, laidLooks := .later }
def MqEncodesUptoCardSaid : Prop := Claim7.holds Tryd.pinned (.plain (OpenSpec.upto mqEncodesSpec)) mqEncodesUptoCard

/-- THE SECOND FORM's CARD OF 'waveletlaw4.MqBack'. -/
def mqBackUptoCard : Claim7 := { stood := { row := mqBackUptoRow, standIns := [], harness := (true, "4d279cf6f79577e9f1c17fbe1a0398b0689775ce04dc9ecb782afbd4467c7c09"), looks := false }, kinds := [], alts := [], laidByText := true, laidKinds := [.data], laidTests := true, laidLooks := .later }
def MqBackUptoCardSaid : Prop := Claim7.holds Tryd.pinned (.plain (OpenSpec.upto mqBackSpec)) mqBackUptoCard

/-- THE SECOND FORM's CARD OF 'waveletlaw4.MqFronts'. -/
def mqFrontsUptoCard : Claim7 := { stood := { row := mqFrontsUptoRow, standIns := [], harness := (true, "4d279cf6f79577e9f1c17fbe1a0398b0689775ce04dc9ecb782afbd4467c7c09"), looks := false }, kinds := [], alts := [], laidByText := true, laidKinds := [.data], laidTests := true, laidLooks := .later }
def MqFrontsUptoCardSaid : Prop := Claim7.holds Tryd.pinned (.plain (OpenSpec.upto mqFrontsSpec)) mqFrontsUptoCard

/-- THE SECOND FORM's CARD OF 'waveletlaw4.MqClean'. -/
def mqCleanUptoCard : Claim7 := { stood := { row := mqCleanUptoRow, standIns := [], harness := (true, "4d279cf6f79577e9f1c17fbe1a0398b0689775ce04dc9ecb782afbd4467c7c09"), looks := false }, kinds := [], alts := [], laidByText := true, laidKinds := [.data], laidTests := true, laidLooks := .later }
def MqCleanUptoCardSaid : Prop := Claim7.holds Tryd.pinned (.plain (OpenSpec.upto mqCleanSpec)) mqCleanUptoCard

/-- THE SECOND FORM's CARD OF 'waveletlaw4.MqStates'. -/
def mqStatesUptoCard : Claim7 := { stood := { row := mqStatesUptoRow, standIns := [], harness := (true, "4d279cf6f79577e9f1c17fbe1a0398b0689775ce04dc9ecb782afbd4467c7c09"), looks := false }, kinds := [], alts := [], laidByText := true, laidKinds := [.data], laidTests := true, laidLooks := .later }
def MqStatesUptoCardSaid : Prop := Claim7.holds Tryd.pinned (.plain (OpenSpec.upto mqStatesSpec)) mqStatesUptoCard

/-- THE SECOND FORM's CARD OF 'waveletlaw4.MqShort'. -/
def mqShortUptoCard : Claim7 := { stood := { row := mqShortUptoRow, standIns := [], harness := (true, "4d279cf6f79577e9f1c17fbe1a0398b0689775ce04dc9ecb782afbd4467c7c09"), looks := false }, kinds := [], alts := [], laidByText := true, laidKinds := [.data], laidTests := true, laidLooks := .later }
def MqShortUptoCardSaid : Prop := Claim7.holds Tryd.pinned (.plain (OpenSpec.upto mqShortSpec)) mqShortUptoCard

/-- THE SECOND FORM's CARD OF 'waveletlaw4.MqUniform'. -/
def mqUniformUptoCard : Claim7 := { stood := { row := mqUniformUptoRow, standIns := [], harness := (true, "4d279cf6f79577e9f1c17fbe1a0398b0689775ce04dc9ecb782afbd4467c7c09"), looks := false }, kinds := [], alts := [], laidByText := true, laidKinds := [.data], laidTests := true, laidLooks := .later }
def MqUniformUptoCardSaid : Prop := Claim7.holds Tryd.pinned (.plain (OpenSpec.upto mqUniformSpec)) mqUniformUptoCard

/-- THE SECOND FORM's CARD OF 'waveletlaw4.MqTwo'. -/
def mqTwoUptoCard : Claim7 := { stood := { row := mqTwoUptoRow, standIns := [], harness := (true, "4d279cf6f79577e9f1c17fbe1a0398b0689775ce04dc9ecb782afbd4467c7c09"), looks := false }, kinds := [], alts := [], laidByText := true, laidKinds := [.data], laidTests := true, laidLooks := .later }
def MqTwoUptoCardSaid : Prop := Claim7.holds Tryd.pinned (.plain (OpenSpec.upto mqTwoSpec)) mqTwoUptoCard

/-- THE SECOND FORM's CARD OF 'waveletlaw4.MqNone'. -/
def mqNoneUptoCard : Claim7 := { stood := { row := mqNoneUptoRow, standIns := [], harness := (true, "4d279cf6f79577e9f1c17fbe1a0398b0689775ce04dc9ecb782afbd4467c7c09"), looks := false }, kinds := [], alts := [], laidByText := true, laidKinds := [.data], laidTests := true, laidLooks := .later }
def MqNoneUptoCardSaid : Prop := Claim7.holds Tryd.pinned (.plain (OpenSpec.upto mqNoneSpec)) mqNoneUptoCard

/-- THE SECOND FORM's CARD OF 'waveletlaw4.MqBehind'. -/
def mqBehindUptoCard : Claim7 := { stood := { row := mqBehindUptoRow, standIns := [], harness := (true, "4d279cf6f79577e9f1c17fbe1a0398b0689775ce04dc9ecb782afbd4467c7c09"), looks := false }, kinds := [], alts := [], laidByText := true, laidKinds := [.data], laidTests := true, laidLooks := .later }
def MqBehindUptoCardSaid : Prop := Claim7.holds Tryd.pinned (.plain (OpenSpec.upto mqBehindSpec)) mqBehindUptoCard
end Rows
end Go.Proofs.YtdgkeghgfibolaaDoor
