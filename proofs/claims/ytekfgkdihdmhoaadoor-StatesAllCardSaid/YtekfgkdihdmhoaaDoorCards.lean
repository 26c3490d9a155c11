/-
  DERIVED. GIVEN WITH THE SEED: THE CARDS: each row of YtekfgkdihdmhoaaDoorRows.lean that lists a variable, with what it lists TIED to the program's text (the seventh form; the later family's looks); each row that meets fmt, with fmt's text TOLD by the authors' own Lean function (tested against real Go, not proved from fmt's source: count such statements apart). THE CARD IS WHAT COUNTS. Prove the row's statement (the work); the ties are given (YtekfgkdihdmhoaaDoorTie.lean); close each card by the builder's one call (the guide's Derived/Test/ToyasCard.lean, 'card_holds'). Laid BY PROGRAM, IN A SANDBOX (cutbox-door.mjs). By AI agents, Wed Nov 11 2026. No macro, syntax, notation, axiom, sorry.
-/
import Derived.Test.YtekfgkdihdmhoaaDoorRows
import GoSem.ClaimSeven
namespace Go.Proofs.YtekfgkdihdmhoaaDoor
namespace Rows

/-- THE TIED CARD OF 'waveletlaw3.StatesAll'. -/
def statesAllCard : Claim7 := { stood := { row := statesAllRow, standIns := [], harness := (true, "632b800c9f37ba2b1cd1868e816a61be1843e25db6d3e66b653e3bc7a1a25c96"), looks := false }, kinds := [], alts := [], laidByText := true, laidKinds := [.data], laidTests := true, laidLooks := .later }
def StatesAllCardSaid : Prop := Claim7.holds Tryd.pinned (.plain (OpenSpec.ofChange statesAllSpec)) statesAllCard

/-- THE TIED CARD OF 'waveletlaw3.StatesWays'. -/
def statesWaysCard : Claim7 := { stood := { row := statesWaysRow, standIns := [], harness := (true, "632b800c9f37ba2b1cd1868e816a61be1843e25db6d3e66b653e3bc7a1a25c96"), looks := false }, kinds := [], alts := [], laidByText := true, laidKinds := [.data], laidTests := true, laidLooks := .later }
def StatesWaysCardSaid : Prop := Claim7.holds Tryd.pinned (.plain (OpenSpec.ofChange statesWaysSpec)) statesWaysCard

/-- THE TIED CARD OF 'waveletlaw3.StatesFall'. -/
def statesFallCard : Claim7 := { stood := { row := statesFallRow, standIns := [], harness := (true, "632b800c9f37ba2b1cd1868e816a61be1843e25db6d3e66b653e3bc7a1a25c96"), looks := false }, kinds := [], alts := [], laidByText := true, laidKinds := [.data], laidTests := true, laidLooks := .later }
def StatesFallCardSaid : Prop := Claim7.holds Tryd.pinned (.plain (OpenSpec.ofChange statesFallSpec)) statesFallCard

/-- THE TIED CARD OF 'waveletlaw3.StatesNone'. -/
def statesNoneCard : Claim7 := { stood := { row := statesNoneRow, standIns := [], harness := (true, "632b800c9f37ba2b1cd1868e816a61be1843e25db6d3e66b653e3bc7a1a25c96"), looks := false }, kinds := [], alts := [], laidByText := true, laidKinds := [.data], laidTests := true, laidLooks := .later }
def StatesNoneCardSaid : Prop := Claim7.holds Tryd.pinned (.plain (OpenSpec.ofChange statesNoneSpec)) statesNoneCard

/-- THE SECOND FORM's CARD OF 'waveletlaw3.StatesAll'. -/
def statesAllUptoCard : Claim7 := { stood := { row := statesAllUptoRow, standIns := [], harness := (true, "632b800c9f37ba2b1cd1868e816a61be1843e25db6d3e66b653e3bc7a1a25c96"), looks := false }, kinds := [], alts := [], laidByText := true, laidKinds := [.data], laidTests := true, laidLooks := .later }
def StatesAllUptoCardSaid : Prop := Claim7.holds Tryd.pinned (.plain (OpenSpec.upto statesAllSpec)) statesAllUptoCard

/-- THE SECOND FORM's CARD OF 'waveletlaw3.StatesWays'. -/
def statesWaysUptoCard : Claim7 := { stood := { row := statesWaysUptoRow, standIns := [], harness := (true, "632b800c9f37ba2b1cd1868e816a61be1843e25db6d3e66b653e3bc7a1a25c96"), looks := false }, kinds := [], alts := [], laidByText := true, laidKinds := [.data], laidTests := true, laidLooks := .later }
def StatesWaysUptoCardSaid : Prop := Claim7.holds Tryd.pinned (.plain (OpenSpec.upto statesWaysSpec)) statesWaysUptoCard

/-- THE SECOND FORM's CARD OF 'waveletlaw3.StatesFall'. -/
def statesFallUptoCard : Claim7 := { stood := { row := statesFallUptoRow, standIns := [], harness := (true, "632b800c9f37ba2b1cd1868e816a61be1843e25db6d3e66b653e3bc7a1a25c96"), looks := false }, kinds := [], alts := [], laidByText := true, laidKinds := [.data], laidTests := true, laidLooks := .later }
def StatesFallUptoCardSaid : Prop := Claim7.holds Tryd.pinned (.plain (OpenSpec.upto statesFallSpec)) statesFallUptoCard

/-- THE SECOND FORM's CARD OF 'waveletlaw3.StatesNone'. -/
def statesNoneUptoCard : Claim7 := { stood := { row := statesNoneUptoRow, standIns := [], harness := (true, "632b800c9f37ba2b1cd1868e816a61be1843e25db6d3e66b653e3bc7a1a25c96"), looks := false }, kinds := [], alts := [], laidByText := true, laidKinds := [.data], laidTests := true, laidLooks := .later }
def StatesNoneUptoCardSaid : Prop := Claim7.holds Tryd.pinned (.plain (OpenSpec.upto statesNoneSpec)) statesNoneUptoCard
end Rows
end Go.Proofs.YtekfgkdihdmhoaaDoor
