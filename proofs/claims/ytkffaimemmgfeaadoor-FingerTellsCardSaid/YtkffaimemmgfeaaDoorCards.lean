/-
  DERIVED. GIVEN WITH THE SEED: THE CARDS: each row of YtkffaimemmgfeaaDoorRows.lean that lists a variable, with what it lists TIED to the program's text (the seventh form; the later family's looks); each row that meets fmt, with fmt's text TOLD by the authors' own Lean function (tested against real Go, not proved from fmt's source: count such statements apart). THE CARD IS WHAT COUNTS. Prove the row's statement (the work); the ties are given (YtkffaimemmgfeaaDoorTie.lean); close each card by the builder's one call (the guide's Derived/Test/ToyasCard.lean, 'card_holds'). Laid BY PROGRAM, IN A SANDBOX (cutbox-door.mjs). By AI agents, Wed Nov 11 2026. No macro, syntax, notation, axiom, sorry.
-/
import Derived.Test.YtkffaimemmgfeaaDoorRows
import GoSem.ClaimSeven
namespace Go.Proofs.YtkffaimemmgfeaaDoor
namespace Rows

/-- THE TIED CARD OF 'foghornlaw11.FingerTells'. -/
def fingerTellsCard : Claim7 := { stood := { row := fingerTellsRow, standIns := [], harness := (true, "15f517a25869913ea08d05c75f7d849691efebe7f17b37f4fbfe64178bf8a74e"), looks := false }, kinds := [], alts := [], laidByText := true, laidKinds := [.data, .data, .data], laidTests := true, laidLooks := .later }
def FingerTellsCardSaid : Prop := Claim7.holds Tryd.pinned (.plain (OpenSpec.ofChange fingerTellsSpec)) fingerTellsCard

/-- THE TIED CARD OF 'foghornlaw11.FingerTurns'. -/
def fingerTurnsCard : Claim7 := { stood := { row := fingerTurnsRow, standIns := [], harness := (true, "15f517a25869913ea08d05c75f7d849691efebe7f17b37f4fbfe64178bf8a74e"), looks := false }, kinds := [], alts := [], laidByText := true, laidKinds := [.data, .data, .data], laidTests := true, laidLooks := .later }
def FingerTurnsCardSaid : Prop := Claim7.holds Tryd.pinned (.plain (OpenSpec.ofChange fingerTurnsSpec)) fingerTurnsCard

/-- THE SECOND FORM's CARD OF 'foghornlaw11.FingerTells'. -/
def fingerTellsUptoCard : Claim7 := { stood := { row := fingerTellsUptoRow, standIns := [], harness := (true, "15f517a25869913ea08d05c75f7d849691efebe7f17b37f4fbfe64178bf8a74e"), looks := false }, kinds := [], alts := [], laidByText := true, laidKinds := [.data, .data, .data], laidTests := true, laidLooks := .later }
def FingerTellsUptoCardSaid : Prop := Claim7.holds Tryd.pinned (.plain (OpenSpec.upto fingerTellsSpec)) fingerTellsUptoCard

/-- THE SECOND FORM's CARD OF 'foghornlaw11.FingerTurns'. -/
def fingerTurnsUptoCard : Claim7 := { stood := { row := fingerTurnsUptoRow, standIns := [], harness := (true, "15f517a25869913ea08d05c75f7d849691efebe7f17b37f4fbfe64178bf8a74e"), looks := false }, kinds := [], alts := [], laidByText := true, laidKinds := [.data, .data, .data], laidTests := true, laidLooks := .later }
def FingerTurnsUptoCardSaid : Prop := Claim7.holds Tryd.pinned (.plain (OpenSpec.upto fingerTurnsSpec)) fingerTurnsUptoCard
end Rows
end Go.Proofs.YtkffaimemmgfeaaDoor
