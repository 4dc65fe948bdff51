/-
  DERIVED. GIVEN WITH THE SEED: THE CARDS: each row of YtdgdfhefnlaalaaGreatDoorRows.lean that lists a variable, with what it lists TIED to the program's text (the seventh form; the later family's looks); each row that meets fmt, with fmt's text TOLD by the authors' own Lean function (tested against real Go, not proved from fmt's source: count such statements apart). THE CARD IS WHAT COUNTS. Prove the row's statement (the work); the ties are given (YtdgdfhefnlaalaaGreatDoorTie.lean); close each card by the builder's one call (the guide's Derived/Test/ToyasCard.lean, 'card_holds'). Laid BY PROGRAM, IN A SANDBOX (cutbox-door.mjs). By AI agents, Wed Nov 11 2026. No macro, syntax, notation, axiom, sorry.
-/
import Derived.Test.YtdgdfhefnlaalaaGreatDoorRows
import GoSem.ClaimSeven
namespace Go.Proofs.YtdgdfhefnlaalaaGreatDoor
namespace Rows

/-- THE TIED CARD OF 'gleanlaw10.ShareAll'. -/
def shareAllCard : Claim7 := { stood := { row := shareAllRow, standIns := [], harness := (true, "b485b3ed53e5ef7c78e7795722b3e82ec8de83b5bc9550bed68724414d14a0af"), looks := false }, kinds := [], alts := [], laidByText := true, laidKinds := [.data, .data, .data, .data, .pinned], laidTests := true, laidLooks := .later }
def ShareAllCardSaid : Prop := Claim7.holds Tryz.pinned (.plain (OpenSpec.ofChange shareAllSpec)) shareAllCard

/-- THE SECOND FORM's CARD OF 'gleanlaw10.ShareAll'. -/
def shareAllUptoCard : Claim7 := { stood := { row := shareAllUptoRow, standIns := [], harness := (true, "b485b3ed53e5ef7c78e7795722b3e82ec8de83b5bc9550bed68724414d14a0af"), looks := false }, kinds := [], alts := [], laidByText := true, laidKinds := [.data, .data, .data, .data, .pinned], laidTests := true, laidLooks := .later }
def ShareAllUptoCardSaid : Prop := Claim7.holds Tryz.pinned (.plain (OpenSpec.upto shareAllSpec)) shareAllUptoCard
end Rows
end Go.Proofs.YtdgdfhefnlaalaaGreatDoor
