/-
  DERIVED. GIVEN WITH THE SEED: THE CARDS: each row of YtgdohcdlkonhiaaGreatDoorRows.lean that lists a variable, with what it lists TIED to the program's text (the seventh form; the later family's looks); each row that meets fmt, with fmt's text TOLD by the authors' own Lean function (tested against real Go, not proved from fmt's source: count such statements apart). THE CARD IS WHAT COUNTS. Prove the row's statement (the work); the ties are given (YtgdohcdlkonhiaaGreatDoorTie.lean); close each card by the builder's one call (the guide's Derived/Test/ToyasCard.lean, 'card_holds'). Laid BY PROGRAM, IN A SANDBOX (cutbox-door.mjs). By AI agents, Wed Nov 11 2026. No macro, syntax, notation, axiom, sorry.
-/
import Derived.Test.YtgdohcdlkonhiaaGreatDoorRows
import GoSem.ClaimSeven
namespace Go.Proofs.YtgdohcdlkonhiaaGreatDoor
namespace Rows

/-- THE TIED CARD OF 'gleanlaw14.DistGive'. -/
def distGiveCard : Claim7 := { stood := { row := distGiveRow, standIns := [], harness := (true, "ac019be0d2d12f9fe478bc39384a1005794afdeb599309cd4b4a4fd6c7c221c5"), looks := false }, kinds := [], alts := [], laidByText := true, laidKinds := [.data, .data, .data, .data, .pinned], laidTests := true, laidLooks := .later }
def DistGiveCardSaid : Prop := Claim7.holds Tryz.pinned (.plain (OpenSpec.ofChange distGiveSpec)) distGiveCard

/-- THE SECOND FORM's CARD OF 'gleanlaw14.DistGive'. -/
def distGiveUptoCard : Claim7 := { stood := { row := distGiveUptoRow, standIns := [], harness := (true, "ac019be0d2d12f9fe478bc39384a1005794afdeb599309cd4b4a4fd6c7c221c5"), looks := false }, kinds := [], alts := [], laidByText := true, laidKinds := [.data, .data, .data, .data, .pinned], laidTests := true, laidLooks := .later }
def DistGiveUptoCardSaid : Prop := Claim7.holds Tryz.pinned (.plain (OpenSpec.upto distGiveSpec)) distGiveUptoCard
end Rows
end Go.Proofs.YtgdohcdlkonhiaaGreatDoor
