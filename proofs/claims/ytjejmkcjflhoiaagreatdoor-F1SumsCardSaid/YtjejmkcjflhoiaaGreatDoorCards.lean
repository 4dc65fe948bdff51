/-
  DERIVED. GIVEN WITH THE SEED: THE CARDS: each row of YtjejmkcjflhoiaaGreatDoorRows.lean that lists a variable, with what it lists TIED to the program's text (the seventh form; the later family's looks); each row that meets fmt, with fmt's text TOLD by the authors' own Lean function (tested against real Go, not proved from fmt's source: count such statements apart). THE CARD IS WHAT COUNTS. Prove the row's statement (the work); the ties are given (YtjejmkcjflhoiaaGreatDoorTie.lean); close each card by the builder's one call (the guide's Derived/Test/ToyasCard.lean, 'card_holds'). Laid BY PROGRAM, IN A SANDBOX (cutbox-door.mjs). By AI agents, Wed Nov 11 2026. No macro, syntax, notation, axiom, sorry.
-/
import Derived.Test.YtjejmkcjflhoiaaGreatDoorRows
import GoSem.ClaimSeven
namespace Go.Proofs.YtjejmkcjflhoiaaGreatDoor
namespace Rows

/-- THE TIED CARD OF 'gleanlaw13.F1Counts'. -/
def f1CountsCard : Claim7 := { stood := { row := f1CountsRow, standIns := [], harness := (true, "7c904ed788cdc60d18d75e1290446bda3be22cb39594cdd8287e93ae20636b6a"), looks := false }, kinds := [], alts := [], laidByText := true, laidKinds := [.data, .data, .data, .data, .pinned], laidTests := true, laidLooks := .later }
def F1CountsCardSaid : Prop := Claim7.holds Tryz.pinned (.plain (OpenSpec.ofChange f1CountsSpec)) f1CountsCard

/-- THE TIED CARD OF 'gleanlaw13.F1Sums'. -/
def f1SumsCard : Claim7 := { stood := { row := f1SumsRow, standIns := [], harness := (true, "7c904ed788cdc60d18d75e1290446bda3be22cb39594cdd8287e93ae20636b6a"), looks := false }, kinds := [], alts := [], laidByText := true, laidKinds := [.data, .data, .data, .data, .pinned], laidTests := true, laidLooks := .later }
def F1SumsCardSaid : Prop := Claim7.holds Tryz.pinned (.plain (OpenSpec.ofChange f1SumsSpec)) f1SumsCard

/-- THE SECOND FORM's CARD OF 'gleanlaw13.F1Counts'. -/
def f1CountsUptoCard : Claim7 := { stood := { row := f1CountsUptoRow, standIns := [], harness := (true, "7c904ed788cdc60d18d75e1290446bda3be22cb39594cdd8287e93ae20636b6a"), looks := false }, kinds := [], alts := [], laidByText := true, laidKinds := [.data, .data, .data, .data, .pinned], laidTests := true, laidLooks := .later }
def F1CountsUptoCardSaid : Prop := Claim7.holds Tryz.pinned (.plain (OpenSpec.upto f1CountsSpec)) f1CountsUptoCard

/-- THE SECOND FORM's CARD OF 'gleanlaw13.F1Sums'. -/
def f1SumsUptoCard : Claim7 := { stood := { row := f1SumsUptoRow, standIns := [], harness := (true, "7c904ed788cdc60d18d75e1290446bda3be22cb39594cdd8287e93ae20636b6a"), looks := false }, kinds := [], alts := [], laidByText := true, laidKinds := [.data, .data, .data, .data, .pinned], laidTests := true, laidLooks := .later }
def F1SumsUptoCardSaid : Prop := Claim7.holds Tryz.pinned (.plain (OpenSpec.upto f1SumsSpec)) f1SumsUptoCard
end Rows
end Go.Proofs.YtjejmkcjflhoiaaGreatDoor
