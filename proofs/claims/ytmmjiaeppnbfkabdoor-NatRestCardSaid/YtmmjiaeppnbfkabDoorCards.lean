/-
  DERIVED. GIVEN WITH THE SEED: THE CARDS: each row of YtmmjiaeppnbfkabDoorRows.lean that lists a variable, with what it lists TIED to the program's text (the seventh form; the later family's looks); each row that meets fmt, with fmt's text TOLD by the authors' own Lean function (tested against real Go, not proved from fmt's source: count such statements apart). THE CARD IS WHAT COUNTS. Prove the row's statement (the work); the ties are given (YtmmjiaeppnbfkabDoorTie.lean); close each card by the builder's one call (the guide's Derived/Test/ToyasCard.lean, 'card_holds'). Laid BY PROGRAM, IN A SANDBOX (cutbox-door.mjs). By AI agents, Wed Nov 11 2026. No macro, syntax, notation, axiom, sorry.
-/
import Derived.Test.YtmmjiaeppnbfkabDoorRows
import GoSem.ClaimSeven
namespace Go.Proofs.YtmmjiaeppnbfkabDoor
namespace Rows

/-- THE TIED CARD OF 'gleanlaw1.NatRest'. -/
def natRestCard : Claim7 := { stood := { row := natRestRow, standIns := [], harness := (true, "b5b705ebec20fabbdd52bad2e73c6bf93c2280d75655d900359f264c2df0acae"), looks := false }, kinds := [], alts := [], laidByText := true, laidKinds := [.data, .data, .data], laidTests := true, laidLooks := .later }
def NatRestCardSaid : Prop := Claim7.holds Tryd.pinned (.plain (OpenSpec.ofChange natRestSpec)) natRestCard

/-- THE TIED CARD OF 'gleanlaw1.NatBack'. -/
def natBackCard : Claim7 := { stood := { row := natBackRow, standIns := [], harness := (true, "b5b705ebec20fabbdd52bad2e73c6bf93c2280d75655d900359f264c2df0acae"), looks := false }, kinds := [], alts := [], laidByText := true, laidKinds := [.data, .data, .data], laidTests := true, laidLooks := .later }
def NatBackCardSaid : Prop := Claim7.holds Tryd.pinned (.plain (OpenSpec.ofChange natBackSpec)) natBackCard

/-- THE TIED CARD OF 'gleanlaw1.NatDivisor'. -/
def natDivisorCard : Claim7 := { stood := { row := natDivisorRow, standIns := [], harness := (true, "b5b705ebec20fabbdd52bad2e73c6bf93c2280d75655d900359f264c2df0acae"), looks := false }, kinds := [], alts := [], laidByText := true, laidKinds := [.data, .data, .data], laidTests := true, laidLooks := .later }
def NatDivisorCardSaid : Prop := Claim7.holds Tryd.pinned (.plain (OpenSpec.ofChange natDivisorSpec)) natDivisorCard

/-- THE TIED CARD OF 'gleanlaw1.NatOrder'. -/
def natOrderCard : Claim7 := { stood := { row := natOrderRow, standIns := [], harness := (true, "b5b705ebec20fabbdd52bad2e73c6bf93c2280d75655d900359f264c2df0acae"), looks := false }, kinds := [], alts := [], laidByText := true, laidKinds := [.data, .data, .data], laidTests := true, laidLooks := .later }
def NatOrderCardSaid : Prop := Claim7.holds Tryd.pinned (.plain (OpenSpec.ofChange natOrderSpec)) natOrderCard

/-- THE TIED CARD OF 'gleanlaw1.NatPowers'. -/
def natPowersCard : Claim7 := { stood := { row := natPowersRow, standIns := [], harness := (true, "b5b705ebec20fabbdd52bad2e73c6bf93c2280d75655d900359f264c2df0acae"), looks := false }, kinds := [], alts := [], laidByText := true, laidKinds := [.data, .data, .data], laidTests := true, laidLooks := .later }
def NatPowersCardSaid : Prop := Claim7.holds Tryd.pinned (.plain (OpenSpec.ofChange natPowersSpec)) natPowersCard

/-- THE TIED CARD OF 'gleanlaw1.NatScaled'. -/
def natScaledCard : Claim7 := { stood := { row := natScaledRow, standIns := [], harness := (true, "b5b705ebec20fabbdd52bad2e73c6bf93c2280d75655d900359f264c2df0acae"), looks := false }, kinds := [], alts := [], laidByText := true, laidKinds := [.data, .data, .data], laidTests := true, laidLooks := .later }
def NatScaledCardSaid : Prop := Claim7.holds Tryd.pinned (.plain (OpenSpec.ofChange natScaledSpec)) natScaledCard

/-- THE SECOND FORM's CARD OF 'gleanlaw1.NatRest'. -/
def natRestUptoCard : Claim7 := { stood := { row := natRestUptoRow, standIns := [], harness := (true, "b5b705ebec20fabbdd52bad2e73c6bf93c2280d75655d900359f264c2df0acae"), looks := false }, kinds := [], alts := [], laidByText := true, laidKinds := [.data, .data, .data], laidTests := true, laidLooks := .later }
def NatRestUptoCardSaid : Prop := Claim7.holds Tryd.pinned (.plain (OpenSpec.upto natRestSpec)) natRestUptoCard

/-- THE SECOND FORM's CARD OF 'gleanlaw1.NatBack'. -/
def natBackUptoCard : Claim7 := { stood := { row := natBackUptoRow, standIns := [], harness := (true, "b5b705ebec20fabbdd52bad2e73c6bf93c2280d75655d900359f264c2df0acae"), looks := false }, kinds := [], alts := [], laidByText := true, laidKinds := [.data, .data, .data], laidTests := true, laidLooks := .later }
def NatBackUptoCardSaid : Prop := Claim7.holds Tryd.pinned (.plain (OpenSpec.upto natBackSpec)) natBackUptoCard

/-- THE SECOND FORM's CARD OF 'gleanlaw1.NatDivisor'. -/
def natDivisorUptoCard : Claim7 := { stood := { row := natDivisorUptoRow, standIns := [], harness := (true, "b5b705ebec20fabbdd52bad2e73c6bf93c2280d75655d900359f264c2df0acae"), looks := false }, kinds := [], alts := [], laidByText := true, laidKinds := [.data, .data, .data], laidTests := true, laidLooks := .later }
def NatDivisorUptoCardSaid : Prop := Claim7.holds Tryd.pinned (.plain (OpenSpec.upto natDivisorSpec)) natDivisorUptoCard

/-- THE SECOND FORM's CARD OF 'gleanlaw1.NatOrder'. -/
def natOrderUptoCard : Claim7 := { stood := { row := natOrderUptoRow, standIns := [], harness := (true, "b5b705ebec20fabbdd52bad2e73c6bf93c2280d75655d900359f264c2df0acae"), looks := false }, kinds := [], alts := [], laidByText := true, laidKinds := [.data, .data, .data], laidTests := true, laidLooks := .later }
def NatOrderUptoCardSaid : Prop := Claim7.holds Tryd.pinned (.plain (OpenSpec.upto natOrderSpec)) natOrderUptoCard

/-- THE SECOND FORM's CARD OF 'gleanlaw1.NatPowers'. -/
def natPowersUptoCard : Claim7 := { stood := { row := natPowersUptoRow, standIns := [], harness := (true, "b5b705ebec20fabbdd52bad2e73c6bf93c2280d75655d900359f264c2df0acae"), looks := false }, kinds := [], alts := [], laidByText := true, laidKinds := [.data, .data, .data], laidTests := true, laidLooks := .later }
def NatPowersUptoCardSaid : Prop := Claim7.holds Tryd.pinned (.plain (OpenSpec.upto natPowersSpec)) natPowersUptoCard

/-- THE SECOND FORM's CARD OF 'gleanlaw1.NatScaled'. -/
def natScaledUptoCard : Claim7 := { stood := { row := natScaledUptoRow, standIns := [], harness := (true, "b5b705ebec20fabbdd52bad2e73c6bf93c2280d75655d900359f264c2df0acae"), looks := false }, kinds := [], alts := [], laidByText := true, laidKinds := [.data, .data, .data], laidTests := true, laidLooks := .later }
def NatScaledUptoCardSaid : Prop := Claim7.holds Tryd.pinned (.plain (OpenSpec.upto natScaledSpec)) natScaledUptoCard
end Rows
end Go.Proofs.YtmmjiaeppnbfkabDoor
