/-
  DERIVED. GIVEN WITH THE SEED: THE CARDS: each row of YtplmeahabddklaaDoorRows.lean that lists a variable, with what it lists TIED to the program's text (the seventh form; the later family's looks); each row that meets fmt, with fmt's text TOLD by the authors' own Lean function (tested against real Go, not proved from fmt's source: count such statements apart). THE CARD IS WHAT COUNTS. Prove the row's statement (the work); the ties are given (YtplmeahabddklaaDoorTie.lean); close each card by the builder's one call (the guide's Derived/Test/ToyasCard.lean, 'card_holds'). Laid BY PROGRAM, IN A SANDBOX (cutbox-door.mjs). By AI agents, Wed Nov 11 2026. No macro, syntax, notation, axiom, sorry.
-/
import Derived.Test.YtplmeahabddklaaDoorRows
import GoSem.ClaimSeven
namespace Go.Proofs.YtplmeahabddklaaDoor
namespace Rows

/-- THE TIED CARD OF 'gleanlaw1.NatSums'. -/
def natSumsCard : Claim7 := { stood := { row := natSumsRow, standIns := [], harness := (true, "e5b90e8e7cdb510c471f905bcc9aaaf722b490cc0fa71a87d16e5591e327e8e3"), looks := false }, kinds := [], alts := [], laidByText := true, laidKinds := [.data, .data, .data], laidTests := true, laidLooks := .later }
def NatSumsCardSaid : Prop := Claim7.holds Tryd.pinned (.plain (OpenSpec.ofChange natSumsSpec)) natSumsCard

/-- THE TIED CARD OF 'gleanlaw1.NatDivisor'. -/
def natDivisorCard : Claim7 := { stood := { row := natDivisorRow, standIns := [], harness := (true, "e5b90e8e7cdb510c471f905bcc9aaaf722b490cc0fa71a87d16e5591e327e8e3"), looks := false }, kinds := [], alts := [], laidByText := true, laidKinds := [.data, .data, .data], laidTests := true, laidLooks := .later }
def NatDivisorCardSaid : Prop := Claim7.holds Tryd.pinned (.plain (OpenSpec.ofChange natDivisorSpec)) natDivisorCard

/-- THE TIED CARD OF 'gleanlaw1.NatScaled'. -/
def natScaledCard : Claim7 := { stood := { row := natScaledRow, standIns := [], harness := (true, "e5b90e8e7cdb510c471f905bcc9aaaf722b490cc0fa71a87d16e5591e327e8e3"), looks := false }, kinds := [], alts := [], laidByText := true, laidKinds := [.data, .data, .data], laidTests := true, laidLooks := .later }
def NatScaledCardSaid : Prop := Claim7.holds Tryd.pinned (.plain (OpenSpec.ofChange natScaledSpec)) natScaledCard

/-- THE TIED CARD OF 'gleanlaw1.NatGcd'. -/
def natGcdCard : Claim7 := { stood := { row := natGcdRow, standIns := [], harness := (true, "e5b90e8e7cdb510c471f905bcc9aaaf722b490cc0fa71a87d16e5591e327e8e3"), looks := false }, kinds := [], alts := [], laidByText := true, laidKinds := [.data, .data, .data], laidTests := true, laidLooks := .later }
def NatGcdCardSaid : Prop := Claim7.holds Tryd.pinned (.plain (OpenSpec.ofChange natGcdSpec)) natGcdCard

/-- THE TIED CARD OF 'gleanlaw1.NatQuotients'. -/
def natQuotientsCard : Claim7 := { stood := { row := natQuotientsRow, standIns := [], harness := (true, "e5b90e8e7cdb510c471f905bcc9aaaf722b490cc0fa71a87d16e5591e327e8e3"), looks := false }, kinds := [], alts := [], laidByText := true, laidKinds := [.data, .data, .data], laidTests := true, laidLooks := .later }
def NatQuotientsCardSaid : Prop := Claim7.holds Tryd.pinned (.plain (OpenSpec.ofChange natQuotientsSpec)) natQuotientsCard

/-- THE TIED CARD OF 'gleanlaw1.NatText'. -/
def natTextCard : Claim7 := { stood := { row := natTextRow, standIns := [], harness := (true, "e5b90e8e7cdb510c471f905bcc9aaaf722b490cc0fa71a87d16e5591e327e8e3"), looks := false }, kinds := [], alts := [], laidByText := true, laidKinds := [.data, .data, .data], laidTests := true, laidLooks := .later }
def NatTextCardSaid : Prop := Claim7.holds Tryd.pinned (.plain (OpenSpec.ofChange natTextSpec)) natTextCard

/-- THE SECOND FORM's CARD OF 'gleanlaw1.NatSums'. -/
def natSumsUptoCard : Claim7 := { stood := { row := natSumsUptoRow, standIns := [], harness := (true, "e5b90e8e7cdb510c471f905bcc9aaaf722b490cc0fa71a87d16e5591e327e8e3"), looks := false }, kinds := [], alts := [], laidByText := true, laidKinds := [.data, .data, .data], laidTests := true, laidLooks := .later }
def NatSumsUptoCardSaid : Prop := Claim7.holds Tryd.pinned (.plain (OpenSpec.upto natSumsSpec)) natSumsUptoCard

/-- THE SECOND FORM's CARD OF 'gleanlaw1.NatDivisor'. -/
def natDivisorUptoCard : Claim7 := { stood := { row := natDivisorUptoRow, standIns := [], harness := (true, "e5b90e8e7cdb510c471f905bcc9aaaf722b490cc0fa71a87d16e5591e327e8e3"), looks := false }, kinds := [], alts := [], laidByText := true, laidKinds := [.data, .data, .data], laidTests := true, laidLooks := .later }
def NatDivisorUptoCardSaid : Prop := Claim7.holds Tryd.pinned (.plain (OpenSpec.upto natDivisorSpec)) natDivisorUptoCard

/-- THE SECOND FORM's CARD OF 'gleanlaw1.NatScaled'. -/
def natScaledUptoCard : Claim7 := { stood := { row := natScaledUptoRow, standIns := [], harness := (true, "e5b90e8e7cdb510c471f905bcc9aaaf722b490cc0fa71a87d16e5591e327e8e3"), looks := false }, kinds := [], alts := [], laidByText := true, laidKinds := [.data, .data, .data], laidTests := true, laidLooks := .later }
def NatScaledUptoCardSaid : Prop := Claim7.holds Tryd.pinned (.plain (OpenSpec.upto natScaledSpec)) natScaledUptoCard

/-- THE SECOND FORM's CARD OF 'gleanlaw1.NatGcd'. -/
def natGcdUptoCard : Claim7 := { stood := { row := natGcdUptoRow, standIns := [], harness := (true, "e5b90e8e7cdb510c471f905bcc9aaaf722b490cc0fa71a87d16e5591e327e8e3"), looks := false }, kinds := [], alts := [], laidByText := true, laidKinds := [.data, .data, .data], laidTests := true, laidLooks := .later }
def NatGcdUptoCardSaid : Prop := Claim7.holds Tryd.pinned (.plain (OpenSpec.upto natGcdSpec)) natGcdUptoCard

/-- THE SECOND FORM's CARD OF 'gleanlaw1.NatQuotients'. -/
def natQuotientsUptoCard : Claim7 := { stood := { row := natQuotientsUptoRow, standIns := [], harness := (true, "e5b90e8e7cdb510c471f905bcc9aaaf722b490cc0fa71a87d16e5591e327e8e3"), looks := false }, kinds := [], alts := [], laidByText := true, laidKinds := [.data, .data, .data], laidTests := true, laidLooks := .later }
def NatQuotientsUptoCardSaid : Prop := Claim7.holds Tryd.pinned (.plain (OpenSpec.upto natQuotientsSpec)) natQuotientsUptoCard

/-- THE SECOND FORM's CARD OF 'gleanlaw1.NatText'. -/
def natTextUptoCard : Claim7 := { stood := { row := natTextUptoRow, standIns := [], harness := (true, "e5b90e8e7cdb510c471f905bcc9aaaf722b490cc0fa71a87d16e5591e327e8e3"), looks := false }, kinds := [], alts := [], laidByText := true, laidKinds := [.data, .data, .data], laidTests := true, laidLooks := .later }
def NatTextUptoCardSaid : Prop := Claim7.holds Tryd.pinned (.plain (OpenSpec.upto natTextSpec)) natTextUptoCard
end Rows
end Go.Proofs.YtplmeahabddklaaDoor
