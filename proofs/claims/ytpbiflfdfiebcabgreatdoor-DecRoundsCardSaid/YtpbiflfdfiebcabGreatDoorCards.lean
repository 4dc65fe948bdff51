/-
  DERIVED. GIVEN WITH THE SEED: THE CARDS: each row of YtpbiflfdfiebcabGreatDoorRows.lean that lists a variable, with what it lists TIED to the program's text (the seventh form; the later family's looks); each row that meets fmt, with fmt's text TOLD by the authors' own Lean function (tested against real Go, not proved from fmt's source: count such statements apart). THE CARD IS WHAT COUNTS. Prove the row's statement (the work); the ties are given (YtpbiflfdfiebcabGreatDoorTie.lean); close each card by the builder's one call (the guide's Derived/Test/ToyasCard.lean, 'card_holds'). Laid BY PROGRAM, IN A SANDBOX (cutbox-door.mjs). By AI agents, Wed Nov 11 2026. No macro, syntax, notation, axiom, sorry.
-/
import Derived.Test.YtpbiflfdfiebcabGreatDoorRows
import GoSem.ClaimSeven
namespace Go.Proofs.YtpbiflfdfiebcabGreatDoor
namespace Rows

/-- THE TIED CARD OF 'gleanlaw3.RatSum'. -/
def ratSumCard : Claim7 := { stood := { row := ratSumRow, standIns := [], harness := (true, "88689a7d8a425f3878b746720604d63fbce362a2d08319b4ab2a4d4d07e0789c"), looks := false }, kinds := [], alts := [], laidByText := true, laidKinds := [.data, .data, .data, .data, .pinned], laidTests := true, laidLooks := .later }
def RatSumCardSaid : Prop := Claim7.holds Tryz.pinned (.plain (OpenSpec.ofChange ratSumSpec)) ratSumCard

/-- THE TIED CARD OF 'gleanlaw2.DecSums'. -/
def decSumsCard : Claim7 := { stood := { row := decSumsRow, standIns := [], harness := (true, "88689a7d8a425f3878b746720604d63fbce362a2d08319b4ab2a4d4d07e0789c"), looks := false }, kinds := [], alts := [], laidByText := true, laidKinds := [.data, .data, .data, .data, .pinned], laidTests := true, laidLooks := .later }
def DecSumsCardSaid : Prop := Claim7.holds Tryz.pinned (.plain (OpenSpec.ofChange decSumsSpec)) decSumsCard

/-- THE TIED CARD OF 'gleanlaw2.DecProducts'. -/
def decProductsCard : Claim7 := { stood := { row := decProductsRow, standIns := [], harness := (true, "88689a7d8a425f3878b746720604d63fbce362a2d08319b4ab2a4d4d07e0789c"), looks := false }, kinds := [], alts := [], laidByText := true, laidKinds := [.data, .data, .data, .data, .pinned], laidTests := true, laidLooks := .later }
def DecProductsCardSaid : Prop := Claim7.holds Tryz.pinned (.plain (OpenSpec.ofChange decProductsSpec)) decProductsCard

/-- THE TIED CARD OF 'gleanlaw2.DecText'. -/
def decTextCard : Claim7 := { stood := { row := decTextRow, standIns := [], harness := (true, "88689a7d8a425f3878b746720604d63fbce362a2d08319b4ab2a4d4d07e0789c"), looks := false }, kinds := [], alts := [], laidByText := true, laidKinds := [.data, .data, .data, .data, .pinned], laidTests := true, laidLooks := .later }
def DecTextCardSaid : Prop := Claim7.holds Tryz.pinned (.plain (OpenSpec.ofChange decTextSpec)) decTextCard

/-- THE TIED CARD OF 'gleanlaw2.DecRises'. -/
def decRisesCard : Claim7 := { stood := { row := decRisesRow, standIns := [], harness := (true, "88689a7d8a425f3878b746720604d63fbce362a2d08319b4ab2a4d4d07e0789c"), looks := false }, kinds := [], alts := [], laidByText := true, laidKinds := [.data, .data, .data, .data, .pinned], laidTests := true, laidLooks := .later }
def DecRisesCardSaid : Prop := Claim7.holds Tryz.pinned (.plain (OpenSpec.ofChange decRisesSpec)) decRisesCard

/-- THE TIED CARD OF 'gleanlaw2.DecRounds'. -/
def decRoundsCard : Claim7 := { stood := { row := decRoundsRow, standIns := [], harness := (true, "88689a7d8a425f3878b746720604d63fbce362a2d08319b4ab2a4d4d07e0789c"), looks := false }, kinds := [], alts := [], laidByText := true, laidKinds := [.data, .data, .data, .data, .pinned], laidTests := true, laidLooks := .later }
def DecRoundsCardSaid : Prop := Claim7.holds Tryz.pinned (.plain (OpenSpec.ofChange decRoundsSpec)) decRoundsCard

/-- THE SECOND FORM's CARD OF 'gleanlaw3.RatSum'. -/
def ratSumUptoCard : Claim7 := { stood := { row := ratSumUptoRow, standIns := [], harness := (true, "88689a7d8a425f3878b746720604d63fbce362a2d08319b4ab2a4d4d07e0789c"), looks := false }, kinds := [], alts := [], laidByText := true, laidKinds := [.data, .data, .data, .data, .pinned], laidTests := true, laidLooks := .later }
def RatSumUptoCardSaid : Prop := Claim7.holds Tryz.pinned (.plain (OpenSpec.upto ratSumSpec)) ratSumUptoCard

/-- THE SECOND FORM's CARD OF 'gleanlaw2.DecSums'. -/
def decSumsUptoCard : Claim7 := { stood := { row := decSumsUptoRow, standIns := [], harness := (true, "88689a7d8a425f3878b746720604d63fbce362a2d08319b4ab2a4d4d07e0789c"), looks := false }, kinds := [], alts := [], laidByText := true, laidKinds := [.data, .data, .data, .data, .pinned], laidTests := true, laidLooks := .later }
def DecSumsUptoCardSaid : Prop := Claim7.holds Tryz.pinned (.plain (OpenSpec.upto decSumsSpec)) decSumsUptoCard

/-- THE SECOND FORM's CARD OF 'gleanlaw2.DecProducts'. -/
def decProductsUptoCard : Claim7 := { stood := { row := decProductsUptoRow, standIns := [], harness := (true, "88689a7d8a425f3878b746720604d63fbce362a2d08319b4ab2a4d4d07e0789c"), looks := false }, kinds := [], alts := [], laidByText := true, laidKinds := [.data, .data, .data, .data, .pinned], laidTests := true, laidLooks := .later }
def DecProductsUptoCardSaid : Prop := Claim7.holds Tryz.pinned (.plain (OpenSpec.upto decProductsSpec)) decProductsUptoCard

/-- THE SECOND FORM's CARD OF 'gleanlaw2.DecText'. -/
def decTextUptoCard : Claim7 := { stood := { row := decTextUptoRow, standIns := [], harness := (true, "88689a7d8a425f3878b746720604d63fbce362a2d08319b4ab2a4d4d07e0789c"), looks := false }, kinds := [], alts := [], laidByText := true, laidKinds := [.data, .data, .data, .data, .pinned], laidTests := true, laidLooks := .later }
def DecTextUptoCardSaid : Prop := Claim7.holds Tryz.pinned (.plain (OpenSpec.upto decTextSpec)) decTextUptoCard

/-- THE SECOND FORM's CARD OF 'gleanlaw2.DecRises'. -/
def decRisesUptoCard : Claim7 := { stood := { row := decRisesUptoRow, standIns := [], harness := (true, "88689a7d8a425f3878b746720604d63fbce362a2d08319b4ab2a4d4d07e0789c"), looks := false }, kinds := [], alts := [], laidByText := true, laidKinds := [.data, .data, .data, .data, .pinned], laidTests := true, laidLooks := .later }
def DecRisesUptoCardSaid : Prop := Claim7.holds Tryz.pinned (.plain (OpenSpec.upto decRisesSpec)) decRisesUptoCard

/-- THE SECOND FORM's CARD OF 'gleanlaw2.DecRounds'. -/
def decRoundsUptoCard : Claim7 := { stood := { row := decRoundsUptoRow, standIns := [], harness := (true, "88689a7d8a425f3878b746720604d63fbce362a2d08319b4ab2a4d4d07e0789c"), looks := false }, kinds := [], alts := [], laidByText := true, laidKinds := [.data, .data, .data, .data, .pinned], laidTests := true, laidLooks := .later }
def DecRoundsUptoCardSaid : Prop := Claim7.holds Tryz.pinned (.plain (OpenSpec.upto decRoundsSpec)) decRoundsUptoCard
end Rows
end Go.Proofs.YtpbiflfdfiebcabGreatDoor
