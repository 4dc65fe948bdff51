/-
  DERIVED. GIVEN WITH THE SEED: THE CARDS: each row of YtgflacmnfegjlaaDoorRows.lean that lists a variable, with what it lists TIED to the program's text (the seventh form; the later family's looks); each row that meets fmt, with fmt's text TOLD by the authors' own Lean function (tested against real Go, not proved from fmt's source: count such statements apart). THE CARD IS WHAT COUNTS. Prove the row's statement (the work); the ties are given (YtgflacmnfegjlaaDoorTie.lean); close each card by the builder's one call (the guide's Derived/Test/ToyasCard.lean, 'card_holds'). Laid BY PROGRAM, IN A SANDBOX (cutbox-door.mjs). By AI agents, Wed Nov 11 2026. No macro, syntax, notation, axiom, sorry.
-/
import Derived.Test.YtgflacmnfegjlaaDoorRows
import GoSem.ClaimSeven
namespace Go.Proofs.YtgflacmnfegjlaaDoor
namespace Rows

/-- THE TIED CARD OF 'gleanlaw10.ShareSplit'. -/
def shareSplitCard : Claim7 := { stood := { row := shareSplitRow, standIns := [], harness := (true, "f5a82177bd9f7d24ae816098f21dc853ada239d41ba0cf332d5911000fa508b2"), looks := false }, kinds := [], alts := [], laidByText := true, laidKinds := [.data, .data, .data, .data, .pinned], laidTests := true, laidLooks := .later }
def ShareSplitCardSaid : Prop := Claim7.holds Tryd.pinned (.plain (OpenSpec.ofChange shareSplitSpec)) shareSplitCard

/-- THE SECOND FORM's CARD OF 'gleanlaw10.ShareSplit'. -/
def shareSplitUptoCard : Claim7 := { stood := { row := shareSplitUptoRow, standIns := [], harness := (true, "f5a82177bd9f7d24ae816098f21dc853ada239d41ba0cf332d5911000fa508b2"), looks := false }, kinds := [], alts := [], laidByText := true, laidKinds := [.data, .data, .data, .data, .pinned], laidTests := true, laidLooks := .later }
def ShareSplitUptoCardSaid : Prop := Claim7.holds Tryd.pinned (.plain (OpenSpec.upto shareSplitSpec)) shareSplitUptoCard
end Rows
end Go.Proofs.YtgflacmnfegjlaaDoor
