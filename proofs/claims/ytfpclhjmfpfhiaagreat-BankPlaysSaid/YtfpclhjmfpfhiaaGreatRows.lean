/-
  No cell of these rows narrows 'for every input' (looked for: loops, veiled, ifaces, maps, wideKeys, modest, calm, conditions, laid).
  DERIVED. THE GIVEN ROWS OF THIS SEAT. 3 by the template 'for every input the law returns true; each argument reads behind the call as it read before'; 0 by the template 'total and deterministic' (their statements: YtfpclhjmfpfhiaaGreatTotals.lean).
  GIVEN WITH THE SEED: the statements are not yours to turn. If you find one false, say at which input.
  Laid BY PROGRAM, IN A SANDBOX (cutbox-rows.mjs): the forced cells as the released guide's own fill.sh prints them over the translation c9394d70a4648fbf… (all of the seat's roots in one cut). By AI agents, Wed Nov 11 2026. No macro, syntax, notation, axiom, sorry.
-/
import Derived.Test.YtfpclhjmfpfhiaaGreatChecked
import GoSem.Claim
import GoSem.ClaimJoined
import GoSem.ClaimMapViews
import Derived.JoinedTies
import Derived.KernelRfl
namespace Go.Proofs.YtfpclhjmfpfhiaaGreat
/- THE CELL 'sum', in the pinned program and in every row, IS THE sha256 OF THE DUMP (.gsa) THAT YtfpclhjmfpfhiaaGreatProg.lean LOADS. Nothing in Lean hashes anything: it is a label: what it is worth is what the hold of that sum in a sandbox is worth. -/
noncomputable def Tryz.pinned : Pinned := { name := "ytfpclhjmfpfhiaagreat", sum := "c9394d70a4648fbf2b57d7183160b9c9ac2d0303a0e7eff74c57ee2b47b7edbe", checked := Tryz.checked }
namespace Rows
def none {H : Type} : Left H := { results := [], args := [] }

/-- 'gleanlaw9.BankPlays': WHATEVER THE INPUT: true; the input reads as it did. -/
def bankPlaysSpec : ChangeSpec := { name := "bankPlays", fn := fun _ => fun
  | [d] => { results := [.lit (.bool true)], args := [d] }
  | _ => none }
def bankPlaysRow : OpenClaim := { program := "ytfpclhjmfpfhiaagreat", sum := "c9394d70a4648fbf2b57d7183160b9c9ac2d0303a0e7eff74c57ee2b47b7edbe", func := "glean/gleanlaw9.BankPlays", spec := "bankPlays", inPlace := ["sync/atomic.AddInt64", "internal/bytealg.Compare", "slices.overlaps[glean/page.entry]", "slices.overlaps[[]glean/page.entry]", "math/bits.Add64"], unfollowed := true, recurses := true, apart := false }
def BankPlaysSaid : Prop := bankPlaysRow.holds Tryz.pinned (OpenSpec.ofChange bankPlaysSpec)

/-- ITS FALSE NEIGHBOUR: 'it returns false'. Refute it at one input. -/
def bankPlaysWrong : ChangeSpec := { name := "bankPlays", fn := fun _ => fun
  | [d] => { results := [.lit (.bool false)], args := [d] }
  | _ => none }
def BankPlaysWrongFalsely : Prop := bankPlaysRow.holds Tryz.pinned (OpenSpec.ofChange bankPlaysWrong)

/-- 'gleanlaw9.BankSum': WHATEVER THE INPUT: true; the input reads as it did. -/
def bankSumSpec : ChangeSpec := { name := "bankSum", fn := fun _ => fun
  | [d] => { results := [.lit (.bool true)], args := [d] }
  | _ => none }
def bankSumRow : OpenClaim := { program := "ytfpclhjmfpfhiaagreat", sum := "c9394d70a4648fbf2b57d7183160b9c9ac2d0303a0e7eff74c57ee2b47b7edbe", func := "glean/gleanlaw9.BankSum", spec := "bankSum", inPlace := ["sync/atomic.AddInt64", "internal/bytealg.Compare", "slices.overlaps[glean/page.entry]", "slices.overlaps[[]glean/page.entry]", "math/bits.Add64"], unfollowed := true, recurses := true, apart := false }
def BankSumSaid : Prop := bankSumRow.holds Tryz.pinned (OpenSpec.ofChange bankSumSpec)

/-- ITS FALSE NEIGHBOUR: 'it returns false'. Refute it at one input. -/
def bankSumWrong : ChangeSpec := { name := "bankSum", fn := fun _ => fun
  | [d] => { results := [.lit (.bool false)], args := [d] }
  | _ => none }
def BankSumWrongFalsely : Prop := bankSumRow.holds Tryz.pinned (OpenSpec.ofChange bankSumWrong)

/-- 'gleanlaw9.BankSplit': WHATEVER THE INPUT: true; the input reads as it did. -/
def bankSplitSpec : ChangeSpec := { name := "bankSplit", fn := fun _ => fun
  | [d1, d2, d3, d4, d5] => { results := [.lit (.bool true)], args := [d1, d2, d3, d4, d5] }
  | _ => none }
def bankSplitRow : OpenClaim := { program := "ytfpclhjmfpfhiaagreat", sum := "c9394d70a4648fbf2b57d7183160b9c9ac2d0303a0e7eff74c57ee2b47b7edbe", func := "glean/gleanlaw9.BankSplit", spec := "bankSplit", inPlace := ["sync/atomic.AddInt64", "internal/bytealg.Compare", "slices.overlaps[glean/page.entry]", "slices.overlaps[[]glean/page.entry]", "math/bits.Add64"], unfollowed := true, recurses := true, apart := false }
def BankSplitSaid : Prop := bankSplitRow.holds Tryz.pinned (OpenSpec.ofChange bankSplitSpec)

/-- ITS FALSE NEIGHBOUR: 'it returns false'. Refute it at one input. -/
def bankSplitWrong : ChangeSpec := { name := "bankSplit", fn := fun _ => fun
  | [d1, d2, d3, d4, d5] => { results := [.lit (.bool false)], args := [d1, d2, d3, d4, d5] }
  | _ => none }
def BankSplitWrongFalsely : Prop := bankSplitRow.holds Tryz.pinned (OpenSpec.ofChange bankSplitWrong)

/- THE SECOND FORM. 'bulk': how many values and letters a reading holds, each counted each time it is reached (what is shared counts as often as it is met; a slice's spare places count too). A statement '..UptoSaid' is the law's where the arguments, and the package variables that the reading takes, are together of bulk at most 1048576: NARROWER than '..Said'. Prove '..Said' where nothing that the law and all that it calls make is longer than what came in: it says more and counts as full. Else prove '..UptoSaid'. A law counts once. -/
mutual
def uptoBulk {H : Type} : DataW H → Nat
  | .lit (.string bytes) => bytes.length + 1
  | .lit _ => 1
  | .nil => 1
  | .ptr d => uptoBulk d + 1
  | .slice elems spare => uptoBulkAll elems + uptoBulkAll spare + 1
  | .agg parts => uptoBulkAll parts + 1
  | .iface _ d => uptoBulk d + 1
  | .map entries => uptoBulkEntries entries + 1
  | .held _ => 1
def uptoBulkAll {H : Type} : List (DataW H) → Nat
  | [] => 0
  | d :: r => uptoBulk d + uptoBulkAll r
def uptoBulkEntries {H : Type} : List (Lit × DataW H) → Nat
  | [] => 0
  | x :: r => uptoBulkEntry x + uptoBulkEntries r
def uptoBulkEntry {H : Type} : Lit × DataW H → Nat
  | (.string bytes, d) => bytes.length + uptoBulk d + 1
  | (_, d) => uptoBulk d + 1
 end
def uptoSmall : (H : Type) → List (DataW H) → Bool := fun _ ds => decide (uptoBulkAll ds ≤ 1048576)
def OpenSpec.upto (s : _root_.Go.ChangeSpec) : _root_.Go.OpenSpec := { _root_.Go.OpenSpec.ofChange s with cond := some uptoSmall }

/-- 'gleanlaw9.BankPlays', WHERE WHAT IT READS IS OF BULK AT MOST 1048576: true; the input reads as it did. -/
def bankPlaysUptoRow : OpenClaim := { program := "ytfpclhjmfpfhiaagreat", sum := "c9394d70a4648fbf2b57d7183160b9c9ac2d0303a0e7eff74c57ee2b47b7edbe", func := "glean/gleanlaw9.BankPlays", spec := "bankPlays", inPlace := ["sync/atomic.AddInt64", "internal/bytealg.Compare", "slices.overlaps[glean/page.entry]", "slices.overlaps[[]glean/page.entry]", "math/bits.Add64"], unfollowed := true, recurses := true, apart := false, narrowed := true }
def BankPlaysUptoSaid : Prop := bankPlaysUptoRow.holds Tryz.pinned (OpenSpec.upto bankPlaysSpec)

/-- 'gleanlaw9.BankSum', WHERE WHAT IT READS IS OF BULK AT MOST 1048576: true; the input reads as it did. -/
def bankSumUptoRow : OpenClaim := { program := "ytfpclhjmfpfhiaagreat", sum := "c9394d70a4648fbf2b57d7183160b9c9ac2d0303a0e7eff74c57ee2b47b7edbe", func := "glean/gleanlaw9.BankSum", spec := "bankSum", inPlace := ["sync/atomic.AddInt64", "internal/bytealg.Compare", "slices.overlaps[glean/page.entry]", "slices.overlaps[[]glean/page.entry]", "math/bits.Add64"], unfollowed := true, recurses := true, apart := false, narrowed := true }
def BankSumUptoSaid : Prop := bankSumUptoRow.holds Tryz.pinned (OpenSpec.upto bankSumSpec)

/-- 'gleanlaw9.BankSplit', WHERE WHAT IT READS IS OF BULK AT MOST 1048576: true; the input reads as it did. -/
def bankSplitUptoRow : OpenClaim := { program := "ytfpclhjmfpfhiaagreat", sum := "c9394d70a4648fbf2b57d7183160b9c9ac2d0303a0e7eff74c57ee2b47b7edbe", func := "glean/gleanlaw9.BankSplit", spec := "bankSplit", inPlace := ["sync/atomic.AddInt64", "internal/bytealg.Compare", "slices.overlaps[glean/page.entry]", "slices.overlaps[[]glean/page.entry]", "math/bits.Add64"], unfollowed := true, recurses := true, apart := false, narrowed := true }
def BankSplitUptoSaid : Prop := bankSplitUptoRow.holds Tryz.pinned (OpenSpec.upto bankSplitSpec)

end Rows
end Go.Proofs.YtfpclhjmfpfhiaaGreat
