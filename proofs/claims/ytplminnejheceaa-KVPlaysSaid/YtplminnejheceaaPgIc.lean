/- slices.Backward over pages and over entries. -/
import Derived.Test.YtplminnejheceaaPgIb
namespace Go.Proofs.Ytplminnejheceaa
namespace Pg
open Go.RowKit Go.Lib
attribute [local go_sem] Oper.semAt_some
def ArBP (Q : List Pg) (i : Nat) (args : Array Value) (_ : Nat) (_ : World) : Prop := ∃ p j, j + 1 + i = Q.length ∧ Q[j]? = some p ∧ args = #[.int .i64 (j : Int), p.v]
def ArBE (Q : List En) (i : Nat) (args : Array Value) (_ : Nat) (_ : World) : Prop := ∃ e j, j + 1 + i = Q.length ∧ Q[j]? = some e ∧ args = #[.int .i64 (j : Int), .agg #[e.kv, e.vv]]
end Pg
end Go.Proofs.Ytplminnejheceaa
