/- A script of power's as an argument: its steps in memory. -/
import Derived.Test.YtidnifmehnjipaaGreatJav
import Derived.Deep.Slices
import Derived.ChangeSlices
set_option maxRecDepth 100000
set_option maxHeartbeats 8000000
namespace Go.Proofs.YtidnifmehnjipaaGreat
namespace Pw
open Go.RowKit Lim Go.ChangeShapes Go.WideShapes
theorem spot_n {w:World} {x:Addr} {v:Value} (hx:w.cell? x=some v):x.spot=none:=by
 simp only[World.cell?] at hx
 cases hh:w.heap[x.block]? with
 | none=>rw[hh] at hx;simp at hx
 | some ob =>
  rw[hh] at hx
  cases ob with
  | cells c e f =>
   simp at hx
   cases hs:x.spot with
   | none=>rfl
   | some s=>rw[hs] at hx;simp at hx
  | _=>simp at hx
theorem jF {v:Int} (b:(Lit.int .u64 v).wf=true):0<=v/\v < 18446744073709551616:=by
 have:=bounds_u64 b;omega
end Pw
end Go.Proofs.YtidnifmehnjipaaGreat
