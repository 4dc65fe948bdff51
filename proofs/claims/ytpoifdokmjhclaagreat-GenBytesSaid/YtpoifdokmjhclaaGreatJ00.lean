import Derived.Test.YtpoifdokmjhclaaGreatChecked
import Derived.WalkKit
set_option maxRecDepth 100000
set_option maxHeartbeats 8000000
namespace Go.Proofs.YtpoifdokmjhclaaGreat
open Go.RowKit
abbrev CP (f:FuncId) (a:Array Value) (w:World) (Q:Ending->World->Prop):Prop:=Calls Tryz.prog f a w Q
abbrev BW (w w':World):Prop:=Below w.heap.size w w'
end Go.Proofs.YtpoifdokmjhclaaGreat
