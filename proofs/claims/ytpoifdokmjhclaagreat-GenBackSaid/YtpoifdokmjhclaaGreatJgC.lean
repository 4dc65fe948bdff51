import Derived.Test.YtpoifdokmjhclaaGreatJge
import Derived.Lib.SlBytesConst
set_option maxRecDepth 100000
set_option maxHeartbeats 8000000
namespace Go.Proofs.YtpoifdokmjhclaaGreat
section
namespace Kv
open Go.RowKit Go.Lib Pg
attribute [local go_sem] Oper.semAt_some
structure Ste where
 what:Int
 num:Int
 ka:Option Addr
 kc:Nat
 kl:List Int
 va:Option Addr
 vc:Nat
 vl:List Int
def setd (E:aA) (k v:List Int):aA:=if gK k v=0 then put E k v else E
def chgd (E:aA) (what:Int) (k v:List Int):aA:=if what.tmod 2=0 then setd E k v else rem E k
end Kv
end
section
namespace Kv
open Go.RowKit Go.Lib Pg
def run (ss:List Ste):Nat→aA
  | 0=>[]
  | j + 1 => match ss[j]? with
    | some s=>chgd (run ss j) s.what s.kl s.vl
    | none=>run ss j
end Kv
end
end Go.Proofs.YtpoifdokmjhclaaGreat
