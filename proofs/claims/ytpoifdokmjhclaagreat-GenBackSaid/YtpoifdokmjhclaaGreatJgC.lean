/- Several texts, joined: KvCb, KvLi, KvCc, KvCd, KvCe, KvCg. -/
import Derived.Test.YtpoifdokmjhclaaGreatJge
import Derived.Lib.SlBytesConst
namespace Go.Proofs.YtpoifdokmjhclaaGreat
namespace Kv
open Go.RowKit Go.Lib Pg
attribute [local go_sem] Oper.semAt_some
end Kv
end Go.Proofs.YtpoifdokmjhclaaGreat

namespace Go.Proofs.YtpoifdokmjhclaaGreat
namespace Kv
open Go.RowKit Go.Lib Pg
attribute [local go_sem] Oper.semAt_some
/-- a step of a script: its four cells, and what lies behind its two lists -/
structure Ste where
  what : Int
  num : Int
  ka : Option Addr
  kc : Nat
  kl : List Int
  va : Option Addr
  vc : Nat
  vl : List Int
end Kv
end Go.Proofs.YtpoifdokmjhclaaGreat

namespace Go.Proofs.YtpoifdokmjhclaaGreat
namespace Kv
open Go.RowKit Go.Lib Pg
attribute [local go_sem] Oper.semAt_some
def setd (E : Ents) (k v : List Int) : Ents := if setE k v = 0 then put E k v else E
/-- set or deleted -/
def chgd (E : Ents) (what : Int) (k v : List Int) : Ents := if what.tmod 2 = 0 then setd E k v else rem E k
end Kv
end Go.Proofs.YtpoifdokmjhclaaGreat

namespace Go.Proofs.YtpoifdokmjhclaaGreat
namespace Kv
open Go.RowKit Go.Lib Pg
end Kv
end Go.Proofs.YtpoifdokmjhclaaGreat

namespace Go.Proofs.YtpoifdokmjhclaaGreat
namespace Kv
open Go.RowKit Go.Lib Pg
end Kv
end Go.Proofs.YtpoifdokmjhclaaGreat

namespace Go.Proofs.YtpoifdokmjhclaaGreat
namespace Kv
open Go.RowKit Go.Lib Pg
/-- the entries behind the first j steps -/
def run (ss : List Ste) : Nat → Ents
  | 0 => []
  | j + 1 => match ss[j]? with
    | some s => chgd (run ss j) s.what s.kl s.vl
    | none => run ss j
end Kv
end Go.Proofs.YtpoifdokmjhclaaGreat
