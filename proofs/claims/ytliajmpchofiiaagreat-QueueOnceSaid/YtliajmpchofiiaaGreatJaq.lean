/- Several texts, joined: KvCb, KvLi, KvCc, KvCd, KvCe, KvCg, KvCf, KvDa, KvDb, KvDc, KvDd, KvDe, KvDf, KvDg, KvDh, KvDi, KvDj, KvDk, KvDl, KvDm. -/
import Derived.Test.YtliajmpchofiiaaGreatJad
import Derived.Lib.SlBytesConst
set_option maxRecDepth 100000
set_option maxHeartbeats 8000000
namespace Go.Proofs.YtliajmpchofiiaaGreat
section
namespace Kv
open Go.RowKit Go.Lib Pg
attribute [local go_sem] Oper.semAt_some
end Kv
end
section
namespace Kv
open Go.RowKit Go.Lib Pg
attribute [local go_sem] Oper.semAt_some
structure Ste where
 what:Int
 num:Int
 ka:Option Addr
 kc:Nat
 kl:List Int
 va:Option Addr
 vc:Nat
 vl:List Int
end Kv
end
section
namespace Kv
open Go.RowKit Go.Lib Pg
attribute [local go_sem] Oper.semAt_some
def setd (E:ay) (k v:List Int):ay:=if gY k v=0 then put E k v else E
def chgd (E:ay) (what:Int) (k v:List Int):ay:=if what.tmod 2=0 then setd E k v else rem E k
end Kv
end
section
namespace Kv
open Go.RowKit Go.Lib Pg
end Kv
end
section
namespace Kv
open Go.RowKit Go.Lib Pg
end Kv
end
section
namespace Kv
open Go.RowKit Go.Lib Pg
theorem gC {X Y:ay} {k v x:List Int} (h:¬ k=x):look (X ++ (k,v) :: Y) x=look (X ++ Y) x:=by
 unfold look;rw[List.find?_append,List.find?_append,List.find?_cons];simp[h]
theorem xH {E:ay} (h:cC E) (k v x:List Int):look (put E k v) x=if k=x then some v else look E x:=by
 obtain⟨X,Y,c,⟨rfl,_⟩ | ⟨y,rfl,_⟩⟩:=h.cut k
 ·rw[c.uC];split
  ·rename_i e; subst e; exact c.mH
  ·rename_i e; exact gC e
 ·rw[c.uZ];split
  ·rename_i e; subst e; exact c.mH
  ·rename_i e; rw[gC e,gC e]
theorem vV {E:ay} (h:cC E) (k x:List Int):look (rem E k) x=if k=x then none else look E x:=by
 obtain⟨X,Y,c,⟨rfl,_⟩ | ⟨y,rfl,_⟩⟩:=h.cut k
 ·rw[c.xh];split
  ·rename_i e; subst e; exact c.pW
  ·rfl
 ·rw[c.AG];split
  ·rename_i e; subst e; exact c.pW
  ·rename_i e; rw[gC e]
abbrev dD (s:Ste):Prop:=¬ s.what.tmod 2=0\/(1<=s.kl.length/\s.kl.length<=64/\s.vl.length<=4096)
def run (ss : List Ste) : Nat → ay
  | 0 => []
  | j + 1 => match ss[j]? with
    | some s => chgd (run ss j) s.what s.kl s.vl
    | none => run ss j
end Kv
end
section
namespace Kv
open Go.RowKit Go.Lib Pg
attribute [local go_sem] Oper.semAt_some
end Kv
end
section
namespace Kv
open Go.RowKit Go.Lib Pg
attribute [local go_sem] Oper.semAt_some
end Kv
end
section
namespace Kv
open Go.RowKit Go.Lib Pg
attribute [local go_sem] Oper.semAt_some
end Kv
end
section
namespace Kv
open Go.RowKit Go.Lib Pg
attribute [local go_sem] Oper.semAt_some
end Kv
end
section
namespace Kv
open Go.RowKit Go.Lib Pg
attribute [local go_sem] Oper.semAt_some
end Kv
end
section
namespace Kv
open Go.RowKit Go.Lib Pg
attribute [local go_sem] Oper.semAt_some
end Kv
end
section
namespace Kv
open Go.RowKit Go.Lib Pg
attribute [local go_sem] Oper.semAt_some
end Kv
end
section
namespace Kv
open Go.RowKit Go.Lib Pg
attribute [local go_sem] Oper.semAt_some
end Kv
end
section
namespace Kv
open Go.RowKit Go.Lib Pg
attribute [local go_sem] Oper.semAt_some
end Kv
end
section
namespace Kv
open Go.RowKit Go.Lib Pg
attribute [local go_sem] Oper.semAt_some
end Kv
end
section
namespace Kv
open Go.RowKit Go.Lib Pg
attribute [local go_sem] Oper.semAt_some
end Kv
end
section
namespace Kv
open Go.RowKit Go.Lib Pg
attribute [local go_sem] Oper.semAt_some
section
variable {ops:Array Oper} {rest:List Oper} {o:Oper} {a:Act} {w w1:World} {Q:Exit->Act->World->Prop} {K:Act->World->Prop} {Q':Exit->Act->World->Prop}
end
end Kv
end
section
namespace Kv
open Go.RowKit Go.Lib Pg
attribute [local go_sem] Oper.semAt_some
end Kv
end
section
namespace Kv
open Go.RowKit Go.Lib Pg
attribute [local go_sem] Oper.semAt_some
end Kv
end
end Go.Proofs.YtliajmpchofiiaaGreat
