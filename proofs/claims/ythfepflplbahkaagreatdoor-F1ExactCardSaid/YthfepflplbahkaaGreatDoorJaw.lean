import Derived.Test.YthfepflplbahkaaGreatDoorJai
import Derived.Lib.SlBytesConst
set_option maxRecDepth 100000
set_option maxHeartbeats 8000000
namespace Go.Proofs.YthfepflplbahkaaGreatDoor
section
namespace Kv
open Go.RowKit Go.Lib Pg
attribute [local go_sem] Oper.semAt_some
end Kv
end
section
namespace Kv
open Go.RowKit Go.Lib Pg
attribute [local go_sem] Oper.semAt_some
structure Ste where
 what:Int
 num:Int
 ka:Option Addr
 kc:Nat
 kl:List Int
 va:Option Addr
 vc:Nat
 vl:List Int
end Kv
end
section
namespace Kv
open Go.RowKit Go.Lib Pg
attribute [local go_sem] Oper.semAt_some
def setd (E:aE) (k v:List Int):aE:=if iW k v=0 then put E k v else E
def chgd (E:aE) (what:Int) (k v:List Int):aE:=if what.tmod 2=0 then setd E k v else rem E k
end Kv
end
section
namespace Kv
open Go.RowKit Go.Lib Pg
end Kv
end
section
namespace Kv
open Go.RowKit Go.Lib Pg
end Kv
end
section
namespace Kv
open Go.RowKit Go.Lib Pg
theorem iu {X Y:aE} {k v x:List Int} (h:¬ k=x):look (X ++ (k,v) :: Y) x=look (X ++ Y) x:=by
 unfold look;rw[List.find?_append,List.find?_append,List.find?_cons];simp[h]
theorem q8 {E:aE} (h:eP E) (k v x:List Int):look (put E k v) x=if k=x then some v else look E x:=by
 obtain⟨X,Y,c,⟨rfl,_⟩ | ⟨y,rfl,_⟩⟩:=h.cut k
 ·rw[c.wY];split
  ·rename_i e; subst e; exact c.nV
  ·rename_i e; exact iu e
 ·rw[c.vK];split
  ·rename_i e; subst e; exact c.nV
  ·rename_i e; rw[iu e,iu e]
theorem rV {E:aE} (h:eP E) (k x:List Int):look (rem E k) x=if k=x then none else look E x:=by
 obtain⟨X,Y,c,⟨rfl,_⟩ | ⟨y,rfl,_⟩⟩:=h.cut k
 ·rw[c.Ai];split
  ·rename_i e; subst e; exact c.qP
  ·rfl
 ·rw[c.DF];split
  ·rename_i e; subst e; exact c.qP
  ·rename_i e; rw[iu e]
abbrev good (s:Ste):Prop:=¬ s.what.tmod 2=0\/(1<=s.kl.length/\s.kl.length<=64/\s.vl.length<=4096)
def run (ss : List Ste) : Nat → aE
  | 0 => []
  | j + 1 => match ss[j]? with
    | some s => chgd (run ss j) s.what s.kl s.vl
    | none => run ss j
end Kv
end
end Go.Proofs.YthfepflplbahkaaGreatDoor
