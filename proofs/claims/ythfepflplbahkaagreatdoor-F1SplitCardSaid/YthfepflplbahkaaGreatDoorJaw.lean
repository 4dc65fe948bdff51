import Derived.Test.YthfepflplbahkaaGreatDoorJai
import Derived.Lib.SlBytesConst
set_option maxRecDepth 100000
set_option maxHeartbeats 8000000
namespace Go.Proofs.YthfepflplbahkaaGreatDoor
section
namespace Kv
open Go.RowKit Go.Lib Pg
attribute [local go_sem] Oper.semAt_some
end Kv
end
section
namespace Kv
open Go.RowKit Go.Lib Pg
attribute [local go_sem] Oper.semAt_some
structure Ste where
 what:Int
 num:Int
 ka:Option Addr
 kc:Nat
 kl:List Int
 va:Option Addr
 vc:Nat
 vl:List Int
end Kv
end
section
namespace Kv
open Go.RowKit Go.Lib Pg
attribute [local go_sem] Oper.semAt_some
def setd (E:aD) (k v:List Int):aD:=if iP k v=0 then put E k v else E
def chgd (E:aD) (what:Int) (k v:List Int):aD:=if what.tmod 2=0 then setd E k v else rem E k
end Kv
end
section
namespace Kv
open Go.RowKit Go.Lib Pg
end Kv
end
section
namespace Kv
open Go.RowKit Go.Lib Pg
end Kv
end
section
namespace Kv
open Go.RowKit Go.Lib Pg
theorem il {X Y:aD} {k v x:List Int} (h:¬ k=x):look (X ++ (k,v) :: Y) x=look (X ++ Y) x:=by
 unfold look;rw[List.find?_append,List.find?_append,List.find?_cons];simp[h]
theorem rH {E:aD} (h:eM E) (k v x:List Int):look (put E k v) x=if k=x then some v else look E x:=by
 obtain⟨X,Y,c,⟨rfl,_⟩ | ⟨y,rfl,_⟩⟩:=h.cut k
 ·rw[c.xa];split
  ·rename_i e; subst e; exact c.oy
  ·rename_i e; exact il e
 ·rw[c.wU];split
  ·rename_i e; subst e; exact c.oy
  ·rename_i e; rw[il e,il e]
theorem rW {E:aD} (h:eM E) (k x:List Int):look (rem E k) x=if k=x then none else look E x:=by
 obtain⟨X,Y,c,⟨rfl,_⟩ | ⟨y,rfl,_⟩⟩:=h.cut k
 ·rw[c.yx];split
  ·rename_i e; subst e; exact c.qZ
  ·rfl
 ·rw[c.B9];split
  ·rename_i e; subst e; exact c.qZ
  ·rename_i e; rw[il e]
abbrev good (s:Ste):Prop:=¬ s.what.tmod 2=0\/(1<=s.kl.length/\s.kl.length<=64/\s.vl.length<=4096)
def run (ss : List Ste) : Nat → aD
  | 0 => []
  | j + 1 => match ss[j]? with
    | some s => chgd (run ss j) s.what s.kl s.vl
    | none => run ss j
end Kv
end
end Go.Proofs.YthfepflplbahkaaGreatDoor
