/- Several texts, joined: KvCb, KvLi, KvCc, KvCd, KvCe, KvCg, KvCf, KvDa, KvDb, KvDc, KvDd, KvDe, KvDf, KvDg, KvDh, KvDi, KvDj, KvDk, KvDl, KvDm. -/
import Derived.Test.YtcpnipcgedfgdaaGreatJad
import Derived.Lib.SlBytesConst
set_option maxRecDepth 100000
set_option maxHeartbeats 8000000
namespace Go.Proofs.YtcpnipcgedfgdaaGreat
section
namespace Kv
open Go.RowKit Go.Lib Pg
attribute [local go_sem] Oper.semAt_some
end Kv
end
section
namespace Kv
open Go.RowKit Go.Lib Pg
attribute [local go_sem] Oper.semAt_some
structure Ste where
 what:Int
 num:Int
 ka:Option Addr
 kc:Nat
 kl:List Int
 va:Option Addr
 vc:Nat
 vl:List Int
end Kv
end
section
namespace Kv
open Go.RowKit Go.Lib Pg
attribute [local go_sem] Oper.semAt_some
def setd (E:Ents) (k v:List Int):Ents:=if setE k v=0 then put E k v else E
def chgd (E:Ents) (what:Int) (k v:List Int):Ents:=if what.tmod 2=0 then setd E k v else rem E k
end Kv
end
section
namespace Kv
open Go.RowKit Go.Lib Pg
structure K2 (w0 w:World) (f:Fm) (g:Nat) (E:Ents) (W:List Ents) (g2:Nat) (E2:Ents) (W2:List Ents) (B:Nat):Prop where
 ex:∃ n2 N2,KB w0 w (f.st ⟨g2,E2,W2,n2,N2⟩) g E W B/\n2<=10 * B/\N2<=2 * B
end Kv
end
section
namespace Kv
open Go.RowKit Go.Lib Pg
end Kv
end
section
namespace Kv
open Go.RowKit Go.Lib Pg
theorem look_skip {X Y:Ents} {k v x:List Int} (h:¬ k=x):look (X ++ (k,v) :: Y) x=look (X ++ Y) x:=by
 unfold look
 rw [List.find?_append,List.find?_append,List.find?_cons]
 simp [h]
theorem look_put {E:Ents} (h:Rise E) (k v x:List Int):look (put E k v) x=if k=x then some v else look E x:=by
 obtain ⟨X,Y,c,⟨rfl,_⟩ | ⟨y,rfl,_⟩⟩:=h.cut k
 ·rw [c.put0]
  split
  ·rename_i e; subst e; exact c.look1
  ·rename_i e; exact look_skip e
 ·rw [c.put1]
  split
  ·rename_i e; subst e; exact c.look1
  ·rename_i e; rw [look_skip e,look_skip e]
def good (s:Ste):Prop:=¬ s.what.tmod 2=0\/(1<=s.kl.length/\s.kl.length<=64/\s.vl.length<=4096)
instance (s:Ste):Decidable (good s):=by unfold good; infer_instance
def run (ss : List Ste) : Nat → Ents
  | 0 => []
  | j + 1 => match ss[j]? with
    | some s => chgd (run ss j) s.what s.kl s.vl
    | none => run ss j
end Kv
end
section
namespace Kv
open Go.RowKit Go.Lib Pg
attribute [local go_sem] Oper.semAt_some
structure Pq (w:World) (B:Nat) (D:Nat->Prop) (v:Value) (es:List En):Prop where
 ex:(v=.slice none 0 0/\es=[])\/∃ b c,v=.slice (some ⟨b,0,none⟩) es.length c/\B<=b/\Rw w 121 2 b es.length c (flat es)
 ents:∀ e∈es,EnA w D e
end Kv
end
section
namespace Kv
open Go.RowKit Go.Lib Pg
attribute [local go_sem] Oper.semAt_some
end Kv
end
section
namespace Kv
open Go.RowKit Go.Lib Pg
attribute [local go_sem] Oper.semAt_some
structure Pl (w:World) (z:Nat->Prop) (X:Nat->Prop) (v:Value) (F:Ents):Prop where
 ex:∃ es,Pq w 0 z v es/\es.map En.kl2=F
 blk:∀ b m c,v=.slice (some ⟨b,0,none⟩) m c->X b
structure WsA (w:World) (z:Nat->Prop) (X:Nat->Prop) (wv:Value) (W:List Ents):Prop where
 ex:(wv=.slice none 0 0/\W=[])\/∃ b c vs,wv=.slice (some ⟨b,0,none⟩) W.length c/\X b/\Rw w 27 1 b W.length c vs/\∀ (i:Nat) v F,vs[i]? = some v->W.reverse[i]? = some F->Pl w z X v F
structure RS (w:World) (z:Nat->Prop) (X:Nat->Prop) (q:Nat) (E:Ents) (W:List Ents) (n:Nat):Prop where
 ex:∃ lv wv,Blk w q [lv,wv,.int .i64 n] 30/\Pl w z X lv E/\WsA w z X wv W
 xq:X q
 xz:∀ b,X b->z b/\b < w.heap.size
 rise:Rise E
 small:∀ x∈E,x.1.length<=1000000000/\x.2.length<=1000000000
end Kv
end
section
namespace Kv
open Go.RowKit Go.Lib Pg
attribute [local go_sem] Oper.semAt_some
end Kv
end
section
namespace Kv
open Go.RowKit Go.Lib Pg
attribute [local go_sem] Oper.semAt_some
end Kv
end
section
namespace Kv
open Go.RowKit Go.Lib Pg
attribute [local go_sem] Oper.semAt_some
end Kv
end
section
namespace Kv
open Go.RowKit Go.Lib Pg
attribute [local go_sem] Oper.semAt_some
end Kv
end
section
namespace Kv
open Go.RowKit Go.Lib Pg
attribute [local go_sem] Oper.semAt_some
end Kv
end
section
namespace Kv
open Go.RowKit Go.Lib Pg
attribute [local go_sem] Oper.semAt_some
end Kv
end
section
namespace Kv
open Go.RowKit Go.Lib Pg
attribute [local go_sem] Oper.semAt_some
end Kv
end
section
namespace Kv
open Go.RowKit Go.Lib Pg
attribute [local go_sem] Oper.semAt_some
end Kv
end
section
namespace Kv
open Go.RowKit Go.Lib Pg
attribute [local go_sem] Oper.semAt_some
section
variable {ops:Array Oper} {rest:List Oper} {o:Oper} {a:Act} {w w1:World} {Q:Exit->Act->World->Prop} {K:Act->World->Prop} {Q':Exit->Act->World->Prop}
end
end Kv
end
section
namespace Kv
open Go.RowKit Go.Lib Pg
attribute [local go_sem] Oper.semAt_some
end Kv
end
section
namespace Kv
open Go.RowKit Go.Lib Pg
attribute [local go_sem] Oper.semAt_some
end Kv
end
end Go.Proofs.YtcpnipcgedfgdaaGreat
