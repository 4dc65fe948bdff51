import Derived.Test.YtpoifdokmjhclaaGreatJgI
set_option maxRecDepth 100000
set_option maxHeartbeats 8000000
namespace Go.Proofs.YtpoifdokmjhclaaGreat
section
namespace Sd
open Go.RowKit Go.Lib Pg Lim Gl Kv Bk Pw
attribute [local go_sem] Oper.semAt_some
set_option linter.unusedSimpArgs false
set_option linter.unusedVariables false
theorem zD {w:World} {x:Int} {r:Bool} (hr:decide (16<=x)=r):cB 83 #[.int .u64 x] w (.bool r):=by
 have a:=Below.refl w.heap.size w;refine af (n:=5) Tryz.func83 rfl ?_
 refine sr<|tz 1<|nx<|tz 1 ?_
 by_cases c1:(16:Int)<=x
 ·refine tq 4 (.bool (decide ((16:Int)<=x))) (.bool true) (congrArg Value.bool (decide_eq_true c1))<|tz 1<|nr<|ah (.bool true) (rs1 2) ?_
  exact⟨by rw[<- hr];simp;omega,a⟩
 ·refine tq 4 (.bool (decide ((16:Int)<=x))) (.bool false) (congrArg Value.bool (decide_eq_false c1))<|tz 1<|nr<|ah (.bool false) (rs1 2) ?_
  exact⟨by rw[<- hr];simp;omega,a⟩
end Sd
end
section
namespace Mg
open Go.RowKit Go.Lib Pg Lim Gl
def In8 (x:Int):Prop:=0<=x/\x < 18446744073709551616
abbrev St:=Int × List Int
def rU (m:Nat) (s:St):Int × St:=(rdV 0 (cQ m s.2) s.1,rdE (cQ m s.2) s.1,rdL (cQ m s.2) s.1 s.2)
theorem tu (m:Nat) (x:Int) (r:List Int) (b:0<=x) (h1:x < 256 ^ m):rU m (0,be m x ++ r)=(x,0,r):=by
 have a:=aI m x
 have c:cQ m (be m x ++ r)=.inr (x,m):=by
  unfold cQ;rw[if_pos (by rw[List.length_append];omega),List.take_left' a,po m b,Int.emod_eq_of_lt b h1]
 simp only[rU,c,rdV,rdE,rdL,if_pos];rw[List.drop_left' a]
theorem pI {m:Nat} {s:St} {x:Int} {s':St} (e:rU m s=(x,s')) (ho:aK s.2):(aK s'.2/\0<=x/\x < 256 ^ m)/\(s'.1=0->s.1=0/\s.2=be m x ++ s'.2):=by
 obtain⟨err,l⟩:=s
 have b:(0:Int) < 256 ^ m:=Int.pow_pos (by decide);simp only[rU,Prod.mk.injEq] at e;obtain⟨e1,e2⟩:=e;subst e2;simp only at e1 ⊢;by_cases he:err=0
 ·subst he;by_cases hm:m<=l.length
  ·have hq:cQ m l=.inr (bP (l.take m),m):=by unfold cQ; rw[if_pos hm]
   simp only[hq,rdV,rdE,rdL,if_pos] at e1 ⊢;subst e1
   have a:aK (l.take m):=fun y hy=>ho y (List.mem_of_mem_take hy)
   refine⟨⟨fun y hy=>ho y (List.mem_of_mem_drop hy),?_⟩,fun _=>⟨trivial,?_⟩⟩
   ·have h:=fG ho hm;have c:=(bL a).1;have f:=po m c;rw[h] at f;have d:=Int.emod_lt_of_pos (bP (l.take m)) b;rw[<- f] at d;exact⟨c,d⟩
   ·rw[fG ho hm,List.take_append_drop]
  ·have hq:cQ m l=.inl 40:=by unfold cQ; rw[if_neg hm]
   simp only[hq,rdV,rdE,rdL,if_pos] at e1 ⊢;subst e1;exact⟨⟨ho,Int.le_refl _,b⟩,fun h=>absurd h (by decide)⟩
 ·rw[qm he] at e1;subst e1;rw[lI he,pX he];exact⟨⟨ho,Int.le_refl _,b⟩,fun h=>absurd h he⟩
theorem iB {a b:List Int} (ha:aK a) (hb:aK b):aK (a ++ b):=fun y hy=>(List.mem_append.1 hy).elim (ha y) (hb y)
theorem p8:(256:Int) ^ 8=18446744073709551616:=by decide
theorem r8 {x:Int} {r:List Int} (h:In8 x):rU 8 (0,be 8 x ++ r)=(x,0,r):=tu 8 x r h.1 (by rw[p8];exact h.2)
end Mg
end
end Go.Proofs.YtpoifdokmjhclaaGreat
