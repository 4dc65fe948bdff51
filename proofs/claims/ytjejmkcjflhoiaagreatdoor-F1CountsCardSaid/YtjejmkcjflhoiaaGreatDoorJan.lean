import Derived.Test.YtjejmkcjflhoiaaGreatDoorJam
import Derived.Test.YtjejmkcjflhoiaaGreatDoorJaf
import Derived.Test.YtjejmkcjflhoiaaGreatDoorJad
set_option maxRecDepth 100000
set_option maxHeartbeats 8000000
namespace Go.Proofs.YtjejmkcjflhoiaaGreatDoor
section
open Go.RowKit Lim
section
variable {l L:List Int}{m:Nat}
theorem Ds(h:bE l):be l.length (bT l)=l:=by
 refine np (fj _ _) h (aP _ _) ?_
 have hb:=bR h;rw[qM _ hb.1,Int.emod_eq_of_lt hb.1 hb.2]
theorem iM(h:bE l)(hm:m<=l.length):be m (bT (l.take m))=l.take m:=by
 have:=Ds (l:=l.take m) (fun x hx=>h x (List.mem_of_mem_take hx));rwa [List.length_take,Nat.min_eq_left hm] at this
def One(err':Int)(L L':List Int)(laid:List Int->Prop):Prop:=(err'≠0/\L'=L)\/(err'=0/\∃ k,k<=L.length/\laid (L.take k)/\L'=L.drop k)
theorem Eh(h:bE L)(m:Nat):One (rdE (cZ m L) 0) L (rdL (cZ m L) 0 L) (fun t=>be m (rdV 0 (cZ m L) 0)=t):=by
 by_cases hm:m<=L.length
 ·have e:cZ m L=.inr (bT (L.take m),m):=by unfold cZ; rw[if_pos hm]
  rw[e];exact .inr ⟨rfl,m,hm,iM h hm,rfl⟩
 ·have e:cZ m L=.inl 40:=by unfold cZ; rw[if_neg hm]
  rw[e];exact .inl ⟨by decide,rfl⟩
theorem Cl(h:bE L):One (rdE (bL L) 0) L (rdL (bL L) 0 L) (fun t=>be 1 (if rdV false (bL L) 0 then 1 else 0)=t):=by
 by_cases hm:1<=L.length
 ·by_cases hx:1 < bT (L.take 1)
  ·have e:bL L=.inl 41:=by unfold bL; rw[if_pos hm,if_pos hx]
   rw[e];exact .inl ⟨by decide,rfl⟩
  ·have e:bL L=.inr (bT (L.take 1) == 1,1):=by unfold bL; rw[if_pos hm,if_neg hx]
   rw[e];refine .inr ⟨rfl,1,hm,?_,rfl⟩;have a:=iM h hm;have c:=(bR (l:=L.take 1) (fun x hx=>h x (List.mem_of_mem_take hx))).1
   show be 1 (if (bT (L.take 1) == 1)=true then 1 else 0)=L.take 1
   generalize L.take 1=M at *;by_cases b:bT M=1
   ·rw[b] at a ⊢;exact a
   ·rw[show bT M=0 by omega] at a ⊢;exact a
 ·have e:bL L=.inl 40:=by unfold bL; rw[if_neg hm]
  rw[e];exact .inl ⟨by decide,rfl⟩
theorem se(h:bE L):((bZ m L:Nat):Int)=bT (L.take m):=by
 unfold bZ;rw[Int.toNat_of_nonneg (bR (fun x hx=>h x (List.mem_of_mem_take hx))).1]
theorem CV(h:bE L)(hm:m<=L.length)(hc:m+bZ m L<=L.length):ga m ((L.drop m).take (bZ m L))=L.take (m+bZ m L):=by
 unfold ga
 have e:(((L.drop m).take (bZ m L)).length:Int)=bT (L.take m):=by
  rw[List.length_take,List.length_drop,Nat.min_eq_left (by omega)];exact se h
 rw[e,iM h hm,List.take_add]
theorem D0(h:bE L):One (rdE (bV L) 0) L (rdL (bV L) 0 L) (fun t=>ig (rdV 0 (bV L) 0) 0=0/\∀ K,jg (rdV 0 (bV L) 0) 0 K=K ++ t):=by
 by_cases hm:1<=L.length
 ·by_cases hc:1+bZ 1 L<=L.length
  ·by_cases f:0 < bZ 1 L/\nth (L.drop 1) 0=0
   ·have e:bV L=.inl 41:=by unfold bV; rw[if_pos hm,if_pos hc,if_pos f]
    rw[e];exact .inl ⟨by decide,rfl⟩
   ·have e:bV L=.inr (bT ((L.drop 1).take (bZ 1 L)),1 + bZ 1 L):=by unfold bV; rw[if_pos hm,if_pos hc,if_neg f]
    have d:=CV h hm hc
    have j:((bZ 1 L:Nat):Int) < 256:=by
     have:=(bR (l:=L.take 1) (fun x hx=>h x (List.mem_of_mem_take hx))).2;rw[List.length_take,Nat.min_eq_left hm] at this;rw[se h];simpa using this
    have a:bE ((L.drop 1).take (bZ 1 L)):=fun x hx=>h x (List.mem_of_mem_drop (List.mem_of_mem_take hx))
    have hlen:((L.drop 1).take (bZ 1 L)).length=bZ 1 L:=by rw[List.length_take,List.length_drop];omega
    have i:ee (bT ((L.drop 1).take (bZ 1 L)))=(L.drop 1).take (bZ 1 L):=lS (bR a).1 ⟨a,fun g=>by
     have b:0 < bZ 1 L:=by
      rcases Nat.eq_zero_or_pos (bZ 1 L) with c | c
      ·exact absurd (by rw[c];simp) g
      ·exact c
     rw[dz b]
     exact fun c=>f ⟨b,c⟩,rfl⟩
    rw[e];refine .inr ⟨rfl,_,hc,?_,rfl⟩
    show ig (bT ((L.drop 1).take (bZ 1 L))) 0=0/\∀ K,jg (bT ((L.drop 1).take (bZ 1 L))) 0 K=K ++ L.take (1+bZ 1 L)
    unfold ig jg;rw[i,if_pos (by omega)];refine⟨rfl,fun K=>?_⟩;rw[if_pos (by omega),d];rfl
  ·have e:bV L=.inl 40:=by unfold bV; rw[if_pos hm,if_neg hc]
   rw[e];exact .inl ⟨by decide,rfl⟩
 ·have e:bV L=.inl 40:=by unfold bV; rw[if_neg hm]
  rw[e];exact .inl ⟨by decide,rfl⟩
end
end
section
namespace Rc
open Go.RowKit Go.Lib Pg Lim
section
variable {l r:List Int}{m:Nat}{x:Int}
theorem r8(m:Nat)(l:List Int):(ga m l).length=m+l.length:=by
 unfold ga;rw[List.length_append,aP]
theorem iq(h:l.length=m):(l ++ r).take m=l/\(l ++ r).drop m=r:=by
 subst h;exact⟨List.take_left,List.drop_left⟩
theorem BG(m:Nat)(hx:0<=x)(r:List Int):cZ m (be m x ++ r)=.inr (x % 256 ^ m,m)/\(be m x ++ r).drop m=r:=by
 have h:=iq (r:=r) (aP m x);refine⟨?_,h.2⟩;unfold cZ;rw[if_pos (by rw[List.length_append,aP];omega),h.1,qM m hx]
theorem Et(hl:(l.length:Int) < 256 ^ m):bZ m (ga m l ++ r)=l.length:=by
 unfold bZ ga;rw[List.append_assoc,(iq (aP m _)).1,qM m (by omega),Int.emod_eq_of_lt (by omega) hl];rfl
theorem yK(m:Nat)(l r:List Int):(ga m l ++ r).drop m=l ++ r:=by
 unfold ga;rw[List.append_assoc,(iq (aP m _)).2]
theorem ze{V:Int}(f:0<=V)(g:(ee V).length < 256)(r:List Int):bV (ga 1 (ee V) ++ r)=.inr (V,1+(ee V).length)/\(ga 1 (ee V) ++ r).drop (1+(ee V).length)=r:=by
 have hc:bZ 1 (ga 1 (ee V) ++ r)=(ee V).length:=Et (by simpa using (by omega:((ee V).length:Int) < 256));have hd:=yK 1 (ee V) r;have b:=rn f;refine⟨?_,?_⟩
 ·unfold bV;rw[if_pos (by rw[List.length_append,r8];omega),hc,if_pos (by rw[List.length_append,r8];omega),hd,if_neg,(iq rfl).1,b.2.2];rintro⟨c,d⟩
  have a:ee V≠[]:=fun e=>by rw[e] at c;simp at c
  refine b.2.1 a ?_
  rw[<- d]
  cases hh:ee V with
  | nil=>exact absurd hh a
  | cons x t=>rfl
 ·rw[<- List.drop_drop,hd,(iq rfl).2]
theorem xN(x:Bool)(r:List Int):bL (be 1 (if x then 1 else 0) ++ r)=.inr (x,1)/\(be 1 (if x then 1 else 0) ++ r).drop 1=r:=by
 cases x
 ·exact⟨rfl,rfl⟩
 ·exact⟨rfl,rfl⟩
theorem one1(h:bE l)(k:Nat)(he:rdE (p1 k l) 0=0):gK k (rdV 0 (p1 k l) 0) ++ rdL (p1 k l) 0 l=l/\∃ m,rdL (p1 k l) 0 l=l.drop m:=by
 match k with
 | 0 =>
  rcases Eh h 8 with⟨h1,_⟩ | ⟨_,m,h2,h3,h4⟩
  ·exact absurd he h1
  ·show be 8 (rdV 0 (cZ 8 l) 0) ++ rdL (cZ 8 l) 0 l=l/\∃ m,rdL (cZ 8 l) 0 l=l.drop m
   rw[h3,h4];exact⟨List.take_append_drop m l,m,rfl⟩
 | 1 =>
  have a:rdE (bL l) 0=0:=by rw[<- nL];exact he
  rcases Cl h with⟨h1,_⟩ | ⟨_,m,h2,h3,h4⟩
  ·exact absurd a h1
  ·show be 1 (rdV 0 (dV l) 0) ++ rdL (dV l) 0 l=l/\∃ m,rdL (dV l) 0 l=l.drop m
   rw[nE,ox,h3,h4];exact⟨List.take_append_drop m l,m,rfl⟩
 | k + 2 =>
  rcases D0 h with⟨h1,_⟩ | ⟨_,m,h2,⟨h3,h5⟩,h4⟩
  ·exact absurd he h1
  ·show ga 1 (ee (fit (rdV 0 (bV l) 0))) ++ rdL (bV l) 0 l=l/\∃ m,rdL (bV l) 0 l=l.drop m
   have hf:(ee (rdV 0 (bV l) 0)).length < 256:=by
    unfold ig at h3;split at h3
    ·assumption
    ·exact absurd h3 (by decide)
   have e:=h5 [];unfold jg wrote at e;rw[if_pos hf,if_pos rfl] at e;unfold fit;rw[if_pos hf];simp only[List.nil_append] at e;rw[e,h4];exact⟨List.take_append_drop m l,m,rfl⟩
theorem eh{σ:Type}(nx:Nat->Nat->σ->σ)(p:Nat × Nat)(ks:List (Nat × Nat))(s:σ):thr nx (p :: ks) s=thr nx ks (nx p.1 p.2 s):=rfl
theorem Ef(a:List (Nat × Nat)):∀ s:RSt,s.1≠0->(thr rnx a s).1=s.1:=by
 induction a with
 | nil=>intro s _;rfl
 | cons p a ih =>
  intro s hs
  have e:(rnx p.1 p.2 s).1=s.1:=qp hs;rw[eh,ih _ (by rw[e];exact hs),e]
theorem xy(a:List (Nat × Nat))(o:Nat):∀ s:RSt,o ∉ a.map Prod.snd->(thr rnx a s).2.2 o=s.2.2 o:=by
 induction a with
 | nil=>intro s _;rfl
 | cons p a ih =>
  intro s b;rw[List.map_cons,List.mem_cons,not_or] at b;rw[eh,ih _ b.2]
  show (if o=p.2 then _ else _)=_
  rw[if_neg b.1]
theorem rN(h:bE l)(m:Nat):bE (l.drop m):=fun x hx=>h x (List.mem_of_mem_drop hx)
theorem D8(a:List (Nat × Nat)):∀ (l:List Int) (xs:Nat->Int),bE l->(a.map Prod.snd).Nodup->(thr rnx a (0,l,xs)).1=0->∀ L,thr (pnx (thr rnx a (0,l,xs)).2.2) a L ++ (thr rnx a (0,l,xs)).2.1=L ++ l:=by
 induction a with
 | nil=>intro l xs _ _ _ L;rfl
 | cons p a ih =>
  intro l xs e b he L;rw[List.map_cons,List.nodup_cons] at b;rw[eh] at he
  have e1:rdE (p1 p.1 l) 0=0:=by
   by_cases d:rdE (p1 p.1 l) 0=0
   ·exact d
   ·exact absurd ((Ef a (rnx p.1 p.2 (0,l,xs)) d).symm.trans he) d
  obtain⟨f,m,h⟩:=one1 e p.1 e1
  have es:rnx p.1 p.2 (0,l,xs)=(0,rdL (p1 p.1 l) 0 l,fun i=>if i=p.2 then rdV 0 (p1 p.1 l) 0 else xs i):=by
   show (rdE (p1 p.1 l) 0,_,_)=_
   rw[e1]
  have g:thr rnx (p :: a) (0,l,xs)=thr rnx a (0,rdL (p1 p.1 l) 0 l,fun i=>if i=p.2 then rdV 0 (p1 p.1 l) 0 else xs i):=by rw[eh,es]
  rw[es] at he;rw[g]
  have c:=ih _ _ (by rw[h];exact rN e m) b.2 he;rw[eh,c]
  have ev:(thr rnx a (0,rdL (p1 p.1 l) 0 l,fun i=>if i=p.2 then rdV 0 (p1 p.1 l) 0 else xs i)).2.2 p.2=rdV 0 (p1 p.1 l) 0:=by
   rw[xy a p.2 _ b.1]
   show (if p.2=p.2 then _ else _)=_
   rw[if_pos rfl]
  show (L ++ gK p.1 _) ++ _=L ++ l
  rw[ev,List.append_assoc,f]
def rng:Nat->Int->Prop
 | 0,x=>0<=x/\x < 18446744073709551616
 | 1,x=>x=0\/x=1
 | _,x=>0<=x
def fitk:Nat->Int->Int
 | 0,x=>x
 | 1,x=>x
 | _,x=>fit x
theorem back1(k:Nat)(hx:rng k x)(r:List Int):∃ m,p1 k (gK k x ++ r)=.inr (fitk k x,m)/\(gK k x ++ r).drop m=r:=by
 match k,hx with
 | 0,hx =>
  obtain⟨a,b⟩:=BG 8 hx.1 r;refine⟨8,?_,b⟩
  show cZ 8 (be 8 x ++ r)=_
  rw[a,Int.emod_eq_of_lt hx.1 (by have:=hx.2;simpa using this)];rfl
 | 1,hx =>
  have key:∀ t:Bool,∃ m,dV (be 1 (if t then 1 else 0) ++ r)=.inr ((if t then 1 else 0),m)/\(be 1 (if t then 1 else 0) ++ r).drop m=r:=fun t=>by
   obtain⟨a,b⟩:=xN t r;refine⟨1,?_,b⟩;unfold dV;rw[a]
  rcases hx with rfl | rfl
  ·exact key false
  ·exact key true
 | k + 2,hx =>
  have c:0<=fit x:=by
   unfold fit;split
   ·exact hx
   ·decide
  obtain⟨a,b⟩:=ze c (jd x) r;exact⟨_,a,b⟩
theorem sA(b:Nat->Int)(a:List (Nat × Nat)):∀ (r:List Int) (xs:Nat->Int),(a.map Prod.snd).Nodup->(∀ p∈a,rng p.1 (b p.2))->∃ ys,thr rnx a (0,thr (pnx b) a [] ++ r,xs)=(0,r,ys)/\(∀ p∈a,ys p.2=fitk p.1 (b p.2))/\∀ o,o ∉ a.map Prod.snd->ys o=xs o:=by
 have hL:∀ (a:List (Nat × Nat)) (L:List Int),thr (pnx b) a L=L ++ thr (pnx b) a []:=by
  intro a
  induction a with
  | nil=>intro L;simp[thr]
  | cons p a ih =>
   intro L;rw[eh,eh,ih (pnx b p.1 p.2 L),ih (pnx b p.1 p.2 [])];simp[pnx,List.append_assoc]
 induction a with
 | nil=>exact fun r xs _ _=>⟨xs,rfl,(fun p j=>by cases j),fun _ _=>rfl⟩
 | cons p a ih =>
  intro r xs c f;rw[List.map_cons,List.nodup_cons] at c;obtain⟨m,g,h⟩:=back1 p.1 (f p List.mem_cons_self) (thr (pnx b) a [] ++ r)
  have el:thr (pnx b) (p :: a) [] ++ r=gK p.1 (b p.2) ++ (thr (pnx b) a [] ++ r):=by
   rw[eh,hL];simp[pnx,List.append_assoc]
  rw[el,eh]
  have es:rnx p.1 p.2 (0,gK p.1 (b p.2) ++ (thr (pnx b) a [] ++ r),xs)=(0,thr (pnx b) a [] ++ r,fun i=>if i=p.2 then fitk p.1 (b p.2) else xs i):=by
   show (rdE (p1 p.1 _) 0,rdL (p1 p.1 _) 0 _,fun i=>if i=p.2 then rdV 0 (p1 p.1 _) 0 else xs i)=_
   rw[g]
   show (_,List.drop m _,_)=_
   rw[h];rfl
  rw[es];obtain⟨ys,e1,e2,e3⟩:=ih r _ c.2 (fun q d=>f q (List.mem_cons_of_mem _ d));refine⟨ys,e1,fun q d=>?_,fun o e=>?_⟩
  ·rcases List.mem_cons.1 d with rfl | d
   ·rw[e3 _ c.1]
    show (if q.2=q.2 then _ else _)=_
    rw[if_pos rfl]
   ·exact e2 q d
  ·rw[List.map_cons,List.mem_cons,not_or] at e;rw[e3 o e.2]
   show (if o=p.2 then _ else _)=_
   rw[if_neg e.1]
end
end Rc
end
section
namespace Rc
open Go.RowKit Go.Lib Pg
attribute [local go_sem] Oper.semAt_some
theorem Ab (k:Nat) (x:Int):bE (gK k x):=by
 unfold gK;split
 ·exact fj _ _
 ·exact fj _ _
 ·intro y hy;rcases List.mem_append.1 hy with h | h
  ·exact fj _ _ y h
  ·exact yV _ y h
theorem wK (xs:Nat->Int) (a:List (Nat × Nat)):∀ L,bE L->bE (thr (pnx xs) a L):=by
 induction a with
 | nil=>exact fun _ h=>h
 | cons p a ih =>
  intro L h;rw[eh];refine ih _ ?_
  intro y hy;rcases List.mem_append.1 hy with b | b
  ·exact h y b
  ·exact Ab _ _ y b
end Rc
end
section
namespace Rc
open Go.RowKit Go.Lib Pg
attribute [local go_sem] Oper.semAt_some
end Rc
end
section
open Go.RowKit Lim
def stB (s:Stp):Option (List Int) :=
 if s.what=0 then some (be 1 (s.num % 256))
 else if s.what=1 then some (be 4 (s.num % 4294967296))
 else if s.what=2 then some (be 8 s.num)
 else if s.what=3 then some (be 1 (if s.num % 2 == 1 then 1 else 0))
 else if s.what=4\/s.what=5 then (if (ee s.V).length < 256 then some (ga 1 (ee s.V)) else none)
 else if s.what=6 then some (ga 4 s.bl)
 else some []
def stO (s:Stp) (o:Option (List Int)):Option (List Int):=o.bind fun L=>(stB s).map (L ++ ·)
def laid (ss:List Stp):Option (List Int):=ss.foldl (fun o s=>stO s o) (some [])
end
section
open Go.RowKit Lim
end
section
open Go.RowKit Lim
end
section
open Go.RowKit Lim
end
section
open Go.RowKit Lim
end
section
open Go.RowKit Lim
end
section
open Go.RowKit Lim
end
section
open Go.RowKit Lim
end
section
namespace Rc
open Go.RowKit Go.Lib Pg Lim
attribute [local go_sem] Oper.semAt_some
end Rc
end
section
namespace Rc
open Go.RowKit Go.Lib Pg Lim
attribute [local go_sem] Oper.semAt_some
end Rc
end
section
namespace Rc
open Go.RowKit Go.Lib Pg Lim
theorem xZ {err:Int} {l:List Int} (h:gG err l=0):err=0/\l=[]:=by
 unfold gG at h;split at h
 ·rename_i he;split at h
  ·rename_i a;exact⟨he,List.eq_nil_of_length_eq_zero a⟩
  ·exact absurd h (by decide)
 ·exact absurd h (by assumption)
theorem ones (a:List (Nat × Nat)) (l:List Int) (c:bE l) (b:(a.map Prod.snd).Nodup) (h:gG (thr rnx a (0,l,fun _=>0)).1 (thr rnx a (0,l,fun _=>0)).2.1=0):thr (pnx (thr rnx a (0,l,fun _=>0)).2.2) a []=l:=by
 obtain⟨e,d⟩:=xZ h;have:=D8 a l (fun _=>0) c b e [];rw[d,List.append_nil,List.nil_append] at this;exact this
end Rc
end
section
open Go.RowKit Lim
end
section
namespace Rc
open Go.RowKit Go.Lib Pg Lim
attribute [local go_sem] Oper.semAt_some
end Rc
end
section
namespace Rc
open Go.RowKit Go.Lib Pg Lim Gl
section
variable {xs:Nat->Int}{w w':World}{e:Ending}{bb n c:Nat}{ao:Option Addr}{l:List Int}
def jf(s:RSt):Int:=if gG s.1 s.2.1=0 then 0 else 80
def gH(s:RSt):Nat->Int:=if gG s.1 s.2.1=0 then s.2.2 else fun _=>0
theorem uD{s:RSt}{r:Int}(a:gG s.1 s.2.1=0->r=0/\xs=s.2.2)(b:gG s.1 s.2.1≠0->r=80/\xs=fun _=>0):xs=gH s/\r=jf s:=by
 unfold gH jf;by_cases h:gG s.1 s.2.1=0
 ·rw[if_pos h,if_pos h];exact⟨(a h).2,(a h).1⟩
 ·rw[if_neg h,if_neg h];exact⟨(b h).2,(b h).1⟩
theorem outChain{s:RSt}(h:qF w fi 2 mkA s e w'):e=.returned (.tuple #[.agg #[.int .u64 (gH s 0),.int .u64 (gH s 1)],.int .i64 (jf s)])/\Below w.heap.size w w':=by
 obtain⟨⟨cs,xs,r,rfl,f,b,c,d⟩,B⟩:=h;obtain⟨e1,e2⟩:=uD c d;subst e1 e2;have q0:=(b 0).1 rfl;have q1:=(b 1).1 rfl
 have a:cs=[.int .u64 (gH s 0),.int .u64 (gH s 1)]:=by
  refine List.ext_getElem? fun i=>?_
  rcases Nat.lt_or_ge i 2 with hi | hi
  ·match i,hi with
   | 0,_=>exact q0
   | 1,_=>exact q1
   | n+2,h=>exact absurd h (by omega)
  ·rw[List.getElem?_eq_none (by omega),List.getElem?_eq_none hi]
 subst a;exact⟨rfl,B⟩
def de(l:List Int):RSt:=thr rnx [(2,0),(0,1)] (0,l,fun _=>0)
theorem uT{s:RSt}(h:qF w aX 2 mkA s e w'):∃ a0 n0 c0,e=.returned (.tuple #[.agg #[.slice a0 n0 c0,.int .u64 (gH s 1)],.int .i64 (jf s)])/\(fO w' w.heap.size a0 n0 c0 (gH s 0)/\n0<=510)/\Below w.heap.size w w':=by
 obtain⟨⟨cs,xs,r,rfl,g,b,c,f⟩,B⟩:=h;obtain⟨e1,e2⟩:=uD c f;subst e1 e2;obtain⟨a0,n0,c0,q0,d,z0⟩:=(b 0).2.2 rfl;have q1:=(b 1).1 rfl
 have a:cs=[.slice a0 n0 c0,.int .u64 (gH s 1)]:=by
  refine List.ext_getElem? fun i=>?_
  rcases Nat.lt_or_ge i 2 with hi | hi
  ·match i,hi with
   | 0,_=>exact q0
   | 1,_=>exact q1
   | n+2,h=>exact absurd h (by omega)
  ·rw[List.getElem?_eq_none (by omega),List.getElem?_eq_none hi]
 subst a;exact⟨a0,n0,c0,rfl,⟨d,by omega⟩,B⟩
theorem AR(A:ByA w bb ao n c l)(hn:n<=1000000000):Calls Tryz.prog 121 #[.slice ao n c] w fun e w'=>∃ a0 n0 c0,e=.returned (.tuple #[.agg #[.slice a0 n0 c0,.int .u64 (gH (de l) 1)],.int .i64 (jf (de l))])/\(fO w' w.heap.size a0 n0 c0 (gH (de l) 0)/\n0<=510)/\Below w.heap.size w w':=by
 refine(rY A hn (by obtain⟨o,a,_⟩:=A.ex;exact a)).mono ?_
 intro e w' h;exact uT h
def lP(l:List Int):RSt:=thr rnx [(0,0),(0,1)] (0,l,fun _=>0)
theorem outCut{s:RSt}(h:qF w cJ 2 mkA s e w'):e=.returned (.tuple #[.agg #[.int .u64 (gH s 0),.int .u64 (gH s 1)],.int .i64 (jf s)])/\Below w.heap.size w w':=by
 obtain⟨⟨cs,xs,r,rfl,f,b,c,d⟩,B⟩:=h;obtain⟨e1,e2⟩:=uD c d;subst e1 e2;have q0:=(b 0).1 rfl;have q1:=(b 1).1 rfl
 have a:cs=[.int .u64 (gH s 0),.int .u64 (gH s 1)]:=by
  refine List.ext_getElem? fun i=>?_
  rcases Nat.lt_or_ge i 2 with hi | hi
  ·match i,hi with
   | 0,_=>exact q0
   | 1,_=>exact q1
   | n+2,h=>exact absurd h (by omega)
  ·rw[List.getElem?_eq_none (by omega),List.getElem?_eq_none hi]
 subst a;exact⟨rfl,B⟩
theorem oCut(A:ByA w bb ao n c l)(hn:n<=1000000000):Calls Tryz.prog 77 #[.slice ao n c] w fun e w'=>e=.returned (.tuple #[.agg #[.int .u64 (gH (lP l) 0),.int .u64 (gH (lP l) 1)],.int .i64 (jf (lP l))])/\Below w.heap.size w w':=by
 refine(EE A hn (by obtain⟨o,a,_⟩:=A.ex;exact a)).mono ?_
 intro e w' h;exact outCut h
end
end Rc
end
end Go.Proofs.YtjejmkcjflhoiaaGreatDoor
