import Derived.Test.YtjejmkcjflhoiaaGreatDoorJam
import Derived.Test.YtjejmkcjflhoiaaGreatDoorJaf
import Derived.Test.YtjejmkcjflhoiaaGreatDoorJad
set_option maxRecDepth 100000
set_option maxHeartbeats 8000000
namespace Go.Proofs.YtjejmkcjflhoiaaGreatDoor
section
open Go.RowKit Lim
section
variable {l L:List Int}{m:Nat}
theorem DM(h:bE l):be l.length (bU l)=l:=by
 refine nW (fk _ _) h (aP _ _) ?_
 have hb:=bS h;rw[qX _ hb.1,Int.emod_eq_of_lt hb.1 hb.2]
theorem iV(h:bE l)(hm:m<=l.length):be m (bU (l.take m))=l.take m:=by
 have:=DM (l:=l.take m) (fun x hx=>h x (List.mem_of_mem_take hx));rwa [List.length_take,Nat.min_eq_left hm] at this
def One(err':Int)(L L':List Int)(laid:List Int->Prop):Prop:=(err'≠0/\L'=L)\/(err'=0/\∃ k,k<=L.length/\laid (L.take k)/\L'=L.drop k)
theorem CJ(h:bE L)(m:Nat):One (rdE (cZ m L) 0) L (rdL (cZ m L) 0 L) (fun t=>be m (rdV 0 (cZ m L) 0)=t):=by
 by_cases hm:m<=L.length
 ·have e:cZ m L=.inr (bU (L.take m),m):=by unfold cZ; rw[if_pos hm]
  rw[e];exact .inr ⟨rfl,m,hm,iV h hm,rfl⟩
 ·have e:cZ m L=.inl 40:=by unfold cZ; rw[if_neg hm]
  rw[e];exact .inl ⟨by decide,rfl⟩
theorem AP(h:bE L):One (rdE (bJ L) 0) L (rdL (bJ L) 0 L) (fun t=>be 1 (if rdV false (bJ L) 0 then 1 else 0)=t):=by
 by_cases hm:1<=L.length
 ·by_cases hx:1 < bU (L.take 1)
  ·have e:bJ L=.inl 41:=by unfold bJ; rw[if_pos hm,if_pos hx]
   rw[e];exact .inl ⟨by decide,rfl⟩
  ·have e:bJ L=.inr (bU (L.take 1) == 1,1):=by unfold bJ; rw[if_pos hm,if_neg hx]
   rw[e];refine .inr ⟨rfl,1,hm,?_,rfl⟩;have a:=iV h hm;have c:=(bS (l:=L.take 1) (fun x hx=>h x (List.mem_of_mem_take hx))).1
   show be 1 (if (bU (L.take 1) == 1)=true then 1 else 0)=L.take 1
   generalize L.take 1=M at *;by_cases b:bU M=1
   ·rw[b] at a ⊢;exact a
   ·rw[show bU M=0 by omega] at a ⊢;exact a
 ·have e:bJ L=.inl 40:=by unfold bJ; rw[if_neg hm]
  rw[e];exact .inl ⟨by decide,rfl⟩
theorem r5(h:bE L):((bZ m L:Nat):Int)=bU (L.take m):=by
 unfold bZ;rw[Int.toNat_of_nonneg (bS (fun x hx=>h x (List.mem_of_mem_take hx))).1]
theorem Eg(h:bE L)(hm:m<=L.length)(hc:m+bZ m L<=L.length):fY m ((L.drop m).take (bZ m L))=L.take (m+bZ m L):=by
 unfold fY
 have e:(((L.drop m).take (bZ m L)).length:Int)=bU (L.take m):=by
  rw[List.length_take,List.length_drop,Nat.min_eq_left (by omega)];exact r5 h
 rw[e,iV h hm,List.take_add]
theorem Dm(h:bE L):One (rdE (bV L) 0) L (rdL (bV L) 0 L) (fun t=>ia (rdV 0 (bV L) 0) 0=0/\∀ K,ja (rdV 0 (bV L) 0) 0 K=K ++ t):=by
 by_cases hm:1<=L.length
 ·by_cases hc:1+bZ 1 L<=L.length
  ·by_cases d:0 < bZ 1 L/\nth (L.drop 1) 0=0
   ·have e:bV L=.inl 41:=by unfold bV; rw[if_pos hm,if_pos hc,if_pos d]
    rw[e];exact .inl ⟨by decide,rfl⟩
   ·have e:bV L=.inr (bU ((L.drop 1).take (bZ 1 L)),1 + bZ 1 L):=by unfold bV; rw[if_pos hm,if_pos hc,if_neg d]
    have f:=Eg h hm hc
    have i:((bZ 1 L:Nat):Int) < 256:=by
     have:=(bS (l:=L.take 1) (fun x hx=>h x (List.mem_of_mem_take hx))).2;rw[List.length_take,Nat.min_eq_left hm] at this;rw[r5 h];simpa using this
    have a:bE ((L.drop 1).take (bZ 1 L)):=fun x hx=>h x (List.mem_of_mem_drop (List.mem_of_mem_take hx))
    have hlen:((L.drop 1).take (bZ 1 L)).length=bZ 1 L:=by rw[List.length_take,List.length_drop];omega
    have j:dX (bU ((L.drop 1).take (bZ 1 L)))=(L.drop 1).take (bZ 1 L):=lO (bS a).1 ⟨a,fun g=>by
     have b:0 < bZ 1 L:=by
      rcases Nat.eq_zero_or_pos (bZ 1 L) with c | c
      ·exact absurd (by rw[c];simp) g
      ·exact c
     rw[dA b]
     exact fun c=>d ⟨b,c⟩,rfl⟩
    rw[e];refine .inr ⟨rfl,_,hc,?_,rfl⟩
    show ia (bU ((L.drop 1).take (bZ 1 L))) 0=0/\∀ K,ja (bU ((L.drop 1).take (bZ 1 L))) 0 K=K ++ L.take (1+bZ 1 L)
    unfold ia ja;rw[j,if_pos (by omega)];refine⟨rfl,fun K=>?_⟩;rw[if_pos (by omega),f];rfl
  ·have e:bV L=.inl 40:=by unfold bV; rw[if_pos hm,if_neg hc]
   rw[e];exact .inl ⟨by decide,rfl⟩
 ·have e:bV L=.inl 40:=by unfold bV; rw[if_neg hm]
  rw[e];exact .inl ⟨by decide,rfl⟩
end
end
section
namespace Rc
open Go.RowKit Go.Lib Pg Lim
section
variable {l r:List Int}{m:Nat}{x:Int}
theorem rT(m:Nat)(l:List Int):(fY m l).length=m+l.length:=by
 unfold fY;rw[List.length_append,aP]
theorem ig(h:l.length=m):(l ++ r).take m=l/\(l ++ r).drop m=r:=by
 subst h;exact⟨List.take_left,List.drop_left⟩
theorem zy(m:Nat)(hx:0<=x)(r:List Int):cZ m (be m x ++ r)=.inr (x % 256 ^ m,m)/\(be m x ++ r).drop m=r:=by
 have h:=ig (r:=r) (aP m x);refine⟨?_,h.2⟩;unfold cZ;rw[if_pos (by rw[List.length_append,aP];omega),h.1,qX m hx]
theorem DO(hl:(l.length:Int) < 256 ^ m):bZ m (fY m l ++ r)=l.length:=by
 unfold bZ fY;rw[List.append_assoc,(ig (aP m _)).1,qX m (by omega),Int.emod_eq_of_lt (by omega) hl];rfl
theorem ze(m:Nat)(l r:List Int):(fY m l ++ r).drop m=l ++ r:=by
 unfold fY;rw[List.append_assoc,(ig (aP m _)).2]
theorem Aq{V:Int}(f:0<=V)(g:(dX V).length < 256)(r:List Int):bV (fY 1 (dX V) ++ r)=.inr (V,1+(dX V).length)/\(fY 1 (dX V) ++ r).drop (1+(dX V).length)=r:=by
 have hc:bZ 1 (fY 1 (dX V) ++ r)=(dX V).length:=DO (by simpa using (by omega:((dX V).length:Int) < 256));have hd:=ze 1 (dX V) r;have c:=qB f;refine⟨?_,?_⟩
 ·unfold bV;rw[if_pos (by rw[List.length_append,rT];omega),hc,if_pos (by rw[List.length_append,rT];omega),hd,if_neg,(ig rfl).1,c.2.2];rintro⟨b,d⟩
  have a:dX V≠[]:=fun e=>by rw[e] at b;simp at b
  refine c.2.1 a ?_
  rw[<- d]
  cases hh:dX V with
  | nil=>exact absurd hh a
  | cons x t=>rfl
 ·rw[<- List.drop_drop,hd,(ig rfl).2]
theorem ym(x:Bool)(r:List Int):bJ (be 1 (if x then 1 else 0) ++ r)=.inr (x,1)/\(be 1 (if x then 1 else 0) ++ r).drop 1=r:=by
 cases x
 ·exact⟨rfl,rfl⟩
 ·exact⟨rfl,rfl⟩
theorem one1(h:bE l)(k:Nat)(he:rdE (p1 k l) 0=0):gX k (rdV 0 (p1 k l) 0) ++ rdL (p1 k l) 0 l=l/\∃ m,rdL (p1 k l) 0 l=l.drop m:=by
 match k with
 | 0 =>
  rcases CJ h 8 with⟨h1,_⟩ | ⟨_,m,h2,h3,h4⟩
  ·exact absurd he h1
  ·show be 8 (rdV 0 (cZ 8 l) 0) ++ rdL (cZ 8 l) 0 l=l/\∃ m,rdL (cZ 8 l) 0 l=l.drop m
   rw[h3,h4];exact⟨List.take_append_drop m l,m,rfl⟩
 | 1 =>
  have a:rdE (bJ l) 0=0:=by rw[<- mI];exact he
  rcases AP h with⟨h1,_⟩ | ⟨_,m,h2,h3,h4⟩
  ·exact absurd a h1
  ·show be 1 (rdV 0 (dS l) 0) ++ rdL (dS l) 0 l=l/\∃ m,rdL (dS l) 0 l=l.drop m
   rw[nX,nK,h3,h4];exact⟨List.take_append_drop m l,m,rfl⟩
 | k + 2 =>
  rcases Dm h with⟨h1,_⟩ | ⟨_,m,h2,⟨h3,h5⟩,h4⟩
  ·exact absurd he h1
  ·show fY 1 (dX (fit (rdV 0 (bV l) 0))) ++ rdL (bV l) 0 l=l/\∃ m,rdL (bV l) 0 l=l.drop m
   have hf:(dX (rdV 0 (bV l) 0)).length < 256:=by
    unfold ia at h3;split at h3
    ·assumption
    ·exact absurd h3 (by decide)
   have e:=h5 [];unfold ja wrote at e;rw[if_pos hf,if_pos rfl] at e;unfold fit;rw[if_pos hf];simp only[List.nil_append] at e;rw[e,h4];exact⟨List.take_append_drop m l,m,rfl⟩
theorem ee{σ:Type}(nx:Nat->Nat->σ->σ)(p:Nat × Nat)(ks:List (Nat × Nat))(s:σ):thr nx (p :: ks) s=thr nx ks (nx p.1 p.2 s):=rfl
theorem DJ(a:List (Nat × Nat)):∀ s:RSt,s.1≠0->(thr rnx a s).1=s.1:=by
 induction a with
 | nil=>intro s _;rfl
 | cons p a ih =>
  intro s hs
  have e:(rnx p.1 p.2 s).1=s.1:=qh hs;rw[ee,ih _ (by rw[e];exact hs),e]
theorem yl(a:List (Nat × Nat))(o:Nat):∀ s:RSt,o ∉ a.map Prod.snd->(thr rnx a s).2.2 o=s.2.2 o:=by
 induction a with
 | nil=>intro s _;rfl
 | cons p a ih =>
  intro s b;rw[List.map_cons,List.mem_cons,not_or] at b;rw[ee,ih _ b.2]
  show (if o=p.2 then _ else _)=_
  rw[if_neg b.1]
theorem sJ(h:bE l)(m:Nat):bE (l.drop m):=fun x hx=>h x (List.mem_of_mem_drop hx)
theorem CZ(a:List (Nat × Nat)):∀ (l:List Int) (xs:Nat->Int),bE l->(a.map Prod.snd).Nodup->(thr rnx a (0,l,xs)).1=0->∀ L,thr (pnx (thr rnx a (0,l,xs)).2.2) a L ++ (thr rnx a (0,l,xs)).2.1=L ++ l:=by
 induction a with
 | nil=>intro l xs _ _ _ L;rfl
 | cons p a ih =>
  intro l xs e b he L;rw[List.map_cons,List.nodup_cons] at b;rw[ee] at he
  have e1:rdE (p1 p.1 l) 0=0:=by
   by_cases c:rdE (p1 p.1 l) 0=0
   ·exact c
   ·exact absurd ((DJ a (rnx p.1 p.2 (0,l,xs)) c).symm.trans he) c
  obtain⟨f,m,h⟩:=one1 e p.1 e1
  have es:rnx p.1 p.2 (0,l,xs)=(0,rdL (p1 p.1 l) 0 l,fun i=>if i=p.2 then rdV 0 (p1 p.1 l) 0 else xs i):=by
   show (rdE (p1 p.1 l) 0,_,_)=_
   rw[e1]
  have g:thr rnx (p :: a) (0,l,xs)=thr rnx a (0,rdL (p1 p.1 l) 0 l,fun i=>if i=p.2 then rdV 0 (p1 p.1 l) 0 else xs i):=by rw[ee,es]
  rw[es] at he;rw[g]
  have d:=ih _ _ (by rw[h];exact sJ e m) b.2 he;rw[ee,d]
  have ev:(thr rnx a (0,rdL (p1 p.1 l) 0 l,fun i=>if i=p.2 then rdV 0 (p1 p.1 l) 0 else xs i)).2.2 p.2=rdV 0 (p1 p.1 l) 0:=by
   rw[yl a p.2 _ b.1]
   show (if p.2=p.2 then _ else _)=_
   rw[if_pos rfl]
  show (L ++ gX p.1 _) ++ _=L ++ l
  rw[ev,List.append_assoc,f]
def rng:Nat->Int->Prop
 | 0,x=>0<=x/\x < 18446744073709551616
 | 1,x=>x=0\/x=1
 | _,x=>0<=x
def fitk:Nat->Int->Int
 | 0,x=>x
 | 1,x=>x
 | _,x=>fit x
theorem back1(k:Nat)(hx:rng k x)(r:List Int):∃ m,p1 k (gX k x ++ r)=.inr (fitk k x,m)/\(gX k x ++ r).drop m=r:=by
 match k,hx with
 | 0,hx =>
  obtain⟨a,b⟩:=zy 8 hx.1 r;refine⟨8,?_,b⟩
  show cZ 8 (be 8 x ++ r)=_
  rw[a,Int.emod_eq_of_lt hx.1 (by have:=hx.2;simpa using this)];rfl
 | 1,hx =>
  have key:∀ t:Bool,∃ m,dS (be 1 (if t then 1 else 0) ++ r)=.inr ((if t then 1 else 0),m)/\(be 1 (if t then 1 else 0) ++ r).drop m=r:=fun t=>by
   obtain⟨a,b⟩:=ym t r;refine⟨1,?_,b⟩;unfold dS;rw[a]
  rcases hx with rfl | rfl
  ·exact key false
  ·exact key true
 | k + 2,hx =>
  have c:0<=fit x:=by
   unfold fit;split
   ·exact hx
   ·decide
  obtain⟨a,b⟩:=Aq c (iG x) r;exact⟨_,a,b⟩
theorem sI(b:Nat->Int)(a:List (Nat × Nat)):∀ (r:List Int) (xs:Nat->Int),(a.map Prod.snd).Nodup->(∀ p∈a,rng p.1 (b p.2))->∃ ys,thr rnx a (0,thr (pnx b) a [] ++ r,xs)=(0,r,ys)/\(∀ p∈a,ys p.2=fitk p.1 (b p.2))/\∀ o,o ∉ a.map Prod.snd->ys o=xs o:=by
 have hL:∀ (a:List (Nat × Nat)) (L:List Int),thr (pnx b) a L=L ++ thr (pnx b) a []:=by
  intro a
  induction a with
  | nil=>intro L;simp[thr]
  | cons p a ih =>
   intro L;rw[ee,ee,ih (pnx b p.1 p.2 L),ih (pnx b p.1 p.2 [])];simp[pnx,List.append_assoc]
 induction a with
 | nil=>exact fun r xs _ _=>⟨xs,rfl,(fun p j=>by cases j),fun _ _=>rfl⟩
 | cons p a ih =>
  intro r xs c f;rw[List.map_cons,List.nodup_cons] at c;obtain⟨m,h,g⟩:=back1 p.1 (f p List.mem_cons_self) (thr (pnx b) a [] ++ r)
  have el:thr (pnx b) (p :: a) [] ++ r=gX p.1 (b p.2) ++ (thr (pnx b) a [] ++ r):=by
   rw[ee,hL];simp[pnx,List.append_assoc]
  rw[el,ee]
  have es:rnx p.1 p.2 (0,gX p.1 (b p.2) ++ (thr (pnx b) a [] ++ r),xs)=(0,thr (pnx b) a [] ++ r,fun i=>if i=p.2 then fitk p.1 (b p.2) else xs i):=by
   show (rdE (p1 p.1 _) 0,rdL (p1 p.1 _) 0 _,fun i=>if i=p.2 then rdV 0 (p1 p.1 _) 0 else xs i)=_
   rw[h]
   show (_,List.drop m _,_)=_
   rw[g];rfl
  rw[es];obtain⟨ys,e1,e2,e3⟩:=ih r _ c.2 (fun q d=>f q (List.mem_cons_of_mem _ d));refine⟨ys,e1,fun q d=>?_,fun o e=>?_⟩
  ·rcases List.mem_cons.1 d with rfl | d
   ·rw[e3 _ c.1]
    show (if q.2=q.2 then _ else _)=_
    rw[if_pos rfl]
   ·exact e2 q d
  ·rw[List.map_cons,List.mem_cons,not_or] at e;rw[e3 o e.2]
   show (if o=p.2 then _ else _)=_
   rw[if_neg e.1]
end
end Rc
end
section
namespace Rc
open Go.RowKit Go.Lib Pg
attribute [local go_sem] Oper.semAt_some
theorem zx (k:Nat) (x:Int):bE (gX k x):=by
 unfold gX;split
 ·exact fk _ _
 ·exact fk _ _
 ·intro y hy;rcases List.mem_append.1 hy with h | h
  ·exact fk _ _ y h
  ·exact Bn _ y h
theorem wo (xs:Nat->Int) (b:List (Nat × Nat)):∀ L,bE L->bE (thr (pnx xs) b L):=by
 induction b with
 | nil=>exact fun _ h=>h
 | cons p b ih =>
  intro L h;rw[ee];refine ih _ ?_
  intro y hy;rcases List.mem_append.1 hy with a | a
  ·exact h y a
  ·exact zx _ _ y a
end Rc
end
section
namespace Rc
open Go.RowKit Go.Lib Pg
attribute [local go_sem] Oper.semAt_some
end Rc
end
section
open Go.RowKit Lim
def stB (s:Stp):Option (List Int) :=
 if s.what=0 then some (be 1 (s.num % 256))
 else if s.what=1 then some (be 4 (s.num % 4294967296))
 else if s.what=2 then some (be 8 s.num)
 else if s.what=3 then some (be 1 (if s.num % 2 == 1 then 1 else 0))
 else if s.what=4\/s.what=5 then (if (dX s.V).length < 256 then some (fY 1 (dX s.V)) else none)
 else if s.what=6 then some (fY 4 s.bl)
 else some []
def stO (s:Stp) (o:Option (List Int)):Option (List Int):=o.bind fun L=>(stB s).map (L ++ ·)
def laid (ss:List Stp):Option (List Int):=ss.foldl (fun o s=>stO s o) (some [])
end
section
open Go.RowKit Lim
end
section
open Go.RowKit Lim
end
section
open Go.RowKit Lim
end
section
open Go.RowKit Lim
end
section
open Go.RowKit Lim
end
section
open Go.RowKit Lim
end
section
open Go.RowKit Lim
end
section
namespace Rc
open Go.RowKit Go.Lib Pg Lim
attribute [local go_sem] Oper.semAt_some
end Rc
end
section
namespace Rc
open Go.RowKit Go.Lib Pg Lim
attribute [local go_sem] Oper.semAt_some
end Rc
end
section
namespace Rc
open Go.RowKit Go.Lib Pg Lim
theorem xK {err:Int} {l:List Int} (h:gz err l=0):err=0/\l=[]:=by
 unfold gz at h;split at h
 ·rename_i he;split at h
  ·rename_i a;exact⟨he,List.eq_nil_of_length_eq_zero a⟩
  ·exact absurd h (by decide)
 ·exact absurd h (by assumption)
theorem ones (a:List (Nat × Nat)) (l:List Int) (e:bE l) (b:(a.map Prod.snd).Nodup) (h:gz (thr rnx a (0,l,fun _=>0)).1 (thr rnx a (0,l,fun _=>0)).2.1=0):thr (pnx (thr rnx a (0,l,fun _=>0)).2.2) a []=l:=by
 obtain⟨c,d⟩:=xK h;have:=CZ a l (fun _=>0) e b c [];rw[d,List.append_nil,List.nil_append] at this;exact this
end Rc
end
section
open Go.RowKit Lim
end
section
namespace Rc
open Go.RowKit Go.Lib Pg Lim
attribute [local go_sem] Oper.semAt_some
end Rc
end
section
namespace Rc
open Go.RowKit Go.Lib Pg Lim Gl
section
variable {xs:Nat->Int}{w w':World}{e:Ending}{bb n c:Nat}{ao:Option Addr}{l:List Int}
def iZ(s:RSt):Int:=if gz s.1 s.2.1=0 then 0 else 80
def gw(s:RSt):Nat->Int:=if gz s.1 s.2.1=0 then s.2.2 else fun _=>0
theorem tY{s:RSt}{r:Int}(a:gz s.1 s.2.1=0->r=0/\xs=s.2.2)(b:gz s.1 s.2.1≠0->r=80/\xs=fun _=>0):xs=gw s/\r=iZ s:=by
 unfold gw iZ;by_cases h:gz s.1 s.2.1=0
 ·rw[if_pos h,if_pos h];exact⟨(a h).2,(a h).1⟩
 ·rw[if_neg h,if_neg h];exact⟨(b h).2,(b h).1⟩
theorem outChain{s:RSt}(h:qH w eX 2 mkA s e w'):e=.returned (.tuple #[.agg #[.int .u64 (gw s 0),.int .u64 (gw s 1)],.int .i64 (iZ s)])/\Below w.heap.size w w':=by
 obtain⟨⟨cs,xs,r,rfl,f,b,d,c⟩,B⟩:=h;obtain⟨e1,e2⟩:=tY d c;subst e1 e2;have q0:=(b 0).1 rfl;have q1:=(b 1).1 rfl
 have a:cs=[.int .u64 (gw s 0),.int .u64 (gw s 1)]:=by
  refine List.ext_getElem? fun i=>?_
  rcases Nat.lt_or_ge i 2 with hi | hi
  ·match i,hi with
   | 0,_=>exact q0
   | 1,_=>exact q1
   | n+2,h=>exact absurd h (by omega)
  ·rw[List.getElem?_eq_none (by omega),List.getElem?_eq_none hi]
 subst a;exact⟨rfl,B⟩
def de(l:List Int):RSt:=thr rnx [(2,0),(0,1)] (0,l,fun _=>0)
theorem tJ{s:RSt}(h:qH w aX 2 mkA s e w'):∃ a0 n0 c0,e=.returned (.tuple #[.agg #[.slice a0 n0 c0,.int .u64 (gw s 1)],.int .i64 (iZ s)])/\(fS w' w.heap.size a0 n0 c0 (gw s 0)/\n0<=510)/\Below w.heap.size w w':=by
 obtain⟨⟨cs,xs,r,rfl,g,b,f,c⟩,B⟩:=h;obtain⟨e1,e2⟩:=tY f c;subst e1 e2;obtain⟨a0,n0,c0,q0,d,z0⟩:=(b 0).2.2 rfl;have q1:=(b 1).1 rfl
 have a:cs=[.slice a0 n0 c0,.int .u64 (gw s 1)]:=by
  refine List.ext_getElem? fun i=>?_
  rcases Nat.lt_or_ge i 2 with hi | hi
  ·match i,hi with
   | 0,_=>exact q0
   | 1,_=>exact q1
   | n+2,h=>exact absurd h (by omega)
  ·rw[List.getElem?_eq_none (by omega),List.getElem?_eq_none hi]
 subst a;exact⟨a0,n0,c0,rfl,⟨d,by omega⟩,B⟩
theorem zm(A:ByA w bb ao n c l)(hn:n<=1000000000):Calls Tryz.prog 121 #[.slice ao n c] w fun e w'=>∃ a0 n0 c0,e=.returned (.tuple #[.agg #[.slice a0 n0 c0,.int .u64 (gw (de l) 1)],.int .i64 (iZ (de l))])/\(fS w' w.heap.size a0 n0 c0 (gw (de l) 0)/\n0<=510)/\Below w.heap.size w w':=by
 refine(se A hn (by obtain⟨o,a,_⟩:=A.ex;exact a)).mono ?_
 intro e w' h;exact tJ h
def lE(l:List Int):RSt:=thr rnx [(0,0),(0,1)] (0,l,fun _=>0)
theorem outCut{s:RSt}(h:qH w cM 2 mkA s e w'):e=.returned (.tuple #[.agg #[.int .u64 (gw s 0),.int .u64 (gw s 1)],.int .i64 (iZ s)])/\Below w.heap.size w w':=by
 obtain⟨⟨cs,xs,r,rfl,f,b,d,c⟩,B⟩:=h;obtain⟨e1,e2⟩:=tY d c;subst e1 e2;have q0:=(b 0).1 rfl;have q1:=(b 1).1 rfl
 have a:cs=[.int .u64 (gw s 0),.int .u64 (gw s 1)]:=by
  refine List.ext_getElem? fun i=>?_
  rcases Nat.lt_or_ge i 2 with hi | hi
  ·match i,hi with
   | 0,_=>exact q0
   | 1,_=>exact q1
   | n+2,h=>exact absurd h (by omega)
  ·rw[List.getElem?_eq_none (by omega),List.getElem?_eq_none hi]
 subst a;exact⟨rfl,B⟩
theorem oCut(A:ByA w bb ao n c l)(hn:n<=1000000000):Calls Tryz.prog 77 #[.slice ao n c] w fun e w'=>e=.returned (.tuple #[.agg #[.int .u64 (gw (lE l) 0),.int .u64 (gw (lE l) 1)],.int .i64 (iZ (lE l))])/\Below w.heap.size w w':=by
 refine(DY A hn (by obtain⟨o,a,_⟩:=A.ex;exact a)).mono ?_
 intro e w' h;exact outCut h
end
end Rc
end
end Go.Proofs.YtjejmkcjflhoiaaGreatDoor
