import Derived.Test.YtjejmkcjflhoiaaGreatDoorJam
import Derived.Test.YtjejmkcjflhoiaaGreatDoorJad
set_option maxRecDepth 100000
set_option maxHeartbeats 8000000
namespace Go.Proofs.YtjejmkcjflhoiaaGreatDoor
section
open Go.RowKit Lim
section
variable {l L:List Int}{m:Nat}
theorem EY(h:bG l):be l.length (bW l)=l:=by
 refine mL (fw _ _) h (aT _ _) ?_
 have hb:=bV h;rw[p7 _ hb.1,Int.emod_eq_of_lt hb.1 hb.2]
theorem iT(h:bG l)(hm:m<=l.length):be m (bW (l.take m))=l.take m:=by
 have:=EY (l:=l.take m) (fun x hx=>h x (List.mem_of_mem_take hx));rwa [List.length_take,Nat.min_eq_left hm] at this
def One(err':Int)(L L':List Int)(laid:List Int->Prop):Prop:=(err'≠0/\L'=L)\/(err'=0/\∃ k,k<=L.length/\laid (L.take k)/\L'=L.drop k)
theorem DE(h:bG L)(m:Nat):One (rdE (di m L) 0) L (rdL (di m L) 0 L) (fun t=>be m (rdV 0 (di m L) 0)=t):=by
 by_cases hm:m<=L.length
 ·have e:di m L=.inr (bW (L.take m),m):=by unfold di; rw[if_pos hm]
  rw[e];exact .inr ⟨rfl,m,hm,iT h hm,rfl⟩
 ·have e:di m L=.inl 40:=by unfold di; rw[if_neg hm]
  rw[e];exact .inl ⟨by decide,rfl⟩
theorem CF(h:bG L):One (rdE (bP L) 0) L (rdL (bP L) 0 L) (fun t=>be 1 (if rdV false (bP L) 0 then 1 else 0)=t):=by
 by_cases hm:1<=L.length
 ·by_cases hx:1 < bW (L.take 1)
  ·have e:bP L=.inl 41:=by unfold bP; rw[if_pos hm,if_pos hx]
   rw[e];exact .inl ⟨by decide,rfl⟩
  ·have e:bP L=.inr (bW (L.take 1) == 1,1):=by unfold bP; rw[if_pos hm,if_neg hx]
   rw[e];refine .inr ⟨rfl,1,hm,?_,rfl⟩;have a:=iT h hm;have h0:=(bV (l:=L.take 1) (fun x hx=>h x (List.mem_of_mem_take hx))).1
   show be 1 (if (bW (L.take 1) == 1)=true then 1 else 0)=L.take 1
   generalize L.take 1=M at *;by_cases b:bW M=1
   ·rw[b] at a ⊢;exact a
   ·rw[show bW M=0 by omega] at a ⊢;exact a
 ·have e:bP L=.inl 40:=by unfold bP; rw[if_neg hm]
  rw[e];exact .inl ⟨by decide,rfl⟩
theorem sf(h:bG L):((cj m L:Nat):Int)=bW (L.take m):=by
 unfold cj;rw[Int.toNat_of_nonneg (bV (fun x hx=>h x (List.mem_of_mem_take hx))).1]
theorem DG(h:bG L)(hm:m<=L.length)(hc:m+cj m L<=L.length):gi m ((L.drop m).take (cj m L))=L.take (m+cj m L):=by
 unfold gi
 have e:(((L.drop m).take (cj m L)).length:Int)=bW (L.take m):=by
  rw[List.length_take,List.length_drop,Nat.min_eq_left (by omega)];exact sf h
 rw[e,iT h hm,List.take_add]
theorem Em(h:bG L):One (rdE (bX L) 0) L (rdL (bX L) 0 L) (fun t=>ik (rdV 0 (bX L) 0) 0=0/\∀ K,jk (rdV 0 (bX L) 0) 0 K=K ++ t):=by
 by_cases hm:1<=L.length
 ·by_cases hc:1+cj 1 L<=L.length
  ·by_cases d:0 < cj 1 L/\nth (L.drop 1) 0=0
   ·have e:bX L=.inl 41:=by unfold bX; rw[if_pos hm,if_pos hc,if_pos d]
    rw[e];exact .inl ⟨by decide,rfl⟩
   ·have e:bX L=.inr (bW ((L.drop 1).take (cj 1 L)),1 + cj 1 L):=by unfold bX; rw[if_pos hm,if_pos hc,if_neg d]
    have f:=DG h hm hc
    have g:((cj 1 L:Nat):Int) < 256:=by
     have:=(bV (l:=L.take 1) (fun x hx=>h x (List.mem_of_mem_take hx))).2;rw[List.length_take,Nat.min_eq_left hm] at this;rw[sf h];simpa using this
    have a:bG ((L.drop 1).take (cj 1 L)):=fun x hx=>h x (List.mem_of_mem_drop (List.mem_of_mem_take hx))
    have hlen:((L.drop 1).take (cj 1 L)).length=cj 1 L:=by rw[List.length_take,List.length_drop];omega
    have i:eA (bW ((L.drop 1).take (cj 1 L)))=(L.drop 1).take (cj 1 L):=lX (bV a).1 ⟨a,fun c=>by
     have b:0 < cj 1 L:=by
      rcases Nat.eq_zero_or_pos (cj 1 L) with h0 | h0
      ·exact absurd (by rw[h0];simp) c
      ·exact h0
     rw[dG b]
     exact fun h0=>d ⟨b,h0⟩,rfl⟩
    rw[e];refine .inr ⟨rfl,_,hc,?_,rfl⟩
    show ik (bW ((L.drop 1).take (cj 1 L))) 0=0/\∀ K,jk (bW ((L.drop 1).take (cj 1 L))) 0 K=K ++ L.take (1+cj 1 L)
    unfold ik jk;rw[i,if_pos (by omega)];refine⟨rfl,fun K=>?_⟩;rw[if_pos (by omega),f];rfl
  ·have e:bX L=.inl 40:=by unfold bX; rw[if_pos hm,if_neg hc]
   rw[e];exact .inl ⟨by decide,rfl⟩
 ·have e:bX L=.inl 40:=by unfold bX; rw[if_neg hm]
  rw[e];exact .inl ⟨by decide,rfl⟩
end
end
section
namespace Rc
open Go.RowKit Go.Lib Pg Lim
section
variable {l r:List Int}{m:Nat}{x:Int}
theorem si(m:Nat)(l:List Int):(gi m l).length=m+l.length:=by
 unfold gi;rw[List.length_append,aT]
theorem iO(h:l.length=m):(l ++ r).take m=l/\(l ++ r).drop m=r:=by
 subst h;exact⟨List.take_left,List.drop_left⟩
theorem AH(m:Nat)(hx:0<=x)(r:List Int):di m (be m x ++ r)=.inr (x % 256 ^ m,m)/\(be m x ++ r).drop m=r:=by
 have h:=iO (r:=r) (aT m x);refine⟨?_,h.2⟩;unfold di;rw[if_pos (by rw[List.length_append,aT];omega),h.1,p7 m hx]
theorem DR(hl:(l.length:Int) < 256 ^ m):cj m (gi m l ++ r)=l.length:=by
 unfold cj gi;rw[List.append_assoc,(iO (aT m _)).1,p7 m (by omega),Int.emod_eq_of_lt (by omega) hl];rfl
theorem zD(m:Nat)(l r:List Int):(gi m l ++ r).drop m=l ++ r:=by
 unfold gi;rw[List.append_assoc,(iO (aT m _)).2]
theorem Ax{V:Int}(d:0<=V)(f:(eA V).length < 256)(r:List Int):bX (gi 1 (eA V) ++ r)=.inr (V,1+(eA V).length)/\(gi 1 (eA V) ++ r).drop (1+(eA V).length)=r:=by
 have hc:cj 1 (gi 1 (eA V) ++ r)=(eA V).length:=DR (by simpa using (by omega:((eA V).length:Int) < 256));have hd:=zD 1 (eA V) r;have b:=p6 d;refine⟨?_,?_⟩
 ·unfold bX;rw[if_pos (by rw[List.length_append,si];omega),hc,if_pos (by rw[List.length_append,si];omega),hd,if_neg,(iO rfl).1,b.2.2];rintro⟨h0,c⟩
  have a:eA V≠[]:=fun e=>by rw[e] at h0;simp at h0
  refine b.2.1 a ?_
  rw[<- c]
  cases hh:eA V with
  | nil=>exact absurd hh a
  | cons x t=>rfl
 ·rw[<- List.drop_drop,hd,(iO rfl).2]
theorem yF(x:Bool)(r:List Int):bP (be 1 (if x then 1 else 0) ++ r)=.inr (x,1)/\(be 1 (if x then 1 else 0) ++ r).drop 1=r:=by
 cases x
 ·exact⟨rfl,rfl⟩
 ·exact⟨rfl,rfl⟩
theorem one1(h:bG l)(k:Nat)(he:rdE (p1 k l) 0=0):gS k (rdV 0 (p1 k l) 0) ++ rdL (p1 k l) 0 l=l/\∃ m,rdL (p1 k l) 0 l=l.drop m:=by
 match k with
 | 0 =>
  rcases DE h 8 with⟨h1,_⟩ | ⟨_,m,h2,h3,h4⟩
  ·exact absurd he h1
  ·show be 8 (rdV 0 (di 8 l) 0) ++ rdL (di 8 l) 0 l=l/\∃ m,rdL (di 8 l) 0 l=l.drop m
   rw[h3,h4];exact⟨List.take_append_drop m l,m,rfl⟩
 | 1 =>
  have a:rdE (bP l) 0=0:=by rw[<- nY];exact he
  rcases CF h with⟨h1,_⟩ | ⟨_,m,h2,h3,h4⟩
  ·exact absurd a h1
  ·show be 1 (rdV 0 (ed l) 0) ++ rdL (ed l) 0 l=l/\∃ m,rdL (ed l) 0 l=l.drop m
   rw[mO,mY,h3,h4];exact⟨List.take_append_drop m l,m,rfl⟩
 | k + 2 =>
  rcases Em h with⟨h1,_⟩ | ⟨_,m,h2,⟨h3,h5⟩,h4⟩
  ·exact absurd he h1
  ·show gi 1 (eA (fit (rdV 0 (bX l) 0))) ++ rdL (bX l) 0 l=l/\∃ m,rdL (bX l) 0 l=l.drop m
   have hf:(eA (rdV 0 (bX l) 0)).length < 256:=by
    unfold ik at h3;split at h3
    ·assumption
    ·exact absurd h3 (by decide)
   have e:=h5 [];unfold jk wrote at e;rw[if_pos hf,if_pos rfl] at e;unfold fit;rw[if_pos hf];simp only[List.nil_append] at e;rw[e,h4];exact⟨List.take_append_drop m l,m,rfl⟩
theorem ee{σ:Type}(nx:Nat->Nat->σ->σ)(p:Nat × Nat)(ks:List (Nat × Nat))(s:σ):thr nx (p :: ks) s=thr nx ks (nx p.1 p.2 s):=rfl
theorem Eu(a:List (Nat × Nat)):∀ s:RSt,s.1≠0->(thr rnx a s).1=s.1:=by
 induction a with
 | nil=>intro s _;rfl
 | cons p a ih =>
  intro s hs
  have e:(rnx p.1 p.2 s).1=s.1:=qh hs;rw[ee,ih _ (by rw[e];exact hs),e]
theorem xI(a:List (Nat × Nat))(o:Nat):∀ s:RSt,o ∉ a.map Prod.snd->(thr rnx a s).2.2 o=s.2.2 o:=by
 induction a with
 | nil=>intro s _;rfl
 | cons p a ih =>
  intro s b;rw[List.map_cons,List.mem_cons,not_or] at b;rw[ee,ih _ b.2]
  show (if o=p.2 then _ else _)=_
  rw[if_neg b.1]
theorem sY(h:bG l)(m:Nat):bG (l.drop m):=fun x hx=>h x (List.mem_of_mem_drop hx)
theorem EI(a:List (Nat × Nat)):∀ (l:List Int) (xs:Nat->Int),bG l->(a.map Prod.snd).Nodup->(thr rnx a (0,l,xs)).1=0->∀ L,thr (pnx (thr rnx a (0,l,xs)).2.2) a L ++ (thr rnx a (0,l,xs)).2.1=L ++ l:=by
 induction a with
 | nil=>intro l xs _ _ _ L;rfl
 | cons p a ih =>
  intro l xs e b he L;rw[List.map_cons,List.nodup_cons] at b;rw[ee] at he
  have e1:rdE (p1 p.1 l) 0=0:=by
   by_cases d:rdE (p1 p.1 l) 0=0
   ·exact d
   ·exact absurd ((Eu a (rnx p.1 p.2 (0,l,xs)) d).symm.trans he) d
  obtain⟨h,m,g⟩:=one1 e p.1 e1
  have es:rnx p.1 p.2 (0,l,xs)=(0,rdL (p1 p.1 l) 0 l,fun i=>if i=p.2 then rdV 0 (p1 p.1 l) 0 else xs i):=by
   show (rdE (p1 p.1 l) 0,_,_)=_
   rw[e1]
  have f:thr rnx (p :: a) (0,l,xs)=thr rnx a (0,rdL (p1 p.1 l) 0 l,fun i=>if i=p.2 then rdV 0 (p1 p.1 l) 0 else xs i):=by rw[ee,es]
  rw[es] at he;rw[f]
  have c:=ih _ _ (by rw[g];exact sY e m) b.2 he;rw[ee,c]
  have ev:(thr rnx a (0,rdL (p1 p.1 l) 0 l,fun i=>if i=p.2 then rdV 0 (p1 p.1 l) 0 else xs i)).2.2 p.2=rdV 0 (p1 p.1 l) 0:=by
   rw[xI a p.2 _ b.1]
   show (if p.2=p.2 then _ else _)=_
   rw[if_pos rfl]
  show (L ++ gS p.1 _) ++ _=L ++ l
  rw[ev,List.append_assoc,h]
def rng:Nat->Int->Prop
 | 0,x=>0<=x/\x < 18446744073709551616
 | 1,x=>x=0\/x=1
 | _,x=>0<=x
def fitk:Nat->Int->Int
 | 0,x=>x
 | 1,x=>x
 | _,x=>fit x
theorem back1(k:Nat)(hx:rng k x)(r:List Int):∃ m,p1 k (gS k x ++ r)=.inr (fitk k x,m)/\(gS k x ++ r).drop m=r:=by
 match k,hx with
 | 0,hx =>
  obtain⟨b,a⟩:=AH 8 hx.1 r;refine⟨8,?_,a⟩
  show di 8 (be 8 x ++ r)=_
  rw[b,Int.emod_eq_of_lt hx.1 (by have:=hx.2;simpa using this)];rfl
 | 1,hx =>
  have key:∀ t:Bool,∃ m,ed (be 1 (if t then 1 else 0) ++ r)=.inr ((if t then 1 else 0),m)/\(be 1 (if t then 1 else 0) ++ r).drop m=r:=fun t=>by
   obtain⟨b,a⟩:=yF t r;refine⟨1,?_,a⟩;unfold ed;rw[b]
  rcases hx with rfl | rfl
  ·exact key false
  ·exact key true
 | k + 2,hx =>
  have c:0<=fit x:=by
   unfold fit;split
   ·exact hx
   ·decide
  obtain⟨b,a⟩:=Ax c (iU x) r;exact⟨_,b,a⟩
theorem rE(b:Nat->Int)(a:List (Nat × Nat)):∀ (r:List Int) (xs:Nat->Int),(a.map Prod.snd).Nodup->(∀ p∈a,rng p.1 (b p.2))->∃ ys,thr rnx a (0,thr (pnx b) a [] ++ r,xs)=(0,r,ys)/\(∀ p∈a,ys p.2=fitk p.1 (b p.2))/\∀ o,o ∉ a.map Prod.snd->ys o=xs o:=by
 have hL:∀ (a:List (Nat × Nat)) (L:List Int),thr (pnx b) a L=L ++ thr (pnx b) a []:=by
  intro a
  induction a with
  | nil=>intro L;simp[thr]
  | cons p a ih =>
   intro L;rw[ee,ee,ih (pnx b p.1 p.2 L),ih (pnx b p.1 p.2 [])];simp[pnx,List.append_assoc]
 induction a with
 | nil=>exact fun r xs _ _=>⟨xs,rfl,(fun p j=>by cases j),fun _ _=>rfl⟩
 | cons p a ih =>
  intro r xs c f;rw[List.map_cons,List.nodup_cons] at c;obtain⟨m,h,g⟩:=back1 p.1 (f p List.mem_cons_self) (thr (pnx b) a [] ++ r)
  have el:thr (pnx b) (p :: a) [] ++ r=gS p.1 (b p.2) ++ (thr (pnx b) a [] ++ r):=by
   rw[ee,hL];simp[pnx,List.append_assoc]
  rw[el,ee]
  have es:rnx p.1 p.2 (0,gS p.1 (b p.2) ++ (thr (pnx b) a [] ++ r),xs)=(0,thr (pnx b) a [] ++ r,fun i=>if i=p.2 then fitk p.1 (b p.2) else xs i):=by
   show (rdE (p1 p.1 _) 0,rdL (p1 p.1 _) 0 _,fun i=>if i=p.2 then rdV 0 (p1 p.1 _) 0 else xs i)=_
   rw[h]
   show (_,List.drop m _,_)=_
   rw[g];rfl
  rw[es];obtain⟨ys,e1,e2,e3⟩:=ih r _ c.2 (fun q d=>f q (List.mem_cons_of_mem _ d));refine⟨ys,e1,fun q d=>?_,fun o e=>?_⟩
  ·rcases List.mem_cons.1 d with rfl | d
   ·rw[e3 _ c.1]
    show (if q.2=q.2 then _ else _)=_
    rw[if_pos rfl]
   ·exact e2 q d
  ·rw[List.map_cons,List.mem_cons,not_or] at e;rw[e3 o e.2]
   show (if o=p.2 then _ else _)=_
   rw[if_neg e.1]
end
end Rc
end
section
namespace Rc
open Go.RowKit Go.Lib Pg
attribute [local go_sem] Oper.semAt_some
theorem AR (k:Nat) (x:Int):bG (gS k x):=by
 unfold gS;split
 ·exact fw _ _
 ·exact fw _ _
 ·intro y hy;rcases List.mem_append.1 hy with h | h
  ·exact fw _ _ y h
  ·exact Af _ y h
theorem xc (xs:Nat->Int) (a:List (Nat × Nat)):∀ L,bG L->bG (thr (pnx xs) a L):=by
 induction a with
 | nil=>exact fun _ h=>h
 | cons p a ih =>
  intro L h;rw[ee];refine ih _ ?_
  intro y hy;rcases List.mem_append.1 hy with b | b
  ·exact h y b
  ·exact AR _ _ y b
end Rc
end
section
namespace Rc
open Go.RowKit Go.Lib Pg
attribute [local go_sem] Oper.semAt_some
end Rc
end
section
open Go.RowKit Lim
def stB (s:Stp):Option (List Int) :=
 if s.what=0 then some (be 1 (s.num % 256))
 else if s.what=1 then some (be 4 (s.num % 4294967296))
 else if s.what=2 then some (be 8 s.num)
 else if s.what=3 then some (be 1 (if s.num % 2 == 1 then 1 else 0))
 else if s.what=4\/s.what=5 then (if (eA s.V).length < 256 then some (gi 1 (eA s.V)) else none)
 else if s.what=6 then some (gi 4 s.bl)
 else some []
def stO (s:Stp) (o:Option (List Int)):Option (List Int):=o.bind fun L=>(stB s).map (L ++ ·)
def laid (ss:List Stp):Option (List Int):=ss.foldl (fun o s=>stO s o) (some [])
end
section
open Go.RowKit Lim
end
section
open Go.RowKit Lim
end
section
open Go.RowKit Lim
end
section
open Go.RowKit Lim
end
section
open Go.RowKit Lim
end
section
open Go.RowKit Lim
end
section
open Go.RowKit Lim
end
section
namespace Rc
open Go.RowKit Go.Lib Pg Lim
attribute [local go_sem] Oper.semAt_some
end Rc
end
section
namespace Rc
open Go.RowKit Go.Lib Pg Lim
attribute [local go_sem] Oper.semAt_some
end Rc
end
section
namespace Rc
open Go.RowKit Go.Lib Pg Lim
theorem xP {err:Int} {l:List Int} (h:gI err l=0):err=0/\l=[]:=by
 unfold gI at h;split at h
 ·rename_i he;split at h
  ·rename_i a;exact⟨he,List.eq_nil_of_length_eq_zero a⟩
  ·exact absurd h (by decide)
 ·exact absurd h (by assumption)
theorem ones (a:List (Nat × Nat)) (l:List Int) (c:bG l) (b:(a.map Prod.snd).Nodup) (h:gI (thr rnx a (0,l,fun _=>0)).1 (thr rnx a (0,l,fun _=>0)).2.1=0):thr (pnx (thr rnx a (0,l,fun _=>0)).2.2) a []=l:=by
 obtain⟨e,d⟩:=xP h;have:=EI a l (fun _=>0) c b e [];rw[d,List.append_nil,List.nil_append] at this;exact this
end Rc
end
section
open Go.RowKit Lim
end
section
namespace Rc
open Go.RowKit Go.Lib Pg Lim
attribute [local go_sem] Oper.semAt_some
end Rc
end
section
namespace Rc
open Go.RowKit Go.Lib Pg Lim Gl
section
variable {xs:Nat->Int}{w w':World}{e:Ending}{bb n c:Nat}{ao:Option Addr}{l:List Int}
def jm(s:RSt):Int:=if gI s.1 s.2.1=0 then 0 else 80
def gH(s:RSt):Nat->Int:=if gI s.1 s.2.1=0 then s.2.2 else fun _=>0
theorem vg{s:RSt}{r:Int}(b:gI s.1 s.2.1=0->r=0/\xs=s.2.2)(a:gI s.1 s.2.1≠0->r=80/\xs=fun _=>0):xs=gH s/\r=jm s:=by
 unfold gH jm;by_cases h:gI s.1 s.2.1=0
 ·rw[if_pos h,if_pos h];exact⟨(b h).2,(b h).1⟩
 ·rw[if_neg h,if_neg h];exact⟨(a h).2,(a h).1⟩
theorem outChain{s:RSt}(h:p5 w fl 2 mkA s e w'):e=.returned (.tuple #[.agg #[.int .u64 (gH s 0),.int .u64 (gH s 1)],.int .i64 (jm s)])/\Below w.heap.size w w':=by
 obtain⟨⟨cs,xs,r,rfl,f,b,d,c⟩,B⟩:=h;obtain⟨e1,e2⟩:=vg d c;subst e1 e2;have q0:=(b 0).1 rfl;have q1:=(b 1).1 rfl
 have a:cs=[.int .u64 (gH s 0),.int .u64 (gH s 1)]:=by
  refine List.ext_getElem? fun i=>?_
  rcases Nat.lt_or_ge i 2 with hi | hi
  ·match i,hi with
   | 0,_=>exact q0
   | 1,_=>exact q1
   | n+2,h=>exact absurd h (by omega)
  ·rw[List.getElem?_eq_none (by omega),List.getElem?_eq_none hi]
 subst a;exact⟨rfl,B⟩
def dn(l:List Int):RSt:=thr rnx [(2,0),(0,1)] (0,l,fun _=>0)
theorem uM{s:RSt}(h:p5 w bh 2 mkA s e w'):∃ a0 n0 c0,e=.returned (.tuple #[.agg #[.slice a0 n0 c0,.int .u64 (gH s 1)],.int .i64 (jm s)])/\(fP w' w.heap.size a0 n0 c0 (gH s 0)/\n0<=510)/\Below w.heap.size w w':=by
 obtain⟨⟨cs,xs,r,rfl,g,b,d,c⟩,B⟩:=h;obtain⟨e1,e2⟩:=vg d c;subst e1 e2;obtain⟨a0,n0,c0,q0,f,z0⟩:=(b 0).2.2 rfl;have q1:=(b 1).1 rfl
 have a:cs=[.slice a0 n0 c0,.int .u64 (gH s 1)]:=by
  refine List.ext_getElem? fun i=>?_
  rcases Nat.lt_or_ge i 2 with hi | hi
  ·match i,hi with
   | 0,_=>exact q0
   | 1,_=>exact q1
   | n+2,h=>exact absurd h (by omega)
  ·rw[List.getElem?_eq_none (by omega),List.getElem?_eq_none hi]
 subst a;exact⟨a0,n0,c0,rfl,⟨f,by omega⟩,B⟩
theorem CA(A:ByA w bb ao n c l)(hn:n<=1000000000):Calls Tryz.prog 121 #[.slice ao n c] w fun e w'=>∃ a0 n0 c0,e=.returned (.tuple #[.agg #[.slice a0 n0 c0,.int .u64 (gH (dn l) 1)],.int .i64 (jm (dn l))])/\(fP w' w.heap.size a0 n0 c0 (gH (dn l) 0)/\n0<=510)/\Below w.heap.size w w':=by
 refine(so A hn (by obtain⟨o,a,_⟩:=A.ex;exact a)).mono ?_
 intro e w' h;exact uM h
def lN(l:List Int):RSt:=thr rnx [(0,0),(0,1)] (0,l,fun _=>0)
theorem outCut{s:RSt}(h:p5 w cO 2 mkA s e w'):e=.returned (.tuple #[.agg #[.int .u64 (gH s 0),.int .u64 (gH s 1)],.int .i64 (jm s)])/\Below w.heap.size w w':=by
 obtain⟨⟨cs,xs,r,rfl,f,b,d,c⟩,B⟩:=h;obtain⟨e1,e2⟩:=vg d c;subst e1 e2;have q0:=(b 0).1 rfl;have q1:=(b 1).1 rfl
 have a:cs=[.int .u64 (gH s 0),.int .u64 (gH s 1)]:=by
  refine List.ext_getElem? fun i=>?_
  rcases Nat.lt_or_ge i 2 with hi | hi
  ·match i,hi with
   | 0,_=>exact q0
   | 1,_=>exact q1
   | n+2,h=>exact absurd h (by omega)
  ·rw[List.getElem?_eq_none (by omega),List.getElem?_eq_none hi]
 subst a;exact⟨rfl,B⟩
theorem oCut(A:ByA w bb ao n c l)(hn:n<=1000000000):Calls Tryz.prog 77 #[.slice ao n c] w fun e w'=>e=.returned (.tuple #[.agg #[.int .u64 (gH (lN l) 0),.int .u64 (gH (lN l) 1)],.int .i64 (jm (lN l))])/\Below w.heap.size w w':=by
 refine(Eo A hn (by obtain⟨o,a,_⟩:=A.ex;exact a)).mono ?_
 intro e w' h;exact outCut h
end
end Rc
end
end Go.Proofs.YtjejmkcjflhoiaaGreatDoor
