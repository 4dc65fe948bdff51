import Derived.Test.YtjejmkcjflhoiaaGreatDoorJam
import Derived.Test.YtjejmkcjflhoiaaGreatDoorJaf
import Derived.Test.YtjejmkcjflhoiaaGreatDoorJad
set_option maxRecDepth 100000
set_option maxHeartbeats 8000000
namespace Go.Proofs.YtjejmkcjflhoiaaGreatDoor
section
open Go.RowKit Lim
section
variable {l L:List Int}{m:Nat}
theorem Ff(h:bG l):be l.length (bW l)=l:=by
 refine mX (fB _ _) h (aT _ _) ?_
 have hb:=bV h;rw[qy _ hb.1,Int.emod_eq_of_lt hb.1 hb.2]
theorem iZ(h:bG l)(hm:m<=l.length):be m (bW (l.take m))=l.take m:=by
 have:=Ff (l:=l.take m) (fun x hx=>h x (List.mem_of_mem_take hx));rwa [List.length_take,Nat.min_eq_left hm] at this
def One(err':Int)(L L':List Int)(laid:List Int->Prop):Prop:=(err'≠0/\L'=L)\/(err'=0/\∃ k,k<=L.length/\laid (L.take k)/\L'=L.drop k)
theorem DR(h:bG L)(m:Nat):One (rdE (di m L) 0) L (rdL (di m L) 0 L) (fun t=>be m (rdV 0 (di m L) 0)=t):=by
 by_cases hm:m<=L.length
 ·have e:di m L=.inr (bW (L.take m),m):=by unfold di; rw[if_pos hm]
  rw[e];exact .inr ⟨rfl,m,hm,iZ h hm,rfl⟩
 ·have e:di m L=.inl 40:=by unfold di; rw[if_neg hm]
  rw[e];exact .inl ⟨by decide,rfl⟩
theorem CU(h:bG L):One (rdE (bP L) 0) L (rdL (bP L) 0 L) (fun t=>be 1 (if rdV false (bP L) 0 then 1 else 0)=t):=by
 by_cases hm:1<=L.length
 ·by_cases hx:1 < bW (L.take 1)
  ·have e:bP L=.inl 41:=by unfold bP; rw[if_pos hm,if_pos hx]
   rw[e];exact .inl ⟨by decide,rfl⟩
  ·have e:bP L=.inr (bW (L.take 1) == 1,1):=by unfold bP; rw[if_pos hm,if_neg hx]
   rw[e];refine .inr ⟨rfl,1,hm,?_,rfl⟩;have a:=iZ h hm;have h0:=(bV (l:=L.take 1) (fun x hx=>h x (List.mem_of_mem_take hx))).1
   show be 1 (if (bW (L.take 1) == 1)=true then 1 else 0)=L.take 1
   generalize L.take 1=M at *;by_cases b:bW M=1
   ·rw[b] at a ⊢;exact a
   ·rw[show bW M=0 by omega] at a ⊢;exact a
 ·have e:bP L=.inl 40:=by unfold bP; rw[if_neg hm]
  rw[e];exact .inl ⟨by decide,rfl⟩
theorem sJ(h:bG L):((cy m L:Nat):Int)=bW (L.take m):=by
 unfold cy;rw[Int.toNat_of_nonneg (bV (fun x hx=>h x (List.mem_of_mem_take hx))).1]
theorem DT(h:bG L)(hm:m<=L.length)(hc:m+cy m L<=L.length):gu m ((L.drop m).take (cy m L))=L.take (m+cy m L):=by
 unfold gu
 have e:(((L.drop m).take (cy m L)).length:Int)=bW (L.take m):=by
  rw[List.length_take,List.length_drop,Nat.min_eq_left (by omega)];exact sJ h
 rw[e,iZ h hm,List.take_add]
theorem EC(h:bG L):One (rdE (bZ L) 0) L (rdL (bZ L) 0 L) (fun t=>iB (rdV 0 (bZ L) 0) 0=0/\∀ K,jw (rdV 0 (bZ L) 0) 0 K=K ++ t):=by
 by_cases hm:1<=L.length
 ·by_cases hc:1+cy 1 L<=L.length
  ·by_cases d:0 < cy 1 L/\nth (L.drop 1) 0=0
   ·have e:bZ L=.inl 41:=by unfold bZ; rw[if_pos hm,if_pos hc,if_pos d]
    rw[e];exact .inl ⟨by decide,rfl⟩
   ·have e:bZ L=.inr (bW ((L.drop 1).take (cy 1 L)),1 + cy 1 L):=by unfold bZ; rw[if_pos hm,if_pos hc,if_neg d]
    have f:=DT h hm hc
    have g:((cy 1 L:Nat):Int) < 256:=by
     have:=(bV (l:=L.take 1) (fun x hx=>h x (List.mem_of_mem_take hx))).2;rw[List.length_take,Nat.min_eq_left hm] at this;rw[sJ h];simpa using this
    have a:bG ((L.drop 1).take (cy 1 L)):=fun x hx=>h x (List.mem_of_mem_drop (List.mem_of_mem_take hx))
    have hlen:((L.drop 1).take (cy 1 L)).length=cy 1 L:=by rw[List.length_take,List.length_drop];omega
    have i:eC (bW ((L.drop 1).take (cy 1 L)))=(L.drop 1).take (cy 1 L):=mg (bV a).1 ⟨a,fun c=>by
     have b:0 < cy 1 L:=by
      rcases Nat.eq_zero_or_pos (cy 1 L) with h0 | h0
      ·exact absurd (by rw[h0];simp) c
      ·exact h0
     rw[dH b]
     exact fun h0=>d ⟨b,h0⟩,rfl⟩
    rw[e];refine .inr ⟨rfl,_,hc,?_,rfl⟩
    show iB (bW ((L.drop 1).take (cy 1 L))) 0=0/\∀ K,jw (bW ((L.drop 1).take (cy 1 L))) 0 K=K ++ L.take (1+cy 1 L)
    unfold iB jw;rw[i,if_pos (by omega)];refine⟨rfl,fun K=>?_⟩;rw[if_pos (by omega),f];rfl
  ·have e:bZ L=.inl 40:=by unfold bZ; rw[if_pos hm,if_neg hc]
   rw[e];exact .inl ⟨by decide,rfl⟩
 ·have e:bZ L=.inl 40:=by unfold bZ; rw[if_neg hm]
  rw[e];exact .inl ⟨by decide,rfl⟩
end
end
section
namespace Rc
open Go.RowKit Go.Lib Pg Lim
section
variable {l r:List Int}{m:Nat}{x:Int}
theorem sK(m:Nat)(l:List Int):(gu m l).length=m+l.length:=by
 unfold gu;rw[List.length_append,aT]
theorem iV(h:l.length=m):(l ++ r).take m=l/\(l ++ r).drop m=r:=by
 subst h;exact⟨List.take_left,List.drop_left⟩
theorem Bb(m:Nat)(hx:0<=x)(r:List Int):di m (be m x ++ r)=.inr (x % 256 ^ m,m)/\(be m x ++ r).drop m=r:=by
 have h:=iV (r:=r) (aT m x);refine⟨?_,h.2⟩;unfold di;rw[if_pos (by rw[List.length_append,aT];omega),h.1,qy m hx]
theorem Ea(hl:(l.length:Int) < 256 ^ m):cy m (gu m l ++ r)=l.length:=by
 unfold cy gu;rw[List.append_assoc,(iV (aT m _)).1,qy m (by omega),Int.emod_eq_of_lt (by omega) hl];rfl
theorem Ae(m:Nat)(l r:List Int):(gu m l ++ r).drop m=l ++ r:=by
 unfold gu;rw[List.append_assoc,(iV (aT m _)).2]
theorem AU{V:Int}(d:0<=V)(f:(eC V).length < 256)(r:List Int):bZ (gu 1 (eC V) ++ r)=.inr (V,1+(eC V).length)/\(gu 1 (eC V) ++ r).drop (1+(eC V).length)=r:=by
 have hc:cy 1 (gu 1 (eC V) ++ r)=(eC V).length:=Ea (by simpa using (by omega:((eC V).length:Int) < 256));have hd:=Ae 1 (eC V) r;have b:=qx d;refine⟨?_,?_⟩
 ·unfold bZ;rw[if_pos (by rw[List.length_append,sK];omega),hc,if_pos (by rw[List.length_append,sK];omega),hd,if_neg,(iV rfl).1,b.2.2];rintro⟨h0,c⟩
  have a:eC V≠[]:=fun e=>by rw[e] at h0;simp at h0
  refine b.2.1 a ?_
  rw[<- c]
  cases hh:eC V with
  | nil=>exact absurd hh a
  | cons x t=>rfl
 ·rw[<- List.drop_drop,hd,(iV rfl).2]
theorem yY(x:Bool)(r:List Int):bP (be 1 (if x then 1 else 0) ++ r)=.inr (x,1)/\(be 1 (if x then 1 else 0) ++ r).drop 1=r:=by
 cases x
 ·exact⟨rfl,rfl⟩
 ·exact⟨rfl,rfl⟩
theorem one1(h:bG l)(k:Nat)(he:rdE (p1 k l) 0=0):ia k (rdV 0 (p1 k l) 0) ++ rdL (p1 k l) 0 l=l/\∃ m,rdL (p1 k l) 0 l=l.drop m:=by
 match k with
 | 0 =>
  rcases DR h 8 with⟨h1,_⟩ | ⟨_,m,h2,h3,h4⟩
  ·exact absurd he h1
  ·show be 8 (rdV 0 (di 8 l) 0) ++ rdL (di 8 l) 0 l=l/\∃ m,rdL (di 8 l) 0 l=l.drop m
   rw[h3,h4];exact⟨List.take_append_drop m l,m,rfl⟩
 | 1 =>
  have a:rdE (bP l) 0=0:=by rw[<- oG];exact he
  rcases CU h with⟨h1,_⟩ | ⟨_,m,h2,h3,h4⟩
  ·exact absurd a h1
  ·show be 1 (rdV 0 (eh l) 0) ++ rdL (eh l) 0 l=l/\∃ m,rdL (eh l) 0 l=l.drop m
   rw[nh,nE,h3,h4];exact⟨List.take_append_drop m l,m,rfl⟩
 | k + 2 =>
  rcases EC h with⟨h1,_⟩ | ⟨_,m,h2,⟨h3,h5⟩,h4⟩
  ·exact absurd he h1
  ·show gu 1 (eC (fit (rdV 0 (bZ l) 0))) ++ rdL (bZ l) 0 l=l/\∃ m,rdL (bZ l) 0 l=l.drop m
   have hf:(eC (rdV 0 (bZ l) 0)).length < 256:=by
    unfold iB at h3;split at h3
    ·assumption
    ·exact absurd h3 (by decide)
   have e:=h5 [];unfold jw wrote at e;rw[if_pos hf,if_pos rfl] at e;unfold fit;rw[if_pos hf];simp only[List.nil_append] at e;rw[e,h4];exact⟨List.take_append_drop m l,m,rfl⟩
theorem ep{σ:Type}(nx:Nat->Nat->σ->σ)(p:Nat × Nat)(ks:List (Nat × Nat))(s:σ):thr nx (p :: ks) s=thr nx ks (nx p.1 p.2 s):=rfl
theorem EI(a:List (Nat × Nat)):∀ s:RSt,s.1≠0->(thr rnx a s).1=s.1:=by
 induction a with
 | nil=>intro s _;rfl
 | cons p a ih =>
  intro s hs
  have e:(rnx p.1 p.2 s).1=s.1:=qG hs;rw[ep,ih _ (by rw[e];exact hs),e]
theorem yg(a:List (Nat × Nat))(o:Nat):∀ s:RSt,o ∉ a.map Prod.snd->(thr rnx a s).2.2 o=s.2.2 o:=by
 induction a with
 | nil=>intro s _;rfl
 | cons p a ih =>
  intro s b;rw[List.map_cons,List.mem_cons,not_or] at b;rw[ep,ih _ b.2]
  show (if o=p.2 then _ else _)=_
  rw[if_neg b.1]
theorem ub(h:bG l)(m:Nat):bG (l.drop m):=fun x hx=>h x (List.mem_of_mem_drop hx)
theorem EX(a:List (Nat × Nat)):∀ (l:List Int) (xs:Nat->Int),bG l->(a.map Prod.snd).Nodup->(thr rnx a (0,l,xs)).1=0->∀ L,thr (pnx (thr rnx a (0,l,xs)).2.2) a L ++ (thr rnx a (0,l,xs)).2.1=L ++ l:=by
 induction a with
 | nil=>intro l xs _ _ _ L;rfl
 | cons p a ih =>
  intro l xs e b he L;rw[List.map_cons,List.nodup_cons] at b;rw[ep] at he
  have e1:rdE (p1 p.1 l) 0=0:=by
   by_cases d:rdE (p1 p.1 l) 0=0
   ·exact d
   ·exact absurd ((EI a (rnx p.1 p.2 (0,l,xs)) d).symm.trans he) d
  obtain⟨h,m,g⟩:=one1 e p.1 e1
  have es:rnx p.1 p.2 (0,l,xs)=(0,rdL (p1 p.1 l) 0 l,fun i=>if i=p.2 then rdV 0 (p1 p.1 l) 0 else xs i):=by
   show (rdE (p1 p.1 l) 0,_,_)=_
   rw[e1]
  have f:thr rnx (p :: a) (0,l,xs)=thr rnx a (0,rdL (p1 p.1 l) 0 l,fun i=>if i=p.2 then rdV 0 (p1 p.1 l) 0 else xs i):=by rw[ep,es]
  rw[es] at he;rw[f]
  have c:=ih _ _ (by rw[g];exact ub e m) b.2 he;rw[ep,c]
  have ev:(thr rnx a (0,rdL (p1 p.1 l) 0 l,fun i=>if i=p.2 then rdV 0 (p1 p.1 l) 0 else xs i)).2.2 p.2=rdV 0 (p1 p.1 l) 0:=by
   rw[yg a p.2 _ b.1]
   show (if p.2=p.2 then _ else _)=_
   rw[if_pos rfl]
  show (L ++ ia p.1 _) ++ _=L ++ l
  rw[ev,List.append_assoc,h]
def rng:Nat->Int->Prop
 | 0,x=>0<=x/\x < 18446744073709551616
 | 1,x=>x=0\/x=1
 | _,x=>0<=x
def fitk:Nat->Int->Int
 | 0,x=>x
 | 1,x=>x
 | _,x=>fit x
theorem back1(k:Nat)(hx:rng k x)(r:List Int):∃ m,p1 k (ia k x ++ r)=.inr (fitk k x,m)/\(ia k x ++ r).drop m=r:=by
 match k,hx with
 | 0,hx =>
  obtain⟨b,a⟩:=Bb 8 hx.1 r;refine⟨8,?_,a⟩
  show di 8 (be 8 x ++ r)=_
  rw[b,Int.emod_eq_of_lt hx.1 (by have:=hx.2;simpa using this)];rfl
 | 1,hx =>
  have key:∀ t:Bool,∃ m,eh (be 1 (if t then 1 else 0) ++ r)=.inr ((if t then 1 else 0),m)/\(be 1 (if t then 1 else 0) ++ r).drop m=r:=fun t=>by
   obtain⟨b,a⟩:=yY t r;refine⟨1,?_,a⟩;unfold eh;rw[b]
  rcases hx with rfl | rfl
  ·exact key false
  ·exact key true
 | k + 2,hx =>
  have c:0<=fit x:=by
   unfold fit;split
   ·exact hx
   ·decide
  obtain⟨b,a⟩:=AU c (ja x) r;exact⟨_,b,a⟩
theorem rY(b:Nat->Int)(a:List (Nat × Nat)):∀ (r:List Int) (xs:Nat->Int),(a.map Prod.snd).Nodup->(∀ p∈a,rng p.1 (b p.2))->∃ ys,thr rnx a (0,thr (pnx b) a [] ++ r,xs)=(0,r,ys)/\(∀ p∈a,ys p.2=fitk p.1 (b p.2))/\∀ o,o ∉ a.map Prod.snd->ys o=xs o:=by
 have hL:∀ (a:List (Nat × Nat)) (L:List Int),thr (pnx b) a L=L ++ thr (pnx b) a []:=by
  intro a
  induction a with
  | nil=>intro L;simp[thr]
  | cons p a ih =>
   intro L;rw[ep,ep,ih (pnx b p.1 p.2 L),ih (pnx b p.1 p.2 [])];simp[pnx,List.append_assoc]
 induction a with
 | nil=>exact fun r xs _ _=>⟨xs,rfl,(fun p j=>by cases j),fun _ _=>rfl⟩
 | cons p a ih =>
  intro r xs c f;rw[List.map_cons,List.nodup_cons] at c;obtain⟨m,h,g⟩:=back1 p.1 (f p List.mem_cons_self) (thr (pnx b) a [] ++ r)
  have el:thr (pnx b) (p :: a) [] ++ r=ia p.1 (b p.2) ++ (thr (pnx b) a [] ++ r):=by
   rw[ep,hL];simp[pnx,List.append_assoc]
  rw[el,ep]
  have es:rnx p.1 p.2 (0,ia p.1 (b p.2) ++ (thr (pnx b) a [] ++ r),xs)=(0,thr (pnx b) a [] ++ r,fun i=>if i=p.2 then fitk p.1 (b p.2) else xs i):=by
   show (rdE (p1 p.1 _) 0,rdL (p1 p.1 _) 0 _,fun i=>if i=p.2 then rdV 0 (p1 p.1 _) 0 else xs i)=_
   rw[h]
   show (_,List.drop m _,_)=_
   rw[g];rfl
  rw[es];obtain⟨ys,e1,e2,e3⟩:=ih r _ c.2 (fun q d=>f q (List.mem_cons_of_mem _ d));refine⟨ys,e1,fun q d=>?_,fun o e=>?_⟩
  ·rcases List.mem_cons.1 d with rfl | d
   ·rw[e3 _ c.1]
    show (if q.2=q.2 then _ else _)=_
    rw[if_pos rfl]
   ·exact e2 q d
  ·rw[List.map_cons,List.mem_cons,not_or] at e;rw[e3 o e.2]
   show (if o=p.2 then _ else _)=_
   rw[if_neg e.1]
end
end Rc
end
section
namespace Rc
open Go.RowKit Go.Lib Pg
attribute [local go_sem] Oper.semAt_some
theorem Bm (k:Nat) (x:Int):bG (ia k x):=by
 unfold ia;split
 ·exact fB _ _
 ·exact fB _ _
 ·intro y hy;rcases List.mem_append.1 hy with h | h
  ·exact fB _ _ y h
  ·exact AD _ y h
theorem xD (xs:Nat->Int) (a:List (Nat × Nat)):∀ L,bG L->bG (thr (pnx xs) a L):=by
 induction a with
 | nil=>exact fun _ h=>h
 | cons p a ih =>
  intro L h;rw[ep];refine ih _ ?_
  intro y hy;rcases List.mem_append.1 hy with b | b
  ·exact h y b
  ·exact Bm _ _ y b
end Rc
end
section
namespace Rc
open Go.RowKit Go.Lib Pg
attribute [local go_sem] Oper.semAt_some
end Rc
end
section
open Go.RowKit Lim
def stB (s:Stp):Option (List Int) :=
 if s.what=0 then some (be 1 (s.num % 256))
 else if s.what=1 then some (be 4 (s.num % 4294967296))
 else if s.what=2 then some (be 8 s.num)
 else if s.what=3 then some (be 1 (if s.num % 2 == 1 then 1 else 0))
 else if s.what=4\/s.what=5 then (if (eC s.V).length < 256 then some (gu 1 (eC s.V)) else none)
 else if s.what=6 then some (gu 4 s.bl)
 else some []
def stO (s:Stp) (o:Option (List Int)):Option (List Int):=o.bind fun L=>(stB s).map (L ++ ·)
def laid (ss:List Stp):Option (List Int):=ss.foldl (fun o s=>stO s o) (some [])
end
section
open Go.RowKit Lim
end
section
open Go.RowKit Lim
end
section
open Go.RowKit Lim
end
section
open Go.RowKit Lim
end
section
open Go.RowKit Lim
end
section
open Go.RowKit Lim
end
section
open Go.RowKit Lim
end
section
namespace Rc
open Go.RowKit Go.Lib Pg Lim
attribute [local go_sem] Oper.semAt_some
end Rc
end
section
namespace Rc
open Go.RowKit Go.Lib Pg Lim
attribute [local go_sem] Oper.semAt_some
end Rc
end
section
namespace Rc
open Go.RowKit Go.Lib Pg Lim
theorem yn {err:Int} {l:List Int} (h:gR err l=0):err=0/\l=[]:=by
 unfold gR at h;split at h
 ·rename_i he;split at h
  ·rename_i a;exact⟨he,List.eq_nil_of_length_eq_zero a⟩
  ·exact absurd h (by decide)
 ·exact absurd h (by assumption)
theorem ones (a:List (Nat × Nat)) (l:List Int) (c:bG l) (b:(a.map Prod.snd).Nodup) (h:gR (thr rnx a (0,l,fun _=>0)).1 (thr rnx a (0,l,fun _=>0)).2.1=0):thr (pnx (thr rnx a (0,l,fun _=>0)).2.2) a []=l:=by
 obtain⟨e,d⟩:=yn h;have:=EX a l (fun _=>0) c b e [];rw[d,List.append_nil,List.nil_append] at this;exact this
end Rc
end
section
open Go.RowKit Lim
end
section
namespace Rc
open Go.RowKit Go.Lib Pg Lim
attribute [local go_sem] Oper.semAt_some
end Rc
end
section
namespace Rc
open Go.RowKit Go.Lib Pg Lim Gl
section
variable {xs:Nat->Int}{w w':World}{e:Ending}{bb n c:Nat}{ao:Option Addr}{l:List Int}
def jx(s:RSt):Int:=if gR s.1 s.2.1=0 then 0 else 80
def gP(s:RSt):Nat->Int:=if gR s.1 s.2.1=0 then s.2.2 else fun _=>0
theorem vH{s:RSt}{r:Int}(b:gR s.1 s.2.1=0->r=0/\xs=s.2.2)(a:gR s.1 s.2.1≠0->r=80/\xs=fun _=>0):xs=gP s/\r=jx s:=by
 unfold gP jx;by_cases h:gR s.1 s.2.1=0
 ·rw[if_pos h,if_pos h];exact⟨(b h).2,(b h).1⟩
 ·rw[if_neg h,if_neg h];exact⟨(a h).2,(a h).1⟩
theorem outChain{s:RSt}(h:qw w fq 2 mkA s e w'):e=.returned (.tuple #[.agg #[.int .u64 (gP s 0),.int .u64 (gP s 1)],.int .i64 (jx s)])/\Below w.heap.size w w':=by
 obtain⟨⟨cs,xs,r,rfl,f,b,d,c⟩,B⟩:=h;obtain⟨e1,e2⟩:=vH d c;subst e1 e2;have q0:=(b 0).1 rfl;have q1:=(b 1).1 rfl
 have a:cs=[.int .u64 (gP s 0),.int .u64 (gP s 1)]:=by
  refine List.ext_getElem? fun i=>?_
  rcases Nat.lt_or_ge i 2 with hi | hi
  ·match i,hi with
   | 0,_=>exact q0
   | 1,_=>exact q1
   | n+2,h=>exact absurd h (by omega)
  ·rw[List.getElem?_eq_none (by omega),List.getElem?_eq_none hi]
 subst a;exact⟨rfl,B⟩
def dn(l:List Int):RSt:=thr rnx [(2,0),(0,1)] (0,l,fun _=>0)
theorem vi{s:RSt}(h:qw w bh 2 mkA s e w'):∃ a0 n0 c0,e=.returned (.tuple #[.agg #[.slice a0 n0 c0,.int .u64 (gP s 1)],.int .i64 (jx s)])/\(fT w' w.heap.size a0 n0 c0 (gP s 0)/\n0<=510)/\Below w.heap.size w w':=by
 obtain⟨⟨cs,xs,r,rfl,g,b,d,c⟩,B⟩:=h;obtain⟨e1,e2⟩:=vH d c;subst e1 e2;obtain⟨a0,n0,c0,q0,f,z0⟩:=(b 0).2.2 rfl;have q1:=(b 1).1 rfl
 have a:cs=[.slice a0 n0 c0,.int .u64 (gP s 1)]:=by
  refine List.ext_getElem? fun i=>?_
  rcases Nat.lt_or_ge i 2 with hi | hi
  ·match i,hi with
   | 0,_=>exact q0
   | 1,_=>exact q1
   | n+2,h=>exact absurd h (by omega)
  ·rw[List.getElem?_eq_none (by omega),List.getElem?_eq_none hi]
 subst a;exact⟨a0,n0,c0,rfl,⟨f,by omega⟩,B⟩
theorem CP(A:ByA w bb ao n c l)(hn:n<=1000000000):Calls Tryz.prog 121 #[.slice ao n c] w fun e w'=>∃ a0 n0 c0,e=.returned (.tuple #[.agg #[.slice a0 n0 c0,.int .u64 (gP (dn l) 1)],.int .i64 (jx (dn l))])/\(fT w' w.heap.size a0 n0 c0 (gP (dn l) 0)/\n0<=510)/\Below w.heap.size w w':=by
 refine(sP A hn (by obtain⟨o,a,_⟩:=A.ex;exact a)).mono ?_
 intro e w' h;exact vi h
def lW(l:List Int):RSt:=thr rnx [(0,0),(0,1)] (0,l,fun _=>0)
theorem outCut{s:RSt}(h:qw w cQ 2 mkA s e w'):e=.returned (.tuple #[.agg #[.int .u64 (gP s 0),.int .u64 (gP s 1)],.int .i64 (jx s)])/\Below w.heap.size w w':=by
 obtain⟨⟨cs,xs,r,rfl,f,b,d,c⟩,B⟩:=h;obtain⟨e1,e2⟩:=vH d c;subst e1 e2;have q0:=(b 0).1 rfl;have q1:=(b 1).1 rfl
 have a:cs=[.int .u64 (gP s 0),.int .u64 (gP s 1)]:=by
  refine List.ext_getElem? fun i=>?_
  rcases Nat.lt_or_ge i 2 with hi | hi
  ·match i,hi with
   | 0,_=>exact q0
   | 1,_=>exact q1
   | n+2,h=>exact absurd h (by omega)
  ·rw[List.getElem?_eq_none (by omega),List.getElem?_eq_none hi]
 subst a;exact⟨rfl,B⟩
theorem oCut(A:ByA w bb ao n c l)(hn:n<=1000000000):Calls Tryz.prog 77 #[.slice ao n c] w fun e w'=>e=.returned (.tuple #[.agg #[.int .u64 (gP (lW l) 0),.int .u64 (gP (lW l) 1)],.int .i64 (jx (lW l))])/\Below w.heap.size w w':=by
 refine(ED A hn (by obtain⟨o,a,_⟩:=A.ex;exact a)).mono ?_
 intro e w' h;exact outCut h
end
end Rc
end
end Go.Proofs.YtjejmkcjflhoiaaGreatDoor
