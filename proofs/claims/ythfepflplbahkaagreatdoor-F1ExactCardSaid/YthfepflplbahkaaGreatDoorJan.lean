/- Several texts, joined: EncI, RcJ, RcK, RcL, EncJ, EncK, RefB2, EncL, EncP, EncQ, EncR, EncS, RcO, RcM, RcN, EncM, RcT, RcRd. -/
import Derived.Test.YthfepflplbahkaaGreatDoorJam
import Derived.Test.YthfepflplbahkaaGreatDoorJaf
import Derived.Test.YthfepflplbahkaaGreatDoorJad
set_option maxRecDepth 100000
set_option maxHeartbeats 8000000
namespace Go.Proofs.YthfepflplbahkaaGreatDoor
section
open Go.RowKit Lim
section
variable {l L:List Int}{m:Nat}
theorem CH(h:bh l):be l.length (bO l)=l:=by
 refine lQ (eR _ _) h (aN _ _) ?_
 have hb:=bM h;rw[oO _ hb.1,Int.emod_eq_of_lt hb.1 hb.2]
theorem iq(h:bh l)(hm:m<=l.length):be m (bO (l.take m))=l.take m:=by
 have:=CH (l:=l.take m) (fun x hx=>h x (List.mem_of_mem_take hx));rwa [List.length_take,Nat.min_eq_left hm] at this
def One(err':Int)(L L':List Int)(laid:List Int->Prop):Prop:=(err'≠0/\L'=L)\/(err'=0/\∃ k,k<=L.length/\laid (L.take k)/\L'=L.drop k)
theorem CA(h:bh L)(m:Nat):One (rdE (cN m L) 0) L (rdL (cN m L) 0 L) (fun t=>be m (rdV 0 (cN m L) 0)=t):=by
 by_cases hm:m<=L.length
 ·have e:cN m L=.inr (bO (L.take m),m):=by unfold cN; rw[if_pos hm]
  rw[e];exact .inr ⟨rfl,m,hm,iq h hm,rfl⟩
 ·have e:cN m L=.inl 40:=by unfold cN; rw[if_neg hm]
  rw[e];exact .inl ⟨by decide,rfl⟩
theorem ye(h:bh L):One (rdE (bE L) 0) L (rdL (bE L) 0 L) (fun t=>be 1 (if rdV false (bE L) 0 then 1 else 0)=t):=by
 by_cases hm:1<=L.length
 ·by_cases hx:1 < bO (L.take 1)
  ·have e:bE L=.inl 41:=by unfold bE; rw[if_pos hm,if_pos hx]
   rw[e];exact .inl ⟨by decide,rfl⟩
  ·have e:bE L=.inr (bO (L.take 1) == 1,1):=by unfold bE; rw[if_pos hm,if_neg hx]
   rw[e];refine .inr ⟨rfl,1,hm,?_,rfl⟩;have a:=iq h hm;have c:=(bM (l:=L.take 1) (fun x hx=>h x (List.mem_of_mem_take hx))).1
   show be 1 (if (bO (L.take 1) == 1)=true then 1 else 0)=L.take 1
   generalize L.take 1=M at *;by_cases b:bO M=1
   ·rw[b] at a ⊢;exact a
   ·rw[show bO M=0 by omega] at a ⊢;exact a
 ·have e:bE L=.inl 40:=by unfold bE; rw[if_neg hm]
  rw[e];exact .inl ⟨by decide,rfl⟩
theorem rH(h:bh L):((bS m L:Nat):Int)=bO (L.take m):=by
 unfold bS;rw[Int.toNat_of_nonneg (bM (fun x hx=>h x (List.mem_of_mem_take hx))).1]
theorem Dj(h:bh L)(hm:m<=L.length)(hc:m + bS m L<=L.length):fM m ((L.drop m).take (bS m L))=L.take (m + bS m L):=by
 unfold fM
 have e:(((L.drop m).take (bS m L)).length:Int)=bO (L.take m):=by
  rw[List.length_take,List.length_drop,Nat.min_eq_left (by omega)];exact rH h
 rw[e,iq h hm,List.take_add]
theorem Cz(h:bh L):One (rdE (bQ L) 0) L (rdL (bQ L) 0 L) (fun t=>gF (rdV 0 (bQ L) 0) 0=0/\∀ K,iC (rdV 0 (bQ L) 0) 0 K=K ++ t):=by
 by_cases hm:1<=L.length
 ·by_cases hc:1 + bS 1 L<=L.length
  ·by_cases f:0 < bS 1 L/\nth (L.drop 1) 0=0
   ·have e:bQ L=.inl 41:=by unfold bQ; rw[if_pos hm,if_pos hc,if_pos f]
    rw[e];exact .inl ⟨by decide,rfl⟩
   ·have e:bQ L=.inr (bO ((L.drop 1).take (bS 1 L)),1 + bS 1 L):=by unfold bQ; rw[if_pos hm,if_pos hc,if_neg f]
    have g:=Dj h hm hc
    have j:((bS 1 L:Nat):Int) < 256:=by
     have:=(bM (l:=L.take 1) (fun x hx=>h x (List.mem_of_mem_take hx))).2;rw[List.length_take,Nat.min_eq_left hm] at this;rw[rH h];simpa using this
    have a:bh ((L.drop 1).take (bS 1 L)):=fun x hx=>h x (List.mem_of_mem_drop (List.mem_of_mem_take hx))
    have hlen:((L.drop 1).take (bS 1 L)).length=bS 1 L:=by rw[List.length_take,List.length_drop]; omega
    have i:dV (bO ((L.drop 1).take (bS 1 L)))=(L.drop 1).take (bS 1 L):=kT (bM a).1 ⟨a,fun d=>by
     have b:0 < bS 1 L:=by
      rcases Nat.eq_zero_or_pos (bS 1 L) with c | c
      ·exact absurd (by rw[c]; simp) d
      ·exact c
     rw[dr b];exact fun c=>f ⟨b,c⟩,rfl⟩
    rw[e];refine .inr ⟨rfl,_,hc,?_,rfl⟩
    show gF (bO ((L.drop 1).take (bS 1 L))) 0=0/\∀ K,iC (bO ((L.drop 1).take (bS 1 L))) 0 K=K ++ L.take (1 + bS 1 L)
    unfold gF iC;rw[i,if_pos (by omega)];refine⟨rfl,fun K => ?_⟩;rw[if_pos (by omega),g];rfl
  ·have e:bQ L=.inl 40:=by unfold bQ; rw[if_pos hm,if_neg hc]
   rw[e];exact .inl ⟨by decide,rfl⟩
 ·have e:bQ L=.inl 40:=by unfold bQ; rw[if_neg hm]
  rw[e];exact .inl ⟨by decide,rfl⟩
end
end
section
namespace Rc
open Go.RowKit Go.Lib Pg Lim
section
variable {l r:List Int}{m:Nat}{x:Int}
theorem qU(m:Nat)(l:List Int):(fM m l).length=m + l.length:=by
 unfold fM;rw[List.length_append,aN]
theorem gG(h:l.length=m):(l ++ r).take m=l/\(l ++ r).drop m=r:=by
 subst h;exact⟨List.take_left,List.drop_left⟩
theorem zZ(m:Nat)(hx:0<=x)(r:List Int):cN m (be m x ++ r)=.inr (x % 256 ^ m,m)/\(be m x ++ r).drop m=r:=by
 have h:=gG (r:=r) (aN m x);refine⟨?_,h.2⟩;unfold cN;rw[if_pos (by rw[List.length_append,aN]; omega),h.1,oO m hx]
theorem Dn(hl:(l.length:Int) < 256 ^ m):bS m (fM m l ++ r)=l.length:=by
 unfold bS fM;rw[List.append_assoc,(gG (aN m _)).1,oO m (by omega),Int.emod_eq_of_lt (by omega) hl];rfl
theorem zM(m:Nat)(l r:List Int):(fM m l ++ r).drop m=l ++ r:=by
 unfold fM;rw[List.append_assoc,(gG (aN m _)).2]
theorem xc{V:Int}(f:0<=V)(h:(dV V).length < 256)(r:List Int):bQ (fM 1 (dV V) ++ r)=.inr (V,1 + (dV V).length)/\(fM 1 (dV V) ++ r).drop (1 + (dV V).length)=r:=by
 have hc:bS 1 (fM 1 (dV V) ++ r)=(dV V).length:=Dn (by simpa using (by omega:((dV V).length:Int) < 256));have c:=zM 1 (dV V) r;have b:=pK f;refine⟨?_,?_⟩
 ·unfold bQ;rw[if_pos (by rw[List.length_append,qU]; omega),hc,if_pos (by rw[List.length_append,qU]; omega),c,if_neg,(gG rfl).1,b.2.2];rintro⟨d,g⟩
  have a:dV V≠[]:=fun e=>by rw[e] at d; simp at d
  refine b.2.1 a ?_
  rw[<- g]
  cases hh:dV V with
  | nil=>exact absurd hh a
  | cons x t=>rfl
 ·rw[<- List.drop_drop,c,(gG rfl).2]
theorem wR(x:Bool)(r:List Int):bE (be 1 (if x then 1 else 0) ++ r)=.inr (x,1)/\(be 1 (if x then 1 else 0) ++ r).drop 1=r:=by
 cases x
 ·exact⟨rfl,rfl⟩
 ·exact⟨rfl,rfl⟩
theorem one1(h:bh l)(k:Nat)(he:rdE (p1 k l) 0=0):gl k (rdV 0 (p1 k l) 0) ++ rdL (p1 k l) 0 l=l/\∃ m,rdL (p1 k l) 0 l=l.drop m:=by
 match k with
 | 0 =>
  rcases CA h 8 with⟨h1,_⟩ | ⟨_,m,h2,h3,h4⟩
  ·exact absurd he h1
  ·show be 8 (rdV 0 (cN 8 l) 0) ++ rdL (cN 8 l) 0 l=l/\∃ m,rdL (cN 8 l) 0 l=l.drop m
   rw[h3,h4];exact⟨List.take_append_drop m l,m,rfl⟩
 | 1 =>
  have a:rdE (bE l) 0=0:=by rw[<- lN]; exact he
  rcases ye h with⟨h1,_⟩ | ⟨_,m,h2,h3,h4⟩
  ·exact absurd a h1
  ·show be 1 (rdV 0 (dP l) 0) ++ rdL (dP l) 0 l=l/\∃ m,rdL (dP l) 0 l=l.drop m
   rw[mw,lS,h3,h4];exact⟨List.take_append_drop m l,m,rfl⟩
 | k + 2 =>
  rcases Cz h with⟨h1,_⟩ | ⟨_,m,h2,⟨h3,h5⟩,h4⟩
  ·exact absurd he h1
  ·show fM 1 (dV (fit (rdV 0 (bQ l) 0))) ++ rdL (bQ l) 0 l=l/\∃ m,rdL (bQ l) 0 l=l.drop m
   have hf:(dV (rdV 0 (bQ l) 0)).length < 256:=by
    unfold gF at h3;split at h3
    ·assumption
    ·exact absurd h3 (by decide)
   have e:=h5 [];unfold iC wrote at e;rw[if_pos hf,if_pos rfl] at e;unfold fit;rw[if_pos hf];simp only[List.nil_append] at e;rw[e,h4];exact⟨List.take_append_drop m l,m,rfl⟩
theorem dX{σ:Type}(nx:Nat->Nat->σ->σ)(p:Nat × Nat)(ks:List (Nat × Nat))(s:σ):thr nx (p :: ks) s=thr nx ks (nx p.1 p.2 s):=rfl
theorem Di(a:List (Nat × Nat)):∀ s:RSt,s.1≠0->(thr rnx a s).1=s.1:=by
 induction a with
 | nil=>intro s _; rfl
 | cons p a ih =>
  intro s hs
  have e:(rnx p.1 p.2 s).1=s.1:=o7 hs;rw[dX,ih _ (by rw[e]; exact hs),e]
theorem vJ(a:List (Nat × Nat))(o:Nat):∀ s:RSt,o ∉ a.map Prod.snd->(thr rnx a s).2.2 o=s.2.2 o:=by
 induction a with
 | nil=>intro s _; rfl
 | cons p a ih =>
  intro s b;rw[List.map_cons,List.mem_cons,not_or] at b;rw[dX,ih _ b.2]
  show (if o=p.2 then _ else _)=_
  rw[if_neg b.1]
theorem rz(h:bh l)(m:Nat):bh (l.drop m):=fun x hx=>h x (List.mem_of_mem_drop hx)
theorem BQ(a:List (Nat × Nat)):∀ (l:List Int) (xs:Nat->Int),bh l->(a.map Prod.snd).Nodup->(thr rnx a (0,l,xs)).1=0->∀ L,thr (pnx (thr rnx a (0,l,xs)).2.2) a L ++ (thr rnx a (0,l,xs)).2.1=L ++ l:=by
 induction a with
 | nil=>intro l xs _ _ _ L; rfl
 | cons p a ih =>
  intro l xs e b he L;rw[List.map_cons,List.nodup_cons] at b;rw[dX] at he
  have e1:rdE (p1 p.1 l) 0=0:=by
   by_cases d:rdE (p1 p.1 l) 0=0
   ·exact d
   ·exact absurd ((Di a (rnx p.1 p.2 (0,l,xs)) d).symm.trans he) d
  obtain⟨h,m,f⟩:=one1 e p.1 e1
  have es:rnx p.1 p.2 (0,l,xs)=(0,rdL (p1 p.1 l) 0 l,fun i=>if i=p.2 then rdV 0 (p1 p.1 l) 0 else xs i):=by
   show (rdE (p1 p.1 l) 0,_,_)=_
   rw[e1]
  have g:thr rnx (p :: a) (0,l,xs)=thr rnx a (0,rdL (p1 p.1 l) 0 l,fun i=>if i=p.2 then rdV 0 (p1 p.1 l) 0 else xs i):=by rw[dX,es]
  rw[es] at he;rw[g]
  have c:=ih _ _ (by rw[f]; exact rz e m) b.2 he;rw[dX,c]
  have ev:(thr rnx a (0,rdL (p1 p.1 l) 0 l,fun i=>if i=p.2 then rdV 0 (p1 p.1 l) 0 else xs i)).2.2 p.2=rdV 0 (p1 p.1 l) 0:=by
   rw[vJ a p.2 _ b.1]
   show (if p.2=p.2 then _ else _)=_
   rw[if_pos rfl]
  show (L ++ gl p.1 _) ++ _=L ++ l
  rw[ev,List.append_assoc,h]
def rng:Nat->Int->Prop
 | 0,x=>0<=x/\x < 18446744073709551616
 | 1,x=>x=0\/x=1
 | _,x=>0<=x
def fitk:Nat->Int->Int
 | 0,x=>x
 | 1,x=>x
 | _,x=>fit x
theorem back1(k:Nat)(hx:rng k x)(r:List Int):∃ m,p1 k (gl k x ++ r)=.inr (fitk k x,m)/\(gl k x ++ r).drop m=r:=by
 match k,hx with
 | 0,hx =>
  obtain⟨b,a⟩:=zZ 8 hx.1 r;refine⟨8,?_,a⟩
  show cN 8 (be 8 x ++ r)=_
  rw[b,Int.emod_eq_of_lt hx.1 (by have:=hx.2; simpa using this)];rfl
 | 1,hx =>
  have key:∀ t:Bool,∃ m,dP (be 1 (if t then 1 else 0) ++ r)=.inr ((if t then 1 else 0),m)/\(be 1 (if t then 1 else 0) ++ r).drop m=r:=fun t=>by
   obtain⟨b,a⟩:=wR t r;refine⟨1,?_,a⟩;unfold dP;rw[b]
  rcases hx with rfl | rfl
  ·exact key false
  ·exact key true
 | k + 2,hx =>
  have c:0<=fit x:=by
   unfold fit;split
   ·exact hx
   ·decide
  obtain⟨b,a⟩:=xc c (iz x) r;exact⟨_,b,a⟩
theorem qB(b:Nat->Int)(a:List (Nat × Nat)):∀ (r:List Int) (xs:Nat->Int),(a.map Prod.snd).Nodup->(∀ p∈a,rng p.1 (b p.2))->∃ ys,thr rnx a (0,thr (pnx b) a [] ++ r,xs)=(0,r,ys)/\(∀ p∈a,ys p.2=fitk p.1 (b p.2))/\∀ o,o ∉ a.map Prod.snd->ys o=xs o:=by
 have hL:∀ (a:List (Nat × Nat)) (L:List Int),thr (pnx b) a L=L ++ thr (pnx b) a []:=by
  intro a
  induction a with
  | nil=>intro L; simp[thr]
  | cons p a ih =>
   intro L;rw[dX,dX,ih (pnx b p.1 p.2 L),ih (pnx b p.1 p.2 [])];simp[pnx,List.append_assoc]
 induction a with
 | nil=>exact fun r xs _ _=>⟨xs,rfl,(fun p g=>by cases g),fun _ _=>rfl⟩
 | cons p a ih =>
  intro r xs c f;rw[List.map_cons,List.nodup_cons] at c;obtain⟨m,h,j⟩:=back1 p.1 (f p List.mem_cons_self) (thr (pnx b) a [] ++ r)
  have el:thr (pnx b) (p :: a) [] ++ r=gl p.1 (b p.2) ++ (thr (pnx b) a [] ++ r):=by
   rw[dX,hL];simp[pnx,List.append_assoc]
  rw[el,dX]
  have es:rnx p.1 p.2 (0,gl p.1 (b p.2) ++ (thr (pnx b) a [] ++ r),xs)=(0,thr (pnx b) a [] ++ r,fun i=>if i=p.2 then fitk p.1 (b p.2) else xs i):=by
   show (rdE (p1 p.1 _) 0,rdL (p1 p.1 _) 0 _,fun i=>if i=p.2 then rdV 0 (p1 p.1 _) 0 else xs i)=_
   rw[h]
   show (_,List.drop m _,_)=_
   rw[j];rfl
  rw[es];obtain⟨ys,e1,e2,e3⟩:=ih r _ c.2 (fun q d=>f q (List.mem_cons_of_mem _ d));refine⟨ys,e1,fun q d => ?_,fun o e => ?_⟩
  ·rcases List.mem_cons.1 d with rfl | d
   ·rw[e3 _ c.1]
    show (if q.2=q.2 then _ else _)=_
    rw[if_pos rfl]
   ·exact e2 q d
  ·rw[List.map_cons,List.mem_cons,not_or] at e;rw[e3 o e.2]
   show (if o=p.2 then _ else _)=_
   rw[if_neg e.1]
end
end Rc
end
section
namespace Rc
open Go.RowKit Go.Lib Pg
attribute [local go_sem] Oper.semAt_some
theorem yV (k:Nat) (x:Int):bh (gl k x):=by
 unfold gl;split
 ·exact eR _ _
 ·exact eR _ _
 ·intro y hy;rcases List.mem_append.1 hy with h | h
  ·exact eR _ _ y h
  ·exact yD _ y h
theorem u6 (xs:Nat->Int) (a:List (Nat × Nat)):∀ L,bh L->bh (thr (pnx xs) a L):=by
 induction a with
 | nil=>exact fun _ h=>h
 | cons p a ih =>
  intro L h;rw[dX];refine ih _ ?_
  intro y hy;rcases List.mem_append.1 hy with b | b
  ·exact h y b
  ·exact yV _ _ y b
end Rc
end
section
namespace Rc
open Go.RowKit Go.Lib Pg
attribute [local go_sem] Oper.semAt_some
end Rc
end
section
open Go.RowKit Lim
def stB (s:Stp):Option (List Int) :=
 if s.what=0 then some (be 1 (s.num % 256))
 else if s.what=1 then some (be 4 (s.num % 4294967296))
 else if s.what=2 then some (be 8 s.num)
 else if s.what=3 then some (be 1 (if s.num % 2 == 1 then 1 else 0))
 else if s.what=4\/s.what=5 then (if (dV s.V).length < 256 then some (fM 1 (dV s.V)) else none)
 else if s.what=6 then some (fM 4 s.bl)
 else some []
def stO (s:Stp) (o:Option (List Int)):Option (List Int):=o.bind fun L=>(stB s).map (L ++ ·)
def laid (ss:List Stp):Option (List Int):=ss.foldl (fun o s=>stO s o) (some [])
end
section
open Go.RowKit Lim
end
section
open Go.RowKit Lim
end
section
open Go.RowKit Lim
end
section
open Go.RowKit Lim
end
section
open Go.RowKit Lim
end
section
open Go.RowKit Lim
end
section
open Go.RowKit Lim
end
section
namespace Rc
open Go.RowKit Go.Lib Pg Lim
attribute [local go_sem] Oper.semAt_some
end Rc
end
section
namespace Rc
open Go.RowKit Go.Lib Pg Lim
attribute [local go_sem] Oper.semAt_some
end Rc
end
section
namespace Rc
open Go.RowKit Go.Lib Pg Lim
theorem wY {err:Int} {l:List Int} (h:fY err l=0):err=0/\l=[]:=by
 unfold fY at h;split at h
 ·rename_i he;split at h
  ·rename_i a;exact⟨he,List.eq_nil_of_length_eq_zero a⟩
  ·exact absurd h (by decide)
 ·exact absurd h (by assumption)
theorem ones (a:List (Nat × Nat)) (l:List Int) (e:bh l) (b:(a.map Prod.snd).Nodup) (h:fY (thr rnx a (0,l,fun _=>0)).1 (thr rnx a (0,l,fun _=>0)).2.1=0):thr (pnx (thr rnx a (0,l,fun _=>0)).2.2) a []=l:=by
 obtain⟨d,c⟩:=wY h;have:=BQ a l (fun _=>0) e b d [];rw[c,List.append_nil,List.nil_append] at this;exact this
end Rc
end
section
open Go.RowKit Lim
end
section
namespace Rc
open Go.RowKit Go.Lib Pg Lim
attribute [local go_sem] Oper.semAt_some
end Rc
end
section
namespace Rc
open Go.RowKit Go.Lib Pg Lim Gl
section
variable {xs:Nat->Int}{w w':World}{e:Ending}{bb n c:Nat}{ao:Option Addr}{l:List Int}
def iD(s:RSt):Int:=if fY s.1 s.2.1=0 then 0 else 80
def fU(s:RSt):Nat->Int:=if fY s.1 s.2.1=0 then s.2.2 else fun _=>0
theorem s7{s:RSt}{r:Int}(a:fY s.1 s.2.1=0->r=0/\xs=s.2.2)(b:fY s.1 s.2.1≠0->r=80/\xs=fun _=>0):xs=fU s/\r=iD s:=by
 unfold fU iD;by_cases h:fY s.1 s.2.1=0
 ·rw[if_pos h,if_pos h]; exact⟨(a h).2,(a h).1⟩
 ·rw[if_neg h,if_neg h]; exact⟨(b h).2,(b h).1⟩
theorem outChain{s:RSt}(h:ph w eI 2 mkA s e w'):e=.returned (.tuple #[.agg #[.int .u64 (fU s 0),.int .u64 (fU s 1)],.int .i64 (iD s)])/\Below w.heap.size w w':=by
 obtain⟨⟨cs,xs,r,rfl,f,b,c,d⟩,B⟩:=h;obtain⟨e1,e2⟩:=s7 c d;subst e1 e2;have q0:=(b 0).1 rfl;have q1:=(b 1).1 rfl
 have a:cs=[.int .u64 (fU s 0),.int .u64 (fU s 1)]:=by
  refine List.ext_getElem? fun i => ?_
  rcases Nat.lt_or_ge i 2 with hi | hi
  ·match i,hi with
   | 0,_=>exact q0
   | 1,_=>exact q1
   | n + 2,h=>exact absurd h (by omega)
  ·rw[List.getElem?_eq_none (by omega),List.getElem?_eq_none hi]
 subst a;exact⟨rfl,B⟩
def cU(l:List Int):RSt:=thr rnx [(2,0),(0,1)] (0,l,fun _=>0)
theorem sy{s:RSt}(h:ph w aT 2 mkA s e w'):∃ a0 n0 c0,e=.returned (.tuple #[.agg #[.slice a0 n0 c0,.int .u64 (fU s 1)],.int .i64 (iD s)])/\(fw w' w.heap.size a0 n0 c0 (fU s 0)/\n0<=510)/\Below w.heap.size w w':=by
 obtain⟨⟨cs,xs,r,rfl,f,b,c,d⟩,B⟩:=h;obtain⟨e1,e2⟩:=s7 c d;subst e1 e2;obtain⟨a0,n0,c0,q0,y0,z0⟩:=(b 0).2.2 rfl;have q1:=(b 1).1 rfl
 have a:cs=[.slice a0 n0 c0,.int .u64 (fU s 1)]:=by
  refine List.ext_getElem? fun i => ?_
  rcases Nat.lt_or_ge i 2 with hi | hi
  ·match i,hi with
   | 0,_=>exact q0
   | 1,_=>exact q1
   | n + 2,h=>exact absurd h (by omega)
  ·rw[List.getElem?_eq_none (by omega),List.getElem?_eq_none hi]
 subst a;exact⟨a0,n0,c0,rfl,⟨y0,by omega⟩,B⟩
theorem z8(A:ByA w bb ao n c l)(hn:n<=1000000000):Calls Tryz.prog 128 #[.slice ao n c] w fun e w'=>∃ a0 n0 c0,e=.returned (.tuple #[.agg #[.slice a0 n0 c0,.int .u64 (fU (cU l) 1)],.int .i64 (iD (cU l))])/\(fw w' w.heap.size a0 n0 c0 (fU (cU l) 0)/\n0<=510)/\Below w.heap.size w w':=by
 refine(qR A hn (by obtain⟨o,a,_⟩:=A.ex; exact a)).mono ?_
 intro e w' h;exact sy h
def kP(l:List Int):RSt:=thr rnx [(0,0),(0,1)] (0,l,fun _=>0)
theorem outCut{s:RSt}(h:ph w cn 2 mkA s e w'):e=.returned (.tuple #[.agg #[.int .u64 (fU s 0),.int .u64 (fU s 1)],.int .i64 (iD s)])/\Below w.heap.size w w':=by
 obtain⟨⟨cs,xs,r,rfl,f,b,c,d⟩,B⟩:=h;obtain⟨e1,e2⟩:=s7 c d;subst e1 e2;have q0:=(b 0).1 rfl;have q1:=(b 1).1 rfl
 have a:cs=[.int .u64 (fU s 0),.int .u64 (fU s 1)]:=by
  refine List.ext_getElem? fun i => ?_
  rcases Nat.lt_or_ge i 2 with hi | hi
  ·match i,hi with
   | 0,_=>exact q0
   | 1,_=>exact q1
   | n + 2,h=>exact absurd h (by omega)
  ·rw[List.getElem?_eq_none (by omega),List.getElem?_eq_none hi]
 subst a;exact⟨rfl,B⟩
theorem oCut(A:ByA w bb ao n c l)(hn:n<=1000000000):Calls Tryz.prog 85 #[.slice ao n c] w fun e w'=>e=.returned (.tuple #[.agg #[.int .u64 (fU (kP l) 0),.int .u64 (fU (kP l) 1)],.int .i64 (iD (kP l))])/\Below w.heap.size w w':=by
 refine(Dh A hn (by obtain⟨o,a,_⟩:=A.ex; exact a)).mono ?_
 intro e w' h;exact outCut h
end
end Rc
end
end Go.Proofs.YthfepflplbahkaaGreatDoor
