import Derived.Test.YthfepflplbahkaaGreatDoorJam
import Derived.Test.YthfepflplbahkaaGreatDoorJad
set_option maxRecDepth 100000
set_option maxHeartbeats 8000000
namespace Go.Proofs.YthfepflplbahkaaGreatDoor
section
open Go.RowKit Lim
section
variable {l L:List Int}{m:Nat}
theorem BU(h:bj l):be l.length (bO l)=l:=by
 refine mo (eX _ _) h (aN _ _) ?_
 have hb:=bM h;rw[o5 _ hb.1,Int.emod_eq_of_lt hb.1 hb.2]
theorem iC(h:bj l)(hm:m<=l.length):be m (bO (l.take m))=l.take m:=by
 have:=BU (l:=l.take m) (fun x hx=>h x (List.mem_of_mem_take hx));rwa [List.length_take,Nat.min_eq_left hm] at this
def One(err':Int)(L L':List Int)(laid:List Int->Prop):Prop:=(err'≠0/\L'=L)\/(err'=0/\∃ k,k<=L.length/\laid (L.take k)/\L'=L.drop k)
theorem CW(h:bj L)(m:Nat):One (rdE (cQ m L) 0) L (rdL (cQ m L) 0 L) (fun t=>be m (rdV 0 (cQ m L) 0)=t):=by
 by_cases hm:m<=L.length
 ·have e:cQ m L=.inr (bO (L.take m),m):=by unfold cQ; rw[if_pos hm]
  rw[e];exact .inr ⟨rfl,m,hm,iC h hm,rfl⟩
 ·have e:cQ m L=.inl 40:=by unfold cQ; rw[if_neg hm]
  rw[e];exact .inl ⟨by decide,rfl⟩
theorem z7(h:bj L):One (rdE (bE L) 0) L (rdL (bE L) 0 L) (fun t=>be 1 (if rdV false (bE L) 0 then 1 else 0)=t):=by
 by_cases hm:1<=L.length
 ·by_cases hx:1 < bO (L.take 1)
  ·have e:bE L=.inl 41:=by unfold bE; rw[if_pos hm,if_pos hx]
   rw[e];exact .inl ⟨by decide,rfl⟩
  ·have e:bE L=.inr (bO (L.take 1) == 1,1):=by unfold bE; rw[if_pos hm,if_neg hx]
   rw[e];refine .inr ⟨rfl,1,hm,?_,rfl⟩;have a:=iC h hm;have c:=(bM (l:=L.take 1) (fun x hx=>h x (List.mem_of_mem_take hx))).1
   show be 1 (if (bO (L.take 1) == 1)=true then 1 else 0)=L.take 1
   generalize L.take 1=M at *;by_cases b:bO M=1
   ·rw[b] at a ⊢;exact a
   ·rw[show bO M=0 by omega] at a ⊢;exact a
 ·have e:bE L=.inl 40:=by unfold bE; rw[if_neg hm]
  rw[e];exact .inl ⟨by decide,rfl⟩
theorem qK(h:bj L):((bU m L:Nat):Int)=bO (L.take m):=by
 unfold bU;rw[Int.toNat_of_nonneg (bM (fun x hx=>h x (List.mem_of_mem_take hx))).1]
theorem Bq(h:bj L)(hm:m<=L.length)(hc:m+bU m L<=L.length):fN m ((L.drop m).take (bU m L))=L.take (m+bU m L):=by
 unfold fN
 have e:(((L.drop m).take (bU m L)).length:Int)=bO (L.take m):=by
  rw[List.length_take,List.length_drop,Nat.min_eq_left (by omega)];exact qK h
 rw[e,iC h hm,List.take_add]
theorem Db(h:bj L):One (rdE (bR L) 0) L (rdL (bR L) 0 L) (fun t=>gK (rdV 0 (bR L) 0) 0=0/\∀ K,iH (rdV 0 (bR L) 0) 0 K=K ++ t):=by
 by_cases hm:1<=L.length
 ·by_cases hc:1+bU 1 L<=L.length
  ·by_cases f:0 < bU 1 L/\nth (L.drop 1) 0=0
   ·have e:bR L=.inl 41:=by unfold bR; rw[if_pos hm,if_pos hc,if_pos f]
    rw[e];exact .inl ⟨by decide,rfl⟩
   ·have e:bR L=.inr (bO ((L.drop 1).take (bU 1 L)),1 + bU 1 L):=by unfold bR; rw[if_pos hm,if_pos hc,if_neg f]
    have d:=Bq h hm hc
    have i:((bU 1 L:Nat):Int) < 256:=by
     have:=(bM (l:=L.take 1) (fun x hx=>h x (List.mem_of_mem_take hx))).2;rw[List.length_take,Nat.min_eq_left hm] at this;rw[qK h];simpa using this
    have b:bj ((L.drop 1).take (bU 1 L)):=fun x hx=>h x (List.mem_of_mem_drop (List.mem_of_mem_take hx))
    have hlen:((L.drop 1).take (bU 1 L)).length=bU 1 L:=by rw[List.length_take,List.length_drop];omega
    have j:dU (bO ((L.drop 1).take (bU 1 L)))=(L.drop 1).take (bU 1 L):=kL (bM b).1 ⟨b,fun g=>by
     have a:0 < bU 1 L:=by
      rcases Nat.eq_zero_or_pos (bU 1 L) with c | c
      ·exact absurd (by rw[c];simp) g
      ·exact c
     rw[dt a]
     exact fun c=>f ⟨a,c⟩,rfl⟩
    rw[e];refine .inr ⟨rfl,_,hc,?_,rfl⟩
    show gK (bO ((L.drop 1).take (bU 1 L))) 0=0/\∀ K,iH (bO ((L.drop 1).take (bU 1 L))) 0 K=K ++ L.take (1+bU 1 L)
    unfold gK iH;rw[j,if_pos (by omega)];refine⟨rfl,fun K=>?_⟩;rw[if_pos (by omega),d];rfl
  ·have e:bR L=.inl 40:=by unfold bR; rw[if_pos hm,if_neg hc]
   rw[e];exact .inl ⟨by decide,rfl⟩
 ·have e:bR L=.inl 40:=by unfold bR; rw[if_neg hm]
  rw[e];exact .inl ⟨by decide,rfl⟩
end
end
section
namespace Rc
open Go.RowKit Go.Lib Pg Lim
section
variable {l r:List Int}{m:Nat}{x:Int}
theorem ri(m:Nat)(l:List Int):(fN m l).length=m+l.length:=by
 unfold fN;rw[List.length_append,aN]
theorem gV(h:l.length=m):(l ++ r).take m=l/\(l ++ r).drop m=r:=by
 subst h;exact⟨List.take_left,List.drop_left⟩
theorem Au(m:Nat)(hx:0<=x)(r:List Int):cQ m (be m x ++ r)=.inr (x % 256 ^ m,m)/\(be m x ++ r).drop m=r:=by
 have h:=gV (r:=r) (aN m x);refine⟨?_,h.2⟩;unfold cQ;rw[if_pos (by rw[List.length_append,aN];omega),h.1,o5 m hx]
theorem CT(hl:(l.length:Int) < 256 ^ m):bU m (fN m l ++ r)=l.length:=by
 unfold bU fN;rw[List.append_assoc,(gV (aN m _)).1,o5 m (by omega),Int.emod_eq_of_lt (by omega) hl];rfl
theorem Ak(m:Nat)(l r:List Int):(fN m l ++ r).drop m=l ++ r:=by
 unfold fN;rw[List.append_assoc,(gV (aN m _)).2]
theorem A7{V:Int}(f:0<=V)(h:(dU V).length < 256)(r:List Int):bR (fN 1 (dU V) ++ r)=.inr (V,1+(dU V).length)/\(fN 1 (dU V) ++ r).drop (1+(dU V).length)=r:=by
 have hc:bU 1 (fN 1 (dU V) ++ r)=(dU V).length:=CT (by simpa using (by omega:((dU V).length:Int) < 256));have b:=Ak 1 (dU V) r;have c:=p7 f;refine⟨?_,?_⟩
 ·unfold bR;rw[if_pos (by rw[List.length_append,ri];omega),hc,if_pos (by rw[List.length_append,ri];omega),b,if_neg,(gV rfl).1,c.2.2];rintro⟨d,g⟩
  have a:dU V≠[]:=fun e=>by rw[e] at d;simp at d
  refine c.2.1 a ?_
  rw[<- g]
  cases hh:dU V with
  | nil=>exact absurd hh a
  | cons x t=>rfl
 ·rw[<- List.drop_drop,b,(gV rfl).2]
theorem xi(x:Bool)(r:List Int):bE (be 1 (if x then 1 else 0) ++ r)=.inr (x,1)/\(be 1 (if x then 1 else 0) ++ r).drop 1=r:=by
 cases x
 ·exact⟨rfl,rfl⟩
 ·exact⟨rfl,rfl⟩
theorem one1(h:bj l)(k:Nat)(he:rdE (p1 k l) 0=0):gy k (rdV 0 (p1 k l) 0) ++ rdL (p1 k l) 0 l=l/\∃ m,rdL (p1 k l) 0 l=l.drop m:=by
 match k with
 | 0 =>
  rcases CW h 8 with⟨h1,_⟩ | ⟨_,m,h2,h3,h4⟩
  ·exact absurd he h1
  ·show be 8 (rdV 0 (cQ 8 l) 0) ++ rdL (cQ 8 l) 0 l=l/\∃ m,rdL (cQ 8 l) 0 l=l.drop m
   rw[h3,h4];exact⟨List.take_append_drop m l,m,rfl⟩
 | 1 =>
  have a:rdE (bE l) 0=0:=by rw[<- ni];exact he
  rcases z7 h with⟨h1,_⟩ | ⟨_,m,h2,h3,h4⟩
  ·exact absurd a h1
  ·show be 1 (rdV 0 (dO l) 0) ++ rdL (dO l) 0 l=l/\∃ m,rdL (dO l) 0 l=l.drop m
   rw[nu,mI,h3,h4];exact⟨List.take_append_drop m l,m,rfl⟩
 | k + 2 =>
  rcases Db h with⟨h1,_⟩ | ⟨_,m,h2,⟨h3,h5⟩,h4⟩
  ·exact absurd he h1
  ·show fN 1 (dU (fit (rdV 0 (bR l) 0))) ++ rdL (bR l) 0 l=l/\∃ m,rdL (bR l) 0 l=l.drop m
   have hf:(dU (rdV 0 (bR l) 0)).length < 256:=by
    unfold gK at h3;split at h3
    ·assumption
    ·exact absurd h3 (by decide)
   have e:=h5 [];unfold iH wrote at e;rw[if_pos hf,if_pos rfl] at e;unfold fit;rw[if_pos hf];simp only[List.nil_append] at e;rw[e,h4];exact⟨List.take_append_drop m l,m,rfl⟩
theorem dR{σ:Type}(nx:Nat->Nat->σ->σ)(p:Nat × Nat)(ks:List (Nat × Nat))(s:σ):thr nx (p :: ks) s=thr nx ks (nx p.1 p.2 s):=rfl
theorem Dz(a:List (Nat × Nat)):∀ s:RSt,s.1≠0->(thr rnx a s).1=s.1:=by
 induction a with
 | nil=>intro s _;rfl
 | cons p a ih =>
  intro s hs
  have e:(rnx p.1 p.2 s).1=s.1:=pX hs;rw[dR,ih _ (by rw[e];exact hs),e]
theorem xc(a:List (Nat × Nat))(o:Nat):∀ s:RSt,o ∉ a.map Prod.snd->(thr rnx a s).2.2 o=s.2.2 o:=by
 induction a with
 | nil=>intro s _;rfl
 | cons p a ih =>
  intro s b;rw[List.map_cons,List.mem_cons,not_or] at b;rw[dR,ih _ b.2]
  show (if o=p.2 then _ else _)=_
  rw[if_neg b.1]
theorem qR(h:bj l)(m:Nat):bj (l.drop m):=fun x hx=>h x (List.mem_of_mem_drop hx)
theorem Dq(a:List (Nat × Nat)):∀ (l:List Int) (xs:Nat->Int),bj l->(a.map Prod.snd).Nodup->(thr rnx a (0,l,xs)).1=0->∀ L,thr (pnx (thr rnx a (0,l,xs)).2.2) a L ++ (thr rnx a (0,l,xs)).2.1=L ++ l:=by
 induction a with
 | nil=>intro l xs _ _ _ L;rfl
 | cons p a ih =>
  intro l xs e b he L;rw[List.map_cons,List.nodup_cons] at b;rw[dR] at he
  have e1:rdE (p1 p.1 l) 0=0:=by
   by_cases c:rdE (p1 p.1 l) 0=0
   ·exact c
   ·exact absurd ((Dz a (rnx p.1 p.2 (0,l,xs)) c).symm.trans he) c
  obtain⟨f,m,g⟩:=one1 e p.1 e1
  have es:rnx p.1 p.2 (0,l,xs)=(0,rdL (p1 p.1 l) 0 l,fun i=>if i=p.2 then rdV 0 (p1 p.1 l) 0 else xs i):=by
   show (rdE (p1 p.1 l) 0,_,_)=_
   rw[e1]
  have h:thr rnx (p :: a) (0,l,xs)=thr rnx a (0,rdL (p1 p.1 l) 0 l,fun i=>if i=p.2 then rdV 0 (p1 p.1 l) 0 else xs i):=by rw[dR,es]
  rw[es] at he;rw[h]
  have d:=ih _ _ (by rw[g];exact qR e m) b.2 he;rw[dR,d]
  have ev:(thr rnx a (0,rdL (p1 p.1 l) 0 l,fun i=>if i=p.2 then rdV 0 (p1 p.1 l) 0 else xs i)).2.2 p.2=rdV 0 (p1 p.1 l) 0:=by
   rw[xc a p.2 _ b.1]
   show (if p.2=p.2 then _ else _)=_
   rw[if_pos rfl]
  show (L ++ gy p.1 _) ++ _=L ++ l
  rw[ev,List.append_assoc,f]
def rng:Nat->Int->Prop
 | 0,x=>0<=x/\x < 18446744073709551616
 | 1,x=>x=0\/x=1
 | _,x=>0<=x
def fitk:Nat->Int->Int
 | 0,x=>x
 | 1,x=>x
 | _,x=>fit x
theorem back1(k:Nat)(hx:rng k x)(r:List Int):∃ m,p1 k (gy k x ++ r)=.inr (fitk k x,m)/\(gy k x ++ r).drop m=r:=by
 match k,hx with
 | 0,hx =>
  obtain⟨a,b⟩:=Au 8 hx.1 r;refine⟨8,?_,b⟩
  show cQ 8 (be 8 x ++ r)=_
  rw[a,Int.emod_eq_of_lt hx.1 (by have:=hx.2;simpa using this)];rfl
 | 1,hx =>
  have key:∀ t:Bool,∃ m,dO (be 1 (if t then 1 else 0) ++ r)=.inr ((if t then 1 else 0),m)/\(be 1 (if t then 1 else 0) ++ r).drop m=r:=fun t=>by
   obtain⟨a,b⟩:=xi t r;refine⟨1,?_,b⟩;unfold dO;rw[a]
  rcases hx with rfl | rfl
  ·exact key false
  ·exact key true
 | k + 2,hx =>
  have c:0<=fit x:=by
   unfold fit;split
   ·exact hx
   ·decide
  obtain⟨a,b⟩:=A7 c (iv x) r;exact⟨_,a,b⟩
theorem rI(b:Nat->Int)(a:List (Nat × Nat)):∀ (r:List Int) (xs:Nat->Int),(a.map Prod.snd).Nodup->(∀ p∈a,rng p.1 (b p.2))->∃ ys,thr rnx a (0,thr (pnx b) a [] ++ r,xs)=(0,r,ys)/\(∀ p∈a,ys p.2=fitk p.1 (b p.2))/\∀ o,o ∉ a.map Prod.snd->ys o=xs o:=by
 have hL:∀ (a:List (Nat × Nat)) (L:List Int),thr (pnx b) a L=L ++ thr (pnx b) a []:=by
  intro a
  induction a with
  | nil=>intro L;simp[thr]
  | cons p a ih =>
   intro L;rw[dR,dR,ih (pnx b p.1 p.2 L),ih (pnx b p.1 p.2 [])];simp[pnx,List.append_assoc]
 induction a with
 | nil=>exact fun r xs _ _=>⟨xs,rfl,(fun p g=>by cases g),fun _ _=>rfl⟩
 | cons p a ih =>
  intro r xs c f;rw[List.map_cons,List.nodup_cons] at c;obtain⟨m,j,h⟩:=back1 p.1 (f p List.mem_cons_self) (thr (pnx b) a [] ++ r)
  have el:thr (pnx b) (p :: a) [] ++ r=gy p.1 (b p.2) ++ (thr (pnx b) a [] ++ r):=by
   rw[dR,hL];simp[pnx,List.append_assoc]
  rw[el,dR]
  have es:rnx p.1 p.2 (0,gy p.1 (b p.2) ++ (thr (pnx b) a [] ++ r),xs)=(0,thr (pnx b) a [] ++ r,fun i=>if i=p.2 then fitk p.1 (b p.2) else xs i):=by
   show (rdE (p1 p.1 _) 0,rdL (p1 p.1 _) 0 _,fun i=>if i=p.2 then rdV 0 (p1 p.1 _) 0 else xs i)=_
   rw[j]
   show (_,List.drop m _,_)=_
   rw[h];rfl
  rw[es];obtain⟨ys,e1,e2,e3⟩:=ih r _ c.2 (fun q d=>f q (List.mem_cons_of_mem _ d));refine⟨ys,e1,fun q d=>?_,fun o e=>?_⟩
  ·rcases List.mem_cons.1 d with rfl | d
   ·rw[e3 _ c.1]
    show (if q.2=q.2 then _ else _)=_
    rw[if_pos rfl]
   ·exact e2 q d
  ·rw[List.map_cons,List.mem_cons,not_or] at e;rw[e3 o e.2]
   show (if o=p.2 then _ else _)=_
   rw[if_neg e.1]
end
end Rc
end
section
namespace Rc
open Go.RowKit Go.Lib Pg
attribute [local go_sem] Oper.semAt_some
theorem yj (k:Nat) (x:Int):bj (gy k x):=by
 unfold gy;split
 ·exact eX _ _
 ·exact eX _ _
 ·intro y hy;rcases List.mem_append.1 hy with h | h
  ·exact eX _ _ y h
  ·exact AH _ y h
theorem uJ (xs:Nat->Int) (a:List (Nat × Nat)):∀ L,bj L->bj (thr (pnx xs) a L):=by
 induction a with
 | nil=>exact fun _ h=>h
 | cons p a ih =>
  intro L h;rw[dR];refine ih _ ?_
  intro y hy;rcases List.mem_append.1 hy with b | b
  ·exact h y b
  ·exact yj _ _ y b
end Rc
end
section
namespace Rc
open Go.RowKit Go.Lib Pg
attribute [local go_sem] Oper.semAt_some
end Rc
end
section
open Go.RowKit Lim
def stB (s:Stp):Option (List Int) :=
 if s.what=0 then some (be 1 (s.num % 256))
 else if s.what=1 then some (be 4 (s.num % 4294967296))
 else if s.what=2 then some (be 8 s.num)
 else if s.what=3 then some (be 1 (if s.num % 2 == 1 then 1 else 0))
 else if s.what=4\/s.what=5 then (if (dU s.V).length < 256 then some (fN 1 (dU s.V)) else none)
 else if s.what=6 then some (fN 4 s.bl)
 else some []
def stO (s:Stp) (o:Option (List Int)):Option (List Int):=o.bind fun L=>(stB s).map (L ++ ·)
def laid (ss:List Stp):Option (List Int):=ss.foldl (fun o s=>stO s o) (some [])
end
section
open Go.RowKit Lim
end
section
open Go.RowKit Lim
end
section
open Go.RowKit Lim
end
section
open Go.RowKit Lim
end
section
open Go.RowKit Lim
end
section
open Go.RowKit Lim
end
section
open Go.RowKit Lim
end
section
namespace Rc
open Go.RowKit Go.Lib Pg Lim
attribute [local go_sem] Oper.semAt_some
end Rc
end
section
namespace Rc
open Go.RowKit Go.Lib Pg Lim
attribute [local go_sem] Oper.semAt_some
end Rc
end
section
namespace Rc
open Go.RowKit Go.Lib Pg Lim
theorem wM {err:Int} {l:List Int} (h:gh err l=0):err=0/\l=[]:=by
 unfold gh at h;split at h
 ·rename_i he;split at h
  ·rename_i a;exact⟨he,List.eq_nil_of_length_eq_zero a⟩
  ·exact absurd h (by decide)
 ·exact absurd h (by assumption)
theorem ones (a:List (Nat × Nat)) (l:List Int) (c:bj l) (b:(a.map Prod.snd).Nodup) (h:gh (thr rnx a (0,l,fun _=>0)).1 (thr rnx a (0,l,fun _=>0)).2.1=0):thr (pnx (thr rnx a (0,l,fun _=>0)).2.2) a []=l:=by
 obtain⟨e,d⟩:=wM h;have:=Dq a l (fun _=>0) c b e [];rw[d,List.append_nil,List.nil_append] at this;exact this
end Rc
end
section
open Go.RowKit Lim
end
section
namespace Rc
open Go.RowKit Go.Lib Pg Lim
attribute [local go_sem] Oper.semAt_some
end Rc
end
section
namespace Rc
open Go.RowKit Go.Lib Pg Lim Gl
section
variable {xs:Nat->Int}{w w':World}{e:Ending}{bb n c:Nat}{ao:Option Addr}{l:List Int}
def iJ(s:RSt):Int:=if gh s.1 s.2.1=0 then 0 else 80
def gj(s:RSt):Nat->Int:=if gh s.1 s.2.1=0 then s.2.2 else fun _=>0
theorem sZ{s:RSt}{r:Int}(a:gh s.1 s.2.1=0->r=0/\xs=s.2.2)(b:gh s.1 s.2.1≠0->r=80/\xs=fun _=>0):xs=gj s/\r=iJ s:=by
 unfold gj iJ;by_cases h:gh s.1 s.2.1=0
 ·rw[if_pos h,if_pos h];exact⟨(a h).2,(a h).1⟩
 ·rw[if_neg h,if_neg h];exact⟨(b h).2,(b h).1⟩
theorem outChain{s:RSt}(h:qk w eP 2 mkA s e w'):e=.returned (.tuple #[.agg #[.int .u64 (gj s 0),.int .u64 (gj s 1)],.int .i64 (iJ s)])/\Below w.heap.size w w':=by
 obtain⟨⟨cs,xs,r,rfl,f,b,d,c⟩,B⟩:=h;obtain⟨e1,e2⟩:=sZ d c;subst e1 e2;have q0:=(b 0).1 rfl;have q1:=(b 1).1 rfl
 have a:cs=[.int .u64 (gj s 0),.int .u64 (gj s 1)]:=by
  refine List.ext_getElem? fun i=>?_
  rcases Nat.lt_or_ge i 2 with hi | hi
  ·match i,hi with
   | 0,_=>exact q0
   | 1,_=>exact q1
   | n+2,h=>exact absurd h (by omega)
  ·rw[List.getElem?_eq_none (by omega),List.getElem?_eq_none hi]
 subst a;exact⟨rfl,B⟩
def cU(l:List Int):RSt:=thr rnx [(2,0),(0,1)] (0,l,fun _=>0)
theorem sM{s:RSt}(h:qk w aV 2 mkA s e w'):∃ a0 n0 c0,e=.returned (.tuple #[.agg #[.slice a0 n0 c0,.int .u64 (gj s 1)],.int .i64 (iJ s)])/\(fI w' w.heap.size a0 n0 c0 (gj s 0)/\n0<=510)/\Below w.heap.size w w':=by
 obtain⟨⟨cs,xs,r,rfl,f,b,d,c⟩,B⟩:=h;obtain⟨e1,e2⟩:=sZ d c;subst e1 e2;obtain⟨a0,n0,c0,q0,y0,z0⟩:=(b 0).2.2 rfl;have q1:=(b 1).1 rfl
 have a:cs=[.slice a0 n0 c0,.int .u64 (gj s 1)]:=by
  refine List.ext_getElem? fun i=>?_
  rcases Nat.lt_or_ge i 2 with hi | hi
  ·match i,hi with
   | 0,_=>exact q0
   | 1,_=>exact q1
   | n+2,h=>exact absurd h (by omega)
  ·rw[List.getElem?_eq_none (by omega),List.getElem?_eq_none hi]
 subst a;exact⟨a0,n0,c0,rfl,⟨y0,by omega⟩,B⟩
theorem xG(A:ByA w bb ao n c l)(hn:n<=1000000000):Calls Tryz.prog 128 #[.slice ao n c] w fun e w'=>∃ a0 n0 c0,e=.returned (.tuple #[.agg #[.slice a0 n0 c0,.int .u64 (gj (cU l) 1)],.int .i64 (iJ (cU l))])/\(fI w' w.heap.size a0 n0 c0 (gj (cU l) 0)/\n0<=510)/\Below w.heap.size w w':=by
 refine(rY A hn (by obtain⟨o,a,_⟩:=A.ex;exact a)).mono ?_
 intro e w' h;exact sM h
def kO(l:List Int):RSt:=thr rnx [(0,0),(0,1)] (0,l,fun _=>0)
theorem outCut{s:RSt}(h:qk w cC 2 mkA s e w'):e=.returned (.tuple #[.agg #[.int .u64 (gj s 0),.int .u64 (gj s 1)],.int .i64 (iJ s)])/\Below w.heap.size w w':=by
 obtain⟨⟨cs,xs,r,rfl,f,b,d,c⟩,B⟩:=h;obtain⟨e1,e2⟩:=sZ d c;subst e1 e2;have q0:=(b 0).1 rfl;have q1:=(b 1).1 rfl
 have a:cs=[.int .u64 (gj s 0),.int .u64 (gj s 1)]:=by
  refine List.ext_getElem? fun i=>?_
  rcases Nat.lt_or_ge i 2 with hi | hi
  ·match i,hi with
   | 0,_=>exact q0
   | 1,_=>exact q1
   | n+2,h=>exact absurd h (by omega)
  ·rw[List.getElem?_eq_none (by omega),List.getElem?_eq_none hi]
 subst a;exact⟨rfl,B⟩
theorem oCut(A:ByA w bb ao n c l)(hn:n<=1000000000):Calls Tryz.prog 85 #[.slice ao n c] w fun e w'=>e=.returned (.tuple #[.agg #[.int .u64 (gj (kO l) 0),.int .u64 (gj (kO l) 1)],.int .i64 (iJ (kO l))])/\Below w.heap.size w w':=by
 refine(CJ A hn (by obtain⟨o,a,_⟩:=A.ex;exact a)).mono ?_
 intro e w' h;exact outCut h
end
end Rc
end
end Go.Proofs.YthfepflplbahkaaGreatDoor
