import Derived.Test.YthfepflplbahkaaGreatDoorJam
import Derived.Test.YthfepflplbahkaaGreatDoorJaf
import Derived.Test.YthfepflplbahkaaGreatDoorJad
set_option maxRecDepth 100000
set_option maxHeartbeats 8000000
namespace Go.Proofs.YthfepflplbahkaaGreatDoor
section
open Go.RowKit Lim
section
variable {l L:List Int}{m:Nat}
theorem Cw(h:a7 l):be l.length (bM l)=l:=by
 refine mJ (eU _ _) h (aN _ _) ?_
 have hb:=bL h;rw[qk _ hb.1,Int.emod_eq_of_lt hb.1 hb.2]
theorem iw(h:a7 l)(hm:m<=l.length):be m (bM (l.take m))=l.take m:=by
 have:=Cw (l:=l.take m) (fun x hx=>h x (List.mem_of_mem_take hx));rwa [List.length_take,Nat.min_eq_left hm] at this
def One(err':Int)(L L':List Int)(laid:List Int->Prop):Prop:=(err'≠0/\L'=L)\/(err'=0/\∃ k,k<=L.length/\laid (L.take k)/\L'=L.drop k)
theorem Ch(h:a7 L)(m:Nat):One (rdE (cM m L) 0) L (rdL (cM m L) 0 L) (fun t=>be m (rdV 0 (cM m L) 0)=t):=by
 by_cases hm:m<=L.length
 ·have e:cM m L=.inr (bM (L.take m),m):=by unfold cM; rw[if_pos hm]
  rw[e];exact .inr ⟨rfl,m,hm,iw h hm,rfl⟩
 ·have e:cM m L=.inl 40:=by unfold cM; rw[if_neg hm]
  rw[e];exact .inl ⟨by decide,rfl⟩
theorem zx(h:a7 L):One (rdE (bE L) 0) L (rdL (bE L) 0 L) (fun t=>be 1 (if rdV false (bE L) 0 then 1 else 0)=t):=by
 by_cases hm:1<=L.length
 ·by_cases hx:1 < bM (L.take 1)
  ·have e:bE L=.inl 41:=by unfold bE; rw[if_pos hm,if_pos hx]
   rw[e];exact .inl ⟨by decide,rfl⟩
  ·have e:bE L=.inr (bM (L.take 1) == 1,1):=by unfold bE; rw[if_pos hm,if_neg hx]
   rw[e];refine .inr ⟨rfl,1,hm,?_,rfl⟩;have a:=iw h hm;have c:=(bL (l:=L.take 1) (fun x hx=>h x (List.mem_of_mem_take hx))).1
   show be 1 (if (bM (L.take 1) == 1)=true then 1 else 0)=L.take 1
   generalize L.take 1=M at *;by_cases b:bM M=1
   ·rw[b] at a ⊢;exact a
   ·rw[show bM M=0 by omega] at a ⊢;exact a
 ·have e:bE L=.inl 40:=by unfold bE; rw[if_neg hm]
  rw[e];exact .inl ⟨by decide,rfl⟩
theorem rn(h:a7 L):((bR m L:Nat):Int)=bM (L.take m):=by
 unfold bR;rw[Int.toNat_of_nonneg (bL (fun x hx=>h x (List.mem_of_mem_take hx))).1]
theorem DE(h:a7 L)(hm:m<=L.length)(hc:m + bR m L<=L.length):fM m ((L.drop m).take (bR m L))=L.take (m + bR m L):=by
 unfold fM
 have e:(((L.drop m).take (bR m L)).length:Int)=bM (L.take m):=by
  rw[List.length_take,List.length_drop,Nat.min_eq_left (by omega)];exact rn h
 rw[e,iw h hm,List.take_add]
theorem Ce(h:a7 L):One (rdE (bP L) 0) L (rdL (bP L) 0 L) (fun t=>gG (rdV 0 (bP L) 0) 0=0/\∀ K,iG (rdV 0 (bP L) 0) 0 K=K ++ t):=by
 by_cases hm:1<=L.length
 ·by_cases hc:1 + bR 1 L<=L.length
  ·by_cases d:0 < bR 1 L/\nth (L.drop 1) 0=0
   ·have e:bP L=.inl 41:=by unfold bP; rw[if_pos hm,if_pos hc,if_pos d]
    rw[e];exact .inl ⟨by decide,rfl⟩
   ·have e:bP L=.inr (bM ((L.drop 1).take (bR 1 L)),1 + bR 1 L):=by unfold bP; rw[if_pos hm,if_pos hc,if_neg d]
    have g:=DE h hm hc
    have i:((bR 1 L:Nat):Int) < 256:=by
     have:=(bL (l:=L.take 1) (fun x hx=>h x (List.mem_of_mem_take hx))).2;rw[List.length_take,Nat.min_eq_left hm] at this;rw[rn h];simpa using this
    have a:a7 ((L.drop 1).take (bR 1 L)):=fun x hx=>h x (List.mem_of_mem_drop (List.mem_of_mem_take hx))
    have hlen:((L.drop 1).take (bR 1 L)).length=bR 1 L:=by rw[List.length_take,List.length_drop]; omega
    have j:dO (bM ((L.drop 1).take (bR 1 L)))=(L.drop 1).take (bR 1 L):=kV (bL a).1 ⟨a,fun f=>by
     have b:0 < bR 1 L:=by
      rcases Nat.eq_zero_or_pos (bR 1 L) with c | c
      ·exact absurd (by rw[c]; simp) f
      ·exact c
     rw[dr b]
     exact fun c=>d ⟨b,c⟩,rfl⟩
    rw[e];refine .inr ⟨rfl,_,hc,?_,rfl⟩
    show gG (bM ((L.drop 1).take (bR 1 L))) 0=0/\∀ K,iG (bM ((L.drop 1).take (bR 1 L))) 0 K=K ++ L.take (1 + bR 1 L)
    unfold gG iG;rw[j,if_pos (by omega)];refine⟨rfl,fun K => ?_⟩;rw[if_pos (by omega),g];rfl
  ·have e:bP L=.inl 40:=by unfold bP; rw[if_pos hm,if_neg hc]
   rw[e];exact .inl ⟨by decide,rfl⟩
 ·have e:bP L=.inl 40:=by unfold bP; rw[if_neg hm]
  rw[e];exact .inl ⟨by decide,rfl⟩
end
end
section
namespace Rc
open Go.RowKit Go.Lib Pg Lim
section
variable {l r:List Int}{m:Nat}{x:Int}
theorem qI(m:Nat)(l:List Int):(fM m l).length=m + l.length:=by
 unfold fM;rw[List.length_append,aN]
theorem gK(h:l.length=m):(l ++ r).take m=l/\(l ++ r).drop m=r:=by
 subst h;exact⟨List.take_left,List.drop_left⟩
theorem AD(m:Nat)(hx:0<=x)(r:List Int):cM m (be m x ++ r)=.inr (x % 256 ^ m,m)/\(be m x ++ r).drop m=r:=by
 have h:=gK (r:=r) (aN m x);refine⟨?_,h.2⟩;unfold cM;rw[if_pos (by rw[List.length_append,aN]; omega),h.1,qk m hx]
theorem CF(hl:(l.length:Int) < 256 ^ m):bR m (fM m l ++ r)=l.length:=by
 unfold bR fM;rw[List.append_assoc,(gK (aN m _)).1,qk m (by omega),Int.emod_eq_of_lt (by omega) hl];rfl
theorem yl(m:Nat)(l r:List Int):(fM m l ++ r).drop m=l ++ r:=by
 unfold fM;rw[List.append_assoc,(gK (aN m _)).2]
theorem zM{V:Int}(g:0<=V)(h:(dO V).length < 256)(r:List Int):bP (fM 1 (dO V) ++ r)=.inr (V,1 + (dO V).length)/\(fM 1 (dO V) ++ r).drop (1 + (dO V).length)=r:=by
 have hc:bR 1 (fM 1 (dO V) ++ r)=(dO V).length:=CF (by simpa using (by omega:((dO V).length:Int) < 256));have c:=yl 1 (dO V) r;have b:=pI g;refine⟨?_,?_⟩
 ·unfold bP;rw[if_pos (by rw[List.length_append,qI]; omega),hc,if_pos (by rw[List.length_append,qI]; omega),c,if_neg,(gK rfl).1,b.2.2];rintro⟨d,f⟩
  have a:dO V≠[]:=fun e=>by rw[e] at d; simp at d
  refine b.2.1 a ?_
  rw[<- f]
  cases hh:dO V with
  | nil=>exact absurd hh a
  | cons x t=>rfl
 ·rw[<- List.drop_drop,c,(gK rfl).2]
theorem xc(x:Bool)(r:List Int):bE (be 1 (if x then 1 else 0) ++ r)=.inr (x,1)/\(be 1 (if x then 1 else 0) ++ r).drop 1=r:=by
 cases x
 ·exact⟨rfl,rfl⟩
 ·exact⟨rfl,rfl⟩
theorem one1(h:a7 l)(k:Nat)(he:rdE (p1 k l) 0=0):gm k (rdV 0 (p1 k l) 0) ++ rdL (p1 k l) 0 l=l/\∃ m,rdL (p1 k l) 0 l=l.drop m:=by
 match k with
 | 0 =>
  rcases Ch h 8 with⟨h1,_⟩ | ⟨_,m,h2,h3,h4⟩
  ·exact absurd he h1
  ·show be 8 (rdV 0 (cM 8 l) 0) ++ rdL (cM 8 l) 0 l=l/\∃ m,rdL (cM 8 l) 0 l=l.drop m
   rw[h3,h4];exact⟨List.take_append_drop m l,m,rfl⟩
 | 1 =>
  have a:rdE (bE l) 0=0:=by rw[<- l6]; exact he
  rcases zx h with⟨h1,_⟩ | ⟨_,m,h2,h3,h4⟩
  ·exact absurd a h1
  ·show be 1 (rdV 0 (dL l) 0) ++ rdL (dL l) 0 l=l/\∃ m,rdL (dL l) 0 l=l.drop m
   rw[mY,lZ,h3,h4];exact⟨List.take_append_drop m l,m,rfl⟩
 | k + 2 =>
  rcases Ce h with⟨h1,_⟩ | ⟨_,m,h2,⟨h3,h5⟩,h4⟩
  ·exact absurd he h1
  ·show fM 1 (dO (fit (rdV 0 (bP l) 0))) ++ rdL (bP l) 0 l=l/\∃ m,rdL (bP l) 0 l=l.drop m
   have hf:(dO (rdV 0 (bP l) 0)).length < 256:=by
    unfold gG at h3;split at h3
    ·assumption
    ·exact absurd h3 (by decide)
   have e:=h5 [];unfold iG wrote at e;rw[if_pos hf,if_pos rfl] at e;unfold fit;rw[if_pos hf];simp only[List.nil_append] at e;rw[e,h4];exact⟨List.take_append_drop m l,m,rfl⟩
theorem dS{σ:Type}(nx:Nat->Nat->σ->σ)(p:Nat × Nat)(ks:List (Nat × Nat))(s:σ):thr nx (p :: ks) s=thr nx ks (nx p.1 p.2 s):=rfl
theorem DD(a:List (Nat × Nat)):∀ s:RSt,s.1≠0->(thr rnx a s).1=s.1:=by
 induction a with
 | nil=>intro s _; rfl
 | cons p a ih =>
  intro s hs
  have e:(rnx p.1 p.2 s).1=s.1:=pD hs;rw[dS,ih _ (by rw[e]; exact hs),e]
theorem wE(a:List (Nat × Nat))(o:Nat):∀ s:RSt,o ∉ a.map Prod.snd->(thr rnx a s).2.2 o=s.2.2 o:=by
 induction a with
 | nil=>intro s _; rfl
 | cons p a ih =>
  intro s b;rw[List.map_cons,List.mem_cons,not_or] at b;rw[dS,ih _ b.2]
  show (if o=p.2 then _ else _)=_
  rw[if_neg b.1]
theorem rj(h:a7 l)(m:Nat):a7 (l.drop m):=fun x hx=>h x (List.mem_of_mem_drop hx)
theorem Bd(a:List (Nat × Nat)):∀ (l:List Int) (xs:Nat->Int),a7 l->(a.map Prod.snd).Nodup->(thr rnx a (0,l,xs)).1=0->∀ L,thr (pnx (thr rnx a (0,l,xs)).2.2) a L ++ (thr rnx a (0,l,xs)).2.1=L ++ l:=by
 induction a with
 | nil=>intro l xs _ _ _ L; rfl
 | cons p a ih =>
  intro l xs e b he L;rw[List.map_cons,List.nodup_cons] at b;rw[dS] at he
  have e1:rdE (p1 p.1 l) 0=0:=by
   by_cases c:rdE (p1 p.1 l) 0=0
   ·exact c
   ·exact absurd ((DD a (rnx p.1 p.2 (0,l,xs)) c).symm.trans he) c
  obtain⟨f,m,g⟩:=one1 e p.1 e1
  have es:rnx p.1 p.2 (0,l,xs)=(0,rdL (p1 p.1 l) 0 l,fun i=>if i=p.2 then rdV 0 (p1 p.1 l) 0 else xs i):=by
   show (rdE (p1 p.1 l) 0,_,_)=_
   rw[e1]
  have h:thr rnx (p :: a) (0,l,xs)=thr rnx a (0,rdL (p1 p.1 l) 0 l,fun i=>if i=p.2 then rdV 0 (p1 p.1 l) 0 else xs i):=by rw[dS,es]
  rw[es] at he;rw[h]
  have d:=ih _ _ (by rw[g]; exact rj e m) b.2 he;rw[dS,d]
  have ev:(thr rnx a (0,rdL (p1 p.1 l) 0 l,fun i=>if i=p.2 then rdV 0 (p1 p.1 l) 0 else xs i)).2.2 p.2=rdV 0 (p1 p.1 l) 0:=by
   rw[wE a p.2 _ b.1]
   show (if p.2=p.2 then _ else _)=_
   rw[if_pos rfl]
  show (L ++ gm p.1 _) ++ _=L ++ l
  rw[ev,List.append_assoc,f]
def rng:Nat->Int->Prop
 | 0,x=>0<=x/\x < 18446744073709551616
 | 1,x=>x=0\/x=1
 | _,x=>0<=x
def fitk:Nat->Int->Int
 | 0,x=>x
 | 1,x=>x
 | _,x=>fit x
theorem back1(k:Nat)(hx:rng k x)(r:List Int):∃ m,p1 k (gm k x ++ r)=.inr (fitk k x,m)/\(gm k x ++ r).drop m=r:=by
 match k,hx with
 | 0,hx =>
  obtain⟨a,b⟩:=AD 8 hx.1 r;refine⟨8,?_,b⟩
  show cM 8 (be 8 x ++ r)=_
  rw[a,Int.emod_eq_of_lt hx.1 (by have:=hx.2; simpa using this)];rfl
 | 1,hx =>
  have key:∀ t:Bool,∃ m,dL (be 1 (if t then 1 else 0) ++ r)=.inr ((if t then 1 else 0),m)/\(be 1 (if t then 1 else 0) ++ r).drop m=r:=fun t=>by
   obtain⟨a,b⟩:=xc t r;refine⟨1,?_,b⟩;unfold dL;rw[a]
  rcases hx with rfl | rfl
  ·exact key false
  ·exact key true
 | k + 2,hx =>
  have c:0<=fit x:=by
   unfold fit;split
   ·exact hx
   ·decide
  obtain⟨a,b⟩:=zM c (iu x) r;exact⟨_,a,b⟩
theorem rR(b:Nat->Int)(a:List (Nat × Nat)):∀ (r:List Int) (xs:Nat->Int),(a.map Prod.snd).Nodup->(∀ p∈a,rng p.1 (b p.2))->∃ ys,thr rnx a (0,thr (pnx b) a [] ++ r,xs)=(0,r,ys)/\(∀ p∈a,ys p.2=fitk p.1 (b p.2))/\∀ o,o ∉ a.map Prod.snd->ys o=xs o:=by
 have hL:∀ (a:List (Nat × Nat)) (L:List Int),thr (pnx b) a L=L ++ thr (pnx b) a []:=by
  intro a
  induction a with
  | nil=>intro L; simp[thr]
  | cons p a ih =>
   intro L;rw[dS,dS,ih (pnx b p.1 p.2 L),ih (pnx b p.1 p.2 [])];simp[pnx,List.append_assoc]
 induction a with
 | nil=>exact fun r xs _ _=>⟨xs,rfl,(fun p j=>by cases j),fun _ _=>rfl⟩
 | cons p a ih =>
  intro r xs c f;rw[List.map_cons,List.nodup_cons] at c;obtain⟨m,g,h⟩:=back1 p.1 (f p List.mem_cons_self) (thr (pnx b) a [] ++ r)
  have el:thr (pnx b) (p :: a) [] ++ r=gm p.1 (b p.2) ++ (thr (pnx b) a [] ++ r):=by
   rw[dS,hL];simp[pnx,List.append_assoc]
  rw[el,dS]
  have es:rnx p.1 p.2 (0,gm p.1 (b p.2) ++ (thr (pnx b) a [] ++ r),xs)=(0,thr (pnx b) a [] ++ r,fun i=>if i=p.2 then fitk p.1 (b p.2) else xs i):=by
   show (rdE (p1 p.1 _) 0,rdL (p1 p.1 _) 0 _,fun i=>if i=p.2 then rdV 0 (p1 p.1 _) 0 else xs i)=_
   rw[g]
   show (_,List.drop m _,_)=_
   rw[h];rfl
  rw[es];obtain⟨ys,e1,e2,e3⟩:=ih r _ c.2 (fun q d=>f q (List.mem_cons_of_mem _ d));refine⟨ys,e1,fun q d => ?_,fun o e => ?_⟩
  ·rcases List.mem_cons.1 d with rfl | d
   ·rw[e3 _ c.1]
    show (if q.2=q.2 then _ else _)=_
    rw[if_pos rfl]
   ·exact e2 q d
  ·rw[List.map_cons,List.mem_cons,not_or] at e;rw[e3 o e.2]
   show (if o=p.2 then _ else _)=_
   rw[if_neg e.1]
end
end Rc
end
section
namespace Rc
open Go.RowKit Go.Lib Pg
attribute [local go_sem] Oper.semAt_some
theorem yI (k:Nat) (x:Int):a7 (gm k x):=by
 unfold gm;split
 ·exact eU _ _
 ·exact eU _ _
 ·intro y hy;rcases List.mem_append.1 hy with h | h
  ·exact eU _ _ y h
  ·exact zd _ y h
theorem vi (xs:Nat->Int) (b:List (Nat × Nat)):∀ L,a7 L->a7 (thr (pnx xs) b L):=by
 induction b with
 | nil=>exact fun _ h=>h
 | cons p b ih =>
  intro L h;rw[dS];refine ih _ ?_
  intro y hy;rcases List.mem_append.1 hy with a | a
  ·exact h y a
  ·exact yI _ _ y a
end Rc
end
section
namespace Rc
open Go.RowKit Go.Lib Pg
attribute [local go_sem] Oper.semAt_some
end Rc
end
section
open Go.RowKit Lim
def stB (s:Stp):Option (List Int) :=
 if s.what=0 then some (be 1 (s.num % 256))
 else if s.what=1 then some (be 4 (s.num % 4294967296))
 else if s.what=2 then some (be 8 s.num)
 else if s.what=3 then some (be 1 (if s.num % 2 == 1 then 1 else 0))
 else if s.what=4\/s.what=5 then (if (dO s.V).length < 256 then some (fM 1 (dO s.V)) else none)
 else if s.what=6 then some (fM 4 s.bl)
 else some []
def stO (s:Stp) (o:Option (List Int)):Option (List Int):=o.bind fun L=>(stB s).map (L ++ ·)
def laid (ss:List Stp):Option (List Int):=ss.foldl (fun o s=>stO s o) (some [])
end
section
open Go.RowKit Lim
end
section
open Go.RowKit Lim
end
section
open Go.RowKit Lim
end
section
open Go.RowKit Lim
end
section
open Go.RowKit Lim
end
section
open Go.RowKit Lim
end
section
open Go.RowKit Lim
end
section
namespace Rc
open Go.RowKit Go.Lib Pg Lim
attribute [local go_sem] Oper.semAt_some
end Rc
end
section
namespace Rc
open Go.RowKit Go.Lib Pg Lim
attribute [local go_sem] Oper.semAt_some
end Rc
end
section
namespace Rc
open Go.RowKit Go.Lib Pg Lim
theorem vR {err:Int} {l:List Int} (h:fT err l=0):err=0/\l=[]:=by
 unfold fT at h;split at h
 ·rename_i he;split at h
  ·rename_i a;exact⟨he,List.eq_nil_of_length_eq_zero a⟩
  ·exact absurd h (by decide)
 ·exact absurd h (by assumption)
theorem ones (a:List (Nat × Nat)) (l:List Int) (e:a7 l) (b:(a.map Prod.snd).Nodup) (h:fT (thr rnx a (0,l,fun _=>0)).1 (thr rnx a (0,l,fun _=>0)).2.1=0):thr (pnx (thr rnx a (0,l,fun _=>0)).2.2) a []=l:=by
 obtain⟨c,d⟩:=vR h;have:=Bd a l (fun _=>0) e b c [];rw[d,List.append_nil,List.nil_append] at this;exact this
end Rc
end
section
open Go.RowKit Lim
end
section
namespace Rc
open Go.RowKit Go.Lib Pg Lim
attribute [local go_sem] Oper.semAt_some
end Rc
end
section
namespace Rc
open Go.RowKit Go.Lib Pg Lim Gl
section
variable {xs:Nat->Int}{w w':World}{e:Ending}{bb n c:Nat}{ao:Option Addr}{l:List Int}
def iF(s:RSt):Int:=if fT s.1 s.2.1=0 then 0 else 80
def fS(s:RSt):Nat->Int:=if fT s.1 s.2.1=0 then s.2.2 else fun _=>0
theorem sW{s:RSt}{r:Int}(a:fT s.1 s.2.1=0->r=0/\xs=s.2.2)(b:fT s.1 s.2.1≠0->r=80/\xs=fun _=>0):xs=fS s/\r=iF s:=by
 unfold fS iF;by_cases h:fT s.1 s.2.1=0
 ·rw[if_pos h,if_pos h]; exact⟨(a h).2,(a h).1⟩
 ·rw[if_neg h,if_neg h]; exact⟨(b h).2,(b h).1⟩
theorem outChain{s:RSt}(h:qq w eK 2 mkA s e w'):e=.returned (.tuple #[.agg #[.int .u64 (fS s 0),.int .u64 (fS s 1)],.int .i64 (iF s)])/\Below w.heap.size w w':=by
 obtain⟨⟨cs,xs,r,rfl,f,b,c,d⟩,B⟩:=h;obtain⟨e1,e2⟩:=sW c d;subst e1 e2;have q0:=(b 0).1 rfl;have q1:=(b 1).1 rfl
 have a:cs=[.int .u64 (fS s 0),.int .u64 (fS s 1)]:=by
  refine List.ext_getElem? fun i => ?_
  rcases Nat.lt_or_ge i 2 with hi | hi
  ·match i,hi with
   | 0,_=>exact q0
   | 1,_=>exact q1
   | n + 2,h=>exact absurd h (by omega)
  ·rw[List.getElem?_eq_none (by omega),List.getElem?_eq_none hi]
 subst a;exact⟨rfl,B⟩
def cO(l:List Int):RSt:=thr rnx [(2,0),(0,1)] (0,l,fun _=>0)
theorem uj{s:RSt}(h:qq w aU 2 mkA s e w'):∃ a0 n0 c0,e=.returned (.tuple #[.agg #[.slice a0 n0 c0,.int .u64 (fS s 1)],.int .i64 (iF s)])/\(fC w' w.heap.size a0 n0 c0 (fS s 0)/\n0<=510)/\Below w.heap.size w w':=by
 obtain⟨⟨cs,xs,r,rfl,f,b,c,d⟩,B⟩:=h;obtain⟨e1,e2⟩:=sW c d;subst e1 e2;obtain⟨a0,n0,c0,q0,y0,z0⟩:=(b 0).2.2 rfl;have q1:=(b 1).1 rfl
 have a:cs=[.slice a0 n0 c0,.int .u64 (fS s 1)]:=by
  refine List.ext_getElem? fun i => ?_
  rcases Nat.lt_or_ge i 2 with hi | hi
  ·match i,hi with
   | 0,_=>exact q0
   | 1,_=>exact q1
   | n + 2,h=>exact absurd h (by omega)
  ·rw[List.getElem?_eq_none (by omega),List.getElem?_eq_none hi]
 subst a;exact⟨a0,n0,c0,rfl,⟨y0,by omega⟩,B⟩
theorem ya(A:ByA w bb ao n c l)(hn:n<=1000000000):Calls Tryz.prog 128 #[.slice ao n c] w fun e w'=>∃ a0 n0 c0,e=.returned (.tuple #[.agg #[.slice a0 n0 c0,.int .u64 (fS (cO l) 1)],.int .i64 (iF (cO l))])/\(fC w' w.heap.size a0 n0 c0 (fS (cO l) 0)/\n0<=510)/\Below w.heap.size w w':=by
 refine(rO A hn (by obtain⟨o,a,_⟩:=A.ex; exact a)).mono ?_
 intro e w' h;exact uj h
def kQ(l:List Int):RSt:=thr rnx [(0,0),(0,1)] (0,l,fun _=>0)
theorem outCut{s:RSt}(h:qq w cn 2 mkA s e w'):e=.returned (.tuple #[.agg #[.int .u64 (fS s 0),.int .u64 (fS s 1)],.int .i64 (iF s)])/\Below w.heap.size w w':=by
 obtain⟨⟨cs,xs,r,rfl,f,b,c,d⟩,B⟩:=h;obtain⟨e1,e2⟩:=sW c d;subst e1 e2;have q0:=(b 0).1 rfl;have q1:=(b 1).1 rfl
 have a:cs=[.int .u64 (fS s 0),.int .u64 (fS s 1)]:=by
  refine List.ext_getElem? fun i => ?_
  rcases Nat.lt_or_ge i 2 with hi | hi
  ·match i,hi with
   | 0,_=>exact q0
   | 1,_=>exact q1
   | n + 2,h=>exact absurd h (by omega)
  ·rw[List.getElem?_eq_none (by omega),List.getElem?_eq_none hi]
 subst a;exact⟨rfl,B⟩
theorem oCut(A:ByA w bb ao n c l)(hn:n<=1000000000):Calls Tryz.prog 85 #[.slice ao n c] w fun e w'=>e=.returned (.tuple #[.agg #[.int .u64 (fS (kQ l) 0),.int .u64 (fS (kQ l) 1)],.int .i64 (iF (kQ l))])/\Below w.heap.size w w':=by
 refine(Dd A hn (by obtain⟨o,a,_⟩:=A.ex; exact a)).mono ?_
 intro e w' h;exact outCut h
end
end Rc
end
end Go.Proofs.YthfepflplbahkaaGreatDoor
