import Derived.Test.YthfepflplbahkaaGreatDoorJam
import Derived.Test.YthfepflplbahkaaGreatDoorJaf
import Derived.Test.YthfepflplbahkaaGreatDoorJad
set_option maxRecDepth 100000
set_option maxHeartbeats 8000000
namespace Go.Proofs.YthfepflplbahkaaGreatDoor
section
open Go.RowKit Lim
section
variable {l L:List Int}{m:Nat}
theorem CV(h:bh l):be l.length (bO l)=l:=by
 refine lX (e9 _ _) h (aN _ _) ?_
 have hb:=bM h;rw[px _ hb.1,Int.emod_eq_of_lt hb.1 hb.2]
theorem iC(h:bh l)(hm:m<=l.length):be m (bO (l.take m))=l.take m:=by
 have:=CV (l:=l.take m) (fun x hx=>h x (List.mem_of_mem_take hx));rwa [List.length_take,Nat.min_eq_left hm] at this
def One(err':Int)(L L':List Int)(laid:List Int->Prop):Prop:=(err'≠0/\L'=L)\/(err'=0/\∃ k,k<=L.length/\laid (L.take k)/\L'=L.drop k)
theorem DH(h:bh L)(m:Nat):One (rdE (cO m L) 0) L (rdL (cO m L) 0 L) (fun t=>be m (rdV 0 (cO m L) 0)=t):=by
 by_cases hm:m<=L.length
 ·have e:cO m L=.inr (bO (L.take m),m):=by unfold cO; rw[if_pos hm]
  rw[e];exact .inr ⟨rfl,m,hm,iC h hm,rfl⟩
 ·have e:cO m L=.inl 40:=by unfold cO; rw[if_neg hm]
  rw[e];exact .inl ⟨by decide,rfl⟩
theorem zQ(h:bh L):One (rdE (bE L) 0) L (rdL (bE L) 0 L) (fun t=>be 1 (if rdV false (bE L) 0 then 1 else 0)=t):=by
 by_cases hm:1<=L.length
 ·by_cases hx:1 < bO (L.take 1)
  ·have e:bE L=.inl 41:=by unfold bE; rw[if_pos hm,if_pos hx]
   rw[e];exact .inl ⟨by decide,rfl⟩
  ·have e:bE L=.inr (bO (L.take 1) == 1,1):=by unfold bE; rw[if_pos hm,if_neg hx]
   rw[e];refine .inr ⟨rfl,1,hm,?_,rfl⟩;have a:=iC h hm;have c:=(bM (l:=L.take 1) (fun x hx=>h x (List.mem_of_mem_take hx))).1
   show be 1 (if (bO (L.take 1) == 1)=true then 1 else 0)=L.take 1
   generalize L.take 1=M at *;by_cases b:bO M=1
   ·rw[b] at a ⊢;exact a
   ·rw[show bO M=0 by omega] at a ⊢;exact a
 ·have e:bE L=.inl 40:=by unfold bE; rw[if_neg hm]
  rw[e];exact .inl ⟨by decide,rfl⟩
theorem rL(h:bh L):((bS m L:Nat):Int)=bO (L.take m):=by
 unfold bS;rw[Int.toNat_of_nonneg (bM (fun x hx=>h x (List.mem_of_mem_take hx))).1]
theorem BQ(h:bh L)(hm:m<=L.length)(hc:m + bS m L<=L.length):fN m ((L.drop m).take (bS m L))=L.take (m + bS m L):=by
 unfold fN
 have e:(((L.drop m).take (bS m L)).length:Int)=bO (L.take m):=by
  rw[List.length_take,List.length_drop,Nat.min_eq_left (by omega)];exact rL h
 rw[e,iC h hm,List.take_add]
theorem Da(h:bh L):One (rdE (bQ L) 0) L (rdL (bQ L) 0 L) (fun t=>gG (rdV 0 (bQ L) 0) 0=0/\∀ K,iG (rdV 0 (bQ L) 0) 0 K=K ++ t):=by
 by_cases hm:1<=L.length
 ·by_cases hc:1 + bS 1 L<=L.length
  ·by_cases f:0 < bS 1 L/\nth (L.drop 1) 0=0
   ·have e:bQ L=.inl 41:=by unfold bQ; rw[if_pos hm,if_pos hc,if_pos f]
    rw[e];exact .inl ⟨by decide,rfl⟩
   ·have e:bQ L=.inr (bO ((L.drop 1).take (bS 1 L)),1 + bS 1 L):=by unfold bQ; rw[if_pos hm,if_pos hc,if_neg f]
    have d:=BQ h hm hc
    have i:((bS 1 L:Nat):Int) < 256:=by
     have:=(bM (l:=L.take 1) (fun x hx=>h x (List.mem_of_mem_take hx))).2;rw[List.length_take,Nat.min_eq_left hm] at this;rw[rL h];simpa using this
    have b:bh ((L.drop 1).take (bS 1 L)):=fun x hx=>h x (List.mem_of_mem_drop (List.mem_of_mem_take hx))
    have hlen:((L.drop 1).take (bS 1 L)).length=bS 1 L:=by rw[List.length_take,List.length_drop]; omega
    have j:dP (bO ((L.drop 1).take (bS 1 L)))=(L.drop 1).take (bS 1 L):=kT (bM b).1 ⟨b,fun g=>by
     have a:0 < bS 1 L:=by
      rcases Nat.eq_zero_or_pos (bS 1 L) with c | c
      ·exact absurd (by rw[c]; simp) g
      ·exact c
     rw[du a]
     exact fun c=>f ⟨a,c⟩,rfl⟩
    rw[e];refine .inr ⟨rfl,_,hc,?_,rfl⟩
    show gG (bO ((L.drop 1).take (bS 1 L))) 0=0/\∀ K,iG (bO ((L.drop 1).take (bS 1 L))) 0 K=K ++ L.take (1 + bS 1 L)
    unfold gG iG;rw[j,if_pos (by omega)];refine⟨rfl,fun K => ?_⟩;rw[if_pos (by omega),d];rfl
  ·have e:bQ L=.inl 40:=by unfold bQ; rw[if_pos hm,if_neg hc]
   rw[e];exact .inl ⟨by decide,rfl⟩
 ·have e:bQ L=.inl 40:=by unfold bQ; rw[if_neg hm]
  rw[e];exact .inl ⟨by decide,rfl⟩
end
end
section
namespace Rc
open Go.RowKit Go.Lib Pg Lim
section
variable {l r:List Int}{m:Nat}{x:Int}
theorem rU(m:Nat)(l:List Int):(fN m l).length=m + l.length:=by
 unfold fN;rw[List.length_append,aN]
theorem gR(h:l.length=m):(l ++ r).take m=l/\(l ++ r).drop m=r:=by
 subst h;exact⟨List.take_left,List.drop_left⟩
theorem yj(m:Nat)(hx:0<=x)(r:List Int):cO m (be m x ++ r)=.inr (x % 256 ^ m,m)/\(be m x ++ r).drop m=r:=by
 have h:=gR (r:=r) (aN m x);refine⟨?_,h.2⟩;unfold cO;rw[if_pos (by rw[List.length_append,aN]; omega),h.1,px m hx]
theorem Cn(hl:(l.length:Int) < 256 ^ m):bS m (fN m l ++ r)=l.length:=by
 unfold bS fN;rw[List.append_assoc,(gR (aN m _)).1,px m (by omega),Int.emod_eq_of_lt (by omega) hl];rfl
theorem ya(m:Nat)(l r:List Int):(fN m l ++ r).drop m=l ++ r:=by
 unfold fN;rw[List.append_assoc,(gR (aN m _)).2]
theorem yx{V:Int}(g:0<=V)(h:(dP V).length < 256)(r:List Int):bQ (fN 1 (dP V) ++ r)=.inr (V,1 + (dP V).length)/\(fN 1 (dP V) ++ r).drop (1 + (dP V).length)=r:=by
 have hc:bS 1 (fN 1 (dP V) ++ r)=(dP V).length:=Cn (by simpa using (by omega:((dP V).length:Int) < 256));have b:=ya 1 (dP V) r;have d:=oU g;refine⟨?_,?_⟩
 ·unfold bQ;rw[if_pos (by rw[List.length_append,rU]; omega),hc,if_pos (by rw[List.length_append,rU]; omega),b,if_neg,(gR rfl).1,d.2.2];rintro⟨c,f⟩
  have a:dP V≠[]:=fun e=>by rw[e] at c; simp at c
  refine d.2.1 a ?_
  rw[<- f]
  cases hh:dP V with
  | nil=>exact absurd hh a
  | cons x t=>rfl
 ·rw[<- List.drop_drop,b,(gR rfl).2]
theorem wK(x:Bool)(r:List Int):bE (be 1 (if x then 1 else 0) ++ r)=.inr (x,1)/\(be 1 (if x then 1 else 0) ++ r).drop 1=r:=by
 cases x
 ·exact⟨rfl,rfl⟩
 ·exact⟨rfl,rfl⟩
theorem one1(h:bh l)(k:Nat)(he:rdE (p1 k l) 0=0):gC k (rdV 0 (p1 k l) 0) ++ rdL (p1 k l) 0 l=l/\∃ m,rdL (p1 k l) 0 l=l.drop m:=by
 match k with
 | 0 =>
  rcases DH h 8 with⟨h1,_⟩ | ⟨_,m,h2,h3,h4⟩
  ·exact absurd he h1
  ·show be 8 (rdV 0 (cO 8 l) 0) ++ rdL (cO 8 l) 0 l=l/\∃ m,rdL (cO 8 l) 0 l=l.drop m
   rw[h3,h4];exact⟨List.take_append_drop m l,m,rfl⟩
 | 1 =>
  have a:rdE (bE l) 0=0:=by rw[<- lN]; exact he
  rcases zQ h with⟨h1,_⟩ | ⟨_,m,h2,h3,h4⟩
  ·exact absurd a h1
  ·show be 1 (rdV 0 (dO l) 0) ++ rdL (dO l) 0 l=l/\∃ m,rdL (dO l) 0 l=l.drop m
   rw[lY,l3,h3,h4];exact⟨List.take_append_drop m l,m,rfl⟩
 | k + 2 =>
  rcases Da h with⟨h1,_⟩ | ⟨_,m,h2,⟨h3,h5⟩,h4⟩
  ·exact absurd he h1
  ·show fN 1 (dP (fit (rdV 0 (bQ l) 0))) ++ rdL (bQ l) 0 l=l/\∃ m,rdL (bQ l) 0 l=l.drop m
   have hf:(dP (rdV 0 (bQ l) 0)).length < 256:=by
    unfold gG at h3;split at h3
    ·assumption
    ·exact absurd h3 (by decide)
   have e:=h5 [];unfold iG wrote at e;rw[if_pos hf,if_pos rfl] at e;unfold fit;rw[if_pos hf];simp only[List.nil_append] at e;rw[e,h4];exact⟨List.take_append_drop m l,m,rfl⟩
theorem dR{σ:Type}(nx:Nat->Nat->σ->σ)(p:Nat × Nat)(ks:List (Nat × Nat))(s:σ):thr nx (p :: ks) s=thr nx ks (nx p.1 p.2 s):=rfl
theorem DC(a:List (Nat × Nat)):∀ s:RSt,s.1≠0->(thr rnx a s).1=s.1:=by
 induction a with
 | nil=>intro s _; rfl
 | cons p a ih =>
  intro s hs
  have e:(rnx p.1 p.2 s).1=s.1:=p7 hs;rw[dR,ih _ (by rw[e]; exact hs),e]
theorem vP(a:List (Nat × Nat))(o:Nat):∀ s:RSt,o ∉ a.map Prod.snd->(thr rnx a s).2.2 o=s.2.2 o:=by
 induction a with
 | nil=>intro s _; rfl
 | cons p a ih =>
  intro s b;rw[List.map_cons,List.mem_cons,not_or] at b;rw[dR,ih _ b.2]
  show (if o=p.2 then _ else _)=_
  rw[if_neg b.1]
theorem rJ(h:bh l)(m:Nat):bh (l.drop m):=fun x hx=>h x (List.mem_of_mem_drop hx)
theorem Cu(a:List (Nat × Nat)):∀ (l:List Int) (xs:Nat->Int),bh l->(a.map Prod.snd).Nodup->(thr rnx a (0,l,xs)).1=0->∀ L,thr (pnx (thr rnx a (0,l,xs)).2.2) a L ++ (thr rnx a (0,l,xs)).2.1=L ++ l:=by
 induction a with
 | nil=>intro l xs _ _ _ L; rfl
 | cons p a ih =>
  intro l xs e b he L;rw[List.map_cons,List.nodup_cons] at b;rw[dR] at he
  have e1:rdE (p1 p.1 l) 0=0:=by
   by_cases d:rdE (p1 p.1 l) 0=0
   ·exact d
   ·exact absurd ((DC a (rnx p.1 p.2 (0,l,xs)) d).symm.trans he) d
  obtain⟨g,m,f⟩:=one1 e p.1 e1
  have es:rnx p.1 p.2 (0,l,xs)=(0,rdL (p1 p.1 l) 0 l,fun i=>if i=p.2 then rdV 0 (p1 p.1 l) 0 else xs i):=by
   show (rdE (p1 p.1 l) 0,_,_)=_
   rw[e1]
  have h:thr rnx (p :: a) (0,l,xs)=thr rnx a (0,rdL (p1 p.1 l) 0 l,fun i=>if i=p.2 then rdV 0 (p1 p.1 l) 0 else xs i):=by rw[dR,es]
  rw[es] at he;rw[h]
  have c:=ih _ _ (by rw[f]; exact rJ e m) b.2 he;rw[dR,c]
  have ev:(thr rnx a (0,rdL (p1 p.1 l) 0 l,fun i=>if i=p.2 then rdV 0 (p1 p.1 l) 0 else xs i)).2.2 p.2=rdV 0 (p1 p.1 l) 0:=by
   rw[vP a p.2 _ b.1]
   show (if p.2=p.2 then _ else _)=_
   rw[if_pos rfl]
  show (L ++ gC p.1 _) ++ _=L ++ l
  rw[ev,List.append_assoc,g]
def rng:Nat->Int->Prop
 | 0,x=>0<=x/\x < 18446744073709551616
 | 1,x=>x=0\/x=1
 | _,x=>0<=x
def fitk:Nat->Int->Int
 | 0,x=>x
 | 1,x=>x
 | _,x=>fit x
theorem back1(k:Nat)(hx:rng k x)(r:List Int):∃ m,p1 k (gC k x ++ r)=.inr (fitk k x,m)/\(gC k x ++ r).drop m=r:=by
 match k,hx with
 | 0,hx =>
  obtain⟨b,a⟩:=yj 8 hx.1 r;refine⟨8,?_,a⟩
  show cO 8 (be 8 x ++ r)=_
  rw[b,Int.emod_eq_of_lt hx.1 (by have:=hx.2; simpa using this)];rfl
 | 1,hx =>
  have key:∀ t:Bool,∃ m,dO (be 1 (if t then 1 else 0) ++ r)=.inr ((if t then 1 else 0),m)/\(be 1 (if t then 1 else 0) ++ r).drop m=r:=fun t=>by
   obtain⟨b,a⟩:=wK t r;refine⟨1,?_,a⟩;unfold dO;rw[b]
  rcases hx with rfl | rfl
  ·exact key false
  ·exact key true
 | k + 2,hx =>
  have c:0<=fit x:=by
   unfold fit;split
   ·exact hx
   ·decide
  obtain⟨b,a⟩:=yx c (iy x) r;exact⟨_,b,a⟩
theorem qO(b:Nat->Int)(a:List (Nat × Nat)):∀ (r:List Int) (xs:Nat->Int),(a.map Prod.snd).Nodup->(∀ p∈a,rng p.1 (b p.2))->∃ ys,thr rnx a (0,thr (pnx b) a [] ++ r,xs)=(0,r,ys)/\(∀ p∈a,ys p.2=fitk p.1 (b p.2))/\∀ o,o ∉ a.map Prod.snd->ys o=xs o:=by
 have hL:∀ (a:List (Nat × Nat)) (L:List Int),thr (pnx b) a L=L ++ thr (pnx b) a []:=by
  intro a
  induction a with
  | nil=>intro L; simp[thr]
  | cons p a ih =>
   intro L;rw[dR,dR,ih (pnx b p.1 p.2 L),ih (pnx b p.1 p.2 [])];simp[pnx,List.append_assoc]
 induction a with
 | nil=>exact fun r xs _ _=>⟨xs,rfl,(fun p h=>by cases h),fun _ _=>rfl⟩
 | cons p a ih =>
  intro r xs c f;rw[List.map_cons,List.nodup_cons] at c;obtain⟨m,g,j⟩:=back1 p.1 (f p List.mem_cons_self) (thr (pnx b) a [] ++ r)
  have el:thr (pnx b) (p :: a) [] ++ r=gC p.1 (b p.2) ++ (thr (pnx b) a [] ++ r):=by
   rw[dR,hL];simp[pnx,List.append_assoc]
  rw[el,dR]
  have es:rnx p.1 p.2 (0,gC p.1 (b p.2) ++ (thr (pnx b) a [] ++ r),xs)=(0,thr (pnx b) a [] ++ r,fun i=>if i=p.2 then fitk p.1 (b p.2) else xs i):=by
   show (rdE (p1 p.1 _) 0,rdL (p1 p.1 _) 0 _,fun i=>if i=p.2 then rdV 0 (p1 p.1 _) 0 else xs i)=_
   rw[g]
   show (_,List.drop m _,_)=_
   rw[j];rfl
  rw[es];obtain⟨ys,e1,e2,e3⟩:=ih r _ c.2 (fun q d=>f q (List.mem_cons_of_mem _ d));refine⟨ys,e1,fun q d => ?_,fun o e => ?_⟩
  ·rcases List.mem_cons.1 d with rfl | d
   ·rw[e3 _ c.1]
    show (if q.2=q.2 then _ else _)=_
    rw[if_pos rfl]
   ·exact e2 q d
  ·rw[List.map_cons,List.mem_cons,not_or] at e;rw[e3 o e.2]
   show (if o=p.2 then _ else _)=_
   rw[if_neg e.1]
end
end Rc
end
section
namespace Rc
open Go.RowKit Go.Lib Pg
attribute [local go_sem] Oper.semAt_some
theorem yU (k:Nat) (x:Int):bh (gC k x):=by
 unfold gC;split
 ·exact e9 _ _
 ·exact e9 _ _
 ·intro y hy;rcases List.mem_append.1 hy with h | h
  ·exact e9 _ _ y h
  ·exact y8 _ y h
theorem ux (xs:Nat->Int) (a:List (Nat × Nat)):∀ L,bh L->bh (thr (pnx xs) a L):=by
 induction a with
 | nil=>exact fun _ h=>h
 | cons p a ih =>
  intro L h;rw[dR];refine ih _ ?_
  intro y hy;rcases List.mem_append.1 hy with b | b
  ·exact h y b
  ·exact yU _ _ y b
end Rc
end
section
namespace Rc
open Go.RowKit Go.Lib Pg
attribute [local go_sem] Oper.semAt_some
end Rc
end
section
open Go.RowKit Lim
def stB (s:Stp):Option (List Int) :=
 if s.what=0 then some (be 1 (s.num % 256))
 else if s.what=1 then some (be 4 (s.num % 4294967296))
 else if s.what=2 then some (be 8 s.num)
 else if s.what=3 then some (be 1 (if s.num % 2 == 1 then 1 else 0))
 else if s.what=4\/s.what=5 then (if (dP s.V).length < 256 then some (fN 1 (dP s.V)) else none)
 else if s.what=6 then some (fN 4 s.bl)
 else some []
def stO (s:Stp) (o:Option (List Int)):Option (List Int):=o.bind fun L=>(stB s).map (L ++ ·)
def laid (ss:List Stp):Option (List Int):=ss.foldl (fun o s=>stO s o) (some [])
end
section
open Go.RowKit Lim
end
section
open Go.RowKit Lim
end
section
open Go.RowKit Lim
end
section
open Go.RowKit Lim
end
section
open Go.RowKit Lim
end
section
open Go.RowKit Lim
end
section
open Go.RowKit Lim
end
section
namespace Rc
open Go.RowKit Go.Lib Pg Lim
attribute [local go_sem] Oper.semAt_some
end Rc
end
section
namespace Rc
open Go.RowKit Go.Lib Pg Lim
attribute [local go_sem] Oper.semAt_some
end Rc
end
section
namespace Rc
open Go.RowKit Go.Lib Pg Lim
theorem wD {err:Int} {l:List Int} (h:gg err l=0):err=0/\l=[]:=by
 unfold gg at h;split at h
 ·rename_i he;split at h
  ·rename_i a;exact⟨he,List.eq_nil_of_length_eq_zero a⟩
  ·exact absurd h (by decide)
 ·exact absurd h (by assumption)
theorem ones (a:List (Nat × Nat)) (l:List Int) (e:bh l) (b:(a.map Prod.snd).Nodup) (h:gg (thr rnx a (0,l,fun _=>0)).1 (thr rnx a (0,l,fun _=>0)).2.1=0):thr (pnx (thr rnx a (0,l,fun _=>0)).2.2) a []=l:=by
 obtain⟨d,c⟩:=wD h;have:=Cu a l (fun _=>0) e b d [];rw[c,List.append_nil,List.nil_append] at this;exact this
end Rc
end
section
open Go.RowKit Lim
end
section
namespace Rc
open Go.RowKit Go.Lib Pg Lim
attribute [local go_sem] Oper.semAt_some
end Rc
end
section
namespace Rc
open Go.RowKit Go.Lib Pg Lim Gl
section
variable {xs:Nat->Int}{w w':World}{e:Ending}{bb n c:Nat}{ao:Option Addr}{l:List Int}
def iE(s:RSt):Int:=if gg s.1 s.2.1=0 then 0 else 80
def fU(s:RSt):Nat->Int:=if gg s.1 s.2.1=0 then s.2.2 else fun _=>0
theorem sD{s:RSt}{r:Int}(b:gg s.1 s.2.1=0->r=0/\xs=s.2.2)(a:gg s.1 s.2.1≠0->r=80/\xs=fun _=>0):xs=fU s/\r=iE s:=by
 unfold fU iE;by_cases h:gg s.1 s.2.1=0
 ·rw[if_pos h,if_pos h]; exact⟨(b h).2,(b h).1⟩
 ·rw[if_neg h,if_neg h]; exact⟨(a h).2,(a h).1⟩
theorem outChain{s:RSt}(h:pS w eI 2 mkA s e w'):e=.returned (.tuple #[.agg #[.int .u64 (fU s 0),.int .u64 (fU s 1)],.int .i64 (iE s)])/\Below w.heap.size w w':=by
 obtain⟨⟨cs,xs,r,rfl,f,b,d,c⟩,B⟩:=h;obtain⟨e1,e2⟩:=sD d c;subst e1 e2;have q0:=(b 0).1 rfl;have q1:=(b 1).1 rfl
 have a:cs=[.int .u64 (fU s 0),.int .u64 (fU s 1)]:=by
  refine List.ext_getElem? fun i => ?_
  rcases Nat.lt_or_ge i 2 with hi | hi
  ·match i,hi with
   | 0,_=>exact q0
   | 1,_=>exact q1
   | n + 2,h=>exact absurd h (by omega)
  ·rw[List.getElem?_eq_none (by omega),List.getElem?_eq_none hi]
 subst a;exact⟨rfl,B⟩
def cQ(l:List Int):RSt:=thr rnx [(2,0),(0,1)] (0,l,fun _=>0)
theorem sE{s:RSt}(h:pS w aQ 2 mkA s e w'):∃ a0 n0 c0,e=.returned (.tuple #[.agg #[.slice a0 n0 c0,.int .u64 (fU s 1)],.int .i64 (iE s)])/\(fG w' w.heap.size a0 n0 c0 (fU s 0)/\n0<=510)/\Below w.heap.size w w':=by
 obtain⟨⟨cs,xs,r,rfl,f,b,d,c⟩,B⟩:=h;obtain⟨e1,e2⟩:=sD d c;subst e1 e2;obtain⟨a0,n0,c0,q0,y0,z0⟩:=(b 0).2.2 rfl;have q1:=(b 1).1 rfl
 have a:cs=[.slice a0 n0 c0,.int .u64 (fU s 1)]:=by
  refine List.ext_getElem? fun i => ?_
  rcases Nat.lt_or_ge i 2 with hi | hi
  ·match i,hi with
   | 0,_=>exact q0
   | 1,_=>exact q1
   | n + 2,h=>exact absurd h (by omega)
  ·rw[List.getElem?_eq_none (by omega),List.getElem?_eq_none hi]
 subst a;exact⟨a0,n0,c0,rfl,⟨y0,by omega⟩,B⟩
theorem zW(A:ByA w bb ao n c l)(hn:n<=1000000000):Calls Tryz.prog 128 #[.slice ao n c] w fun e w'=>∃ a0 n0 c0,e=.returned (.tuple #[.agg #[.slice a0 n0 c0,.int .u64 (fU (cQ l) 1)],.int .i64 (iE (cQ l))])/\(fG w' w.heap.size a0 n0 c0 (fU (cQ l) 0)/\n0<=510)/\Below w.heap.size w w':=by
 refine(rI A hn (by obtain⟨o,a,_⟩:=A.ex; exact a)).mono ?_
 intro e w' h;exact sE h
def kU(l:List Int):RSt:=thr rnx [(0,0),(0,1)] (0,l,fun _=>0)
theorem outCut{s:RSt}(h:pS w cn 2 mkA s e w'):e=.returned (.tuple #[.agg #[.int .u64 (fU s 0),.int .u64 (fU s 1)],.int .i64 (iE s)])/\Below w.heap.size w w':=by
 obtain⟨⟨cs,xs,r,rfl,f,b,d,c⟩,B⟩:=h;obtain⟨e1,e2⟩:=sD d c;subst e1 e2;have q0:=(b 0).1 rfl;have q1:=(b 1).1 rfl
 have a:cs=[.int .u64 (fU s 0),.int .u64 (fU s 1)]:=by
  refine List.ext_getElem? fun i => ?_
  rcases Nat.lt_or_ge i 2 with hi | hi
  ·match i,hi with
   | 0,_=>exact q0
   | 1,_=>exact q1
   | n + 2,h=>exact absurd h (by omega)
  ·rw[List.getElem?_eq_none (by omega),List.getElem?_eq_none hi]
 subst a;exact⟨rfl,B⟩
theorem oCut(A:ByA w bb ao n c l)(hn:n<=1000000000):Calls Tryz.prog 85 #[.slice ao n c] w fun e w'=>e=.returned (.tuple #[.agg #[.int .u64 (fU (kU l) 0),.int .u64 (fU (kU l) 1)],.int .i64 (iE (kU l))])/\Below w.heap.size w w':=by
 refine(Dv A hn (by obtain⟨o,a,_⟩:=A.ex; exact a)).mono ?_
 intro e w' h;exact outCut h
end
end Rc
end
end Go.Proofs.YthfepflplbahkaaGreatDoor
