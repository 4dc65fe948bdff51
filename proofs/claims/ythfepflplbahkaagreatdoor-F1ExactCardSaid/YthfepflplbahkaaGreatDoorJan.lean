/- Several texts, joined: EncI, RcJ, RcK, RcL, EncJ, EncK, RefB2, EncL, EncP, EncQ, EncR, EncS, RcO, RcM, RcN, EncM, RcT, RcRd. -/
import Derived.Test.YthfepflplbahkaaGreatDoorJam
import Derived.Test.YthfepflplbahkaaGreatDoorJaf
import Derived.Test.YthfepflplbahkaaGreatDoorJad
set_option maxRecDepth 100000
set_option maxHeartbeats 8000000
namespace Go.Proofs.YthfepflplbahkaaGreatDoor
section
open Go.RowKit Lim
section
variable {l L:List Int}{m:Nat}{most err:Int}{w:World}{ao:Option Addr}
theorem Gn(h:aV l):be l.length (bO l)=l:=by
 refine ly (et _ _) h (aP _ _) ?_
 have hb:=b8 h;rw[jw _ hb.1,Int.emod_eq_of_lt hb.1 hb.2]
theorem j9(h:aV l)(hm:m<=l.length):be m (bO (l.take m))=l.take m:=by
 have:=Gn (l:=l.take m) (fun x hx=>h x (List.mem_of_mem_take hx));rwa [List.length_take,Nat.min_eq_left hm] at this
def One(err':Int)(L L':List Int)(laid:List Int->Prop):Prop:=(err'≠0/\L'=L)\/(err'=0/\∃ k,k<=L.length/\laid (L.take k)/\L'=L.drop k)
theorem F9(h:aV L)(m:Nat):One (rdE (cN m L) 0) L (rdL (cN m L) 0 L) (fun t=>be m (rdV 0 (cN m L) 0)=t):=by
 by_cases hm:m<=L.length
 ·have e:cN m L=.inr (bO (L.take m),m):=by unfold cN; rw[if_pos hm]
  rw[e];exact .inr ⟨rfl,m,hm,j9 h hm,rfl⟩
 ·have e:cN m L=.inl 40:=by unfold cN; rw[if_neg hm]
  rw[e];exact .inl ⟨by decide,rfl⟩
theorem Dd(h:aV L):One (rdE (bN L) 0) L (rdL (bN L) 0 L) (fun t=>be 1 (if rdV false (bN L) 0 then 1 else 0)=t):=by
 by_cases hm:1<=L.length
 ·by_cases hx:1 < bO (L.take 1)
  ·have e:bN L=.inl 41:=by unfold bN; rw[if_pos hm,if_pos hx]
   rw[e];exact .inl ⟨by decide,rfl⟩
  ·have e:bN L=.inr (bO (L.take 1) == 1,1):=by unfold bN; rw[if_pos hm,if_neg hx]
   rw[e];refine .inr ⟨rfl,1,hm,?_,rfl⟩;have a:=j9 h hm;have c:=(b8 (l:=L.take 1) (fun x hx=>h x (List.mem_of_mem_take hx))).1
   show be 1 (if (bO (L.take 1) == 1)=true then 1 else 0)=L.take 1
   generalize L.take 1=M at *;by_cases b:bO M=1
   ·rw[b] at a ⊢;exact a
   ·rw[show bO M=0 by omega] at a ⊢;exact a
 ·have e:bN L=.inl 40:=by unfold bN; rw[if_neg hm]
  rw[e];exact .inl ⟨by decide,rfl⟩
theorem vi(h:aV L):((bG m L:Nat):Int)=bO (L.take m):=by
 unfold bG;rw[Int.toNat_of_nonneg (b8 (fun x hx=>h x (List.mem_of_mem_take hx))).1]
theorem zg(h:aV L)(hm:m<=L.length)(hc:m + bG m L<=L.length):dI m ((L.drop m).take (bG m L))=L.take (m + bG m L):=by
 unfold dI
 have e:(((L.drop m).take (bG m L)).length:Int)=bO (L.take m):=by
  rw[List.length_take,List.length_drop,Nat.min_eq_left (by omega)];exact vi h
 rw[e,j9 h hm,List.take_add]
theorem FP(h:aV L):One (rdE (bF L) 0) L (rdL (bF L) 0 L) (fun t=>fY (rdV 0 (bF L) 0) 0=0/\∀ K,gx (rdV 0 (bF L) 0) 0 K=K ++ t):=by
 by_cases hm:1<=L.length
 ·by_cases hc:1 + bG 1 L<=L.length
  ·by_cases f:0 < bG 1 L/\nth (L.drop 1) 0=0
   ·have e:bF L=.inl 41:=by unfold bF; rw[if_pos hm,if_pos hc,if_pos f]
    rw[e];exact .inl ⟨by decide,rfl⟩
   ·have e:bF L=.inr (bO ((L.drop 1).take (bG 1 L)),1 + bG 1 L):=by unfold bF; rw[if_pos hm,if_pos hc,if_neg f]
    have d:=zg h hm hc
    have i:((bG 1 L:Nat):Int) < 256:=by
     have:=(b8 (l:=L.take 1) (fun x hx=>h x (List.mem_of_mem_take hx))).2;rw[List.length_take,Nat.min_eq_left hm] at this;rw[vi h];simpa using this
    have b:aV ((L.drop 1).take (bG 1 L)):=fun x hx=>h x (List.mem_of_mem_drop (List.mem_of_mem_take hx))
    have hlen:((L.drop 1).take (bG 1 L)).length=bG 1 L:=by rw[List.length_take,List.length_drop]; omega
    have j:cU (bO ((L.drop 1).take (bG 1 L)))=(L.drop 1).take (bG 1 L):=il (b8 b).1 ⟨b,fun g=>by
     have a:0 < bG 1 L:=by
      rcases Nat.eq_zero_or_pos (bG 1 L) with c | c
      ·exact absurd (by rw[c]; simp) g
      ·exact c
     rw[dq a]
     exact fun c=>f ⟨a,c⟩,rfl⟩
    rw[e];refine .inr ⟨rfl,_,hc,?_,rfl⟩
    show fY (bO ((L.drop 1).take (bG 1 L))) 0=0/\∀ K,gx (bO ((L.drop 1).take (bG 1 L))) 0 K=K ++ L.take (1 + bG 1 L)
    unfold fY gx;rw[j,if_pos (by omega)];refine⟨rfl,fun K => ?_⟩;rw[if_pos (by omega),d];rfl
  ·have e:bF L=.inl 40:=by unfold bF; rw[if_pos hm,if_neg hc]
   rw[e];exact .inl ⟨by decide,rfl⟩
 ·have e:bF L=.inl 40:=by unfold bF; rw[if_neg hm]
  rw[e];exact .inl ⟨by decide,rfl⟩
theorem one_raw(h:aV L):One (rdE (ir most L) 0) L (rdL (ir most L) 0 L) (fun t=>dI 4 (rdV [] (ir most L) 0)=t):=by
 by_cases hm:4<=L.length
 ·by_cases a:most < (bG 4 L:Int)
  ·have e:ir most L=.inl 42:=by unfold ir; rw[if_pos hm,if_pos a]
   rw[e];exact .inl ⟨by decide,rfl⟩
  ·by_cases hc:4 + bG 4 L<=L.length
   ·have e:ir most L=.inr ((L.drop 4).take (bG 4 L),4 + bG 4 L):=by unfold ir; rw[if_pos hm,if_neg a,if_pos hc]
    rw[e];exact .inr ⟨rfl,_,hc,zg h hm hc,rfl⟩
   ·have e:ir most L=.inl 40:=by unfold ir; rw[if_pos hm,if_neg a,if_neg hc]
    rw[e];exact .inl ⟨by decide,rfl⟩
 ·have e:ir most L=.inl 40:=by unfold ir; rw[if_neg hm]
  rw[e];exact .inl ⟨by decide,rfl⟩
theorem ByA.front2{b:Nat}{n c:Nat}(h:ByA w b ao n c l){k:Nat}(j:k<=n):ByA w b ao k c (l.take k):=by
 obtain⟨o,m,g,f,d,a⟩:=h.ex;refine⟨o,by rw[List.length_take]; omega,by omega,f,fun x hx=>d x (List.mem_of_mem_take hx),?_,fun i hi => ?_⟩
 ·rcases a.loc with e | e
  ·exact .inl (by rw[e]; simp)
  ·exact .inr e
 ·rw[List.length_take] at hi;rw[a.cell i (by omega),dq (by omega)]
theorem pRaw_len : (rdV [] (ir most L) err).length ≤ L.length := by
  unfold rdV ir
  repeat' split
  all_goals first
    | exact Nat.zero_le _
    | (rename_i a; repeat' split at a
       all_goals first
         | cases a
           rw[List.length_take, List.length_drop]; omega
         | cases a)
theorem pRaw_oct(h : aV L) : aV (rdV [] (ir most L) err) := by
  unfold rdV ir
  repeat' split
  all_goals first
    | exact fun x hx => by simp at hx
    | (rename_i a; repeat' split at a
       all_goals first
         | cases a
           exact fun x hx => h x (List.mem_of_mem_drop (List.mem_of_mem_take hx))
         | cases a)
end
end
section
namespace Rc
open Go.RowKit Go.Lib Pg Lim
section
variable {l r:List Int}{m:Nat}{x:Int}
theorem eM(m:Nat)(l:List Int):(dI m l).length=m + l.length:=by
 unfold dI;rw[List.length_append,aP]
theorem dn(h:l.length=m):(l ++ r).take m=l/\(l ++ r).drop m=r:=by
 subst h;exact⟨List.take_left,List.drop_left⟩
theorem pS(m:Nat)(hx:0<=x)(r:List Int):cN m (be m x ++ r)=.inr (x % 256 ^ m,m)/\(be m x ++ r).drop m=r:=by
 have h:=dn (r:=r) (aP m x);refine⟨?_,h.2⟩;unfold cN;rw[if_pos (by rw[List.length_append,aP]; omega),h.1,jw m hx]
theorem lZ(hl:(l.length:Int) < 256 ^ m):bG m (dI m l ++ r)=l.length:=by
 unfold bG dI;rw[List.append_assoc,(dn (aP m _)).1,jw m (by omega),Int.emod_eq_of_lt (by omega) hl];rfl
theorem jC(m:Nat)(l r:List Int):(dI m l ++ r).drop m=l ++ r:=by
 unfold dI;rw[List.append_assoc,(dn (aP m _)).2]
theorem ll{V:Int}(f:0<=V)(h:(cU V).length < 256)(r:List Int):bF (dI 1 (cU V) ++ r)=.inr (V,1 + (cU V).length)/\(dI 1 (cU V) ++ r).drop (1 + (cU V).length)=r:=by
 have hc:bG 1 (dI 1 (cU V) ++ r)=(cU V).length:=lZ (by simpa using (by omega:((cU V).length:Int) < 256));have b:=jC 1 (cU V) r;have d:=oy f;refine⟨?_,?_⟩
 ·unfold bF;rw[if_pos (by rw[List.length_append,eM]; omega),hc,if_pos (by rw[List.length_append,eM]; omega),b,if_neg,(dn rfl).1,d.2.2];rintro⟨c,g⟩
  have a:cU V≠[]:=fun e=>by rw[e] at c; simp at c
  refine d.2.1 a ?_
  rw[<- g]
  cases hh:cU V with
  | nil=>exact absurd hh a
  | cons x t=>rfl
 ·rw[<- List.drop_drop,b,(dn rfl).2]
theorem Cy(b:l.length < 4294967296)(r:List Int):ir (l.length:Int) (dI 4 l ++ r)=.inr (l,4 + l.length)/\(dI 4 l ++ r).drop (4 + l.length)=r:=by
 have hc:bG 4 (dI 4 l ++ r)=l.length:=lZ (by simpa using (by omega:(l.length:Int) < 4294967296));have a:=jC 4 l r;refine⟨?_,?_⟩
 ·unfold ir;rw[if_pos (by rw[List.length_append,eM]; omega),hc,if_neg (by omega),if_pos (by rw[List.length_append,eM]; omega),a,(dn rfl).1]
 ·rw[<- List.drop_drop,a,(dn rfl).2]
theorem mC(x:Bool)(r:List Int):bN (be 1 (if x then 1 else 0) ++ r)=.inr (x,1)/\(be 1 (if x then 1 else 0) ++ r).drop 1=r:=by
 cases x
 ·exact⟨rfl,rfl⟩
 ·exact⟨rfl,rfl⟩
theorem one1(h:aV l)(k:Nat)(he:rdE (p1 k l) 0=0):iR k (rdV 0 (p1 k l) 0) ++ rdL (p1 k l) 0 l=l/\∃ m,rdL (p1 k l) 0 l=l.drop m:=by
 match k with
 | 0 =>
  rcases F9 h 8 with⟨h1,_⟩ | ⟨_,m,h2,h3,h4⟩
  ·exact absurd he h1
  ·show be 8 (rdV 0 (cN 8 l) 0) ++ rdL (cN 8 l) 0 l=l/\∃ m,rdL (cN 8 l) 0 l=l.drop m
   rw[h3,h4];exact⟨List.take_append_drop m l,m,rfl⟩
 | 1 =>
  have a:rdE (bN l) 0=0:=by rw[<- pA]; exact he
  rcases Dd h with⟨h1,_⟩ | ⟨_,m,h2,h3,h4⟩
  ·exact absurd a h1
  ·show be 1 (rdV 0 (eI l) 0) ++ rdL (eI l) 0 l=l/\∃ m,rdL (eI l) 0 l=l.drop m
   rw[pL,o9,h3,h4];exact⟨List.take_append_drop m l,m,rfl⟩
 | k + 2 =>
  rcases FP h with⟨h1,_⟩ | ⟨_,m,h2,⟨h3,h5⟩,h4⟩
  ·exact absurd he h1
  ·show dI 1 (cU (fit (rdV 0 (bF l) 0))) ++ rdL (bF l) 0 l=l/\∃ m,rdL (bF l) 0 l=l.drop m
   have hf:(cU (rdV 0 (bF l) 0)).length < 256:=by
    unfold fY at h3;split at h3
    ·assumption
    ·exact absurd h3 (by decide)
   have e:=h5 [];unfold gx wrote at e;rw[if_pos hf,if_pos rfl] at e;unfold fit;rw[if_pos hf];simp only[List.nil_append] at e;rw[e,h4];exact⟨List.take_append_drop m l,m,rfl⟩
theorem dM{σ:Type}(nx:Nat->Nat->σ->σ)(p:Nat × Nat)(ks:List (Nat × Nat))(s:σ):thr nx (p :: ks) s=thr nx ks (nx p.1 p.2 s):=rfl
theorem zB(a:List (Nat × Nat)):∀ s:RSt,s.1≠0->(thr rnx a s).1=s.1:=by
 induction a with
 | nil=>intro s _; rfl
 | cons p a ih =>
  intro s hs
  have e:(rnx p.1 p.2 s).1=s.1:=rF hs;rw[dM,ih _ (by rw[e]; exact hs),e]
theorem Bh(a:List (Nat × Nat))(o:Nat):∀ s:RSt,o ∉ a.map Prod.snd->(thr rnx a s).2.2 o=s.2.2 o:=by
 induction a with
 | nil=>intro s _; rfl
 | cons p a ih =>
  intro s b;rw[List.map_cons,List.mem_cons,not_or] at b;rw[dM,ih _ b.2]
  show (if o=p.2 then _ else _)=_
  rw[if_neg b.1]
theorem vw(h:aV l)(m:Nat):aV (l.drop m):=fun x hx=>h x (List.mem_of_mem_drop hx)
theorem EU(a:List (Nat × Nat)):∀ (l:List Int) (xs:Nat->Int),aV l->(a.map Prod.snd).Nodup->(thr rnx a (0,l,xs)).1=0->∀ L,thr (pnx (thr rnx a (0,l,xs)).2.2) a L ++ (thr rnx a (0,l,xs)).2.1=L ++ l:=by
 induction a with
 | nil=>intro l xs _ _ _ L; rfl
 | cons p a ih =>
  intro l xs e b he L;rw[List.map_cons,List.nodup_cons] at b;rw[dM] at he
  have e1:rdE (p1 p.1 l) 0=0:=by
   by_cases d:rdE (p1 p.1 l) 0=0
   ·exact d
   ·exact absurd ((zB a (rnx p.1 p.2 (0,l,xs)) d).symm.trans he) d
  obtain⟨h,m,f⟩:=one1 e p.1 e1
  have es:rnx p.1 p.2 (0,l,xs)=(0,rdL (p1 p.1 l) 0 l,fun i=>if i=p.2 then rdV 0 (p1 p.1 l) 0 else xs i):=by
   show (rdE (p1 p.1 l) 0,_,_)=_
   rw[e1]
  have g:thr rnx (p :: a) (0,l,xs)=thr rnx a (0,rdL (p1 p.1 l) 0 l,fun i=>if i=p.2 then rdV 0 (p1 p.1 l) 0 else xs i):=by rw[dM,es]
  rw[es] at he;rw[g]
  have c:=ih _ _ (by rw[f]; exact vw e m) b.2 he;rw[dM,c]
  have ev:(thr rnx a (0,rdL (p1 p.1 l) 0 l,fun i=>if i=p.2 then rdV 0 (p1 p.1 l) 0 else xs i)).2.2 p.2=rdV 0 (p1 p.1 l) 0:=by
   rw[Bh a p.2 _ b.1]
   show (if p.2=p.2 then _ else _)=_
   rw[if_pos rfl]
  show (L ++ iR p.1 _) ++ _=L ++ l
  rw[ev,List.append_assoc,h]
def rng:Nat->Int->Prop
 | 0,x=>0<=x/\x < 18446744073709551616
 | 1,x=>x=0\/x=1
 | _,x=>0<=x
def fitk:Nat->Int->Int
 | 0,x=>x
 | 1,x=>x
 | _,x=>fit x
theorem back1(k:Nat)(hx:rng k x)(r:List Int):∃ m,p1 k (iR k x ++ r)=.inr (fitk k x,m)/\(iR k x ++ r).drop m=r:=by
 match k,hx with
 | 0,hx =>
  obtain⟨b,a⟩:=pS 8 hx.1 r;refine⟨8,?_,a⟩
  show cN 8 (be 8 x ++ r)=_
  rw[b,Int.emod_eq_of_lt hx.1 (by have:=hx.2; simpa using this)];rfl
 | 1,hx =>
  have key:∀ t:Bool,∃ m,eI (be 1 (if t then 1 else 0) ++ r)=.inr ((if t then 1 else 0),m)/\(be 1 (if t then 1 else 0) ++ r).drop m=r:=fun t=>by
   obtain⟨b,a⟩:=mC t r;refine⟨1,?_,a⟩;unfold eI;rw[b]
  rcases hx with rfl | rfl
  ·exact key false
  ·exact key true
 | k + 2,hx =>
  have c:0<=fit x:=by
   unfold fit;split
   ·exact hx
   ·decide
  obtain⟨b,a⟩:=ll c (jZ x) r;exact⟨_,b,a⟩
theorem ji(b:Nat->Int)(a:List (Nat × Nat)):∀ (r:List Int) (xs:Nat->Int),(a.map Prod.snd).Nodup->(∀ p∈a,rng p.1 (b p.2))->∃ ys,thr rnx a (0,thr (pnx b) a [] ++ r,xs)=(0,r,ys)/\(∀ p∈a,ys p.2=fitk p.1 (b p.2))/\∀ o,o ∉ a.map Prod.snd->ys o=xs o:=by
 have hL:∀ (a:List (Nat × Nat)) (L:List Int),thr (pnx b) a L=L ++ thr (pnx b) a []:=by
  intro a
  induction a with
  | nil=>intro L; simp[thr]
  | cons p a ih =>
   intro L;rw[dM,dM,ih (pnx b p.1 p.2 L),ih (pnx b p.1 p.2 [])];simp[pnx,List.append_assoc]
 induction a with
 | nil=>exact fun r xs _ _=>⟨xs,rfl,(fun p g=>by cases g),fun _ _=>rfl⟩
 | cons p a ih =>
  intro r xs c f;rw[List.map_cons,List.nodup_cons] at c;obtain⟨m,j,h⟩:=back1 p.1 (f p List.mem_cons_self) (thr (pnx b) a [] ++ r)
  have el:thr (pnx b) (p :: a) [] ++ r=iR p.1 (b p.2) ++ (thr (pnx b) a [] ++ r):=by
   rw[dM,hL];simp[pnx,List.append_assoc]
  rw[el,dM]
  have es:rnx p.1 p.2 (0,iR p.1 (b p.2) ++ (thr (pnx b) a [] ++ r),xs)=(0,thr (pnx b) a [] ++ r,fun i=>if i=p.2 then fitk p.1 (b p.2) else xs i):=by
   show (rdE (p1 p.1 _) 0,rdL (p1 p.1 _) 0 _,fun i=>if i=p.2 then rdV 0 (p1 p.1 _) 0 else xs i)=_
   rw[j]
   show (_,List.drop m _,_)=_
   rw[h];rfl
  rw[es];obtain⟨ys,e1,e2,e3⟩:=ih r _ c.2 (fun q d=>f q (List.mem_cons_of_mem _ d));refine⟨ys,e1,fun q d => ?_,fun o e => ?_⟩
  ·rcases List.mem_cons.1 d with rfl | d
   ·rw[e3 _ c.1]
    show (if q.2=q.2 then _ else _)=_
    rw[if_pos rfl]
   ·exact e2 q d
  ·rw[List.map_cons,List.mem_cons,not_or] at e;rw[e3 o e.2]
   show (if o=p.2 then _ else _)=_
   rw[if_neg e.1]
end
end Rc
end
section
namespace Rc
open Go.RowKit Go.Lib Pg
attribute [local go_sem] Oper.semAt_some
theorem CO (k:Nat) (x:Int):aV (iR k x):=by
 unfold iR;split
 ·exact et _ _
 ·exact et _ _
 ·intro y hy;rcases List.mem_append.1 hy with h | h
  ·exact et _ _ y h
  ·exact vx _ y h
theorem oq (xs:Nat->Int) (a:List (Nat × Nat)):∀ L,aV L->aV (thr (pnx xs) a L):=by
 induction a with
 | nil=>exact fun _ h=>h
 | cons p a ih =>
  intro L h;rw[dM];refine ih _ ?_
  intro y hy;rcases List.mem_append.1 hy with b | b
  ·exact h y b
  ·exact CO _ _ y b
theorem yo {w:World} {b n:Nat} {M:List Int} (h:Box w b (M.map (Value.int .u8)) 5) (hn:n=M.length) (a:aV M) (c:M.length<=1000000):ByA w b (some ⟨b,0,none⟩) n n M :=
 ⟨0,hn.symm,Nat.le_refl _,⟨by omega,fun e=>by cases e⟩,a,h.atB⟩
end Rc
end
section
namespace Rc
open Go.RowKit Go.Lib Pg
section
variable {w:World}{bb n c:Nat}{ao:Option Addr}{x0 x1:Int}
attribute [local go_sem] Oper.semAt_some
theorem bk_History(A : ByA w bb ao n c (thr (pnx (fun o => ([x0, x1] : List Int).getD o 0)) [(2, 0), (0, 1)] []))(hn : n ≤ 1000000000)(r0 : 0 ≤ x0)(r1 : 0 ≤ x1 ∧ x1 < 18446744073709551616) :
    Calls Tryz.prog 128 #[.slice ao n c] w fun e w' => ∃ a0 n0 c0, e = .returned (.tuple #[.agg #[.slice a0 n0 c0, .int .u64 x1], .int .i64 0]) ∧ (dG w' w.heap.size a0 n0 c0 (fit x0) ∧ n0 ≤ 255) ∧ Below w.heap.size w w' := by
  have j : (thr (pnx (fun o => ([x0, x1] : List Int).getD o 0)) [(2, 0), (0, 1)] []).length = n := by obtain⟨o, g, _⟩:= A.ex; exact g
  obtain⟨ys, e1, e2, -⟩:= ji (fun o => ([x0, x1] : List Int).getD o 0) [(2, 0), (0, 1)] [] (fun _ => 0) (by decide) (List.forall_mem_cons.2 ⟨r0, List.forall_mem_cons.2 ⟨r1, fun _ h => by cases h⟩⟩);rw[List.append_nil] at e1;refine(nK A hn j).mono ?_
  rintro e w' ⟨⟨cs, xs, r, rfl, g, f, d, l⟩, B⟩;rw[e1] at d;obtain⟨rfl, rfl⟩:= d rfl;have y0 := e2 (2, 0) (by simp);obtain⟨a0, n0, c0, q0, b, k0⟩:= (f 0).2.2 rfl;rw[show _ = fit x0 from y0] at b;have y1 := e2 (0, 1) (by simp)
  have q1 : cs[1]? = some (.int .u64 x1) := by rw[(f 1).1 rfl]; exact congrArg _ (congrArg _ y1)
  have a : cs = [.slice a0 n0 c0, .int .u64 x1] := by
    apply List.ext_getElem?;intro i
    match i with
    | 0 => rw[q0]; rfl
    | 1 => rw[q1]; rfl
    | k + 2 => rw[List.getElem?_eq_none (by omega), List.getElem?_eq_none (by simp)]
  subst a;exact⟨a0, n0, c0, rfl, ⟨b, k0⟩, B⟩
theorem bk_Cut(A : ByA w bb ao n c (thr (pnx (fun o => ([x0, x1] : List Int).getD o 0)) [(0, 0), (0, 1)] []))(hn : n ≤ 1000000000)(r0 : 0 ≤ x0 ∧ x0 < 18446744073709551616)(r1 : 0 ≤ x1 ∧ x1 < 18446744073709551616) :
    Calls Tryz.prog 85 #[.slice ao n c] w fun e w' => e = .returned (.tuple #[.agg #[.int .u64 x0, .int .u64 x1], .int .i64 0]) ∧ Below w.heap.size w w' := by
  have g : (thr (pnx (fun o => ([x0, x1] : List Int).getD o 0)) [(0, 0), (0, 1)] []).length = n := by obtain⟨o, f, _⟩:= A.ex; exact f
  obtain⟨ys, e1, e2, -⟩:= ji (fun o => ([x0, x1] : List Int).getD o 0) [(0, 0), (0, 1)] [] (fun _ => 0) (by decide) (List.forall_mem_cons.2 ⟨r0, List.forall_mem_cons.2 ⟨r1, fun _ h => by cases h⟩⟩);rw[List.append_nil] at e1;refine(yn A hn g).mono ?_
  rintro e w' ⟨⟨cs, xs, r, rfl, f, b, d, j⟩, B⟩;rw[e1] at d;obtain⟨rfl, rfl⟩:= d rfl;have y0 := e2 (0, 0) (by simp)
  have q0 : cs[0]? = some (.int .u64 x0) := by rw[(b 0).1 rfl]; exact congrArg _ (congrArg _ y0)
  have y1 := e2 (0, 1) (by simp)
  have q1 : cs[1]? = some (.int .u64 x1) := by rw[(b 1).1 rfl]; exact congrArg _ (congrArg _ y1)
  have a : cs = [.int .u64 x0, .int .u64 x1] := by
    apply List.ext_getElem?;intro i
    match i with
    | 0 => rw[q0]; rfl
    | 1 => rw[q1]; rfl
    | k + 2 => rw[List.getElem?_eq_none (by omega), List.getElem?_eq_none (by simp)]
  subst a;exact⟨rfl, B⟩
end
end Rc
end
section
open Go.RowKit Lim
section
variable {w w':World}{g N K:Nat}{o o':Option (List Int)}{L l:List Int}{err:Int}{ao:Option Addr}
def stB(s:Stp):Option (List Int) :=
 if s.what=0 then some (be 1 (s.num % 256))
 else if s.what=1 then some (be 4 (s.num % 4294967296))
 else if s.what=2 then some (be 8 s.num)
 else if s.what=3 then some (be 1 (if s.num % 2 == 1 then 1 else 0))
 else if s.what=4\/s.what=5 then (if (cU s.V).length < 256 then some (dI 1 (cU s.V)) else none)
 else if s.what=6 then some (dI 4 s.bl)
 else some []
def stO(s:Stp)(o:Option (List Int)):Option (List Int):=o.bind fun L=>(stB s).map (L ++ ·)
def laid(ss:List Stp):Option (List Int):=ss.foldl (fun o s=>stO s o) (some [])
theorem AR(ss:List Stp)(s:Stp):laid (ss ++ [s])=stO s (laid ss):=by
 unfold laid;rw[List.foldl_append];rfl
theorem laid_take{ss:List Stp}{i:Nat}{s:Stp}(h:ss[i]? = some s):laid (ss.take (i + 1))=stO s (laid (ss.take i)):=by
 rw[List.take_add_one,h];exact AR _ _
theorem AP(a:List Stp)(o:Option (List Int)):a.foldl (fun o s=>stO s o) o=o.bind fun L=>(laid a).map (L ++ ·):=by
 induction a generalizing o with
 | nil =>
  cases o with
  | none=>rfl
  | some L=>simp[laid]
 | cons s r ih =>
  have b:laid (s :: r)=(stO s (some [])).bind fun L=>(laid r).map (L ++ ·):=by
   unfold laid;rw[List.foldl_cons];exact ih _
  rw[List.foldl_cons,ih,b]
  cases o with
  | none=>rfl
  | some L =>
   unfold stO
   cases stB s with
   | none=>rfl
   | some l =>
    cases laid r with
    | none=>rfl
    | some t=>simp[List.append_assoc]
theorem ui(l m:List Stp):laid (l ++ m)=(laid l).bind fun L=>(laid m).map (L ++ ·):=by
 rw[<- AP m (laid l)];unfold laid;rw[List.foldl_append]
theorem qY(s:Stp)(r:List Stp):laid (s :: r)=(stB s).bind fun L=>(laid r).map (L ++ ·):=by
 have:=ui [s] r;rw[List.singleton_append] at this;rw[this];unfold laid;rw[List.foldl_cons,List.foldl_nil];unfold stO
 cases stB s with
 | none=>rfl
 | some l=>simp
structure WrO(w:World)(g:Nat)(o:Option (List Int))(N:Nat):Prop where
 ex:∃ err L,WrA w g err L/\L.length<=N/\(∀ M,o=some M->err=0/\L=M)/\(o=none->err=42)
theorem WrO.lt(h:WrO w g o N):g < w.heap.size:=by
 obtain⟨_,_,X,_⟩:=h.ex;exact X.lt
theorem WrO.keep(h:WrO w g o N)(hb:Below w.heap.size w w'):WrO w' g o N:=by
 obtain⟨e,L,X,h1⟩:=h.ex;exact⟨e,L,X.keep hb,h1⟩
theorem WrO.off{g':Nat}{N':Nat}(h:WrO w g o N)(h':WrO w g' o' N')(hne:g≠g')(hb:But g' w w'):WrO w' g o N:=by
 obtain⟨e,L,X,h1⟩:=h.ex;obtain⟨_,_,X',_⟩:=h'.ex;exact⟨e,L,X.off X' hne hb,h1⟩
theorem wroNew(w:World):WrO (w.alloc (.cells Tryz.zeroCells231 231)) w.heap.size (some []) 0 :=
 ⟨0,[],yS w,Nat.le_refl _,fun M e=>by cases e; exact⟨rfl,rfl⟩,fun e=>by cases e⟩
theorem WrO.some(h:WrO w g o N)(e:o=.some L):WrA w g 0 L/\L.length<=N:=by
 obtain⟨err,M,X,h1,h2,_⟩:=h.ex;obtain⟨rfl,rfl⟩:=h2 L e;exact⟨X,h1⟩
theorem WrO.none(h:WrO w g o N)(e:o=.none):∃ L,WrA w g 42 L:=by
 obtain⟨err,M,X,h1,_,h3⟩:=h.ex;obtain rfl:=h3 e;exact⟨M,X⟩
theorem eM(m:Nat)(l:List Int):(dI m l).length=m + l.length:=by
 unfold dI;rw[List.length_append,aP]
theorem WrO.lay{s:Stp}(hs:stB s=.some l)(d:l.length<=K)(c:L.length<=N)(a:∀ M,o=.some M->err=0/\L=M)(b:o=.none->err=42)(X:WrA w' g err (wrote err L l)):WrO w' g (stO s o) (N + K):=by
 refine⟨err,_,X,?_,fun M e => ?_,fun e => ?_⟩
 ·have:=qJ err L l;omega
 ·cases o with
  | none=>cases e
  | some M' =>
   obtain⟨rfl,rfl⟩:=a M' rfl;unfold stO at e;rw[hs] at e
   cases e;exact⟨rfl,rfl⟩
 ·cases o with
  | none=>exact b rfl
  | some M' =>
   unfold stO at e;rw[hs] at e
   cases e
theorem raw_at{n c b:Nat}(h:ByA w b ao n c l)(j:w.heap.size<=g):∃ b' o,AtB w ao b' o l/\l.length=n/\n<=c/\b'≠g:=by
 obtain⟨o,f,a,m,k,d⟩:=h.ex;rcases d.lt with e | e
 ·subst e;exact⟨g + 1,0,⟨.inl rfl,fun i hi=>by simp at hi⟩,f,a,by omega⟩
 ·exact⟨b,o,d,f,a,by omega⟩
theorem u6{V:Int}(h:(cU V).length < 256)(L:List Int):fY V err=err/\gx V err L=wrote err L (dI 1 (cU V)):=by
 unfold fY gx;rw[if_pos h,if_pos h];exact⟨rfl,rfl⟩
theorem WrO.nat{s:Stp}(hw:s.what=4\/s.what=5)(i:256<=K)(f:L.length<=N)(c:∀ M,o=.some M->err=0/\L=M)(d:o=.none->err=42)(X:WrA w' g (fY s.V err) (gx s.V err L)):WrO w' g (stO s o) (N + K):=by
 have e:stB s=if (cU s.V).length < 256 then .some (dI 1 (cU s.V)) else .none:=by
  unfold stB;rcases hw with h | h<;>simp[h]
 by_cases a:(cU s.V).length < 256
 ·rw[if_pos a] at e;rw[(u6 a L).1,(u6 a L).2] at X;exact WrO.lay e (by rw[eM]; omega) f c d X
 ·rw[if_neg a] at e;unfold fY gx at X;rw[if_neg a,if_neg a] at X;refine⟨_,_,X,by omega,fun M b => ?_,fun _ => ?_⟩
  ·unfold stO at b;rw[e] at b
   cases o<;>cases b
  ·unfold E9
   cases o with
   | none=>rw[d rfl]; rfl
   | some M=>rw[(c M rfl).1]; rfl
end
end
section
open Go.RowKit Lim
section
variable {l r T:List Int}{m g b o n c:Nat}{x V:Int}{w:World}{a:Option Addr}
theorem dn(h:l.length=m):(l ++ r).take m=l/\(l ++ r).drop m=r:=by
 subst h;exact⟨List.take_left,List.drop_left⟩
theorem pS(m:Nat)(hx:0<=x)(r:List Int):cN m (be m x ++ r)=.inr (x % 256 ^ m,m)/\(be m x ++ r).drop m=r:=by
 have h:=dn (r:=r) (aP m x);refine⟨?_,h.2⟩;unfold cN;rw[if_pos (by rw[List.length_append,aP]; omega),h.1,jw m hx]
theorem lZ(hl:(l.length:Int) < 256 ^ m):bG m (dI m l ++ r)=l.length:=by
 unfold bG dI;rw[List.append_assoc,(dn (aP m _)).1,jw m (by omega),Int.emod_eq_of_lt (by omega) hl];rfl
theorem jC(m:Nat)(l r:List Int):(dI m l ++ r).drop m=l ++ r:=by
 unfold dI;rw[List.append_assoc,(dn (aP m _)).2]
theorem ll(f:0<=V)(h:(cU V).length < 256)(r:List Int):bF (dI 1 (cU V) ++ r)=.inr (V,1 + (cU V).length)/\(dI 1 (cU V) ++ r).drop (1 + (cU V).length)=r:=by
 have hc:bG 1 (dI 1 (cU V) ++ r)=(cU V).length:=lZ (by simpa using (by omega:((cU V).length:Int) < 256));have b:=jC 1 (cU V) r;have d:=oy f;refine⟨?_,?_⟩
 ·unfold bF;rw[if_pos (by rw[List.length_append,eM]; omega),hc,if_pos (by rw[List.length_append,eM]; omega),b,if_neg,(dn rfl).1,d.2.2];rintro⟨c,g⟩
  have a:cU V≠[]:=fun e=>by rw[e] at c; simp at c
  refine d.2.1 a ?_
  rw[<- g]
  cases hh:cU V with
  | nil=>exact absurd hh a
  | cons x t=>rfl
 ·rw[<- List.drop_drop,b,(dn rfl).2]
theorem Cy(b:l.length < 4294967296)(r:List Int):ir (l.length:Int) (dI 4 l ++ r)=.inr (l,4 + l.length)/\(dI 4 l ++ r).drop (4 + l.length)=r:=by
 have hc:bG 4 (dI 4 l ++ r)=l.length:=lZ (by simpa using (by omega:(l.length:Int) < 4294967296));have a:=jC 4 l r;refine⟨?_,?_⟩
 ·unfold ir;rw[if_pos (by rw[List.length_append,eM]; omega),hc,if_neg (by omega),if_pos (by rw[List.length_append,eM]; omega),a,(dn rfl).1]
 ·rw[<- List.drop_drop,a,(dn rfl).2]
theorem mC(x:Bool)(r:List Int):bN (be 1 (if x then 1 else 0) ++ r)=.inr (x,1)/\(be 1 (if x then 1 else 0) ++ r).drop 1=r:=by
 cases x
 ·exact⟨rfl,rfl⟩
 ·exact⟨rfl,rfl⟩
theorem bkU64(a:0<=x)(c:x < 18446744073709551616)(R:RdA w g b 0 (be 8 x ++ r)) :
  Calls Tryz.prog 180 #[.pointer (some ⟨g,0,none⟩)] w fun e w'=>e=.returned (.int .u64 x)/\RdA w' g b 0 r/\But g w w':=by
 have t:=Ei R;obtain⟨e1,e2⟩:=pS 8 a r;rw[e1] at t;unfold rdV rdE rdL at t;simp only[if_true] at t;rw[e2,Int.emod_eq_of_lt a (by simpa using c)] at t;exact t
theorem bkBool{x:Bool}(R:RdA w g b 0 (be 1 (if x then 1 else 0) ++ r)) :
  Calls Tryz.prog 182 #[.pointer (some ⟨g,0,none⟩)] w fun e w'=>e=.returned (.bool x)/\RdA w' g b 0 r/\But g w w':=by
 have t:=rdBool R;obtain⟨e1,e2⟩:=mC x r;rw[e1] at t;unfold rdV rdE rdL at t;simp only[if_true] at t;rw[e2] at t;exact t
theorem bkNat(d:0<=V)(f:(cU V).length < 256)(R:RdA w g b 0 (dI 1 (cU V) ++ r)) :
  Calls Tryz.prog 221 #[.pointer (some ⟨g,0,none⟩)] w fun e w'=>∃ a n c,e=.returned (.slice a n c)/\bQ w' a n c V/\n<=255/\RdA w' g b 0 r/\But g w w':=by
 have t:=Iv R;obtain⟨e1,e2⟩:=ll d f r;rw[e1] at t;unfold rdV rdE rdL at t;simp only[if_true] at t;rw[e2] at t;exact t
theorem bkDec(d:0<=V)(f:(cU V).length < 256)(R:RdA w g b 0 (dI 1 (cU V) ++ r)) :
  Calls Tryz.prog 184 #[.pointer (some ⟨g,0,none⟩)] w fun e w'=>∃ a n c,e=.returned (.agg #[.slice a n c])/\bQ w' a n c V/\n<=255/\RdA w' g b 0 r/\But g w w':=by
 have t:=rdDec R;obtain⟨e1,e2⟩:=ll d f r;rw[e1] at t;unfold rdV rdE rdL at t;simp only[if_true] at t;rw[e2] at t;exact t
theorem EW{s:Stp}(A:wZ w s)(h:stB s=some l):aV l:=by
 have d:aV s.bl:=by obtain⟨_,_,_,_,g,_⟩:=A.byt.ex; exact g
 have c:∀ {a b:List Int},aV a->aV b->aV (a ++ b):=fun f hb x hx=>by
  rcases List.mem_append.1 hx with e | e
  ·exact f x e
  ·exact hb x e
 unfold stB at h
 repeat' split at h
 all_goals first
  | (cases h; done)
  | (cases h; exact et _ _)
  | (cases h; exact c (et _ _) (vx _))
  | (cases h; exact c (et _ _) d)
  | (cases h; exact fun x hx=>by simp at hx)
theorem Bv:∀ {ss:List Stp} {T:List Int},(∀ s∈ss,wZ w s)->laid ss=some T->aV T
 | [],T,_,h=>by cases h; exact fun x hx=>by simp at hx
 | s :: r,T,hA,h=>by
  rw[qY] at h
  cases hs:stB s with
  | none=>rw[hs] at h; cases h
  | some l =>
   rw[hs] at h
   cases hr:laid r with
   | none=>rw[hr] at h; cases h
   | some t =>
    rw[hr] at h
    cases h;intro x hx;rcases List.mem_append.1 hx with e | e
    ·exact EW (hA s (List.mem_cons_self ..)) hs x e
    ·exact Bv (fun s' hs'=>hA s' (List.mem_cons_of_mem _ hs')) hr x e
theorem laid_step{a:List Stp}{k:Nat}{s:Stp}(h:laid (a.drop k)=some T)(hs:a[k]? = some s):∃ l T',stB s=some l/\laid (a.drop (k + 1))=some T'/\T=l ++ T':=by
 have b:k < a.length:=by
  rcases Nat.lt_or_ge k a.length with h | h
  ·exact h
  ·rw[List.getElem?_eq_none h] at hs; cases hs
 have e:a.drop k=s :: a.drop (k + 1):=by
  rw[List.drop_eq_getElem_cons b];rw[List.getElem?_eq_getElem b] at hs
  cases hs;rfl
 rw[e,qY] at h
 cases hb:stB s with
 | none=>rw[hb] at h; cases h
 | some l =>
  rw[hb] at h
  cases hr:laid (a.drop (k + 1)) with
  | none=>rw[hr] at h; cases h
  | some t =>
   rw[hr] at h
   cases h;exact⟨l,t,rfl,rfl,rfl⟩
theorem fO(hc:w.cell? ⟨g,o,none⟩=some (.int .u64 x)):(loadVar 22 ⟨g,o,none⟩).run Tryz.prog w=.ok (.int .u64 x) w:=by go_simp
theorem Cm(hc:w.cell? ⟨g,o,none⟩=some (.slice a n c)):(loadVar 30 ⟨g,o,none⟩).run Tryz.prog w=.ok (.slice a n c) w:=by go_simp
theorem ld_byt(hc:w.cell? ⟨g,o,none⟩=some (.slice a n c)):(loadVar 96 ⟨g,o,none⟩).run Tryz.prog w=.ok (.slice a n c) w:=by go_simp
end
end
section
open Go.RowKit Lim
section
variable {w:World}{B:Nat}{v:Value}{l:List Int}{V:Int}
theorem dt.shape(h:dt w B v l):∃ ao c,v=.slice ao l.length c:=by
 rcases h.2 with⟨rfl,h0⟩ | ⟨g,cap,cur,rfl,_⟩
 ·exact⟨none,0,by rw[h0]⟩
 ·exact⟨_,_,rfl⟩
theorem dt.atB(h:dt w B v l):∃ ao c b o,v=.slice ao l.length c/\l.length<=c/\AtB w ao b o l:=by
 obtain⟨_,a⟩:=h;rcases a with⟨rfl,h0⟩ | ⟨g,cap,cur,rfl,hB,hh,hle,hmx,hsz,htk⟩
 ·have e:l=[]:=List.eq_nil_of_length_eq_zero h0;subst e;exact⟨none,0,0,0,rfl,Nat.le_refl _,.inl rfl,fun i hi=>by simp at hi⟩
 ·refine⟨some ⟨g,0,none⟩,cap,g,0,rfl,hle,.inr rfl,fun i hi => ?_⟩
  have e:cur.toList[i]? = some (.int .u8 (nth l i)):=by
   have d:(cur.toList.take (l.length * 1))[i]? = some (.int .u8 (nth l i)):=by
    rw[htk,List.getElem?_map,List.getElem?_eq_getElem hi,bT hi]; rfl
   rwa [Nat.mul_one,List.getElem?_take_of_lt hi] at d
  simp only[World.cell?,hh];simpa using e
theorem minB_mono{B':Nat}(h:dt w B v l)(hB:B'<=B):dt w B' v l:=by
 obtain⟨h1,h2⟩:=h;refine⟨h1,?_⟩;rcases h2 with h2 | ⟨g,cap,cur,rfl,hB1,hr⟩
 ·exact .inl h2
 ·exact .inr ⟨g,cap,cur,rfl,by omega,hr⟩
theorem zQ(l:List Int)(c:Int):bO (l ++ [c])=256 * bO l + c:=by
 induction l with
 | nil=>simp[bO]
 | cons x l ih=>simp only[List.cons_append,bO,ih,List.length_append,List.length_singleton,Int.pow_succ]; grind
theorem IsB.snoc{c:Int}(h:IsB l V)(b:0<=c)(d:c < 256)(a:l≠[]\/c≠0):IsB (l ++ [c]) (256 * V + c):=by
 refine⟨fun x hx => ?_,fun _ => ?_,by rw[zQ,h.2.2]⟩
 ·rcases List.mem_append.1 hx with e | e
  ·exact h.1 x e
  ·simp at e; subst e; exact⟨b,d⟩
 ·cases l with
  | nil =>
   rcases a with e | e
   ·exact absurd rfl e
   ·rw[List.nil_append,bW]; exact e
  | cons y l=>rw[List.cons_append,bW]; have:=h.2.1 (by simp); rwa [bW] at this
theorem IsB.zero(h:IsB l V)(hl:l=[]):IsB l (256 * V + 0):=by
 subst hl;have:=h.2.2;simp[bO] at this;subst this;exact⟨h.1,h.2.1,rfl⟩
theorem v32_drop{i:Nat}(h:i < l.length):v32 (l.drop i)=nth l i + 4294967296 * v32 (l.drop (i + 1)):=by
 rw[List.drop_eq_getElem_cons h,v32,bT h]
theorem byte_step(V x:Int)(j:Nat)(a:j < 4):256 * (V * 256 ^ j + x / 2 ^ (32 - 8 * j)) + x / 2 ^ (24 - 8 * j) % 256=V * 256 ^ (j + 1) + x / 2 ^ (32 - 8 * (j + 1)):=by
 have e:x / 2 ^ (32 - 8 * j)=x / 2 ^ (24 - 8 * j) / 256:=by
  rw[Int.ediv_ediv_of_nonneg (Int.le_of_lt (Int.pow_pos (by decide))),show (256:Int)=2 ^ 8 from rfl,<- Int.pow_add,show 24 - 8 * j + 8=32 - 8 * j from by omega]
 rw[e,show 32 - 8 * (j + 1)=24 - 8 * j from by omega,Int.pow_succ];generalize x / 2 ^ (24 - 8 * j)=y;have:V * (256 ^ j * 256)=256 * (V * 256 ^ j):=by grind
 omega
end
end
section
open Go.RowKit Lim
section
variable {B n g i:Nat}{w w':World}{v:Value}{xs:List Value}{p:Option Addr}{ps L l:List Int}{o:Option (List Int)}
structure Byt(B:Nat)(w w':World):Prop where
 os:w'.os=w.os
 tape:w'.tape=w.tape
 output:w'.output=w.output
 size:w.heap.size<=w'.heap.size
 low:∀ k:Nat,k < B->k < w.heap.size->w'.heap[k]? = w.heap[k]?
 typ:∀ (k:Nat) (c:Array Value) (t:TypeId) (f:Nat × Nat),w.heap[k]? = some (Obj.cells c t f)->t≠5->w'.heap[k]? = w.heap[k]?
theorem Byt.of(h:Below w.heap.size w w'):Byt B w w':=⟨h.os,h.tape,h.output,h.size,fun k _ hk=>h.block k hk,fun k _ _ _ hc _=>h.block k (lt_of_block hc)⟩
theorem Byt.trans{w1 w2:World}(h:Byt B w w1)(a:Byt B w1 w2):Byt B w w2:=⟨a.os.trans h.os,a.tape.trans h.tape,a.output.trans h.output,Nat.le_trans h.size a.size,
 fun k d hs=>(a.low k d (Nat.lt_of_lt_of_le hs h.size)).trans (h.low k d hs),fun k c t f hc b=>(a.typ k c t f (by rw[h.typ k c t f hc b]; exact hc) b).trans (h.typ k c t f hc b)⟩
theorem Byt.grown(a:w.ownsRow B 5 1 v n xs)(h:w.grownBy w' v.ownBlock):Byt B w w':=by
 refine⟨h.os,h.tape,h.output,h.size,fun k d hs=>h.block k hs fun e => ?_,fun k c t f hc b=>h.block k (lt_of_block hc) fun e => ?_⟩
 ·have:=(a.lt k e.symm).1;omega
 ·rcases a.2 with⟨rfl,_⟩ | ⟨g,cap,cur,rfl,_,hh,_⟩
  ·cases e
  ·simp[Value.ownBlock] at e;subst e;rw[hh] at hc
   cases hc;exact b rfl
theorem Byt.below{A:Nat}{w0:World}(h:Byt B w w')(b:Below A w0 w)(hA:A<=B)(hs:A<=w0.heap.size):Below A w0 w' :=
 ⟨h.os.trans b.os,h.tape.trans b.tape,h.output.trans b.output,Nat.le_trans b.size h.size,fun k a=>(h.low k (by omega) (Nat.lt_of_lt_of_le (Nat.lt_of_lt_of_le a hs) b.size)).trans (b.block k a)⟩
theorem Pc.byt(h:Pc w p ps)(b:Byt B w w'):Pc w' p ps:=by
 induction h with
 | nil=>exact .nil
 | cons hb hl _ ih=>exact .cons ⟨by rw[b.typ _ _ _ _ hb.blk (by decide)]; exact hb.blk⟩ hl ih
theorem WrO.byt{N:Nat}(h:WrO w g o N)(b:Byt B w w'):WrO w' g o N:=by
 obtain⟨e,L,X,d⟩:=h.ex;obtain⟨p,ps,c,u,a,P,hu,hL⟩:=X.ex;exact⟨e,L,⟨p,ps,c,u,⟨a.len,by rw[b.typ _ _ _ _ a.blk (by decide)]; exact a.blk⟩,P.byt b,hu,hL⟩,d⟩
theorem RdA.byt{bb:Nat}{err:Int}(h:RdA w g bb err L)(hb:L=[]\/bb < B)(b:Byt B w w'):RdA w' g bb err L:=by
 obtain⟨f,n,c,X,A⟩:=h.ex;obtain⟨o,l,d,k,j,a⟩:=A.ex;refine⟨f,n,c,⟨by rw[b.typ _ _ _ _ X.blk (by decide)]; exact X.blk⟩,o,l,d,k,j,a.loc,fun i hi => ?_⟩;have hc:=a.cell i hi;rcases hb with e | e
 ·subst e; simp at hi
 ·rw[World.cell?_of_block (w:=w) (b.low bb e (aK hc))];exact hc
structure ByR(w:World)(g n:Nat):Prop where
 ex:∃ cur,w.heap[g]? = some (.cells cur 5 (0,0))/\n<=cur.size/\∀ i,i < n->∃ x,cur[i]? = some (.int .u8 x)
theorem dt.byr(h:dt w B v l):v=.slice none 0 0/\l=[]\/∃ g c,v=.slice (some ⟨g,0,none⟩) l.length c/\B<=g/\g < w.heap.size/\ByR w g l.length:=by
 obtain⟨_,b⟩:=h;rcases b with⟨rfl,h0⟩ | ⟨g,cap,cur,rfl,hB,hh,hle,hmx,hsz,htk⟩
 ·exact .inl ⟨rfl,List.eq_nil_of_length_eq_zero h0⟩
 ·refine .inr ⟨g,cap,rfl,hB,lt_of_block hh,cur,hh,by omega,fun i hi=>⟨nth l i,?_⟩⟩
  have a:(cur.toList.take (l.length * 1))[i]? = some (.int .u8 (nth l i)):=by
   rw[htk,List.getElem?_map,List.getElem?_eq_getElem hi,bT hi];rfl
  rw[List.getElem?_take] at a;split at a
  ·rw[<- Array.getElem?_toList];exact a
  ·cases a
theorem Box.byr(h:Box w g (l.map (Value.int .u8)) 5):ByR w g l.length:=⟨_,h.blk,by simp,fun i hi=>⟨nth l i,by simp[hi,bT hi]⟩⟩
theorem ByR.cell(h:ByR w g n)(hi:i < n):∃ x,w.cell? ⟨g,i,none⟩=some (.int .u8 x)/\w.frozen? ⟨g,i,none⟩=false:=by
 obtain⟨cur,a,c,b⟩:=h.ex;obtain⟨x,hx⟩:=b i hi;exact⟨x,by simp[World.cell?,a,hx],by simp[World.frozen?,a]⟩
theorem ByR.set(h:ByR w g n)(y:Int):ByR (w.setCell ⟨g,i,none⟩ (.int .u8 y)) g n:=by
 obtain⟨cur,d,a,c⟩:=h.ex;refine⟨cur.setIfInBounds i (.int .u8 y),?_,by simpa using a,fun j b => ?_⟩
 ·simp only[World.setCell,Array.getElem?_modify,if_true,d];simp
 ·by_cases e:i=j
  ·subst e;exact⟨y,by rw[Array.getElem?_setIfInBounds]; simp; omega⟩
  ·obtain⟨x,hx⟩:=c j b;exact⟨x,by rw[Array.getElem?_setIfInBounds,if_neg e]; exact hx⟩
theorem be_mod(m:Nat){x:Int}(hx:0<=x):be m (x % 256 ^ m)=be m x:=by
 have a:(0:Int) < 256 ^ m:=Int.pow_pos (by decide);refine ly (et _ _) (et _ _) (by rw[aP,aP]) ?_
 rw[jw m hx,jw m (Int.emod_nonneg _ (by omega)),Int.emod_emod]
end
end
section
open Go.RowKit Lim
theorem no_u8f (err:Int) (ao:Option Addr) (n c:Nat):∀ v∈[Value.slice ao n c,Value.int .i64 err],∀ x,v≠.int .u8 x:=fun v hv x e=>by
 rcases List.mem_cons.1 hv with h | h
 ·subst h; cases e
 ·rw[List.mem_singleton] at h; subst h; cases e
theorem yh (w:World) (g k:Nat) (v:Value):But g w (w.setCell ⟨g,k,none⟩ v):=⟨rfl,rfl,rfl,by rw[size_set]; exact Nat.le_refl _,fun _ _ h2=>Below.heap_setCell _ _ _ _ h2⟩
end
section
open Go.RowKit Lim
theorem bval_one {l:List Int} (h:1<=l.length):bO (l.take 1)=nth l 0:=by
 cases l with
 | nil=>simp at h
 | cons x t=>simp[bO,nth]
theorem nth_drop1 (l:List Int):nth (l.drop 1) 0=nth l 1:=by
 cases l with
 | nil=>rfl
 | cons x t=>rfl
end
section
open Go.RowKit Lim
end
section
open Go.RowKit Lim
section
variable {w:World}{l:List Int}
theorem atB_srcS{x:Addr}{b o:Nat}(h:AtB w (some x) b o l):∀ j u,(l.map (Value.int .u8))[j]? = some u->w.cell? (x.add j)=some u:=by
 intro j u hu;rw[List.getElem?_map] at hu;rcases Nat.lt_or_ge j l.length with a | a
 ·rw[List.getElem?_eq_getElem a] at hu;simp at hu;subst hu
  have hx:x=⟨b,o,none⟩:=by
   rcases h.loc with e | e
   ·subst e; simp at a
   ·simpa using e
  subst hx;have:=h.cell j a;rw[bT a] at this;rw[addr_add];exact this
 ·rw[List.getElem?_eq_none a] at hu; simp at hu
theorem xn(a b:Nat)(c:a < 9223372036854775808)(hb:b < 9223372036854775808):bits .or .i64 (a:Int) (b:Int)=((a ||| b:Nat):Int):=by
 have hx:a ||| b < 2 ^ 63:=Nat.or_lt_two_pow (by omega) (by omega)
 show IntKind.i64.wrap ((BitVec.ofInt 64 (a:Int) ||| BitVec.ofInt 64 (b:Int)).toNat:Int)=_
 rw[BitVec.toNat_or,ofInt_u64 a (by omega),ofInt_u64 b (by omega)];simp[IntKind.wrap,IntKind.bits,IntKind.signed];omega
theorem or_addi(a b:Int)(s:Nat)(k:Int)(g:a=k * 2 ^ s)(h:0<=k)(j:a < 9223372036854775808)(d:0<=b)(l:b < 2 ^ s)(m:b < 9223372036854775808):bits .or .i64 a b=a + b:=by
 have i:(0:Int) < 2 ^ s:=Int.pow_pos (by decide)
 have c:0<=a:=by rw[g]; exact Int.mul_nonneg h (Int.le_of_lt i)
 obtain⟨A,rfl⟩:=Int.eq_ofNat_of_zero_le c;obtain⟨k,rfl⟩:=Int.eq_ofNat_of_zero_le h;obtain⟨b,rfl⟩:=Int.eq_ofNat_of_zero_le d;rw[xn A b (by omega) (by omega)]
 have e:A=2 ^ s * k:=by
  have:(A:Int)=((2 ^ s * k:Nat):Int):=by rw[g,Int.natCast_mul,Int.natCast_pow,Int.mul_comm]; rfl
  omega
 have f:b < 2 ^ s:=by
  have:((2 ^ s:Nat):Int)=2 ^ s:=by rw[Int.natCast_pow]; rfl
  omega
 rw[e,<- Nat.two_pow_add_eq_or_of_lt f];omega
theorem bval_four(h:4<=l.length):bO (l.take 4)=nth l 0 * 16777216 + nth l 1 * 65536 + nth l 2 * 256 + nth l 3:=by
 match l,h with
 | a :: b :: c :: d :: r,_ =>
  simp[bO,nth];omega
end
end
section
namespace Rc
open Go.RowKit Go.Lib Pg Lim
attribute [local go_sem] Oper.semAt_some
end Rc
end
section
namespace Rc
open Go.RowKit Go.Lib Pg Lim
section
variable {w:World}{b n:Nat}{M:List Int}{xs:Nat->Int}
attribute [local go_sem] Oper.semAt_some
theorem K8:Kd Tryz.prog 96 5 1 1 (.int .u8 0):=⟨by kernel_rfl,by kernel_rfl,rfl,by simp[Value.cells,Value.oneCell'],by decide⟩
theorem app_b{x:Int}(h : Box w b (M.map (Value.int .u8)) 5)(hn : n = M.length)(l : aV M)(hx : 0 ≤ x ∧ x < 256)(o : M.length ≤ 100000) :
    ∃ b' c' w', (Builtin.append_ #[96, 96] 96 #[.slice (some ⟨b, 0, none⟩) n n, .slice (some ⟨w.heap.size, 0, none⟩) 1 1]).run Tryz.prog (w.alloc (.cells #[.int .u8 x] 5)) = .ok (.slice (some ⟨b', 0, none⟩) (n + 1) c') w' ∧ ByA w' b' (some ⟨b', 0, none⟩) (n + 1) c' (M ++ [x]) ∧ Chg (· = b) w w' := by
  have al := ae w (.cells #[.int .u8 x] 5);have m := aC w [.int .u8 x] 5
  have g : Blk (w.alloc (.cells #[.int .u8 x] 5)) b (M.map (Value.int .u8)) 5 := (Blk.mk h.blk).keep al
  have R := kS (k := 1) (n := n) g (by rw[List.length_map, hn, Nat.mul_one]) (by have : n ≤ 100000 := by omega
                                                                                       simp only[maxLen]; omega)
  obtain⟨b', c', w', f, hb, d, C⟩:= dK K8 96 R ⟨w.heap.size, 0, none⟩ 1 1 [.int .u8 x] rfl (fun j u c => by
    have : j = 0 := by have := (List.getElem?_eq_some_iff.1 c).1; simp at this; omega
    subst this;simp at c;subst c
    exact m.cell (i := 0) rfl) (by simp[Value.oneCell']) (by omega) (by omega)
  have hle := d.le;refine⟨b', c', w', f, ⟨0, by simp[hn], hle.1, ⟨by have := hle.2; simp only[maxLen] at this; omega, fun e => by cases e⟩, ?_, ⟨.inr rfl, fun i hi => ?_⟩⟩, (Chg.of (F := fun y => y = b) al).trans C (fun _ _ h => h)⟩
  · intro y hy
    rcases List.mem_append.1 hy with a | a
    · exact l y a
    · simp at a; subst a; exact hx
  · rw[Nat.zero_add]
    refine d.cell ?_
    have e : (M.map (Value.int .u8) ++ [Value.int .u8 x]) = (M ++ [x]).map (Value.int .u8) := by simp
    rw[e, List.getElem?_map]
    have : (M ++ [x])[i]? = some (nth (M ++ [x]) i) := by
      simp[nth, List.getD_eq_getElem?_getD, List.getElem?_eq_getElem hi]
    rw[this];rfl
theorem nat7(w:World):bQ (w.alloc (.cells #[.int .u64 7] 22)) (some ⟨w.heap.size,0,none⟩) 1 1 7 :=
 ⟨w.heap.size,0,[7],rfl,Nat.le_refl _,⟨fun x hx=>by simp at hx; omega,by decide,by decide⟩,⟨.inr rfl,fun i hi=>by
  have:i=0:=by simp at hi; omega
  subst this
  exact(aC w [.int .u64 7] 22).cell (i:=0) rfl⟩⟩
theorem natB_7:cU 7=[7]:=il (by decide) ⟨fun x hx=>by simp at hx; omega,fun _=>by decide,by decide⟩
theorem fit_7:fit 7=7:=by unfold fit; rw[natB_7]; rfl
theorem fit_0:fit 0=0:=by unfold fit; rw[th]; rfl
theorem shortL(xs:Nat->Int)(ks:List (Nat × Nat))(h:ks.length<=10):(thr (pnx xs) ks []).length<=3000:=by
 have:=jQ xs ks [];simp at this;omega
theorem laidB{a:List (Nat × Nat)}(X:Box w b ((thr (pnx xs) a []).map (Value.int .u8)) 5)(hn:n=(thr (pnx xs) a []).length)(c:a.length<=10):ByA w b (some ⟨b,0,none⟩) n n (thr (pnx xs) a [])/\n<=3000:=by
 have h:=shortL xs a c;exact⟨yo X hn (oq _ _ _ (fun y hy=>by cases hy)) (by omega),by omega⟩
theorem lit_bya(w:World)(l:List Int)(a:aV l)(b:l.length<=1000):ByA (w.alloc (.cells (l.map (Value.int .u8)).toArray 5)) w.heap.size (some ⟨w.heap.size,0,none⟩) l.length l.length l:=yo (gu w (l.map (Value.int .u8)) 5) rfl a (by omega)
end
end Rc
end
section
namespace Rc
open Go.RowKit Go.Lib Pg Lim
section
variable {a:Act}{w:World}{F:World->Prop}{slots:List Nat}{l:List Int}
structure CutP(a:Act)(slots:List Nat)(F:World->Prop)(a':Act)(w':World):Prop where
 ex:∃ x:Nat->Value,a'=fm a (slots.map fun i=>(some i,x i))/\F w'
theorem wp_cut{c d:Code}{Q:Exit->Act->World->Prop}(slots:List Nat)(F:World->Prop)(f:c.wp Tryz.prog (Exit.then (CutP a slots F) (fun _ _ _=>False)) a w)(b:∀ (x:Nat->Value) w',F w'->d.wp Tryz.prog Q (fm a (slots.map fun i=>(some i,x i))) w'):(Code.seq c d).wp Tryz.prog Q a w :=
 wp_seq (Code.wp_mono (fun e g w' h=>by
  cases e<;>first
   | (obtain⟨x,rfl,hF⟩:=h; exact b x w' hF)
   | exact h.elim) f)
theorem cut_end{a':Act}(h:a'=fm a (slots.map fun i=>(some i,a'.tmps.getD i undef)))(hF:F w):CutP a slots F a' w:=⟨fun i=>a'.tmps.getD i undef,h,hF⟩
theorem ry{err:Int}(h:gX err l=0):err=0/\l=[]:=by
 unfold gX at h;split at h
 ·rename_i he;split at h
  ·rename_i a;exact⟨he,List.eq_nil_of_length_eq_zero a⟩
  ·exact absurd h (by decide)
 ·exact absurd h (by assumption)
theorem ones(a:List (Nat × Nat))(l:List Int)(d:aV l)(b:(a.map Prod.snd).Nodup)(h:gX (thr rnx a (0,l,fun _=>0)).1 (thr rnx a (0,l,fun _=>0)).2.1=0):thr (pnx (thr rnx a (0,l,fun _=>0)).2.2) a []=l:=by
 obtain⟨e,c⟩:=ry h;have:=EU a l (fun _=>0) d b e [];rw[c,List.append_nil,List.nil_append] at this;exact this
theorem thr_congr{xs ys:Nat->Int}(a:List (Nat × Nat))(h:∀ p∈a,xs p.2=ys p.2):∀ L,thr (pnx xs) a L=thr (pnx ys) a L:=by
 induction a with
 | nil=>intro L; rfl
 | cons p a ih =>
  intro L;rw[dM,dM]
  have e:pnx xs p.1 p.2 L=pnx ys p.1 p.2 L:=by unfold pnx; rw[h p List.mem_cons_self]
  rw[e];exact ih (fun q b=>h q (List.mem_cons_of_mem _ b)) _
theorem fix8(l:List Int):(8<=l.length->rdE (cN 8 l) 0=0/\rdL (cN 8 l) 0 l=l.drop 8)/\(l.length < 8->rdE (cN 8 l) 0≠0):=by
 refine⟨fun h => ?_,fun h => ?_⟩
 ·unfold cN;rw[if_pos h];exact⟨rfl,rfl⟩
 ·unfold cN;rw[if_neg (by omega)];decide
theorem len_u(k:Nat):∀ (ks:List (Nat × Nat)) (l:List Int) (xs:Nat->Int),ks.length=k->(∀ p∈ks,p.1=0)->(gX (thr rnx ks (0,l,xs)).1 (thr rnx ks (0,l,xs)).2.1=0<->l.length=8 * k):=by
 induction k with
 | zero =>
  intro ks l xs a _;obtain rfl:ks=[]:=List.eq_nil_of_length_eq_zero a
  show gX 0 l=0<->_
  unfold gX;rw[if_pos rfl];constructor
  ·intro h;split at h
   ·omega
   ·exact absurd h (by decide)
  ·intro h;rw[if_pos (by omega)]
 | succ k ih =>
  intro ks l xs a c
  match ks,a with
  | p :: ks,a =>
   have b:p.1=0:=c p List.mem_cons_self;rw[dM];by_cases f:8<=l.length
   ·obtain⟨e1,e2⟩:=(fix8 l).1 f
    have es:rnx p.1 p.2 (0,l,xs)=(0,l.drop 8,fun i=>if i=p.2 then rdV 0 (cN 8 l) 0 else xs i):=by
     rw[b]
     show (rdE (cN 8 l) 0,rdL (cN 8 l) 0 l,_)=_
     rw[e1,e2];rfl
    rw[es,ih ks (l.drop 8) _ (by simpa using a) (fun q e=>c q (List.mem_cons_of_mem _ e)),List.length_drop];omega
   ·have e1:(rnx p.1 p.2 (0,l,xs)).1≠0:=by rw[b]; exact(fix8 l).2 (by omega)
    have e2:=zB ks _ e1;constructor
    ·intro h;obtain⟨d,_⟩:=ry h;rw[e2] at d;exact absurd d e1
    ·intro h;omega
end
end Rc
end
section
open Go.RowKit Lim
section
variable {B b o:Nat}{w:World}{ao:Option Addr}{l:List Int}{v:Value}
theorem AtB.byt{w':World}(h:AtB w ao b o l)(hb:l=[]\/b < B)(k:Byt B w w'):AtB w' ao b o l :=
 ⟨h.loc,fun i hi=>by
  have hc:=h.cell i hi;rcases hb with e | e
  ·subst e; simp at hi
  ·rw[World.cell?_of_block (w:=w) (k.low b e (aK hc))]
   exact hc⟩
theorem atB_src{x:Addr}(h:AtB w (some x) b o l):∀ j u,(l.map (Value.int .u8))[j]? = some u->w.cell? (x.add j)=some u:=by
 intro j u hu;rw[List.getElem?_map] at hu;rcases Nat.lt_or_ge j l.length with a | a
 ·rw[List.getElem?_eq_getElem a] at hu;simp at hu;subst hu
  have hx:x=⟨b,o,none⟩:=by
   rcases h.loc with e | e
   ·subst e; simp at a
   ·simpa using e
  subst hx;have:=h.cell j a;rw[bT a] at this;rw[addr_add];exact this
 ·rw[List.getElem?_eq_none a] at hu; simp at hu
theorem mineB_app{n:Nat}{L:List Int}(h:w.ownsRow B 5 1 v n (L.map (Value.int .u8) ++ l.map (Value.int .u8)))(hn:n=L.length + l.length):dt w B v (L ++ l):=by
 unfold dt;rw[List.length_append,List.map_append,<- hn];exact h
end
end
section
namespace Rc
open Go.RowKit Go.Lib Pg Lim
section
variable {w:World}{B g:Nat}{v:Value}{l:List Int}{cs:List Value}
attribute [local go_sem] Oper.semAt_some
theorem mineB_off{i:Nat}{t:TypeId}(h:dt w B v l)(k:Blk w g cs t)(m:t≠5)(u:Value):dt (w.setCell ⟨g,i,none⟩ u) B v l:=by
 obtain⟨o,a⟩:=h;refine⟨o,?_⟩;rcases a with a | ⟨c,cap,cur,n,j,d,f⟩
 ·exact .inl a
 ·refine .inr ⟨c,cap,cur,n,j,?_,f⟩
  have b:c≠g:=fun e=>by
   subst e;have:=k.blk.symm.trans d;simp at this;exact m this.2
  rw[Below.heap_setCell w _ u c b];exact d
theorem Blk.byt{w':World}{t:TypeId}(h:Blk w g cs t)(b:Byt B w w')(ht:t≠5):Blk w' g cs t:=⟨by rw[b.typ g _ t _ h.blk ht]; exact h.blk⟩
end
end Rc
end
section
namespace Rc
open Go.RowKit Go.Lib Pg Lim Gl
section
variable {xs:Nat->Int}{w w':World}{g B n c T bb:Nat}{cs:List Value}{ao:Option Addr}{x:Int}{e:Ending}{l:List Int}
def fA(s:RSt):Int:=if gX s.1 s.2.1=0 then 0 else 80
def aY(s:RSt):Nat->Int:=if gX s.1 s.2.1=0 then s.2.2 else fun _=>0
theorem outX_ok{s:RSt}(h:fA s=0):aY s=s.2.2:=by
 unfold fA at h;unfold aY;split at h
 ·rename_i h'; rw[if_pos h']
 ·cases h
theorem outX_no{s:RSt}(h:¬ fA s=0):aY s=fun _=>0:=by
 unfold fA at h;unfold aY;split at h
 ·exact absurd rfl h
 ·rename_i h'; rw[if_neg h']
theorem gQ{s:RSt}{r:Int}(b:gX s.1 s.2.1=0->r=0/\xs=s.2.2)(a:gX s.1 s.2.1≠0->r=80/\xs=fun _=>0):xs=aY s/\r=fA s:=by
 unfold aY fA;by_cases h:gX s.1 s.2.1=0
 ·rw[if_pos h,if_pos h]; exact⟨(b h).2,(b h).1⟩
 ·rw[if_neg h,if_neg h]; exact⟨(a h).2,(a h).1⟩
theorem But.blk{b:Nat}{t:TypeId}(h:But b w w')(X:Blk w g cs t)(hn:g≠b):Blk w' g cs t:=X.same (h.block g X.lt hn)
theorem chg_but(h:Chg (· = g) w w'):But g w w':=⟨h.os,h.tape,h.output,h.size,fun b hb hne=>h.same b hb hne⟩
def u8V:Value->Bool
 | .int .u8 _=>true
 | _=>false
theorem dG.keep(h:dG w B ao n c x)(hb:Below w.heap.size w w'):dG w' B ao n c x:=h.off hb.size fun b _ hl=>hb.block b hl
theorem dG.but(h:dG w B ao n c x)(hb:But g w w')(hg:g < B):dG w' B ao n c x:=h.off hb.size fun b hB hl=>hb.block b hl (by omega)
structure so(w:World)(B T:Nat)(ao:Option Addr)(n c:Nat)(x:Int):Prop where
 ex:∃ w0:World,w0.heap.size=T/\T<=w.heap.size/\dG w0 B ao n c x/\∀ b,B<=b->b < T->w.heap[b]? = w0.heap[b]?
theorem natX(h:dG w B ao n c x):so w B w.heap.size ao n c x:=⟨w,rfl,Nat.le_refl _,h,fun _ _ _=>rfl⟩
theorem so.nat(h:so w B T ao n c x):dG w B ao n c x:=by
 obtain⟨w0,h1,h2,h3,h4⟩:=h.ex;exact h3.off (by omega) fun b hb hl=>h4 b hb (by omega)
theorem so.but(h:so w B T ao n c x)(U:But g w w')(k:g < B\/T<=g):so w' B T ao n c x:=by
 obtain⟨d,j,a,i,e⟩:=h.ex;exact⟨d,j,Nat.le_trans a U.size,i,fun b hb f=>(U.block b (by omega) (by omega)).trans (e b hb f)⟩
theorem so.keep(h:so w B T ao n c x)(U:Below w.heap.size w w'):so w' B T ao n c x:=by
 obtain⟨d,i,a,g,e⟩:=h.ex;exact⟨d,i,Nat.le_trans a U.size,g,fun b hb f=>(U.block b (by omega)).trans (e b hb f)⟩
def stParams(l:List Int):RSt:=thr rnx [(0,0),(0,1),(0,2),(0,3),(0,4),(0,5),(0,6),(0,7),(0,8),(0,9)] (0,l,fun _=>0)
theorem outParams{s:RSt}(h:iQ w fe 10 mkA s e w'):e=.returned (.tuple #[.agg #[.int .u64 (aY s 0),.int .u64 (aY s 1),.int .u64 (aY s 2),.int .u64 (aY s 3),.int .u64 (aY s 4),.int .u64 (aY s 5),.int .u64 (aY s 6),.int .u64 (aY s 7),.int .u64 (aY s 8),.int .u64 (aY s 9)],.int .i64 (fA s)])/\Below w.heap.size w w':=by
 obtain⟨⟨cs,xs,r,rfl,p,a,m,f⟩,B⟩:=h;obtain⟨e1,e2⟩:=gQ m f;subst e1 e2;have q0:=(a 0).1 rfl;have q1:=(a 1).1 rfl;have g:=(a 2).1 rfl;have j:=(a 3).1 rfl;have d:=(a 4).1 rfl;have q5:=(a 5).1 rfl;have c:=(a 6).1 rfl;have o:=(a 7).1 rfl;have l:=(a 8).1 rfl;have k:=(a 9).1 rfl
 have b:cs=[.int .u64 (aY s 0),.int .u64 (aY s 1),.int .u64 (aY s 2),.int .u64 (aY s 3),.int .u64 (aY s 4),.int .u64 (aY s 5),.int .u64 (aY s 6),.int .u64 (aY s 7),.int .u64 (aY s 8),.int .u64 (aY s 9)]:=by
  refine List.ext_getElem? fun i => ?_
  rcases Nat.lt_or_ge i 10 with hi | hi
  ·match i,hi with
   | 0,_=>exact q0
   | 1,_=>exact q1
   | 2,_=>exact g
   | 3,_=>exact j
   | 4,_=>exact d
   | 5,_=>exact q5
   | 6,_=>exact c
   | 7,_=>exact o
   | 8,_=>exact l
   | 9,_=>exact k
   | n + 10,h=>exact absurd h (by omega)
  ·rw[List.getElem?_eq_none (by omega),List.getElem?_eq_none hi]
 subst b;exact⟨rfl,B⟩
def stChain(l:List Int):RSt:=thr rnx [(0,0),(0,1)] (0,l,fun _=>0)
theorem outChain{s:RSt}(h:iQ w fS 2 mkA s e w'):e=.returned (.tuple #[.agg #[.int .u64 (aY s 0),.int .u64 (aY s 1)],.int .i64 (fA s)])/\Below w.heap.size w w':=by
 obtain⟨⟨cs,xs,r,rfl,f,b,d,c⟩,B⟩:=h;obtain⟨e1,e2⟩:=gQ d c;subst e1 e2;have q0:=(b 0).1 rfl;have q1:=(b 1).1 rfl
 have a:cs=[.int .u64 (aY s 0),.int .u64 (aY s 1)]:=by
  refine List.ext_getElem? fun i => ?_
  rcases Nat.lt_or_ge i 2 with hi | hi
  ·match i,hi with
   | 0,_=>exact q0
   | 1,_=>exact q1
   | n + 2,h=>exact absurd h (by omega)
  ·rw[List.getElem?_eq_none (by omega),List.getElem?_eq_none hi]
 subst a;exact⟨rfl,B⟩
def stPool(l:List Int):RSt:=thr rnx [(2,0)] (0,l,fun _=>0)
theorem outPool{s:RSt}(h:iQ w ie 1 mkA s e w'):∃ a0 n0 c0,e=.returned (.tuple #[.agg #[.slice a0 n0 c0],.int .i64 (fA s)])/\(dG w' w.heap.size a0 n0 c0 (aY s 0)/\n0<=510)/\Below w.heap.size w w':=by
 obtain⟨⟨cs,xs,r,rfl,f,b,d,c⟩,B⟩:=h;obtain⟨e1,e2⟩:=gQ d c;subst e1 e2;obtain⟨a0,n0,c0,q0,y0,z0⟩:=(b 0).2.2 rfl
 have a:cs=[.slice a0 n0 c0]:=by
  refine List.ext_getElem? fun i => ?_
  rcases Nat.lt_or_ge i 1 with hi | hi
  ·match i,hi with
   | 0,_=>exact q0
   | n + 1,h=>exact absurd h (by omega)
  ·rw[List.getElem?_eq_none (by omega),List.getElem?_eq_none hi]
 subst a;exact⟨a0,n0,c0,rfl,⟨y0,by omega⟩,B⟩
def jP(l:List Int):RSt:=thr rnx [(0,0),(0,1)] (0,l,fun _=>0)
theorem outAccount{s:RSt}(h:iQ w eu 2 mkA s e w'):e=.returned (.tuple #[.agg #[.int .u64 (aY s 0),.int .u64 (aY s 1)],.int .i64 (fA s)])/\Below w.heap.size w w':=by
 obtain⟨⟨cs,xs,r,rfl,f,b,d,c⟩,B⟩:=h;obtain⟨e1,e2⟩:=gQ d c;subst e1 e2;have q0:=(b 0).1 rfl;have q1:=(b 1).1 rfl
 have a:cs=[.int .u64 (aY s 0),.int .u64 (aY s 1)]:=by
  refine List.ext_getElem? fun i => ?_
  rcases Nat.lt_or_ge i 2 with hi | hi
  ·match i,hi with
   | 0,_=>exact q0
   | 1,_=>exact q1
   | n + 2,h=>exact absurd h (by omega)
  ·rw[List.getElem?_eq_none (by omega),List.getElem?_eq_none hi]
 subst a;exact⟨rfl,B⟩
def stVal(l:List Int):RSt:=thr rnx [(0,0),(0,1),(2,2),(1,3),(0,4),(1,5),(0,6),(2,7),(2,8),(2,9)] (0,l,fun _=>0)
theorem outVal{s:RSt}(h:iQ w jm 10 mkA s e w'):∃ a2 n2 c2 a7 n7 c7 a8 n8 c8 a9 n9 c9,e=.returned (.tuple #[.agg #[.int .u64 (aY s 0),.int .u64 (aY s 1),.slice a2 n2 c2,.bool (aY s 3 == 1),.int .u64 (aY s 4),.bool (aY s 5 == 1),.int .u64 (aY s 6),.slice a7 n7 c7,.slice a8 n8 c8,.slice a9 n9 c9],.int .i64 (fA s)])/\(dG w' w.heap.size a2 n2 c2 (aY s 2)/\n2<=510)/\(dG w' w.heap.size a7 n7 c7 (aY s 7)/\n7<=510)/\(dG w' w.heap.size a8 n8 c8 (aY s 8)/\n8<=510)/\(dG w' w.heap.size a9 n9 c9 (aY s 9)/\n9<=510)/\Below w.heap.size w w':=by
 obtain⟨⟨cs,xs,r,rfl,y,a,m,t⟩,B⟩:=h;obtain⟨e1,e2⟩:=gQ m t;subst e1 e2;have q0:=(a 0).1 rfl;have q1:=(a 1).1 rfl;obtain⟨a2,n2,c2,g,y2,z2⟩:=(a 2).2.2 rfl;obtain⟨t3,d,y3⟩:=(a 3).2.1 rfl
 have y3:(aY s 3 == 1)=t3:=by rw[y3]; cases t3<;>rfl
 rw[<- y3] at d;have q:=(a 4).1 rfl;obtain⟨t5,q5,c⟩:=(a 5).2.1 rfl
 have c:(aY s 5 == 1)=t5:=by rw[c]; cases t5<;>rfl
 rw[<- c] at q5;have f:=(a 6).1 rfl;obtain⟨a7,n7,c7,o,p,v⟩:=(a 7).2.2 rfl;obtain⟨a8,n8,c8,k,l,x⟩:=(a 8).2.2 rfl;obtain⟨a9,n9,c9,j,u,z9⟩:=(a 9).2.2 rfl
 have b:cs=[.int .u64 (aY s 0),.int .u64 (aY s 1),.slice a2 n2 c2,.bool (aY s 3 == 1),.int .u64 (aY s 4),.bool (aY s 5 == 1),.int .u64 (aY s 6),.slice a7 n7 c7,.slice a8 n8 c8,.slice a9 n9 c9]:=by
  refine List.ext_getElem? fun i => ?_
  rcases Nat.lt_or_ge i 10 with hi | hi
  ·match i,hi with
   | 0,_=>exact q0
   | 1,_=>exact q1
   | 2,_=>exact g
   | 3,_=>exact d
   | 4,_=>exact q
   | 5,_=>exact q5
   | 6,_=>exact f
   | 7,_=>exact o
   | 8,_=>exact k
   | 9,_=>exact j
   | n + 10,h=>exact absurd h (by omega)
  ·rw[List.getElem?_eq_none (by omega),List.getElem?_eq_none hi]
 subst b;exact⟨a2,n2,c2,a7,n7,c7,a8,n8,c8,a9,n9,c9,rfl,⟨y2,by omega⟩,⟨p,by omega⟩,⟨l,by omega⟩,⟨u,by omega⟩,B⟩
def G6(l:List Int):RSt:=thr rnx [(2,0),(0,1),(2,2)] (0,l,fun _=>0)
theorem EG{s:RSt}(h:iQ w dk 3 mkA s e w'):∃ a0 n0 c0 a2 n2 c2,e=.returned (.tuple #[.agg #[.slice a0 n0 c0,.int .u64 (aY s 1),.slice a2 n2 c2],.int .i64 (fA s)])/\(dG w' w.heap.size a0 n0 c0 (aY s 0)/\n0<=510)/\(dG w' w.heap.size a2 n2 c2 (aY s 2)/\n2<=510)/\Below w.heap.size w w':=by
 obtain⟨⟨cs,xs,r,rfl,g,a,f,c⟩,B⟩:=h;obtain⟨e1,e2⟩:=gQ f c;subst e1 e2;obtain⟨a0,n0,c0,q0,y0,z0⟩:=(a 0).2.2 rfl;have q1:=(a 1).1 rfl;obtain⟨a2,n2,c2,d,y2,z2⟩:=(a 2).2.2 rfl
 have b:cs=[.slice a0 n0 c0,.int .u64 (aY s 1),.slice a2 n2 c2]:=by
  refine List.ext_getElem? fun i => ?_
  rcases Nat.lt_or_ge i 3 with hi | hi
  ·match i,hi with
   | 0,_=>exact q0
   | 1,_=>exact q1
   | 2,_=>exact d
   | n + 3,h=>exact absurd h (by omega)
  ·rw[List.getElem?_eq_none (by omega),List.getElem?_eq_none hi]
 subst b;exact⟨a0,n0,c0,a2,n2,c2,rfl,⟨y0,by omega⟩,⟨y2,by omega⟩,B⟩
def dA(l:List Int):RSt:=thr rnx [(2,0),(0,1)] (0,l,fun _=>0)
theorem we{s:RSt}(h:iQ w bh 2 mkA s e w'):∃ a0 n0 c0,e=.returned (.tuple #[.agg #[.slice a0 n0 c0,.int .u64 (aY s 1)],.int .i64 (fA s)])/\(dG w' w.heap.size a0 n0 c0 (aY s 0)/\n0<=510)/\Below w.heap.size w w':=by
 obtain⟨⟨cs,xs,r,rfl,f,b,d,c⟩,B⟩:=h;obtain⟨e1,e2⟩:=gQ d c;subst e1 e2;obtain⟨a0,n0,c0,q0,y0,z0⟩:=(b 0).2.2 rfl;have q1:=(b 1).1 rfl
 have a:cs=[.slice a0 n0 c0,.int .u64 (aY s 1)]:=by
  refine List.ext_getElem? fun i => ?_
  rcases Nat.lt_or_ge i 2 with hi | hi
  ·match i,hi with
   | 0,_=>exact q0
   | 1,_=>exact q1
   | n + 2,h=>exact absurd h (by omega)
  ·rw[List.getElem?_eq_none (by omega),List.getElem?_eq_none hi]
 subst a;exact⟨a0,n0,c0,rfl,⟨y0,by omega⟩,B⟩
theorem C9(A:ByA w bb ao n c l)(hn:n<=1000000000):Calls Tryz.prog 128 #[.slice ao n c] w fun e w'=>∃ a0 n0 c0,e=.returned (.tuple #[.agg #[.slice a0 n0 c0,.int .u64 (aY (dA l) 1)],.int .i64 (fA (dA l))])/\(dG w' w.heap.size a0 n0 c0 (aY (dA l) 0)/\n0<=510)/\Below w.heap.size w w':=by
 refine(nK A hn (by obtain⟨o,a,_⟩:=A.ex; exact a)).mono ?_
 intro e w' h;exact we h
def nT(l:List Int):RSt:=thr rnx [(0,0),(0,1)] (0,l,fun _=>0)
theorem outCut{s:RSt}(h:iQ w dj 2 mkA s e w'):e=.returned (.tuple #[.agg #[.int .u64 (aY s 0),.int .u64 (aY s 1)],.int .i64 (fA s)])/\Below w.heap.size w w':=by
 obtain⟨⟨cs,xs,r,rfl,f,b,d,c⟩,B⟩:=h;obtain⟨e1,e2⟩:=gQ d c;subst e1 e2;have q0:=(b 0).1 rfl;have q1:=(b 1).1 rfl
 have a:cs=[.int .u64 (aY s 0),.int .u64 (aY s 1)]:=by
  refine List.ext_getElem? fun i => ?_
  rcases Nat.lt_or_ge i 2 with hi | hi
  ·match i,hi with
   | 0,_=>exact q0
   | 1,_=>exact q1
   | n + 2,h=>exact absurd h (by omega)
  ·rw[List.getElem?_eq_none (by omega),List.getElem?_eq_none hi]
 subst a;exact⟨rfl,B⟩
theorem oCut(A:ByA w bb ao n c l)(hn:n<=1000000000):Calls Tryz.prog 85 #[.slice ao n c] w fun e w'=>e=.returned (.tuple #[.agg #[.int .u64 (aY (nT l) 0),.int .u64 (aY (nT l) 1)],.int .i64 (fA (nT l))])/\Below w.heap.size w w':=by
 refine(yn A hn (by obtain⟨o,a,_⟩:=A.ex; exact a)).mono ?_
 intro e w' h;exact outCut h
def Ij(l:List Int):RSt:=thr rnx [(0,0),(0,1),(0,2),(0,3),(0,4),(0,5)] (0,l,fun _=>0)
theorem Fy{s:RSt}(h:iQ w dC 6 mkA s e w'):e=.returned (.tuple #[.agg #[.int .u64 (aY s 0),.int .u64 (aY s 1),.int .u64 (aY s 2),.int .u64 (aY s 3),.int .u64 (aY s 4),.int .u64 (aY s 5)],.int .i64 (fA s)])/\Below w.heap.size w w':=by
 obtain⟨⟨cs,xs,r,rfl,k,a,j,d⟩,B⟩:=h;obtain⟨e1,e2⟩:=gQ j d;subst e1 e2;have q0:=(a 0).1 rfl;have q1:=(a 1).1 rfl;have f:=(a 2).1 rfl;have g:=(a 3).1 rfl;have c:=(a 4).1 rfl;have q5:=(a 5).1 rfl
 have b:cs=[.int .u64 (aY s 0),.int .u64 (aY s 1),.int .u64 (aY s 2),.int .u64 (aY s 3),.int .u64 (aY s 4),.int .u64 (aY s 5)]:=by
  refine List.ext_getElem? fun i => ?_
  rcases Nat.lt_or_ge i 6 with hi | hi
  ·match i,hi with
   | 0,_=>exact q0
   | 1,_=>exact q1
   | 2,_=>exact f
   | 3,_=>exact g
   | 4,_=>exact c
   | 5,_=>exact q5
   | n + 6,h=>exact absurd h (by omega)
  ·rw[List.getElem?_eq_none (by omega),List.getElem?_eq_none hi]
 subst b;exact⟨rfl,B⟩
def stMove(l:List Int):RSt:=thr rnx [(0,0),(0,1),(0,2),(0,3),(0,4),(0,5),(2,6)] (0,l,fun _=>0)
theorem outMove{s:RSt}(h:iQ w ij 7 mkA s e w'):∃ a6 n6 c6,e=.returned (.tuple #[.agg #[.int .u64 (aY s 0),.int .u64 (aY s 1),.int .u64 (aY s 2),.int .u64 (aY s 3),.int .u64 (aY s 4),.int .u64 (aY s 5),.slice a6 n6 c6],.int .i64 (fA s)])/\(dG w' w.heap.size a6 n6 c6 (aY s 6)/\n6<=510)/\Below w.heap.size w w':=by
 obtain⟨⟨cs,xs,r,rfl,o,a,l,f⟩,B⟩:=h;obtain⟨e1,e2⟩:=gQ l f;subst e1 e2;have q0:=(a 0).1 rfl;have q1:=(a 1).1 rfl;have g:=(a 2).1 rfl;have j:=(a 3).1 rfl;have d:=(a 4).1 rfl;have q5:=(a 5).1 rfl;obtain⟨a6,n6,c6,c,k,m⟩:=(a 6).2.2 rfl
 have b:cs=[.int .u64 (aY s 0),.int .u64 (aY s 1),.int .u64 (aY s 2),.int .u64 (aY s 3),.int .u64 (aY s 4),.int .u64 (aY s 5),.slice a6 n6 c6]:=by
  refine List.ext_getElem? fun i => ?_
  rcases Nat.lt_or_ge i 7 with hi | hi
  ·match i,hi with
   | 0,_=>exact q0
   | 1,_=>exact q1
   | 2,_=>exact g
   | 3,_=>exact j
   | 4,_=>exact d
   | 5,_=>exact q5
   | 6,_=>exact c
   | n + 7,h=>exact absurd h (by omega)
  ·rw[List.getElem?_eq_none (by omega),List.getElem?_eq_none hi]
 subst b;exact⟨a6,n6,c6,rfl,⟨k,by omega⟩,B⟩
def stNumber(l:List Int):RSt:=thr rnx [(0,0)] (0,l,fun _=>0)
theorem outNumber{s:RSt}(h:iQ w fh 1 mkO s e w'):e=.returned (.tuple #[.int .u64 (aY s 0),.int .i64 (fA s)])/\Below w.heap.size w w':=by
 obtain⟨⟨cs,xs,r,rfl,f,b,d,c⟩,B⟩:=h;obtain⟨e1,e2⟩:=gQ d c;subst e1 e2;have q0:=(b 0).1 rfl
 have a:cs=[.int .u64 (aY s 0)]:=by
  refine List.ext_getElem? fun i => ?_
  rcases Nat.lt_or_ge i 1 with hi | hi
  ·match i,hi with
   | 0,_=>exact q0
   | n + 1,h=>exact absurd h (by omega)
  ·rw[List.getElem?_eq_none (by omega),List.getElem?_eq_none hi]
 subst a;exact⟨rfl,B⟩
end
end Rc
end
end Go.Proofs.YthfepflplbahkaaGreatDoor
