/- Several texts, joined: EncI, RcJ, RcK, RcL, EncJ, EncK, RefB2, EncL, EncP, EncQ, EncR, EncS, RcO, RcM, RcN, EncM, RcT, RcRd. -/
import Derived.Test.YthfepflplbahkaaGreatDoorJan
import Derived.Test.YthfepflplbahkaaGreatDoorJag
import Derived.Test.YthfepflplbahkaaGreatDoorJae
set_option maxRecDepth 100000
set_option maxHeartbeats 8000000
namespace Go.Proofs.YthfepflplbahkaaGreatDoor
section
open Go.RowKit Lim
section
variable {l L:List Int}{m:Nat}
theorem Du(h:bC l):be l.length (bS l)=l:=by
 refine my (fi _ _) h (aQ _ _) ?_
 have hb:=bQ h;rw[pG _ hb.1,Int.emod_eq_of_lt hb.1 hb.2]
theorem iH(h:bC l)(hm:m<=l.length):be m (bS (l.take m))=l.take m:=by
 have:=Du (l:=l.take m) (fun x hx=>h x (List.mem_of_mem_take hx));rwa [List.length_take,Nat.min_eq_left hm] at this
def One(err':Int)(L L':List Int)(laid:List Int->Prop):Prop:=(err'≠0/\L'=L)\/(err'=0/\∃ k,k<=L.length/\laid (L.take k)/\L'=L.drop k)
theorem Bj(h:bC L)(m:Nat):One (rdE (cY m L) 0) L (rdL (cY m L) 0 L) (fun t=>be m (rdV 0 (cY m L) 0)=t):=by
 by_cases hm:m<=L.length
 ·have e:cY m L=.inr (bS (L.take m),m):=by unfold cY; rw[if_pos hm]
  rw[e];exact .inr ⟨rfl,m,hm,iH h hm,rfl⟩
 ·have e:cY m L=.inl 40:=by unfold cY; rw[if_neg hm]
  rw[e];exact .inl ⟨by decide,rfl⟩
theorem AQ(h:bC L):One (rdE (bI L) 0) L (rdL (bI L) 0 L) (fun t=>be 1 (if rdV false (bI L) 0 then 1 else 0)=t):=by
 by_cases hm:1<=L.length
 ·by_cases hx:1 < bS (L.take 1)
  ·have e:bI L=.inl 41:=by unfold bI; rw[if_pos hm,if_pos hx]
   rw[e];exact .inl ⟨by decide,rfl⟩
  ·have e:bI L=.inr (bS (L.take 1) == 1,1):=by unfold bI; rw[if_pos hm,if_neg hx]
   rw[e];refine .inr ⟨rfl,1,hm,?_,rfl⟩;have hbt:=iH h hm;have h0:=(bQ (l:=L.take 1) (fun x hx=>h x (List.mem_of_mem_take hx))).1
   show be 1 (if (bS (L.take 1) == 1)=true then 1 else 0)=L.take 1
   generalize L.take 1=M at *;by_cases h1:bS M=1
   ·rw[h1] at hbt ⊢;exact hbt
   ·rw[show bS M=0 by omega] at hbt ⊢;exact hbt
 ·have e:bI L=.inl 40:=by unfold bI; rw[if_neg hm]
  rw[e];exact .inl ⟨by decide,rfl⟩
theorem qM(h:bC L):((cj m L:Nat):Int)=bS (L.take m):=by
 unfold cj;rw[Int.toNat_of_nonneg (bQ (fun x hx=>h x (List.mem_of_mem_take hx))).1]
theorem Db(h:bC L)(hm:m<=L.length)(hc:m + cj m L<=L.length):fU m ((L.drop m).take (cj m L))=L.take (m + cj m L):=by
 unfold fU
 have e:(((L.drop m).take (cj m L)).length:Int)=bS (L.take m):=by
  rw[List.length_take,List.length_drop,Nat.min_eq_left (by omega)];exact qM h
 rw[e,iH h hm,List.take_add]
theorem AZ(h:bC L):One (rdE (bW L) 0) L (rdL (bW L) 0 L) (fun t=>gO (rdV 0 (bW L) 0) 0=0/\∀ K,iL (rdV 0 (bW L) 0) 0 K=K ++ t):=by
 by_cases hm:1<=L.length
 ·by_cases hc:1 + cj 1 L<=L.length
  ·by_cases hz:0 < cj 1 L/\nth (L.drop 1) 0=0
   ·have e:bW L=.inl 41:=by unfold bW; rw[if_pos hm,if_pos hc,if_pos hz]
    rw[e];exact .inl ⟨by decide,rfl⟩
   ·have e:bW L=.inr (bS ((L.drop 1).take (cj 1 L)),1 + cj 1 L):=by unfold bW; rw[if_pos hm,if_pos hc,if_neg hz]
    have hcl:=Db h hm hc
    have hlt:((cj 1 L:Nat):Int) < 256:=by
     have:=(bQ (l:=L.take 1) (fun x hx=>h x (List.mem_of_mem_take hx))).2;rw[List.length_take,Nat.min_eq_left hm] at this;rw[qM h];simpa using this
    have hoct:bC ((L.drop 1).take (cj 1 L)):=fun x hx=>h x (List.mem_of_mem_drop (List.mem_of_mem_take hx))
    have hlen:((L.drop 1).take (cj 1 L)).length=cj 1 L:=by rw[List.length_take,List.length_drop]; omega
    have hB:eb (bS ((L.drop 1).take (cj 1 L)))=(L.drop 1).take (cj 1 L):=kS (bQ hoct).1 ⟨hoct,fun hne=>by
     have hpos:0 < cj 1 L:=by
      rcases Nat.eq_zero_or_pos (cj 1 L) with h0 | h0
      ·exact absurd (by rw[h0]; simp) hne
      ·exact h0
     rw[dA hpos];exact fun h0=>hz ⟨hpos,h0⟩,rfl⟩
    rw[e];refine .inr ⟨rfl,_,hc,?_,rfl⟩
    show gO (bS ((L.drop 1).take (cj 1 L))) 0=0/\∀ K,iL (bS ((L.drop 1).take (cj 1 L))) 0 K=K ++ L.take (1 + cj 1 L)
    unfold gO iL;rw[hB,if_pos (by omega)];refine⟨rfl,fun K => ?_⟩;rw[if_pos (by omega),hcl];rfl
  ·have e:bW L=.inl 40:=by unfold bW; rw[if_pos hm,if_neg hc]
   rw[e];exact .inl ⟨by decide,rfl⟩
 ·have e:bW L=.inl 40:=by unfold bW; rw[if_neg hm]
  rw[e];exact .inl ⟨by decide,rfl⟩
end
end
section
namespace Rc
open Go.RowKit Go.Lib Pg Lim
section
variable {l r:List Int}{m:Nat}{x:Int}
theorem qA(m:Nat)(l:List Int):(fU m l).length=m + l.length:=by
 unfold fU;rw[List.length_append,aQ]
theorem ig(h:l.length=m):(l ++ r).take m=l/\(l ++ r).drop m=r:=by
 subst h;exact⟨List.take_left,List.drop_left⟩
theorem zU(m:Nat)(hx:0<=x)(r:List Int):cY m (be m x ++ r)=.inr (x % 256 ^ m,m)/\(be m x ++ r).drop m=r:=by
 have h:=ig (r:=r) (aQ m x);refine⟨?_,h.2⟩;unfold cY;rw[if_pos (by rw[List.length_append,aQ]; omega),h.1,pG m hx]
theorem Dh(hl:(l.length:Int) < 256 ^ m):cj m (fU m l ++ r)=l.length:=by
 unfold cj fU;rw[List.append_assoc,(ig (aQ m _)).1,pG m (by omega),Int.emod_eq_of_lt (by omega) hl];rfl
theorem yZ(m:Nat)(l r:List Int):(fU m l ++ r).drop m=l ++ r:=by
 unfold fU;rw[List.append_assoc,(ig (aQ m _)).2]
theorem z7{V:Int}(hV:0<=V)(hl:(eb V).length < 256)(r:List Int):bW (fU 1 (eb V) ++ r)=.inr (V,1 + (eb V).length)/\(fU 1 (eb V) ++ r).drop (1 + (eb V).length)=r:=by
 have hc:cj 1 (fU 1 (eb V) ++ r)=(eb V).length:=Dh (by simpa using (by omega:((eb V).length:Int) < 256));have hd:=yZ 1 (eb V) r;have hB:=o5 hV;refine⟨?_,?_⟩
 ·unfold bW;rw[if_pos (by rw[List.length_append,qA]; omega),hc,if_pos (by rw[List.length_append,qA]; omega),hd,if_neg,(ig rfl).1,hB.2.2];rintro⟨h0,h1⟩
  have hne:eb V≠[]:=fun e=>by rw[e] at h0; simp at h0
  refine hB.2.1 hne ?_
  rw[<- h1]
  cases hh:eb V with
  | nil=>exact absurd hh hne
  | cons x t=>rfl
 ·rw[<- List.drop_drop,hd,(ig rfl).2]
theorem vJ(x:Bool)(r:List Int):bI (be 1 (if x then 1 else 0) ++ r)=.inr (x,1)/\(be 1 (if x then 1 else 0) ++ r).drop 1=r:=by
 cases x
 ·exact⟨rfl,rfl⟩
 ·exact⟨rfl,rfl⟩
theorem one1(h:bC l)(k:Nat)(he:rdE (p1 k l) 0=0):gE k (rdV 0 (p1 k l) 0) ++ rdL (p1 k l) 0 l=l/\∃ m,rdL (p1 k l) 0 l=l.drop m:=by
 match k with
 | 0 =>
  rcases Bj h 8 with⟨h1,_⟩ | ⟨_,m,h2,h3,h4⟩
  ·exact absurd he h1
  ·show be 8 (rdV 0 (cY 8 l) 0) ++ rdL (cY 8 l) 0 l=l/\∃ m,rdL (cY 8 l) 0 l=l.drop m
   rw[h3,h4];exact⟨List.take_append_drop m l,m,rfl⟩
 | 1 =>
  have he':rdE (bI l) 0=0:=by rw[<- lV]; exact he
  rcases AQ h with⟨h1,_⟩ | ⟨_,m,h2,h3,h4⟩
  ·exact absurd he' h1
  ·show be 1 (rdV 0 (dU l) 0) ++ rdL (dU l) 0 l=l/\∃ m,rdL (dU l) 0 l=l.drop m
   rw[mJ,lU,h3,h4];exact⟨List.take_append_drop m l,m,rfl⟩
 | k + 2 =>
  rcases AZ h with⟨h1,_⟩ | ⟨_,m,h2,⟨h3,h5⟩,h4⟩
  ·exact absurd he h1
  ·show fU 1 (eb (fit (rdV 0 (bW l) 0))) ++ rdL (bW l) 0 l=l/\∃ m,rdL (bW l) 0 l=l.drop m
   have hf:(eb (rdV 0 (bW l) 0)).length < 256:=by
    unfold gO at h3;split at h3
    ·assumption
    ·exact absurd h3 (by decide)
   have e:=h5 [];unfold iL wrote at e;rw[if_pos hf,if_pos rfl] at e;unfold fit;rw[if_pos hf];simp only[List.nil_append] at e;rw[e,h4];exact⟨List.take_append_drop m l,m,rfl⟩
theorem ea{σ:Type}(nx:Nat->Nat->σ->σ)(p:Nat × Nat)(ks:List (Nat × Nat))(s:σ):thr nx (p :: ks) s=thr nx ks (nx p.1 p.2 s):=rfl
theorem Cm(ks:List (Nat × Nat)):∀ s:RSt,s.1≠0->(thr rnx ks s).1=s.1:=by
 induction ks with
 | nil=>intro s _; rfl
 | cons p ks ih =>
  intro s hs
  have e:(rnx p.1 p.2 s).1=s.1:=pQ hs;rw[ea,ih _ (by rw[e]; exact hs),e]
theorem vQ(ks:List (Nat × Nat))(o:Nat):∀ s:RSt,o ∉ ks.map Prod.snd->(thr rnx ks s).2.2 o=s.2.2 o:=by
 induction ks with
 | nil=>intro s _; rfl
 | cons p ks ih =>
  intro s ho;rw[List.map_cons,List.mem_cons,not_or] at ho;rw[ea,ih _ ho.2]
  show (if o=p.2 then _ else _)=_
  rw[if_neg ho.1]
theorem qU(h:bC l)(m:Nat):bC (l.drop m):=fun x hx=>h x (List.mem_of_mem_drop hx)
theorem Ce(ks:List (Nat × Nat)):∀ (l:List Int) (xs:Nat->Int),bC l->(ks.map Prod.snd).Nodup->(thr rnx ks (0,l,xs)).1=0->∀ L,thr (pnx (thr rnx ks (0,l,xs)).2.2) ks L ++ (thr rnx ks (0,l,xs)).2.1=L ++ l:=by
 induction ks with
 | nil=>intro l xs _ _ _ L; rfl
 | cons p ks ih =>
  intro l xs ho hnd he L;rw[List.map_cons,List.nodup_cons] at hnd;rw[ea] at he
  have e1:rdE (p1 p.1 l) 0=0:=by
   by_cases hz:rdE (p1 p.1 l) 0=0
   ·exact hz
   ·exact absurd ((Cm ks (rnx p.1 p.2 (0,l,xs)) hz).symm.trans he) hz
  obtain⟨h1,m,h2⟩:=one1 ho p.1 e1
  have es:rnx p.1 p.2 (0,l,xs)=(0,rdL (p1 p.1 l) 0 l,fun i=>if i=p.2 then rdV 0 (p1 p.1 l) 0 else xs i):=by
   show (rdE (p1 p.1 l) 0,_,_)=_
   rw[e1]
  have e0:thr rnx (p :: ks) (0,l,xs)=thr rnx ks (0,rdL (p1 p.1 l) 0 l,fun i=>if i=p.2 then rdV 0 (p1 p.1 l) 0 else xs i):=by rw[ea,es]
  rw[es] at he;rw[e0]
  have ih':=ih _ _ (by rw[h2]; exact qU ho m) hnd.2 he;rw[ea,ih']
  have ev:(thr rnx ks (0,rdL (p1 p.1 l) 0 l,fun i=>if i=p.2 then rdV 0 (p1 p.1 l) 0 else xs i)).2.2 p.2=rdV 0 (p1 p.1 l) 0:=by
   rw[vQ ks p.2 _ hnd.1]
   show (if p.2=p.2 then _ else _)=_
   rw[if_pos rfl]
  show (L ++ gE p.1 _) ++ _=L ++ l
  rw[ev,List.append_assoc,h1]
def rng:Nat->Int->Prop
 | 0,x=>0<=x/\x < 18446744073709551616
 | 1,x=>x=0\/x=1
 | _,x=>0<=x
def fitk:Nat->Int->Int
 | 0,x=>x
 | 1,x=>x
 | _,x=>fit x
theorem back1(k:Nat)(hx:rng k x)(r:List Int):∃ m,p1 k (gE k x ++ r)=.inr (fitk k x,m)/\(gE k x ++ r).drop m=r:=by
 match k,hx with
 | 0,hx =>
  obtain⟨h1,h2⟩:=zU 8 hx.1 r;refine⟨8,?_,h2⟩
  show cY 8 (be 8 x ++ r)=_
  rw[h1,Int.emod_eq_of_lt hx.1 (by have:=hx.2; simpa using this)];rfl
 | 1,hx =>
  have key:∀ t:Bool,∃ m,dU (be 1 (if t then 1 else 0) ++ r)=.inr ((if t then 1 else 0),m)/\(be 1 (if t then 1 else 0) ++ r).drop m=r:=fun t=>by
   obtain⟨h1,h2⟩:=vJ t r;refine⟨1,?_,h2⟩;unfold dU;rw[h1]
  rcases hx with rfl | rfl
  ·exact key false
  ·exact key true
 | k + 2,hx =>
  have hV:0<=fit x:=by
   unfold fit;split
   ·exact hx
   ·decide
  obtain⟨h1,h2⟩:=z7 hV (iA x) r;exact⟨_,h1,h2⟩
theorem qs(xv:Nat->Int)(ks:List (Nat × Nat)):∀ (r:List Int) (xs:Nat->Int),(ks.map Prod.snd).Nodup->(∀ p∈ks,rng p.1 (xv p.2))->∃ ys,thr rnx ks (0,thr (pnx xv) ks [] ++ r,xs)=(0,r,ys)/\(∀ p∈ks,ys p.2=fitk p.1 (xv p.2))/\∀ o,o ∉ ks.map Prod.snd->ys o=xs o:=by
 have hL:∀ (ks:List (Nat × Nat)) (L:List Int),thr (pnx xv) ks L=L ++ thr (pnx xv) ks []:=by
  intro ks
  induction ks with
  | nil=>intro L; simp[thr]
  | cons p ks ih =>
   intro L;rw[ea,ea,ih (pnx xv p.1 p.2 L),ih (pnx xv p.1 p.2 [])];simp[pnx,List.append_assoc]
 induction ks with
 | nil=>exact fun r xs _ _=>⟨xs,rfl,(fun p hp=>by cases hp),fun _ _=>rfl⟩
 | cons p ks ih =>
  intro r xs hnd hr;rw[List.map_cons,List.nodup_cons] at hnd;obtain⟨m,h1,h2⟩:=back1 p.1 (hr p List.mem_cons_self) (thr (pnx xv) ks [] ++ r)
  have el:thr (pnx xv) (p :: ks) [] ++ r=gE p.1 (xv p.2) ++ (thr (pnx xv) ks [] ++ r):=by
   rw[ea,hL];simp[pnx,List.append_assoc]
  rw[el,ea]
  have es:rnx p.1 p.2 (0,gE p.1 (xv p.2) ++ (thr (pnx xv) ks [] ++ r),xs)=(0,thr (pnx xv) ks [] ++ r,fun i=>if i=p.2 then fitk p.1 (xv p.2) else xs i):=by
   show (rdE (p1 p.1 _) 0,rdL (p1 p.1 _) 0 _,fun i=>if i=p.2 then rdV 0 (p1 p.1 _) 0 else xs i)=_
   rw[h1]
   show (_,List.drop m _,_)=_
   rw[h2];rfl
  rw[es];obtain⟨ys,e1,e2,e3⟩:=ih r _ hnd.2 (fun q hq=>hr q (List.mem_cons_of_mem _ hq));refine⟨ys,e1,fun q hq => ?_,fun o ho => ?_⟩
  ·rcases List.mem_cons.1 hq with rfl | hq
   ·rw[e3 _ hnd.1]
    show (if q.2=q.2 then _ else _)=_
    rw[if_pos rfl]
   ·exact e2 q hq
  ·rw[List.map_cons,List.mem_cons,not_or] at ho;rw[e3 o ho.2]
   show (if o=p.2 then _ else _)=_
   rw[if_neg ho.1]
end
end Rc
end
section
namespace Rc
open Go.RowKit Go.Lib Pg
attribute [local go_sem] Oper.semAt_some
theorem yw (k:Nat) (x:Int):bC (gE k x):=by
 unfold gE;split
 ·exact fi _ _
 ·exact fi _ _
 ·intro y hy;rcases List.mem_append.1 hy with h | h
  ·exact fi _ _ y h
  ·exact Ab _ y h
theorem uS (xs:Nat->Int) (ks:List (Nat × Nat)):∀ L,bC L->bC (thr (pnx xs) ks L):=by
 induction ks with
 | nil=>exact fun _ h=>h
 | cons p ks ih =>
  intro L h;rw[ea];refine ih _ ?_
  intro y hy;rcases List.mem_append.1 hy with h1 | h1
  ·exact h y h1
  ·exact yw _ _ y h1
end Rc
end
section
namespace Rc
open Go.RowKit Go.Lib Pg
attribute [local go_sem] Oper.semAt_some
end Rc
end
section
open Go.RowKit Lim
def stB (s:Stp):Option (List Int) :=
 if s.what=0 then some (be 1 (s.num % 256))
 else if s.what=1 then some (be 4 (s.num % 4294967296))
 else if s.what=2 then some (be 8 s.num)
 else if s.what=3 then some (be 1 (if s.num % 2 == 1 then 1 else 0))
 else if s.what=4\/s.what=5 then (if (eb s.V).length < 256 then some (fU 1 (eb s.V)) else none)
 else if s.what=6 then some (fU 4 s.bl)
 else some []
def stO (s:Stp) (o:Option (List Int)):Option (List Int):=o.bind fun L=>(stB s).map (L ++ ·)
def laid (ss:List Stp):Option (List Int):=ss.foldl (fun o s=>stO s o) (some [])
end
section
open Go.RowKit Lim
end
section
open Go.RowKit Lim
end
section
open Go.RowKit Lim
end
section
open Go.RowKit Lim
end
section
open Go.RowKit Lim
end
section
open Go.RowKit Lim
end
section
open Go.RowKit Lim
end
section
namespace Rc
open Go.RowKit Go.Lib Pg Lim
attribute [local go_sem] Oper.semAt_some
end Rc
end
section
namespace Rc
open Go.RowKit Go.Lib Pg Lim
attribute [local go_sem] Oper.semAt_some
end Rc
end
section
namespace Rc
open Go.RowKit Go.Lib Pg Lim
theorem vw {err:Int} {l:List Int} (h:gq err l=0):err=0/\l=[]:=by
 unfold gq at h;split at h
 ·rename_i he;split at h
  ·rename_i hl;exact⟨he,List.eq_nil_of_length_eq_zero hl⟩
  ·exact absurd h (by decide)
 ·exact absurd h (by assumption)
theorem ones (ks:List (Nat × Nat)) (l:List Int) (ho:bC l) (hnd:(ks.map Prod.snd).Nodup) (h:gq (thr rnx ks (0,l,fun _=>0)).1 (thr rnx ks (0,l,fun _=>0)).2.1=0):thr (pnx (thr rnx ks (0,l,fun _=>0)).2.2) ks []=l:=by
 obtain⟨h1,h2⟩:=vw h;have:=Ce ks l (fun _=>0) ho hnd h1 [];rw[h2,List.append_nil,List.nil_append] at this;exact this
end Rc
end
section
open Go.RowKit Lim
end
section
namespace Rc
open Go.RowKit Go.Lib Pg Lim
attribute [local go_sem] Oper.semAt_some
end Rc
end
section
namespace Rc
open Go.RowKit Go.Lib Pg Lim Gl
section
variable {xs:Nat->Int}{w w':World}{e:Ending}{bb n c:Nat}{ao:Option Addr}{l:List Int}
def iO(s:RSt):Int:=if gq s.1 s.2.1=0 then 0 else 80
def gl(s:RSt):Nat->Int:=if gq s.1 s.2.1=0 then s.2.2 else fun _=>0
theorem se{s:RSt}{r:Int}(h1:gq s.1 s.2.1=0->r=0/\xs=s.2.2)(h2:gq s.1 s.2.1≠0->r=80/\xs=fun _=>0):xs=gl s/\r=iO s:=by
 unfold gl iO;by_cases h:gq s.1 s.2.1=0
 ·rw[if_pos h,if_pos h]; exact⟨(h1 h).2,(h1 h).1⟩
 ·rw[if_neg h,if_neg h]; exact⟨(h2 h).2,(h2 h).1⟩
theorem outChain{s:RSt}(h:oP w eZ 2 mkA s e w'):e=.returned (.tuple #[.agg #[.int .u64 (gl s 0),.int .u64 (gl s 1)],.int .i64 (iO s)])/\Below w.heap.size w w':=by
 obtain⟨⟨cs,xs,r,rfl,h1,h2,h3,h4⟩,B⟩:=h;obtain⟨e1,e2⟩:=se h3 h4;subst e1 e2;have q0:=(h2 0).1 rfl;have q1:=(h2 1).1 rfl
 have ecs:cs=[.int .u64 (gl s 0),.int .u64 (gl s 1)]:=by
  refine List.ext_getElem? fun i => ?_
  rcases Nat.lt_or_ge i 2 with hi | hi
  ·match i,hi with
   | 0,_=>exact q0
   | 1,_=>exact q1
   | n + 2,h=>exact absurd h (by omega)
  ·rw[List.getElem?_eq_none (by omega),List.getElem?_eq_none hi]
 subst ecs;exact⟨rfl,B⟩
def de(l:List Int):RSt:=thr rnx [(2,0),(0,1)] (0,l,fun _=>0)
theorem sM{s:RSt}(h:oP w aW 2 mkA s e w'):∃ a0 n0 c0,e=.returned (.tuple #[.agg #[.slice a0 n0 c0,.int .u64 (gl s 1)],.int .i64 (iO s)])/\(fL w' w.heap.size a0 n0 c0 (gl s 0)/\n0<=510)/\Below w.heap.size w w':=by
 obtain⟨⟨cs,xs,r,rfl,h1,h2,h3,h4⟩,B⟩:=h;obtain⟨e1,e2⟩:=se h3 h4;subst e1 e2;obtain⟨a0,n0,c0,q0,y0,z0⟩:=(h2 0).2.2 rfl;have q1:=(h2 1).1 rfl
 have ecs:cs=[.slice a0 n0 c0,.int .u64 (gl s 1)]:=by
  refine List.ext_getElem? fun i => ?_
  rcases Nat.lt_or_ge i 2 with hi | hi
  ·match i,hi with
   | 0,_=>exact q0
   | 1,_=>exact q1
   | n + 2,h=>exact absurd h (by omega)
  ·rw[List.getElem?_eq_none (by omega),List.getElem?_eq_none hi]
 subst ecs;exact⟨a0,n0,c0,rfl,⟨y0,by omega⟩,B⟩
theorem xC(A:ByA w bb ao n c l)(hn:n<=1000000000):Calls Tryz.prog 128 #[.slice ao n c] w fun e w'=>∃ a0 n0 c0,e=.returned (.tuple #[.agg #[.slice a0 n0 c0,.int .u64 (gl (de l) 1)],.int .i64 (iO (de l))])/\(fL w' w.heap.size a0 n0 c0 (gl (de l) 0)/\n0<=510)/\Below w.heap.size w w':=by
 refine(qD A hn (by obtain⟨o,h1,_⟩:=A.ex; exact h1)).mono ?_
 intro e w' h;exact sM h
def kX(l:List Int):RSt:=thr rnx [(0,0),(0,1)] (0,l,fun _=>0)
theorem outCut{s:RSt}(h:oP w cI 2 mkA s e w'):e=.returned (.tuple #[.agg #[.int .u64 (gl s 0),.int .u64 (gl s 1)],.int .i64 (iO s)])/\Below w.heap.size w w':=by
 obtain⟨⟨cs,xs,r,rfl,h1,h2,h3,h4⟩,B⟩:=h;obtain⟨e1,e2⟩:=se h3 h4;subst e1 e2;have q0:=(h2 0).1 rfl;have q1:=(h2 1).1 rfl
 have ecs:cs=[.int .u64 (gl s 0),.int .u64 (gl s 1)]:=by
  refine List.ext_getElem? fun i => ?_
  rcases Nat.lt_or_ge i 2 with hi | hi
  ·match i,hi with
   | 0,_=>exact q0
   | 1,_=>exact q1
   | n + 2,h=>exact absurd h (by omega)
  ·rw[List.getElem?_eq_none (by omega),List.getElem?_eq_none hi]
 subst ecs;exact⟨rfl,B⟩
theorem oCut(A:ByA w bb ao n c l)(hn:n<=1000000000):Calls Tryz.prog 85 #[.slice ao n c] w fun e w'=>e=.returned (.tuple #[.agg #[.int .u64 (gl (kX l) 0),.int .u64 (gl (kX l) 1)],.int .i64 (iO (kX l))])/\Below w.heap.size w w':=by
 refine(Da A hn (by obtain⟨o,h1,_⟩:=A.ex; exact h1)).mono ?_
 intro e w' h;exact outCut h
end
end Rc
end
end Go.Proofs.YthfepflplbahkaaGreatDoor
