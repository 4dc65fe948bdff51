/- Several texts, joined: EncI, RcJ, RcK, RcL, EncJ, EncK, RefB2, EncL, EncP, EncQ, EncR, EncS, RcO, RcM, RcN, EncM, RcT, RcRd. -/
import Derived.Test.YthfepflplbahkaaGreatDoorJam
import Derived.Test.YthfepflplbahkaaGreatDoorJaf
import Derived.Test.YthfepflplbahkaaGreatDoorJad
set_option maxRecDepth 100000
set_option maxHeartbeats 8000000
namespace Go.Proofs.YthfepflplbahkaaGreatDoor
section
open Go.RowKit Lim
section
variable {l L:List Int}{m:Nat}
theorem Bd(h:a7 l):be l.length (bO l)=l:=by
 refine mK (eQ _ _) h (aN _ _) ?_
 have hb:=bL h;rw[oN _ hb.1,Int.emod_eq_of_lt hb.1 hb.2]
theorem ij(h:a7 l)(hm:m<=l.length):be m (bO (l.take m))=l.take m:=by
 have:=Bd (l:=l.take m) (fun x hx=>h x (List.mem_of_mem_take hx));rwa [List.length_take,Nat.min_eq_left hm] at this
def One(err':Int)(L L':List Int)(laid:List Int->Prop):Prop:=(err'≠0/\L'=L)\/(err'=0/\∃ k,k<=L.length/\laid (L.take k)/\L'=L.drop k)
theorem Cv(h:a7 L)(m:Nat):One (rdE (cN m L) 0) L (rdL (cN m L) 0 L) (fun t=>be m (rdV 0 (cN m L) 0)=t):=by
 by_cases hm:m<=L.length
 ·have e:cN m L=.inr (bO (L.take m),m):=by unfold cN; rw[if_pos hm]
  rw[e];exact .inr ⟨rfl,m,hm,ij h hm,rfl⟩
 ·have e:cN m L=.inl 40:=by unfold cN; rw[if_neg hm]
  rw[e];exact .inl ⟨by decide,rfl⟩
theorem yz(h:a7 L):One (rdE (bC L) 0) L (rdL (bC L) 0 L) (fun t=>be 1 (if rdV false (bC L) 0 then 1 else 0)=t):=by
 by_cases hm:1<=L.length
 ·by_cases hx:1 < bO (L.take 1)
  ·have e:bC L=.inl 41:=by unfold bC; rw[if_pos hm,if_pos hx]
   rw[e];exact .inl ⟨by decide,rfl⟩
  ·have e:bC L=.inr (bO (L.take 1) == 1,1):=by unfold bC; rw[if_pos hm,if_neg hx]
   rw[e];refine .inr ⟨rfl,1,hm,?_,rfl⟩;have a:=ij h hm;have c:=(bL (l:=L.take 1) (fun x hx=>h x (List.mem_of_mem_take hx))).1
   show be 1 (if (bO (L.take 1) == 1)=true then 1 else 0)=L.take 1
   generalize L.take 1=M at *;by_cases b:bO M=1
   ·rw[b] at a ⊢;exact a
   ·rw[show bO M=0 by omega] at a ⊢;exact a
 ·have e:bC L=.inl 40:=by unfold bC; rw[if_neg hm]
  rw[e];exact .inl ⟨by decide,rfl⟩
theorem qy(h:a7 L):((bR m L:Nat):Int)=bO (L.take m):=by
 unfold bR;rw[Int.toNat_of_nonneg (bL (fun x hx=>h x (List.mem_of_mem_take hx))).1]
theorem Ds(h:a7 L)(hm:m<=L.length)(hc:m + bR m L<=L.length):fL m ((L.drop m).take (bR m L))=L.take (m + bR m L):=by
 unfold fL
 have e:(((L.drop m).take (bR m L)).length:Int)=bO (L.take m):=by
  rw[List.length_take,List.length_drop,Nat.min_eq_left (by omega)];exact qy h
 rw[e,ij h hm,List.take_add]
theorem BN(h:a7 L):One (rdE (bP L) 0) L (rdL (bP L) 0 L) (fun t=>gF (rdV 0 (bP L) 0) 0=0/\∀ K,iG (rdV 0 (bP L) 0) 0 K=K ++ t):=by
 by_cases hm:1<=L.length
 ·by_cases hc:1 + bR 1 L<=L.length
  ·by_cases d:0 < bR 1 L/\nth (L.drop 1) 0=0
   ·have e:bP L=.inl 41:=by unfold bP; rw[if_pos hm,if_pos hc,if_pos d]
    rw[e];exact .inl ⟨by decide,rfl⟩
   ·have e:bP L=.inr (bO ((L.drop 1).take (bR 1 L)),1 + bR 1 L):=by unfold bP; rw[if_pos hm,if_pos hc,if_neg d]
    have f:=Ds h hm hc
    have i:((bR 1 L:Nat):Int) < 256:=by
     have:=(bL (l:=L.take 1) (fun x hx=>h x (List.mem_of_mem_take hx))).2;rw[List.length_take,Nat.min_eq_left hm] at this;rw[qy h];simpa using this
    have a:a7 ((L.drop 1).take (bR 1 L)):=fun x hx=>h x (List.mem_of_mem_drop (List.mem_of_mem_take hx))
    have hlen:((L.drop 1).take (bR 1 L)).length=bR 1 L:=by rw[List.length_take,List.length_drop]; omega
    have j:dS (bO ((L.drop 1).take (bR 1 L)))=(L.drop 1).take (bR 1 L):=kR (bL a).1 ⟨a,fun g=>by
     have b:0 < bR 1 L:=by
      rcases Nat.eq_zero_or_pos (bR 1 L) with c | c
      ·exact absurd (by rw[c]; simp) g
      ·exact c
     rw[dr b];exact fun c=>d ⟨b,c⟩,rfl⟩
    rw[e];refine .inr ⟨rfl,_,hc,?_,rfl⟩
    show gF (bO ((L.drop 1).take (bR 1 L))) 0=0/\∀ K,iG (bO ((L.drop 1).take (bR 1 L))) 0 K=K ++ L.take (1 + bR 1 L)
    unfold gF iG;rw[j,if_pos (by omega)];refine⟨rfl,fun K => ?_⟩;rw[if_pos (by omega),f];rfl
  ·have e:bP L=.inl 40:=by unfold bP; rw[if_pos hm,if_neg hc]
   rw[e];exact .inl ⟨by decide,rfl⟩
 ·have e:bP L=.inl 40:=by unfold bP; rw[if_neg hm]
  rw[e];exact .inl ⟨by decide,rfl⟩
end
end
section
namespace Rc
open Go.RowKit Go.Lib Pg Lim
section
variable {l r:List Int}{m:Nat}{x:Int}
theorem qI(m:Nat)(l:List Int):(fL m l).length=m + l.length:=by
 unfold fL;rw[List.length_append,aN]
theorem gM(h:l.length=m):(l ++ r).take m=l/\(l ++ r).drop m=r:=by
 subst h;exact⟨List.take_left,List.drop_left⟩
theorem xT(m:Nat)(hx:0<=x)(r:List Int):cN m (be m x ++ r)=.inr (x % 256 ^ m,m)/\(be m x ++ r).drop m=r:=by
 have h:=gM (r:=r) (aN m x);refine⟨?_,h.2⟩;unfold cN;rw[if_pos (by rw[List.length_append,aN]; omega),h.1,oN m hx]
theorem CP(hl:(l.length:Int) < 256 ^ m):bR m (fL m l ++ r)=l.length:=by
 unfold bR fL;rw[List.append_assoc,(gM (aN m _)).1,oN m (by omega),Int.emod_eq_of_lt (by omega) hl];rfl
theorem yo(m:Nat)(l r:List Int):(fL m l ++ r).drop m=l ++ r:=by
 unfold fL;rw[List.append_assoc,(gM (aN m _)).2]
theorem AG{V:Int}(g:0<=V)(h:(dS V).length < 256)(r:List Int):bP (fL 1 (dS V) ++ r)=.inr (V,1 + (dS V).length)/\(fL 1 (dS V) ++ r).drop (1 + (dS V).length)=r:=by
 have hc:bR 1 (fL 1 (dS V) ++ r)=(dS V).length:=CP (by simpa using (by omega:((dS V).length:Int) < 256));have b:=yo 1 (dS V) r;have c:=qd g;refine⟨?_,?_⟩
 ·unfold bP;rw[if_pos (by rw[List.length_append,qI]; omega),hc,if_pos (by rw[List.length_append,qI]; omega),b,if_neg,(gM rfl).1,c.2.2];rintro⟨d,f⟩
  have a:dS V≠[]:=fun e=>by rw[e] at d; simp at d
  refine c.2.1 a ?_
  rw[<- f]
  cases hh:dS V with
  | nil=>exact absurd hh a
  | cons x t=>rfl
 ·rw[<- List.drop_drop,b,(gM rfl).2]
theorem wO(x:Bool)(r:List Int):bC (be 1 (if x then 1 else 0) ++ r)=.inr (x,1)/\(be 1 (if x then 1 else 0) ++ r).drop 1=r:=by
 cases x
 ·exact⟨rfl,rfl⟩
 ·exact⟨rfl,rfl⟩
theorem one1(h:a7 l)(k:Nat)(he:rdE (p1 k l) 0=0):gj k (rdV 0 (p1 k l) 0) ++ rdL (p1 k l) 0 l=l/\∃ m,rdL (p1 k l) 0 l=l.drop m:=by
 match k with
 | 0 =>
  rcases Cv h 8 with⟨h1,_⟩ | ⟨_,m,h2,h3,h4⟩
  ·exact absurd he h1
  ·show be 8 (rdV 0 (cN 8 l) 0) ++ rdL (cN 8 l) 0 l=l/\∃ m,rdL (cN 8 l) 0 l=l.drop m
   rw[h3,h4];exact⟨List.take_append_drop m l,m,rfl⟩
 | 1 =>
  have a:rdE (bC l) 0=0:=by rw[<- mr]; exact he
  rcases yz h with⟨h1,_⟩ | ⟨_,m,h2,h3,h4⟩
  ·exact absurd a h1
  ·show be 1 (rdV 0 (dN l) 0) ++ rdL (dN l) 0 l=l/\∃ m,rdL (dN l) 0 l=l.drop m
   rw[mY,mX,h3,h4];exact⟨List.take_append_drop m l,m,rfl⟩
 | k + 2 =>
  rcases BN h with⟨h1,_⟩ | ⟨_,m,h2,⟨h3,h5⟩,h4⟩
  ·exact absurd he h1
  ·show fL 1 (dS (fit (rdV 0 (bP l) 0))) ++ rdL (bP l) 0 l=l/\∃ m,rdL (bP l) 0 l=l.drop m
   have hf:(dS (rdV 0 (bP l) 0)).length < 256:=by
    unfold gF at h3;split at h3
    ·assumption
    ·exact absurd h3 (by decide)
   have e:=h5 [];unfold iG wrote at e;rw[if_pos hf,if_pos rfl] at e;unfold fit;rw[if_pos hf];simp only[List.nil_append] at e;rw[e,h4];exact⟨List.take_append_drop m l,m,rfl⟩
theorem dV{σ:Type}(nx:Nat->Nat->σ->σ)(p:Nat × Nat)(ks:List (Nat × Nat))(s:σ):thr nx (p :: ks) s=thr nx ks (nx p.1 p.2 s):=rfl
theorem BR(a:List (Nat × Nat)):∀ s:RSt,s.1≠0->(thr rnx a s).1=s.1:=by
 induction a with
 | nil=>intro s _; rfl
 | cons p a ih =>
  intro s hs
  have e:(rnx p.1 p.2 s).1=s.1:=oW hs;rw[dV,ih _ (by rw[e]; exact hs),e]
theorem wA(a:List (Nat × Nat))(o:Nat):∀ s:RSt,o ∉ a.map Prod.snd->(thr rnx a s).2.2 o=s.2.2 o:=by
 induction a with
 | nil=>intro s _; rfl
 | cons p a ih =>
  intro s b;rw[List.map_cons,List.mem_cons,not_or] at b;rw[dV,ih _ b.2]
  show (if o=p.2 then _ else _)=_
  rw[if_neg b.1]
theorem qz(h:a7 l)(m:Nat):a7 (l.drop m):=fun x hx=>h x (List.mem_of_mem_drop hx)
theorem A7(h:List (Nat × Nat)):∀ (l:List Int) (xs:Nat->Int),a7 l->(h.map Prod.snd).Nodup->(thr rnx h (0,l,xs)).1=0->∀ L,thr (pnx (thr rnx h (0,l,xs)).2.2) h L ++ (thr rnx h (0,l,xs)).2.1=L ++ l:=by
 induction h with
 | nil=>intro l xs _ _ _ L; rfl
 | cons p h ih =>
  intro l xs d a he L;rw[List.map_cons,List.nodup_cons] at a;rw[dV] at he
  have e1:rdE (p1 p.1 l) 0=0:=by
   by_cases b:rdE (p1 p.1 l) 0=0
   ·exact b
   ·exact absurd ((BR h (rnx p.1 p.2 (0,l,xs)) b).symm.trans he) b
  obtain⟨e,m,f⟩:=one1 d p.1 e1
  have es:rnx p.1 p.2 (0,l,xs)=(0,rdL (p1 p.1 l) 0 l,fun i=>if i=p.2 then rdV 0 (p1 p.1 l) 0 else xs i):=by
   show (rdE (p1 p.1 l) 0,_,_)=_
   rw[e1]
  have g:thr rnx (p :: h) (0,l,xs)=thr rnx h (0,rdL (p1 p.1 l) 0 l,fun i=>if i=p.2 then rdV 0 (p1 p.1 l) 0 else xs i):=by rw[dV,es]
  rw[es] at he;rw[g]
  have c:=ih _ _ (by rw[f]; exact qz d m) a.2 he;rw[dV,c]
  have ev:(thr rnx h (0,rdL (p1 p.1 l) 0 l,fun i=>if i=p.2 then rdV 0 (p1 p.1 l) 0 else xs i)).2.2 p.2=rdV 0 (p1 p.1 l) 0:=by
   rw[wA h p.2 _ a.1]
   show (if p.2=p.2 then _ else _)=_
   rw[if_pos rfl]
  show (L ++ gj p.1 _) ++ _=L ++ l
  rw[ev,List.append_assoc,e]
def rng:Nat->Int->Prop
 | 0,x=>0<=x/\x < 18446744073709551616
 | 1,x=>x=0\/x=1
 | _,x=>0<=x
def fitk:Nat->Int->Int
 | 0,x=>x
 | 1,x=>x
 | _,x=>fit x
theorem back1(k:Nat)(hx:rng k x)(r:List Int):∃ m,p1 k (gj k x ++ r)=.inr (fitk k x,m)/\(gj k x ++ r).drop m=r:=by
 match k,hx with
 | 0,hx =>
  obtain⟨a,b⟩:=xT 8 hx.1 r;refine⟨8,?_,b⟩
  show cN 8 (be 8 x ++ r)=_
  rw[a,Int.emod_eq_of_lt hx.1 (by have:=hx.2; simpa using this)];rfl
 | 1,hx =>
  have key:∀ t:Bool,∃ m,dN (be 1 (if t then 1 else 0) ++ r)=.inr ((if t then 1 else 0),m)/\(be 1 (if t then 1 else 0) ++ r).drop m=r:=fun t=>by
   obtain⟨a,b⟩:=wO t r;refine⟨1,?_,b⟩;unfold dN;rw[a]
  rcases hx with rfl | rfl
  ·exact key false
  ·exact key true
 | k + 2,hx =>
  have c:0<=fit x:=by
   unfold fit;split
   ·exact hx
   ·decide
  obtain⟨a,b⟩:=AG c (iz x) r;exact⟨_,a,b⟩
theorem qA(j:Nat->Int)(h:List (Nat × Nat)):∀ (r:List Int) (xs:Nat->Int),(h.map Prod.snd).Nodup->(∀ p∈h,rng p.1 (j p.2))->∃ ys,thr rnx h (0,thr (pnx j) h [] ++ r,xs)=(0,r,ys)/\(∀ p∈h,ys p.2=fitk p.1 (j p.2))/\∀ o,o ∉ h.map Prod.snd->ys o=xs o:=by
 have hL:∀ (h:List (Nat × Nat)) (L:List Int),thr (pnx j) h L=L ++ thr (pnx j) h []:=by
  intro h
  induction h with
  | nil=>intro L; simp[thr]
  | cons p h ih =>
   intro L;rw[dV,dV,ih (pnx j p.1 p.2 L),ih (pnx j p.1 p.2 [])];simp[pnx,List.append_assoc]
 induction h with
 | nil=>exact fun r xs _ _=>⟨xs,rfl,(fun p e=>by cases e),fun _ _=>rfl⟩
 | cons p h ih =>
  intro r xs a d;rw[List.map_cons,List.nodup_cons] at a;obtain⟨m,f,g⟩:=back1 p.1 (d p List.mem_cons_self) (thr (pnx j) h [] ++ r)
  have el:thr (pnx j) (p :: h) [] ++ r=gj p.1 (j p.2) ++ (thr (pnx j) h [] ++ r):=by
   rw[dV,hL];simp[pnx,List.append_assoc]
  rw[el,dV]
  have es:rnx p.1 p.2 (0,gj p.1 (j p.2) ++ (thr (pnx j) h [] ++ r),xs)=(0,thr (pnx j) h [] ++ r,fun i=>if i=p.2 then fitk p.1 (j p.2) else xs i):=by
   show (rdE (p1 p.1 _) 0,rdL (p1 p.1 _) 0 _,fun i=>if i=p.2 then rdV 0 (p1 p.1 _) 0 else xs i)=_
   rw[f]
   show (_,List.drop m _,_)=_
   rw[g];rfl
  rw[es];obtain⟨ys,e1,e2,e3⟩:=ih r _ a.2 (fun q b=>d q (List.mem_cons_of_mem _ b));refine⟨ys,e1,fun q b => ?_,fun o c => ?_⟩
  ·rcases List.mem_cons.1 b with rfl | b
   ·rw[e3 _ a.1]
    show (if q.2=q.2 then _ else _)=_
    rw[if_pos rfl]
   ·exact e2 q b
  ·rw[List.map_cons,List.mem_cons,not_or] at c;rw[e3 o c.2]
   show (if o=p.2 then _ else _)=_
   rw[if_neg c.1]
end
end Rc
end
section
namespace Rc
open Go.RowKit Go.Lib Pg
attribute [local go_sem] Oper.semAt_some
theorem AU (k:Nat) (x:Int):a7 (gj k x):=by
 unfold gj;split
 ·exact eQ _ _
 ·exact eQ _ _
 ·intro y hy;rcases List.mem_append.1 hy with h | h
  ·exact eQ _ _ y h
  ·exact xG _ y h
theorem vD (xs:Nat->Int) (b:List (Nat × Nat)):∀ L,a7 L->a7 (thr (pnx xs) b L):=by
 induction b with
 | nil=>exact fun _ h=>h
 | cons p b ih =>
  intro L h;rw[dV];refine ih _ ?_
  intro y hy;rcases List.mem_append.1 hy with a | a
  ·exact h y a
  ·exact AU _ _ y a
end Rc
end
section
namespace Rc
open Go.RowKit Go.Lib Pg
attribute [local go_sem] Oper.semAt_some
end Rc
end
section
open Go.RowKit Lim
def stB (s:Stp):Option (List Int) :=
 if s.what=0 then some (be 1 (s.num % 256))
 else if s.what=1 then some (be 4 (s.num % 4294967296))
 else if s.what=2 then some (be 8 s.num)
 else if s.what=3 then some (be 1 (if s.num % 2 == 1 then 1 else 0))
 else if s.what=4\/s.what=5 then (if (dS s.V).length < 256 then some (fL 1 (dS s.V)) else none)
 else if s.what=6 then some (fL 4 s.bl)
 else some []
def stO (s:Stp) (o:Option (List Int)):Option (List Int):=o.bind fun L=>(stB s).map (L ++ ·)
def laid (ss:List Stp):Option (List Int):=ss.foldl (fun o s=>stO s o) (some [])
end
section
open Go.RowKit Lim
end
section
open Go.RowKit Lim
end
section
open Go.RowKit Lim
end
section
open Go.RowKit Lim
end
section
open Go.RowKit Lim
end
section
open Go.RowKit Lim
end
section
open Go.RowKit Lim
end
section
namespace Rc
open Go.RowKit Go.Lib Pg Lim
attribute [local go_sem] Oper.semAt_some
end Rc
end
section
namespace Rc
open Go.RowKit Go.Lib Pg Lim
attribute [local go_sem] Oper.semAt_some
end Rc
end
section
namespace Rc
open Go.RowKit Go.Lib Pg Lim
theorem vW {err:Int} {l:List Int} (h:fT err l=0):err=0/\l=[]:=by
 unfold fT at h;split at h
 ·rename_i he;split at h
  ·rename_i a;exact⟨he,List.eq_nil_of_length_eq_zero a⟩
  ·exact absurd h (by decide)
 ·exact absurd h (by assumption)
theorem ones (a:List (Nat × Nat)) (l:List Int) (d:a7 l) (b:(a.map Prod.snd).Nodup) (h:fT (thr rnx a (0,l,fun _=>0)).1 (thr rnx a (0,l,fun _=>0)).2.1=0):thr (pnx (thr rnx a (0,l,fun _=>0)).2.2) a []=l:=by
 obtain⟨c,e⟩:=vW h;have:=A7 a l (fun _=>0) d b c [];rw[e,List.append_nil,List.nil_append] at this;exact this
end Rc
end
section
open Go.RowKit Lim
end
section
namespace Rc
open Go.RowKit Go.Lib Pg Lim
attribute [local go_sem] Oper.semAt_some
end Rc
end
section
namespace Rc
open Go.RowKit Go.Lib Pg Lim Gl
section
variable {xs:Nat->Int}{w w':World}{e:Ending}{bb n c:Nat}{ao:Option Addr}{l:List Int}
def iE(s:RSt):Int:=if fT s.1 s.2.1=0 then 0 else 80
def ga(s:RSt):Nat->Int:=if fT s.1 s.2.1=0 then s.2.2 else fun _=>0
theorem sK{s:RSt}{r:Int}(a:fT s.1 s.2.1=0->r=0/\xs=s.2.2)(b:fT s.1 s.2.1≠0->r=80/\xs=fun _=>0):xs=ga s/\r=iE s:=by
 unfold ga iE;by_cases h:fT s.1 s.2.1=0
 ·rw[if_pos h,if_pos h]; exact⟨(a h).2,(a h).1⟩
 ·rw[if_neg h,if_neg h]; exact⟨(b h).2,(b h).1⟩
theorem outChain{s:RSt}(h:oU w eM 2 mkA s e w'):e=.returned (.tuple #[.agg #[.int .u64 (ga s 0),.int .u64 (ga s 1)],.int .i64 (iE s)])/\Below w.heap.size w w':=by
 obtain⟨⟨cs,xs,r,rfl,f,b,c,d⟩,B⟩:=h;obtain⟨e1,e2⟩:=sK c d;subst e1 e2;have q0:=(b 0).1 rfl;have q1:=(b 1).1 rfl
 have a:cs=[.int .u64 (ga s 0),.int .u64 (ga s 1)]:=by
  refine List.ext_getElem? fun i => ?_
  rcases Nat.lt_or_ge i 2 with hi | hi
  ·match i,hi with
   | 0,_=>exact q0
   | 1,_=>exact q1
   | n + 2,h=>exact absurd h (by omega)
  ·rw[List.getElem?_eq_none (by omega),List.getElem?_eq_none hi]
 subst a;exact⟨rfl,B⟩
def cQ(l:List Int):RSt:=thr rnx [(2,0),(0,1)] (0,l,fun _=>0)
theorem sJ{s:RSt}(h:oU w aU 2 mkA s e w'):∃ a0 n0 c0,e=.returned (.tuple #[.agg #[.slice a0 n0 c0,.int .u64 (ga s 1)],.int .i64 (iE s)])/\(fy w' w.heap.size a0 n0 c0 (ga s 0)/\n0<=510)/\Below w.heap.size w w':=by
 obtain⟨⟨cs,xs,r,rfl,f,b,c,d⟩,B⟩:=h;obtain⟨e1,e2⟩:=sK c d;subst e1 e2;obtain⟨a0,n0,c0,q0,y0,z0⟩:=(b 0).2.2 rfl;have q1:=(b 1).1 rfl
 have a:cs=[.slice a0 n0 c0,.int .u64 (ga s 1)]:=by
  refine List.ext_getElem? fun i => ?_
  rcases Nat.lt_or_ge i 2 with hi | hi
  ·match i,hi with
   | 0,_=>exact q0
   | 1,_=>exact q1
   | n + 2,h=>exact absurd h (by omega)
  ·rw[List.getElem?_eq_none (by omega),List.getElem?_eq_none hi]
 subst a;exact⟨a0,n0,c0,rfl,⟨y0,by omega⟩,B⟩
theorem xw(A:ByA w bb ao n c l)(hn:n<=1000000000):Calls Tryz.prog 128 #[.slice ao n c] w fun e w'=>∃ a0 n0 c0,e=.returned (.tuple #[.agg #[.slice a0 n0 c0,.int .u64 (ga (cQ l) 1)],.int .i64 (iE (cQ l))])/\(fy w' w.heap.size a0 n0 c0 (ga (cQ l) 0)/\n0<=510)/\Below w.heap.size w w':=by
 refine(qF A hn (by obtain⟨o,a,_⟩:=A.ex; exact a)).mono ?_
 intro e w' h;exact sJ h
def kL(l:List Int):RSt:=thr rnx [(0,0),(0,1)] (0,l,fun _=>0)
theorem outCut{s:RSt}(h:oU w cn 2 mkA s e w'):e=.returned (.tuple #[.agg #[.int .u64 (ga s 0),.int .u64 (ga s 1)],.int .i64 (iE s)])/\Below w.heap.size w w':=by
 obtain⟨⟨cs,xs,r,rfl,f,b,c,d⟩,B⟩:=h;obtain⟨e1,e2⟩:=sK c d;subst e1 e2;have q0:=(b 0).1 rfl;have q1:=(b 1).1 rfl
 have a:cs=[.int .u64 (ga s 0),.int .u64 (ga s 1)]:=by
  refine List.ext_getElem? fun i => ?_
  rcases Nat.lt_or_ge i 2 with hi | hi
  ·match i,hi with
   | 0,_=>exact q0
   | 1,_=>exact q1
   | n + 2,h=>exact absurd h (by omega)
  ·rw[List.getElem?_eq_none (by omega),List.getElem?_eq_none hi]
 subst a;exact⟨rfl,B⟩
theorem oCut(A:ByA w bb ao n c l)(hn:n<=1000000000):Calls Tryz.prog 85 #[.slice ao n c] w fun e w'=>e=.returned (.tuple #[.agg #[.int .u64 (ga (kL l) 0),.int .u64 (ga (kL l) 1)],.int .i64 (iE (kL l))])/\Below w.heap.size w w':=by
 refine(Cx A hn (by obtain⟨o,a,_⟩:=A.ex; exact a)).mono ?_
 intro e w' h;exact outCut h
end
end Rc
end
end Go.Proofs.YthfepflplbahkaaGreatDoor
