import Derived.Test.YthfepflplbahkaaGreatDoorJam
import Derived.Test.YthfepflplbahkaaGreatDoorJaf
import Derived.Test.YthfepflplbahkaaGreatDoorJad
set_option maxRecDepth 100000
set_option maxHeartbeats 8000000
namespace Go.Proofs.YthfepflplbahkaaGreatDoor
section
open Go.RowKit Lim
section
variable {l L:List Int}{m:Nat}
theorem BP(h:bh l):be l.length (bN l)=l:=by
 refine mK (eR _ _) h (aN _ _) ?_
 have hb:=bM h;rw[pA _ hb.1,Int.emod_eq_of_lt hb.1 hb.2]
theorem ij(h:bh l)(hm:m<=l.length):be m (bN (l.take m))=l.take m:=by
 have:=BP (l:=l.take m) (fun x hx=>h x (List.mem_of_mem_take hx));rwa [List.length_take,Nat.min_eq_left hm] at this
def One(err':Int)(L L':List Int)(laid:List Int->Prop):Prop:=(err'≠0/\L'=L)\/(err'=0/\∃ k,k<=L.length/\laid (L.take k)/\L'=L.drop k)
theorem CY(h:bh L)(m:Nat):One (rdE (cO m L) 0) L (rdL (cO m L) 0 L) (fun t=>be m (rdV 0 (cO m L) 0)=t):=by
 by_cases hm:m<=L.length
 ·have e:cO m L=.inr (bN (L.take m),m):=by unfold cO; rw[if_pos hm]
  rw[e];exact .inr ⟨rfl,m,hm,ij h hm,rfl⟩
 ·have e:cO m L=.inl 40:=by unfold cO; rw[if_neg hm]
  rw[e];exact .inl ⟨by decide,rfl⟩
theorem Ae(h:bh L):One (rdE (bF L) 0) L (rdL (bF L) 0 L) (fun t=>be 1 (if rdV false (bF L) 0 then 1 else 0)=t):=by
 by_cases hm:1<=L.length
 ·by_cases hx:1 < bN (L.take 1)
  ·have e:bF L=.inl 41:=by unfold bF; rw[if_pos hm,if_pos hx]
   rw[e];exact .inl ⟨by decide,rfl⟩
  ·have e:bF L=.inr (bN (L.take 1) == 1,1):=by unfold bF; rw[if_pos hm,if_neg hx]
   rw[e];refine .inr ⟨rfl,1,hm,?_,rfl⟩;have a:=ij h hm;have c:=(bM (l:=L.take 1) (fun x hx=>h x (List.mem_of_mem_take hx))).1
   show be 1 (if (bN (L.take 1) == 1)=true then 1 else 0)=L.take 1
   generalize L.take 1=M at *;by_cases b:bN M=1
   ·rw[b] at a ⊢;exact a
   ·rw[show bN M=0 by omega] at a ⊢;exact a
 ·have e:bF L=.inl 40:=by unfold bF; rw[if_neg hm]
  rw[e];exact .inl ⟨by decide,rfl⟩
theorem qA(h:bh L):((bS m L:Nat):Int)=bN (L.take m):=by
 unfold bS;rw[Int.toNat_of_nonneg (bM (fun x hx=>h x (List.mem_of_mem_take hx))).1]
theorem BN(h:bh L)(hm:m<=L.length)(hc:m + bS m L<=L.length):fM m ((L.drop m).take (bS m L))=L.take (m + bS m L):=by
 unfold fM
 have e:(((L.drop m).take (bS m L)).length:Int)=bN (L.take m):=by
  rw[List.length_take,List.length_drop,Nat.min_eq_left (by omega)];exact qA h
 rw[e,ij h hm,List.take_add]
theorem CW(h:bh L):One (rdE (bQ L) 0) L (rdL (bQ L) 0 L) (fun t=>gG (rdV 0 (bQ L) 0) 0=0/\∀ K,iF (rdV 0 (bQ L) 0) 0 K=K ++ t):=by
 by_cases hm:1<=L.length
 ·by_cases hc:1 + bS 1 L<=L.length
  ·by_cases g:0 < bS 1 L/\nth (L.drop 1) 0=0
   ·have e:bQ L=.inl 41:=by unfold bQ; rw[if_pos hm,if_pos hc,if_pos g]
    rw[e];exact .inl ⟨by decide,rfl⟩
   ·have e:bQ L=.inr (bN ((L.drop 1).take (bS 1 L)),1 + bS 1 L):=by unfold bQ; rw[if_pos hm,if_pos hc,if_neg g]
    have d:=BN h hm hc
    have i:((bS 1 L:Nat):Int) < 256:=by
     have:=(bM (l:=L.take 1) (fun x hx=>h x (List.mem_of_mem_take hx))).2;rw[List.length_take,Nat.min_eq_left hm] at this;rw[qA h];simpa using this
    have a:bh ((L.drop 1).take (bS 1 L)):=fun x hx=>h x (List.mem_of_mem_drop (List.mem_of_mem_take hx))
    have hlen:((L.drop 1).take (bS 1 L)).length=bS 1 L:=by rw[List.length_take,List.length_drop]; omega
    have j:dV (bN ((L.drop 1).take (bS 1 L)))=(L.drop 1).take (bS 1 L):=kQ (bM a).1 ⟨a,fun f=>by
     have b:0 < bS 1 L:=by
      rcases Nat.eq_zero_or_pos (bS 1 L) with c | c
      ·exact absurd (by rw[c]; simp) f
      ·exact c
     rw[du b]
     exact fun c=>g ⟨b,c⟩,rfl⟩
    rw[e];refine .inr ⟨rfl,_,hc,?_,rfl⟩
    show gG (bN ((L.drop 1).take (bS 1 L))) 0=0/\∀ K,iF (bN ((L.drop 1).take (bS 1 L))) 0 K=K ++ L.take (1 + bS 1 L)
    unfold gG iF;rw[j,if_pos (by omega)];refine⟨rfl,fun K => ?_⟩;rw[if_pos (by omega),d];rfl
  ·have e:bQ L=.inl 40:=by unfold bQ; rw[if_pos hm,if_neg hc]
   rw[e];exact .inl ⟨by decide,rfl⟩
 ·have e:bQ L=.inl 40:=by unfold bQ; rw[if_neg hm]
  rw[e];exact .inl ⟨by decide,rfl⟩
end
end
section
namespace Rc
open Go.RowKit Go.Lib Pg Lim
section
variable {l r:List Int}{m:Nat}{x:Int}
theorem qu(m:Nat)(l:List Int):(fM m l).length=m + l.length:=by
 unfold fM;rw[List.length_append,aN]
theorem hH(h:l.length=m):(l ++ r).take m=l/\(l ++ r).drop m=r:=by
 subst h;exact⟨List.take_left,List.drop_left⟩
theorem Ah(m:Nat)(hx:0<=x)(r:List Int):cO m (be m x ++ r)=.inr (x % 256 ^ m,m)/\(be m x ++ r).drop m=r:=by
 have h:=hH (r:=r) (aN m x);refine⟨?_,h.2⟩;unfold cO;rw[if_pos (by rw[List.length_append,aN]; omega),h.1,pA m hx]
theorem CZ(hl:(l.length:Int) < 256 ^ m):bS m (fM m l ++ r)=l.length:=by
 unfold bS fM;rw[List.append_assoc,(hH (aN m _)).1,pA m (by omega),Int.emod_eq_of_lt (by omega) hl];rfl
theorem yf(m:Nat)(l r:List Int):(fM m l ++ r).drop m=l ++ r:=by
 unfold fM;rw[List.append_assoc,(hH (aN m _)).2]
theorem yH{V:Int}(g:0<=V)(h:(dV V).length < 256)(r:List Int):bQ (fM 1 (dV V) ++ r)=.inr (V,1 + (dV V).length)/\(fM 1 (dV V) ++ r).drop (1 + (dV V).length)=r:=by
 have hc:bS 1 (fM 1 (dV V) ++ r)=(dV V).length:=CZ (by simpa using (by omega:((dV V).length:Int) < 256));have c:=yf 1 (dV V) r;have b:=pV g;refine⟨?_,?_⟩
 ·unfold bQ;rw[if_pos (by rw[List.length_append,qu]; omega),hc,if_pos (by rw[List.length_append,qu]; omega),c,if_neg,(hH rfl).1,b.2.2];rintro⟨d,f⟩
  have a:dV V≠[]:=fun e=>by rw[e] at d; simp at d
  refine b.2.1 a ?_
  rw[<- f]
  cases hh:dV V with
  | nil=>exact absurd hh a
  | cons x t=>rfl
 ·rw[<- List.drop_drop,c,(hH rfl).2]
theorem vS(x:Bool)(r:List Int):bF (be 1 (if x then 1 else 0) ++ r)=.inr (x,1)/\(be 1 (if x then 1 else 0) ++ r).drop 1=r:=by
 cases x
 ·exact⟨rfl,rfl⟩
 ·exact⟨rfl,rfl⟩
theorem one1(h:bh l)(k:Nat)(he:rdE (p1 k l) 0=0):gi k (rdV 0 (p1 k l) 0) ++ rdL (p1 k l) 0 l=l/\∃ m,rdL (p1 k l) 0 l=l.drop m:=by
 match k with
 | 0 =>
  rcases CY h 8 with⟨h1,_⟩ | ⟨_,m,h2,h3,h4⟩
  ·exact absurd he h1
  ·show be 8 (rdV 0 (cO 8 l) 0) ++ rdL (cO 8 l) 0 l=l/\∃ m,rdL (cO 8 l) 0 l=l.drop m
   rw[h3,h4];exact⟨List.take_append_drop m l,m,rfl⟩
 | 1 =>
  have a:rdE (bF l) 0=0:=by rw[<- mQ]; exact he
  rcases Ae h with⟨h1,_⟩ | ⟨_,m,h2,h3,h4⟩
  ·exact absurd a h1
  ·show be 1 (rdV 0 (dN l) 0) ++ rdL (dN l) 0 l=l/\∃ m,rdL (dN l) 0 l=l.drop m
   rw[lL,me,h3,h4];exact⟨List.take_append_drop m l,m,rfl⟩
 | k + 2 =>
  rcases CW h with⟨h1,_⟩ | ⟨_,m,h2,⟨h3,h5⟩,h4⟩
  ·exact absurd he h1
  ·show fM 1 (dV (fit (rdV 0 (bQ l) 0))) ++ rdL (bQ l) 0 l=l/\∃ m,rdL (bQ l) 0 l=l.drop m
   have hf:(dV (rdV 0 (bQ l) 0)).length < 256:=by
    unfold gG at h3;split at h3
    ·assumption
    ·exact absurd h3 (by decide)
   have e:=h5 [];unfold iF wrote at e;rw[if_pos hf,if_pos rfl] at e;unfold fit;rw[if_pos hf];simp only[List.nil_append] at e;rw[e,h4];exact⟨List.take_append_drop m l,m,rfl⟩
theorem dP{σ:Type}(nx:Nat->Nat->σ->σ)(p:Nat × Nat)(ks:List (Nat × Nat))(s:σ):thr nx (p :: ks) s=thr nx ks (nx p.1 p.2 s):=rfl
theorem BC(a:List (Nat × Nat)):∀ s:RSt,s.1≠0->(thr rnx a s).1=s.1:=by
 induction a with
 | nil=>intro s _; rfl
 | cons p a ih =>
  intro s hs
  have e:(rnx p.1 p.2 s).1=s.1:=qd hs;rw[dP,ih _ (by rw[e]; exact hs),e]
theorem wW(a:List (Nat × Nat))(o:Nat):∀ s:RSt,o ∉ a.map Prod.snd->(thr rnx a s).2.2 o=s.2.2 o:=by
 induction a with
 | nil=>intro s _; rfl
 | cons p a ih =>
  intro s b;rw[List.map_cons,List.mem_cons,not_or] at b;rw[dP,ih _ b.2]
  show (if o=p.2 then _ else _)=_
  rw[if_neg b.1]
theorem qz(h:bh l)(m:Nat):bh (l.drop m):=fun x hx=>h x (List.mem_of_mem_drop hx)
theorem A9(a:List (Nat × Nat)):∀ (l:List Int) (xs:Nat->Int),bh l->(a.map Prod.snd).Nodup->(thr rnx a (0,l,xs)).1=0->∀ L,thr (pnx (thr rnx a (0,l,xs)).2.2) a L ++ (thr rnx a (0,l,xs)).2.1=L ++ l:=by
 induction a with
 | nil=>intro l xs _ _ _ L; rfl
 | cons p a ih =>
  intro l xs e b he L;rw[List.map_cons,List.nodup_cons] at b;rw[dP] at he
  have e1:rdE (p1 p.1 l) 0=0:=by
   by_cases d:rdE (p1 p.1 l) 0=0
   ·exact d
   ·exact absurd ((BC a (rnx p.1 p.2 (0,l,xs)) d).symm.trans he) d
  obtain⟨g,m,h⟩:=one1 e p.1 e1
  have es:rnx p.1 p.2 (0,l,xs)=(0,rdL (p1 p.1 l) 0 l,fun i=>if i=p.2 then rdV 0 (p1 p.1 l) 0 else xs i):=by
   show (rdE (p1 p.1 l) 0,_,_)=_
   rw[e1]
  have f:thr rnx (p :: a) (0,l,xs)=thr rnx a (0,rdL (p1 p.1 l) 0 l,fun i=>if i=p.2 then rdV 0 (p1 p.1 l) 0 else xs i):=by rw[dP,es]
  rw[es] at he;rw[f]
  have c:=ih _ _ (by rw[h]; exact qz e m) b.2 he;rw[dP,c]
  have ev:(thr rnx a (0,rdL (p1 p.1 l) 0 l,fun i=>if i=p.2 then rdV 0 (p1 p.1 l) 0 else xs i)).2.2 p.2=rdV 0 (p1 p.1 l) 0:=by
   rw[wW a p.2 _ b.1]
   show (if p.2=p.2 then _ else _)=_
   rw[if_pos rfl]
  show (L ++ gi p.1 _) ++ _=L ++ l
  rw[ev,List.append_assoc,g]
def rng:Nat->Int->Prop
 | 0,x=>0<=x/\x < 18446744073709551616
 | 1,x=>x=0\/x=1
 | _,x=>0<=x
def fitk:Nat->Int->Int
 | 0,x=>x
 | 1,x=>x
 | _,x=>fit x
theorem back1(k:Nat)(hx:rng k x)(r:List Int):∃ m,p1 k (gi k x ++ r)=.inr (fitk k x,m)/\(gi k x ++ r).drop m=r:=by
 match k,hx with
 | 0,hx =>
  obtain⟨a,b⟩:=Ah 8 hx.1 r;refine⟨8,?_,b⟩
  show cO 8 (be 8 x ++ r)=_
  rw[a,Int.emod_eq_of_lt hx.1 (by have:=hx.2; simpa using this)];rfl
 | 1,hx =>
  have key:∀ t:Bool,∃ m,dN (be 1 (if t then 1 else 0) ++ r)=.inr ((if t then 1 else 0),m)/\(be 1 (if t then 1 else 0) ++ r).drop m=r:=fun t=>by
   obtain⟨a,b⟩:=vS t r;refine⟨1,?_,b⟩;unfold dN;rw[a]
  rcases hx with rfl | rfl
  ·exact key false
  ·exact key true
 | k + 2,hx =>
  have c:0<=fit x:=by
   unfold fit;split
   ·exact hx
   ·decide
  obtain⟨a,b⟩:=yH c (iu x) r;exact⟨_,a,b⟩
theorem qB(b:Nat->Int)(a:List (Nat × Nat)):∀ (r:List Int) (xs:Nat->Int),(a.map Prod.snd).Nodup->(∀ p∈a,rng p.1 (b p.2))->∃ ys,thr rnx a (0,thr (pnx b) a [] ++ r,xs)=(0,r,ys)/\(∀ p∈a,ys p.2=fitk p.1 (b p.2))/\∀ o,o ∉ a.map Prod.snd->ys o=xs o:=by
 have hL:∀ (a:List (Nat × Nat)) (L:List Int),thr (pnx b) a L=L ++ thr (pnx b) a []:=by
  intro a
  induction a with
  | nil=>intro L; simp[thr]
  | cons p a ih =>
   intro L;rw[dP,dP,ih (pnx b p.1 p.2 L),ih (pnx b p.1 p.2 [])];simp[pnx,List.append_assoc]
 induction a with
 | nil=>exact fun r xs _ _=>⟨xs,rfl,(fun p g=>by cases g),fun _ _=>rfl⟩
 | cons p a ih =>
  intro r xs c f;rw[List.map_cons,List.nodup_cons] at c;obtain⟨m,h,j⟩:=back1 p.1 (f p List.mem_cons_self) (thr (pnx b) a [] ++ r)
  have el:thr (pnx b) (p :: a) [] ++ r=gi p.1 (b p.2) ++ (thr (pnx b) a [] ++ r):=by
   rw[dP,hL];simp[pnx,List.append_assoc]
  rw[el,dP]
  have es:rnx p.1 p.2 (0,gi p.1 (b p.2) ++ (thr (pnx b) a [] ++ r),xs)=(0,thr (pnx b) a [] ++ r,fun i=>if i=p.2 then fitk p.1 (b p.2) else xs i):=by
   show (rdE (p1 p.1 _) 0,rdL (p1 p.1 _) 0 _,fun i=>if i=p.2 then rdV 0 (p1 p.1 _) 0 else xs i)=_
   rw[h]
   show (_,List.drop m _,_)=_
   rw[j];rfl
  rw[es];obtain⟨ys,e1,e2,e3⟩:=ih r _ c.2 (fun q d=>f q (List.mem_cons_of_mem _ d));refine⟨ys,e1,fun q d => ?_,fun o e => ?_⟩
  ·rcases List.mem_cons.1 d with rfl | d
   ·rw[e3 _ c.1]
    show (if q.2=q.2 then _ else _)=_
    rw[if_pos rfl]
   ·exact e2 q d
  ·rw[List.map_cons,List.mem_cons,not_or] at e;rw[e3 o e.2]
   show (if o=p.2 then _ else _)=_
   rw[if_neg e.1]
end
end Rc
end
section
namespace Rc
open Go.RowKit Go.Lib Pg
attribute [local go_sem] Oper.semAt_some
theorem A7 (k:Nat) (x:Int):bh (gi k x):=by
 unfold gi;split
 ·exact eR _ _
 ·exact eR _ _
 ·intro y hy;rcases List.mem_append.1 hy with h | h
  ·exact eR _ _ y h
  ·exact xn _ y h
theorem vd (xs:Nat->Int) (b:List (Nat × Nat)):∀ L,bh L->bh (thr (pnx xs) b L):=by
 induction b with
 | nil=>exact fun _ h=>h
 | cons p b ih =>
  intro L h;rw[dP];refine ih _ ?_
  intro y hy;rcases List.mem_append.1 hy with a | a
  ·exact h y a
  ·exact A7 _ _ y a
end Rc
end
section
namespace Rc
open Go.RowKit Go.Lib Pg
attribute [local go_sem] Oper.semAt_some
end Rc
end
section
open Go.RowKit Lim
def stB (s:Stp):Option (List Int) :=
 if s.what=0 then some (be 1 (s.num % 256))
 else if s.what=1 then some (be 4 (s.num % 4294967296))
 else if s.what=2 then some (be 8 s.num)
 else if s.what=3 then some (be 1 (if s.num % 2 == 1 then 1 else 0))
 else if s.what=4\/s.what=5 then (if (dV s.V).length < 256 then some (fM 1 (dV s.V)) else none)
 else if s.what=6 then some (fM 4 s.bl)
 else some []
def stO (s:Stp) (o:Option (List Int)):Option (List Int):=o.bind fun L=>(stB s).map (L ++ ·)
def laid (ss:List Stp):Option (List Int):=ss.foldl (fun o s=>stO s o) (some [])
end
section
open Go.RowKit Lim
end
section
open Go.RowKit Lim
end
section
open Go.RowKit Lim
end
section
open Go.RowKit Lim
end
section
open Go.RowKit Lim
end
section
open Go.RowKit Lim
end
section
open Go.RowKit Lim
end
section
namespace Rc
open Go.RowKit Go.Lib Pg Lim
attribute [local go_sem] Oper.semAt_some
end Rc
end
section
namespace Rc
open Go.RowKit Go.Lib Pg Lim
attribute [local go_sem] Oper.semAt_some
end Rc
end
section
namespace Rc
open Go.RowKit Go.Lib Pg Lim
theorem wM {err:Int} {l:List Int} (h:fX err l=0):err=0/\l=[]:=by
 unfold fX at h;split at h
 ·rename_i he;split at h
  ·rename_i a;exact⟨he,List.eq_nil_of_length_eq_zero a⟩
  ·exact absurd h (by decide)
 ·exact absurd h (by assumption)
theorem ones (a:List (Nat × Nat)) (l:List Int) (d:bh l) (b:(a.map Prod.snd).Nodup) (h:fX (thr rnx a (0,l,fun _=>0)).1 (thr rnx a (0,l,fun _=>0)).2.1=0):thr (pnx (thr rnx a (0,l,fun _=>0)).2.2) a []=l:=by
 obtain⟨c,e⟩:=wM h;have:=A9 a l (fun _=>0) d b c [];rw[e,List.append_nil,List.nil_append] at this;exact this
end Rc
end
section
open Go.RowKit Lim
end
section
namespace Rc
open Go.RowKit Go.Lib Pg Lim
attribute [local go_sem] Oper.semAt_some
end Rc
end
section
namespace Rc
open Go.RowKit Go.Lib Pg Lim Gl
section
variable {xs:Nat->Int}{w w':World}{e:Ending}{bb n c:Nat}{ao:Option Addr}{l:List Int}
def iD(s:RSt):Int:=if fX s.1 s.2.1=0 then 0 else 80
def fS(s:RSt):Nat->Int:=if fX s.1 s.2.1=0 then s.2.2 else fun _=>0
theorem sq{s:RSt}{r:Int}(a:fX s.1 s.2.1=0->r=0/\xs=s.2.2)(b:fX s.1 s.2.1≠0->r=80/\xs=fun _=>0):xs=fS s/\r=iD s:=by
 unfold fS iD;by_cases h:fX s.1 s.2.1=0
 ·rw[if_pos h,if_pos h]; exact⟨(a h).2,(a h).1⟩
 ·rw[if_neg h,if_neg h]; exact⟨(b h).2,(b h).1⟩
theorem outChain{s:RSt}(h:qq w eJ 2 mkA s e w'):e=.returned (.tuple #[.agg #[.int .u64 (fS s 0),.int .u64 (fS s 1)],.int .i64 (iD s)])/\Below w.heap.size w w':=by
 obtain⟨⟨cs,xs,r,rfl,f,b,d,c⟩,B⟩:=h;obtain⟨e1,e2⟩:=sq d c;subst e1 e2;have q0:=(b 0).1 rfl;have q1:=(b 1).1 rfl
 have a:cs=[.int .u64 (fS s 0),.int .u64 (fS s 1)]:=by
  refine List.ext_getElem? fun i => ?_
  rcases Nat.lt_or_ge i 2 with hi | hi
  ·match i,hi with
   | 0,_=>exact q0
   | 1,_=>exact q1
   | n + 2,h=>exact absurd h (by omega)
  ·rw[List.getElem?_eq_none (by omega),List.getElem?_eq_none hi]
 subst a;exact⟨rfl,B⟩
def cQ(l:List Int):RSt:=thr rnx [(2,0),(0,1)] (0,l,fun _=>0)
theorem sV{s:RSt}(h:qq w aQ 2 mkA s e w'):∃ a0 n0 c0,e=.returned (.tuple #[.agg #[.slice a0 n0 c0,.int .u64 (fS s 1)],.int .i64 (iD s)])/\(fK w' w.heap.size a0 n0 c0 (fS s 0)/\n0<=510)/\Below w.heap.size w w':=by
 obtain⟨⟨cs,xs,r,rfl,f,b,d,c⟩,B⟩:=h;obtain⟨e1,e2⟩:=sq d c;subst e1 e2;obtain⟨a0,n0,c0,q0,y0,z0⟩:=(b 0).2.2 rfl;have q1:=(b 1).1 rfl
 have a:cs=[.slice a0 n0 c0,.int .u64 (fS s 1)]:=by
  refine List.ext_getElem? fun i => ?_
  rcases Nat.lt_or_ge i 2 with hi | hi
  ·match i,hi with
   | 0,_=>exact q0
   | 1,_=>exact q1
   | n + 2,h=>exact absurd h (by omega)
  ·rw[List.getElem?_eq_none (by omega),List.getElem?_eq_none hi]
 subst a;exact⟨a0,n0,c0,rfl,⟨y0,by omega⟩,B⟩
theorem AP(A:ByA w bb ao n c l)(hn:n<=1000000000):Calls Tryz.prog 128 #[.slice ao n c] w fun e w'=>∃ a0 n0 c0,e=.returned (.tuple #[.agg #[.slice a0 n0 c0,.int .u64 (fS (cQ l) 1)],.int .i64 (iD (cQ l))])/\(fK w' w.heap.size a0 n0 c0 (fS (cQ l) 0)/\n0<=510)/\Below w.heap.size w w':=by
 refine(q8 A hn (by obtain⟨o,a,_⟩:=A.ex; exact a)).mono ?_
 intro e w' h;exact sV h
def kP(l:List Int):RSt:=thr rnx [(0,0),(0,1)] (0,l,fun _=>0)
theorem outCut{s:RSt}(h:qq w cy 2 mkA s e w'):e=.returned (.tuple #[.agg #[.int .u64 (fS s 0),.int .u64 (fS s 1)],.int .i64 (iD s)])/\Below w.heap.size w w':=by
 obtain⟨⟨cs,xs,r,rfl,f,b,d,c⟩,B⟩:=h;obtain⟨e1,e2⟩:=sq d c;subst e1 e2;have q0:=(b 0).1 rfl;have q1:=(b 1).1 rfl
 have a:cs=[.int .u64 (fS s 0),.int .u64 (fS s 1)]:=by
  refine List.ext_getElem? fun i => ?_
  rcases Nat.lt_or_ge i 2 with hi | hi
  ·match i,hi with
   | 0,_=>exact q0
   | 1,_=>exact q1
   | n + 2,h=>exact absurd h (by omega)
  ·rw[List.getElem?_eq_none (by omega),List.getElem?_eq_none hi]
 subst a;exact⟨rfl,B⟩
theorem oCut(A:ByA w bb ao n c l)(hn:n<=1000000000):Calls Tryz.prog 85 #[.slice ao n c] w fun e w'=>e=.returned (.tuple #[.agg #[.int .u64 (fS (kP l) 0),.int .u64 (fS (kP l) 1)],.int .i64 (iD (kP l))])/\Below w.heap.size w w':=by
 refine(CU A hn (by obtain⟨o,a,_⟩:=A.ex; exact a)).mono ?_
 intro e w' h;exact outCut h
end
end Rc
end
end Go.Proofs.YthfepflplbahkaaGreatDoor
