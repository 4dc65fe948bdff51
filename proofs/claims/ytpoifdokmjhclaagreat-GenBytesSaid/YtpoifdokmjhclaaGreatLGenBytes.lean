/- gleanlaw21.GenBytes. -/
import Derived.Test.YtpoifdokmjhclaaGreatJyM
set_option maxRecDepth 100000
set_option maxHeartbeats 8000000
namespace Go.Proofs.YtpoifdokmjhclaaGreat
namespace Gn
open Go.RowKit Go.Lib Pg Lim Gl Mg
attribute [local go_sem] Oper.semAt_some
set_option linter.unusedVariables false
set_option linter.unusedSimpArgs false
section
variable {w:World}{b n c na nv c1 c2 b1 o1 b2 o2:Nat}{ao a1 a2:Option Addr}{l A V:List Int}{p0 p1 p2 p3 p4 p5 p6 p7 p8 p9:Int}{args:Array Value}
theorem dec21(A:ByA w b ao n c l)(hn:n<=1000000000):CP 8 #[.slice ao n c] w λe w'=>∃ p0 p1 p2 p3 p4 p5 p6 p7 p8 p9 a1 m1 g1 a2 m2 g2 A V,e=.returned (.tuple #[.agg #[.int .u64 p0,.int .u64 p1,.int .u64 p2,.int .u64 p3,.int .u64 p4,.int .u64 p5,.int .u64 p6,.int .u64 p7,.int .u64 p8,.int .u64 p9,.slice a1 m1 m1,.slice a2 m2 m2],.int .i64 (eD l)])/\(⟨[p0,p1,p2,p3,p4,p5,p6,p7,p8,p9],A,V⟩:Ge)=(if eD l=0 then gD l else zG)/\Nl w' a1 m1 2 g1 0 A/\Nl w' a2 m2 3 g2 0 V/\m1<=256/\m2<=64/\BW w w':=by
 have k:aJ l:=by_o A;refine(jC A hn).mono ?_
 rintro e w' ⟨v,rfl,G,j⟩;obtain⟨p0,p1,p2,p3,p4,p5,p6,p7,p8,p9,a1,m1,g1,a2,m2,g2,rfl,g,d,f⟩:=G.ex;by_cases i:eD l=0
 ·rw[if_pos i] at g d f ⊢;obtain⟨na,o,p,m,ok,hb,-,-⟩:=GW k i;have e1:=d.len;have e2:=f.len;have e3:=ok.a;have e4:=ok.v;exact⟨p0,p1,p2,p3,p4,p5,p6,p7,p8,p9,a1,m1,g1,a2,m2,g2,(gD l).a,(gD l).v,rfl,by rw[<- g],d.nl ok.ra,f.nl ok.rv,by omega,by omega,j⟩
 rw[if_neg i] at g d f ⊢;have e1:=d.len;have e2:=f.len;simp only[zG,List.length_nil] at e1 e2;exact⟨p0,p1,p2,p3,p4,p5,p6,p7,p8,p9,a1,m1,g1,a2,m2,g2,[],[],rfl,by rw[<- g];rfl,d.nl (λ_ h=>absurd h List.not_mem_nil),f.nl (λ_ h=>absurd h List.not_mem_nil),by omega,by omega,j⟩
theorem Eg{m1 a:Nat}(H:ByA w b ao n c l)(hn:n<=1000000000)(hX:(⟨[p0,p1,p2,p3,p4,p5,p6,p7,p8,p9],A,V⟩:Ge)=(if eD l=0 then gD l else zG))(hA:A.length=m1 * 2)(v:V.length=a * 3):CP 9 #[.slice ao n c] w λe w'=>∃ a3 c3 g3 a4 c4 g4,e=.returned (.tuple #[.agg #[.int .u64 p0,.int .u64 p1,.int .u64 p2,.int .u64 p3,.int .u64 p4,.int .u64 p5,.int .u64 p6,.int .u64 p7,.int .u64 p8,.int .u64 p9,.slice a3 m1 c3,.slice a4 a c4],.int .i64 (eD l)])/\Nl w' a3 m1 2 g3 0 A/\Nl w' a4 a 3 g4 0 V/\BW w w':=by
 refine(rdec21 H hn).mono ?_
 rintro e w' ⟨q0,q1,x,q,s,r,o,m,u,k,a1,k1,c1,g1,a2,k2,c2,g,t,p,rfl,h,f,d,-,-,j⟩;have i:=hX.trans h.symm
 cases i;have e1:=f.len;have e2:=d.len;obtain rfl:m1=k1:=by omega
 obtain rfl:a=k2:=by omega
 exact⟨a1,c1,g1,a2,c2,g,rfl,f,d,j⟩
theorem cp_n(H:ByA w b ao n c l)(hn:n<=1000000000):CP 7 #[.slice ao n c] w λe w'=>∃ b' a' c',e=.returned (.slice a' n c')/\ByA w' b' a' n c' l/\BW w w':=by
 obtain⟨o,a,h,g,d,f⟩:=H.ex;refine(oA ao n c b o l w a (by omega) g.2 f).mono ?_
 rintro e w' ⟨v,rfl,M,B⟩;obtain⟨b',a',c',rfl,-,A⟩:=M.bya d;subst a;exact⟨b',a',c',rfl,A,B⟩
theorem enc_b{m:Nat}(g:Nl w a1 na 2 b1 o1 A)(c:Nl w a2 nv 3 b2 o2 V)(f:na<=1000)(hv:nv<=1000)(hm:(bG ⟨[p0,p1,p2,p3,p4,p5,p6,p7,p8,p9],A,V⟩ na nv).length=m)(a:m<=1000000):CP 11 #[.agg #[.int .u64 p0,.int .u64 p1,.int .u64 p2,.int .u64 p3,.int .u64 p4,.int .u64 p5,.int .u64 p6,.int .u64 p7,.int .u64 p8,.int .u64 p9,.slice a1 na c1,.slice a2 nv c2]] w λe w'=>∃ b',e=.returned (.slice (some ⟨b',0,none⟩) m m)/\ByA w' b' (some ⟨b',0,none⟩) m m (bG ⟨[p0,p1,p2,p3,p4,p5,p6,p7,p8,p9],A,V⟩ na nv)/\BW w w':=by
 subst hm;refine(nU g c f hv).mono ?_
 rintro e w' ⟨b,rfl,hb,Y,d⟩;exact⟨b,rfl,Fw ⟨Y.blk⟩ (jo _ _ _) a,d⟩
theorem renc_b{m:Nat}(d:Nl w a1 na 2 b1 o1 A)(a:Nl w a2 nv 3 b2 o2 V)(c:na<=1000)(hv:nv<=1000)(hm:(bG ⟨[p0,p1,p2,p3,p4,p5,p6,p7,p8,p9],A,V⟩ na nv).length=m):CP 12 #[.agg #[.int .u64 p0,.int .u64 p1,.int .u64 p2,.int .u64 p3,.int .u64 p4,.int .u64 p5,.int .u64 p6,.int .u64 p7,.int .u64 p8,.int .u64 p9,.slice a1 na c1,.slice a2 nv c2]] w λe w'=>∃ b' a' c',e=.returned (.slice a' m c')/\ByA w' b' a' m c' (bG ⟨[p0,p1,p2,p3,p4,p5,p6,p7,p8,p9],A,V⟩ na nv)/\BW w w':=by
 subst hm;refine(zn d a c hv).mono ?_
 rintro e w' ⟨v,rfl,M,b⟩;obtain⟨b',a',c',rfl,-,A⟩:=M.bya (jo _ _ _);exact⟨b',a',c',rfl,A,b⟩
theorem byC2{w':World}{g:Nat}(A:ByA w b ao n c l)(C:Chg (·=g) w w')(h:¬ l=[]->b≠g):ByA w' b ao n c l:=by
 obtain⟨o,k,d,f,j,a⟩:=A.ex;refine⟨o,k,d,f,j,a.loc,λi hi=>?_⟩;have hc:=a.cell i hi;rw[World.cell?_of_block (w:=w) (C.same b (aC hc) (h λe=>by rw[e] at hi;simp at hi))];exact hc
theorem Dl{P:Nat}{b b':Bool}(h:CP P args w λe w'=>e=.returned (.bool b)/\BW w w')(e:b=b'):CP P args w λe w'=>e=.returned (.bool b')/\BW w w':=e▸h
theorem rr:cB 6 #[.agg #[iU p0,iU p1,iU p2,iU p3,iU p4,iU p5,iU p6,iU p7,iU p8,iU p9,.slice a1 na c1,.slice a2 nv c2]] w (.bool (decide (na<=300) && decide (nv<=70))):=by
 have a:=Below.refl w.heap.size w;refine af (n:=13) Tryz.func6 rfl ?_
 refine sr<|ta 1 [iU p0,iU p1,iU p2,iU p3,iU p4,iU p5,iU p6,iU p7,iU p8,iU p9,.slice a1 na c1,.slice a2 nv c2] 28 (pg) ?_
 intro v1 g b c B;have f:=Nat.le_trans a.size c;have a:=ae a B;refine tz 1<|nx<|tz 1<|tl 4 (.slice a1 na c1) b 10<|tz 1 ?_
 by_cases c3:((na:Nat):Int)<=300
 ·refine tq 6 (.bool (decide (((na:Nat):Int)<=300))) (bT) (congrArg Value.bool (decide_eq_true c3))<|tz 2<|tl 9 (.slice a2 nv c2) b 11<|tz 1 ?_
  by_cases d:((nv:Nat):Int)<=70
  ·refine tq 11 (.bool (decide (((nv:Nat):Int)<=70))) (bT) (congrArg Value.bool (decide_eq_true d))<|tz 2<|nt ?_
   refine bB<|ah (bT) (rs1 2) ?_
   have e:(decide (na<=300) && decide (nv<=70))=true:=by simp;omega
   rw[e];exact⟨rfl,a⟩
  refine tq 11 (.bool (decide (((nv:Nat):Int)<=70))) (bF) (congrArg Value.bool (decide_eq_false d))<|tz 2<|nt ?_
  refine bB<|ah (bF) (rs1 2) ?_
  have e:(decide (na<=300) && decide (nv<=70))=false:=by simp;omega
  rw[e];exact⟨rfl,a⟩
 refine tq 6 (.bool (decide (((na:Nat):Int)<=300))) (bF) (congrArg Value.bool (decide_eq_false c3))<|tz 1<|tn 8<|tn 9<|tn 10<|tn 11<|tz 2<|nt ?_
 refine bB<|ah (bF) (rs1 2) ?_
 have e:(decide (na<=300) && decide (nv<=70))=false:=by simp;omega
 rw[e];exact⟨rfl,a⟩
theorem oE(hp:∀ x∈([p0,p1,p2,p3,p4,p5,p6,p7,p8,p9]:List Int),Mg.In8 x)(T:Nl w a1 na 2 b1 o1 A)(P:Nl w a2 nv 3 b2 o2 V)(hna:na<=9223372036854775807)(hnv:nv<=9223372036854775807)(H:ByA w b ao n c l)(hn:n<=9223372036854775807):cB 3 #[.agg #[iU p0,iU p1,iU p2,iU p3,iU p4,iU p5,iU p6,iU p7,iU p8,iU p9,.slice a1 na c1,.slice a2 nv c2],.slice ao n c] w (bT):=by
 have hl:l.length=n:=by
  obtain⟨_,h1,_⟩:=H.ex;exact h1
 have f:=Below.refl w.heap.size w;refine af (n:=52) Tryz.func3 rfl ?_
 refine sr<|ta 2 [iU p0,iU p1,iU p2,iU p3,iU p4,iU p5,iU p6,iU p7,iU p8,iU p9,.slice a1 na c1,.slice a2 nv c2] 28 (pg) ?_
 intro v1 g2 a hg2 B;have zg2:=Nat.le_trans f.size hg2;have f:=ae f B;refine tz 1<|nt<|ag<|sr ?_
 have g:=a.lt;refine tc 10 5 #[] (Fo.EM) ?_
 rintro _ v3 ⟨rfl,B⟩;have f:=ae f B;have a:=a.keep B;refine⟨_,rfl,tz 1<|nt<|nk<|ag<|sr<|tlr 12 [iU p0,iU p1,iU p2,iU p3,iU p4,iU p5,iU p6,iU p7,iU p8,iU p9,.slice a1 na c1,.slice a2 nv c2] a 0 ?_⟩;by_cases ca:na<=300
 ·by_cases cb:nv<=70
  ·have g:=a.lt;refine tc 13 6 #[.agg #[iU p0,iU p1,iU p2,iU p3,iU p4,iU p5,iU p6,iU p7,iU p8,iU p9,.slice a1 na c1,.slice a2 nv c2]] (Dl (b:=decide (na<=300) && decide (nv<=70)) rr (by rw[decide_eq_true ca,decide_eq_true cb])) ?_
   rintro _ v4 ⟨rfl,B⟩;have f:=ae f B;have a:=a.keep B;refine⟨_,rfl,tz 4 ?_⟩;by_cases c5:(65546:Int) < ((n:Nat):Int)
   ·refine tq 18 (.bool (decide ((65546:Int) < ((n:Nat):Int)))) (bT) (congrArg Value.bool (decide_eq_true c5))<|tz 1<|nt<|aL<|sr<|tz 1<|nr<|bE<|ah (bT) (rs1 4) ?_
    exact⟨rfl,f⟩
   refine tq 18 (.bool (decide ((65546:Int) < ((n:Nat):Int)))) (bF) (congrArg Value.bool (decide_eq_false c5))<|tz 1<|nt<|nk<|sr<|tz 1 ?_
   have g:=a.lt;refine tc 21 7 #[.slice ao n c] (cp_n (H.keep f) (by omega)) ?_
   rintro _ v6 ⟨bi,R,ci,rfl,HC,B⟩;have f:=ae f B;have a:=a.keep B;refine⟨_,rfl,tz 1<|nt<|aA [(1,.slice ao n c),(2,pg g2),(4,bF),(5,.slice R n ci)]<|sr<|tz 1 ?_⟩;have g:=a.lt;refine tc 24 8 #[.slice R n ci] (dec21 HC (by omega)) ?_
   rintro _ v7 ⟨q0,q1,G,v,I,F,E,D,y,u,U,r,g5,Z,s,g6,A1,V1,rfl,hX,i,j,hm5,hm6,B⟩;have f:=ae f B;have a:=a.keep B;have HC:=HC.keep B;refine⟨_,rfl,tz 3 ?_⟩;have K:=Ct HC;have g:=a.lt;have J:=i.lt;have L:=j.lt;refine ta 6 cl0 28 (pg) ?_
   intro v8 g9 e hg9 B;have zg9:=Nat.le_trans f.size hg9;have f:=ae f B;have a:=a.keep B;have HC:=HC.keep B;have i:=i.keep B;have j:=j.keep B;refine tsw e [iU q0,iU q1,iU G,iU v,iU I,iU F,iU E,iU D,iU y,iU u,.slice U r r,.slice Z s s] ?_
   intro v10 Y C;have f:=aF f C;have a:=a.chg C (by omega);have HC:=byC2 HC C (λh=>by have:=K h;omega);have i:=l4 i C (λh=>by have:=J h (by decide);omega);have j:=l4 j C (λh=>by have:=L h (by decide);omega);have e:=Y;refine tz 1<|nx<|tz 1 ?_
   have g:=a.lt;have k:=e.lt;refine tc 29 9 #[.slice ao n c] (Eg (H.keep f) (by omega) hX i.len j.len) ?_
   rintro _ v11 ⟨Q,X,g7,O,S,g8,rfl,q,p,B⟩;have f:=ae f B;have a:=a.keep B;have HC:=HC.keep B;have i:=i.keep B;have j:=j.keep B;have e:=e.keep B;refine⟨_,rfl,tz 3 ?_⟩;have K:=Ct HC;have g:=a.lt;have J:=i.lt;have L:=j.lt;have k:=e.lt;have aa:=q.lt;have lNQ:=p.lt;refine ta 8 cl0 28 (pg) ?_
   intro v12 g13 d N B;have zg13:=Nat.le_trans f.size N;have f:=ae f B;have a:=a.keep B;have HC:=HC.keep B;have i:=i.keep B;have j:=j.keep B;have e:=e.keep B;have q:=q.keep B;have p:=p.keep B;refine tsw d [iU q0,iU q1,iU G,iU v,iU I,iU F,iU E,iU D,iU y,iU u,.slice Q r X,.slice O s S] ?_
   intro v14 Y C;have f:=aF f C;have a:=a.chg C (by omega);have HC:=byC2 HC C (λh=>by have:=K h;omega);have i:=l4 i C (λh=>by have:=J h (by decide);omega);have j:=l4 j C (λh=>by have:=L h (by decide);omega);have e:=e.chg C (by omega);have q:=l4 q C (λh=>by have:=aa h (by decide);omega);have p:=l4 p C (λh=>by have:=lNQ h (by decide);omega);have d:=Y;refine tz 1<|nt<|ag ?_
   obtain⟨W,hm⟩:∃ m,(bG ⟨[p0,p1,p2,p3,p4,p5,p6,p7,p8,p9],A,V⟩ na nv).length=m:=⟨_,rfl⟩
   have ok:Ge.Ok ⟨[p0,p1,p2,p3,p4,p5,p6,p7,p8,p9],A,V⟩ na nv:=⟨rfl,T.len,P.len,hp,T.rng,P.rng⟩
   have hm6_:W<=100000:=by
    have:=uo ok;omega
   have f:=f.drew;have a:=a.drew;have HC:=HC.keep (Below.refl _ _).drew;have i:=i.keep (Below.refl _ _).drew;have j:=j.keep (Below.refl _ _).drew;have e:=e.drew;have q:=q.keep (Below.refl _ _).drew;have p:=p.keep (Below.refl _ _).drew;have d:=d.drew;refine dx (λw'=>Blk w' g2 [iU p0,iU p1,iU p2,iU p3,iU p4,iU p5,iU p6,iU p7,iU p8,iU p9,.slice a1 na c1,.slice a2 nv c2] 28/\Blk w' g9 [iU q0,iU q1,iU G,iU v,iU I,iU F,iU E,iU D,iU y,iU u,.slice U r r,.slice Z s s] 28/\Blk w' g13 [iU q0,iU q1,iU G,iU v,iU I,iU F,iU E,iU D,iU y,iU u,.slice Q r X,.slice O s S] 28) (λ_=>false) ⟨a,e,d⟩ ?_
   refine zlr 0 32 [iU p0,iU p1,iU p2,iU p3,iU p4,iU p5,iU p6,iU p7,iU p8,iU p9,.slice a1 na c1,.slice a2 nv c2] (λ_ h=>h.1) 0<|zlr 2 34 [iU p0,iU p1,iU p2,iU p3,iU p4,iU p5,iU p6,iU p7,iU p8,iU p9,.slice a1 na c1,.slice a2 nv c2] (λ_ h=>h.1) 0 ?_
   have g:=a.lt;have k:=e.lt;have o:=d.lt;refine zc 1 33 11 #[.agg #[iU p0,iU p1,iU p2,iU p3,iU p4,iU p5,iU p6,iU p7,iU p8,iU p9,.slice a1 na c1,.slice a2 nv c2]] (enc_b (T.keep f) (P.keep f) (by omega) (by omega) hm (by omega)) ?_
   rintro _ v15 ⟨be,rfl,t,B⟩;have f:=ae f B;have a:=a.keep B;have HC:=HC.keep B;have i:=i.keep B;have j:=j.keep B;have e:=e.keep B;have q:=q.keep B;have p:=p.keep B;have d:=d.keep B;refine⟨_,rfl,⟨a,e,d⟩,?_⟩;have g:=a.lt;have k:=e.lt;have o:=d.lt;refine zc 3 35 12 #[.agg #[iU p0,iU p1,iU p2,iU p3,iU p4,iU p5,iU p6,iU p7,iU p8,iU p9,.slice a1 na c1,.slice a2 nv c2]] (renc_b (T.keep f) (P.keep f) (by omega) (by omega) hm) ?_
   rintro _ v16 ⟨br,ar,cr,rfl,M,B⟩;have f:=ae f B;have a:=a.keep B;have HC:=HC.keep B;have i:=i.keep B;have j:=j.keep B;have e:=e.keep B;have q:=q.keep B;have p:=p.keep B;have d:=d.keep B;have t:=t.keep B;refine⟨_,rfl,⟨a,e,d⟩,?_⟩;have g:=a.lt;have k:=e.lt;have o:=d.lt;refine zc 4 36 10 #[.slice (some ⟨be,0,none⟩) W W,.slice ar W cr] (bytT t M) ?_
   rintro _ v17 ⟨rfl,B⟩;have f:=ae f B;have a:=a.keep B;have HC:=HC.keep B;have i:=i.keep B;have j:=j.keep B;have e:=e.keep B;have q:=q.keep B;have p:=p.keep B;have d:=d.keep B;have t:=t.keep B;have M:=M.keep B;refine⟨_,rfl,⟨a,e,d⟩,z 5 37 (bT)<|zlr 6 38 [iU q0,iU q1,iU G,iU v,iU I,iU F,iU E,iU D,iU y,iU u,.slice U r r,.slice Z s s] (λ_ h=>h.2.1) 0<|zlr 7 39 [iU q0,iU q1,iU G,iU v,iU I,iU F,iU E,iU D,iU y,iU u,.slice Q r X,.slice O s S] (λ_ h=>h.2.2) 0 ?_⟩;have g:=a.lt;have k:=e.lt;have o:=d.lt;refine zc 8 40 13 #[.agg #[iU q0,iU q1,iU G,iU v,iU I,iU F,iU E,iU D,iU y,iU u,.slice U r r,.slice Z s s],.agg #[iU q0,iU q1,iU G,iU v,iU I,iU F,iU E,iU D,iU y,iU u,.slice Q r X,.slice O s S]] (Dx i j q p (by omega) (by omega)) ?_
   rintro _ v18 ⟨rfl,B⟩;have f:=ae f B;have a:=a.keep B;have HC:=HC.keep B;have i:=i.keep B;have j:=j.keep B;have e:=e.keep B;have q:=q.keep B;have p:=p.keep B;have d:=d.keep B;have t:=t.keep B;have M:=M.keep B;refine⟨_,rfl,⟨a,e,d⟩,z 9 41 (bT)<|z 10 42 (bT)<|z 11 43 (iI (eD l))<|z 12 44 (iI (eD l))<|zq 13 45 (.bool ((eD l:Int) == eD l)) (bT) (congrArg Value.bool (beq_self_eq_true _))<|z 14 46 (bT)<|z 15 47 (bT)<|z 16 48 (.slice R n ci)<|z 17 49 (.slice ao n c) ?_⟩;have g:=a.lt;have k:=e.lt;have o:=d.lt;refine zc 18 50 10 #[.slice R n ci,.slice ao n c] (bytT HC (H.keep f)) ?_
   rintro _ v19 ⟨rfl,B⟩;have f:=ae f B;have a:=a.keep B;have HC:=HC.keep B;have i:=i.keep B;have j:=j.keep B;have e:=e.keep B;have q:=q.keep B;have p:=p.keep B;have d:=d.keep B;have t:=t.keep B;have M:=M.keep B;refine⟨_,rfl,⟨a,e,d⟩,z 19 51 (bT)<|z 20 4 (bT)<|aS<|aj ?_⟩;refine aA [(4,bT)]<|bB<|ah (bT) (rs1 4) ?_
   exact⟨rfl,f⟩
  have g:=a.lt;refine tc 13 6 #[.agg #[iU p0,iU p1,iU p2,iU p3,iU p4,iU p5,iU p6,iU p7,iU p8,iU p9,.slice a1 na c1,.slice a2 nv c2]] (Dl (b:=decide (na<=300) && decide (nv<=70)) rr (by rw[decide_eq_true ca,decide_eq_false cb])) ?_
  rintro _ v20 ⟨rfl,B⟩;have f:=ae f B;have a:=a.keep B;refine⟨_,rfl,tz 2<|tn 16<|tn 17<|tn 18<|tz 1<|nt<|aL<|sr<|tz 1<|nr<|bE<|ah (bT) (rs1 4) ?_⟩;exact⟨rfl,f⟩
 have g:=a.lt;refine tc 13 6 #[.agg #[iU p0,iU p1,iU p2,iU p3,iU p4,iU p5,iU p6,iU p7,iU p8,iU p9,.slice a1 na c1,.slice a2 nv c2]] (Dl (b:=decide (na<=300) && decide (nv<=70)) rr (by rw[decide_eq_false ca,Bool.false_and])) ?_
 rintro _ v21 ⟨rfl,B⟩;have f:=ae f B;have a:=a.keep B;refine⟨_,rfl,tz 2<|tn 16<|tn 17<|tn 18<|tz 1<|nt<|aL<|sr<|tz 1<|nr<|bE<|ah (bT) (rs1 4) ?_⟩;exact⟨rfl,f⟩
end
end Gn
end Go.Proofs.YtpoifdokmjhclaaGreat
