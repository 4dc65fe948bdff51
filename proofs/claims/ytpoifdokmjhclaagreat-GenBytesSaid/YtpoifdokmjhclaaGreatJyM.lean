import Derived.Test.YtpoifdokmjhclaaGreatJyL
set_option maxRecDepth 100000
set_option maxHeartbeats 8000000
namespace Go.Proofs.YtpoifdokmjhclaaGreat
namespace Fo
open Mg (pX)
open Go.RowKit Go.Lib Pg Lim Gl Kv Bk Pw Sd Di
attribute [local go_sem] Oper.semAt_some
set_option linter.unusedVariables false
set_option linter.unusedSimpArgs false
theorem EM {w:World}:cB 5 #[] w (bT):=by
 have l:=Below.refl w.heap.size w;refine af (n:=149) Tryz.func5 rfl ?_
 refine sr<|tz 1<|nx<|tz 2<|ta 19 cl8 43 (sg 1) ?_
 intro v1 q c hg2 B
 have aG:w.heap.size<=q:=Nat.le_trans l.size hg2;replace l:=ae l B;clear B;refine tz 1 ?_
 have t:=c.lt;refine ta 21 ko 45 (sg 1) ?_
 intro v3 m d hg4 B
 have zg4:w.heap.size<=m:=Nat.le_trans l.size hg4
 have dg2g4:q≠m:=by have:=c.lt;omega
 replace l:=ae l B;replace c:=c.keep B;clear B;refine tz 1 ?_
 have t:=c.lt;have x:=d.lt;refine ta 1 cl0 28 (pg) ?_
 intro v5 v f ay B
 have aC:w.heap.size<=v:=Nat.le_trans l.size ay
 have dg2g6:q≠v:=by have:=c.lt;omega
 have dg4g6:m≠v:=by have:=d.lt;omega
 replace l:=ae l B;replace c:=c.keep B;replace d:=d.keep B;clear B;refine tsw f [iU 1,iU 1,iU 1,iU 0,iU 0,iU 0,iU 0,iU 0,iU 0,iU 16,sg 1 q,sg 1 m] ?_
 intro v7 Y C;replace l:=aF l C;replace c:=c.chg C (by omega);replace d:=d.chg C (by omega);have f:=Y;refine nx<|tlr 23 [iU 1,iU 1,iU 1,iU 0,iU 0,iU 0,iU 0,iU 0,iU 0,iU 16,sg 1 q,sg 1 m] f 0 ?_
 have t:=c.lt;have x:=d.lt;have E:=f.lt;refine tc 24 11 #[.agg #[iU 1,iU 1,iU 1,iU 0,iU 0,iU 0,iU 0,iU 0,iU 0,iU 16,sg 1 q,sg 1 m]] (vM (A:=[16,100]) (V:=[16,500,10]) (sp:=[]) (sq:=[]) (L:=uK) c d rfl Ed) ?_
 rintro _ v9 ⟨y,rfl,j,ai,B⟩
 have aH:w.heap.size<=y:=Nat.le_trans l.size ai
 have dg2b8:q≠y:=by omega
 have aw:m≠y:=by omega
 have dg6b8:v≠y:=by omega
 replace l:=ae l B;replace c:=c.keep B;replace d:=d.keep B;replace f:=f.keep B;clear B;refine⟨_,rfl,tz 1<|nx<|tz 1 ?_⟩;have t:=c.lt;have x:=d.lt;have E:=f.lt;have I:=j.lt;refine tc 27 8 #[.slice (some ⟨y,0,none⟩) 132 132] (nP (na:=1) (nv:=1) (tX j go_y Ed) (by decide) ge_y gd_y) ?_
 rintro _ v10 ⟨ba,z,rfl,hy,D,F,B⟩
 have zA:w.heap.size<=ba:=Nat.le_trans l.size hy.1
 have zF:w.heap.size<=z:=Nat.le_trans l.size hy.2.1
 have dAF:ba≠z:=hy.2.2
 have dAg2:q≠ba:=by omega
 have dFg2:q≠z:=by omega
 have dAg4:m≠ba:=by omega
 have dFg4:m≠z:=by omega
 have dAg6:v≠ba:=by omega
 have dFg6:v≠z:=by omega
 have dAb8:y≠ba:=by omega
 have dFb8:y≠z:=by omega
 replace l:=ae l B;replace c:=c.keep B;replace d:=d.keep B;replace f:=f.keep B;replace j:=j.keep B;clear B;refine⟨_,rfl,tz 3 ?_⟩;have t:=c.lt;have x:=d.lt;have E:=f.lt;have I:=j.lt;have aI:=D.lt;have aD:=F.lt;refine ta 3 cl0 28 (pg) ?_
 intro v11 s o P B
 have al:w.heap.size<=s:=Nat.le_trans l.size P
 have ar:q≠s:=by have:=c.lt;omega
 have ap:m≠s:=by have:=d.lt;omega
 have au:v≠s:=by have:=f.lt;omega
 have aq:y≠s:=by have:=j.lt;omega
 have av:ba≠s:=by have:=D.lt;omega
 have ao:z≠s:=by have:=F.lt;omega
 replace l:=ae l B;replace c:=c.keep B;replace d:=d.keep B;replace f:=f.keep B;replace j:=j.keep B;replace D:=D.keep B;replace F:=F.keep B;clear B;refine tsw o [iU 1,iU 1,iU 1,iU 0,iU 0,iU 0,iU 0,iU 0,iU 0,iU 16,.slice (some ⟨ba,0,none⟩) 1 1,.slice (some ⟨z,0,none⟩) 1 1] ?_
 intro v13 Y C;replace l:=aF l C;replace c:=c.chg C (by omega);replace d:=d.chg C (by omega);replace f:=f.chg C (by omega);replace j:=j.chg C (by omega);replace D:=D.chg C (by omega);replace F:=F.chg C (by omega);have o:=Y;refine tz 1<|nt<|aA [(0,bF),(1,pg v),(2,.slice (some ⟨y,0,none⟩) 132 132),(3,pg s),(4,iI 0)]<|sr<|tz 1 ?_
 have zB:=l.size;have t:=c.lt;have x:=d.lt;have E:=f.lt;have I:=j.lt;have aI:=D.lt;have aD:=F.lt;have lXg12:=o.lt;refine tc 32 14 #[.slice (some ⟨y,0,none⟩) 132 132] (make_y (tX j go_y Ed) (by decide) ge_y gd_y) ?_
 rintro _ az ⟨g,K,n,N,B',rfl,S,q1,q2,q3,B⟩;refine⟨_,rfl,?_⟩;replace l:=ae l B;replace c:=c.keep B;replace d:=d.keep B;replace f:=f.keep B;replace j:=j.keep B;replace D:=D.keep B;replace F:=F.keep B;replace o:=o.keep B;clear B
 have u:∀ b,K b->B'<=b:=S.kb
 have U:Ut w (λ_=>False) B' g [] az K e16 n N [(q,cl8,43),(m,ko,45),(v,[iU 1,iU 1,iU 1,iU 0,iU 0,iU 0,iU 0,iU 0,iU 0,iU 16,sg 1 q,sg 1 m],28),(y,uK.map (Value.int .u8),5),(ba,cl8,43),(z,ko,45),(s,[iU 1,iU 1,iU 1,iU 0,iU 0,iU 0,iU 0,iU 0,iU 0,iU 16,.slice (some ⟨ba,0,none⟩) 1 1,.slice (some ⟨z,0,none⟩) 1 1],28)] []:=by
  refine⟨⟨S,λb k=>.inr (by have:=u b k;omega),Chg.of l⟩,?_,λ_ h=>absurd h List.not_mem_nil,λp _ r h=>absurd h List.not_mem_nil,?_⟩
  ·simp only[List.forall_mem_cons];exact⟨⟨c,λk=>by have:=u _ k;omega,aG⟩,⟨d,λk=>by have:=u _ k;omega,zg4⟩,⟨f,λk=>by have:=u _ k;omega,aC⟩,⟨j,λk=>by have:=u _ k;omega,aH⟩,⟨D,λk=>by have:=u _ k;omega,zA⟩,⟨F,λk=>by have:=u _ k;omega,zF⟩,⟨o,λk=>by have:=u _ k;omega,al⟩,λ_ h=>absurd h List.not_mem_nil⟩
  simp;omega
 clear c d f j D F o l;refine tz 5<|nt<|ag<|sr<|tz 12<|tl 47 (.int .u8 71) (U.bk 3 rfl) 0<|tz 3<|tlr 51 [iU 1,iU 1,iU 1,iU 0,iU 0,iU 0,iU 0,iU 0,iU 0,iU 16,.slice (some ⟨ba,0,none⟩) 1 1,.slice (some ⟨z,0,none⟩) 1 1] (U.bk 6 rfl) 0<|tlr 52 [iU 1,iU 1,iU 1,iU 0,iU 0,iU 0,iU 0,iU 0,iU 0,iU 16,sg 1 q,sg 1 m] (U.bk 2 rfl) 0<|tc 53 13 #[.agg #[iU 1,iU 1,iU 1,iU 0,iU 0,iU 0,iU 0,iU 0,iU 0,iU 16,.slice (some ⟨ba,0,none⟩) 1 1,.slice (some ⟨z,0,none⟩) 1 1],.agg #[iU 1,iU 1,iU 1,iU 0,iU 0,iU 0,iU 0,iU 0,iU 0,iU 16,sg 1 q,sg 1 m]] (Gn.Dx (nlb (A:=[16,100]) (sp:=[]) (k:=2) (n:=1) (U.bk 4 rfl) rfl (by unfold Mg.In8;decide)) (nlb (A:=[16,500,10]) (sp:=[]) (k:=3) (n:=1) (U.bk 5 rfl) rfl (by unfold Mg.In8;decide)) (nlb (A:=[16,100]) (sp:=[]) (k:=2) (n:=1) (U.bk 0 rfl) rfl (by unfold Mg.In8;decide)) (nlb (A:=[16,500,10]) (sp:=[]) (k:=3) (n:=1) (U.bk 1 rfl) rfl (by unfold Mg.In8;decide)) (by decide) (by decide)) ?_
 rintro _ v15 ⟨rfl,B⟩;replace U:=U.keep B;clear B;refine⟨_,rfl,tz 8<|tc 62 15 #[pg g,iU 16] (pO (fR U.ta.sx ⟨by decide,by decide⟩ (by omega) (by omega)) (show cI e16 16=90 by decide +kernel) (show ez e16 16=0 by decide +kernel)) ?_⟩;rintro _ v17 ⟨rfl,K16,S,u,J⟩;replace U:=U.op S u J;refine⟨_,rfl,tz 5<|tc 68 15 #[pg g,iU 2] (pO (fR U.ta.sx ⟨by decide,by decide⟩ (by omega) (by omega)) (show cI e16 2=10 by decide +kernel) (show ez e16 2=0 by decide +kernel)) ?_⟩;rintro _ v19 ⟨rfl,K18,S,u,J⟩;replace U:=U.op S u J;refine⟨_,rfl,tz 5<|tc 74 15 #[pg g,iU 3] (pO (fR U.ta.sx ⟨by decide,by decide⟩ (by omega) (by omega)) (show cI e16 3=0 by decide +kernel) (show ez e16 3=0 by decide +kernel)) ?_⟩;rintro _ v21 ⟨rfl,K20,S,u,J⟩;replace U:=U.op S u J;refine⟨_,rfl,tz 3<|nt<|aA [(0,bF),(1,pg v),(2,.slice (some ⟨y,0,none⟩) 132 132),(5,pg g),(77,bF)]<|nk<|sr<|tz 1<|tl 79 (sg 1 m) (U.bk 2 rfl) 11<|tz 2<|ts (U.bk 1 rfl) 0 (iU 17) [iU 17] l3 (U.st 1 rfl ?_)⟩;intro v22 U;refine nx<|tlr 83 [iU 1,iU 1,iU 1,iU 0,iU 0,iU 0,iU 0,iU 0,iU 0,iU 16,sg 1 q,sg 1 m] (U.bk 2 rfl) 0<|tc 84 11 #[.agg #[iU 1,iU 1,iU 1,iU 0,iU 0,iU 0,iU 0,iU 0,iU 0,iU 16,sg 1 q,sg 1 m]] (vM (A:=[16,100]) (V:=[17,500,10]) (sp:=[]) (sq:=[]) (L:=zf) (U.bk 0 rfl) (U.bk 1 rfl) rfl gl_n) ?_
 rintro _ v24 ⟨aE,rfl,X,hb,B⟩;replace U:=U.new X hb B;clear X hb B;refine⟨_,rfl,tc 85 14 #[.slice (some ⟨aE,0,none⟩) 132 132] (make_n (tX (U.bk 0 rfl) go_n gl_n) (by decide) ge_n gd_n) ?_⟩;rintro _ v25 ⟨rfl,B⟩;replace U:=U.keep B;clear B;refine⟨_,rfl,tz 5<|nt<|aA [(0,bF),(1,pg v),(2,.slice (some ⟨y,0,none⟩) 132 132),(5,pg g),(8,iI 215)]<|ag ?_⟩;replace U:=U.drew;refine dx (λw'=>Blk w' v [iU 1,iU 1,iU 1,iU 0,iU 0,iU 0,iU 0,iU 0,iU 0,iU 16,sg 1 q,sg 1 m] 28/\Blk w' q cl8 43) (λi=>decide (9<=i)) ⟨(U.bk 3 rfl),(U.bk 1 rfl)⟩ ?_
 refine zp 0 88 (pq v 10)<|zl 1 89 (sg 1 q) (λ_ h=>h.1) 10<|zp 2 90 (pq v 10)<|zl 3 91 (sg 1 q) (λ_ h=>h.1) 10<|zp 4 92 (pg q)<|zlr 5 93 cl8 (λ_ h=>h.2) 0<|za 6 94 cl8 43 (sg 1) (U.nw ?_)
 intro v26 g27 U;refine⟨⟨(U.bk 4 rfl),(U.bk 2 rfl)⟩,?_⟩;obtain⟨G,H,sp,w4,aB,X4,ab,B4⟩:=app_P (U.bk 2 rfl) (U.bk 0 rfl);replace U:=U.new X4 ab B4;clear X4 ab B4;refine zw 7 95 (.slice (some ⟨G,0,none⟩) 2 H) _ (Gx aB) ⟨(U.bk 5 rfl),(U.bk 3 rfl)⟩ ?_
 refine zp 8 96 (pq v 10)<|iK<|ys 9 (U.bk 5 rfl) 10 (.slice (some ⟨G,0,none⟩) 2 H) [.slice (some ⟨G,0,none⟩) 2 H] [iU 1,iU 1,iU 1,iU 0,iU 0,iU 0,iU 0,iU 0,iU 0,iU 16,.slice (some ⟨G,0,none⟩) 2 H,sg 1 m] (U.st 5 rfl ?_)
 intro v28 U;refine iF<|aj<|sr<|tlr 98 [iU 1,iU 1,iU 1,iU 0,iU 0,iU 0,iU 0,iU 0,iU 0,iU 16,.slice (some ⟨G,0,none⟩) 2 H,sg 1 m] (U.bk 5 rfl) 0<|tc 99 11 #[.agg #[iU 1,iU 1,iU 1,iU 0,iU 0,iU 0,iU 0,iU 0,iU 0,iU 16,.slice (some ⟨G,0,none⟩) 2 H,sg 1 m]] (vM (A:=[16,100,16,100]) (V:=[17,500,10]) (sp:=sp) (sq:=[]) (L:=BM) (U.bk 0 rfl) (U.bk 4 rfl) rfl gl_a) ?_
 rintro _ v30 ⟨ax,rfl,X,hb,B⟩;replace U:=U.new X hb B;clear X hb B;refine⟨_,rfl,tc 100 14 #[.slice (some ⟨ax,0,none⟩) 148 148] (make_a (tX (U.bk 0 rfl) go_a gl_a) (by decide) ge_a gd_a) ?_⟩;rintro _ v31 ⟨rfl,B⟩;replace U:=U.keep B;clear B;refine⟨_,rfl,tz 5<|nt<|aA [(0,bF),(1,pg v),(2,.slice (some ⟨y,0,none⟩) 132 132),(5,pg g),(8,iI 215),(10,iI 213)]<|sr<|tz 2<|ts (U.bk 6 rfl) 0 (iU 0) [iU 0] [iU 0,iU 1,iU 1,iU 0,iU 0,iU 0,iU 0,iU 0,iU 0,iU 16,.slice (some ⟨G,0,none⟩) 2 H,sg 1 m] (U.st 6 rfl ?_)⟩;intro v32 U;refine nx<|tlr 106 [iU 0,iU 1,iU 1,iU 0,iU 0,iU 0,iU 0,iU 0,iU 0,iU 16,.slice (some ⟨G,0,none⟩) 2 H,sg 1 m] (U.bk 6 rfl) 0<|tc 107 11 #[.agg #[iU 0,iU 1,iU 1,iU 0,iU 0,iU 0,iU 0,iU 0,iU 0,iU 16,.slice (some ⟨G,0,none⟩) 2 H,sg 1 m]] (vM (A:=[16,100,16,100]) (V:=[17,500,10]) (sp:=sp) (sq:=[]) (L:=zI) (U.bk 1 rfl) (U.bk 5 rfl) rfl gl_p) ?_
 rintro _ v34 ⟨b33,rfl,X,hb,B⟩;replace U:=U.new X hb B;clear X hb B;refine⟨_,rfl,tc 108 14 #[.slice (some ⟨b33,0,none⟩) 148 148] (make_p (tX (U.bk 0 rfl) go_p gl_p) (by decide) ge_p gd_p) ?_⟩;rintro _ v35 ⟨rfl,B⟩;replace U:=U.keep B;clear B;refine⟨_,rfl,tz 5<|nx<|tz 1<|ta 113 [.int .u8 0] 5 (sg 1) (U.nw ?_)⟩;intro v36 g37 U;obtain⟨bb,cc,w5,T,A5,B5⟩:=app_fm (U.bk 9 rfl) (U.bk 0 rfl) go_y Ed;refine tw 114 (.slice (some ⟨bb,0,none⟩) 133 cc) _ (pX T) ?_
 replace U:=U.keep B5;clear B5 T;refine tc 115 14 #[.slice (some ⟨bb,0,none⟩) 133 cc] (make_d A5 (by decide) ge_d) ?_
 rintro _ v38 ⟨rfl,B⟩;replace U:=U.keep B;clear B;refine⟨_,rfl,tz 5<|nt<|aA [(0,bF),(5,pg g),(8,iI 215),(10,iI 213),(12,iI 212),(14,iI 210)]<|sr<|tz 1<|tc 120 16 #[pg g,iU 16] (Gd (th:=true) (er:=0) (rt:=500) (tk:=10) (un:=0) (pe:=2) (jl:=false) (bo:=true) (x0:=10000000000000000000000000000000000000) (x1:=0) (x2:=0) (x3:=0) U.ta.sx ⟨by decide,by decide⟩ (by decide +kernel) rfl) ?_⟩;rintro _ v46 ⟨aa,ad,O,zq39,M,R,ak,zq40,an,Z,am,zq41,Q,ac,W,zq42,K43,n44,N45,rfl,S,qn44,qN45,u,J,Q0,mq39,h0,Q1,mq40,h1,Q2,mq41,h2,Q3,mq42,h3⟩;have fq39:=ne3 h0 U.ta.size;have fq40:=ne3 h1 U.ta.size;have fq41:=ne3 h2 U.ta.size;have fq42:=ne3 h3 U.ta.size;have L:=U.lt;replace U:=((((U.op S u J).add L Q0 h0).add L Q1 h1).add L Q2 h2).add L Q3 h3;clear L S u J Q0 h0 Q1 h1 Q2 h2 Q3 h3;refine⟨_,rfl,tz 3<|ta 15 cl4 57 (pg) (U.nw ?_)⟩;intro v47 g48 U;refine tsw (U.bk 0 rfl) [iU 500,iU 10,.slice aa ad O,bF,iU 0,bT,iU 2,.slice M R ak,.slice an Z am,.slice Q ac W] (U.st 0 rfl ?_);intro v49 U;refine tz 1<|nx<|tz 19<|tl 142 (bT) (U.bk 0 rfl) 5<|tz 3<|tl 146 (iU 500) (U.bk 0 rfl) 0<|tz 3<|nt<|aA [(0,bT)]<|bB<|ah (bT) (rs1 0) ?_
 exact⟨rfl,Chg.nothing U.ta.cc⟩
end Fo
end Go.Proofs.YtpoifdokmjhclaaGreat
