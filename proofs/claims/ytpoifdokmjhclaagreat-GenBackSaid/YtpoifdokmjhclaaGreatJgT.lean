import Derived.Test.YtpoifdokmjhclaaGreatJgS
set_option maxRecDepth 100000
set_option maxHeartbeats 8000000
namespace Go.Proofs.YtpoifdokmjhclaaGreat
namespace Fo
open Go.RowKit Go.Lib Pg Lim Gl Kv Bk Pw Sd Di
attribute [local go_sem] Oper.semAt_some
set_option linter.unusedVariables false
set_option linter.unusedSimpArgs false
theorem DJ {w:World}:cB 5 #[] w (.bool true):=by
 have m:=Below.refl w.heap.size w;refine af (n:=149) Tryz.func5 rfl ?_
 refine sr<|tz 1<|nx<|tz 2<|ta 19 [iU 16,iU 100] 43 (sg 1) ?_
 intro v1 s c hg2 B
 have aF:w.heap.size<=s:=Nat.le_trans m.size hg2;replace m:=ae m B;clear B;refine tz 1 ?_
 have u:=c.lt;refine ta 21 [iU 16,iU 500,iU 10] 45 (sg 1) ?_
 intro v3 o d hg4 B
 have zg4:w.heap.size<=o:=Nat.le_trans m.size hg4
 have dg2g4:s≠o:=by have:=c.lt;omega
 replace m:=ae m B;replace c:=c.keep B;clear B;refine tz 1 ?_
 have u:=c.lt;have y:=d.lt;refine ta 1 [iU 0,iU 0,iU 0,iU 0,iU 0,iU 0,iU 0,iU 0,iU 0,iU 0,zS,zS] 28 (pg) ?_
 intro v5 t f az B
 have aC:w.heap.size<=t:=Nat.le_trans m.size az
 have dg2g6:s≠t:=by have:=c.lt;omega
 have dg4g6:o≠t:=by have:=d.lt;omega
 replace m:=ae m B;replace c:=c.keep B;replace d:=d.keep B;clear B;refine tsw f [iU 1,iU 1,iU 1,iU 0,iU 0,iU 0,iU 0,iU 0,iU 0,iU 16,sg 1 s,sg 1 o] ?_
 intro v7 Y C;replace m:=aM m C (by omega);replace c:=c.chg C (show s≠t by omega);replace d:=d.chg C (show o≠t by omega);have f:=Y;refine nx<|tlr 23 [iU 1,iU 1,iU 1,iU 0,iU 0,iU 0,iU 0,iU 0,iU 0,iU 16,sg 1 s,sg 1 o] f 0 ?_
 have u:=c.lt;have y:=d.lt;have E:=f.lt;refine tc 24 11 #[.agg #[iU 1,iU 1,iU 1,iU 0,iU 0,iU 0,iU 0,iU 0,iU 0,iU 16,sg 1 s,sg 1 o]] (uV (A:=[16,100]) (V:=[16,500,10]) (sp:=[]) (sq:=[]) (L:=tO) c d rfl Dd) ?_
 rintro _ v9 ⟨x,rfl,j,aj,B⟩;refine⟨_,rfl,?_⟩
 have aG:w.heap.size<=x:=Nat.le_trans m.size aj
 have dg2b8:s≠x:=by omega
 have aw:o≠x:=by omega
 have dg6b8:t≠x:=by omega
 replace m:=ae m B;replace c:=c.keep B;replace d:=d.keep B;replace f:=f.keep B;clear B;refine tz 1<|nx<|tz 1 ?_
 have u:=c.lt;have y:=d.lt;have E:=f.lt;have I:=j.lt;refine tc 27 8 #[.slice (some ⟨x,0,none⟩) 132 132] (mV (na:=1) (nv:=1) (nu j go_y Dd) (by decide) ge_y gd_y) ?_
 rintro _ v10 ⟨ba,z,rfl,hy,D,F,B⟩;refine⟨_,rfl,?_⟩
 have zA:w.heap.size<=ba:=Nat.le_trans m.size hy.1
 have zF:w.heap.size<=z:=Nat.le_trans m.size hy.2.1
 have dAF:ba≠z:=hy.2.2
 have dAg2:s≠ba:=by omega
 have dFg2:s≠z:=by omega
 have dAg4:o≠ba:=by omega
 have dFg4:o≠z:=by omega
 have dAg6:t≠ba:=by omega
 have dFg6:t≠z:=by omega
 have dAb8:x≠ba:=by omega
 have dFb8:x≠z:=by omega
 replace m:=ae m B;replace c:=c.keep B;replace d:=d.keep B;replace f:=f.keep B;replace j:=j.keep B;clear B;refine tz 3 ?_
 have u:=c.lt;have y:=d.lt;have E:=f.lt;have I:=j.lt;have aH:=D.lt;have aD:=F.lt;refine ta 3 [iU 0,iU 0,iU 0,iU 0,iU 0,iU 0,iU 0,iU 0,iU 0,iU 0,zS,zS] 28 (pg) ?_
 intro v11 l q P B
 have al:w.heap.size<=l:=Nat.le_trans m.size P
 have ar:s≠l:=by have:=c.lt;omega
 have ap:o≠l:=by have:=d.lt;omega
 have au:t≠l:=by have:=f.lt;omega
 have aq:x≠l:=by have:=j.lt;omega
 have av:ba≠l:=by have:=D.lt;omega
 have ao:z≠l:=by have:=F.lt;omega
 replace m:=ae m B;replace c:=c.keep B;replace d:=d.keep B;replace f:=f.keep B;replace j:=j.keep B;replace D:=D.keep B;replace F:=F.keep B;clear B;refine tsw q [iU 1,iU 1,iU 1,iU 0,iU 0,iU 0,iU 0,iU 0,iU 0,iU 16,.slice (some ⟨ba,0,none⟩) 1 1,.slice (some ⟨z,0,none⟩) 1 1] ?_
 intro v13 Y C;replace m:=aM m C (by omega);replace c:=c.chg C (show s≠l by omega);replace d:=d.chg C (show o≠l by omega);replace f:=f.chg C (show t≠l by omega);replace j:=j.chg C (show x≠l by omega);replace D:=D.chg C (show ba≠l by omega);replace F:=F.chg C (show z≠l by omega);have q:=Y;refine tz 1<|nt<|ay [(0,bF),(1,pg t),(2,.slice (some ⟨x,0,none⟩) 132 132),(3,pg l),(4,iI 0)]<|sr<|tz 1 ?_
 have zB:=m.size;have u:=c.lt;have y:=d.lt;have E:=f.lt;have I:=j.lt;have aH:=D.lt;have aD:=F.lt;have lXg12:=q.lt;refine tc 32 14 #[.slice (some ⟨x,0,none⟩) 132 132] (make_y (nu j go_y Dd) (by decide) ge_y gd_y) ?_
 rintro _ aA ⟨g,K,n,N,B',rfl,S,q1,q2,q3,B⟩;refine⟨_,rfl,?_⟩;replace m:=ae m B;replace c:=c.keep B;replace d:=d.keep B;replace f:=f.keep B;replace j:=j.keep B;replace D:=D.keep B;replace F:=F.keep B;replace q:=q.keep B;clear B
 have v:∀ b,K b->B'<=b:=S.kb
 have U:Ut w (fun _=>False) B' g [] aA K e16 n N [(s,[iU 16,iU 100],43),(o,[iU 16,iU 500,iU 10],45),(t,[iU 1,iU 1,iU 1,iU 0,iU 0,iU 0,iU 0,iU 0,iU 0,iU 16,sg 1 s,sg 1 o],28),(x,tO.map (Value.int .u8),5),(ba,[iU 16,iU 100],43),(z,[iU 16,iU 500,iU 10],45),(l,[iU 1,iU 1,iU 1,iU 0,iU 0,iU 0,iU 0,iU 0,iU 0,iU 16,.slice (some ⟨ba,0,none⟩) 1 1,.slice (some ⟨z,0,none⟩) 1 1],28)] []:=by
  refine⟨⟨S,fun b k=>.inr (by have:=v b k;omega),Chg.of m⟩,?_,fun _ h=>absurd h List.not_mem_nil,fun p _ r h=>absurd h List.not_mem_nil,?_⟩
  ·simp only[List.forall_mem_cons];exact⟨⟨c,fun k=>by have:=v _ k;omega,aF⟩,⟨d,fun k=>by have:=v _ k;omega,zg4⟩,⟨f,fun k=>by have:=v _ k;omega,aC⟩,⟨j,fun k=>by have:=v _ k;omega,aG⟩,⟨D,fun k=>by have:=v _ k;omega,zA⟩,⟨F,fun k=>by have:=v _ k;omega,zF⟩,⟨q,fun k=>by have:=v _ k;omega,al⟩,fun _ h=>absurd h List.not_mem_nil⟩
  ·simp;omega
 clear c d f j D F q m;refine tz 5<|nt<|ag<|sr<|tz 12<|tl 47 (.int .u8 71) (U.bk 3 rfl) 0<|tz 3<|tlr 51 [iU 1,iU 1,iU 1,iU 0,iU 0,iU 0,iU 0,iU 0,iU 0,iU 16,.slice (some ⟨ba,0,none⟩) 1 1,.slice (some ⟨z,0,none⟩) 1 1] (U.bk 6 rfl) 0<|tlr 52 [iU 1,iU 1,iU 1,iU 0,iU 0,iU 0,iU 0,iU 0,iU 0,iU 16,sg 1 s,sg 1 o] (U.bk 2 rfl) 0<|tc 53 13 #[.agg #[iU 1,iU 1,iU 1,iU 0,iU 0,iU 0,iU 0,iU 0,iU 0,iU 16,.slice (some ⟨ba,0,none⟩) 1 1,.slice (some ⟨z,0,none⟩) 1 1],.agg #[iU 1,iU 1,iU 1,iU 0,iU 0,iU 0,iU 0,iU 0,iU 0,iU 16,sg 1 s,sg 1 o]] (Gn.Cx (nlb (A:=[16,100]) (sp:=[]) (k:=2) (n:=1) (U.bk 4 rfl) rfl (by unfold Mg.In8;decide)) (nlb (A:=[16,500,10]) (sp:=[]) (k:=3) (n:=1) (U.bk 5 rfl) rfl (by unfold Mg.In8;decide)) (nlb (A:=[16,100]) (sp:=[]) (k:=2) (n:=1) (U.bk 0 rfl) rfl (by unfold Mg.In8;decide)) (nlb (A:=[16,500,10]) (sp:=[]) (k:=3) (n:=1) (U.bk 1 rfl) rfl (by unfold Mg.In8;decide)) (by decide) (by decide)) ?_
 rintro _ v15 ⟨rfl,B⟩;replace U:=U.keep B;clear B;refine⟨_,rfl,tz 8<|tc 62 15 #[pg g,iU 16] (o6 (fF U.ta.sx ⟨by decide,by decide⟩ (by omega) (by omega)) (show cy e16 16=90 by decide +kernel) (show eb e16 16=0 by decide +kernel)) ?_⟩;rintro _ v17 ⟨rfl,K16,S,v,J⟩;replace U:=U.op S v J;refine⟨_,rfl,tz 5<|tc 68 15 #[pg g,iU 2] (o6 (fF U.ta.sx ⟨by decide,by decide⟩ (by omega) (by omega)) (show cy e16 2=10 by decide +kernel) (show eb e16 2=0 by decide +kernel)) ?_⟩;rintro _ v19 ⟨rfl,K18,S,v,J⟩;replace U:=U.op S v J;refine⟨_,rfl,tz 5<|tc 74 15 #[pg g,iU 3] (o6 (fF U.ta.sx ⟨by decide,by decide⟩ (by omega) (by omega)) (show cy e16 3=0 by decide +kernel) (show eb e16 3=0 by decide +kernel)) ?_⟩;rintro _ v21 ⟨rfl,K20,S,v,J⟩;replace U:=U.op S v J;refine⟨_,rfl,tz 3<|nt<|ay [(0,bF),(1,pg t),(2,.slice (some ⟨x,0,none⟩) 132 132),(5,pg g),(77,bF)]<|nk<|sr<|tz 1<|tl 79 (sg 1 o) (U.bk 2 rfl) 11<|tz 2<|ts (U.bk 1 rfl) 0 (iU 17) [iU 17] [iU 17,iU 500,iU 10] (U.st 1 rfl ?_)⟩;intro v22 U;refine nx<|tlr 83 [iU 1,iU 1,iU 1,iU 0,iU 0,iU 0,iU 0,iU 0,iU 0,iU 16,sg 1 s,sg 1 o] (U.bk 2 rfl) 0<|tc 84 11 #[.agg #[iU 1,iU 1,iU 1,iU 0,iU 0,iU 0,iU 0,iU 0,iU 0,iU 16,sg 1 s,sg 1 o]] (uV (A:=[16,100]) (V:=[17,500,10]) (sp:=[]) (sq:=[]) (L:=yq) (U.bk 0 rfl) (U.bk 1 rfl) rfl gl_n) ?_
 rintro _ v24 ⟨aE,rfl,X,hb,B⟩;replace U:=U.new X hb B;clear X hb B;refine⟨_,rfl,tc 85 14 #[.slice (some ⟨aE,0,none⟩) 132 132] (make_n (nu (U.bk 0 rfl) go_n gl_n) (by decide) ge_n gd_n) ?_⟩;rintro _ v25 ⟨rfl,B⟩;replace U:=U.keep B;clear B;refine⟨_,rfl,tz 5<|nt<|ay [(0,bF),(1,pg t),(2,.slice (some ⟨x,0,none⟩) 132 132),(5,pg g),(8,iI 215)]<|ag ?_⟩;replace U:=U.drew;refine dS (fun w'=>Blk w' t [iU 1,iU 1,iU 1,iU 0,iU 0,iU 0,iU 0,iU 0,iU 0,iU 16,sg 1 s,sg 1 o] 28/\Blk w' s [iU 16,iU 100] 43) (fun i=>decide (9<=i)) ⟨(U.bk 3 rfl),(U.bk 1 rfl)⟩ ?_
 refine zp 0 88 (pq t 10)<|zl 1 89 (sg 1 s) (fun _ h=>h.1) 10<|zp 2 90 (pq t 10)<|zl 3 91 (sg 1 s) (fun _ h=>h.1) 10<|zp 4 92 (pg s)<|zlr 5 93 [iU 16,iU 100] (fun _ h=>h.2) 0<|za 6 94 [iU 16,iU 100] 43 (sg 1) (U.nw ?_)
 intro v26 g27 U;refine⟨⟨(U.bk 4 rfl),(U.bk 2 rfl)⟩,?_⟩;obtain⟨G,H,sp,w4,aB,X4,ab,B4⟩:=app_P (U.bk 2 rfl) (U.bk 0 rfl);replace U:=U.new X4 ab B4;clear X4 ab B4;refine zw 7 95 (.slice (some ⟨G,0,none⟩) 2 H) _ (Fe aB) ⟨(U.bk 5 rfl),(U.bk 3 rfl)⟩ ?_
 refine zp 8 96 (pq t 10)<|iA<|ys 9 (U.bk 5 rfl) 10 (.slice (some ⟨G,0,none⟩) 2 H) [.slice (some ⟨G,0,none⟩) 2 H] [iU 1,iU 1,iU 1,iU 0,iU 0,iU 0,iU 0,iU 0,iU 0,iU 16,.slice (some ⟨G,0,none⟩) 2 H,sg 1 o] (U.st 5 rfl ?_)
 intro v28 U;refine iv<|ai<|sr<|tlr 98 [iU 1,iU 1,iU 1,iU 0,iU 0,iU 0,iU 0,iU 0,iU 0,iU 16,.slice (some ⟨G,0,none⟩) 2 H,sg 1 o] (U.bk 5 rfl) 0<|tc 99 11 #[.agg #[iU 1,iU 1,iU 1,iU 0,iU 0,iU 0,iU 0,iU 0,iU 0,iU 16,.slice (some ⟨G,0,none⟩) 2 H,sg 1 o]] (uV (A:=[16,100,16,100]) (V:=[17,500,10]) (sp:=sp) (sq:=[]) (L:=AO) (U.bk 0 rfl) (U.bk 4 rfl) rfl gl_a) ?_
 rintro _ v30 ⟨ax,rfl,X,hb,B⟩;replace U:=U.new X hb B;clear X hb B;refine⟨_,rfl,tc 100 14 #[.slice (some ⟨ax,0,none⟩) 148 148] (make_a (nu (U.bk 0 rfl) go_a gl_a) (by decide) ge_a gd_a) ?_⟩;rintro _ v31 ⟨rfl,B⟩;replace U:=U.keep B;clear B;refine⟨_,rfl,tz 5<|nt<|ay [(0,bF),(1,pg t),(2,.slice (some ⟨x,0,none⟩) 132 132),(5,pg g),(8,iI 215),(10,iI 213)]<|sr<|tz 2<|ts (U.bk 6 rfl) 0 (iU 0) [iU 0] [iU 0,iU 1,iU 1,iU 0,iU 0,iU 0,iU 0,iU 0,iU 0,iU 16,.slice (some ⟨G,0,none⟩) 2 H,sg 1 o] (U.st 6 rfl ?_)⟩;intro v32 U;refine nx<|tlr 106 [iU 0,iU 1,iU 1,iU 0,iU 0,iU 0,iU 0,iU 0,iU 0,iU 16,.slice (some ⟨G,0,none⟩) 2 H,sg 1 o] (U.bk 6 rfl) 0<|tc 107 11 #[.agg #[iU 0,iU 1,iU 1,iU 0,iU 0,iU 0,iU 0,iU 0,iU 0,iU 16,.slice (some ⟨G,0,none⟩) 2 H,sg 1 o]] (uV (A:=[16,100,16,100]) (V:=[17,500,10]) (sp:=sp) (sq:=[]) (L:=yI) (U.bk 1 rfl) (U.bk 5 rfl) rfl gl_p) ?_
 rintro _ v34 ⟨b33,rfl,X,hb,B⟩;replace U:=U.new X hb B;clear X hb B;refine⟨_,rfl,tc 108 14 #[.slice (some ⟨b33,0,none⟩) 148 148] (make_p (nu (U.bk 0 rfl) go_p gl_p) (by decide) ge_p gd_p) ?_⟩;rintro _ v35 ⟨rfl,B⟩;replace U:=U.keep B;clear B;refine⟨_,rfl,tz 5<|nx<|tz 1<|ta 113 [.int .u8 0] 5 (sg 1) (U.nw ?_)⟩;intro v36 g37 U;obtain⟨bb,cc,w5,T,A5,B5⟩:=AP (U.bk 9 rfl) (U.bk 0 rfl) go_y Dd;refine tw 114 (.slice (some ⟨bb,0,none⟩) 133 cc) _ (vg T) ?_
 replace U:=U.keep B5;clear B5 T;refine tc 115 14 #[.slice (some ⟨bb,0,none⟩) 133 cc] (make_d A5 (by decide) ge_d) ?_
 rintro _ v38 ⟨rfl,B⟩;replace U:=U.keep B;clear B;refine⟨_,rfl,tz 5<|nt<|ay [(0,bF),(5,pg g),(8,iI 215),(10,iI 213),(12,iI 212),(14,iI 210)]<|sr<|tz 1<|tc 120 16 #[pg g,iU 16] (EW (th:=true) (er:=0) (rt:=500) (tk:=10) (un:=0) (pe:=2) (jl:=false) (bo:=true) (x0:=10000000000000000000000000000000000000) (x1:=0) (x2:=0) (x3:=0) U.ta.sx ⟨by decide,by decide⟩ (by decide +kernel) rfl (by omega) (by omega)) ?_⟩;rintro _ v46 ⟨aa,ad,O,zq39,M,R,ak,zq40,an,Z,am,zq41,Q,ac,W,zq42,K43,n44,N45,rfl,S,qn44,qN45,v,J,Q0,mq39,h0,Q1,mq40,h1,Q2,mq41,h2,Q3,mq42,h3⟩;have fq39:=ne3 h0 U.ta.size;have fq40:=ne3 h1 U.ta.size;have fq41:=ne3 h2 U.ta.size;have fq42:=ne3 h3 U.ta.size;have L:=U.lt;replace U:=((((U.op S v J).add L Q0 h0).add L Q1 h1).add L Q2 h2).add L Q3 h3;clear L S v J Q0 h0 Q1 h1 Q2 h2 Q3 h3;refine⟨_,rfl,tz 3<|ta 15 [iU 0,iU 0,zS,bF,iU 0,bF,iU 0,zS,zS,zS] 57 (pg) (U.nw ?_)⟩;intro v47 g48 U;refine tsw (U.bk 0 rfl) [iU 500,iU 10,.slice aa ad O,bF,iU 0,bT,iU 2,.slice M R ak,.slice an Z am,.slice Q ac W] (U.st 0 rfl ?_);intro v49 U;refine tz 1<|nx<|tz 19<|tl 142 (bT) (U.bk 0 rfl) 5<|tz 3<|tl 146 (iU 500) (U.bk 0 rfl) 0<|tz 3<|nt<|ay [(0,bT)]<|bh<|ah (bT) (rs1 0) ?_
 exact⟨rfl,Chg.nothing U.ta.cc⟩
end Fo
end Go.Proofs.YtpoifdokmjhclaaGreat
