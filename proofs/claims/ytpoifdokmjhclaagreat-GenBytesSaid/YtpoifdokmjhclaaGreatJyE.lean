import Derived.Test.YtpoifdokmjhclaaGreatJyD
set_option maxRecDepth 100000
set_option maxHeartbeats 8000000
namespace Go.Proofs.YtpoifdokmjhclaaGreat
section
namespace Fo
open Go.RowKit Go.Lib Pg Lim Gl Kv Bk Pw Sd Di
attribute [local go_sem] Oper.semAt_some
set_option linter.unusedVariables false
set_option linter.unusedSimpArgs false
section
variable {n g B N n0 c0 z0 n2 c2 z2 n3 c3 z3:Nat}{w:World}{fn:Func}{v:Value}{t t':Array Value}{R:Ending->World->Prop}{K:Nat->Prop}{W:List aD}{a0 a2 a3:Option Addr}
def e13:aD:=jz e3 17 0
theorem G1{P:Program}{l:Fr}(j k m:Nat){T T2:TypeId}{e:Nat}{u x:Value}(h:fn.results=#[.cell j T,.cell k T2,.tmp m])(hu:lk l j=some (pg g))(hv:lk l k=some (pg e))(hx:lk l m=some x)(i:(loadVar T ⟨g,0,none⟩).run P w=.ok u w)(b:(loadVar T2 ⟨e,0,none⟩).run P w=.ok v w)(a:Act)(r:Rd n [] l a):(results fn a.tmps).run P w=.ok (.tuple #[u,v,x]) w:=by
 have f:=r.gD hu;have c:=r.gD hv;have d:=r.gD hx;simp at f c d;simp[results,h,f,c,d,asAddr,i,b]
theorem jw{P:Program}(h:results fn t=results fn t'):∀ (ds:List Deferred) (u:FrameMode) (w:World),Leaves P fn t R ds u w->Leaves P fn t' R ds u w
 | [],.returning,_=>λk=>⟨k.choose,by rw[<- h];exact k.choose_spec.1,k.choose_spec.2⟩
 | [],.panicking _,_=>id
 | [],.run,_=>id
 | d :: ds,u,w=>by
  rintro⟨hu,fv,cap,f,args,h1,h2,h3⟩;refine⟨hu,fv,cap,f,args,h1,h2,h3.mono ?_⟩;intro e u' w' he
  cases e with
  | returned v=>exact jw h ds _ _ he
  | panicked c=>exact jw h ds _ _ he
  | outgrown=>exact he
theorem hQd{P:Program}{j k d:Nat}{T T2:TypeId}(hr:fn.results=#[.cell j T,.cell k T2])(h1:d≠j)(b:d≠k)(c:_)(a:Act)(w:World)(h:bodyPostD P fn R (.panic c) (a.put (some d) v) w):bodyPostD P fn R (.panic c) a w:=by
 refine jw ?_ _ _ _ h
 have e:∀ i,d≠i->(a.put (some d) v).tmps.getD i undef=a.tmps.getD i undef:=λi hi=>by
  show (a.tmps.setIfInBounds d v).getD i undef=_
  simp only[Array.getD_eq_getD_getElem?,Array.getElem?_setIfInBounds_ne hi]
 have e1:=e j h1;have e2:=e k b;generalize (a.put (some d) v).tmps=A at e1 e2 ⊢;simp at e1 e2;simp[results,hr,e1,e2]
theorem bind_l(h:Sx B w K g e4 W n N)(q:Nk w K z0 a0 n0 c0 0)(m0:n0<=300)(Q2:Nk w K z2 a2 n2 c2 0)(m2:n2<=300)(O:Nk w K z3 a3 n3 c3 0)(m3:n3<=300)(hn:n<=1000000)(hN:N<=1000000):CP 96 #[.agg #[iU 16,iU 16,iU 500,iU 0,.slice a0 n0 c0,bF,iU 0,bF,iU 1,zS,.slice a2 n2 c2,.slice a3 n3 c3,zS,iU 0,zS,bF],pg g,iU 16,iU 10] w (λe w'=>∃ b0 k0 d0 y0 b1 k1 d1 y1 b2 k2 d2 y2 K' n' N',e=.returned (.tuple #[.agg #[.slice b0 k0 d0],.agg #[iU 16,iU 16,iU 0,zS,.slice b1 k1 d1,.slice b2 k2 d2,iU 10],iI 0])/\Sx B w' K' g e12 W n' N'/\n'<=n+4000/\N'<=N+4000/\(∀ b,K' b->K b\/w.heap.size<=b)/\Chg K w w'/\Nq w' K' y0 b0 k0 d0 10000000000000000000000000000000000000/\k0<=20000/\(k0=0\/w.heap.size<=y0)/\Nq w' K' y1 b1 k1 d1 10000000000000000000000000000000000000/\k1<=20000/\(k1=0\/w.heap.size<=y1)/\Nq w' K' y2 b2 k2 d2 10000000000000000000000000000000000000/\k2<=20000/\(k2=0\/w.heap.size<=y2)):=by
 have U:=dR h;refine af (n:=46) Tryz.func96 rfl ?_
 refine sr<|ta 4 [iU 16,iU 16,iU 500,iU 0,.slice a0 n0 c0,bF,iU 0,bF,iU 1,zS,.slice a2 n2 c2,.slice a3 n3 c3,zS,iU 0,zS,bF] 183 (pg) (U.nw ?_)
 intro v1 g2 U;refine ta 8 [zS] 55 (pg) (U.nw ?_);intro v3 G U;refine ta 9 cl3 185 (pg) (U.nw ?_);intro v5 x U;refine tz 1<|nx<|tz 2<|tl 16 (iU 0) (U.bk 2 rfl) 3<|tz 2<|tlr 19 [.slice a0 n0 c0] (U.bk 2 rfl) 4<|tz 1<|tc 21 141 #[iU 0,.agg #[.slice a0 n0 c0],iU 10] (Af (tk:=0) (sh:=10) (q.op U.ta.km U.ta.cc).nat ⟨by decide,by decide⟩) ?_
 rintro _ v8 ⟨d,c,a,aa,rfl,M,h,ac,B⟩;have u:=ne3 h U.ta.size;have U:=U.num M h B;have U:=U.val 0 rfl (show _=(10000000000000000000000000000000000000:Int) by decide +kernel);refine⟨_,rfl,tz 3<|ta 11 [zS] 55 (pg) (U.nw ?_)⟩;intro v9 r U;refine tsw (U.bk 0 rfl) [.slice d c a] (U.st 0 rfl ?_);intro v11 U;refine tz 1<|nt<|aA [(1,pg g),(2,iU 16),(3,iU 10),(4,pg g2),(8,pg G),(9,pg x),(10,iI 0),(11,pg r),(12,iI 0)]<|ag<|sr<|tz 2<|nt<|nk<|ag<|sr<|tz 2<|tlr 31 [iU 16,iU 16,iU 500,iU 0,.slice a0 n0 c0,bF,iU 0,bF,iU 1,zS,.slice a2 n2 c2,.slice a3 n3 c3,zS,iU 0,zS,bF] (U.bk 3 rfl) 0<|tc 32 143 #[.agg #[iU 16,iU 16,iU 500,iU 0,.slice a0 n0 c0,bF,iU 0,bF,iU 1,zS,.slice a2 n2 c2,.slice a3 n3 c3,zS,iU 0,zS,bF]] (qw) ?_
 rintro _ ae ⟨rfl,B⟩;have U:=U.keep B;refine⟨_,rfl,tz 1<|tc 34 142 #[pg g,iU 16,iU 3,iU 10] (nN (nO U.ta.sx ⟨by decide,by decide⟩ ⟨by decide,by decide⟩ ⟨by decide,by decide⟩) (show eB e4 16 3 10=e5 from rfl) (show dG e4 16 3 10=0 by decide +kernel)) ?_⟩;rintro _ Z ⟨rfl,V,X,ab,S,E,H,t,s⟩;have U:=U.op S t s;refine⟨_,rfl,tz 1<|nx<|tz 2<|nt<|nk<|ag ?_⟩;have U:=U.drew;refine gd2 (U.bk 0 rfl) (U.bk 3 rfl) ?_
 refine zlr 0 40 [.slice d c a] (λ_ h=>h.1) 0<|zlr 1 41 [iU 16,iU 16,iU 500,iU 0,.slice a0 n0 c0,bF,iU 0,bF,iU 1,zS,.slice a2 n2 c2,.slice a3 n3 c3,zS,iU 0,zS,bF] (λ_ h=>h.2) 0<|z 2 42 (pg g)<|z 3 43 (iU 10)<|zlr 4 44 [.slice d c a] (λ_ h=>h.1) 0<|zc 5 45 144 #[.agg #[iU 16,iU 16,iU 500,iU 0,.slice a0 n0 c0,bF,iU 0,bF,iU 1,zS,.slice a2 n2 c2,.slice a3 n3 c3,zS,iU 0,zS,bF],pg g,iU 10,.agg #[.slice d c a]] (join_l U.ta.sx (q.op U.ta.km U.ta.cc) (by omega) (Q2.op U.ta.km U.ta.cc) (by omega) (O.op U.ta.km U.ta.cc) (by omega) (U.nq 0 rfl).nk (by omega) (by omega) (by omega)) ?_
 rintro _ Y ⟨j,m,k,C,l,i,f,A,ad,R,Q,rfl,S,v,y,t,s,q,F,I,Q1,D,J⟩;have o:=ne3 I U.ta.size;have p:=ne3 J U.ta.size;have L:=U.lt;have U:=((U.op S t s).add L q I).add L Q1 J;refine⟨_,rfl,⟨(U.bk 0 rfl),(U.bk 3 rfl)⟩,zsw 6 (U.bk 2 rfl) [.slice d c a] (U.st 2 rfl ?_)⟩;intro P U;refine⟨⟨(U.bk 0 rfl),(U.bk 3 rfl)⟩,zsw 7 (U.bk 1 rfl) [iU 16,iU 16,iU 0,zS,.slice j m k,.slice l i f,iU 10] (U.st 1 rfl ?_)⟩;intro v25 U;refine⟨⟨(U.bk 0 rfl),(U.bk 3 rfl)⟩,z 8 10 (iI 0)<|aS<|aj<|aA [(8,pg G),(9,pg x),(10,iI 0)]<|bB<|ah (.tuple #[.agg #[.slice d c a],.agg #[iU 16,iU 16,iU 0,zS,.slice j m k,.slice l i f,iU 10],iI 0]) (G1 8 9 10 (T:=55) (T2:=185) (by kernel_rfl) (by kernel_rfl) (by kernel_rfl) (by kernel_rfl) (lr (U.bk 2 rfl) 0) (lr (U.bk 1 rfl) 0)) ?_⟩;exact⟨_,_,_,_,_,_,_,_,_,_,_,_,_,_,_,rfl,U.ta.sx,by omega,by omega,U.ta.km,U.ta.cc,(U.nq 2 rfl),by omega,u,(U.nq 1 rfl),by omega,o,(U.nq 0 rfl),by omega,p⟩
theorem bind_n(h:Sx B w K g e13 W n N)(C:Nk w K z0 a0 n0 c0 0)(m0:n0<=300)(L:Nk w K z2 a2 n2 c2 0)(H:n2<=300)(F:Nk w K z3 a3 n3 c3 0)(D:n3<=300)(hn:n<=1000000)(O:N<=1000000):CP 96 #[.agg #[iU 17,iU 17,iU 500,iU 0,.slice a0 n0 c0,bF,iU 0,bF,iU 1,zS,.slice a2 n2 c2,.slice a3 n3 c3,zS,iU 0,zS,bF],pg g,iU 17,iU 10] w (λe w'=>∃ K' n' N',e=.returned (.tuple #[.agg #[zS],.agg #[iU 0,iU 0,iU 0,zS,zS,zS,iU 0],iI 90])/\Sx B w' K' g e13 W n' N'/\n'<=n+4000/\N'<=N+4000/\(∀ b,K' b->K b\/w.heap.size<=b)/\Chg K w w'):=by
 have U:=dR h;refine af (n:=46) Tryz.func96 rfl ?_
 refine sr<|ta 4 [iU 17,iU 17,iU 500,iU 0,.slice a0 n0 c0,bF,iU 0,bF,iU 1,zS,.slice a2 n2 c2,.slice a3 n3 c3,zS,iU 0,zS,bF] 183 (pg) (U.nw ?_)
 intro v1 m U;refine ta 8 [zS] 55 (pg) (U.nw ?_);intro I j U;refine ta 9 cl3 185 (pg) (U.nw ?_);intro J l U;refine tz 1<|nx<|tz 2<|tl 16 (iU 0) (U.bk 2 rfl) 3<|tz 2<|tlr 19 [.slice a0 n0 c0] (U.bk 2 rfl) 4<|tz 1<|tc 21 141 #[iU 0,.agg #[.slice a0 n0 c0],iU 10] (Af (tk:=0) (sh:=10) (C.op U.ta.km U.ta.cc).nat ⟨by decide,by decide⟩) ?_
 rintro _ G ⟨f,c,d,o,rfl,M,h,q,B⟩;have y:=ne3 h U.ta.size;have U:=U.num M h B;have U:=U.val 0 rfl (show _=(10000000000000000000000000000000000000:Int) by decide +kernel);refine⟨_,rfl,tz 3<|ta 11 [zS] 55 (pg) (U.nw ?_)⟩;intro E a U;refine tsw (U.bk 0 rfl) [.slice f c d] (U.st 0 rfl ?_);intro v11 U;refine tz 1<|nt<|aA [(1,pg g),(2,iU 17),(3,iU 10),(4,pg m),(8,pg j),(9,pg l),(10,iI 0),(11,pg a),(12,iI 0)]<|ag<|sr<|tz 2<|nt<|nk<|ag<|sr<|tz 2<|tlr 31 [iU 17,iU 17,iU 500,iU 0,.slice a0 n0 c0,bF,iU 0,bF,iU 1,zS,.slice a2 n2 c2,.slice a3 n3 c3,zS,iU 0,zS,bF] (U.bk 3 rfl) 0<|tc 32 143 #[.agg #[iU 17,iU 17,iU 500,iU 0,.slice a0 n0 c0,bF,iU 0,bF,iU 1,zS,.slice a2 n2 c2,.slice a3 n3 c3,zS,iU 0,zS,bF]] (qw) ?_
 rintro _ t ⟨rfl,B⟩;have U:=U.keep B;refine⟨_,rfl,tz 1<|tc 34 142 #[pg g,iU 17,iU 3,iU 10] (nN (nO U.ta.sx ⟨by decide,by decide⟩ ⟨by decide,by decide⟩ ⟨by decide,by decide⟩) (show eB e13 17 3 10=e13 by decide +kernel) (show dG e13 17 3 10=90 by decide +kernel)) ?_⟩;rintro _ z ⟨rfl,r,u,p,S,i,k,v,s⟩;have U:=U.op S v s;refine⟨_,rfl,tz 1<|nx<|tz 2<|nt<|aL<|sr<|tz 3<|tsw (U.bk 2 rfl) [zS] (U.st 2 rfl ?_)⟩;intro A U;refine tsw (U.bk 1 rfl) cl3 (U.st 1 rfl ?_);intro x U;refine tz 1<|nt<|aA [(1,pg g),(3,iU 10),(4,pg m),(8,pg j),(9,pg l),(10,iI 90),(11,pg a)]<|bB<|bE<|ah (.tuple #[.agg #[zS],.agg #[iU 0,iU 0,iU 0,zS,zS,zS,iU 0],iI 90]) (G1 8 9 10 (T:=55) (T2:=185) (by kernel_rfl) (by kernel_rfl) (by kernel_rfl) (by kernel_rfl) (lr (U.bk 2 rfl) 0) (lr (U.bk 1 rfl) 0)) ?_
 exact⟨_,_,_,rfl,U.ta.sx,by omega,by omega,U.ta.km,U.ta.cc⟩
theorem AQ(h:Sx B w K g e3 [] n N)(hn:n<=500000)(hN:N<=500000):CP 68 #[pg g,iU 16,iU 500,iU 10] w (λe w'=>∃ b0 k0 d0 y0 K' n' N',e=.returned (.tuple #[.agg #[.slice b0 k0 d0],iI 0])/\Sx B w' K' g e12 [] n' N'/\n'<=n+6000/\N'<=N+6000/\(∀ b,K' b->K b\/w.heap.size<=b)/\Chg K w w'/\Nq w' K' y0 b0 k0 d0 10000000000000000000000000000000000000/\k0<=20000/\(k0=0\/w.heap.size<=y0)):=by
 have U:=dR h;refine ph (n:=57) Tryz.func68 rfl ?_
 refine sr<|ta 8 [zS] 55 (pg) (U.nw ?_)
 intro v1 g2 U;refine ta 9 [iI 0] 33 (pg) (U.nw ?_);intro v3 O U;refine nx<|tz 1 ?_
 have HC:CP 93 #[pg g] v3 (λe w'=>∃ H K' n' N',e=.returned (.func (.func 135) #[] #[pg H])/\Ut w K B g (e3 :: []) w' K' e3 n' N' [(H,[pg g],46),(O,[iI 0],33),(g2,[zS],55)] []/\(n'<=n+100/\N'<=N+100)):=by
  refine af (n:=9) Tryz.func93 rfl ?_
  refine sr<|ta 1 [pg g] 46 (pg) (U.nw ?_)
  intro v5 H U;refine tz 1<|nt<|ag<|sr<|tl 3 (pg g) (U.bk 0 rfl) 0<|tc 4 133 #[pg g] (Dp U.ta.sx) ?_
  rintro _ v8 ⟨rfl,K7,S,E,D⟩;have U:=U.opW S E D;refine⟨_,rfl,tz 1<|nt<|nk<|sr<|tz 2<|nr<|ah (.func (.func 135) #[] #[pg H]) (rs1 2) ?_⟩;exact⟨_,_,_,_,rfl,U.sel [0,1,2] [],⟨by (try dsimp only);omega,by (try dsimp only);omega⟩⟩
 refine tc 14 93 #[pg g] (HC) ?_
 rintro _ v12 ⟨H,K9,n10,N11,rfl,U,⟨qn10,qN11⟩⟩;refine⟨_,rfl,td ⟨.fn (.func 135) #[pg H],#[pg O]⟩ ?_⟩;refine nx<|tz 2<|tc 18 16 #[pg g,iU 16] (Gd (th:=false) (er:=80) (rt:=0) (tk:=0) (un:=0) (pe:=0) (jl:=false) (bo:=false) (x0:=0) (x1:=0) (x2:=0) (x3:=0) U.ta.sx ⟨by decide,by decide⟩ (by decide +kernel) rfl) ?_
 rintro _ v20 ⟨x,F,s,ad,v,y,C,Z,G,r,t,zq15,z,A,u,aa,K17,n18,N19,rfl,S,qn18,qN19,E,D,Q0,mq13,J,Q1,mq14,M,Q2,mq15,I,Q3,mq16,h3⟩;have fq13:=ne3 J U.ta.size;have fq14:=ne3 M U.ta.size;have fq15:=ne3 I U.ta.size;have fq16:=ne3 h3 U.ta.size;have L:=U.lt;have U:=((((U.op S E D).add L Q0 J).add L Q1 M).add L Q2 I).add L Q3 h3;refine⟨_,rfl,tz 3<|ta 10 cl4 57 (pg) (U.nw ?_)⟩;intro v21 g22 U;refine tsw (U.bk 0 rfl) [iU 0,iU 0,.slice x F s,bF,iU 0,bF,iU 0,.slice v y C,.slice G r t,.slice z A u] (U.st 0 rfl ?_);intro v23 U;refine tz 1<|nt<|aA [(0,pg g),(1,iU 16),(2,iU 500),(3,iU 10),(8,pg g2),(9,pg O),(11,bF)]<|ag<|aB<|sr<|tz 2<|nt<|aX<|sr<|tz 2<|tc 27 87 #[iI 9,iU 16,iU 0] (yz ⟨by decide,by decide⟩ (by kernel_rfl)) ?_
 rintro _ v26 ⟨X,rfl,Y24,b⟩;have U:=U.keep b;refine⟨_,rfl,?_⟩;refine tc 28 94 #[pg g,X] (wP (xhas U.ta.sx Y24) (show (Kv.look e3 (Ky.mk 9 16 0)).isSome=false by decide +kernel)) ?_
 rintro _ v28 ⟨rfl,K27,S,E,D⟩;have U:=U.op S E D;refine⟨_,rfl,tz 1<|nt<|aX<|sr<|tz 3<|nt<|aX<|sr<|tz 3<|nt<|aA [(0,pg g),(1,iU 16),(2,iU 500),(3,iU 10),(8,pg g2),(9,pg O),(34,bF)]<|aX<|aT<|cX<|aj<|sr<|tz 6<|tc 44 95 #[pg g,iU 16,.agg #[iU 500,iU 0,zS,bF,iU 0,bF,iU 0,zS,zS,zS]] (pC U.ta.sx ⟨by decide,by decide⟩ (dE _ _).nk (dE _ _).nk (dE _ _).nk (dE _ _).nk) ?_⟩;rintro _ v35 ⟨o,p,m,R,q,j,l,ae,i,k,f,Q,K32,n33,N34,rfl,S,qn33,qN34,E,D,Q0,mq29,J,Q1,mq30,M,Q2,mq31,I⟩;have fq29:=ne3 J U.ta.size;have fq30:=ne3 M U.ta.size;have fq31:=ne3 I U.ta.size;have L:=U.lt;have U:=(((U.op S E D).add L Q0 J).add L Q1 M).add L Q2 I;refine⟨_,rfl,tz 1<|ta 12 cl2 183 (pg) (U.nw ?_)⟩;intro v36 g37 U;refine tsw (U.bk 0 rfl) [iU 16,iU 16,iU 500,iU 0,.slice o p m,bF,iU 0,bF,iU 1,zS,.slice q j l,.slice i k f,zS,iU 0,zS,bF] (U.st 0 rfl ?_);intro v38 U;refine nx<|tlr 47 [iU 16,iU 16,iU 500,iU 0,.slice o p m,bF,iU 0,bF,iU 1,zS,.slice q j l,.slice i k f,zS,iU 0,zS,bF] (U.bk 0 rfl) 0<|tz 3<|tc 51 96 #[.agg #[iU 16,iU 16,iU 500,iU 0,.slice o p m,bF,iU 0,bF,iU 1,zS,.slice q j l,.slice i k f,zS,iU 0,zS,bF],pg g,iU 16,iU 10] (bind_l U.ta.sx (U.nq 2 rfl).nk (by omega) (U.nq 1 rfl).nk (by omega) (U.nq 0 rfl).nk (by omega) (by omega) (by omega)) ?_
 rintro _ v45 ⟨d,c,a,V,P,Y,W,ab,aq41,ak,cq41,ac,K42,n43,N44,rfl,S,qn43,qN44,E,D,Q0,mq39,J,Q1,mq40,M,Q2,mq41,I⟩;have ai:=ne3 J U.ta.size;have fq40:=ne3 M U.ta.size;have fq41:=ne3 I U.ta.size;have L:=U.lt;have U:=(((U.op S E D).add L Q0 J).add L Q1 M).add L Q2 I;refine⟨_,rfl,tz 4<|tsw (U.bk 4 rfl) [.slice d c a] (U.st 4 rfl ?_)⟩;intro v46 U;refine ts1 (U.bk 3 rfl) (iI 0) (U.st 3 rfl ?_);intro v47 U;refine nt<|aA [(8,pg g2),(9,pg O)]<|ag ?_
 have U:=U.drew;refine gd2 (U.bk 4 rfl) (U.bk 3 rfl) ?_
 refine zlr 0 55 [.slice d c a] (λ_ h=>h.1) 0 ?_ (hQ:=hQd rfl (by decide) (by decide));refine zl 1 56 (iI 0) (λ_ h=>h.2) 0 ?_ (hQ:=hQd rfl (by decide) (by decide));refine zsw 2 (U.bk 4 rfl) [.slice d c a] (U.st 4 rfl ?_);intro v48 U;refine⟨⟨(U.bk 4 rfl),(U.bk 3 rfl)⟩,zs 3 (U.bk 3 rfl) 0 (iI 0) [iI 0] [iI 0] (U.st 3 rfl ?_)⟩;intro v49 U;refine⟨⟨(U.bk 4 rfl),(U.bk 3 rfl)⟩,aS<|aj<|bB ?_⟩
 have HC:CallsD Tryz.prog 135 #[pg O,pg H] .returning v49 λe u' w'=>u'=.returning/\(∃  K' n' N',e=.returned (.tuple #[])/\Ut w K B g [] w' K' e12 n' N' [(g37,[iU 16,iU 16,iU 500,iU 0,.slice o p m,bF,iU 0,bF,iU 1,zS,.slice q j l,.slice i k f,zS,iU 0,zS,bF],183),(g22,[iU 0,iU 0,.slice x F s,bF,iU 0,bF,iU 0,.slice v y C,.slice G r t,.slice z A u],57),(H,[pg g],46),(O,[iI 0],33),(g2,[.slice d c a],55)] [(ac,aq41,ak,cq41,10000000000000000000000000000000000000),(ab,P,Y,W,10000000000000000000000000000000000000),(V,d,c,a,10000000000000000000000000000000000000),(Q,i,k,f,0),(ae,q,j,l,0),(R,o,p,m,0),(aa,z,A,u,0),(zq15,G,r,t,0),(Z,v,y,C,0),(ad,x,F,s,0)]/\(n'<=n + 4200/\N'<=N + 4200)):=by
  refine oR (n:=11) Tryz.func135 rfl ?_
  refine ag<|sr<|tz 2<|tl 5 (iI 0) (U.bk 3 rfl) 0<|tz 1<|nt<|nk<|aN<|tl 9 (pg g) (U.bk 2 rfl) 0<|tc 10 137 #[pg g] (Fz U.ta.sx (by omega)) ?_
  rintro _ v51 ⟨rfl,K50,S,E,D⟩;have U:=U.opW S E D;refine⟨_,rfl,aO<|bh (.tuple #[]) (rs0) ?_⟩;exact⟨_,_,_,rfl,U.sel [0,1,2,3,4] [0,1,2,3,4,5,6,7,8,9],⟨by (try dsimp only);omega,by (try dsimp only);omega⟩⟩
 refine xh (by kernel_rfl) HC ?_
 rintro _ v55 ⟨K52,n53,N54,rfl,U,⟨qn53,qN54⟩⟩;refine⟨_,.tuple #[.agg #[.slice d c a],iI 0],rfl,FC (T:=55) (T2:=33) 8 9 (lr (U.bk 4 rfl) 0) (l1 (U.bk 3 rfl) 0),?_⟩;exact⟨_,_,_,_,_,_,_,rfl,U.ta.sx,by omega,by omega,U.ta.km,U.ta.cc,(U.nq 2 rfl),by omega,ai⟩
theorem Ay(h:Sx B w K g e3 [] n N)(hn:n<=500000)(hN:N<=500000):CP 68 #[pg g,iU 17,iU 500,iU 10] w (λe w'=>∃ K' n' N',e=.returned (.tuple #[.agg #[zS],iI 90])/\Sx B w' K' g e3 [] n' N'/\n'<=n+6000/\N'<=N+6000/\(∀ b,K' b->K b\/w.heap.size<=b)/\Chg K w w'):=by
 have U:=dR h;refine ph (n:=57) Tryz.func68 rfl ?_
 refine sr<|ta 8 [zS] 55 (pg) (U.nw ?_)
 intro v1 V U;refine ta 9 [iI 0] 33 (pg) (U.nw ?_);intro v3 F U;refine nx<|tz 1 ?_
 have HC:CP 93 #[pg g] v3 (λe w'=>∃ E K' n' N',e=.returned (.func (.func 135) #[] #[pg E])/\Ut w K B g (e3 :: []) w' K' e3 n' N' [(E,[pg g],46),(F,[iI 0],33),(V,[zS],55)] []/\(n'<=n+100/\N'<=N+100)):=by
  refine af (n:=9) Tryz.func93 rfl ?_
  refine sr<|ta 1 [pg g] 46 (pg) (U.nw ?_)
  intro v5 E U;refine tz 1<|nt<|ag<|sr<|tl 3 (pg g) (U.bk 0 rfl) 0<|tc 4 133 #[pg g] (Dp U.ta.sx) ?_
  rintro _ v8 ⟨rfl,K7,S,A,z⟩;have U:=U.opW S A z;refine⟨_,rfl,tz 1<|nt<|nk<|sr<|tz 2<|nr<|ah (.func (.func 135) #[] #[pg E]) (rs1 2) ?_⟩;exact⟨_,_,_,_,rfl,U.sel [0,1,2] [],⟨by (try dsimp only);omega,by (try dsimp only);omega⟩⟩
 refine tc 14 93 #[pg g] (HC) ?_
 rintro _ v12 ⟨E,K9,n10,N11,rfl,U,⟨qn10,qN11⟩⟩;refine⟨_,rfl,td ⟨.fn (.func 135) #[pg E],#[pg F]⟩ ?_⟩;refine nx<|tz 2<|tc 18 16 #[pg g,iU 17] (Gd (th:=false) (er:=80) (rt:=0) (tk:=0) (un:=0) (pe:=0) (jl:=false) (bo:=false) (x0:=0) (x1:=0) (x2:=0) (x3:=0) U.ta.sx ⟨by decide,by decide⟩ (by decide +kernel) rfl) ?_
 rintro _ v20 ⟨t,C,p,P,s,u,y,J,D,o,q,W,v,x,r,M,K17,n18,N19,rfl,S,qn18,qN19,A,z,Q0,mq13,R,Q1,mq14,X,Q2,mq15,O,Q3,mq16,h3⟩;have fq13:=ne3 R U.ta.size;have fq14:=ne3 X U.ta.size;have fq15:=ne3 O U.ta.size;have fq16:=ne3 h3 U.ta.size;have L:=U.lt;have U:=((((U.op S A z).add L Q0 R).add L Q1 X).add L Q2 O).add L Q3 h3;refine⟨_,rfl,tz 3<|ta 10 cl4 57 (pg) (U.nw ?_)⟩;intro v21 g22 U;refine tsw (U.bk 0 rfl) [iU 0,iU 0,.slice t C p,bF,iU 0,bF,iU 0,.slice s u y,.slice D o q,.slice v x r] (U.st 0 rfl ?_);intro v23 U;refine tz 1<|nt<|aA [(0,pg g),(1,iU 17),(2,iU 500),(3,iU 10),(8,pg V),(9,pg F),(11,bF)]<|ag<|aB<|sr<|tz 2<|nt<|aX<|sr<|tz 2<|tc 27 87 #[iI 9,iU 17,iU 0] (yz ⟨by decide,by decide⟩ (by kernel_rfl)) ?_
 rintro _ v26 ⟨I,rfl,Z,b⟩;have U:=U.keep b;refine⟨_,rfl,?_⟩;refine tc 28 94 #[pg g,I] (wP (xhas U.ta.sx Z) (show (Kv.look e3 (Ky.mk 9 17 0)).isSome=false by decide +kernel)) ?_
 rintro _ v28 ⟨rfl,K27,S,A,z⟩;have U:=U.op S A z;refine⟨_,rfl,tz 1<|nt<|aX<|sr<|tz 3<|nt<|aX<|sr<|tz 3<|nt<|aA [(0,pg g),(1,iU 17),(2,iU 500),(3,iU 10),(8,pg V),(9,pg F),(34,bF)]<|aX<|aT<|cX<|aj<|sr<|tz 6<|tc 44 95 #[pg g,iU 17,.agg #[iU 500,iU 0,zS,bF,iU 0,bF,iU 0,zS,zS,zS]] (pC U.ta.sx ⟨by decide,by decide⟩ (dE _ _).nk (dE _ _).nk (dE _ _).nk (dE _ _).nk) ?_⟩;rintro _ v35 ⟨k,l,j,H,m,d,i,Q,c,f,a,G,K32,n33,N34,rfl,S,qn33,qN34,A,z,Q0,mq29,R,Q1,mq30,X,Q2,mq31,O⟩;have fq29:=ne3 R U.ta.size;have fq30:=ne3 X U.ta.size;have fq31:=ne3 O U.ta.size;have L:=U.lt;have U:=(((U.op S A z).add L Q0 R).add L Q1 X).add L Q2 O;refine⟨_,rfl,tz 1<|ta 12 cl2 183 (pg) (U.nw ?_)⟩;intro v36 aa U;refine tsw (U.bk 0 rfl) [iU 17,iU 17,iU 500,iU 0,.slice k l j,bF,iU 0,bF,iU 1,zS,.slice m d i,.slice c f a,zS,iU 0,zS,bF] (U.st 0 rfl ?_);intro v38 U;refine nx<|tlr 47 [iU 17,iU 17,iU 500,iU 0,.slice k l j,bF,iU 0,bF,iU 1,zS,.slice m d i,.slice c f a,zS,iU 0,zS,bF] (U.bk 0 rfl) 0<|tz 3<|tc 51 96 #[.agg #[iU 17,iU 17,iU 500,iU 0,.slice k l j,bF,iU 0,bF,iU 1,zS,.slice m d i,.slice c f a,zS,iU 0,zS,bF],pg g,iU 17,iU 10] (bind_n U.ta.sx (U.nq 2 rfl).nk (by omega) (U.nq 1 rfl).nk (by omega) (U.nq 0 rfl).nk (by omega) (by omega) (by omega)) ?_
 rintro _ v42 ⟨K39,n40,N41,rfl,S,qn40,qN41,A,z⟩;have L:=U.lt;have U:=U.op S A z;refine⟨_,rfl,tz 4<|tsw (U.bk 4 rfl) [zS] (U.st 4 rfl ?_)⟩;intro v43 U;refine ts1 (U.bk 3 rfl) (iI 90) (U.st 3 rfl ?_);intro v44 U;refine nt<|aA [(8,pg V),(9,pg F)]<|ag ?_
 have U:=U.drew;refine gd2 (U.bk 4 rfl) (U.bk 3 rfl) ?_
 refine zlr 0 55 [zS] (λ_ h=>h.1) 0 ?_ (hQ:=hQd rfl (by decide) (by decide));refine zl 1 56 (iI 90) (λ_ h=>h.2) 0 ?_ (hQ:=hQd rfl (by decide) (by decide));refine zsw 2 (U.bk 4 rfl) [zS] (U.st 4 rfl ?_);intro v45 U;refine⟨⟨(U.bk 4 rfl),(U.bk 3 rfl)⟩,zs 3 (U.bk 3 rfl) 0 (iI 90) [iI 90] [iI 90] (U.st 3 rfl ?_)⟩;intro Y U;refine⟨⟨(U.bk 4 rfl),(U.bk 3 rfl)⟩,aS<|aj<|bB ?_⟩
 have HC:CallsD Tryz.prog 135 #[pg F,pg E] .returning Y λe u' w'=>u'=.returning/\(∃  K' n' N',e=.returned (.tuple #[])/\Ut w K B g [] w' K' e3 n' N' [(aa,[iU 17,iU 17,iU 500,iU 0,.slice k l j,bF,iU 0,bF,iU 1,zS,.slice m d i,.slice c f a,zS,iU 0,zS,bF],183),(g22,[iU 0,iU 0,.slice t C p,bF,iU 0,bF,iU 0,.slice s u y,.slice D o q,.slice v x r],57),(E,[pg g],46),(F,[iI 90],33),(V,[zS],55)] [(G,c,f,a,0),(Q,m,d,i,0),(H,k,l,j,0),(M,v,x,r,0),(W,D,o,q,0),(J,s,u,y,0),(P,t,C,p,0)]/\(n'<=n + 4200/\N'<=N + 4200)):=by
  refine oR (n:=11) Tryz.func135 rfl ?_
  refine ag<|sr<|tz 2<|tl 5 (iI 90) (U.bk 3 rfl) 0<|tz 1<|nt<|aL<|sr<|tl 7 (pg g) (U.bk 2 rfl) 0<|tc 8 136 #[pg g] (yd U.ta.sx (by omega)) ?_
  rintro _ v48 ⟨rfl,K47,S,A,z⟩;have U:=U.opW S A z;refine⟨_,rfl,nr<|bE<|ah (.tuple #[]) (rs0) ?_⟩;exact⟨_,_,_,rfl,U.sel [0,1,2,3,4] [0,1,2,3,4,5,6],⟨by (try dsimp only);omega,by (try dsimp only);omega⟩⟩
 refine xh (by kernel_rfl) HC ?_
 rintro _ v52 ⟨K49,n50,N51,rfl,U,⟨qn50,qN51⟩⟩;refine⟨_,.tuple #[.agg #[zS],iI 90],rfl,FC (T:=55) (T2:=33) 8 9 (lr (U.bk 4 rfl) 0) (l1 (U.bk 3 rfl) 0),?_⟩;exact⟨_,_,_,rfl,U.ta.sx,by omega,by omega,U.ta.km,U.ta.cc⟩
end
end Fo
end
section
namespace Pw
open Go.RowKit Go.Lib Pg Kv Bk Gl
attribute [local go_sem] Oper.semAt_some
theorem zd:Tryz.prog.underlying 236=some (.map 22 3):=by kernel_rfl
theorem xj:Tryz.prog.underlying 22=some (.int .u64):=by kernel_rfl
section
variable {w:World} {bm clock:Nat} {es:Array MapEntry} {k:Int}
section
variable {r b d since:Nat}{a:Option Nat}{c seen:Array Nat}
theorem isk(k:Int):MapKept.IsKey (.int .u64) (.int .u64 k):=by
 simp[MapKept.IsKey]
theorem EY{r:Option (Nat × Value)}(hb:w.heap[bm]?=some (.map es clock))(hf:Instr.findNow (.int .u64) (.int .u64 k) es.toList 0=some r):(Instr.lookup 236 (.map (some bm)) (.int .u64 k) false).run Tryz.prog w=.ok (match r with | some (_,v)=>v | none=>.int .i64 0) w:=by
 simp only[Instr.lookup,Sem.run_bind,run_underlying zd,Result.andThen_ok,MapKept.run_getObj_map hb,Sem.run_pure,MapKept.run_checkKey xj (isk k),MapKept.run_findKey xj hf]
 cases r with
 | none=>simp
 | some p=>obtain⟨i,v⟩:=p;simp
def sy(w:World)(r:Nat)(o:Obj):World:={ w with heap:=w.heap.setIfInBounds r o }
theorem wB{o o':Obj}(h:w.heap[r]?=some o'):(sy w r o).heap[r]?=some o:=by
 have:=lt_of_block h;simp[sy,this]
theorem sY(r:Nat)(o:Obj):Chg (· = r) w (sy w r o):=⟨rfl,rfl,rfl,by simp[sy],λb _ hb=>by
 have hb':¬ (b=r):=hb;simp only[sy]
 rw[Array.getElem?_setIfInBounds_ne (λe=>hb' e.symm)]⟩
theorem Gq(v:Value)(hb:w.heap[bm]?=some (.map es clock))(hf:Instr.findNow (.int .u64) (.int .u64 k) es.toList 0=some none):(Instr.mapUpdate 236 (.map (some bm)) (.int .u64 k) v).run Tryz.prog w=.ok () (sy w bm (.map (es.push { key:=.int .u64 k,val:=v,born:=clock }) (clock+1))):=by
 simp only[Instr.mapUpdate,Sem.run_bind,run_underlying zd,Result.andThen_ok,MapKept.run_getObj_map hb,MapKept.run_checkKey xj (isk k),MapKept.run_findKey xj hf,MapKept.run_setObj_map _ hb];rfl
theorem C9{o:Obj}(h:w.heap[r]?=some (.mapIter a b c d)):(setObj r o).run Tryz.prog w=.ok () (sy w r o):=by
 simp only[setObj,Sem.run];rw[h];rfl
theorem rY(h:w.heap[r]?=some (.mapIter a b c d)):(getObj r).run Tryz.prog w=.ok (.mapIter a b c d) w:=by
 simp only[getObj,Sem.run];rw[h]
theorem run_nx{c0:Nat}(ty:TypeId)(hr:w.heap[r]?=some (.mapIter (some bm) since seen c0))(hb:w.heap[bm]?=some (.map es clock))(hold:∀ x∈es.toList,x.born < since)(d:since<=c0) :
  ((leftOf es seen).size=0/\(Instr.next (pg r) false ty).run Tryz.prog w=.ok (.tuple #[.bool false]) w) \/
  ∃ e∈(leftOf es seen).toList,∃ w1,(Instr.next (pg r) false ty).run Tryz.prog w=.ok (.tuple #[.bool true,e.key,e.val]) w1/\w1.heap[r]?=some (.mapIter (some bm) since (seen.push e.born) clock)/\Chg (·=r) w w1:=by
 have test:=next_test_false seen es since c0 hold d
 have b:∀ x∈(leftOf es seen).toList,x.born < since:=λx hx=>hold x (mem_left hx).1
 simp only[Instr.next,Sem.run_bind,rY hr,Result.andThen_ok,MapKept.run_getObj_map hb,test,Bool.false_eq_true,if_false];change ((leftOf es seen).size=0/\_)\/_
 rw[show (es.filter λe=>!seen.contains e.born)=leftOf es seen from rfl];obtain⟨L,g⟩:∃ L,leftOf es seen=L:=⟨_,rfl⟩
 rw[g] at b ⊢
 have old:(L.filter λx=>decide (x.born < since))=L:=Array.filter_eq_self.2 (λx hx=>by simpa using b x (by simpa using hx))
 have new:(L.filter λx=>decide (x.born >= since))=#[]:=Array.filter_eq_empty_iff.2 (λx hx=>by have:=b x (by simpa using hx);simp;omega);rw[old,new,Array.append_empty];by_cases f:L.size=0
 ·refine .inl ⟨f,?_⟩;obtain rfl:L=#[]:=Array.eq_empty_of_size_eq_zero f;simp[choose,Sem.run,Question.forced]
 refine .inr ?_
 have ne:L.isEmpty=false:=by simp[Array.isEmpty,f]
 rw[ne]
 have draw:∃ (j:Nat) (w1:World),j < L.size/\(w1=w\/w1=w.drew)/\(choose (Question.mapNext L.size)).run Tryz.prog w=.ok j w1:=by
  by_cases hf:L.size<=1
  ·exact⟨0,w,by omega,.inl rfl,by simp[choose,Sem.run,Question.forced,hf]⟩
  exact⟨_,w.drew,Nat.mod_lt _ (by omega),.inr rfl,by
   simp only[choose,Sem.run,Question.forced,decide_eq_true_eq,hf,if_false,Question.cut]
   rfl⟩
 obtain⟨j,w1,k,hw,a⟩:=draw
 have i:w1.heap[r]?=some (.mapIter (some bm) since seen c0):=by rcases hw with rfl | rfl<;>exact hr
 refine⟨L[j],by simp,sy w1 r (.mapIter (some bm) since (seen.push L[j].born) clock),?_,wB i,?_⟩
 ·simp only[Bool.false_eq_true,if_false,Array.empty_append,Array.size_map,a,Result.andThen_ok,Array.getElem?_map,Array.getElem?_eq_getElem k,Option.map_some,Sem.run_bind,C9 i,Sem.run_pure]
 have c:=sY (w:=w1) r (.mapIter (some bm) since (seen.push L[j].born) clock);rcases hw with rfl | rfl
 ·exact c
 exact(Chg.of (F:=(·=r)) (Below.refl _ _).drew).trans c (λ_ _ h=>h)
theorem Er{e:MapEntry}(hr:w.heap[r]?=some (.mapIter (some bm) since (seen.push e.born) clock))(hb:w.heap[bm]?=some (.map es clock))(he:e∈es.toList)(hn:(es.toList.map (·.born)).Nodup) :
  (Instr.entry (pg r)).run Tryz.prog w=.ok (.tuple #[e.key,e.val]) w:=by
 have hf:es.find? (·.born == e.born)=some e:=by rw[<- Array.find?_toList];exact find_born e es.toList hn he
 simp only[Instr.entry,Sem.run_bind,rY hr,Result.andThen_ok,MapKept.run_getObj_map hb,Array.back?_push,bne_self_eq_false,Bool.false_eq_true,if_false,hf,Sem.run_pure]
end
end
section
variable {P:Program} {n:Nat} {ds:List Deferred} {ops:Array Oper} {Q:Exit->Act->World->Prop} {rest:List Oper} {o:Oper} {l:Fr} {w:World}
theorem tmk (d:Nat) (h:∀ w1 g,w1.heap[g]?=some (.map #[] 0)->w.heap.size<=g->BW w w1->GL P n ds ops Q rest ((d,.map (some g)) :: l) w1) (a:gd ops l o=some true:=by kernel_rfl) (hc:chk n l o (some d)=true:=by kernel_rfl) (hrun:(execOp (evL l) o).run P w=.ok (.value (.map (some w.heap.size))) (w.alloc (.map #[] 0)):=by kernel_rfl):GL P n ds ops Q (o :: rest) l w :=
 tw d _ _ hrun (h _ _ (World.alloc_heap_new w _) (Nat.le_refl _) (aa w _)) a hc
end
section
variable {n:Nat} {ds:List Deferred} {ops:Array Oper} {Q:Exit->Act->World->Prop} {rest:List Oper} {o:Oper} {l:Fr} {w:World}
section
variable {ρ:Operand->Value}{bm clock r since:Nat}{seen:Array Nat}
theorem run_lk{es:Array MapEntry}(k:Int)(v:Value){r:Option (Nat × Value)}(hb:w.heap[bm]?=some (.map es clock))(hf:Instr.findNow (.int .u64) (.int .u64 k) es.toList 0=some r)(hv:(match r with | some (_,v)=>v | none=>.int .i64 0)=v)(ho:∃ x y,o.op=.lookup 236 x y false/\ρ x=.map (some bm)/\ρ y=.int .u64 k:=by exact⟨_,_,rfl,by kernel_rfl,by kernel_rfl⟩):(execOp ρ o).run Tryz.prog w=.ok (.value v) w:=by
 obtain⟨x,y,h,b,a⟩:=ho;subst hv;simp only[execOp,h,b,a,Sem.run_bind,EY hb hf,Result.andThen_ok,Sem.run_pure]
theorem tmu0{es:Array MapEntry}(k:Int)(v:Value)(a:Array MapEntry)(hb:w.heap[bm]?=some (.map es clock))(hf:Instr.findNow (.int .u64) (.int .u64 k) es.toList 0=some none)(he:es.push { key:=.int .u64 k,val:=v,born:=clock }=a)(h:∀ w1,w1.heap[bm]?=some (.map a (clock+1))->Chg (·=bm) w w1->GL Tryz.prog n ds ops Q rest l w1)(d:gd ops l o=some true:=by kernel_rfl)(hc:chk n l o none=true:=by kernel_rfl)(ho:∃ x y z,o.op=.mapUpdate 236 x y z/\evL l x=.map (some bm)/\evL l y=.int .u64 k/\evL l z=v:=by exact⟨_,_,_,rfl,by kernel_rfl,by kernel_rfl,by kernel_rfl⟩):GL Tryz.prog n ds ops Q (o :: rest) l w:=by
 obtain⟨x,y,z,c,e,b,f⟩:=ho;subst he;refine tv _ ?_ (h _ (wB hb) (sY _ _)) d hc;simp only[execOp,c,e,b,f,Sem.run_bind,Gq v hb hf,Result.andThen_ok,Sem.run_pure]
theorem trg(d:Nat){es:Array MapEntry}(hb:w.heap[bm]?=some (.map es clock))(h:∀ w1 g,w1.heap[g]?=some (.mapIter (some bm) clock #[] clock)->w.heap.size<=g->BW w w1->GL Tryz.prog n ds ops Q rest ((d,pg g) :: l) w1)(b:gd ops l o=some true:=by kernel_rfl)(hc:chk n l o (some d)=true:=by kernel_rfl)(ho:∃ x,o.op=.range 236 x/\evL l x=.map (some bm):=by exact⟨_,rfl,by kernel_rfl⟩):GL Tryz.prog n ds ops Q (o :: rest) l w:=by
 obtain⟨x,a,c⟩:=ho;refine tw d (pg w.heap.size) _ ?_ (h _ _ (World.alloc_heap_new w _) (Nat.le_refl _) (aa w _)) b hc;simp only[execOp,a,c,Sem.run_bind,run_range_map w _ _ _ bm es clock zd hb,Result.andThen_ok,Sem.run_pure]
theorem tnx(d:Nat){c0:Nat}{es:Array MapEntry}(hr:w.heap[r]?=some (.mapIter (some bm) since seen c0))(hb:w.heap[bm]?=some (.map es clock))(hold:∀ x∈es.toList,x.born < since)(a:since<=c0)(h0:(leftOf es seen).size=0->GL Tryz.prog n ds ops Q rest ((d,.tuple #[.bool false]) :: l) w)(h1:∀ e∈(leftOf es seen).toList,∀ w1,w1.heap[r]?=some (.mapIter (some bm) since (seen.push e.born) clock)->Chg (·=r) w w1->GL Tryz.prog n ds ops Q rest ((d,.tuple #[.bool true,e.key,e.val]) :: l) w1)(b:gd ops l o=some true:=by kernel_rfl)(hc:chk n l o (some d)=true:=by kernel_rfl)(ho:∃ x,o.op=.next x false/\evL l x=pg r:=by exact⟨_,rfl,by kernel_rfl⟩):GL Tryz.prog n ds ops Q (o :: rest) l w:=by
 obtain⟨x,k0,k1⟩:=ho;rcases run_nx o.type hr hb hold a with⟨e0,hu⟩ | ⟨e,he,w1,hu,a1,a2⟩
 ·refine tw d _ _ ?_ (h0 e0) b hc;simp only[execOp,k0,k1,Sem.run_bind,hu,Result.andThen_ok,Sem.run_pure]
 refine tw d _ _ ?_ (h1 e he w1 a1 a2) b hc;simp only[execOp,k0,k1,Sem.run_bind,hu,Result.andThen_ok,Sem.run_pure]
theorem Ax{es:Array MapEntry}(e:MapEntry)(hr:w.heap[r]?=some (.mapIter (some bm) since (seen.push e.born) clock))(hb:w.heap[bm]?=some (.map es clock))(he:e∈es.toList)(hn:(es.toList.map (·.born)).Nodup)(ho:∃ x,o.op=.entry x/\ρ x=pg r:=by exact⟨_,rfl,by kernel_rfl⟩):(execOp ρ o).run Tryz.prog w=.ok (.value (.tuple #[e.key,e.val])) w:=by
 obtain⟨x,k0,k1⟩:=ho;simp only[execOp,k0,k1,Sem.run_bind,Er hr hb he hn,Result.andThen_ok,Sem.run_pure]
end
end
end Pw
end
end Go.Proofs.YtpoifdokmjhclaaGreat
