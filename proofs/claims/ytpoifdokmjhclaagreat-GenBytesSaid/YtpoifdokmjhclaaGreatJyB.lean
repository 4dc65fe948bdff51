import Derived.Test.YtpoifdokmjhclaaGreatJyA
set_option maxRecDepth 100000
set_option maxHeartbeats 8000000
namespace Go.Proofs.YtpoifdokmjhclaaGreat
section
namespace Fo
open Go.RowKit Go.Lib Pg Lim Gl Kv Bk Pw
attribute [local go_sem] Oper.semAt_some
set_option linter.unusedVariables false
set_option linter.unusedSimpArgs false
section
variable {b rt tk un pe x0 x1 x2 x3 er p0 p1 p2 p3 p4 p5 p6 p7 p8 p9 dp k a id:Int}{w:World}{v:Value}{l:List Int}{jl bo th:Bool}{b0 b1 b2 b3 a0 a1 a2 a3:Option Addr}{k0 d0 k1 d1 B g n N n0 c0 z0 n1 c1 z1:Nat}{K:Nat->Prop}{E:aD}{W:List aD}
abbrev bi(b:Bool):Int:=if b then 1 else 0
theorem Gz{x:Int}{b:Bool}(h:x=bi b):(x == 1)=b:=by subst h;cases b<;>rfl
def DK(l:List Int):List Int × Int:=((List.range 10).map (Rc.aP (Rc.dH l)),Rc.dU (Rc.dH l))
theorem rdVal(h:ByU w v l)(g:l.length<=1000000000)(hv:DK l=([rt,tk,x0,(bi jl),un,(bi bo),pe,x1,x2,x3],er)):CP 43 #[v] w λe w'=>∃ b0 k0 d0 b1 k1 d1 b2 k2 d2 b3 k3 d3,e=.returned (.tuple #[.agg #[.int .u64 rt,.int .u64 tk,.slice b0 k0 d0,.bool jl,.int .u64 un,.bool bo,.int .u64 pe,.slice b1 k1 d1,.slice b2 k2 d2,.slice b3 k3 d3],.int .i64 er])/\(Rc.dD w' w.heap.size b0 k0 d0 x0/\k0<=510)/\(Rc.dD w' w.heap.size b1 k1 d1 x1/\k1<=510)/\(Rc.dD w' w.heap.size b2 k2 d2 x2/\k2<=510)/\(Rc.dD w' w.heap.size b3 k3 d3 x3/\k3<=510)/\BW w w':=by
 obtain⟨b,j,c,rfl,f⟩:=bya h.byt;have a:=congrArg (·.2) hv;have hq:=λi:Nat=>congrArg (·.1[i]?) hv
 simp only[DK] at a hq
 have d:Rc.aP (Rc.dH l) 0=rt:=Option.some.inj (hq 0)
 have e1:Rc.aP (Rc.dH l) 1=tk:=Option.some.inj (hq 1)
 have e2:Rc.aP (Rc.dH l) 2=x0:=Option.some.inj (hq 2)
 have e3:Rc.aP (Rc.dH l) 3=(bi jl):=Option.some.inj (hq 3)
 have e4:Rc.aP (Rc.dH l) 4=un:=Option.some.inj (hq 4)
 have e5:Rc.aP (Rc.dH l) 5=(bi bo):=Option.some.inj (hq 5)
 have e6:Rc.aP (Rc.dH l) 6=pe:=Option.some.inj (hq 6)
 have e7:Rc.aP (Rc.dH l) 7=x1:=Option.some.inj (hq 7)
 have e8:Rc.aP (Rc.dH l) 8=x2:=Option.some.inj (hq 8)
 have e9:Rc.aP (Rc.dH l) 9=x3:=Option.some.inj (hq 9);refine(Rc.oVal f g).mono ?_
 intro e w' h;rw[d,e1,e2,Gz e3,e4,Gz e5,e6,e7,e8,e9,a] at h;exact h
def sF(l:List Int):List Int × Int:=((List.range 1).map (Rc.aP (Rc.mI l)),Rc.dU (Rc.mI l))
theorem rdPool(h:ByU w v l)(g:l.length<=1000000000)(hv:sF l=([x0],er)):CP 339 #[v] w λe w'=>∃ b0 k0 d0,e=.returned (.tuple #[.agg #[.slice b0 k0 d0],.int .i64 er])/\(Rc.dD w' w.heap.size b0 k0 d0 x0/\k0<=510)/\BW w w':=by
 obtain⟨b,j,c,rfl,f⟩:=bya h.byt;have a:=congrArg (·.2) hv;have hq:=λi:Nat=>congrArg (·.1[i]?) hv
 simp only[sF] at a hq
 have d:Rc.aP (Rc.mI l) 0=x0:=Option.some.inj (hq 0);refine(Rc.oPool f g).mono ?_
 intro e w' h;rw[d,a] at h;exact h
def wU(l:List Int):List Int × Int:=((List.range 10).map (Rc.aP (Rc.aM l)),Rc.dU (Rc.aM l))
theorem Cv(h:ByU w v l)(g:l.length<=1000000000)(hv:wU l=([p0,p1,p2,p3,p4,p5,p6,p7,p8,p9],er)):CP 145 #[v] w λe w'=>e=.returned (.tuple #[.agg #[.int .u64 p0,.int .u64 p1,.int .u64 p2,.int .u64 p3,.int .u64 p4,.int .u64 p5,.int .u64 p6,.int .u64 p7,.int .u64 p8,.int .u64 p9],.int .i64 er])/\BW w w':=by
 obtain⟨b,j,c,rfl,f⟩:=bya h.byt;have a:=congrArg (·.2) hv;have hq:=λi:Nat=>congrArg (·.1[i]?) hv
 simp only[wU] at a hq
 have d:Rc.aP (Rc.aM l) 0=p0:=Option.some.inj (hq 0)
 have e1:Rc.aP (Rc.aM l) 1=p1:=Option.some.inj (hq 1)
 have e2:Rc.aP (Rc.aM l) 2=p2:=Option.some.inj (hq 2)
 have e3:Rc.aP (Rc.aM l) 3=p3:=Option.some.inj (hq 3)
 have e4:Rc.aP (Rc.aM l) 4=p4:=Option.some.inj (hq 4)
 have e5:Rc.aP (Rc.aM l) 5=p5:=Option.some.inj (hq 5)
 have e6:Rc.aP (Rc.aM l) 6=p6:=Option.some.inj (hq 6)
 have e7:Rc.aP (Rc.aM l) 7=p7:=Option.some.inj (hq 7)
 have e8:Rc.aP (Rc.aM l) 8=p8:=Option.some.inj (hq 8)
 have e9:Rc.aP (Rc.aM l) 9=p9:=Option.some.inj (hq 9);refine(Rc.E8 f g).mono ?_
 intro e w' h;rw[d,e1,e2,e3,e4,e5,e6,e7,e8,e9,a] at h;exact h
def vv(rt:Int)(tk:Int)(x0:Int)(jl:Bool)(un:Int)(bo:Bool)(pe:Int)(x1:Int)(x2:Int)(x3:Int):List Int:=Rc.thr (Rc.pnx (λo=>([rt,tk,x0,(bi jl),un,(bi bo),pe,x1,x2,x3]:List Int).getD o 0)) [(0,0),(0,1),(2,2),(1,3),(0,4),(1,5),(0,6),(2,7),(2,8),(2,9)] []
theorem CD:(vv rt tk x0 jl un bo pe x1 x2 x3).length<=4096:=by have:=Rc.dA (λo=>([rt,tk,x0,(bi jl),un,(bi bo),pe,x1,x2,x3]:List Int).getD o 0) [(0,0),(0,1),(2,2),(1,3),(0,4),(1,5),(0,6),(2,7),(2,8),(2,9)] [];simp only[List.length_cons,List.length_nil] at this;unfold vv;omega
theorem putVal{k2 d2:Nat}{k3 d3:Nat}(h0:aW w b0 k0 d0 x0)(m0:k0<=1000000)(h1:aW w b1 k1 d1 x1)(m1:k1<=1000000)(c:aW w b2 k2 d2 x2)(a:k2<=1000000)(f:aW w b3 k3 d3 x3)(d:k3<=1000000):CP 199 #[.agg #[.int .u64 rt,.int .u64 tk,.slice b0 k0 d0,.bool jl,.int .u64 un,.bool bo,.int .u64 pe,.slice b1 k1 d1,.slice b2 k2 d2,.slice b3 k3 d3]] w λe w'=>∃ v,e=.returned v/\ByU w' v (vv rt tk x0 jl un bo pe x1 x2 x3)/\BW w w':=by
 refine(Rc.ui h0 m0 h1 m1 c a f d).mono ?_
 rintro e w' ⟨b,n,rfl,hn,X,hb,B⟩;exact⟨_,rfl,gQ X (Rc.gX _ _ _ (λ_ h=>by simp at h)) hn (Nat.le_trans CD (by decide)),B⟩
def dv(x0:Int)(dp:Int)(x1:Int):List Int:=Rc.thr (Rc.pnx (λo=>([x0,dp,x1]:List Int).getD o 0)) [(2,0),(0,1),(2,2)] []
theorem CX  : (dv x0 dp x1).length<=4096:=by have:=Rc.dA (λo=>([x0,dp,x1]:List Int).getD o 0) [(2,0),(0,1),(2,2)] [];simp only[List.length_cons,List.length_nil] at this;unfold dv;omega
theorem oM(h0:aW w b0 k0 d0 x0)(m0:k0<=1000000)(h1:aW w b1 k1 d1 x1)(m1:k1<=1000000):CP 291 #[.agg #[.slice b0 k0 d0,.int .u64 dp,.slice b1 k1 d1]] w λe w'=>∃ v,e=.returned v/\ByU w' v (dv x0 dp x1)/\BW w w':=by
 refine(Rc.kB h0 m0 h1 m1).mono ?_
 rintro e w' ⟨b,n,rfl,hn,X,hb,B⟩;exact⟨_,rfl,gQ X (Rc.gX _ _ _ (λ_ h=>by simp at h)) hn (Nat.le_trans CX (by decide)),B⟩
def pov(x0:Int):List Int:=Rc.thr (Rc.pnx (λo=>([x0]:List Int).getD o 0)) [(2,0)] []
theorem wh  : (pov x0).length<=4096:=by have:=Rc.dA (λo=>([x0]:List Int).getD o 0) [(2,0)] [];simp only[List.length_cons,List.length_nil] at this;unfold pov;omega
theorem EK(h0:aW w b0 k0 d0 x0)(m0:k0<=1000000):CP 337 #[.agg #[.slice b0 k0 d0]] w λe w'=>∃ v,e=.returned v/\ByU w' v (pov x0)/\BW w w':=by
 refine(Rc.tO h0 m0).mono ?_
 rintro e w' ⟨b,n,rfl,hn,X,hb,B⟩;exact⟨_,rfl,gQ X (Rc.gX _ _ _ (λ_ h=>by simp at h)) hn (Nat.le_trans wh (by decide)),B⟩
def pav(p0:Int)(p1:Int)(p2:Int)(p3:Int)(p4:Int)(p5:Int)(p6:Int)(p7:Int)(p8:Int)(p9:Int):List Int:=Rc.thr (Rc.pnx (λo=>([p0,p1,p2,p3,p4,p5,p6,p7,p8,p9]:List Int).getD o 0)) [(0,0),(0,1),(0,2),(0,3),(0,4),(0,5),(0,6),(0,7),(0,8),(0,9)] []
theorem wy  : (pav p0 p1 p2 p3 p4 p5 p6 p7 p8 p9).length<=4096:=by have:=Rc.dA (λo=>([p0,p1,p2,p3,p4,p5,p6,p7,p8,p9]:List Int).getD o 0) [(0,0),(0,1),(0,2),(0,3),(0,4),(0,5),(0,6),(0,7),(0,8),(0,9)] [];simp only[List.length_cons,List.length_nil] at this;unfold pav;omega
theorem ya    : CP 88 #[.agg #[.int .u64 p0,.int .u64 p1,.int .u64 p2,.int .u64 p3,.int .u64 p4,.int .u64 p5,.int .u64 p6,.int .u64 p7,.int .u64 p8,.int .u64 p9]] w λe w'=>∃ v,e=.returned v/\ByU w' v (pav p0 p1 p2 p3 p4 p5 p6 p7 p8 p9)/\BW w w':=by
 refine(Rc.oL ).mono ?_
 rintro e w' ⟨b,n,rfl,hn,X,hb,B⟩;exact⟨_,rfl,gQ X (Rc.gX _ _ _ (λ_ h=>by simp at h)) hn (Nat.le_trans wy (by decide)),B⟩
theorem qv(j:0<=a/\a < 18446744073709551616)(h:Ky.mkE k a b=false):CP 75 #[.agg #[iI k,iU a,iU b]] w λe w'=>∃ v,e=.returned v/\ByU w' v (Ky.mk k a b)/\BW w w':=by
 have d:=Below.refl w.heap.size w;refine af (n:=11) Tryz.func75 rfl ?_
 refine sr<|ta 1 [.int .i64 k,.int .u64 a,.int .u64 b] 103 (pg) ?_
 intro v1 m c g B;have d:=ae d B;refine tz 1<|nx<|tlr 6 [.int .i64 k,.int .u64 a,.int .u64 b] c 0 ?_
 have f:=c.lt;refine tc 7 72 #[.agg #[.int .i64 k,.int .u64 a,.int .u64 b]] (qG j h) ?_
 rintro _ l ⟨v,rfl,i,B⟩;have d:=ae d B;have c:=c.keep B;refine⟨_,rfl,tz 5<|nx<|tz 2<|nt<|aA [(2,v)]<|bB<|ah (v) (rs1 2) ?_⟩;exact⟨_,rfl,i,d⟩
theorem dLay(h:Sx B w K g E W n N)(r:0<=a/\a < 18446744073709551616)(p:Ky.mkE k a b=false)(e:ByU w v l)(hlen:l.length<=4096)(hn:n+10<=4000000000000000000:=by omega)(x:N+10<=100000000:=by omega):CP 198 #[pg g,.agg #[iI k,iU a,iU b],v] w (SxE B w K g (put E (Ky.mk k a b) l) W (n+1) (N+2) (.tuple #[])):=by
 have A:=h.at
 refine af (n:=11) Tryz.func198 rfl ?_
 refine sr<|ta 4 [.int .i64 k,.int .u64 a,.int .u64 b] 103 (pg) ?_
 intro v1 s d f B;have q:=Nat.le_trans A.size f;have c:=A.new f;have A:=A.keep B;have e:=cO e B;refine nt<|aN<|tz 1<|tlr 7 [.int .i64 k,.int .u64 a,.int .u64 b] d 0<|tc 8 75 #[.agg #[.int .i64 k,.int .u64 a,.int .u64 b]] (qv r p) ?_
 rintro _ y ⟨j,rfl,m,B⟩;have A:=A.keep B;have e:=cO e B;have d:=d.keep B;refine⟨_,rfl,tz 1<|tc 10 86 #[pg g,j,v] (qset A.sx m p e hlen (by omega) (by omega)) ?_⟩;rintro _ u ⟨rfl,t,S,o,i⟩;have e:=A.byu e i;have c:=opX d c o i;replace d:=c.1;replace c:=c.2;have m:=A.byu m i;have A:=A.op S o i;refine⟨_,rfl,aO<|bh (.tuple #[]) (rs0) ?_⟩;exact⟨rfl,_,A.sx,A.km,A.cc⟩
structure VaE(B:Nat)(w:World)(K:Nat->Prop)(g:Nat)(E:aD)(W:List aD)(n N:Nat)(rt:Int)(tk:Int)(x0:Int)(jl:Bool)(un:Int)(bo:Bool)(pe:Int)(x1:Int)(x2:Int)(x3:Int)(th:Bool)(e:Ending)(w':World):Prop where
 ex:∃ b0 k0 d0 y0 b1 k1 d1 y1 b2 k2 d2 y2 b3 k3 d3 y3 K' n' N',e=.returned (.tuple #[.agg #[.int .u64 rt,.int .u64 tk,.slice b0 k0 d0,.bool jl,.int .u64 un,.bool bo,.int .u64 pe,.slice b1 k1 d1,.slice b2 k2 d2,.slice b3 k3 d3],.bool th])/\Sx B w' K' g E W n' N'/\n'<=n+1/\N'<=N/\(∀ b,K' b->K b\/w.heap.size<=b)/\Chg K w w'/\Nq w' K' y0 b0 k0 d0 x0/\k0<=510/\(k0=0\/w.heap.size<=y0)/\Nq w' K' y1 b1 k1 d1 x1/\k1<=510/\(k1=0\/w.heap.size<=y1)/\Nq w' K' y2 b2 k2 d2 x2/\k2<=510/\(k2=0\/w.heap.size<=y2)/\Nq w' K' y3 b3 k3 d3 x3/\k3<=510/\(k3=0\/w.heap.size<=y3)
theorem fdVal(h:Sx B w K g E W n N)(ha:0<=a/\a < 18446744073709551616)(hE:Ky.mkE k a b=false)(hv:DK (got E (Ky.mk k a b))=([rt,tk,x0,(bi jl),un,(bi bo),pe,x1,x2,x3],er))(hth:(er == 0)=th)(hn:n+10<=4000000000000000000)(hN:N+10<=100000000):CP 42 #[pg g,.agg #[iI k,iU a,iU b],.func (.func 43) #[] #[]] w (VaE B w K g E W n N rt tk x0 jl un bo pe x1 x2 x3 th):=by
 have A:=h.at
 refine af (n:=28) Tryz.func42 rfl ?_
 refine sr<|ta 4 [iI k,iU a,iU b] 103 (pg) ?_
 intro v1 g2 c hg2 B;obtain⟨zg2,p,A⟩:=A.al hg2 B;have au:=c.lt;refine ta 6 cl4 57 (pg) ?_
 intro v3 g4 d hg4 B;obtain⟨zg4,m,A⟩:=A.al hg4 B;have c:=c.keep B;refine tz 1<|nx<|tz 1<|tlr 14 [iI k,iU a,iU b] c 0<|tc 15 75 #[.agg #[iI k,iU a,iU b]] (qv ha hE) ?_
 rintro _ v7 ⟨kv6,rfl,Z,B⟩;have A:=A.keep B;have c:=c.keep B;have d:=d.keep B;refine⟨_,rfl,tc 16 39 #[pg g,kv6] (Cf A.sx Z) ?_⟩;rintro _ v10 ⟨am,rfl,U9,S,hC⟩;have p:=opX c p (λ_ h=>.inl h) hC;replace c:=p.1;replace p:=p.2;have m:=opX d m (λ_ h=>.inl h) hC;replace d:=m.1;replace m:=m.2;have Z:=A.byu Z hC;have A:=A.op S (λ_ h=>.inl h) hC;refine⟨_,rfl,tz 5<|nt<|aA [(2,.func (.func 43) #[] #[]),(6,pg g4),(7,bF),(8,am)]<|sr<|tz 2<|tc 22 43 #[am] (rdVal U9 (lG A.sx _) hv) ?_⟩;rintro _ v15 ⟨F,G,z,t,q,v,u,s,r,y,D,x,rfl,ak,ag,aw,an,B⟩;obtain⟨zr11,O,i⟩:=iB ak.1 (λb hb=>A.lt hb);have av:=ak.2;have aq:=ne2 O c.lt;have P:=ne2 O d.lt;have aa:=ne3 O A.size;obtain⟨zr12,U,f⟩:=iB ag.1 (λb hb=>A.lt hb);have ax:=ag.2;have ao:=ne2 U c.lt;have X:=ne2 U d.lt;have ab:=ne3 U A.size;obtain⟨zr13,R,e⟩:=iB aw.1 (λb hb=>A.lt hb);have aj:=aw.2;have ar:=ne2 R c.lt;have M:=ne2 R d.lt;have ad:=ne3 R A.size;obtain⟨zr14,V,j⟩:=iB an.1 (λb hb=>A.lt hb);have ap:=an.2;have ay:=ne2 V c.lt;have Q:=ne2 V d.lt;have ac:=ne3 V A.size;have A:=A.keep B;have c:=c.keep B;have d:=d.keep B;have Z:=cO Z B;have U9:=cO U9 B;refine⟨_,rfl,tz 3 ?_⟩;have au:=c.lt;have lXg4:=d.lt;refine ta 10 cl4 57 (pg) ?_
 intro v16 g17 l o B;have ai:=Nat.le_trans A.size o;have ae:=A.new o;have J:=ne1 i.lt o;have I:=ne1 f.lt o;have L:=ne1 e.lt o;have H:=ne1 j.lt o;have A:=A.keep B;have c:=c.keep B;have d:=d.keep B;have Z:=cO Z B;have i:=i.keep B;have f:=f.keep B;have e:=e.keep B;have j:=j.keep B;refine tsw l [iU rt,iU tk,.slice F G z,.bool jl,iU un,.bool bo,iU pe,.slice t q v,.slice u s r,.slice y D x] ?_
 intro v18 Y C;have A:=Bk.At.cell A l C ai ae (by decide);have c:=c.chg C (by omega);have d:=d.chg C (by omega);have Z:=gp Z l C;have i:=i.cell C J;have f:=f.cell C I;have e:=e.cell C L;have j:=j.cell C H;have l:=Y;refine tz 1<|nx<|tlr 25 [iU rt,iU tk,.slice F G z,.bool jl,iU un,.bool bo,iU pe,.slice t q v,.slice u s r,.slice y D x] l 0<|tz 1<|tq 27 (.bool ((er:Int) == 0)) (.bool th) (congrArg Value.bool hth)<|tsw d [iU rt,iU tk,.slice F G z,.bool jl,iU un,.bool bo,iU pe,.slice t q v,.slice u s r,.slice y D x] ?_
 intro v19 Y C;have A:=Bk.At.cell A d C zg4 m (by decide);have c:=c.chg C (by omega);have Z:=gp Z d C;have i:=i.cell C P;have f:=f.cell C X;have e:=e.cell C M;have j:=j.cell C Q;have l:=l.chg C (by omega);have d:=Y;refine tz 1<|nt<|aA [(6,pg g4),(7,.bool th)]<|bB<|ah (.tuple #[.agg #[iU rt,iU tk,.slice F G z,.bool jl,iU un,.bool bo,iU pe,.slice t q v,.slice u s r,.slice y D x],.bool th]) (dk (T:=57) 6 7 (lr d 0)) ?_
 exact⟨_,_,_,_,_,_,_,_,_,_,_,_,_,_,_,_,_,_,_,rfl,A.sx,by omega,by omega,A.km,A.cc,i,av,aa,f,ax,ab,e,aj,ad,j,ap,ac⟩
structure FpE(B:Nat)(w:World)(K:Nat->Prop)(g:Nat)(E:aD)(W:List aD)(n N:Nat)(x0:Int)(th:Bool)(e:Ending)(w':World):Prop where
 ex:∃ b0 k0 d0 y0 K' n' N',e=.returned (.tuple #[.agg #[.slice b0 k0 d0],.bool th])/\Sx B w' K' g E W n' N'/\n'<=n+1/\N'<=N/\(∀ b,K' b->K b\/w.heap.size<=b)/\Chg K w w'/\Nq w' K' y0 b0 k0 d0 x0/\k0<=510/\(k0=0\/w.heap.size<=y0)
theorem fdPool(h:Sx B w K g E W n N)(ha:0<=a/\a < 18446744073709551616)(hE:Ky.mkE k a b=false)(hv:sF (got E (Ky.mk k a b))=([x0],er))(J:(er == 0)=th)(hn:n+10<=4000000000000000000)(hN:N+10<=100000000):CP 338 #[pg g,.agg #[iI k,iU a,iU b],.func (.func 339) #[] #[]] w (FpE B w K g E W n N x0 th):=by
 have A:=h.at
 refine af (n:=28) Tryz.func338 rfl ?_
 refine sr<|ta 4 [iI k,iU a,iU b] 103 (pg) ?_
 intro v1 g2 c O B;obtain⟨zg2,j,A⟩:=A.al O B;have D:=c.lt;refine ta 6 [zS] 55 (pg) ?_
 intro v3 Q d L B;obtain⟨P,i,A⟩:=A.al L B;have c:=c.keep B;refine tz 1<|nx<|tz 1<|tlr 14 [iI k,iU a,iU b] c 0<|tc 15 75 #[.agg #[iI k,iU a,iU b]] (qv ha hE) ?_
 rintro _ v7 ⟨M,rfl,t,B⟩;have A:=A.keep B;have c:=c.keep B;have d:=d.keep B;refine⟨_,rfl,tc 16 39 #[pg g,M] (Cf A.sx t) ?_⟩;rintro _ v10 ⟨G,rfl,I,S,H⟩;have j:=opX c j (λ_ h=>.inl h) H;replace c:=j.1;replace j:=j.2;have i:=opX d i (λ_ h=>.inl h) H;replace d:=i.1;replace i:=i.2;have t:=A.byu t H;have A:=A.op S (λ_ h=>.inl h) H;refine⟨_,rfl,tz 5<|nt<|aA [(2,.func (.func 339) #[] #[]),(6,pg Q),(7,bF),(8,G)]<|sr<|tz 2<|tc 22 339 #[G] (rdPool I (lG A.sx _) hv) ?_⟩;rintro _ v12 ⟨l,o,m,rfl,z,B⟩;obtain⟨U,r,e⟩:=iB z.1 (λb hb=>A.lt hb);have F:=z.2;have y:=ne2 r c.lt;have s:=ne2 r d.lt;have u:=ne3 r A.size;have A:=A.keep B;have c:=c.keep B;have d:=d.keep B;have t:=cO t B;have I:=cO I B;refine⟨_,rfl,tz 3 ?_⟩;have D:=c.lt;have R:=d.lt;refine ta 10 [zS] 55 (pg) ?_
 intro V g14 f q B;have x:=Nat.le_trans A.size q;have v:=A.new q;have p:=ne1 e.lt q;have A:=A.keep B;have c:=c.keep B;have d:=d.keep B;have t:=cO t B;have e:=e.keep B;refine tsw f [.slice l o m] ?_
 intro X Y C;have A:=Bk.At.cell A f C x v (by decide);have c:=c.chg C (by omega);have d:=d.chg C (by omega);have t:=gp t f C;have e:=e.cell C p;have f:=Y;refine tz 1<|nx<|tlr 25 [.slice l o m] f 0<|tz 1<|tq 27 (.bool ((er:Int) == 0)) (.bool th) (congrArg Value.bool J)<|tsw d [.slice l o m] ?_
 intro Z Y C;have A:=Bk.At.cell A d C P i (by decide);have c:=c.chg C (by omega);have t:=gp t d C;have e:=e.cell C s;have f:=f.chg C (by omega);have d:=Y;refine tz 1<|nt<|aA [(6,pg Q),(7,.bool th)]<|bB<|ah (.tuple #[.agg #[.slice l o m],.bool th]) (dk (T:=55) 6 7 (lr d 0)) ?_
 exact⟨_,_,_,_,_,_,_,rfl,A.sx,by omega,by omega,A.km,A.cc,e,F,u⟩
theorem mkE3:Ky.mkE 3 0 0=false:=by kernel_rfl
theorem mkE5(a:Int):Ky.mkE 5 a 0=false:=by
 unfold Ky.mkE;rw[show (Ky.frm 5).1=10 from rfl];simp
theorem mkE6(a b:Int):Ky.mkE 6 a b=false:=by
 unfold Ky.mkE;rw[show (Ky.frm 6).1=18 from rfl];simp
theorem Gd(h:Sx B w K g E W n N)(q:0<=id/\id < 18446744073709551616)(hv:DK (got E (Ky.mk 5 id 0))=([rt,tk,x0,(bi jl),un,(bi bo),pe,x1,x2,x3],er))(t:(er == 0)=th)(hn:n+40<=4000000000000000000:=by omega)(hN:N+40<=100000000:=by omega):CP 16 #[pg g,iU id] w (VaE B w K g E W n N rt tk x0 jl un bo pe x1 x2 x3 th):=by
 have U:=dR h;refine af (n:=12) Tryz.func16 rfl ?_
 refine sr<|ta 4 cl4 57 (pg) (U.nw ?_)
 intro v1 g2 U;refine tz 1<|nx<|tz 3<|tc 9 42 #[pg g,.agg #[.int .i64 5,.int .u64 id,.int .u64 0],.func (.func 43) #[] #[]] (fdVal U.ta.sx q (mkE5 _) hv t (by omega) (by omega)) ?_
 rintro _ v10 ⟨o,b,a,M,l,m,k,I,c,e,f,G,d,i,j,C,K7,n8,Z,rfl,S,P,D,O,J,Y,R,y,Q,A,z,X,V,v,F,H,x⟩;have p:=ne3 y U.ta.size;have r:=ne3 z U.ta.size;have u:=ne3 v U.ta.size;have s:=ne3 x U.ta.size;have L:=U.lt;have U:=((((U.op S O J).add L Y y).add L Q z).add L X v).add L F x;refine⟨_,rfl,tz 2<|tsw (U.bk 0 rfl) [.int .u64 rt,.int .u64 tk,.slice o b a,.bool jl,.int .u64 un,.bool bo,.int .u64 pe,.slice l m k,.slice c e f,.slice d i j] (U.st 0 rfl ?_)⟩;intro v11 U;refine tz 1<|nr<|ah (.tuple #[.agg #[.int .u64 rt,.int .u64 tk,.slice o b a,.bool jl,.int .u64 un,.bool bo,.int .u64 pe,.slice l m k,.slice c e f,.slice d i j],.bool th]) (dk (T:=57) 4 5 (lr (U.bk 0 rfl) 0)) ?_
 exact⟨_,_,_,_,_,_,_,_,_,_,_,_,_,_,_,_,_,_,_,rfl,U.ta.sx,by omega,by omega,U.ta.km,U.ta.cc,(U.nq 3 rfl),by omega,p,(U.nq 2 rfl),by omega,r,(U.nq 1 rfl),by omega,u,(U.nq 0 rfl),by omega,s⟩
structure PlE(B:Nat)(w:World)(K:Nat->Prop)(g:Nat)(E:aD)(W:List aD)(n N:Nat)(x0:Int)(e:Ending)(w':World):Prop where
 ex:∃ b0 k0 d0 y0 K' n' N',e=.returned (.agg #[.slice b0 k0 d0])/\Sx B w' K' g E W n' N'/\n'<=n+1/\N'<=N/\(∀ b,K' b->K b\/w.heap.size<=b)/\Chg K w w'/\Nq w' K' y0 b0 k0 d0 x0/\k0<=510/\(k0=0\/w.heap.size<=y0)
theorem gPool(h:Sx B w K g E W n N)(hv:sF (got E (Ky.mk 3 0 0))=([x0],er))(hn:n+40<=4000000000000000000)(y:N+40<=100000000):CP 288 #[pg g] w (PlE B w K g E W n N x0):=by
 have U:=dR h;refine af (n:=12) Tryz.func288 rfl ?_
 obtain⟨i,d⟩:∃ i,(er == 0)=i:=⟨_,rfl⟩
 refine sr<|ta 2 [.slice none 0 0] 55 (pg) (U.nw ?_)
 intro v1 t U;refine nx<|tz 2<|tc 8 338 #[pg g,.agg #[.int .i64 3,.int .u64 0,.int .u64 0],.func (.func 339) #[] #[]] (fdPool U.ta.sx ⟨by decide,by decide⟩ mkE3 hv d (by omega) (by omega)) ?_
 rintro _ v ⟨c,b,a,k,x,r,u,rfl,S,m,o,l,j,q,p,f⟩;have e:=ne3 f U.ta.size;have L:=U.lt;have U:=(U.op S l j).add L q f;refine⟨_,rfl,tz 3<|ta 3 [.slice none 0 0] 55 (pg) (U.nw ?_)⟩;intro z s U;refine tsw (U.bk 0 rfl) [.slice c b a] (U.st 0 rfl ?_);intro v10 U;refine tz 1<|nx<|tlr 11 [.slice c b a] (U.bk 0 rfl) 0<|tsw (U.bk 1 rfl) [.slice c b a] (U.st 1 rfl ?_)
 intro v11 U;refine nr<|ah (.agg #[.slice c b a]) (rsc (T:=55) 2 (lr (U.bk 1 rfl) 0)) ?_
 exact⟨_,_,_,_,_,_,_,rfl,U.ta.sx,by omega,by omega,U.ta.km,U.ta.cc,(U.nq 0 rfl),by omega,e⟩
theorem sVal{b c2 z2:Nat}{a c3 z3:Nat}(h:Sx B w K g E W n N)(d:0<=id/\id < 18446744073709551616)(m:Nk w K z0 a0 n0 c0 x0)(k:Nk w K z1 a1 n1 c1 x1)(l:Nk w K z2 a2 b c2 x2)(e:Nk w K z3 a3 a c3 x3)(m0:n0<=100000:=by omega)(m1:n1<=100000:=by omega)(r:b<=100000:=by omega)(o:a<=100000:=by omega)(hn:n+40<=4000000000000000000:=by omega)(u:N+40<=100000000:=by omega):CP 149 #[pg g,iU id,.agg #[iU rt,iU tk,.slice a0 n0 c0,.bool jl,iU un,.bool bo,iU pe,.slice a1 n1 c1,.slice a2 b c2,.slice a3 a c3]] w (SxE B w K g (put E (Ky.mk 5 id 0) (vv rt tk x0 jl un bo pe x1 x2 x3)) W (n+1) (N+2) (.tuple #[])):=by
 have U:=dR h;refine af (n:=12) Tryz.func149 rfl ?_
 refine sr<|ta 5 [.int .u64 rt,.int .u64 tk,.slice a0 n0 c0,.bool jl,.int .u64 un,.bool bo,.int .u64 pe,.slice a1 n1 c1,.slice a2 b c2,.slice a3 a c3] 57 (pg) (U.nw ?_)
 intro v1 s U;refine nt<|aN<|tz 3<|tlr 9 [.int .u64 rt,.int .u64 tk,.slice a0 n0 c0,.bool jl,.int .u64 un,.bool bo,.int .u64 pe,.slice a1 n1 c1,.slice a2 b c2,.slice a3 a c3] (U.bk 0 rfl) 0<|tc 10 199 #[.agg #[.int .u64 rt,.int .u64 tk,.slice a0 n0 c0,.bool jl,.int .u64 un,.bool bo,.int .u64 pe,.slice a1 n1 c1,.slice a2 b c2,.slice a3 a c3]] (putVal (m.op U.ta.km U.ta.cc).nat (by omega) (k.op U.ta.km U.ta.cc).nat (by omega) (l.op U.ta.km U.ta.cc).nat (by omega) (e.op U.ta.km U.ta.cc).nat (by omega)) ?_
 rintro _ t ⟨c,rfl,j,B⟩;have U:=U.keep B;refine⟨_,rfl,tc 11 198 #[pg g,.agg #[.int .i64 5,.int .u64 id,.int .u64 0],c] (dLay U.ta.sx d (mkE5 _) j CD) ?_⟩;rintro _ q ⟨rfl,p,S,i,f⟩;have U:=U.op S i f;refine⟨_,rfl,aO<|bh (.tuple #[]) (rs0) ?_⟩;exact⟨rfl,_,U.ta.sx,U.ta.km,U.ta.cc⟩
theorem sDel{b:Int}(h:Sx B w K g E W n N)(c:0<=id/\id < 18446744073709551616)(j:Nk w K z0 a0 n0 c0 x0)(m0:n0<=100000)(i:Nk w K z1 a1 n1 c1 x1)(m1:n1<=100000)(hn:n+40<=4000000000000000000)(o:N+40<=100000000):CP 237 #[pg g,iU id,iU b,.agg #[.slice a0 n0 c0,iU dp,.slice a1 n1 c1]] w (SxE B w K g (put E (Ky.mk 6 id b) (dv x0 dp x1)) W (n+1) (N+2) (.tuple #[])):=by
 have U:=dR h;refine af (n:=15) Tryz.func237 rfl ?_
 refine sr<|ta 7 [.slice a0 n0 c0,.int .u64 dp,.slice a1 n1 c1] 181 (pg) (U.nw ?_)
 intro v1 k U;refine nt<|aN<|tz 4<|tlr 12 [.slice a0 n0 c0,.int .u64 dp,.slice a1 n1 c1] (U.bk 0 rfl) 0<|tc 13 291 #[.agg #[.slice a0 n0 c0,.int .u64 dp,.slice a1 n1 c1]] (oM (j.op U.ta.km U.ta.cc).nat (by omega) (i.op U.ta.km U.ta.cc).nat (by omega)) ?_
 rintro _ p ⟨a,rfl,f,B⟩;have U:=U.keep B;refine⟨_,rfl,tc 14 198 #[pg g,.agg #[.int .i64 6,.int .u64 id,.int .u64 b],a] (dLay U.ta.sx c (mkE6 _ _) f CX) ?_⟩;rintro _ m ⟨rfl,l,S,e,d⟩;have U:=U.op S e d;refine⟨_,rfl,aO<|bh (.tuple #[]) (rs0) ?_⟩;exact⟨rfl,_,U.ta.sx,U.ta.km,U.ta.cc⟩
def plE(E:aD)(x:Int):aD:=if x=0 then rem E (Ky.mk 3 0 0) else put E (Ky.mk 3 0 0) (pov x)
theorem lPool(h:Sx B w K g E W n N)(j:Nk w K z0 a0 n0 c0 x0)(m0:n0<=100000)(hn:n+40<=4000000000000000000)(x:N+40<=100000000):CP 287 #[pg g,.agg #[.slice a0 n0 c0]] w (SxE B w K g (plE E x0) W (n+1) (N+2) (.tuple #[])):=by
 have U:=dR h;refine af (n:=17) Tryz.func287 rfl ?_
 refine sr<|ta 3 [.slice a0 n0 c0] 55 (pg) (U.nw ?_)
 intro v1 u U;refine nx<|tz 1<|ta 4 [iI 0,iU 0,iU 0] 103 (pg) (U.nw ?_)
 intro t s U;refine tsw (U.bk 0 rfl) [iI 3,iU 0,iU 0] (U.st 0 rfl ?_);intro v U;refine nt<|ag<|sr<|tlr 6 [.slice a0 n0 c0] (U.bk 1 rfl) 0 ?_
 by_cases c:x0=0
 ·refine tc 7 181 #[.agg #[.slice a0 n0 c0]] (dZ (j.op U.ta.km U.ta.cc).nat (by omega) (b:=true) (decide_eq_true c)) ?_
  rintro _ v6 ⟨rfl,B⟩;have U:=U.keep B;refine⟨_,rfl,nt<|aL<|sr<|tz 1<|tlr 9 [iI 3,iU 0,iU 0] (U.bk 0 rfl) 0<|tc 10 75 #[.agg #[iI 3,iU 0,iU 0]] (qv ⟨by decide,by decide⟩ mkE3) ?_⟩;rintro _ r ⟨d,rfl,k,B⟩;have U:=U.keep B;refine⟨_,rfl,tc 11 131 #[pg g,d] (xdel U.ta.sx k (Nat.le_trans (Ky.nV _ _ _) (by decide))) ?_⟩;rintro _ v11 ⟨rfl,m,S,f,e⟩;have U:=U.op S f e;refine⟨_,rfl,nr<|bE<|ah (.tuple #[]) (rs0) ?_⟩;rw[show plE E x0=_ from if_pos c];exact⟨rfl,_,U.ta.sx,U.ta.km,U.ta.cc⟩
 refine tc 7 181 #[.agg #[.slice a0 n0 c0]] (dZ (j.op U.ta.km U.ta.cc).nat (by omega) (b:=false) (decide_eq_false c)) ?_
 rintro _ p ⟨rfl,B⟩;have U:=U.keep B;refine⟨_,rfl,nt<|nk ?_⟩;have U:=U.drew;refine gd2 (U.bk 0 rfl) (U.bk 1 rfl) ?_
 refine z 0 12 (pg g)<|zlr 1 13 [iI 3,iU 0,iU 0] (λ_ h=>h.1) 0<|zlr 2 14 [.slice a0 n0 c0] (λ_ h=>h.2) 0<|zc 3 15 337 #[.agg #[.slice a0 n0 c0]] (EK (j.op U.ta.km U.ta.cc).nat (by omega)) ?_
 rintro _ l ⟨a,rfl,i,B⟩;have U:=U.keep B;refine⟨_,rfl,⟨(U.bk 0 rfl),(U.bk 1 rfl)⟩,zc 4 16 198 #[pg g,.agg #[iI 3,iU 0,iU 0],a] (dLay U.ta.sx ⟨by decide,by decide⟩ mkE3 i wh) ?_⟩;rintro _ q ⟨rfl,o,S,f,e⟩;have U:=U.op S f e;refine⟨_,rfl,⟨(U.bk 0 rfl),(U.bk 1 rfl)⟩,aS<|bh (.tuple #[]) (rs0) ?_⟩;rw[show plE E x0=_ from if_neg c];exact⟨rfl,_,U.ta.sx,U.ta.km,U.ta.cc⟩
theorem BD{p:Int}(h:Sx B w K g E W n N)(k:Nk w K z0 a0 n0 c0 x0)(m0:n0<=90000)(hv:sF (got E (Ky.mk 3 0 0))=([p],er))(hn:n+100<=4000000000000000000)(H:N+100<=100000000):CP 233 #[pg g,.agg #[.slice a0 n0 c0]] w (SxF B w K g (plE E (p+x0)) W n N (.tuple #[])):=by
 have U:=dR h;refine af (n:=10) Tryz.func233 rfl ?_
 refine sr<|ta 3 [.slice a0 n0 c0] 55 (pg) (U.nw ?_)
 intro v1 G U;refine nt ?_
 have U:=U.drew;refine gd1 (U.bk 0 rfl) ?_
 refine z 0 4 (pg g)<|z 1 5 (pg g)<|zlr 3 7 [.slice a0 n0 c0] (λ_ h=>h) 0<|zc 2 6 288 #[pg g] (gPool U.ta.sx hv (by omega) (by omega)) ?_
 rintro _ C ⟨j,c,a,t,D,F,A,rfl,S,m,r,f,d,Y,v,l⟩;have q:=ne3 l U.ta.size;have L:=U.lt;have U:=(U.op S f d).add L Y l;refine⟨_,rfl,(U.bk 0 rfl),zc 4 8 185 #[.agg #[.slice j c a],.agg #[.slice a0 n0 c0]] (uM (U.nq 0 rfl).nat (k.op U.ta.km U.ta.cc).nat) ?_⟩;rintro _ y ⟨b,i,e,u,rfl,M,h,s,B⟩;have x:=ne3 h U.ta.size;have U:=U.num M h B;refine⟨_,rfl,(U.bk 0 rfl),zc 5 9 287 #[pg g,.agg #[.slice b i e]] (lPool U.ta.sx (U.nq 0 rfl).nk (by omega) (by omega) (by omega)) ?_⟩;rintro _ v11 ⟨rfl,o,S,f,d⟩;have U:=U.op S f d;refine⟨_,rfl,(U.bk 0 rfl),aS<|bh (.tuple #[]) (rs0) ?_⟩;exact⟨rfl,_,_,_,U.ta.sx,by omega,by omega,U.ta.km,U.ta.cc⟩
end
end Fo
end
section
namespace Fo
open Go.RowKit Go.Lib Pg Lim Gl Kv Bk Pw Sd Di
set_option linter.unusedVariables false
section
variable {w0 w w' w1:World} {B g0 n N n' N' g i C:Nat} {K0 K K':Nat->Prop} {W:List aD} {E E':aD} {bs:List Bx} {qs:List Nx} {cs cs':List Value} {t:TypeId}
theorem Ut.opnew (h:Ut w0 K0 B g0 W w K E n N bs qs) (S:Sx B w' K' g0 E' W n' N') (f:∀ b,K' b->K b\/w.heap.size<=b) (hC:Chg K w w') (X:Blk w' g cs t) (hb:w.heap.size<=g) (nk:¬ K' g):Ut w0 K0 B g0 W w' K' E' n' N' ((g,cs,t) :: bs) qs:=by
 have u:=h.op S f hC;exact⟨u.ta,List.forall_mem_cons.2 ⟨⟨X,nk,Nat.le_trans h.ta.size hb⟩,u.b⟩,u.q,List.forall_mem_cons.2 ⟨λr c=>ne1 (h.q r c).lt hb,u.e⟩,List.pairwise_cons.2 ⟨λp a e=>by have:=h.lt p a;have i:g=p.1:=e;omega,u.d⟩⟩
end
end Fo
end
section
namespace Gl
open Go.RowKit Go.Lib Pg
section
variable {P:Program} {n:Nat} {ds:List Deferred} {ops:Array Oper} {rest:List Oper} {o:Oper} {l:Fr} {w:World} {Q:Exit->Act->World->Prop}
section
variable {fn:Func}{vs:List Value}{f:FuncId}{c:Code}{R:Ending->World->Prop}{R':Ending→World→Prop}
theorem td(d:Deferred)(h:GL P n (d :: ds) ops Q rest l w)(b:gd ops l o=some true:=by kernel_rfl)(hc:chk n l o none=true:=by kernel_rfl)(hrun:(execOp (evL l) o).run P w=.ok (.defer d) w:=by kernel_rfl):GL P n ds ops Q (o :: rest) l w:=⟨λa r =>
 BigFrame.wpList_want (dX r b) λK c=>by
  unfold Oper.wp;rw[fF hc r,hrun,Oper.upon_defer,(gv hc).1]
  exact c _ _ (h.out _ ⟨r.size,by show d :: a.defers=d :: ds;rw[r.dfs],r.get⟩)⟩
theorem enR(hn:fn.ntmps=n)(hs:Nat.ble vs.length n=true):Rd n [] (en 0 vs) { tmps:=vs.toArray ++ Array.replicate (fn.ntmps - vs.toArray.size) undef,defers:=[] }:=by
 have hs:=Nat.le_of_ble_eq_true hs;refine⟨?_,rfl,λk v hk=>?_⟩
 ·simp;omega
 obtain⟨_,b⟩:=Bo vs 0 k v hk;rw[Nat.sub_zero] at b;have a:=(List.getElem?_eq_some_iff.1 b).1;rw[Array.getElem?_append_left (by simpa using a)];simpa using b
theorem ph(hf:P.funcs[f]?=some fn)(hb:fn.body=some c)(h:GC P n [] c (bodyPostD P fn R) (en 0 vs) w)(hn:fn.ntmps=n:=by kernel_rfl)(hs:Nat.ble vs.length n=true:=by kernel_rfl):Calls P f vs.toArray w R :=
 calls_of_wp_defers hf hb (h.out _ (enR hn hs))
theorem oR{u:FrameMode}(hf:P.funcs[f]? = some fn)(hb:fn.body=some c)(h:GC P n [] c (bodyPost P fn R) (en 0 vs) w)(hn:fn.ntmps=n:=by kernel_rfl)(hs:Nat.ble vs.length n=true:=by kernel_rfl):CallsD P f vs.toArray u w λe u' w'=>u'=u/\R e w' :=
 callsD_of_wp hf hb (h.out _ (enR hn hs))
theorem xh{R:Ending → World → Prop}{fv : Fn}{cap b args:Array Value}(hi : (invoke (.fn fv cap) b).run P w = .ok (.enter f args) w)(hc : CallsD P f args .returning w λe u' w' => u' = .returning ∧ R' e w')(h : ∀ e w', R' e w' → ∃ x v, e = .returned x ∧ (∀ a, Rd n [] l a → (results fn a.tmps).run P w' = .ok v w') ∧ R (.returned v) w') : GE n [⟨.fn fv cap, b⟩] (bodyPostD P fn R) .ret l w := ⟨λa r => by
  show Leaves P fn a.tmps R a.defers .returning w
  rw[r.dfs];refine⟨by simp,fv,cap,f,args,rfl,hi,hc.mono ?_⟩;rintro e u' w' ⟨rfl,c⟩;obtain⟨x,v,rfl,d,g⟩:= h e w' c
  exact⟨v,d { a with defers:=[] } ⟨r.size,rfl,r.get⟩,g⟩⟩
end
end
end Gl
end
section
namespace Kv
open Go.RowKit Go.Lib Pg
attribute [local go_sem] Oper.semAt_some
structure Ste where
 what:Int
 num:Int
 ka:Option Addr
 kc:Nat
 kl:List Int
 va:Option Addr
 vc:Nat
 vl:List Int
def setd (E:aD) (k v:List Int):aD:=if gV k v=0 then put E k v else E
def chgd (E:aD) (what:Int) (k v:List Int):aD:=if what.tmod 2=0 then setd E k v else rem E k
end Kv
end
section
namespace Kv
open Go.RowKit Go.Lib Pg
def run (ss:List Ste):Nat→aD
  | 0=>[]
  | j + 1 => match ss[j]? with
    | some s=>chgd (run ss j) s.what s.kl s.vl
    | none=>run ss j
end Kv
end
end Go.Proofs.YtpoifdokmjhclaaGreat
