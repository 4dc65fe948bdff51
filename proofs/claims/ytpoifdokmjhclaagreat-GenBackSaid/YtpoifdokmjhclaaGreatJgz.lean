import Derived.Test.YtpoifdokmjhclaaGreatJgx
import Derived.Test.YtpoifdokmjhclaaGreatJgy
set_option maxRecDepth 100000
set_option maxHeartbeats 8000000
namespace Go.Proofs.YtpoifdokmjhclaaGreat
namespace Fo
open Go.RowKit Go.Lib Pg Lim Gl Kv Bk Pw
attribute [local go_sem] Oper.semAt_some
set_option linter.unusedVariables false
set_option linter.unusedSimpArgs false
section
variable {b rt tk un pe x0 x1 x2 x3 er p0 p1 p2 p3 p4 p5 p6 p7 p8 p9 dp k a id:Int}{w:World}{v:Value}{l:List Int}{jl bo th:Bool}{b0 b1 b2 b3 a0 a1 a2 a3:Option Addr}{k0 d0 k1 d1 B g n N n0 c0 z0 n1 c1 z1:Nat}{K:Nat->Prop}{E:aA}{W:List aA}
abbrev bi(b:Bool):Int:=if b then 1 else 0
theorem Ff{x:Int}{b:Bool}(h:x=bi b):(x == 1)=b:=by subst h;cases b<;>rfl
def CJ(l:List Int):List Int × Int:=((List.range 10).map (Rc.aR (Rc.dz l)),Rc.gS (Rc.dz l))
theorem rdVal(h:ByU w v l)(g:l.length<=1000000000)(hv:CJ l=([rt,tk,x0,(bi jl),un,(bi bo),pe,x1,x2,x3],er)):Calls Tryz.prog 43 #[v] w fun e w'=>∃ b0 k0 d0 b1 k1 d1 b2 k2 d2 b3 k3 d3,e=.returned (.tuple #[.agg #[.int .u64 rt,.int .u64 tk,.slice b0 k0 d0,.bool jl,.int .u64 un,.bool bo,.int .u64 pe,.slice b1 k1 d1,.slice b2 k2 d2,.slice b3 k3 d3],.int .i64 er])/\(Rc.du w' w.heap.size b0 k0 d0 x0/\k0<=510)/\(Rc.du w' w.heap.size b1 k1 d1 x1/\k1<=510)/\(Rc.du w' w.heap.size b2 k2 d2 x2/\k2<=510)/\(Rc.du w' w.heap.size b3 k3 d3 x3/\k3<=510)/\Below w.heap.size w w':=by
 obtain⟨b,j,c,rfl,f⟩:=bya h.byt;have a:=congrArg (·.2) hv;have hq:=fun i:Nat=>congrArg (·.1[i]?) hv
 simp only[CJ] at a hq
 have d:Rc.aR (Rc.dz l) 0=rt:=Option.some.inj (hq 0)
 have e1:Rc.aR (Rc.dz l) 1=tk:=Option.some.inj (hq 1)
 have e2:Rc.aR (Rc.dz l) 2=x0:=Option.some.inj (hq 2)
 have e3:Rc.aR (Rc.dz l) 3=(bi jl):=Option.some.inj (hq 3)
 have e4:Rc.aR (Rc.dz l) 4=un:=Option.some.inj (hq 4)
 have e5:Rc.aR (Rc.dz l) 5=(bi bo):=Option.some.inj (hq 5)
 have e6:Rc.aR (Rc.dz l) 6=pe:=Option.some.inj (hq 6)
 have e7:Rc.aR (Rc.dz l) 7=x1:=Option.some.inj (hq 7)
 have e8:Rc.aR (Rc.dz l) 8=x2:=Option.some.inj (hq 8)
 have e9:Rc.aR (Rc.dz l) 9=x3:=Option.some.inj (hq 9);refine(Rc.oVal f g).mono ?_
 intro e w' h;rw[d,e1,e2,Ff e3,e4,Ff e5,e6,e7,e8,e9,a] at h;exact h
def rJ(l:List Int):List Int × Int:=((List.range 1).map (Rc.aR (Rc.l6 l)),Rc.gS (Rc.l6 l))
theorem rdPool(h:ByU w v l)(g:l.length<=1000000000)(hv:rJ l=([x0],er)):Calls Tryz.prog 339 #[v] w fun e w'=>∃ b0 k0 d0,e=.returned (.tuple #[.agg #[.slice b0 k0 d0],.int .i64 er])/\(Rc.du w' w.heap.size b0 k0 d0 x0/\k0<=510)/\Below w.heap.size w w':=by
 obtain⟨b,j,c,rfl,f⟩:=bya h.byt;have a:=congrArg (·.2) hv;have hq:=fun i:Nat=>congrArg (·.1[i]?) hv
 simp only[rJ] at a hq
 have d:Rc.aR (Rc.l6 l) 0=x0:=Option.some.inj (hq 0);refine(Rc.oPool f g).mono ?_
 intro e w' h;rw[d,a] at h;exact h
def vW(l:List Int):List Int × Int:=((List.range 10).map (Rc.aR (Rc.bI l)),Rc.gS (Rc.bI l))
theorem Bw(h:ByU w v l)(g:l.length<=1000000000)(hv:vW l=([p0,p1,p2,p3,p4,p5,p6,p7,p8,p9],er)):Calls Tryz.prog 145 #[v] w fun e w'=>e=.returned (.tuple #[.agg #[.int .u64 p0,.int .u64 p1,.int .u64 p2,.int .u64 p3,.int .u64 p4,.int .u64 p5,.int .u64 p6,.int .u64 p7,.int .u64 p8,.int .u64 p9],.int .i64 er])/\Below w.heap.size w w':=by
 obtain⟨b,j,c,rfl,f⟩:=bya h.byt;have a:=congrArg (·.2) hv;have hq:=fun i:Nat=>congrArg (·.1[i]?) hv
 simp only[vW] at a hq
 have d:Rc.aR (Rc.bI l) 0=p0:=Option.some.inj (hq 0)
 have e1:Rc.aR (Rc.bI l) 1=p1:=Option.some.inj (hq 1)
 have e2:Rc.aR (Rc.bI l) 2=p2:=Option.some.inj (hq 2)
 have e3:Rc.aR (Rc.bI l) 3=p3:=Option.some.inj (hq 3)
 have e4:Rc.aR (Rc.bI l) 4=p4:=Option.some.inj (hq 4)
 have e5:Rc.aR (Rc.bI l) 5=p5:=Option.some.inj (hq 5)
 have e6:Rc.aR (Rc.bI l) 6=p6:=Option.some.inj (hq 6)
 have e7:Rc.aR (Rc.bI l) 7=p7:=Option.some.inj (hq 7)
 have e8:Rc.aR (Rc.bI l) 8=p8:=Option.some.inj (hq 8)
 have e9:Rc.aR (Rc.bI l) 9=p9:=Option.some.inj (hq 9);refine(Rc.DX f g).mono ?_
 intro e w' h;rw[d,e1,e2,e3,e4,e5,e6,e7,e8,e9,a] at h;exact h
def vv(rt:Int)(tk:Int)(x0:Int)(jl:Bool)(un:Int)(bo:Bool)(pe:Int)(x1:Int)(x2:Int)(x3:Int):List Int:=Rc.thr (Rc.pnx (fun o=>([rt,tk,x0,(bi jl),un,(bi bo),pe,x1,x2,x3]:List Int).getD o 0)) [(0,0),(0,1),(2,2),(1,3),(0,4),(1,5),(0,6),(2,7),(2,8),(2,9)] []
theorem BI:(vv rt tk x0 jl un bo pe x1 x2 x3).length<=4096:=by have:=Rc.dn (fun o=>([rt,tk,x0,(bi jl),un,(bi bo),pe,x1,x2,x3]:List Int).getD o 0) [(0,0),(0,1),(2,2),(1,3),(0,4),(1,5),(0,6),(2,7),(2,8),(2,9)] [];simp only[List.length_cons,List.length_nil] at this;unfold vv;omega
theorem putVal{k2 d2:Nat}{k3 d3:Nat}(f:aT w b0 k0 d0 x0)(m0:k0<=1000000)(h1:aT w b1 k1 d1 x1)(m1:k1<=1000000)(c:aT w b2 k2 d2 x2)(a:k2<=1000000)(g:aT w b3 k3 d3 x3)(d:k3<=1000000):Calls Tryz.prog 199 #[.agg #[.int .u64 rt,.int .u64 tk,.slice b0 k0 d0,.bool jl,.int .u64 un,.bool bo,.int .u64 pe,.slice b1 k1 d1,.slice b2 k2 d2,.slice b3 k3 d3]] w fun e w'=>∃ v,e=.returned v/\ByU w' v (vv rt tk x0 jl un bo pe x1 x2 x3)/\Below w.heap.size w w':=by
 refine(Rc.sI f m0 h1 m1 c a g d).mono ?_
 rintro e w' ⟨b,n,rfl,hn,X,hb,B⟩;exact⟨_,rfl,gC X (Rc.gM _ _ _ (fun _ h=>by simp at h)) hn (Nat.le_trans BI (by decide)),B⟩
def dv(x0:Int)(dp:Int)(x1:Int):List Int:=Rc.thr (Rc.pnx (fun o=>([x0,dp,x1]:List Int).getD o 0)) [(2,0),(0,1),(2,2)] []
theorem Cb  : (dv x0 dp x1).length<=4096:=by have:=Rc.dn (fun o=>([x0,dp,x1]:List Int).getD o 0) [(2,0),(0,1),(2,2)] [];simp only[List.length_cons,List.length_nil] at this;unfold dv;omega
theorem nZ(a:aT w b0 k0 d0 x0)(m0:k0<=1000000)(h1:aT w b1 k1 d1 x1)(m1:k1<=1000000):Calls Tryz.prog 291 #[.agg #[.slice b0 k0 d0,.int .u64 dp,.slice b1 k1 d1]] w fun e w'=>∃ v,e=.returned v/\ByU w' v (dv x0 dp x1)/\Below w.heap.size w w':=by
 refine(Rc.jV a m0 h1 m1).mono ?_
 rintro e w' ⟨b,n,rfl,hn,X,hb,B⟩;exact⟨_,rfl,gC X (Rc.gM _ _ _ (fun _ h=>by simp at h)) hn (Nat.le_trans Cb (by decide)),B⟩
def pov(x0:Int):List Int:=Rc.thr (Rc.pnx (fun o=>([x0]:List Int).getD o 0)) [(2,0)] []
theorem vr  : (pov x0).length<=4096:=by have:=Rc.dn (fun o=>([x0]:List Int).getD o 0) [(2,0)] [];simp only[List.length_cons,List.length_nil] at this;unfold pov;omega
theorem DI(a:aT w b0 k0 d0 x0)(m0:k0<=1000000):Calls Tryz.prog 337 #[.agg #[.slice b0 k0 d0]] w fun e w'=>∃ v,e=.returned v/\ByU w' v (pov x0)/\Below w.heap.size w w':=by
 refine(Rc.so a m0).mono ?_
 rintro e w' ⟨b,n,rfl,hn,X,hb,B⟩;exact⟨_,rfl,gC X (Rc.gM _ _ _ (fun _ h=>by simp at h)) hn (Nat.le_trans vr (by decide)),B⟩
def pav(p0:Int)(p1:Int)(p2:Int)(p3:Int)(p4:Int)(p5:Int)(p6:Int)(p7:Int)(p8:Int)(p9:Int):List Int:=Rc.thr (Rc.pnx (fun o=>([p0,p1,p2,p3,p4,p5,p6,p7,p8,p9]:List Int).getD o 0)) [(0,0),(0,1),(0,2),(0,3),(0,4),(0,5),(0,6),(0,7),(0,8),(0,9)] []
theorem vx  : (pav p0 p1 p2 p3 p4 p5 p6 p7 p8 p9).length<=4096:=by have:=Rc.dn (fun o=>([p0,p1,p2,p3,p4,p5,p6,p7,p8,p9]:List Int).getD o 0) [(0,0),(0,1),(0,2),(0,3),(0,4),(0,5),(0,6),(0,7),(0,8),(0,9)] [];simp only[List.length_cons,List.length_nil] at this;unfold pav;omega
theorem xq    : Calls Tryz.prog 88 #[.agg #[.int .u64 p0,.int .u64 p1,.int .u64 p2,.int .u64 p3,.int .u64 p4,.int .u64 p5,.int .u64 p6,.int .u64 p7,.int .u64 p8,.int .u64 p9]] w fun e w'=>∃ v,e=.returned v/\ByU w' v (pav p0 p1 p2 p3 p4 p5 p6 p7 p8 p9)/\Below w.heap.size w w':=by
 refine(Rc.nY ).mono ?_
 rintro e w' ⟨b,n,rfl,hn,X,hb,B⟩;exact⟨_,rfl,gC X (Rc.gM _ _ _ (fun _ h=>by simp at h)) hn (Nat.le_trans vx (by decide)),B⟩
theorem pS(j:0<=a/\a < 18446744073709551616)(h:Ky.mkE k a b=false):Calls Tryz.prog 75 #[.agg #[.int .i64 k,.int .u64 a,.int .u64 b]] w fun e w'=>∃ v,e=.returned v/\ByU w' v (Ky.mk k a b)/\Below w.heap.size w w':=by
 have d:=Below.refl w.heap.size w;refine af (n:=11) Tryz.func75 rfl ?_
 refine sr<|ta 1 [.int .i64 k,.int .u64 a,.int .u64 b] 103 (pg) ?_
 intro v1 m c g B;replace d:=ae d B;clear B;refine tz 1<|nx<|tlr 6 [.int .i64 k,.int .u64 a,.int .u64 b] c 0 ?_
 have f:=c.lt;refine tc 7 72 #[.agg #[.int .i64 k,.int .u64 a,.int .u64 b]] (qf j h) ?_
 rintro _ l ⟨v,rfl,i,B⟩;refine⟨_,rfl,?_⟩;replace d:=ae d B;replace c:=c.keep B;clear B;refine tz 5<|nx<|tz 2<|nt<|ay [(2,v)]<|bh<|ah (v) (rs1 2) ?_
 exact⟨_,rfl,i,d⟩
theorem dLay(h:Sx B w K g E W n N)(r:0<=a/\a < 18446744073709551616)(p:Ky.mkE k a b=false)(e:ByU w v l)(hlen:l.length<=4096)(hn:n+10<=4000000000000000000)(x:N+10<=100000000):Calls Tryz.prog 198 #[pg g,.agg #[.int .i64 k,.int .u64 a,.int .u64 b],v] w (SxE B w K g (put E (Ky.mk k a b) l) W (n+1) (N+2) (.tuple #[])):=by
 have A:=h.at
 refine af (n:=11) Tryz.func198 rfl ?_
 refine sr<|ta 4 [.int .i64 k,.int .u64 a,.int .u64 b] 103 (pg) ?_
 intro v1 s d i B;have q:=Nat.le_trans A.size i;have c:=A.new i;replace A:=A.keep B;replace e:=cE e B;clear B;refine nt<|aN<|tz 1<|tlr 7 [.int .i64 k,.int .u64 a,.int .u64 b] d 0<|tc 8 75 #[.agg #[.int .i64 k,.int .u64 a,.int .u64 b]] (pS r p) ?_
 rintro _ y ⟨o,rfl,j,B⟩;refine⟨_,rfl,?_⟩;replace A:=A.keep B;replace e:=cE e B;replace d:=d.keep B;clear B;refine tz 1<|tc 10 86 #[pg g,o,v] (qset A.sx j p e hlen (by omega) (by omega)) ?_
 rintro _ u ⟨rfl,t,S,m,f⟩;refine⟨_,rfl,?_⟩;replace e:=A.byu e f;replace c:=opX d c m f;replace d:=c.1;replace c:=c.2;replace j:=A.byu j f;replace A:=A.op S m f;clear S m f;clear j;clear e;refine aO<|aV (.tuple #[]) (rs0) ?_
 exact⟨rfl,_,A.sx,A.km,A.cc⟩
structure VaE(B:Nat)(w:World)(K:Nat->Prop)(g:Nat)(E:aA)(W:List aA)(n N:Nat)(rt:Int)(tk:Int)(x0:Int)(jl:Bool)(un:Int)(bo:Bool)(pe:Int)(x1:Int)(x2:Int)(x3:Int)(th:Bool)(e:Ending)(w':World):Prop where
 ex:∃ b0 k0 d0 y0 b1 k1 d1 y1 b2 k2 d2 y2 b3 k3 d3 y3 K' n' N',e=.returned (.tuple #[.agg #[.int .u64 rt,.int .u64 tk,.slice b0 k0 d0,.bool jl,.int .u64 un,.bool bo,.int .u64 pe,.slice b1 k1 d1,.slice b2 k2 d2,.slice b3 k3 d3],.bool th])/\Sx B w' K' g E W n' N'/\n'<=n+1/\N'<=N/\(∀ b,K' b->K b\/w.heap.size<=b)/\Chg K w w'/\Nq w' K' y0 b0 k0 d0 x0/\k0<=510/\(k0=0\/w.heap.size<=y0)/\Nq w' K' y1 b1 k1 d1 x1/\k1<=510/\(k1=0\/w.heap.size<=y1)/\Nq w' K' y2 b2 k2 d2 x2/\k2<=510/\(k2=0\/w.heap.size<=y2)/\Nq w' K' y3 b3 k3 d3 x3/\k3<=510/\(k3=0\/w.heap.size<=y3)
theorem fdVal(h:Sx B w K g E W n N)(ha:0<=a/\a < 18446744073709551616)(hE:Ky.mkE k a b=false)(hv:CJ (got E (Ky.mk k a b))=([rt,tk,x0,(bi jl),un,(bi bo),pe,x1,x2,x3],er))(hth:(er == 0)=th)(hn:n+10<=4000000000000000000)(hN:N+10<=100000000):Calls Tryz.prog 42 #[pg g,.agg #[.int .i64 k,.int .u64 a,.int .u64 b],.func (.func 43) #[] #[]] w (VaE B w K g E W n N rt tk x0 jl un bo pe x1 x2 x3 th):=by
 have A:=h.at
 refine af (n:=28) Tryz.func42 rfl ?_
 refine sr<|ta 4 [iI k,iU a,iU b] 103 (pg) ?_
 intro v1 g2 c hg2 B;obtain⟨zg2,p,A⟩:=A.al hg2 B;have lXg2:=c.lt;refine ta 6 [iU 0,iU 0,zS,bF,iU 0,bF,iU 0,zS,zS,zS] 57 (pg) ?_
 intro v3 g4 d hg4 B;obtain⟨zg4,m,A⟩:=A.al hg4 B;replace c:=c.keep B;refine tz 1<|nx<|tz 1<|tlr 14 [iI k,iU a,iU b] c 0<|tc 15 75 #[.agg #[iI k,iU a,iU b]] (pS ha hE) ?_
 rintro _ v7 ⟨kv6,rfl,Z,B⟩;refine⟨_,rfl,?_⟩;replace A:=A.keep B;replace c:=c.keep B;replace d:=d.keep B;refine tc 16 39 #[pg g,kv6] (Be A.sx Z (by omega) (by omega)) ?_
 rintro _ v10 ⟨ap,rfl,U9,S,hC⟩;refine⟨_,rfl,?_⟩;replace p:=opX c p (fun _ h=>.inl h) hC;replace c:=p.1;replace p:=p.2;replace m:=opX d m (fun _ h=>.inl h) hC;replace d:=m.1;replace m:=m.2;replace Z:=A.byu Z hC;replace A:=A.op S (fun _ h=>.inl h) hC;refine tz 5<|nt<|ay [(2,.func (.func 43) #[] #[]),(6,pg g4),(7,bF),(8,ap)]<|sr<|tz 2<|tc 22 43 #[ap] (rdVal U9 (kQ A.sx _) hv) ?_
 rintro _ v15 ⟨J,L,G,t,q,x,v,s,r,D,H,y,rfl,ag,aa,ak,ai,B⟩;refine⟨_,rfl,?_⟩;obtain⟨zr11,u,i⟩:=iq ag.1 (fun b hb=>A.lt hb);have mr11:=ag.2;clear ag;have eQr11g2:=ne2 u c.lt;have U:=ne2 u d.lt;have ab:=ne3 u A.size;clear u;obtain⟨zr12,F,f⟩:=iq aa.1 (fun b hb=>A.lt hb);have mr12:=aa.2;clear aa;have aq:=ne2 F c.lt;have X:=ne2 F d.lt;have ac:=ne3 F A.size;clear F;obtain⟨zr13,z,e⟩:=iq ak.1 (fun b hb=>A.lt hb);have ao:=ak.2;clear ak;have eQr13g2:=ne2 z c.lt;have R:=ne2 z d.lt;have aj:=ne3 z A.size;clear z;obtain⟨zr14,I,j⟩:=iq ai.1 (fun b hb=>A.lt hb);have ar:=ai.2;clear ai;have eQr14g2:=ne2 I c.lt;have V:=ne2 I d.lt;have ae:=ne3 I A.size;clear I;replace A:=A.keep B;replace c:=c.keep B;replace d:=d.keep B;replace Z:=cE Z B;replace U9:=cE U9 B;clear U9;refine tz 3 ?_
 have lXg2:=c.lt;have lXg4:=d.lt;refine ta 10 [iU 0,iU 0,zS,bF,iU 0,bF,iU 0,zS,zS,zS] 57 (pg) ?_
 intro v16 ad l o B;have an:=Nat.le_trans A.size o;have am:=A.new o;have P:=ne1 i.lt o;have O:=ne1 f.lt o;have Q:=ne1 e.lt o;have M:=ne1 j.lt o;replace A:=A.keep B;replace c:=c.keep B;replace d:=d.keep B;replace Z:=cE Z B;replace i:=i.keep B;replace f:=f.keep B;replace e:=e.keep B;replace j:=j.keep B;refine tsw l [iU rt,iU tk,.slice J L G,.bool jl,iU un,.bool bo,iU pe,.slice t q x,.slice v s r,.slice D H y] ?_
 intro v18 Y C;replace A:=Bk.At.cell A l C an am (by decide);replace c:=c.chg C (show g2≠ad by omega);replace d:=d.chg C (show g4≠ad by omega);replace Z:=fU Z l C (by decide);replace i:=i.cell C P;replace f:=f.cell C O;replace e:=e.cell C Q;replace j:=j.cell C M;have l:=Y;refine tz 1<|nx<|tlr 25 [iU rt,iU tk,.slice J L G,.bool jl,iU un,.bool bo,iU pe,.slice t q x,.slice v s r,.slice D H y] l 0<|tz 1<|tq 27 (.bool ((er:Int) == 0)) (.bool th) (congrArg Value.bool hth)<|tsw d [iU rt,iU tk,.slice J L G,.bool jl,iU un,.bool bo,iU pe,.slice t q x,.slice v s r,.slice D H y] ?_
 intro v19 Y C;replace A:=Bk.At.cell A d C zg4 m (by decide);replace c:=c.chg C (show g2≠g4 by omega);replace Z:=fU Z d C (by decide);replace i:=i.cell C U;replace f:=f.cell C X;replace e:=e.cell C R;replace j:=j.cell C V;replace l:=l.chg C (show ad≠g4 by omega);have d:=Y;refine tz 1<|nt<|ay [(6,pg g4),(7,.bool th)]<|bh<|ah (.tuple #[.agg #[iU rt,iU tk,.slice J L G,.bool jl,iU un,.bool bo,iU pe,.slice t q x,.slice v s r,.slice D H y],.bool th]) (dX (T:=57) 6 7 (lr d 0)) ?_
 exact⟨_,_,_,_,_,_,_,_,_,_,_,_,_,_,_,_,_,_,_,rfl,A.sx,by omega,by omega,A.km,A.cc,i,mr11,ab,f,mr12,ac,e,ao,aj,j,ar,ae⟩
structure FpE(B:Nat)(w:World)(K:Nat->Prop)(g:Nat)(E:aA)(W:List aA)(n N:Nat)(x0:Int)(th:Bool)(e:Ending)(w':World):Prop where
 ex:∃ b0 k0 d0 y0 K' n' N',e=.returned (.tuple #[.agg #[.slice b0 k0 d0],.bool th])/\Sx B w' K' g E W n' N'/\n'<=n+1/\N'<=N/\(∀ b,K' b->K b\/w.heap.size<=b)/\Chg K w w'/\Nq w' K' y0 b0 k0 d0 x0/\k0<=510/\(k0=0\/w.heap.size<=y0)
theorem fdPool(h:Sx B w K g E W n N)(ha:0<=a/\a < 18446744073709551616)(hE:Ky.mkE k a b=false)(hv:rJ (got E (Ky.mk k a b))=([x0],er))(M:(er == 0)=th)(hn:n+10<=4000000000000000000)(hN:N+10<=100000000):Calls Tryz.prog 338 #[pg g,.agg #[.int .i64 k,.int .u64 a,.int .u64 b],.func (.func 339) #[] #[]] w (FpE B w K g E W n N x0 th):=by
 have A:=h.at
 refine af (n:=28) Tryz.func338 rfl ?_
 refine sr<|ta 4 [iI k,iU a,iU b] 103 (pg) ?_
 intro v1 V c Q B;obtain⟨zg2,j,A⟩:=A.al Q B;have G:=c.lt;refine ta 6 [zS] 55 (pg) ?_
 intro v3 D d O B;obtain⟨R,i,A⟩:=A.al O B;replace c:=c.keep B;refine tz 1<|nx<|tz 1<|tlr 14 [iI k,iU a,iU b] c 0<|tc 15 75 #[.agg #[iI k,iU a,iU b]] (pS ha hE) ?_
 rintro _ v7 ⟨P,rfl,t,B⟩;refine⟨_,rfl,?_⟩;replace A:=A.keep B;replace c:=c.keep B;replace d:=d.keep B;refine tc 16 39 #[pg g,P] (Be A.sx t (by omega) (by omega)) ?_
 rintro _ v10 ⟨I,rfl,J,S,L⟩;refine⟨_,rfl,?_⟩;replace j:=opX c j (fun _ h=>.inl h) L;replace c:=j.1;replace j:=j.2;replace i:=opX d i (fun _ h=>.inl h) L;replace d:=i.1;replace i:=i.2;replace t:=A.byu t L;replace A:=A.op S (fun _ h=>.inl h) L;refine tz 5<|nt<|ay [(2,.func (.func 339) #[] #[]),(6,pg D),(7,bF),(8,I)]<|sr<|tz 2<|tc 22 339 #[I] (rdPool J (kQ A.sx _) hv) ?_
 rintro _ v12 ⟨m,p,o,rfl,y,B⟩;refine⟨_,rfl,?_⟩;obtain⟨X,l,e⟩:=iq y.1 (fun b hb=>A.lt hb);have H:=y.2;clear y;have F:=ne2 l c.lt;have s:=ne2 l d.lt;have u:=ne3 l A.size;clear l;replace A:=A.keep B;replace c:=c.keep B;replace d:=d.keep B;replace t:=cE t B;replace J:=cE J B;clear J;refine tz 3 ?_
 have G:=c.lt;have U:=d.lt;refine ta 10 [zS] 55 (pg) ?_
 intro Z x f r B;have z:=Nat.le_trans A.size r;have v:=A.new r;have q:=ne1 e.lt r;replace A:=A.keep B;replace c:=c.keep B;replace d:=d.keep B;replace t:=cE t B;replace e:=e.keep B;refine tsw f [.slice m p o] ?_
 intro aa Y C;replace A:=Bk.At.cell A f C z v (by decide);replace c:=c.chg C (show V≠x by omega);replace d:=d.chg C (show D≠x by omega);replace t:=fU t f C (by decide);replace e:=e.cell C q;have f:=Y;refine tz 1<|nx<|tlr 25 [.slice m p o] f 0<|tz 1<|tq 27 (.bool ((er:Int) == 0)) (.bool th) (congrArg Value.bool M)<|tsw d [.slice m p o] ?_
 intro ab Y C;replace A:=Bk.At.cell A d C R i (by decide);replace c:=c.chg C (show V≠D by omega);replace t:=fU t d C (by decide);replace e:=e.cell C s;replace f:=f.chg C (show x≠D by omega);have d:=Y;refine tz 1<|nt<|ay [(6,pg D),(7,.bool th)]<|bh<|ah (.tuple #[.agg #[.slice m p o],.bool th]) (dX (T:=55) 6 7 (lr d 0)) ?_
 exact⟨_,_,_,_,_,_,_,rfl,A.sx,by omega,by omega,A.km,A.cc,e,H,u⟩
theorem mkE3:Ky.mkE 3 0 0=false:=by kernel_rfl
theorem mkE5(a:Int):Ky.mkE 5 a 0=false:=by
 unfold Ky.mkE;rw[show (Ky.frm 5).1=10 from rfl];simp
theorem mkE6(a b:Int):Ky.mkE 6 a b=false:=by
 unfold Ky.mkE;rw[show (Ky.frm 6).1=18 from rfl];simp
theorem EW(h:Sx B w K g E W n N)(s:0<=id/\id < 18446744073709551616)(hv:CJ (got E (Ky.mk 5 id 0))=([rt,tk,x0,(bi jl),un,(bi bo),pe,x1,x2,x3],er))(x:(er == 0)=th)(hn:n+40<=4000000000000000000)(hN:N+40<=100000000):Calls Tryz.prog 16 #[pg g,.int .u64 id] w (VaE B w K g E W n N rt tk x0 jl un bo pe x1 x2 x3 th):=by
 have U:=dJ h;refine af (n:=12) Tryz.func16 rfl ?_
 refine sr<|ta 4 [.int .u64 0,.int .u64 0,.slice none 0 0,.bool false,.int .u64 0,.bool false,.int .u64 0,.slice none 0 0,.slice none 0 0,.slice none 0 0] 57 (pg) (U.nw ?_)
 intro v1 g2 U;refine tz 1<|nx<|tz 3<|tc 9 42 #[pg g,.agg #[.int .i64 5,.int .u64 id,.int .u64 0],.func (.func 43) #[] #[]] (fdVal U.ta.sx s (mkE5 _) hv x (by omega) (by omega)) ?_
 rintro _ v10 ⟨o,b,a,R,l,m,k,Q,c,e,f,O,d,i,j,J,K7,n8,Z,rfl,S,V,M,D,C,H,X,v,F,I,y,G,Y,p,A,P,r⟩;have q:=ne3 v U.ta.size;have t:=ne3 y U.ta.size;have z:=ne3 p U.ta.size;have u:=ne3 r U.ta.size;have L:=U.lt;replace U:=((((U.op S D C).add L H v).add L F y).add L G p).add L A r;clear L S D C H v F y G p A r;refine⟨_,rfl,tz 2<|tsw (U.bk 0 rfl) [.int .u64 rt,.int .u64 tk,.slice o b a,.bool jl,.int .u64 un,.bool bo,.int .u64 pe,.slice l m k,.slice c e f,.slice d i j] (U.st 0 rfl ?_)⟩;intro v11 U;refine tz 1<|nr<|ah (.tuple #[.agg #[.int .u64 rt,.int .u64 tk,.slice o b a,.bool jl,.int .u64 un,.bool bo,.int .u64 pe,.slice l m k,.slice c e f,.slice d i j],.bool th]) (dX (T:=57) 4 5 (lr (U.bk 0 rfl) 0)) ?_
 exact⟨_,_,_,_,_,_,_,_,_,_,_,_,_,_,_,_,_,_,_,rfl,U.ta.sx,by omega,by omega,U.ta.km,U.ta.cc,(U.nq 3 rfl),by omega,q,(U.nq 2 rfl),by omega,t,(U.nq 1 rfl),by omega,z,(U.nq 0 rfl),by omega,u⟩
structure PlE(B:Nat)(w:World)(K:Nat->Prop)(g:Nat)(E:aA)(W:List aA)(n N:Nat)(x0:Int)(e:Ending)(w':World):Prop where
 ex:∃ b0 k0 d0 y0 K' n' N',e=.returned (.agg #[.slice b0 k0 d0])/\Sx B w' K' g E W n' N'/\n'<=n+1/\N'<=N/\(∀ b,K' b->K b\/w.heap.size<=b)/\Chg K w w'/\Nq w' K' y0 b0 k0 d0 x0/\k0<=510/\(k0=0\/w.heap.size<=y0)
theorem gPool(h:Sx B w K g E W n N)(hv:rJ (got E (Ky.mk 3 0 0))=([x0],er))(hn:n+40<=4000000000000000000)(z:N+40<=100000000):Calls Tryz.prog 288 #[pg g] w (PlE B w K g E W n N x0):=by
 have U:=dJ h;refine af (n:=12) Tryz.func288 rfl ?_
 obtain⟨i,f⟩:∃ i,(er == 0)=i:=⟨_,rfl⟩
 refine sr<|ta 2 [.slice none 0 0] 55 (pg) (U.nw ?_)
 intro v1 y U;refine nx<|tz 2<|tc 8 338 #[pg g,.agg #[.int .i64 3,.int .u64 0,.int .u64 0],.func (.func 339) #[] #[]] (fdPool U.ta.sx ⟨by decide,by decide⟩ mkE3 hv f (by omega) (by omega)) ?_
 rintro _ t ⟨c,b,a,p,u,x,s,rfl,S,m,o,k,j,l,q,e⟩;have d:=ne3 e U.ta.size;have L:=U.lt;replace U:=(U.op S k j).add L l e;clear L S k j l e;refine⟨_,rfl,tz 3<|ta 3 [.slice none 0 0] 55 (pg) (U.nw ?_)⟩;intro v r U;refine tsw (U.bk 0 rfl) [.slice c b a] (U.st 0 rfl ?_);intro v10 U;refine tz 1<|nx<|tlr 11 [.slice c b a] (U.bk 0 rfl) 0<|tsw (U.bk 1 rfl) [.slice c b a] (U.st 1 rfl ?_)
 intro v11 U;refine nr<|ah (.agg #[.slice c b a]) (rsc (T:=55) 2 (lr (U.bk 1 rfl) 0)) ?_
 exact⟨_,_,_,_,_,_,_,rfl,U.ta.sx,by omega,by omega,U.ta.km,U.ta.cc,(U.nq 0 rfl),by omega,d⟩
theorem sVal{b c2 z2:Nat}{a c3 z3:Nat}(h:Sx B w K g E W n N)(d:0<=id/\id < 18446744073709551616)(m:Nk w K z0 a0 n0 c0 x0)(m0:n0<=100000)(k:Nk w K z1 a1 n1 c1 x1)(m1:n1<=100000)(l:Nk w K z2 a2 b c2 x2)(r:b<=100000)(i:Nk w K z3 a3 a c3 x3)(o:a<=100000)(hn:n+40<=4000000000000000000)(u:N+40<=100000000):Calls Tryz.prog 149 #[pg g,.int .u64 id,.agg #[.int .u64 rt,.int .u64 tk,.slice a0 n0 c0,.bool jl,.int .u64 un,.bool bo,.int .u64 pe,.slice a1 n1 c1,.slice a2 b c2,.slice a3 a c3]] w (SxE B w K g (put E (Ky.mk 5 id 0) (vv rt tk x0 jl un bo pe x1 x2 x3)) W (n+1) (N+2) (.tuple #[])):=by
 have U:=dJ h;refine af (n:=12) Tryz.func149 rfl ?_
 refine sr<|ta 5 [.int .u64 rt,.int .u64 tk,.slice a0 n0 c0,.bool jl,.int .u64 un,.bool bo,.int .u64 pe,.slice a1 n1 c1,.slice a2 b c2,.slice a3 a c3] 57 (pg) (U.nw ?_)
 intro v1 s U;refine nt<|aN<|tz 3<|tlr 9 [.int .u64 rt,.int .u64 tk,.slice a0 n0 c0,.bool jl,.int .u64 un,.bool bo,.int .u64 pe,.slice a1 n1 c1,.slice a2 b c2,.slice a3 a c3] (U.bk 0 rfl) 0<|tc 10 199 #[.agg #[.int .u64 rt,.int .u64 tk,.slice a0 n0 c0,.bool jl,.int .u64 un,.bool bo,.int .u64 pe,.slice a1 n1 c1,.slice a2 b c2,.slice a3 a c3]] (putVal (m.op U.ta.km U.ta.cc).nat (by omega) (k.op U.ta.km U.ta.cc).nat (by omega) (l.op U.ta.km U.ta.cc).nat (by omega) (i.op U.ta.km U.ta.cc).nat (by omega)) ?_
 rintro _ t ⟨c,rfl,j,B⟩;replace U:=U.keep B;clear B;refine⟨_,rfl,tc 11 198 #[pg g,.agg #[.int .i64 5,.int .u64 id,.int .u64 0],c] (dLay U.ta.sx d (mkE5 _) j BI (by omega) (by omega)) ?_⟩;rintro _ q ⟨rfl,p,S,f,e⟩;replace U:=U.op S f e;clear S f e;refine⟨_,rfl,aO<|aV (.tuple #[]) (rs0) ?_⟩;exact⟨rfl,_,U.ta.sx,U.ta.km,U.ta.cc⟩
theorem sDel{b:Int}(h:Sx B w K g E W n N)(c:0<=id/\id < 18446744073709551616)(j:Nk w K z0 a0 n0 c0 x0)(m0:n0<=100000)(i:Nk w K z1 a1 n1 c1 x1)(m1:n1<=100000)(hn:n+40<=4000000000000000000)(o:N+40<=100000000):Calls Tryz.prog 237 #[pg g,.int .u64 id,.int .u64 b,.agg #[.slice a0 n0 c0,.int .u64 dp,.slice a1 n1 c1]] w (SxE B w K g (put E (Ky.mk 6 id b) (dv x0 dp x1)) W (n+1) (N+2) (.tuple #[])):=by
 have U:=dJ h;refine af (n:=15) Tryz.func237 rfl ?_
 refine sr<|ta 7 [.slice a0 n0 c0,.int .u64 dp,.slice a1 n1 c1] 181 (pg) (U.nw ?_)
 intro v1 k U;refine nt<|aN<|tz 4<|tlr 12 [.slice a0 n0 c0,.int .u64 dp,.slice a1 n1 c1] (U.bk 0 rfl) 0<|tc 13 291 #[.agg #[.slice a0 n0 c0,.int .u64 dp,.slice a1 n1 c1]] (nZ (j.op U.ta.km U.ta.cc).nat (by omega) (i.op U.ta.km U.ta.cc).nat (by omega)) ?_
 rintro _ p ⟨a,rfl,f,B⟩;replace U:=U.keep B;clear B;refine⟨_,rfl,tc 14 198 #[pg g,.agg #[.int .i64 6,.int .u64 id,.int .u64 b],a] (dLay U.ta.sx c (mkE6 _ _) f Cb (by omega) (by omega)) ?_⟩;rintro _ m ⟨rfl,l,S,e,d⟩;replace U:=U.op S e d;clear S e d;refine⟨_,rfl,aO<|aV (.tuple #[]) (rs0) ?_⟩;exact⟨rfl,_,U.ta.sx,U.ta.km,U.ta.cc⟩
def plE(E:aA)(x:Int):aA:=if x=0 then rem E (Ky.mk 3 0 0) else put E (Ky.mk 3 0 0) (pov x)
theorem lPool(h:Sx B w K g E W n N)(j:Nk w K z0 a0 n0 c0 x0)(m0:n0<=100000)(hn:n+40<=4000000000000000000)(x:N+40<=100000000):Calls Tryz.prog 287 #[pg g,.agg #[.slice a0 n0 c0]] w (SxE B w K g (plE E x0) W (n+1) (N+2) (.tuple #[])):=by
 have U:=dJ h;refine af (n:=17) Tryz.func287 rfl ?_
 refine sr<|ta 3 [.slice a0 n0 c0] 55 (pg) (U.nw ?_)
 intro v1 u U;refine nx<|tz 1<|ta 4 [iI 0,iU 0,iU 0] 103 (pg) (U.nw ?_)
 intro t s U;refine tsw (U.bk 0 rfl) [iI 3,iU 0,iU 0] (U.st 0 rfl ?_);intro v U;refine nt<|ag<|sr<|tlr 6 [.slice a0 n0 c0] (U.bk 1 rfl) 0 ?_
 by_cases c:x0=0
 ·refine tc 7 181 #[.agg #[.slice a0 n0 c0]] (dZ (j.op U.ta.km U.ta.cc).nat (by omega) (b:=true) (decide_eq_true c)) ?_
  rintro _ v6 ⟨rfl,B⟩;replace U:=U.keep B;refine⟨_,rfl,nt<|aJ<|sr<|tz 1<|tlr 9 [iI 3,iU 0,iU 0] (U.bk 0 rfl) 0<|tc 10 75 #[.agg #[iI 3,iU 0,iU 0]] (pS ⟨by decide,by decide⟩ mkE3) ?_⟩;rintro _ r ⟨d,rfl,k,B⟩;replace U:=U.keep B;refine⟨_,rfl,tc 11 131 #[pg g,d] (xdel U.ta.sx k (Nat.le_trans (Ky.nh _ _ _) (by decide)) (by omega) (by omega)) ?_⟩;rintro _ v11 ⟨rfl,m,S,f,e⟩;replace U:=U.op S f e;refine⟨_,rfl,nr<|bN<|ah (.tuple #[]) (rs0) ?_⟩;rw[show plE E x0=_ from if_pos c];exact⟨rfl,_,U.ta.sx,U.ta.km,U.ta.cc⟩
 ·refine tc 7 181 #[.agg #[.slice a0 n0 c0]] (dZ (j.op U.ta.km U.ta.cc).nat (by omega) (b:=false) (decide_eq_false c)) ?_
  rintro _ p ⟨rfl,B⟩;replace U:=U.keep B;refine⟨_,rfl,nt<|nk ?_⟩;replace U:=U.drew;refine gd2 (U.bk 0 rfl) (U.bk 1 rfl) ?_
  refine z 0 12 (pg g)<|zlr 1 13 [iI 3,iU 0,iU 0] (fun _ h=>h.1) 0<|zlr 2 14 [.slice a0 n0 c0] (fun _ h=>h.2) 0<|zc 3 15 337 #[.agg #[.slice a0 n0 c0]] (DI (j.op U.ta.km U.ta.cc).nat (by omega)) ?_
  rintro _ l ⟨a,rfl,i,B⟩;replace U:=U.keep B;refine⟨_,rfl,⟨(U.bk 0 rfl),(U.bk 1 rfl)⟩,zc 4 16 198 #[pg g,.agg #[iI 3,iU 0,iU 0],a] (dLay U.ta.sx ⟨by decide,by decide⟩ mkE3 i vr (by omega) (by omega)) ?_⟩;rintro _ q ⟨rfl,o,S,f,e⟩;replace U:=U.op S f e;refine⟨_,rfl,⟨(U.bk 0 rfl),(U.bk 1 rfl)⟩,aP<|aV (.tuple #[]) (rs0) ?_⟩;rw[show plE E x0=_ from if_neg c];exact⟨rfl,_,U.ta.sx,U.ta.km,U.ta.cc⟩
theorem AD{p:Int}(h:Sx B w K g E W n N)(c:Nk w K z0 a0 n0 c0 x0)(m0:n0<=90000)(hv:rJ (got E (Ky.mk 3 0 0))=([p],er))(hn:n+100<=4000000000000000000)(H:N+100<=100000000):Calls Tryz.prog 233 #[pg g,.agg #[.slice a0 n0 c0]] w (SxF B w K g (plE E (p+x0)) W n N (.tuple #[])):=by
 have U:=dJ h;refine af (n:=10) Tryz.func233 rfl ?_
 refine sr<|ta 3 [.slice a0 n0 c0] 55 (pg) (U.nw ?_)
 intro v1 G U;refine nt ?_
 replace U:=U.drew;refine gd1 (U.bk 0 rfl) ?_
 refine z 0 4 (pg g)<|z 1 5 (pg g)<|zlr 3 7 [.slice a0 n0 c0] (fun _ h=>h) 0<|zc 2 6 288 #[pg g] (gPool U.ta.sx hv (by omega) (by omega)) ?_
 rintro _ C ⟨l,f,d,t,D,F,A,rfl,S,m,r,b,a,c,v,i⟩;have q:=ne3 i U.ta.size;have L:=U.lt;replace U:=(U.op S b a).add L c i;clear L S b a c i;refine⟨_,rfl,(U.bk 0 rfl),zc 4 8 185 #[.agg #[.slice l f d],.agg #[.slice a0 n0 c0]] (tX (U.nq 0 rfl).nat (by omega) (c.op U.ta.km U.ta.cc).nat (by omega)) ?_⟩;rintro _ y ⟨e,k,j,u,rfl,M,h,s,B⟩;have x:=ne3 h U.ta.size;replace U:=U.num M h B;clear M h B;refine⟨_,rfl,(U.bk 0 rfl),zc 5 9 287 #[pg g,.agg #[.slice e k j]] (lPool U.ta.sx (U.nq 0 rfl).nk (by omega) (by omega) (by omega)) ?_⟩;rintro _ v11 ⟨rfl,o,S,b,a⟩;replace U:=U.op S b a;refine⟨_,rfl,(U.bk 0 rfl),aP<|aV (.tuple #[]) (rs0) ?_⟩;exact⟨rfl,_,_,_,U.ta.sx,by omega,by omega,U.ta.km,U.ta.cc⟩
end
end Fo
end Go.Proofs.YtpoifdokmjhclaaGreat
