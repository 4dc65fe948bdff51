import Derived.Test.YtidnifmehnjipaaGreatJap
set_option maxRecDepth 100000
set_option maxHeartbeats 8000000
namespace Go.Proofs.YtidnifmehnjipaaGreat
section
namespace Qu
open Go.RowKit Go.Lib Pg Lim Gl Kv Bk Pw
attribute [local go_sem] Oper.semAt_some
set_option linter.unusedVariables false
set_option linter.unusedSimpArgs false
section
variable {w:World}{x0 x1 x2 x3 x4 x5 x6 id:Int}{a6:Option Addr}{n6 c6 B g n N:Nat}{v:Value}{l:List Int}{K:Nat->Prop}{E:ay}{W:List ay}
def mv(x0 x1 x2 x3 x4 x5 x6:Int):List Int:=Rc.thr (Rc.pnx (fun o=>([x0,x1,x2,x3,x4,x5,x6]:List Int).getD o 0)) [(0,0),(0,1),(0,2),(0,3),(0,4),(0,5),(2,6)] []
theorem qE(x0 x1 x2 x3 x4 x5 x6:Int):(mv x0 x1 x2 x3 x4 x5 x6).length<=2100:=by have:=Rc.fk (fun o=>([x0,x1,x2,x3,x4,x5,x6]:List Int).getD o 0) [(0,0),(0,1),(0,2),(0,3),(0,4),(0,5),(2,6)] [];simpa[mv] using this
theorem zZ(x0 x1 x2 x3 x4 x5 x6:Int):Oct (mv x0 x1 x2 x3 x4 x5 x6):=Rc.l3 _ _ _ (fun _ h=>by simp at h)
theorem AM(c:ef w a6 n6 c6 x6)(a:n6<=1000000):Calls Tryz.prog 101 #[.agg #[.int .u64 x0,.int .u64 x1,.int .u64 x2,.int .u64 x3,.int .u64 x4,.int .u64 x5,.slice a6 n6 c6]] w fun e w'=>∃ v,e=.returned v/\ByU w' v (mv x0 x1 x2 x3 x4 x5 x6)/\Below w.heap.size w w':=by
 refine(Rc.sF c a).mono ?_
 rintro e w' ⟨b,n,rfl,hn,X,hb,B⟩;exact⟨_,rfl,lQ X (zZ _ _ _ _ _ _ _) hn (Nat.le_trans (qE _ _ _ _ _ _ _) (by decide)),B⟩
def mX(l:List Int)(i:Nat):Int:=Rc.aT (Rc.bu l) i
def mA(l:List Int)(v:Value):Array Value:=#[.int .u64 (mX l 0),.int .u64 (mX l 1),.int .u64 (mX l 2),.int .u64 (mX l 3),.int .u64 (mX l 4),.int .u64 (mX l 5),v]
def mL(l:List Int)(v:Value):List Value:=[.int .u64 (mX l 0),.int .u64 (mX l 1),.int .u64 (mX l 2),.int .u64 (mX l 3),.int .u64 (mX l 4),.int .u64 (mX l 5),v]
theorem Ei(h:ByU w v l)(d:l.length<=1000000000):Calls Tryz.prog 102 #[v] w fun e w'=>∃ a6 n6 c6,e=.returned (.tuple #[.agg (mA l (.slice a6 n6 c6)),.int .i64 (Rc.aV (Rc.bu l))])/\(Rc.dg w' w.heap.size a6 n6 c6 (mX l 6)/\n6<=510)/\Below w.heap.size w w':=by
 obtain⟨b,f,c,rfl,a⟩:=bya h.byt;exact Rc.oMove a d
theorem layM{C:Nat}(h:Sx B w K g E W n N)(p:0<=id/\id < 18446744073709551616)(c:Nk w K C a6 n6 c6 x6)(v:n6<=1000000)(hn:n+30<=4000000000000000000)(I:N+30<=100000000):Calls Tryz.prog 100 #[pg g,.agg fM,.int .u64 id,.agg #[.int .u64 x0,.int .u64 x1,.int .u64 x2,.int .u64 x3,.int .u64 x4,.int .u64 x5,.slice a6 n6 c6]] w (SxE B w K g (put E (Ky.mk 13 id 0) (mv x0 x1 x2 x3 x4 x5 x6)) W (n+1) (N+2) (.tuple #[])):=by
 have A:=h.at
 refine aC (n:=18) Tryz.func100 rfl ?_
 have G:=c.lt;refine ab (ag (ta 5 fMl 114 (pg) ?_));intro v1 q a k B;have y:=Nat.le_trans A.size k;have e:=A.new k;replace c:=c.keep B;replace A:=A.keep B;refine ta 7 [iU x0,iU x1,iU x2,iU x3,iU x4,iU x5,.slice a6 n6 c6] 48 (pg) ?_
 intro H u b j B;have D:=Nat.le_trans A.size j;have d:=A.new j;replace c:=c.keep B;replace A:=A.keep B;replace a:=a.keep B;refine ae (aa ?_);replace c:=c.drew;replace A:=A.drew;replace a:=a.drew;replace b:=b.drew;refine bI (fun s=>Blk s q fMl 114/\Blk s u [iU x0,iU x1,iU x2,iU x3,iU x4,iU x5,.slice a6 n6 c6] 48) (fun _=>false) ⟨a,b⟩ ?_
 refine z 0 8 (pg g) (z 1 9 (pg q) (zl 2 10 (iI 13) (fun _ h=>h.1) 0 (z 3 11 (iU id) (z 5 13 (pq q 1) (zl 6 14 (.func (.func 101) #[] #[]) (fun _ h=>h.1) 1 (zlr 7 15 [iU x0,iU x1,iU x2,iU x3,iU x4,iU x5,.slice a6 n6 c6] (fun _ h=>h.2) 0 (zc 4 12 64 #[iI 13,iU id,iU 0] (ow p (gP id)) ?_)))))));rintro _ F ⟨r,rfl,i,B⟩;replace c:=c.keep B;replace A:=A.keep B;replace a:=a.keep B;replace b:=b.keep B;refine⟨_,rfl,⟨a,b⟩,?_⟩;refine zc 8 16 101 #[.agg #[iU x0,iU x1,iU x2,iU x3,iU x4,iU x5,.slice a6 n6 c6]] (AM c.nat v) ?_
 rintro _ v10 ⟨o,rfl,m,B⟩;replace c:=c.keep B;replace A:=A.keep B;replace a:=a.keep B;replace b:=b.keep B;replace i:=aA i B;refine⟨_,rfl,⟨a,b⟩,?_⟩;refine zc 9 17 33 #[pg g,r,o] (qm A.sx i (gP id) m (Nat.le_trans (qE _ _ _ _ _ _ _) (by decide)) (by omega) (by omega)) ?_
 rintro _ x ⟨rfl,t,S,l,f⟩;replace c:=c.op l f;obtain⟨a,e⟩:=au a e l f;obtain⟨b,d⟩:=au b d l f;replace i:=A.byu i f;replace m:=A.byu m f;replace A:=A.op S l f;clear i;clear m;refine⟨_,rfl,⟨a,b⟩,?_⟩;refine bB (j7 (.tuple #[]) (rs0 (by kernel_rfl)) ?_);exact⟨rfl,_,A.sx,A.km,A.cc⟩
structure wW(B:Nat)(w:World)(K:Nat->Prop)(g:Nat)(E:ay)(W:List ay)(n N:Nat)(L:List Int)(b:Bool)(e:Ending)(w':World):Prop where
 ex:∃ a6 n6 c6,e=.returned (.tuple #[.agg (mA L (.slice a6 n6 c6)),.bool b])/\∃ z6 K',Sx B w' K' g E W n N/\(∀ b,K' b->K b\/w.heap.size<=b)/\Chg K w w'/\Nq w' K' z6 a6 n6 c6 (mX L 6)/\n6<=510/\(n6=0\/w.heap.size<=z6)
theorem Fa(h:Sx B w K g E W n N)(I:0<=id/\id < 18446744073709551616)(hn:n+30<=4000000000000000000)(hN:N+30<=100000000):Calls Tryz.prog 67 #[pg g,.agg fM,.int .u64 id] w (wW B w K g E W (n+1) N (got E (Ky.mk 13 id 0)) (Kv.look E (Ky.mk 13 id 0)).isSome):=by
 have A:=h.at
 refine aC (n:=30) Tryz.func67 rfl ?_
 refine ab (ag (ta 4 fMl 114 (pg) ?_));intro v1 x a O B;obtain⟨af,F,A⟩:=A.al O B;have y:=a.lt;refine ta 6 zz7 48 (pg) ?_
 intro v3 r d L B;obtain⟨P,o,A⟩:=A.al L B;replace a:=a.keep B;refine t 7 (bF) (ae (aa (ab (ag (t 13 (pg g) (t 14 (pg x) (tl 15 (iI 13) a 0 (t 16 (iU id) (tc 17 64 #[iI 13,iU id,iU 0] (ow I (gP id)) ?_)))))))));rintro _ v7 ⟨M,rfl,l,B⟩;refine⟨_,rfl,?_⟩;replace A:=A.keep B;replace a:=a.keep B;replace d:=d.keep B;refine tc 18 63 #[pg g,M] (DS A.sx l (by omega) (by omega)) ?_
 rintro _ v10 ⟨k,rfl,G,S,H⟩;refine⟨_,rfl,?_⟩;replace a:=a.chg H F;replace d:=d.chg H o;replace l:=A.byu l H;replace A:=A.op S (fun _ h=>.inl h) H;refine t 12 (.tuple #[k,.bool (Kv.look E (Ky.mk 13 id 0)).isSome]) (t 19 (k) (t 20 (.bool (Kv.look E (Ky.mk 13 id 0)).isSome) (t 8 (k) (t 9 (.bool (Kv.look E (Ky.mk 13 id 0)).isSome) (ae (aa (aG [(4,pg x),(6,pg r),(7,bF),(8,k),(9,.bool (Kv.look E (Ky.mk 13 id 0)).isSome)] (ab (ag (t 22 (pq x 2) (tl 23 (.func (.func 102) #[] #[]) a 2 (t 24 (k) (tc 25 102 #[k] (Ei G (Sx.qO A.sx _)) ?_)))))))))))));rintro _ ad ⟨e,c,f,rfl,⟨R,z⟩,B⟩;refine⟨_,rfl,?_⟩;have v:=a.lt;have D:=d.lt;have U:=A.size;obtain⟨p,Q,i⟩:=vr R (fun b hb=>A.lt hb);clear R;replace A:=A.keep B;replace a:=a.keep B;replace d:=d.keep B;replace l:=aA l B;replace G:=aA G B;clear G;refine t 21 (.tuple #[.agg (mA (got E (Ky.mk 13 id 0)) (.slice e c f)),iI (Rc.aV (Rc.bu (got E (Ky.mk 13 id 0))))]) (t 26 (.agg (mA (got E (Ky.mk 13 id 0)) (.slice e c f))) (t 27 (iI (Rc.aV (Rc.bu (got E (Ky.mk 13 id 0))))) ?_));have y:=a.lt;have V:=d.lt;have J:=i.lt;refine ta 10 zz7 48 (pg) ?_
 intro X m j s B;obtain⟨u,q,A⟩:=A.al s B;replace a:=a.keep B;replace d:=d.keep B;replace l:=aA l B;replace i:=i.keep B;refine ts j 0 (.agg (mA (got E (Ky.mk 13 id 0)) (.slice e c f))) (mL (got E (Ky.mk 13 id 0)) (.slice e c f)) (mL (got E (Ky.mk 13 id 0)) (.slice e c f)) ?_
 intro Z Y C;replace A:=Bk.At.cell A j C u q (by decide);replace a:=a.chg C (show x≠m by omega);replace d:=d.chg C (show r≠m by omega);replace l:=bP l j C (by decide);replace i:=i.cell C (show c=0\/p≠m by omega);have j:=Y;refine t 11 (iI (Rc.aV (Rc.bu (got E (Ky.mk 13 id 0))))) (ae (aa (ab (ag (tlr 28 (mL (got E (Ky.mk 13 id 0)) (.slice e c f)) j 0 (t 29 (.bool (Kv.look E (Ky.mk 13 id 0)).isSome) (ts d 0 (.agg (mA (got E (Ky.mk 13 id 0)) (.slice e c f))) (mL (got E (Ky.mk 13 id 0)) (.slice e c f)) (mL (got E (Ky.mk 13 id 0)) (.slice e c f)) ?_)))))));intro ac Y C;replace A:=Bk.At.cell A d C P o (by decide);replace a:=a.chg C (show x≠r by omega);replace l:=bP l d C (by decide);replace i:=i.cell C (show c=0\/p≠r by omega);replace j:=j.chg C (show m≠r by omega);have d:=Y;refine t 7 (.bool (Kv.look E (Ky.mk 13 id 0)).isSome) (ae (aa (aG [(6,pg r),(7,.bool (Kv.look E (Ky.mk 13 id 0)).isSome)] (aF (aE (.tuple #[.agg (mA (got E (Ky.mk 13 id 0)) (.slice e c f)),.bool (Kv.look E (Ky.mk 13 id 0)).isSome]) (iQ 6 7 (T:=48) (by kernel_rfl) (by kernel_rfl) (by kernel_rfl) (lr d 0)) ?_)))));exact⟨_,_,_,rfl,_,_,A.sx,A.km,A.cc,i,z,by omega⟩
end
end Qu
end
section
namespace Qu
open Go.RowKit Go.Lib Pg Lim Gl Kv Bk Pw
attribute [local go_sem] Oper.semAt_some
set_option linter.unusedVariables false
set_option linter.unusedSimpArgs false
section
variable {l:List Int}{B g n N n6 c6 q n7 c7:Nat}{w:World}{K:Nat->Prop}{E:ay}{W:List ay}{id x0 x1 x2 x3 x4 x5:Int}{a6 a7:Option Addr}
theorem dY(a:Oct l)(i:Nat)(hi:i < 6:=by decide):0<=mX l i/\mX l i < 18446744073709551616:=by
 have h:=rr0 (o:=5) (rr0 (o:=4) (rr0 (o:=3) (rr0 (o:=2) (rr0 (o:=1) (rr0 (o:=0) (s:=(0,l,fun _=>0)) ⟨a,fun _ _=>⟨Int.le_refl _,(by decide:(0:Int) < 18446744073709551616)⟩⟩)))))
 have e:Rc.bu l=Rc.rnx 2 6 (Rc.rnx 0 5 (Rc.rnx 0 4 (Rc.rnx 0 3 (Rc.rnx 0 2 (Rc.rnx 0 1 (Rc.rnx 0 0 (0,l,fun _=>0))))))):=rfl;unfold mX Rc.aT;rw[e];generalize Rc.rnx 0 5 (Rc.rnx 0 4 (Rc.rnx 0 3 (Rc.rnx 0 2 (Rc.rnx 0 1 (Rc.rnx 0 0 (0,l,fun _=>0))))))=s at h
 have e2:(Rc.rnx 2 6 s).2.2 i=s.2.2 i:=if_neg (by omega);split
 ·rw[e2];exact h.2 i hi
 ·exact⟨Int.le_refl _,(by decide:(0:Int) < 18446744073709551616)⟩
def l8(E:ay)(id:Int):ay:=if (Kv.look E (Ky.mk 13 id 0)).isSome=true then sO E 13 id (mX (got E (Ky.mk 13 id 0)) 0) (mX (got E (Ky.mk 13 id 0)) 1) (mX (got E (Ky.mk 13 id 0)) 4) else E
def nA(E:ay)(id y:Int):ay:=if (Kv.look E (Ky.mk 13 id 0)).isSome=true then put E (Ky.mk 13 id 0) (mv (mX (got E (Ky.mk 13 id 0)) 0) (mX (got E (Ky.mk 13 id 0)) 1) (mX (got E (Ky.mk 13 id 0)) 2) (mX (got E (Ky.mk 13 id 0)) 3) (mX (got E (Ky.mk 13 id 0)) 4) (mX (got E (Ky.mk 13 id 0)) 5) y) else E
theorem qo{b:Bool}(h:Sx B w K g E W n N)(a:0<=id/\id < 18446744073709551616)(hn:n+30<=4000000000000000000)(c:N+30<=100000000)(hb:(Kv.look E (Ky.mk 13 id 0)).isSome=b):Calls Tryz.prog 67 #[pg g,.agg fM,.int .u64 id] w (wW B w K g E W (n+1) N (got E (Ky.mk 13 id 0)) b):=by
 subst hb;exact Fa h a hn c
theorem beginM{x6:Int}{X:Nat}(h:Sx B w K g E W n N)(I:0<=x0/\x0 < 18446744073709551616)(T:0<=x1/\x1 < 18446744073709551616)(Q:0<=x4/\x4 < 18446744073709551616)(q:Nk w K X a6 n6 c6 x6)(m6:n6<=1000000)(hn:n+40<=4000000000000000000)(hN:N+40<=100000000):Calls Tryz.prog 44 #[pg g,.agg fM,.agg #[.int .u64 x0,.int .u64 x1,.int .u64 x2,.int .u64 x3,.int .u64 x4,.int .u64 x5,.slice a6 n6 c6]] w (SxE B w K g (eS E 13 (mv x0 x1 x2 x3 x4 x5 x6) x0 x1 x4) W (n+7) (N+10) (.int .u64 (aJ (chn E)))):=by
 have R:0<=aJ (chn E)/\aJ (chn E) < 18446744073709551616:=lN (h.oct _);have A:=h.at
 refine aC (n:=47) Tryz.func44 rfl ?_
 have l0:=q.lt;refine ab (ag ?_);have J:=q.lt;refine ta 4 fMl 114 (pg) ?_
 intro v1 x b P B;have zg2:=Nat.le_trans A.size P;have p:=A.new P;replace q:=q.keep B;replace A:=A.keep B;have J:=q.lt;have O:=b.lt;refine ta 5 [iU x0,iU x1,iU x2,iU x3,iU x4,iU x5,.slice a6 n6 c6] 48 (pg) ?_
 intro v3 U c M B;have zg4:=Nat.le_trans A.size M;have m:=A.new M;replace q:=q.keep B;replace A:=A.keep B;replace b:=b.keep B;refine t 6 (iU 0) (ae (aa (ab (ag (t 11 (pg g) (tc 12 90 #[pg g] (fW A.sx (by omega) (by omega)) ?_))))));rintro _ v6 ⟨rfl,K5,S,r,o⟩;refine⟨_,rfl,?_⟩;replace q:=q.op r o;obtain⟨b,p⟩:=au b p r o;obtain⟨c,m⟩:=au c m r o;replace A:=A.op S r o;refine t 7 (iU (aJ (chn E))) (ae (aa (ab (ag (t 13 (pg g) (tlr 14 fMl b 0 (t 15 (iU (aJ (chn E))) (tlr 16 [iU x0,iU x1,iU x2,iU x3,iU x4,iU x5,.slice a6 n6 c6] c 0 (tc 17 100 #[pg g,.agg fM,iU (aJ (chn E)),.agg #[iU x0,iU x1,iU x2,iU x3,iU x4,iU x5,.slice a6 n6 c6]] (layM A.sx R q m6 (by omega) (by omega)) ?_)))))))));rintro _ v8 ⟨rfl,K7,S,r,o⟩;refine⟨_,rfl,?_⟩;replace q:=q.op r o;obtain⟨b,p⟩:=au b p r o;obtain⟨c,m⟩:=au c m r o;replace A:=A.op S r o;refine ae (aa (aG [(0,pg g),(4,pg x),(5,pg U),(6,iU 0),(7,iU (aJ (chn E)))] (ab (ag (t 18 (pq x 3) (tl 19 (.func (.func 103) #[] #[]) b 3 (tlr 20 [iU x0,iU x1,iU x2,iU x3,iU x4,iU x5,.slice a6 n6 c6] c 0 (tc 21 103 #[.agg #[iU x0,iU x1,iU x2,iU x3,iU x4,iU x5,.slice a6 n6 c6]] (yL) ?_))))))));rintro _ v9 ⟨rfl,B⟩;refine⟨_,rfl,?_⟩;replace q:=q.keep B;replace A:=A.keep B;replace b:=b.keep B;replace c:=c.keep B;have J:=q.lt;have O:=b.lt;have V:=c.lt;refine ta 8 [iU 0,iU 0,iU 0] 167 (pg) ?_
 intro v10 u a G B;have L:=Nat.le_trans A.size G;have l:=A.new G;replace q:=q.keep B;replace A:=A.keep B;replace b:=b.keep B;replace c:=c.keep B;refine ts a 0 (.agg #[iU x0,iU x1,iU x4]) [iU x0,iU x1,iU x4] [iU x0,iU x1,iU x4] ?_
 intro v12 Y C;replace q:=q.cell C (show n6=0\/X≠u by omega);replace A:=Bk.At.cell A a C L l (by decide);replace b:=b.chg C (show x≠u by omega);replace c:=c.chg C (show U≠u by omega);have a:=Y;refine ae (aa (ab (ab (ag (tlr 22 [iU x0,iU x1,iU x4] a 0 (t 23 (iU (aJ (chn E))) (tc 24 92 #[.agg #[iU x0,iU x1,iU x4],iU (aJ (chn E))] (ig T Q) ?_)))))));rintro _ ad ⟨d,e,f,i,j,k,rfl,v,s,B⟩;refine⟨_,rfl,?_⟩;replace q:=q.keep B;replace A:=A.keep B;replace b:=b.keep B;replace c:=c.keep B;replace a:=a.keep B;refine t 25 (iI 0) (ae (aa (bj (pI 2 ?_))));refine ab (ag (t 26 (bT) (ae (aa (ab (aP (aK (aa (ab (bj (ab (ag (tr 27 (.slice d e f) (cS (.agg #[.slice d e f,.slice i j k]) (iI 0) (.slice d e f) CV) (t 10 (.slice d e f) (ae (aa (aG [(0,pg g),(4,pg x),(6,iU 0),(7,iU (aJ (chn E))),(8,pg u),(10,.slice d e f),(24,.agg #[.slice d e f,.slice i j k]),(25,iI 0),(26,bT),(27,.slice d e f)] (ag (t 28 (pg g) (t 29 (.slice d e f) (t 30 (pg x) (tl 31 (iI 13) b 0 (tr 32 (iU 13) (j3 13 ⟨by decide,by decide⟩) (tc 33 93 #[iU 13] (eZ) ?_))))))))))))))))))))))));rintro _ v19 ⟨H,rfl,D,B⟩;refine⟨_,rfl,?_⟩;replace q:=q.keep B;replace A:=A.keep B;replace b:=b.keep B;replace c:=c.keep B;replace a:=a.keep B;replace v:=aA v B;replace s:=aA s B;refine tc 34 33 #[pg g,.slice d e f,H] (qm A.sx v (kZ x4 (aJ (chn E))) D (Nat.le_trans (fA _) (by decide)) (by omega) (by omega)) ?_
 rintro _ Z ⟨rfl,K20,S,r,o⟩;refine⟨_,rfl,?_⟩;replace q:=q.op r o;obtain⟨b,p⟩:=au b p r o;obtain⟨c,m⟩:=au c m r o;obtain⟨a,l⟩:=au a l r o;replace v:=A.byu v o;replace s:=A.byu s o;replace D:=A.byu D o;replace A:=A.op S r o;clear v;clear D;refine ae (dk (aa (ag (t 35 (iI 1) (t 25 (iI 1) (ae (kP ?_)))))));refine aG [(0,pg g),(4,pg x),(6,iU 0),(7,iU (aJ (chn E))),(8,pg u),(10,.slice d e f),(24,.agg #[.slice d e f,.slice i j k]),(25,iI 1),(26,bT),(27,.slice d e f),(28,pg g),(29,.slice d e f),(30,pg x),(31,iI 13),(32,iU 13),(33,H),(35,iI 1)] (ab (ag (t 26 (bT) (ae (aa (ab (aP (aK (aa (ab (bj (ab (ag (tr 27 (.slice i j k) (cS (.agg #[.slice d e f,.slice i j k]) (iI 1) (.slice i j k) Dw) (t 10 (.slice i j k) (ae (aa (ag (t 28 (pg g) (t 29 (.slice i j k) (t 30 (pg x) (tl 31 (iI 13) b 0 (tr 32 (iU 13) (j3 13 ⟨by decide,by decide⟩) (tc 33 93 #[iU 13] (eZ) ?_))))))))))))))))))))))));rintro _ ac ⟨F,rfl,y,B⟩;refine⟨_,rfl,?_⟩;replace q:=q.keep B;replace A:=A.keep B;replace b:=b.keep B;replace c:=c.keep B;replace a:=a.keep B;replace s:=aA s B;refine tc 34 33 #[pg g,.slice i j k,F] (qm A.sx s (ly x1 (aJ (chn E))) y (Nat.le_trans (fA _) (by decide)) (by omega) (by omega)) ?_
 rintro _ v26 ⟨rfl,K25,S,r,o⟩;refine⟨_,rfl,?_⟩;replace q:=q.op r o;obtain⟨b,p⟩:=au b p r o;obtain⟨c,m⟩:=au c m r o;obtain⟨a,l⟩:=au a l r o;replace s:=A.byu s o;replace y:=A.byu y o;replace A:=A.op S r o;clear s;clear y;refine ae (dk (aa (ag (t 35 (iI 2) (t 25 (iI 2) (ae (kP ?_)))))));refine aG [(0,pg g),(4,pg x),(6,iU 0),(7,iU (aJ (chn E))),(8,pg u),(10,.slice i j k),(24,.agg #[.slice d e f,.slice i j k]),(25,iI 2),(26,bT),(27,.slice i j k),(28,pg g),(29,.slice i j k),(30,pg x),(31,iI 13),(32,iU 13),(33,F),(35,iI 2)] (ab (ag (t 26 (bF) (ae (aa (ab (aW (dM (dC (dC (gy (aa (ab ?_)))))))))))));replace q:=q.drew;replace A:=A.drew;replace b:=b.drew;replace c:=c.drew;replace a:=a.drew;refine bI (fun w'=>Blk w' u [iU x0,iU x1,iU x4] 167) (fun _=>false) a ?_
 refine zlr 0 36 [iU x0,iU x1,iU x4] (fun _ h=>h) 0 (z 1 37 (pg g) (z 2 38 (pg g) (z 3 39 (pg u) (zl 4 40 (iU x0) (fun _ h=>h) 0 (z 5 41 (pq u 1) (zl 6 42 (iU x1) (fun _ h=>h) 1 (zc 7 43 24 #[pg g,iU x0,iU x1] (ek A.sx I (by omega) (by omega)) ?_)))))));rintro _ v28 ⟨rfl,K27,S,r,o⟩;replace q:=q.op r o;obtain⟨b,p⟩:=au b p r o;obtain⟨c,m⟩:=au c m r o;obtain⟨a,l⟩:=au a l r o;replace A:=A.op S r o;refine⟨_,rfl,a,?_⟩;refine zq 8 44 (iU (IntKind.u64.wrap (dq (put (put (put (dD E) (Ky.mk 13 (aJ (chn E)) 0) (mv x0 x1 x2 x3 x4 x5 x6)) (Ky.mk 14 x4 (aJ (chn E))) (nv 13)) (Ky.mk 15 x1 (aJ (chn E))) (nv 13)) x0 x1+1))) (iU ((dq (put (put (put (dD E) (Ky.mk 13 (aJ (chn E)) 0) (mv x0 x1 x2 x3 x4 x5 x6)) (Ky.mk 14 x4 (aJ (chn E))) (nv 13)) (Ky.mk 15 x1 (aJ (chn E))) (nv 13)) x0 x1+1) % 18446744073709551616)) (congrArg (Value.int .u64) (IntKind.wrap_u64 _)) (zc 9 45 94 #[.agg #[iU x0,iU x1,iU x4],pg g,iU ((dq (put (put (put (dD E) (Ky.mk 13 (aJ (chn E)) 0) (mv x0 x1 x2 x3 x4 x5 x6)) (Ky.mk 14 x4 (aJ (chn E))) (nv 13)) (Ky.mk 15 x1 (aJ (chn E))) (nv 13)) x0 x1+1) % 18446744073709551616)] (count_set A.sx I (by omega) (by omega)) ?_);rintro _ v30 ⟨rfl,K29,S,r,o⟩;replace q:=q.op r o;obtain⟨b,p⟩:=au b p r o;obtain⟨c,m⟩:=au c m r o;obtain⟨a,l⟩:=au a l r o;replace A:=A.op S r o;refine⟨_,rfl,a,?_⟩;refine bB (aa (ab (ag (t 46 (iU (aJ (chn E))) (t 6 (iU (aJ (chn E))) (ae (aa (aG [(6,iU (aJ (chn E)))] (aF (aE (iU (aJ (chn E))) (rs1 6 (by kernel_rfl) (by kernel_rfl)) ?_))))))))));exact⟨rfl,_,A.sx,A.km,A.cc⟩
theorem endM(h:Sx B w K g E W n N)(Q:0<=id/\id < 18446744073709551616)(hn:n+40<=4000000000000000000)(hN:N+40<=100000000):Calls Tryz.prog 54 #[pg g,.agg fM,.int .u64 id] w (SxF B w K g (l8 E id) W n N (.bool (Kv.look E (Ky.mk 13 id 0)).isSome)):=by
 have A:=h.at
 refine aC (n:=51) Tryz.func54 rfl ?_
 refine ab (ag (ta 4 fMl 114 (pg) ?_));intro v1 R a hg2 B;obtain⟨zg2,e,A⟩:=A.al hg2 B;refine t 6 (bF) (ae (aa (ab (ag (t 13 (pg g) (tlr 14 fMl a 0 (t 15 (iU id) ?_)))))));by_cases T:(Kv.look E (Ky.mk 13 id 0)).isSome=true
 ·refine tc 16 67 #[pg g,.agg fM,iU id] (qo A.sx Q (by omega) (by omega) T) ?_
  rintro _ v6 ⟨F,v,G,rfl,ad,K4,S,r,l,c,mr5,hzr5⟩;refine⟨_,rfl,?_⟩;have aj:=a.lt;have sr5:=A.size;obtain⟨a,e⟩:=au a e r l;replace A:=A.op S r l;refine t 12 (.tuple #[.agg (mA (got E (Ky.mk 13 id 0)) (.slice F v G)),bT]) (t 17 (.agg (mA (got E (Ky.mk 13 id 0)) (.slice F v G))) (t 18 (bT) ?_));have M:=a.lt;have af:=c.lt;refine ta 7 zz7 48 (pg) ?_
  intro v7 g8 d hg8 B;obtain⟨zg8,q,A⟩:=A.al hg8 B;replace a:=a.keep B;replace c:=c.keep B;refine ts d 0 (.agg (mA (got E (Ky.mk 13 id 0)) (.slice F v G))) (mL (got E (Ky.mk 13 id 0)) (.slice F v G)) (mL (got E (Ky.mk 13 id 0)) (.slice F v G)) ?_
  intro v9 Y C;replace A:=Bk.At.cell A d C zg8 q (by decide);replace a:=a.chg C (show R≠g8 by omega);replace c:=c.cell C (show v=0\/ad≠g8 by omega);have d:=Y;refine t 8 (bT) (ae (aa (aG [(0,pg g),(2,iU id),(4,pg R),(6,bF),(7,pg g8),(8,bT)] (ab (ab (ag (t 19 (bT) (t 20 (bF) (ae (aa (aW (aK (aa (ab (ag (t 21 (pg g) (t 22 (pg R) (tl 23 (iI 13) a 0 (t 24 (iU id) (tc 25 64 #[iI 13,iU id,iU 0] (ow Q (gP id)) ?_))))))))))))))))))));rintro _ v12 ⟨X,rfl,J,B⟩;refine⟨_,rfl,?_⟩;replace A:=A.keep B;replace a:=a.keep B;replace c:=c.keep B;replace d:=d.keep B;refine tc 26 107 #[pg g,X] (tm A.sx J (Nat.le_trans (Ky.cL _ _ _) (by decide)) (by omega) (by omega)) ?_
  rintro _ v14 ⟨rfl,K13,S,r,l⟩;refine⟨_,rfl,?_⟩;replace c:=c.op r l;obtain⟨a,e⟩:=au a e r l;obtain⟨d,q⟩:=au d q r l;replace J:=A.byu J l;replace A:=A.op S r l;clear J;refine ae (aa (ab (ag (t 27 (pq R 3) (tl 28 (.func (.func 103) #[] #[]) a 3 (tlr 29 (mL (got E (Ky.mk 13 id 0)) (.slice F v G)) d 0 (tc 30 103 #[.agg (mA (got E (Ky.mk 13 id 0)) (.slice F v G))] (yL) ?_)))))));rintro _ v15 ⟨rfl,B⟩;refine⟨_,rfl,?_⟩;replace A:=A.keep B;replace a:=a.keep B;replace c:=c.keep B;replace d:=d.keep B;have M:=a.lt;have af:=c.lt;have lXg8:=d.lt;refine ta 9 [iU 0,iU 0,iU 0] 167 (pg) ?_
  intro v16 u b ah B;obtain⟨V,f,A⟩:=A.al ah B;replace a:=a.keep B;replace c:=c.keep B;replace d:=d.keep B;refine ts b 0 (.agg #[iU (mX (got E (Ky.mk 13 id 0)) 0),iU (mX (got E (Ky.mk 13 id 0)) 1),iU (mX (got E (Ky.mk 13 id 0)) 4)]) [iU (mX (got E (Ky.mk 13 id 0)) 0),iU (mX (got E (Ky.mk 13 id 0)) 1),iU (mX (got E (Ky.mk 13 id 0)) 4)] [iU (mX (got E (Ky.mk 13 id 0)) 0),iU (mX (got E (Ky.mk 13 id 0)) 1),iU (mX (got E (Ky.mk 13 id 0)) 4)] ?_
  intro v18 Y C;replace A:=Bk.At.cell A b C V f (by decide);replace a:=a.chg C (show R≠u by omega);replace c:=c.cell C (show v=0\/ad≠u by omega);replace d:=d.chg C (show g8≠u by omega);have b:=Y;refine ae (aa (aG [(0,pg g),(2,iU id),(6,bF),(9,pg u)] (ab (ab (ag (tlr 31 [iU (mX (got E (Ky.mk 13 id 0)) 0),iU (mX (got E (Ky.mk 13 id 0)) 1),iU (mX (got E (Ky.mk 13 id 0)) 4)] b 0 (t 32 (iU id) (tc 33 92 #[.agg #[iU (mX (got E (Ky.mk 13 id 0)) 0),iU (mX (got E (Ky.mk 13 id 0)) 1),iU (mX (got E (Ky.mk 13 id 0)) 4)],iU id] (ig (dY (h.oct _) 1) (dY (h.oct _) 4)) ?_))))))));rintro _ v22 ⟨j,p,k,m,i,o,rfl,L,H,B⟩;refine⟨_,rfl,?_⟩;replace A:=A.keep B;replace a:=a.keep B;replace c:=c.keep B;replace d:=d.keep B;replace b:=b.keep B;refine t 34 (iI 0) (ae (aa (bj (pI 2 ?_))));refine ab (ag (t 35 (bT) (ae (aa (ab (aP (aK (aa (ab (bj (ab (ag (tr 36 (.slice j p k) (cS (.agg #[.slice j p k,.slice m i o]) (iI 0) (.slice j p k) CV) (t 11 (.slice j p k) (ae (aa (ag (t 37 (pg g) (t 38 (.slice j p k) (tc 39 107 #[pg g,.slice j p k] (tm A.sx L (Nat.le_trans (Ky.cL _ _ _) (by decide)) (by omega) (by omega)) ?_))))))))))))))))))));rintro _ v24 ⟨rfl,K23,S,r,l⟩;refine⟨_,rfl,?_⟩;replace c:=c.op r l;obtain⟨a,e⟩:=au a e r l;obtain⟨d,q⟩:=au d q r l;obtain⟨b,f⟩:=au b f r l;replace L:=A.byu L l;replace H:=A.byu H l;replace A:=A.op S r l;clear L;refine ae (dk (aa (ag (t 40 (iI 1) (t 34 (iI 1) (ae (kP ?_)))))));refine aG [(0,pg g),(6,bF),(9,pg u),(11,.slice j p k),(33,.agg #[.slice j p k,.slice m i o]),(34,iI 1),(35,bT),(36,.slice j p k),(37,pg g),(38,.slice j p k),(40,iI 1)] (ab (ag (t 35 (bT) (ae (aa (ab (aP (aK (aa (ab (bj (ab (ag (tr 36 (.slice m i o) (cS (.agg #[.slice j p k,.slice m i o]) (iI 1) (.slice m i o) Dw) (t 11 (.slice m i o) (ae (aa (ag (t 37 (pg g) (t 38 (.slice m i o) (tc 39 107 #[pg g,.slice m i o] (tm A.sx H (Nat.le_trans (Ky.cL _ _ _) (by decide)) (by omega) (by omega)) ?_)))))))))))))))))))));rintro _ v26 ⟨rfl,K25,S,r,l⟩;refine⟨_,rfl,?_⟩;replace c:=c.op r l;obtain⟨a,e⟩:=au a e r l;obtain⟨d,q⟩:=au d q r l;obtain⟨b,f⟩:=au b f r l;replace H:=A.byu H l;replace A:=A.op S r l;clear H;refine ae (dk (aa (ag (t 40 (iI 2) (t 34 (iI 2) (ae (kP ?_)))))));refine aG [(0,pg g),(6,bF),(9,pg u),(11,.slice m i o),(33,.agg #[.slice j p k,.slice m i o]),(34,iI 2),(35,bT),(36,.slice m i o),(37,pg g),(38,.slice m i o),(40,iI 2)] (ab (ag (t 35 (bF) (ae (aa (ab (aW (dM (dC (dC (gy (aa (ab ?_)))))))))))));replace A:=A.drew;replace a:=a.drew;replace c:=c.drew;replace d:=d.drew;replace b:=b.drew;refine bI (fun w'=>Blk w' u [iU (mX (got E (Ky.mk 13 id 0)) 0),iU (mX (got E (Ky.mk 13 id 0)) 1),iU (mX (got E (Ky.mk 13 id 0)) 4)] 167) (fun _=>false) b ?_
  refine zlr 0 41 [iU (mX (got E (Ky.mk 13 id 0)) 0),iU (mX (got E (Ky.mk 13 id 0)) 1),iU (mX (got E (Ky.mk 13 id 0)) 4)] (fun _ h=>h) 0 (z 1 42 (pg g) (z 2 43 (pg g) (z 3 44 (pg u) (zl 4 45 (iU (mX (got E (Ky.mk 13 id 0)) 0)) (fun _ h=>h) 0 (z 5 46 (pq u 1) (zl 6 47 (iU (mX (got E (Ky.mk 13 id 0)) 1)) (fun _ h=>h) 1 (zc 7 48 24 #[pg g,iU (mX (got E (Ky.mk 13 id 0)) 0),iU (mX (got E (Ky.mk 13 id 0)) 1)] (ek A.sx (dY (h.oct _) 0) (by omega) (by omega)) ?_)))))));rintro _ v28 ⟨rfl,K27,S,r,l⟩;replace c:=c.op r l;obtain⟨a,e⟩:=au a e r l;obtain⟨d,q⟩:=au d q r l;obtain⟨b,f⟩:=au b f r l;replace A:=A.op S r l;refine⟨_,rfl,b,?_⟩;refine zq 8 49 (iU (IntKind.u64.wrap (dq (rem (rem (rem E (Ky.mk 13 id 0)) (Ky.mk 14 (mX (got E (Ky.mk 13 id 0)) 4) id)) (Ky.mk 15 (mX (got E (Ky.mk 13 id 0)) 1) id)) (mX (got E (Ky.mk 13 id 0)) 0) (mX (got E (Ky.mk 13 id 0)) 1) - 1))) (iU ((dq (rem (rem (rem E (Ky.mk 13 id 0)) (Ky.mk 14 (mX (got E (Ky.mk 13 id 0)) 4) id)) (Ky.mk 15 (mX (got E (Ky.mk 13 id 0)) 1) id)) (mX (got E (Ky.mk 13 id 0)) 0) (mX (got E (Ky.mk 13 id 0)) 1) - 1) % 18446744073709551616)) (congrArg (Value.int .u64) (IntKind.wrap_u64 _)) (zc 9 50 94 #[.agg #[iU (mX (got E (Ky.mk 13 id 0)) 0),iU (mX (got E (Ky.mk 13 id 0)) 1),iU (mX (got E (Ky.mk 13 id 0)) 4)],pg g,iU ((dq (rem (rem (rem E (Ky.mk 13 id 0)) (Ky.mk 14 (mX (got E (Ky.mk 13 id 0)) 4) id)) (Ky.mk 15 (mX (got E (Ky.mk 13 id 0)) 1) id)) (mX (got E (Ky.mk 13 id 0)) 0) (mX (got E (Ky.mk 13 id 0)) 1) - 1) % 18446744073709551616)] (count_set A.sx (dY (h.oct _) 0) (by omega) (by omega)) ?_);rintro _ v30 ⟨rfl,K29,S,r,l⟩;replace c:=c.op r l;obtain⟨a,e⟩:=au a e r l;obtain⟨d,q⟩:=au d q r l;obtain⟨b,f⟩:=au b f r l;replace A:=A.op S r l;refine⟨_,rfl,b,?_⟩;refine bB (aa (ab (ag (t 6 (bT) (ae (aa (aG [(6,bT)] (aF (aE (bT) (rs1 6 (by kernel_rfl) (by kernel_rfl)) ?_)))))))));rw[show l8 E id=_ from if_pos T,show (Kv.look E (Ky.mk 13 id 0)).isSome=true from T];exact⟨rfl,_,_,_,A.sx,by omega,by omega,A.km,A.cc⟩
 ·refine tc 16 67 #[pg g,.agg fM,iU id] (qo A.sx Q (by omega) (by omega) (Bool.eq_false_iff.2 T)) ?_
  rintro _ v33 ⟨y,s,D,rfl,ai,K31,S,r,l,x,mr32,hzr32⟩;refine⟨_,rfl,?_⟩;have ac:=a.lt;have sr32:=A.size;obtain⟨a,e⟩:=au a e r l;replace A:=A.op S r l;refine t 12 (.tuple #[.agg (mA (got E (Ky.mk 13 id 0)) (.slice y s D)),bF]) (t 17 (.agg (mA (got E (Ky.mk 13 id 0)) (.slice y s D))) (t 18 (bF) ?_));have M:=a.lt;have lQr32:=x.lt;refine ta 7 zz7 48 (pg) ?_
  intro v34 P I U B;obtain⟨Z,O,A⟩:=A.al U B;replace a:=a.keep B;replace x:=x.keep B;refine ts I 0 (.agg (mA (got E (Ky.mk 13 id 0)) (.slice y s D))) (mL (got E (Ky.mk 13 id 0)) (.slice y s D)) (mL (got E (Ky.mk 13 id 0)) (.slice y s D)) ?_
  intro v36 Y C;replace A:=Bk.At.cell A I C Z O (by decide);replace a:=a.chg C (show R≠P by omega);replace x:=x.cell C (show s=0\/ai≠P by omega);have I:=Y;refine t 8 (bF) (ae (aa (aG [(0,pg g),(2,iU id),(4,pg R),(6,bF),(7,pg P),(8,bF)] (ab (ab (ag (t 19 (bF) (t 20 (bT) (ae (aa (aP (ab (ag (t 6 (bF) (ae (aa (aF (dm (aE (bF) (rs1 6 (by kernel_rfl) (by kernel_rfl)) ?_)))))))))))))))))));rw[show l8 E id=_ from if_neg T,show (Kv.look E (Ky.mk 13 id 0)).isSome=false from Bool.eq_false_iff.2 T];exact⟨rfl,_,_,_,A.sx,by omega,by omega,A.km,A.cc⟩
theorem fewer1{r:Nat}(a:q≠r)(X:Blk w r [.int .u64 x0,.int .u64 x1,.int .u64 x2,.int .u64 x3,.int .u64 x4,.int .u64 x5,.slice a6 n6 c6] 48)(c:Blk w q [.slice a7 n7 c7] 46):Calls Tryz.prog 51 #[pg r,pg q] w fun e w'=>e=.returned (.tuple #[])/\Blk w' r [.int .u64 x0,.int .u64 x1,.int .u64 x2,.int .u64 x3,.int .u64 x4,.int .u64 x5,.slice a7 n7 c7] 48/\Chg (· = r) w w':=by
 have b:Chg (·=r) w w:=Chg.refl _ _;refine aC (n:=7) Tryz.func51 rfl ?_
 refine ag (t 3 (pg r) (tlr 4 [.slice a7 n7 c7] c 0 (t 5 (pg r) (t 6 (pq r 6) (ts X 6 (.agg #[.slice a7 n7 c7]) [.slice a7 n7 c7] [iU x0,iU x1,iU x2,iU x3,iU x4,iU x5,.slice a7 n7 c7] ?_)))));intro v1 Y C;replace c:=c.chg C a;replace b:=b.trans C (fun _ _ h=>h);have X:=Y;refine ae (j7 (.tuple #[]) (rs0 (by kernel_rfl)) ?_);exact⟨rfl,X,b⟩
theorem DN{y:Int}{z7:Nat}(h:Sx B w K g E W n N)(H:0<=id/\id < 18446744073709551616)(b:Blk w q [.slice a7 n7 c7] 46)(s:¬ K q)(c:Nk w K z7 a7 n7 c7 y)(m7:n7<=1000000)(hn:n+40<=4000000000000000000)(hN:N+40<=100000000):Calls Tryz.prog 50 #[pg g,.agg fM,.int .u64 id,.func (.func 51) #[] #[pg q]] w (SxF B w K g (nA E id y) W n N (.bool (Kv.look E (Ky.mk 13 id 0)).isSome)):=by
 have G:=b.lt;have l0:=c.lt;have A:=h.at
 refine aC (n:=27) Tryz.func50 rfl ?_
 refine ab (ag ?_);have G:=b.lt;have U:=c.lt;refine ta 5 fMl 114 (pg) ?_
 intro v1 R a V B;have zg2:=Nat.le_trans A.size V;have f:=A.new V;replace b:=b.keep B;replace c:=c.keep B;replace A:=A.keep B;refine t 8 (bF) (ae (aa (ab (ag (t 12 (pg g) (tlr 13 fMl a 0 (t 14 (iU id) ?_)))))));by_cases J:(Kv.look E (Ky.mk 13 id 0)).isSome=true
 ·refine tc 15 67 #[pg g,.agg fM,iU id] (qo A.sx H (by omega) (by omega) J) ?_
  rintro _ v6 ⟨v,p,x,rfl,O,K4,S,o,m,i,mr5,hzr5⟩;refine⟨_,rfl,?_⟩;have kXqr5:=b.lt;have ac:=a.lt;have sr5:=A.size;replace c:=c.op o m;obtain⟨b,s⟩:=au b s o m;obtain⟨a,f⟩:=au a f o m;replace A:=A.op S o m;refine t 11 (.tuple #[.agg (mA (got E (Ky.mk 13 id 0)) (.slice v p x)),bT]) (t 16 (.agg (mA (got E (Ky.mk 13 id 0)) (.slice v p x))) (t 17 (bT) ?_));have G:=b.lt;have U:=c.lt;have T:=a.lt;have lQr5:=i.lt;refine ta 9 zz7 48 (pg) ?_
  intro v7 D d X B;have Q:=Nat.le_trans A.size X;have r:=A.new X;replace b:=b.keep B;replace c:=c.keep B;replace A:=A.keep B;replace a:=a.keep B;replace i:=i.keep B;refine ts d 0 (.agg (mA (got E (Ky.mk 13 id 0)) (.slice v p x))) (mL (got E (Ky.mk 13 id 0)) (.slice v p x)) (mL (got E (Ky.mk 13 id 0)) (.slice v p x)) ?_
  intro v9 Y C;replace b:=b.chg C (show q≠D by omega);replace c:=c.cell C (show n7=0\/z7≠D by omega);replace A:=Bk.At.cell A d C Q r (by decide);replace a:=a.chg C (show R≠D by omega);replace i:=i.cell C (show p=0\/O≠D by omega);have d:=Y;refine t 10 (bT) (ae (aa (aG [(0,pg g),(2,iU id),(3,.func (.func 51) #[] #[pg q]),(5,pg R),(8,bF),(9,pg D),(10,bT)] (ab (ab (ag (t 18 (bT) (ae (aa (aP (ab (ag (t 19 (.func (.func 51) #[] #[pg q]) (tc 20 51 #[pg D,pg q] (fewer1 (show q≠D by omega) d b) ?_))))))))))))));rintro _ v10 ⟨rfl,Z,C⟩;refine⟨_,rfl,?_⟩;replace b:=b.chg C (show q≠D by omega);replace c:=c.cell C (show n7=0\/z7≠D by omega);replace A:=Bk.At.cell A d C Q r (by decide);replace a:=a.chg C (show R≠D by omega);replace i:=i.cell C (show p=0\/O≠D by omega);clear d;have d:=Z;clear Z;refine ae (aa (ag (t 21 (pg g) (tlr 22 fMl a 0 (t 23 (iU id) (tlr 24 (mL (got E (Ky.mk 13 id 0)) (.slice a7 n7 c7)) d 0 (tc 25 100 #[pg g,.agg fM,iU id,.agg (mA (got E (Ky.mk 13 id 0)) (.slice a7 n7 c7))] (layM A.sx H c m7 (by omega) (by omega)) ?_)))))));rintro _ v12 ⟨rfl,K11,S,o,m⟩;refine⟨_,rfl,?_⟩;replace c:=c.op o m;replace i:=i.op o m;obtain⟨b,s⟩:=au b s o m;obtain⟨a,f⟩:=au a f o m;obtain⟨d,r⟩:=au d r o m;replace A:=A.op S o m;refine ae (aa (ab (ag (t 26 (bT) (t 8 (bT) (ae (aa (aF (aE (bT) (rs1 8 (by kernel_rfl) (by kernel_rfl)) ?_)))))))));rw[show nA E id y=_ from if_pos J,show (Kv.look E (Ky.mk 13 id 0)).isSome=true from J];exact⟨rfl,_,_,_,A.sx,by omega,by omega,A.km,A.cc⟩
 ·refine tc 15 67 #[pg g,.agg fM,iU id] (qo A.sx H (by omega) (by omega) (Bool.eq_false_iff.2 J)) ?_
  rintro _ v15 ⟨k,e,j,rfl,M,K13,S,o,m,l,mr14,hzr14⟩;refine⟨_,rfl,?_⟩;have kXqr14:=b.lt;have P:=a.lt;have sr14:=A.size;replace c:=c.op o m;obtain⟨b,s⟩:=au b s o m;obtain⟨a,f⟩:=au a f o m;replace A:=A.op S o m;refine t 11 (.tuple #[.agg (mA (got E (Ky.mk 13 id 0)) (.slice k e j)),bF]) (t 16 (.agg (mA (got E (Ky.mk 13 id 0)) (.slice k e j))) (t 17 (bF) ?_));have G:=b.lt;have U:=c.lt;have T:=a.lt;have lQr14:=l.lt;refine ta 9 zz7 48 (pg) ?_
  intro v16 u z F B;have L:=Nat.le_trans A.size F;have I:=A.new F;replace b:=b.keep B;replace c:=c.keep B;replace A:=A.keep B;replace a:=a.keep B;replace l:=l.keep B;refine ts z 0 (.agg (mA (got E (Ky.mk 13 id 0)) (.slice k e j))) (mL (got E (Ky.mk 13 id 0)) (.slice k e j)) (mL (got E (Ky.mk 13 id 0)) (.slice k e j)) ?_
  intro v18 Y C;replace b:=b.chg C (show q≠u by omega);replace c:=c.cell C (show n7=0\/z7≠u by omega);replace A:=Bk.At.cell A z C L I (by decide);replace a:=a.chg C (show R≠u by omega);replace l:=l.cell C (show e=0\/M≠u by omega);have z:=Y;refine t 10 (bF) (ae (aa (aG [(0,pg g),(2,iU id),(3,.func (.func 51) #[] #[pg q]),(5,pg R),(8,bF),(9,pg u),(10,bF)] (ab (ab (ag (t 18 (bF) (ae (aa (aW (aK (aa (ab (ag (t 26 (bF) (t 8 (bF) (ae (aa (aF (aE (bF) (rs1 8 (by kernel_rfl) (by kernel_rfl)) ?_))))))))))))))))))));rw[show nA E id y=_ from if_neg J,show (Kv.look E (Ky.mk 13 id 0)).isSome=false from Bool.eq_false_iff.2 J];exact⟨rfl,_,_,_,A.sx,by omega,by omega,A.km,A.cc⟩
end
end Qu
end
section
namespace Qu
open Go.RowKit Go.Lib Pg Lim Gl Kv Bk Pw
attribute [local go_sem] Oper.semAt_some
set_option linter.unusedVariables false
set_option linter.unusedSimpArgs false
section
variable {B g n N:Nat}{w:World}{K:Nat->Prop}{E:ay}{W:List ay}{a6 a7:Option Addr}{id:Int}
theorem sk{x0 x1 x2 x3 x4 x5 x6:Int}{n6 c6 q:Nat}(h:Sx B w K g E W n N)(f:0<=x0/\x0 < 18446744073709551616)(k:0<=x1/\x1 < 18446744073709551616)(e:0<=x4/\x4 < 18446744073709551616)(b:Nk w K q a6 n6 c6 x6)(l:n6<=1000000)(hn:n+50<=4000000000000000000)(x:N+50<=100000000):Calls Tryz.prog 13 #[pg g,.agg #[.int .u64 x0,.int .u64 x1,.int .u64 x2,.int .u64 x3,.int .u64 x4,.int .u64 x5,.slice a6 n6 c6]] w (SxE B w K g (eS E 13 (mv x0 x1 x2 x3 x4 x5 x6) x0 x1 x4) W (n+7) (N+10) (.int .u64 (aJ (chn E)))):=by
 have A:=h.at
 refine aC (n:=9) Tryz.func13 rfl ?_
 have s:=b.lt;refine ab (ag (ta 3 [iU x0,iU x1,iU x2,iU x3,iU x4,iU x5,.slice a6 n6 c6] 48 (pg) ?_));intro v1 o a d B;have p:=Nat.le_trans A.size d;have c:=A.new d;replace b:=b.keep B;replace A:=A.keep B;refine t 4 (iU 0) (ae (aa (ab ?_)));replace b:=b.drew;replace A:=A.drew;replace a:=a.drew;refine bI (fun m=>Blk m o [iU x0,iU x1,iU x2,iU x3,iU x4,iU x5,.slice a6 n6 c6] 48) (fun _=>false) a ?_
 refine z 0 5 (pg g) (zlr 2 7 [iU x0,iU x1,iU x2,iU x3,iU x4,iU x5,.slice a6 n6 c6] (fun _ h=>h) 0 (zc 1 6 45 #[] (ix) ?_));rintro _ u ⟨rfl,B⟩;replace b:=b.keep B;replace A:=A.keep B;replace a:=a.keep B;refine⟨_,rfl,a,?_⟩;refine zc 3 8 44 #[pg g,.agg fM,.agg #[iU x0,iU x1,iU x2,iU x3,iU x4,iU x5,.slice a6 n6 c6]] (beginM A.sx f k e b l (by omega) (by omega)) ?_
 rintro _ v ⟨rfl,r,S,j,i⟩;replace b:=b.op j i;obtain⟨a,c⟩:=au a c j i;replace A:=A.op S j i;refine⟨_,rfl,a,?_⟩;refine z 4 4 (iU (aJ (chn E))) (bB (aa (aF (aE (iU (aJ (chn E))) (rs1 4 (by kernel_rfl) (by kernel_rfl)) ?_))));exact⟨rfl,_,A.sx,A.km,A.cc⟩
theorem mP(h:Sx B w K g E W n N)(k:0<=id/\id < 18446744073709551616)(hn:n+50<=4000000000000000000)(z:N+50<=100000000):Calls Tryz.prog 26 #[pg g,.int .u64 id] w (wW B w K g E W (n+1) N (got E (Ky.mk 13 id 0)) (Kv.look E (Ky.mk 13 id 0)).isSome):=by
 have A:=h.at
 refine aC (n:=12) Tryz.func26 rfl ?_
 refine ab (ag (ta 4 zz7 48 (pg) ?_));intro v1 u a l B;obtain⟨m,d,A⟩:=A.al l B;refine t 5 (bF) (ae (aa (ab (ag (t 6 (pg g) (tc 7 45 #[] (ix) ?_))))));rintro _ y ⟨rfl,B⟩;refine⟨_,rfl,?_⟩;replace A:=A.keep B;replace a:=a.keep B;refine t 8 (iU id) (tc 9 67 #[pg g,.agg fM,iU id] (Fa A.sx k (by omega) (by omega)) ?_);rintro _ v6 ⟨c,b,e,rfl,j,v,S,q,p,f,o,r⟩;refine⟨_,rfl,?_⟩;have i:=a.lt;have s:=A.size;obtain⟨a,d⟩:=au a d q p;replace A:=A.op S q p;refine t 10 (.agg (mA (got E (Ky.mk 13 id 0)) (.slice c b e))) (t 11 (.bool (Kv.look E (Ky.mk 13 id 0)).isSome) (ts a 0 (.agg (mA (got E (Ky.mk 13 id 0)) (.slice c b e))) (mL (got E (Ky.mk 13 id 0)) (.slice c b e)) (mL (got E (Ky.mk 13 id 0)) (.slice c b e)) ?_));intro x Y C;replace A:=Bk.At.cell A a C m d (by decide);replace f:=f.cell C (show b=0\/j≠u by omega);have a:=Y;refine t 5 (.bool (Kv.look E (Ky.mk 13 id 0)).isSome) (ae (aa (aF (aE (.tuple #[.agg (mA (got E (Ky.mk 13 id 0)) (.slice c b e)),.bool (Kv.look E (Ky.mk 13 id 0)).isSome]) (iQ 4 5 (T:=48) (by kernel_rfl) (by kernel_rfl) (by kernel_rfl) (lr a 0)) ?_))));exact⟨_,_,_,rfl,_,_,A.sx,A.km,A.cc,f,o,by omega⟩
theorem j5{y:Int}{n7 c7 o:Nat}(h:Sx B w K g E W n N)(e:0<=id/\id < 18446744073709551616)(c:Nk w K o a7 n7 c7 y)(k:n7<=1000000)(hn:n+50<=4000000000000000000)(x:N+50<=100000000):Calls Tryz.prog 17 #[pg g,.int .u64 id,.agg #[.slice a7 n7 c7]] w (SxF B w K g (nA E id y) W n N (.bool (Kv.look E (Ky.mk 13 id 0)).isSome)):=by
 have s:=c.lt;have A:=h.at
 refine aC (n:=12) Tryz.func17 rfl ?_
 refine ab (ag (ta 5 [.slice a7 n7 c7] 46 (pg) ?_));intro v1 j b d B;have q:=Nat.le_trans A.size d;have a:=A.new d;replace c:=c.keep B;replace A:=A.keep B;refine t 6 (bF) (ae (aa (ab (ag (t 7 (pg g) (tc 8 45 #[] (ix) ?_))))));rintro _ v ⟨rfl,B⟩;refine⟨_,rfl,?_⟩;replace c:=c.keep B;replace A:=A.keep B;replace b:=b.keep B;refine t 9 (iU id) (t 10 (.func (.func 51) #[] #[pg j]) (tc 11 50 #[pg g,.agg fM,iU id,.func (.func 51) #[] #[pg j]] (DN A.sx e b a c k (by omega) (by omega)) ?_));rintro _ v6 ⟨rfl,r,u,p,S,m,l,i,f⟩;refine⟨_,rfl,?_⟩;replace c:=c.op i f;obtain⟨b,a⟩:=au b a i f;replace A:=A.op S i f;refine t 6 (.bool (Kv.look E (Ky.mk 13 id 0)).isSome) (ae (aa (aF (aE (.bool (Kv.look E (Ky.mk 13 id 0)).isSome) (rs1 6 (by kernel_rfl) (by kernel_rfl)) ?_))));exact⟨rfl,_,_,_,A.sx,by omega,by omega,A.km,A.cc⟩
def dI(E:ay)(id k:Int):ay:=if k=12 then mZ E id else if k=13 then l8 E id else E
def cO(E:ay)(id k:Int):Bool:=if k=12 then (Kv.look E (Ky.mk 12 id 0)).isSome else if k=13 then (Kv.look E (Ky.mk 13 id 0)).isSome else false
theorem mN{k:Int}(h:Sx B w K g E W n N)(e:0<=id/\id < 18446744073709551616)(hn:n+50<=4000000000000000000)(I:N+50<=100000000):Calls Tryz.prog 19 #[pg g,.agg #[.int .u64 id,.int .i64 k]] w (SxF B w K g (dI E id k) W n N (.bool (cO E id k))):=by
 have A:=h.at
 refine aC (n:=21) Tryz.func19 rfl ?_
 refine ab (ag (ta 3 [iU id,iI k] 61 (pg) ?_));intro v1 i a m B;obtain⟨y,b,A⟩:=A.al m B;refine t 4 (bF) (ae (aa (ab (ab (ag (t 5 (pq i 1) (tl 6 (iI k) a 1 (ae (aa (bj (ab (ag ?_))))))))))));by_cases c:(k:Int)=12
 ·refine tq 8 (.bool ((k:Int) == 12)) (bT) (congrArg Value.bool (beq_iff_eq.2 c)) (t 7 (bT) (ae (aa (aP (ab ?_)))));replace A:=A.drew;replace a:=a.drew;refine bI (fun l=>Blk l i [iU id,iI k] 61) (fun _=>false) a ?_
  refine z 0 9 (pg g) (z 2 11 (pg i) (zl 3 12 (iU id) (fun _ h=>h) 0 (zc 1 10 40 #[] (dU) ?_)));rintro _ v4 ⟨rfl,B⟩;replace A:=A.keep B;replace a:=a.keep B;refine⟨_,rfl,a,?_⟩;refine zc 4 13 53 #[pg g,.agg fU,iU id] (endU A.sx e (by omega) (by omega)) ?_
  rintro _ F ⟨rfl,G,H,C,S,s,u,j,f⟩;obtain⟨a,b⟩:=au a b j f;replace A:=A.op S j f;refine⟨_,rfl,a,?_⟩;refine z 5 4 (.bool (Kv.look E (Ky.mk 12 id 0)).isSome) (bB (aa (aG [(4,.bool (Kv.look E (Ky.mk 12 id 0)).isSome)] (aF (jB (dm (aE (.bool (Kv.look E (Ky.mk 12 id 0)).isSome) (rs1 4 (by kernel_rfl) (by kernel_rfl)) ?_)))))))
  have e1:dI E id k=mZ E id:=by unfold dI;rw[if_pos c]
  have e2:cO E id k=(Kv.look E (Ky.mk 12 id 0)).isSome:=by unfold cO;rw[if_pos c]
  rw[e1,e2];exact⟨rfl,_,_,_,A.sx,by omega,by omega,A.km,A.cc⟩
 ·refine tq 8 (.bool ((k:Int) == 12)) (bF) (congrArg Value.bool (beq_eq_false_iff_ne.2 c)) (t 7 (bF) (ae (aa (aW (ab (ag ?_))))));by_cases d:(k:Int)=13
  ·refine tq 15 (.bool ((k:Int) == 13)) (bT) (congrArg Value.bool (beq_iff_eq.2 d)) (t 14 (bT) (ae (aa (aP (ab ?_)))));replace A:=A.drew;replace a:=a.drew;refine bI (fun l=>Blk l i [iU id,iI k] 61) (fun _=>false) a ?_
   refine z 0 16 (pg g) (z 2 18 (pg i) (zl 3 19 (iU id) (fun _ h=>h) 0 (zc 1 17 45 #[] (ix) ?_)));rintro _ D ⟨rfl,B⟩;replace A:=A.keep B;replace a:=a.keep B;refine⟨_,rfl,a,?_⟩;refine zc 4 20 54 #[pg g,.agg fM,iU id] (endM A.sx e (by omega) (by omega)) ?_
   rintro _ x ⟨rfl,r,v,o,S,q,p,j,f⟩;obtain⟨a,b⟩:=au a b j f;replace A:=A.op S j f;refine⟨_,rfl,a,?_⟩;refine z 5 4 (.bool (Kv.look E (Ky.mk 13 id 0)).isSome) (bB (aa (aG [(4,.bool (Kv.look E (Ky.mk 13 id 0)).isSome)] (aF (jB (dm (aE (.bool (Kv.look E (Ky.mk 13 id 0)).isSome) (rs1 4 (by kernel_rfl) (by kernel_rfl)) ?_)))))))
   have e1:dI E id k=l8 E id:=by unfold dI;rw[if_neg c,if_pos d]
   have e2:cO E id k=(Kv.look E (Ky.mk 13 id 0)).isSome:=by unfold cO;rw[if_neg c,if_pos d]
   rw[e1,e2];exact⟨rfl,_,_,_,A.sx,by omega,by omega,A.km,A.cc⟩
  ·refine tq 15 (.bool ((k:Int) == 13)) (bF) (congrArg Value.bool (beq_eq_false_iff_ne.2 d)) (t 14 (bF) (ae (aa (aW (aK (dk (aa (ab (ag (t 4 (bF) (ae (aa (aF (aE (bF) (rs1 4 (by kernel_rfl) (by kernel_rfl)) ?_))))))))))))))
   have e1:dI E id k=E:=by unfold dI;rw[if_neg c,if_neg d]
   have e2:cO E id k=false:=by unfold cO;rw[if_neg c,if_neg d]
   rw[e1,e2];exact⟨rfl,_,_,_,A.sx,by omega,by omega,A.km,A.cc⟩
end
end Qu
end
section
open Pg (ax aN bQ bJ)
namespace Kv
open Go.RowKit Go.Lib Pg
attribute [local go_sem] Oper.semAt_some
section
variable {w:World}{K D X:Nat->Prop}{F:Nat→Prop}{g m n N:Nat}{Q:List (List KV)}{jv pv:Value}{T:List Jr}{oj:Option Nat}{L:List Pg}{E:ay}{W:List ay}{p:List Int}
structure BR(Tp:TypeId->Prop)(X:Nat->Prop)(n0:Nat)(w:World)(g:Nat)(EL:List En)(v:Value):Prop where
 ex:∃ bs1 bs2 bw W1,v=.func (.func 173) #[] #[.pointer (some ⟨bs1,0,none⟩),.pointer (some ⟨bs2,0,none⟩)]/\Itr Tp 158 #[.pointer (some ⟨bw,0,none⟩)] EL.length (ArC EL) (fun V=>Chg X W1 V)/\RdC X W1 g bs1 bs2 bw w/\n0<=bs1/\n0<=bs2
 small:∀ e∈EL,e.kl.length<=1000000000/\e.vl.length<=1000000000
theorem xwmG{F V:Nat->Prop}(h:SX w K D F V g m Q jv T oj n N)(c:N<=100000000)(hx:∀ b,X b->b=g\/¬ K b)(d:∀ b,X b->∀ cs,¬ Blk w b cs 5)(a:∀ b,X b->b < w.heap.size):∃ L,Wm w X F D m L/\∀ f t,(wlk (ens L) f t).map En.kl2=Q.flatten.filter (iL f t) :=
 h.wm c (fun b hb hF=>(hx b hb).elim (fun e=>by subst e;exact h.own.qv hF) (fun n=>n (h.own.map b hF))) d a
theorem si{Tp:TypeId→Prop}{X:Nat→Prop}{n0:Nat}{w1 w2:World}{D:Nat→Prop}{bw:Nat}{n:Int}{f t:List Int}(i:Blk w g [.pointer (some ⟨m,0,none⟩),jv,.int .i64 n] 85)(l:Wm w X F D m L)(a:Below w.heap.size w w1)(k:Itr Tp 158 #[.pointer (some ⟨bw,0,none⟩)] (wlk (ens L) f t).length (ArC (wlk (ens L) f t)) (fun V=>Chg X w1 V))(c:Blk w2 w1.heap.size [.pointer (some ⟨g,0,none⟩)] 27)(o:Blk w2 (w1.heap.size+1) [.func (.func 158) #[] #[.pointer (some ⟨bw,0,none⟩)]] 133)(b:Below w1.heap.size w1 w2)(h:n0≤w.heap.size) :
    BR Tp X n0 w2 g (wlk (ens L) f t) (.func (.func 173) #[] #[.pointer (some ⟨w1.heap.size,0,none⟩),.pointer (some ⟨w1.heap.size+1,0,none⟩)]) :=
  ⟨⟨_, _, bw, w1, rfl, k, ⟨Chg.of b, c, o, ⟨_, (i.keep a).keep b⟩⟩, Nat.le_trans h a.size, by have := a.size; omega⟩, fun e he => by
    obtain⟨es,j,d⟩:= wJ he
    exact l.small es j e d⟩
theorem Cf{Tp:TypeId->Prop}(h:SA w K D g E W n N)(hN:N<=100000000)(I:By w pv p)(u:p.length<=1000000)(q:∀ b,X b->b=g\/¬ K b)(s:∀ b,X b->∀ cs,¬ Blk w b cs 5)(r:∀ b,X b->b < w.heap.size)(hT:¬ Tp 131)(y:¬ Tp 211) :
  Calls Tryz.prog 75 #[.pointer (some ⟨g,0,none⟩),pv] w fun e w'=>∃ v EL,e=.returned v/\BR Tp X w.heap.size w' g EL v/\EL.map En.kl2=E.filter (fun x=>decide (p <+: x.1))/\Below w.heap.size w w':=by
 have j:=h.oct;have d:=ah (show (∀ b,X b->b=g\/¬ K b)/\(∀ b,X b->∀ cs,¬ Blk w b cs 5)/\(∀ b,X b->b < w.heap.size) from⟨q,s,r⟩);have t:=ah (show ¬ Tp 131/\¬ Tp 211 from⟨hT,y⟩);clear q s r hT y;obtain⟨F,V,m,Q,jv,T,oj,M,rfl,P⟩:=h.open;obtain⟨H,J,rfl,-⟩:=id I.ex;have f:=mV I.drew (by omega);have hS:=M.blk.drew;have HX:=ah M;have HP:=ah I;have HO:=ah j;have l:=ah u
 have Y:Below w.heap.size w w.drew:=⟨rfl,rfl,rfl,Nat.le_refl _,fun _ _=>rfl⟩
 clear M I h P j u;obtain⟨o,U⟩:∃ o,Hid (p.length=o):=⟨_,rfl⟩
 rw[U.out] at HP f ⊢;go_enter Tryz.func75,Tryz.ntmps75;go_wp2_with fail;refine bJ (S:=fun w'=>Blk w' g [.pointer (some ⟨m,0,none⟩),jv,.int .i64 n] 85) (by kernel_rfl) hS ?_
 refine ax 0 5 (.pointer (some ⟨g,0,none⟩)) (by kernel_rfl) (fun _ _=>by kernel_rfl) i3 hS ?_
 refine ax 1 6 (.pointer (some ⟨g,0,none⟩)) (by kernel_rfl) (fun _ _=>by kernel_rfl) i3 hS ?_
 refine ax 2 7 (.pointer (some ⟨g,0,none⟩)) (by kernel_rfl) (fun _ _=>by kernel_rfl) i3 hS ?_
 refine ax 3 8 (.pointer (some ⟨g,0,none⟩)) (by kernel_rfl) (fun _ _=>by kernel_rfl) i3 hS ?_
 refine aN 4 (some 9) (.pointer (some ⟨m,0,none⟩)) 76 8 g 0 (by kernel_rfl) (by kernel_rfl) (by kernel_rfl) (fun w' h=>AZ (h.cell (i:=0) rfl)) i3 hS ?_
 refine ax 5 10 (.slice H o J) (by kernel_rfl) (fun _ _=>by kernel_rfl) i3 hS ?_
 refine ax 6 11 (.slice H o J) (by kernel_rfl) (fun _ _=>by kernel_rfl) i3 hS ?_
 refine bQ 7 (some 12) 124 #[.slice H o J] (by kernel_rfl) (by kernel_rfl) f ?_
 rintro e' w1 ⟨nv,rfl,O1,G⟩;refine⟨_,rfl,hS.keep G,?_⟩
 have c:=ai Y G;replace hS:=hS.keep G;have O:=HX.out.keep c;obtain⟨L,R,hw⟩:=xwmG O hN d.out.1 (fun b hb cs k=>d.out.2.1 b hb cs ⟨by rw[<- c.block b (d.out.2.2 b hb)];exact k.blk⟩) (fun b hb=>Nat.lt_of_lt_of_le (d.out.2.2 b hb) c.size)
 have hnl:(nxt p).length<=p.length:=by
  rcases fi p with h1 | ⟨A,x,B,rfl,hx,P⟩
  ·rw[eO h1];simp
  ·rw[iH hx P];simp
 have tW:=nS (Tp:=Tp) R (HP.out.keep c) O1.by (by have:=l.out;omega) (by have:=l.out;omega) t.out.1 t.out.2
 refine bQ 8 (some 13) 62 #[.pointer (some ⟨m,0,none⟩),.slice H o J,nv] (by kernel_rfl) (by kernel_rfl) tW ?_
 rintro e' w2 ⟨bw,rfl,C,IT⟩;refine⟨_,rfl,hS.keep C,?_⟩;replace hS:=hS.keep C;refine bQ 9 (some 14) 122 #[.pointer (some ⟨g,0,none⟩),.func (.func 158) #[] #[.pointer (some ⟨bw,0,none⟩)]] (by kernel_rfl) (by kernel_rfl) np ?_
 rintro e' w3 ⟨rfl,k1,Z,z⟩;refine⟨_,rfl,hS.keep z,?_⟩;replace hS:=hS.keep z;refine ax 10 4 (.func (.func 173) #[] #[.pointer (some ⟨w2.heap.size,0,none⟩),.pointer (some ⟨w2.heap.size+1,0,none⟩)]) (by kernel_rfl) (fun _ _=>by kernel_rfl) i3 hS ?_
 refine bh (by kernel_rfl) ?_
 simp only[Act.put,List.setIfInBounds_toArray,List.set_cons_zero,List.set_cons_succ];have FI:=ah (si O.blk R C IT k1 Z z c.size);have HW:=ah (hw p (nxt p));have BB:=ah (ai (ai c C) z);clear hS O R hw tW IT k1 Z z C G c O1 Y;go_wp2;go_ret;refine⟨_,_,rfl,FI.out,?_,BB.out⟩;rw[HW.out];exact List.filter_congr (fun x hx=>zy (HO.out x hx))
theorem SA.tick(h:SA w K D g E W n N):SA (tick g w n) K D g E W (n+1) N:=by
 obtain⟨F,V,m,Q,jv,T,oj,hX,hE,hB⟩:=h.open;exact(hX.top (dR g n w) (hX.blk.setCell (i:=2) _)).shut hE hB
theorem SA.cnt(h:SA w K D g E W n N):w.cell? ⟨g,2,none⟩=some (.int .i64 n)/\w.frozen? ⟨g,2,none⟩=false:=by
 obtain⟨F,V,m,Q,jv,T,oj,hX,hE,hB⟩:=h.open;exact⟨hX.blk.cell (i:=2) rfl,hX.blk.free 2⟩
theorem SA.kv(h:SA w K D g E W n N):∃ cs,Blk w g cs 85:=by
 obtain⟨F,V,m,Q,jv,T,oj,hX,hE,hB⟩:=h.open;exact⟨_,hX.blk⟩
end
end Kv
end
section
namespace Bk
open Go.RowKit Go.Lib Pg Kv
attribute [local go_sem] Oper.semAt_some
section
variable {a:Nat}{w2 V V':World}{cs:List Value}
def RdS(W0:World)(X K D:Nat->Prop)(g:Nat)(E:ay)(Wn:List ay)(N:Nat)(V:World):Prop:=Chg X W0 V/\(∀ b,X b->∀ cs,¬ Blk V b cs 5)/\∃ x,SA V K D g E Wn x N
def Ext(a:Nat)(w2 V:World):Prop:=(∀ b,a<=b->b < w2.heap.size->V.heap[b]?=w2.heap[b]?)/\w2.heap.size<=V.heap.size
theorem Ext.rcd(h:Ext a w2 V)(d:Rec w2.heap.size V V'):Ext a w2 V' :=
 ⟨fun b g c=>by
  have e:=h.1 b g c
  have f:w2.heap[b]?=some w2.heap[b]:=Array.getElem?_eq_getElem c;rw[f] at e ⊢
  exact d.same b _ e (.inl c),Nat.le_trans h.2 d.size⟩
theorem Ext.keep(h:Ext a w2 V)(hb:Below V.heap.size V V'):Ext a w2 V' :=
 ⟨fun b h1 h2=>(hb.block b (Nat.lt_of_lt_of_le h2 h.2)).trans (h.1 b h1 h2),Nat.le_trans h.2 hb.size⟩
theorem Ext.tick{g x:Nat}(h:Ext a w2 V)(hg:g < a):Ext a w2 (tick g V x) :=
 ⟨fun b h1 h2=>(eW (by omega)).trans (h.1 b h1 h2),by rw[eP];exact h.2⟩
theorem Ext.blk{b:Nat}{t:TypeId}(h:Ext a w2 V)(k:Blk w2 b cs t)(hb:a<=b):Blk V b cs t:=k.same (h.1 b hb k.lt)
end
end Bk
end
section
namespace Kv
open Go.RowKit Go.Lib Pg Bk
attribute [local go_sem] Oper.semAt_some
section
variable {a:Nat}{R V V' w:World}{F:Nat->Prop}{g:Operand}{lb:Array Value}{Ar:Nat→Array Value→Nat→World→Prop}{Rd:World→Prop}{ps:Array Tmp}
structure fe(a:Nat)(R V:World):Prop where
 same:∀ b cs t m,a<=b->R.heap[b]?=some (.cells cs t m)->V.heap[b]?=some (.cells cs t m)
 size:R.heap.size<=V.heap.size
theorem fe.of(h:Ext a R V):fe a R V:=⟨fun b _ _ _ h1 h2=>(h.1 b h1 (lt_of_block h2)).trans h2,h.2⟩
theorem fe.rcd{B:Nat}(h:fe a R V)(hr:Rec B V V'):fe a R V':=⟨fun b cs t m h1 h2=>hr.same b _ (h.same b cs t m h1 h2) (.inr rfl),Nat.le_trans h.size hr.size⟩
theorem fe.keep(h:fe a R V)(hb:Below V.heap.size V V'):fe a R V':=⟨fun b cs t m h1 h2=>(hb.block b (lt_of_block (h.same b cs t m h1 h2))).trans (h.same b cs t m h1 h2),Nat.le_trans h.size hb.size⟩
theorem fe.chg(h:fe a R V)(hc:Chg F V V')(hF:∀ b,F b->b < a\/R.heap.size<=b):fe a R V':=⟨fun b cs t m d c=>(hc.same b (lt_of_block (h.same b cs t m d c)) (fun hf=>by have:=hF b hf;have:=lt_of_block c;omega)).trans (h.same b cs t m d c),Nat.le_trans h.size hc.size⟩
theorem fe.tick{g x:Nat}(h:fe a R V)(hg:g < a):fe a R (tick g V x):=h.chg (dR g x V) (fun b e=>.inl (by have e':b=g:=e;omega))
theorem Ext.mix{Tp:TypeId->Prop}(h:Ext a R V)(g:bH Tp a V V')(hc:fe a R V'):Ext a R V' :=
 ⟨fun b d f=>by
  have e:=h.1 b d f
  have c:R.heap[b]?=some R.heap[b]:=Array.getElem?_eq_getElem f
  cases ho:R.heap[b] with
  | cells cs t m=>rw[ho] at c;rw[hc.same b cs t m d c,c]
  | _=>rw[ho] at c;rw[c] at e ⊢;exact g.same b _ d e (fun _ _ _ h=>by cases h),hc.size⟩
def ItrE(W0:World)(Tp:TypeId->Prop)(g x0:Nat)(gf:Nat)(lb:Array Value)(N:Nat)(Ar:Nat->Array Value->Nat->World->Prop)(Rd:World->Prop):Prop :=
 ∀ (l:Nat) (J0:World->Prop) (J Jt Jx:World->Nat->World->Prop) (W:World),(∀ b,W0.heap.size<=b->∀ cs,¬ Blk W b cs 5)->W0.heap.size<=W.heap.size->St W.heap.size J0->(∀ R i,St W.heap.size (J R i))->(∀ R i,St W.heap.size (Jt R i))->(∀ R i,St W.heap.size (Jx R i))->g < W.heap.size ->
  (∀ V,J0 V->V.cell? ⟨g,2,none⟩=some (.int .i64 x0)/\V.frozen? ⟨g,2,none⟩=false/\Rd V/\∀ R,W.heap.size<=R.heap.size->fe W.heap.size R V->J R 0 (tick g V x0)) ->
  (∀ R i V,J R i V->V.cell? ⟨g,2,none⟩=some (.int .i64 ((x0+1+i:Nat):Int))/\V.frozen? ⟨g,2,none⟩=false/\Rd V/\fe W.heap.size R V/\(i < N->Jt R i (tick g V (x0+1+i)))) ->
  (∀ R i args V V',W.heap.size<=R.heap.size->i < N->Jt R i V->W.heap.size<=V.heap.size->Below V.heap.size V V'->Ar i args V.heap.size V'->YieldAt Fence.wide 0 Tryz.prog l args V' fun e V''=>bH Tp W.heap.size V' V''/\((e=.returned (.bool true)/\J R (i+1) V'')\/(e=.returned (.bool false)/\Jx R (i+1) V''))) ->
  J0 W ->
  Calls Tryz.prog gf (#[.func (.yield l) #[] #[]] ++ lb) W fun e W'=>(∃ v,e=.returned v)/\W.heap.size<=W'.heap.size/\∃ R:World,W.heap.size<=R.heap.size/\(J R N W'\/∃ i,i < N/\Jx R (i+1) W')
theorem xG{Tp:TypeId→Prop}{z N n g0 x0:Nat}(IT:ItrE w Tp g0 x0 z lb N Ar Rd){assign body:Code}{Q:Exit→Act→World→Prop}{a:Act}(hg:a.eval g=.func (.func z) #[] lb)(eg:∀ args w,(callFunc z args).run Tryz.prog w=.ok (.enter z args) w)(M:∀ i args n V W,Ar i args n V→Cel V W→Ar i args n W)(hAn:∀ i args n V,Ar i args n V→args.size=ps.size)(U:World→Prop)(I K:World→Nat→World→Prop)(Ix:World→Code→Nat→World→Prop)(J:St w.heap.size U)(hI:∀ R i,St w.heap.size (I R i))(C:∀ R i,St w.heap.size (K R i))(q:∀ R c i,St w.heap.size (Ix R c i))(hgw:g0 < w.heap.size)(hx0:∀ V,U V→V.cell? ⟨g0,2,none⟩=some (.int .i64 x0)∧V.frozen? ⟨g0,2,none⟩=false∧Rd V∧∀ R,w.heap.size+2≤R.heap.size→fe (w.heap.size+2) R V→I R 0 (tick g0 V x0))(hx:∀ R i V,I R i V→V.cell? ⟨g0,2,none⟩=some (.int .i64 ((x0+1+i:Nat):Int))∧V.frozen? ⟨g0,2,none⟩=false∧Rd V∧fe (w.heap.size+2) R V∧(i < N→K R i (tick g0 V (x0+1+i))))(h0:U w)(o:∀ R,w.heap.size+2≤R.heap.size→BE Tp w N n ps assign body a.tmps Ar (K R) (I R) (Ix R))(r:∀ R D W,w.heap.size+2≤R.heap.size→w.heap.size≤D→W.heap[D]?=some (.deferred (some []))→I R N W→Q .normal { a with defers:={ target:=.collected D,args:=#[] } :: a.defers } W)(u:∀ R D c i W,w.heap.size+2≤R.heap.size→w.heap.size≤D→W.heap[D]?=some (.deferred (some []))→i < N→Ix R c (i+1) W→c.wpIn Fence.wide n Tryz.prog Q { a with defers:={ target:=.collected D,args:=#[] } :: a.defers } W) :
    (Code.rangeFunc g ps assign body).wpIn Fence.wide n Tryz.prog Q a w:=by
  refine wpIn_rangeFunc ?_
  intro fn _;obtain⟨f,m⟩:∃ f,(w.alloc (.deferred (some []))).alloc (.loop (cY fn a.tmps ps assign body w.heap.size .ready none))=f:=⟨_,rfl⟩
  have aa:Below w.heap.size w f:=by rw[← m];exact ai (af w _) (af _ _)
  have L:f.heap.size=w.heap.size+1+1:=by rw[← m];simp
  have H:f.heap[w.heap.size+1]?=some (.loop (cY fn a.tmps ps assign body w.heap.size .ready none)):=by
    rw[← m];have:=World.alloc_heap_new (w.alloc (.deferred (some []))) (.loop (cY fn a.tmps ps assign body w.heap.size .ready none));rwa [World.size_alloc] at this
  have E:f.heap[w.heap.size]?=some (.deferred (some [])):=by
    rw[← m];exact(Below.heap_alloc _ _ _ (by simp)).trans (World.alloc_heap_new w _)
  have t1:∀ V x,(tick g0 V x).heap[w.heap.size+1]?=V.heap[w.heap.size+1]?:=fun V x=>eW (by omega)
  have t2:∀ V x,(tick g0 V x).heap[w.heap.size]?=V.heap[w.heap.size]?:=fun V x=>eW (by omega)
  have hNB : ∀ b, w.heap.size ≤ b → ∀ cs, ¬ Blk f b cs 5 := fun b hb cs k => by
    have hlt:=k.lt;have l:=k.blk;rcases Nat.lt_or_ge w.heap.size b with S | S
    · obtain rfl : b = w.heap.size + 1 := by omega
      rw[H] at l
      cases l
    · obtain rfl : b = w.heap.size := by omega
      rw[E] at l
      cases l
  refine⟨w.heap.size + 1, [{ target := .collected w.heap.size, args := #[] }], f, { target := .fn (.func z) lb, args := #[.func (.yield (w.heap.size + 1)) #[] #[]] }, f, z,
    #[.func (.yield (w.heap.size+1)) #[] #[]] ++ lb,f,?_,?_,?_,?_,fun h=>(by cases h),?_⟩
  · rw[← m];exact run_enterLoop_outer _ _ _ _ _
  · simp only[resolve,hg]
    simp[go_sem]
  · intro f' _;trivial
  · simp[invoke,go_sem,eg]
  · refine callsIn_wide.2 ?_
    refine(IT (w.heap.size + 1)
      (fun W=>U W∧W.heap[w.heap.size+1]?=some (.loop (cY fn a.tmps ps assign body w.heap.size .ready none))∧W.heap[w.heap.size]?=some (.deferred (some [])))
      (fun R i W=>I R i W∧W.heap[w.heap.size+1]?=some (.loop (cY fn a.tmps ps assign body w.heap.size .ready none))∧W.heap[w.heap.size]?=some (.deferred (some [])))
      (fun R i W=>K R i W∧W.heap[w.heap.size+1]?=some (.loop (cY fn a.tmps ps assign body w.heap.size .ready none))∧W.heap[w.heap.size]?=some (.deferred (some [])))
      (fun R i W=>∃ c,Ix R c i W∧W.heap[w.heap.size+1]?=some (.loop (cY fn a.tmps ps assign body w.heap.size .done (some c)))∧W.heap[w.heap.size]?=some (.deferred (some [])))
      f hNB (by omega) (fun X Y hx d=>⟨J X Y hx.1 (d.mono (by omega)),d.same _ _ hx.2.1 (.inl (by omega)),d.same _ _ hx.2.2 (.inl (by omega))⟩)
      (fun R i X Y hx d=>⟨hI R i X Y hx.1 (d.mono (by omega)),d.same _ _ hx.2.1 (.inl (by omega)),d.same _ _ hx.2.2 (.inl (by omega))⟩)
      (fun R i X Y hx d=>⟨C R i X Y hx.1 (d.mono (by omega)),d.same _ _ hx.2.1 (.inl (by omega)),d.same _ _ hx.2.2 (.inl (by omega))⟩)
      (fun R i X Y hx d=>by obtain⟨c,S,Z,h3⟩:= hx;exact⟨c,q R c i X Y S (d.mono (by omega)),d.same _ _ Z (.inl (by omega)),d.same _ _ h3 (.inl (by omega))⟩)
      (by omega)
      (fun V t=>by obtain⟨A,O,y,T⟩:= hx0 V t.1;exact⟨A,O,y,fun R hR hE=>⟨T R (by omega) (L ▸ hE),(t1 V x0).trans t.2.1,(t2 V x0).trans t.2.2⟩⟩)
      (fun R i V t=>by obtain⟨A,O,y,q5,T⟩:= hx R i V t.1;exact⟨A,O,y,L ▸ q5,fun hi=>⟨T hi,(t1 V _).trans t.2.1,(t2 V _).trans t.2.2⟩⟩)
      ?_ ⟨J _ _ h0 (Rec.of aa),H,E⟩).mono ?_
    · rintro R i args V V' hRs s ⟨hi,p,l⟩ ab hb ha
      have d:=o R (by omega) _ i args V V' (by omega) (lt_of_block p) ⟨_,p⟩ s hi hb ha;refine(iV (Tp:=Tp) (B:=w.heap.size) (i:=2 * i+1) (I:=pT (I R) (K R)) (Ix:=fun c k=>Ix R c (k / 2)) (Ar:=fun k=>Ar (k / 2)) (fun j=>M (j / 2)) (fun j=>by unfold pT;split;exact hI R _;exact C R _) (fun c j=>q R c _) (by omega) p (by rw[jt];exact hi) hb (by rw[show (2 * i+1) / 2=i by omega];exact ha) (hAn _ _ _ _ ha) (wpIn_mono d ?_)).mono ?_
      · intro e a1 f h
        cases e <;> first
          | (refine⟨h.1, fun V2 W2 A O y T q5 q6 q7 => ?_⟩
             rw[jt] at A;rw[show (2 * i+1) / 2=i by omega] at y
             exact wpIn_mono (h.2 V2 W2 A O y T q5 q6 q7) (fun e a W h=>oQ h))
          | exact h.elim
      · rintro e V'' ⟨F,h⟩
        have G:=F.same _ _ (Nat.le_refl _) (by omega) ((hb.block _ (lt_of_block l)).trans l) my;refine⟨F.from (by omega) (by omega),h.imp (fun h=>⟨h.1,by have:=h.2.1;rw[kN] at this;exact this,h.2.2,G⟩) (fun h=>?_)⟩;obtain⟨S,c,Z,h3⟩:= h;rw[show (2 * i+1+1) / 2=i+1 by omega] at Z;exact⟨S,c,Z,h3,G⟩
    · rintro e W2 ⟨⟨v,rfl⟩,ab,R,hRs,⟨hi,p,l⟩ | ⟨i,s,c,hi,p,l⟩⟩
      · exact⟨none,_,run_endLoop (P:=Tryz.prog) p (by simp[cY]),r R _ _ (by omega) (Nat.le_refl _) ((World.putObj_heap_other (by omega)).trans l) (hI R _ _ _ hi (Rec.put p rfl (by omega) _))⟩
      · exact⟨some c,_,run_endLoop (P:=Tryz.prog) p (by simp[cY]),u R _ c i _ (by omega) (Nat.le_refl _) ((World.putObj_heap_other (by omega)).trans l) s (q R c _ _ _ hi (Rec.put p rfl (by omega) _))⟩
end
end Kv
end
section
namespace Pw
open Go.RowKit Go.Lib Pg Kv Bk
attribute [local go_sem] Oper.semAt_some
section
variable {w w':World} {B B':Nat} {v:Value} {l:List Int}
end
theorem zJ {w w':World} {K D:Nat->Prop} {g n N B:Nat} {E:ay} {W:List ay} (h:SA w K D g E W n N) (a:Rec B w w'):SA w' K D g E W n N :=
 h.same (fun b d=>by obtain⟨cs,t,k,_⟩:=h.kind b d;exact(a.same b _ k.blk (.inr rfl)).trans k.blk.symm) (fun b _ _ c=>by obtain⟨cs,k⟩:=c;exact(a.same b _ k.blk (.inr rfl)).trans k.blk.symm)
section
variable {Wb V V' R:World} {a t g x N:Nat} {K D:Nat->Prop} {E:ay} {Wn:List ay} {l:List Int}
end
end Pw
end
end Go.Proofs.YtidnifmehnjipaaGreat
