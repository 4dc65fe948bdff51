import Derived.Test.YtidnifmehnjipaaGreatJao
import Derived.LoopN
set_option maxRecDepth 100000
set_option maxHeartbeats 8000000
namespace Go.Proofs.YtidnifmehnjipaaGreat
section
namespace Qu
open Go.RowKit Go.Lib Pg Lim Gl Kv Bk Pw
attribute [local go_sem] Oper.semAt_some
set_option linter.unusedVariables false
set_option linter.unusedSimpArgs false
section
variable {w:World}{k a b x:Int}{v l:List Int}{B g n N:Nat}{K:Nat->Prop}{E:ay}{W:List ay}
theorem ow(h:0<=a/\a < 18446744073709551616)(f:Ky.mkE k a b=false):Calls Tryz.prog 64 #[.int .i64 k,.int .u64 a,.int .u64 b] w fun e w'=>∃ v,e=.returned v/\ByU w' v (Ky.mk k a b)/\Below w.heap.size w w':=by
 have d:=Below.refl w.heap.size w;refine aC (n:=18) Tryz.func64 rfl ?_
 refine ab (ag (t 6 (.slice none 0 0) (ae (aa (ab (ag (t 10 (iI k) (t 11 (iU a) (t 12 (iU b) (t 13 (.agg #[iI k,iU a,iU b]) (tc 14 32 #[.agg #[iI k,iU a,iU b]] (AE h f) ?_)))))))))));rintro _ i ⟨c,rfl,g,B⟩;refine⟨_,rfl,?_⟩;replace d:=ai d B;refine t 9 (.tuple #[c,iI 0]) (t 15 (c) (t 16 (iI 0) (t 7 (c) (t 8 (iI 0) (ae (aa (aG [(6,.slice none 0 0),(7,c)] (ab (ag (t 17 (c) (t 6 (c) (ae (aa (aF (aE (c) (rs1 6 (by kernel_rfl) (by kernel_rfl)) ?_)))))))))))))));exact⟨_,rfl,g,d⟩
def nv(x:Int):List Int:=Rc.thr (Rc.pnx (fun o=>([x]:List Int).getD o 0)) [(0,0)] []
def bE(l:List Int):Int:=Rc.aT (Rc.bM l) 0
def ey(l:List Int):Int:=Rc.aT (Rc.b8 l) 0
def aJ(l:List Int):Int:=Rc.aT (Rc.b8 l) 1
def got(E:ay)(k:List Int):List Int:=(Kv.look E k).getD []
theorem fA(x:Int):(nv x).length<=300:=by have:=Rc.fk (fun o=>([x]:List Int).getD o 0) [(0,0)] [];simpa[nv] using this
theorem AK(x:Int):Oct (nv x):=Rc.l3 _ _ _ (fun _ h=>by simp at h)
theorem dN(hE:Ky.mkE k a b=false)(hv:v.length<=4096):eH (Ky.mk k a b) v=0:=by
 have h1:=mk_pos hE;have h2:=Ky.cL k a b;unfold eH;rw[if_neg (by omega),if_neg (by omega)]
theorem qm{kv vv:Value}(h:Sx B w K g E W n N)(e:ByU w kv (Ky.mk k a b))(c:Ky.mkE k a b=false)(f:ByU w vv v)(d:v.length<=4096)(hn:n<=4000000000000000000)(i:N+2<=100000000) :
  Calls Tryz.prog 33 #[pg g,kv,vv] w (SxE B w K g (put E (Ky.mk k a b) v) W (n+1) (N+2) (.int .i64 0)):=by
 have u:=xset h e f hn i;rw[dN c d,if_pos rfl] at u;exact u
theorem xJ{v:Value}(h:ByU w v l)(d:l.length<=1000000000):Calls Tryz.prog 141 #[v] w fun e w'=>e=.returned (.tuple #[.agg #[.int .u64 (ey l),.int .u64 (aJ l)],.int .i64 (Rc.aV (Rc.b8 l))])/\Below w.heap.size w w':=by
 obtain⟨b,f,c,rfl,a⟩:=bya h.byt;exact Rc.oChain a d
theorem ph{v:Value}(h:ByU w v l)(d:l.length<=1000000000):Calls Tryz.prog 65 #[v] w fun e w'=>e=.returned (.tuple #[.int .u64 (bE l),.int .i64 (Rc.aV (Rc.bM l))])/\Below w.heap.size w w':=by
 obtain⟨b,f,c,rfl,a⟩:=bya h.byt;exact Rc.CO a d
theorem oN{y:Int}:Calls Tryz.prog 34 #[.agg #[.int .u64 x,.int .u64 y]] w fun e w'=>∃ v,e=.returned v/\ByU w' v (pv x y)/\Below w.heap.size w w':=by
 refine Rc.pX.mono ?_
 rintro e w' ⟨b,n,rfl,hn,X,hb,B⟩;exact⟨_,rfl,lQ X (zR x y) hn (Nat.le_trans (kt x y) (by decide)),B⟩
theorem eZ:Calls Tryz.prog 93 #[.int .u64 x] w fun e w'=>∃ v,e=.returned v/\ByU w' v (nv x)/\Below w.heap.size w w':=by
 refine Rc.nZ.mono ?_
 rintro e w' ⟨b,n,rfl,hn,X,hb,B⟩;exact⟨_,rfl,lQ X (AK x) hn (Nat.le_trans (fA x) (by decide)),B⟩
theorem Sx.qO(h:Sx B w K g E W n N)(k:List Int):(got E k).length<=1000000000:=by
 unfold got
 cases e:Kv.look E k with
 | none=>simp
 | some v=>exact(h.sa.small _ (Kv.mj e)).2
theorem nV  : Ky.mkE 2 0 0=false:=by
 unfold Ky.mkE;rw[show (Ky.frm 2).1=1 from rfl];simp
theorem gR(a:Int):Ky.mkE 12 a 0=false:=by
 unfold Ky.mkE;rw[show (Ky.frm 12).1=9 from rfl];simp
theorem gP(a:Int):Ky.mkE 13 a 0=false:=by
 unfold Ky.mkE;rw[show (Ky.frm 13).1=9 from rfl];simp
theorem kZ(a b:Int):Ky.mkE 14 a b=false:=by
 unfold Ky.mkE;rw[show (Ky.frm 14).1=17 from rfl];simp
theorem ly(a b:Int):Ky.mkE 15 a b=false:=by
 unfold Ky.mkE;rw[show (Ky.frm 15).1=17 from rfl];simp
theorem jT(a b:Int):Ky.mkE 17 a b=false:=by
 unfold Ky.mkE;rw[show (Ky.frm 17).1=17 from rfl];simp
def chn(E:ay):List Int:=got E (Ky.mk 2 0 0)
def dD(E:ay):ay:=put E (Ky.mk 2 0 0) (pv (ey (chn E)) ((aJ (chn E)+1) % 18446744073709551616))
def dq(E:ay)(a b:Int):Int:=bE (got E (Ky.mk 17 a b))
def qc(E:ay)(a b n:Int):ay:=if n=0 then rem E (Ky.mk 17 a b) else put E (Ky.mk 17 a b) (nv n)
theorem fW(h:Sx B w K g E W n N)(hn:n+5<=4000000000000000000)(y:N+5<=100000000):Calls Tryz.prog 90 #[pg g] w (SxE B w K g (dD E) W (n+2) (N+2) (.int .u64 (aJ (chn E)))):=by
 have A:=h.at
 refine aC (n:=33) Tryz.func90 rfl ?_
 refine ab (ag (t 2 (iU 0) (ae (aa (ab (ag (tc 9 64 #[iI 2,iU 0,iU 0] (ow ⟨by decide,by decide⟩ nV) ?_)))))));rintro _ x ⟨c,rfl,b,B⟩;refine⟨_,rfl,?_⟩;replace A:=A.keep B;refine t 3 (c) (ae (aa (ab (ag (t 11 (pg g) (t 12 (c) (tc 13 63 #[pg g,c] (DS A.sx b (by omega) (by omega)) ?_)))))));rintro _ v6 ⟨e,rfl,m,S,i⟩;refine⟨_,rfl,?_⟩;replace b:=A.byu b i;replace A:=A.op S (fun _ h=>.inl h) i;refine t 10 (.tuple #[e,.bool (Kv.look E (Ky.mk 2 0 0)).isSome]) (t 14 (e) (t 15 (.bool (Kv.look E (Ky.mk 2 0 0)).isSome) (t 4 (e) (t 5 (.bool (Kv.look E (Ky.mk 2 0 0)).isSome) (ae (aa (aG [(0,pg g),(2,iU 0),(3,c),(4,e)] (ab (ag (t 17 (e) (tc 18 141 #[e] (xJ m (Sx.qO A.sx _)) ?_)))))))))));rintro _ u ⟨rfl,B⟩;refine⟨_,rfl,?_⟩;replace A:=A.keep B;replace b:=aA b B;replace m:=aA m B;clear m;refine t 16 (.tuple #[.agg #[iU (ey (got E (Ky.mk 2 0 0))),iU (aJ (got E (Ky.mk 2 0 0)))],iI (Rc.aV (Rc.b8 (got E (Ky.mk 2 0 0))))]) (t 19 (.agg #[iU (ey (got E (Ky.mk 2 0 0))),iU (aJ (got E (Ky.mk 2 0 0)))]) (t 20 (iI (Rc.aV (Rc.b8 (got E (Ky.mk 2 0 0))))) (ta 6 [iU 0,iU 0] 40 (pg) ?_)));intro v l a o B;obtain⟨k,d,A⟩:=A.al o B;replace b:=aA b B;refine ts a 0 (.agg #[iU (ey (got E (Ky.mk 2 0 0))),iU (aJ (got E (Ky.mk 2 0 0)))]) [iU (ey (got E (Ky.mk 2 0 0))),iU (aJ (got E (Ky.mk 2 0 0)))] [iU (ey (got E (Ky.mk 2 0 0))),iU (aJ (got E (Ky.mk 2 0 0)))] ?_
 intro v10 Y C;replace A:=Bk.At.cell A a C k d (by decide);replace b:=bP b a C (by decide);have a:=Y;refine t 7 (iI (Rc.aV (Rc.b8 (got E (Ky.mk 2 0 0))))) (ae (aa (ab (ag (t 21 (pq l 1) (tl 22 (iU (aJ (got E (Ky.mk 2 0 0)))) a 1 (t 8 (iU (aJ (got E (Ky.mk 2 0 0)))) (ae (aa (ab (ag (t 23 (pq l 1) (tl 24 (iU (aJ (got E (Ky.mk 2 0 0)))) a 1 (tq 25 (iU (IntKind.u64.wrap (aJ (got E (Ky.mk 2 0 0))+1))) (iU ((aJ (got E (Ky.mk 2 0 0))+1) % 18446744073709551616)) (congrArg (Value.int .u64) (IntKind.wrap_u64 _)) (t 26 (pq l 1) (ts a 1 (iU ((aJ (got E (Ky.mk 2 0 0))+1) % 18446744073709551616)) [iU ((aJ (got E (Ky.mk 2 0 0))+1) % 18446744073709551616)] [iU (ey (got E (Ky.mk 2 0 0))),iU ((aJ (got E (Ky.mk 2 0 0))+1) % 18446744073709551616)] ?_))))))))))))))));intro v11 Y C;replace A:=Bk.At.cell A a C k d (by decide);replace b:=bP b a C (by decide);have a:=Y;refine ae (aa (aG [(0,pg g),(2,iU 0),(3,c),(6,pg l),(8,iU (aJ (got E (Ky.mk 2 0 0))))] (ab (ag (t 27 (pg g) (t 28 (c) (tlr 29 [iU (ey (got E (Ky.mk 2 0 0))),iU ((aJ (got E (Ky.mk 2 0 0))+1) % 18446744073709551616)] a 0 (tc 30 34 #[.agg #[iU (ey (got E (Ky.mk 2 0 0))),iU ((aJ (got E (Ky.mk 2 0 0))+1) % 18446744073709551616)]] (oN) ?_))))))));rintro _ r ⟨j,rfl,f,B⟩;refine⟨_,rfl,?_⟩;replace A:=A.keep B;replace b:=aA b B;replace a:=a.keep B;refine tc 31 33 #[pg g,c,j] (qm A.sx b nV f (Nat.le_trans (kt _ _) (by decide)) (by omega) (by omega)) ?_
 rintro _ q ⟨rfl,s,S,p,i⟩;refine⟨_,rfl,?_⟩;replace b:=A.byu b i;obtain⟨a,d⟩:=au a d p i;replace f:=A.byu f i;replace A:=A.op S p i;clear b;clear f;refine ae (aa (ab (ag (t 32 (iU (aJ (got E (Ky.mk 2 0 0)))) (t 2 (iU (aJ (got E (Ky.mk 2 0 0)))) (ae (aa (aF (aE (iU (aJ (got E (Ky.mk 2 0 0)))) (rs1 2 (by kernel_rfl) (by kernel_rfl)) ?_)))))))));exact⟨rfl,_,A.sx,A.km,A.cc⟩
theorem ek(h:Sx B w K g E W n N)(j:0<=a/\a < 18446744073709551616)(hn:n+5<=4000000000000000000)(m:N+5<=100000000):Calls Tryz.prog 24 #[pg g,.int .u64 a,.int .u64 b] w (SxE B w K g E W (n+1) N (.int .u64 (dq E a b))):=by
 have A:=h.at
 refine aC (n:=25) Tryz.func24 rfl ?_
 refine ab (ag (t 6 (iU 0) (ae (aa (ab (ag (t 12 (pg g) (t 13 (iU a) (t 14 (iU b) (tc 15 64 #[iI 17,iU a,iU b] (ow j (jT a b)) ?_))))))))));rintro _ k ⟨f,rfl,d,B⟩;refine⟨_,rfl,?_⟩;replace A:=A.keep B;refine tc 16 63 #[pg g,f] (DS A.sx d (by omega) (by omega)) ?_
 rintro _ v6 ⟨c,rfl,e,S,i⟩;refine⟨_,rfl,?_⟩;replace d:=A.byu d i;replace A:=A.op S (fun _ h=>.inl h) i;refine t 11 (.tuple #[c,.bool (Kv.look E (Ky.mk 17 a b)).isSome]) (t 17 (c) (t 18 (.bool (Kv.look E (Ky.mk 17 a b)).isSome) (t 7 (c) (t 8 (.bool (Kv.look E (Ky.mk 17 a b)).isSome) (ae (aa (aG [(6,iU 0),(7,c)] (ab (ag (t 20 (c) (tc 21 65 #[c] (ph e (Sx.qO A.sx _)) ?_)))))))))));rintro _ l ⟨rfl,B⟩;refine⟨_,rfl,?_⟩;replace A:=A.keep B;replace d:=aA d B;replace e:=aA e B;clear e;refine t 19 (.tuple #[iU (bE (got E (Ky.mk 17 a b))),iI (Rc.aV (Rc.bM (got E (Ky.mk 17 a b))))]) (t 22 (iU (bE (got E (Ky.mk 17 a b)))) (t 23 (iI (Rc.aV (Rc.bM (got E (Ky.mk 17 a b))))) (t 9 (iU (bE (got E (Ky.mk 17 a b)))) (t 10 (iI (Rc.aV (Rc.bM (got E (Ky.mk 17 a b))))) (ae (aa (ab (ag (t 24 (iU (bE (got E (Ky.mk 17 a b)))) (t 6 (iU (bE (got E (Ky.mk 17 a b)))) (ae (aa (aF (aE (iU (bE (got E (Ky.mk 17 a b)))) (rs1 6 (by kernel_rfl) (by kernel_rfl)) ?_))))))))))))));exact⟨rfl,_,A.sx,A.km,A.cc⟩
theorem count_set{d m:Int}(h:Sx B w K g E W n N)(v:0<=a/\a < 18446744073709551616)(hn:n+5<=4000000000000000000)(C:N+5<=100000000):Calls Tryz.prog 94 #[.agg #[.int .u64 a,.int .u64 b,.int .u64 d],pg g,.int .u64 m] w (SxE B w K g (qc E a b m) W (n+1) (N+2) (.tuple #[])):=by
 have A:=h.at
 refine aC (n:=22) Tryz.func94 rfl ?_
 refine ab (ag (ta 3 [iU a,iU b,iU d] 167 (pg) ?_));intro v1 r c q B;obtain⟨x,f,A⟩:=A.al q B;refine ae (aa (ab (ag (t 7 (pg r) (tl 8 (iU a) c 0 (t 9 (pq r 1) (tl 10 (iU b) c 1 (tc 11 64 #[iI 17,iU a,iU b] (ow v (jT a b)) ?_))))))));rintro _ D ⟨e,rfl,i,B⟩;refine⟨_,rfl,?_⟩;replace A:=A.keep B;replace c:=c.keep B;refine t 6 (e) (ae (aa (ab (ab (ag (t 12 (iU m) ?_))))));by_cases p:(m:Int)=0
 ·refine tq 13 (.bool ((m:Int) == 0)) (bT) (congrArg Value.bool (beq_iff_eq.2 p)) (ae (aa (aG [(1,pg g),(2,iU m),(6,e),(13,bT)] (aP (ab (ag (t 14 (pg g) (t 15 (e) (tc 16 107 #[pg g,e] (tm A.sx i (Nat.le_trans (Ky.cL _ _ _) (by decide)) (by omega) (by omega)) ?_)))))))));rintro _ y ⟨rfl,z,S,l,j⟩;refine⟨_,rfl,?_⟩;obtain⟨c,f⟩:=au c f l j;replace i:=A.byu i j;replace A:=A.op S l j;clear i;refine ae (aa (aF (dm (aE (.tuple #[]) (rs0 (by kernel_rfl)) ?_))));rw[show qc E a b m=_ from if_pos p];exact⟨rfl,_,A.sx,A.km,A.cc⟩
 ·refine tq 13 (.bool ((m:Int) == 0)) (bF) (congrArg Value.bool (beq_eq_false_iff_ne.2 p)) (ae (aa (aG [(1,pg g),(2,iU m),(6,e),(13,bF)] (aW (aK (aa (ag (t 17 (pg g) (t 18 (e) (t 19 (iU m) (tc 20 93 #[iU m] (eZ) ?_)))))))))));rintro _ v11 ⟨k,rfl,o,B⟩;refine⟨_,rfl,?_⟩;replace A:=A.keep B;replace c:=c.keep B;replace i:=aA i B;refine tc 21 33 #[pg g,e,k] (qm A.sx i (jT a b) o (Nat.le_trans (fA _) (by decide)) (by omega) (by omega)) ?_
  rintro _ s ⟨rfl,u,S,l,j⟩;refine⟨_,rfl,?_⟩;obtain⟨c,f⟩:=au c f l j;replace i:=A.byu i j;replace o:=A.byu o j;replace A:=A.op S l j;clear i;clear o;refine ae (j7 (.tuple #[]) (rs0 (by kernel_rfl)) ?_);rw[show qc E a b m=_ from if_neg p];exact⟨rfl,_,A.sx,A.km,A.cc⟩
end
end Qu
end
section
namespace Qu
open Go.RowKit Go.Lib Pg Lim Gl Kv Bk Pw
attribute [local go_sem] Oper.semAt_some
set_option linter.unusedVariables false
set_option linter.unusedSimpArgs false
section
variable {w:World}{x0 x1 x2 x3 x4 x5 a b id:Int}{a6 a1 a2:Option Addr}{ρ:Operand->Value}{v:Value}{l:List Int}{B g n N:Nat}{K:Nat->Prop}{E:ay}{W:List ay}
def fU:Array Value:=#[.int .i64 12,.func (.func 95) #[] #[],.func (.func 96) #[] #[],.func (.func 97) #[] #[]]
def fUl:List Value:=[.int .i64 12,.func (.func 95) #[] #[],.func (.func 96) #[] #[],.func (.func 97) #[] #[]]
def fM:Array Value:=#[.int .i64 13,.func (.func 101) #[] #[],.func (.func 102) #[] #[],.func (.func 103) #[] #[]]
def fMl:List Value:=[.int .i64 13,.func (.func 101) #[] #[],.func (.func 102) #[] #[],.func (.func 103) #[] #[]]
def zz6:List Value:=[.int .u64 0,.int .u64 0,.int .u64 0,.int .u64 0,.int .u64 0,.int .u64 0]
def zz6A:Array Value:=#[.int .u64 0,.int .u64 0,.int .u64 0,.int .u64 0,.int .u64 0,.int .u64 0]
def zz7:List Value:=[.int .u64 0,.int .u64 0,.int .u64 0,.int .u64 0,.int .u64 0,.int .u64 0,.slice none 0 0]
def zz7A:Array Value:=#[.int .u64 0,.int .u64 0,.int .u64 0,.int .u64 0,.int .u64 0,.int .u64 0,.slice none 0 0]
theorem dU  : Calls Tryz.prog 40 #[] w fun e w'=>e=.returned (.agg fU)/\Below w.heap.size w w':=by
 have b:=Below.refl w.heap.size w;refine aC (n:=2) Tryz.func40 rfl ?_
 refine ab (ag (ta 0 [iI 0,.nilFunc,.nilFunc,.nilFunc] 105 (pg) ?_));intro v1 f a c B;replace b:=ai b B;refine ae (aa (ab (ag (t 1 (.agg fU) (ts a 0 (.agg fU) fUl fUl ?_)))));intro d Y C;replace b:=aS b C (by omega);have a:=Y;refine ae (aa (aF (aE (.agg fU) (rsc 0 (T:=105) (by kernel_rfl) (by kernel_rfl) (lr a 0)) ?_)));exact⟨rfl,b⟩
theorem ix  : Calls Tryz.prog 45 #[] w fun e w'=>e=.returned (.agg fM)/\Below w.heap.size w w':=by
 have b:=Below.refl w.heap.size w;refine aC (n:=2) Tryz.func45 rfl ?_
 refine ab (ag (ta 0 [iI 0,.nilFunc,.nilFunc,.nilFunc] 114 (pg) ?_));intro v1 f a c B;replace b:=ai b B;refine ae (aa (ab (ag (t 1 (.agg fM) (ts a 0 (.agg fM) fMl fMl ?_)))));intro d Y C;replace b:=aS b C (by omega);have a:=Y;refine ae (aa (aF (aE (.agg fM) (rsc 0 (T:=114) (by kernel_rfl) (by kernel_rfl) (lr a 0)) ?_)));exact⟨rfl,b⟩
theorem yP:Calls Tryz.prog 97 #[.agg #[.int .u64 x0,.int .u64 x1,.int .u64 x2,.int .u64 x3,.int .u64 x4,.int .u64 x5]] w fun e w'=>e=.returned (.agg #[.int .u64 x0,.int .u64 x1,.int .u64 x3])/\Below w.heap.size w w':=by
 have b:=Below.refl w.heap.size w;refine aC (n:=10) Tryz.func97 rfl ?_
 refine ab (ag (ta 1 [iU x0,iU x1,iU x2,iU x3,iU x4,iU x5] 42 (pg) ?_));intro v1 d a h B;replace b:=ai b B;have f:=a.lt;refine ta 2 [iU 0,iU 0,iU 0] 167 (pg) ?_
 intro j i c g B;replace b:=ai b B;replace a:=a.keep B;refine ae (aa (ab (ag (t 3 (pg d) (tl 4 (iU x0) a 0 (t 5 (pq d 1) (tl 6 (iU x1) a 1 (t 7 (pq d 3) (tl 8 (iU x3) a 3 (t 9 (.agg #[iU x0,iU x1,iU x3]) (ts c 0 (.agg #[iU x0,iU x1,iU x3]) [iU x0,iU x1,iU x3] [iU x0,iU x1,iU x3] ?_)))))))))));intro k Y C;replace b:=aS b C (by omega);replace a:=a.chg C (show d≠i by omega);have c:=Y;refine ae (aa (aF (aE (.agg #[iU x0,iU x1,iU x3]) (rsc 2 (T:=167) (by kernel_rfl) (by kernel_rfl) (lr c 0)) ?_)));exact⟨rfl,b⟩
theorem yL{g h:Nat}:Calls Tryz.prog 103 #[.agg #[.int .u64 x0,.int .u64 x1,.int .u64 x2,.int .u64 x3,.int .u64 x4,.int .u64 x5,.slice a6 g h]] w fun e w'=>e=.returned (.agg #[.int .u64 x0,.int .u64 x1,.int .u64 x4])/\Below w.heap.size w w':=by
 have b:=Below.refl w.heap.size w;refine aC (n:=10) Tryz.func103 rfl ?_
 refine ab (ag (ta 1 [iU x0,iU x1,iU x2,iU x3,iU x4,iU x5,.slice a6 g h] 48 (pg) ?_));intro v1 d a j B;replace b:=ai b B;have f:=a.lt;refine ta 2 [iU 0,iU 0,iU 0] 167 (pg) ?_
 intro l k c i B;replace b:=ai b B;replace a:=a.keep B;refine ae (aa (ab (ag (t 3 (pg d) (tl 4 (iU x0) a 0 (t 5 (pq d 1) (tl 6 (iU x1) a 1 (t 7 (pq d 4) (tl 8 (iU x4) a 4 (t 9 (.agg #[iU x0,iU x1,iU x4]) (ts c 0 (.agg #[iU x0,iU x1,iU x4]) [iU x0,iU x1,iU x4] [iU x0,iU x1,iU x4] ?_)))))))))));intro m Y C;replace b:=aS b C (by omega);replace a:=a.chg C (show d≠k by omega);have c:=Y;refine ae (aa (aF (aE (.agg #[iU x0,iU x1,iU x4]) (rsc 2 (T:=167) (by kernel_rfl) (by kernel_rfl) (lr c 0)) ?_)));exact⟨rfl,b⟩
theorem Fc{k:Int}(f:0<=a/\a < 18446744073709551616)(d:Ky.mkE k a b=false):Calls Tryz.prog 64 #[.int .i64 k,.int .u64 a,.int .u64 b] w fun e w'=>∃ ao m c,e=.returned (.slice ao m c)/\ByU w' (.slice ao m c) (Ky.mk k a b)/\Below w.heap.size w w':=by
 refine(ow f d).mono ?_
 rintro e w' ⟨v,rfl,U,B⟩;obtain⟨_,ao,c,rfl,_⟩:=bya U.byt;exact⟨_,_,_,rfl,U,B⟩
theorem Eb{o:Oper}{m1 c1 m2 c2:Nat}(b:∃ u v,o.op=.build 168 #[(0,u),(1,v)]/\ρ u=.slice a1 m1 c1/\ρ v=.slice a2 m2 c2:=by exact⟨_,_,rfl,by kernel_rfl,by kernel_rfl⟩):(execOp ρ o).run Tryz.prog w=.ok (.value (.agg #[.slice a1 m1 c1,.slice a2 m2 c2])) w:=by
 obtain⟨u,v,h,d,c⟩:=b;simp only[execOp,h,d,c];go_simp
theorem ig{d:Int}(hb:0<=b/\b < 18446744073709551616)(u:0<=d/\d < 18446744073709551616):Calls Tryz.prog 92 #[.agg #[.int .u64 a,.int .u64 b,.int .u64 d],.int .u64 id] w fun e w'=>∃ a1 m1 c1 a2 m2 c2,e=.returned (.agg #[.slice a1 m1 c1,.slice a2 m2 c2])/\ByU w' (.slice a1 m1 c1) (Ky.mk 14 d id)/\ByU w' (.slice a2 m2 c2) (Ky.mk 15 b id)/\Below w.heap.size w w':=by
 have g:=Below.refl w.heap.size w;refine aC (n:=14) Tryz.func92 rfl ?_
 refine ab (ag (ta 2 [iU a,iU b,iU d] 167 (pg) ?_));intro v1 q c x B;replace g:=ai g B;have t:=c.lt;refine ta 4 [.slice none 0 0,.slice none 0 0] 168 (pg) ?_
 intro A s f v B;replace g:=ai g B;replace c:=c.keep B;refine ae (aa (ab ?_));replace g:=g.drew;replace c:=c.drew;replace f:=f.drew;refine bI (fun w'=>Blk w' q [iU a,iU b,iU d] 167) (fun _=>false) c ?_
 refine z 0 5 (pq q 2) (zl 1 6 (iU d) (fun _ h=>h) 2 (z 2 7 (iU id) (z 4 9 (pq q 1) (zl 5 10 (iU b) (fun _ h=>h) 1 (z 6 11 (iU id) (zc 3 8 64 #[iI 14,iU d,iU id] (Fc u (kZ d id)) ?_))))));rintro _ y ⟨j,m,i,rfl,p,B⟩;replace g:=ai g B;replace c:=c.keep B;replace f:=f.keep B;refine⟨_,rfl,c,?_⟩;refine zc 7 12 64 #[iI 15,iU b,iU id] (Fc hb (ly b id)) ?_
 rintro _ v10 ⟨o,k,l,rfl,r,B⟩;replace g:=ai g B;replace c:=c.keep B;replace f:=f.keep B;replace p:=aA p B;refine⟨_,rfl,c,?_⟩;refine zr 8 13 (.agg #[.slice j m i,.slice o k l]) (fun _ _=>Eb) (zs 9 f 0 (.agg #[.slice j m i,.slice o k l]) [.slice j m i,.slice o k l] [.slice j m i,.slice o k l] ?_);intro v11 Y C;replace g:=aS g C (by omega);replace c:=c.chg C (show q≠s by omega);replace p:=bP p f C (by decide);replace r:=bP r f C (by decide);have f:=Y;refine⟨c,?_⟩;refine bB (aa (aG [(4,pg s)] (aF (aE (.agg #[.slice j m i,.slice o k l]) (rsc 4 (T:=168) (by kernel_rfl) (by kernel_rfl) (lr f 0)) ?_))));exact⟨_,_,_,_,_,_,rfl,p,r,g⟩
def uv(x0 x1 x2 x3 x4 x5:Int):List Int:=Rc.thr (Rc.pnx (fun o=>([x0,x1,x2,x3,x4,x5]:List Int).getD o 0)) [(0,0),(0,1),(0,2),(0,3),(0,4),(0,5)] []
theorem qf(x0 x1 x2 x3 x4 x5:Int):(uv x0 x1 x2 x3 x4 x5).length<=1800:=by have:=Rc.fk (fun o=>([x0,x1,x2,x3,x4,x5]:List Int).getD o 0) [(0,0),(0,1),(0,2),(0,3),(0,4),(0,5)] [];simpa[uv] using this
theorem Bm(x0 x1 x2 x3 x4 x5:Int):Oct (uv x0 x1 x2 x3 x4 x5):=Rc.l3 _ _ _ (fun _ h=>by simp at h)
theorem ou:Calls Tryz.prog 95 #[.agg #[.int .u64 x0,.int .u64 x1,.int .u64 x2,.int .u64 x3,.int .u64 x4,.int .u64 x5]] w fun e w'=>∃ v,e=.returned v/\ByU w' v (uv x0 x1 x2 x3 x4 x5)/\Below w.heap.size w w':=by
 refine Rc.ki.mono ?_
 rintro e w' ⟨b,n,rfl,hn,X,hb,B⟩;exact⟨_,rfl,lQ X (Bm _ _ _ _ _ _) hn (Nat.le_trans (qf ..) (by decide)),B⟩
def uX(l:List Int)(i:Nat):Int:=Rc.aT (Rc.aI l) i
def uA(l:List Int):Array Value:=#[.int .u64 (uX l 0),.int .u64 (uX l 1),.int .u64 (uX l 2),.int .u64 (uX l 3),.int .u64 (uX l 4),.int .u64 (uX l 5)]
def uL(l:List Int):List Value:=[.int .u64 (uX l 0),.int .u64 (uX l 1),.int .u64 (uX l 2),.int .u64 (uX l 3),.int .u64 (uX l 4),.int .u64 (uX l 5)]
theorem py(h:ByU w v l)(d:l.length<=1000000000):Calls Tryz.prog 96 #[v] w fun e w'=>e=.returned (.tuple #[.agg (uA l),.int .i64 (Rc.aV (Rc.aI l))])/\Below w.heap.size w w':=by
 obtain⟨b,f,c,rfl,a⟩:=bya h.byt;exact Rc.uH a d
theorem layU(h:Sx B w K g E W n N)(k:0<=id/\id < 18446744073709551616)(hn:n+5<=4000000000000000000)(D:N+5<=100000000):Calls Tryz.prog 91 #[pg g,.agg fU,.int .u64 id,.agg #[.int .u64 x0,.int .u64 x1,.int .u64 x2,.int .u64 x3,.int .u64 x4,.int .u64 x5]] w (SxE B w K g (put E (Ky.mk 12 id 0) (uv x0 x1 x2 x3 x4 x5)) W (n+1) (N+2) (.tuple #[])):=by
 have A:=h.at
 refine aC (n:=18) Tryz.func91 rfl ?_
 refine ab (ag (ta 5 fUl 105 (pg) ?_));intro v1 m a q B;obtain⟨v,d,A⟩:=A.al q B;refine ta 7 [iU x0,iU x1,iU x2,iU x3,iU x4,iU x5] 42 (pg) ?_
 intro C t b l B;obtain⟨x,c,A⟩:=A.al l B;replace a:=a.keep B;refine ae (aa ?_);replace A:=A.drew;replace a:=a.drew;replace b:=b.drew;refine bI (fun r=>Blk r m fUl 105/\Blk r t [iU x0,iU x1,iU x2,iU x3,iU x4,iU x5] 42) (fun _=>false) ⟨a,b⟩ ?_
 refine z 0 8 (pg g) (z 1 9 (pg m) (zl 2 10 (iI 12) (fun _ h=>h.1) 0 (z 3 11 (iU id) (z 5 13 (pq m 1) (zl 6 14 (.func (.func 95) #[] #[]) (fun _ h=>h.1) 1 (zlr 7 15 [iU x0,iU x1,iU x2,iU x3,iU x4,iU x5] (fun _ h=>h.2) 0 (zc 4 12 64 #[iI 12,iU id,iU 0] (ow k (gR id)) ?_)))))));rintro _ y ⟨o,rfl,e,B⟩;replace A:=A.keep B;replace a:=a.keep B;replace b:=b.keep B;refine⟨_,rfl,⟨a,b⟩,?_⟩;refine zc 8 16 95 #[.agg #[iU x0,iU x1,iU x2,iU x3,iU x4,iU x5]] (ou) ?_
 rintro _ v10 ⟨j,rfl,i,B⟩;replace A:=A.keep B;replace a:=a.keep B;replace b:=b.keep B;replace e:=aA e B;refine⟨_,rfl,⟨a,b⟩,?_⟩;refine zc 9 17 33 #[pg g,o,j] (qm A.sx e (gR id) i (Nat.le_trans (qf ..) (by decide)) (by omega) (by omega)) ?_
 rintro _ u ⟨rfl,s,S,p,f⟩;obtain⟨a,d⟩:=au a d p f;obtain⟨b,c⟩:=au b c p f;replace e:=A.byu e f;replace i:=A.byu i f;replace A:=A.op S p f;clear e;clear i;refine⟨_,rfl,⟨a,b⟩,?_⟩;refine bB (j7 (.tuple #[]) (rs0 (by kernel_rfl)) ?_);exact⟨rfl,_,A.sx,A.km,A.cc⟩
theorem E4(h:Sx B w K g E W n N)(u:0<=id/\id < 18446744073709551616)(hn:n+5<=4000000000000000000)(M:N+5<=100000000):Calls Tryz.prog 66 #[pg g,.agg fU,.int .u64 id] w (SxE B w K g E W (n+1) N (.tuple #[.agg (uA (got E (Ky.mk 12 id 0))),.bool (Kv.look E (Ky.mk 12 id 0)).isSome])):=by
 have A:=h.at
 refine aC (n:=30) Tryz.func66 rfl ?_
 refine ab (ag (ta 4 fUl 105 (pg) ?_));intro v1 m a y B;obtain⟨I,p,A⟩:=A.al y B;have o:=a.lt;refine ta 6 zz6 42 (pg) ?_
 intro L l b v B;obtain⟨z,f,A⟩:=A.al v B;replace a:=a.keep B;refine t 7 (bF) (ae (aa (ab (ag (t 13 (pg g) (t 14 (pg m) (tl 15 (iI 12) a 0 (t 16 (iU id) (tc 17 64 #[iI 12,iU id,iU 0] (ow u (gR id)) ?_)))))))));rintro _ J ⟨x,rfl,e,B⟩;refine⟨_,rfl,?_⟩;replace A:=A.keep B;replace a:=a.keep B;replace b:=b.keep B;refine tc 18 63 #[pg g,x] (DS A.sx e (by omega) (by omega)) ?_
 rintro _ v10 ⟨d,rfl,r,S,s⟩;refine⟨_,rfl,?_⟩;replace a:=a.chg s p;replace b:=b.chg s f;replace e:=A.byu e s;replace A:=A.op S (fun _ h=>.inl h) s;refine t 12 (.tuple #[d,.bool (Kv.look E (Ky.mk 12 id 0)).isSome]) (t 19 (d) (t 20 (.bool (Kv.look E (Ky.mk 12 id 0)).isSome) (t 8 (d) (t 9 (.bool (Kv.look E (Ky.mk 12 id 0)).isSome) (ae (aa (aG [(4,pg m),(6,pg l),(7,bF),(8,d),(9,.bool (Kv.look E (Ky.mk 12 id 0)).isSome)] (ab (ag (t 22 (pq m 2) (tl 23 (.func (.func 96) #[] #[]) a 2 (t 24 (d) (tc 25 96 #[d] (py r (Sx.qO A.sx _)) ?_)))))))))))));rintro _ v11 ⟨rfl,B⟩;refine⟨_,rfl,?_⟩;replace A:=A.keep B;replace a:=a.keep B;replace b:=b.keep B;replace e:=aA e B;replace r:=aA r B;clear r;refine t 21 (.tuple #[.agg (uA (got E (Ky.mk 12 id 0))),iI (Rc.aV (Rc.aI (got E (Ky.mk 12 id 0))))]) (t 26 (.agg (uA (got E (Ky.mk 12 id 0)))) (t 27 (iI (Rc.aV (Rc.aI (got E (Ky.mk 12 id 0))))) ?_));have o:=a.lt;have D:=b.lt;refine ta 10 zz6 42 (pg) ?_
 intro H j c q B;obtain⟨k,i,A⟩:=A.al q B;replace a:=a.keep B;replace b:=b.keep B;replace e:=aA e B;refine ts c 0 (.agg (uA (got E (Ky.mk 12 id 0)))) (uL (got E (Ky.mk 12 id 0))) (uL (got E (Ky.mk 12 id 0))) ?_
 intro G Y C;replace A:=Bk.At.cell A c C k i (by decide);replace a:=a.chg C (show m≠j by omega);replace b:=b.chg C (show l≠j by omega);replace e:=bP e c C (by decide);have c:=Y;refine t 11 (iI (Rc.aV (Rc.aI (got E (Ky.mk 12 id 0))))) (ae (aa (ab (ag (tlr 28 (uL (got E (Ky.mk 12 id 0))) c 0 (t 29 (.bool (Kv.look E (Ky.mk 12 id 0)).isSome) (ts b 0 (.agg (uA (got E (Ky.mk 12 id 0)))) (uL (got E (Ky.mk 12 id 0))) (uL (got E (Ky.mk 12 id 0))) ?_)))))));intro F Y C;replace A:=Bk.At.cell A b C z f (by decide);replace a:=a.chg C (show m≠l by omega);replace e:=bP e b C (by decide);replace c:=c.chg C (show j≠l by omega);have b:=Y;refine t 7 (.bool (Kv.look E (Ky.mk 12 id 0)).isSome) (ae (aa (aG [(6,pg l),(7,.bool (Kv.look E (Ky.mk 12 id 0)).isSome)] (aF (aE (.tuple #[.agg (uA (got E (Ky.mk 12 id 0))),.bool (Kv.look E (Ky.mk 12 id 0)).isSome]) (iQ 6 7 (T:=42) (by kernel_rfl) (by kernel_rfl) (by kernel_rfl) (lr b 0)) ?_)))));exact⟨rfl,_,A.sx,A.km,A.cc⟩
end
end Qu
end
section
namespace Bk
open Go.RowKit Go.Lib Pg Lim Gl Kv
attribute [local go_sem] Oper.semAt_some
set_option linter.unusedSimpArgs false
set_option linter.unusedVariables false
section
variable {l:List Int}{w:World}{K D:Nat->Prop}{g n N:Nat}{E:ay}{W:List ay}
theorem qx{err:Int}(b:aZ l):0<=rdV 0 (bN 8 l) err/\rdV 0 (bN 8 l) err < 18446744073709551616:=by
 unfold rdV bN;split
 ·split
  ·exact⟨Int.le_refl _,by decide⟩
  ·rename_i a;split at a
   ·cases a;have:=bG (l:=l.take 8) (fun x hx=>b x (List.mem_of_mem_take hx));rw[List.length_take,Nat.min_eq_left (by assumption)] at this;exact this
   ·cases a
 ·exact⟨Int.le_refl _,by decide⟩
theorem xy(a:Oct l):(0<=rM l/\rM l < 18446744073709551616)/\(0<=zK l/\zK l < 18446744073709551616):=by
 have b:aZ (rdL (bN 8 l) 0 l):=by
  unfold rdL;split
  ·split
   ·exact a
   ·exact fun x hx=>a x (List.mem_of_mem_drop hx)
  ·exact a
 have e:Rc.im l=Rc.rnx 0 1 (Rc.rnx 0 0 (0,l,fun _=>0)):=rfl;unfold rM zK Rc.aT;rw[e];split
 ·exact⟨qx (err:=0) a,qx b⟩
 ·exact⟨⟨Int.le_refl _,by decide⟩,Int.le_refl _,by decide⟩
theorem SA.octv(h:SA w K D g E W n N):∀ x∈E,Oct x.2:=by
 obtain⟨F,V,m,Q,f,T,j,b,rfl,i⟩:=h.open;obtain⟨L,rfl,A,O,S,k,r⟩:=b.map.ex;intro x hx;rw[dn] at hx;obtain⟨e,he,rfl⟩:=List.mem_map.1 hx;obtain⟨es,c,a⟩:=List.mem_flatten.1 he;obtain⟨p,d,rfl⟩:=List.mem_map.1 c;exact((A.cp p d).1.bX e a).v.oct
theorem Sx.oct{B:Nat}(h:Sx B w K g E W n N)(k:List Int):Oct ((Kv.look E k).getD []):=by
 cases e:Kv.look E k with
 | none=>exact fun x hx=>by simp at hx
 | some v=>exact SA.octv h.sa _ (Kv.mj e)
end
end Bk
end
section
namespace Qu
open Go.RowKit Go.Lib Pg Lim Gl Kv Bk Pw
attribute [local go_sem] Oper.semAt_some
set_option linter.unusedVariables false
set_option linter.unusedSimpArgs false
section
variable {n m1 c1 m2 c2 B g N q:Nat}{w:World}{c:Code}{a1 a2:Option Addr}{ρ:Operand->Value}{o:Oper}{l:List Int}{K:Nat->Prop}{E:ay}{W:List ay}{x0 x1 x2 x3 x4 x5 id y:Int}
theorem pI{P:Program}{ds:List Deferred}{l:Fr}{Q:Exit->Act->World->Prop}(k:Nat)(h:GC P n ds c (Exit.then (Code.rounds P c Q k) Q) l w):GC P n ds (Code.loop c) Q l w:=⟨fun a r=>wp_loop_rounds (k+1) (h.out a r)⟩
theorem kP{P:Program}{ds:List Deferred}{l:Fr}{Q b:Exit->Act->World->Prop}{k:Nat}(h:GC P n ds c (Exit.then (Code.rounds P c Q k) Q) l w):GE n ds (Exit.then (Code.rounds P c Q (k+1)) b) .normal l w:=⟨fun a r=>h.out a r⟩
theorem CV:(Instr.index 168 (.agg #[.slice a1 m1 c1,.slice a2 m2 c2]) (.int .i64 0)).run Tryz.prog w=.ok (.slice a1 m1 c1) w:=by
 unfold Instr.index;go_simp
theorem Dw:(Instr.index 168 (.agg #[.slice a1 m1 c1,.slice a2 m2 c2]) (.int .i64 1)).run Tryz.prog w=.ok (.slice a2 m2 c2) w:=by
 unfold Instr.index;go_simp
theorem cS(X i v:Value)(f:(Instr.index 168 X i).run Tryz.prog w=.ok v w)(b:∃ u y,o.op=.index 168 u y/\ρ u=X/\ρ y=i:=by exact⟨_,_,rfl,by kernel_rfl,by kernel_rfl⟩):(execOp ρ o).run Tryz.prog w=.ok (.value v) w:=by
 obtain⟨u,y,h,d,c⟩:=b;simp only[execOp,h,d,c];go_simp
theorem j3(k:Int)(b:0<=k/\k < 18446744073709551616)(c:∃ u,o.op=.convert 3 22 u/\ρ u=.int .i64 k:=by exact⟨_,rfl,by kernel_rfl⟩):(execOp ρ o).run Tryz.prog w=.ok (.value (.int .u64 k)) w:=by
 obtain⟨u,h,d⟩:=c;simp only[execOp,h,d];go_simp;rw[IntKind.wrap_u64,Int.emod_eq_of_lt b.1 b.2]
theorem lN(ho:Oct l):0<=aJ l/\aJ l < 18446744073709551616:=(xy ho).2
def eS(E:ay)(k:Int)(r:List Int)(a b d:Int):ay :=
 let i:=aJ (chn E)
 let E1:=put (put (put (dD E) (Ky.mk k i 0) r) (Ky.mk 14 d i) (nv k)) (Ky.mk 15 b i) (nv k)
 qc E1 a b ((dq E1 a b+1) % 18446744073709551616)
theorem beginU(h:Sx B w K g E W n N)(G:0<=x0/\x0 < 18446744073709551616)(Q:0<=x1/\x1 < 18446744073709551616)(L:0<=x3/\x3 < 18446744073709551616)(hn:n+20<=4000000000000000000)(hN:N+20<=100000000):Calls Tryz.prog 39 #[pg g,.agg fU,.agg #[.int .u64 x0,.int .u64 x1,.int .u64 x2,.int .u64 x3,.int .u64 x4,.int .u64 x5]] w (SxE B w K g (eS E 12 (uv x0 x1 x2 x3 x4 x5) x0 x1 x3) W (n+7) (N+10) (.int .u64 (aJ (chn E)))):=by
 have M:0<=aJ (chn E)/\aJ (chn E) < 18446744073709551616:=lN (h.oct _);have A:=h.at
 refine aC (n:=47) Tryz.func39 rfl ?_
 refine ab (ag (ta 4 fUl 105 (pg) ?_));intro v1 v b P B;obtain⟨zg2,o,A⟩:=A.al P B;have J:=b.lt;refine ta 5 [iU x0,iU x1,iU x2,iU x3,iU x4,iU x5] 42 (pg) ?_
 intro v3 R c O B;obtain⟨zg4,m,A⟩:=A.al O B;replace b:=b.keep B;refine t 6 (iU 0) (ae (aa (ab (ag (t 11 (pg g) (tc 12 90 #[pg g] (fW A.sx (by omega) (by omega)) ?_))))));rintro _ v6 ⟨rfl,K5,S,q,p⟩;refine⟨_,rfl,?_⟩;obtain⟨b,o⟩:=au b o q p;obtain⟨c,m⟩:=au c m q p;replace A:=A.op S q p;refine t 7 (iU (aJ (chn E))) (ae (aa (ab (ag (t 13 (pg g) (tlr 14 fUl b 0 (t 15 (iU (aJ (chn E))) (tlr 16 [iU x0,iU x1,iU x2,iU x3,iU x4,iU x5] c 0 (tc 17 91 #[pg g,.agg fU,iU (aJ (chn E)),.agg #[iU x0,iU x1,iU x2,iU x3,iU x4,iU x5]] (layU A.sx M (by omega) (by omega)) ?_)))))))));rintro _ v8 ⟨rfl,K7,S,q,p⟩;refine⟨_,rfl,?_⟩;obtain⟨b,o⟩:=au b o q p;obtain⟨c,m⟩:=au c m q p;replace A:=A.op S q p;refine ae (aa (aG [(0,pg g),(4,pg v),(5,pg R),(6,iU 0),(7,iU (aJ (chn E)))] (ab (ag (t 18 (pq v 3) (tl 19 (.func (.func 97) #[] #[]) b 3 (tlr 20 [iU x0,iU x1,iU x2,iU x3,iU x4,iU x5] c 0 (tc 21 97 #[.agg #[iU x0,iU x1,iU x2,iU x3,iU x4,iU x5]] (yP) ?_))))))));rintro _ v9 ⟨rfl,B⟩;refine⟨_,rfl,?_⟩;replace A:=A.keep B;replace b:=b.keep B;replace c:=c.keep B;have J:=b.lt;have T:=c.lt;refine ta 8 [iU 0,iU 0,iU 0] 167 (pg) ?_
 intro v10 s a H B;obtain⟨I,l,A⟩:=A.al H B;replace b:=b.keep B;replace c:=c.keep B;refine ts a 0 (.agg #[iU x0,iU x1,iU x3]) [iU x0,iU x1,iU x3] [iU x0,iU x1,iU x3] ?_
 intro v12 Y C;replace A:=Bk.At.cell A a C I l (by decide);replace b:=b.chg C (show v≠s by omega);replace c:=c.chg C (show R≠s by omega);have a:=Y;refine ae (aa (ab (ab (ag (tlr 22 [iU x0,iU x1,iU x3] a 0 (t 23 (iU (aJ (chn E))) (tc 24 92 #[.agg #[iU x0,iU x1,iU x3],iU (aJ (chn E))] (ig Q L) ?_)))))));rintro _ X ⟨d,e,f,i,j,k,rfl,u,r,B⟩;refine⟨_,rfl,?_⟩;replace A:=A.keep B;replace b:=b.keep B;replace c:=c.keep B;replace a:=a.keep B;refine t 25 (iI 0) (ae (aa (bj (pI 2 ?_))));refine ab (ag (t 26 (bT) (ae (aa (ab (aP (aK (aa (ab (bj (ab (ag (tr 27 (.slice d e f) (cS (.agg #[.slice d e f,.slice i j k]) (iI 0) (.slice d e f) CV) (t 10 (.slice d e f) (ae (aa (aG [(0,pg g),(4,pg v),(6,iU 0),(7,iU (aJ (chn E))),(8,pg s),(10,.slice d e f),(24,.agg #[.slice d e f,.slice i j k]),(25,iI 0),(26,bT),(27,.slice d e f)] (ag (t 28 (pg g) (t 29 (.slice d e f) (t 30 (pg v) (tl 31 (iI 12) b 0 (tr 32 (iU 12) (j3 12 ⟨by decide,by decide⟩) (tc 33 93 #[iU 12] (eZ) ?_))))))))))))))))))))))));rintro _ Z ⟨F,rfl,y,B⟩;refine⟨_,rfl,?_⟩;replace A:=A.keep B;replace b:=b.keep B;replace c:=c.keep B;replace a:=a.keep B;replace u:=aA u B;replace r:=aA r B;refine tc 34 33 #[pg g,.slice d e f,F] (qm A.sx u (kZ x3 (aJ (chn E))) y (Nat.le_trans (fA _) (by decide)) (by omega) (by omega)) ?_
 rintro _ U ⟨rfl,af,S,q,p⟩;refine⟨_,rfl,?_⟩;obtain⟨b,o⟩:=au b o q p;obtain⟨c,m⟩:=au c m q p;obtain⟨a,l⟩:=au a l q p;replace u:=A.byu u p;replace r:=A.byu r p;replace y:=A.byu y p;replace A:=A.op S q p;clear u;clear y;refine ae (dk (aa (ag (t 35 (iI 1) (t 25 (iI 1) (ae (kP ?_)))))));refine aG [(0,pg g),(4,pg v),(6,iU 0),(7,iU (aJ (chn E))),(8,pg s),(10,.slice d e f),(24,.agg #[.slice d e f,.slice i j k]),(25,iI 1),(26,bT),(27,.slice d e f),(28,pg g),(29,.slice d e f),(30,pg v),(31,iI 12),(32,iU 12),(33,F),(35,iI 1)] (ab (ag (t 26 (bT) (ae (aa (ab (aP (aK (aa (ab (bj (ab (ag (tr 27 (.slice i j k) (cS (.agg #[.slice d e f,.slice i j k]) (iI 1) (.slice i j k) Dw) (t 10 (.slice i j k) (ae (aa (ag (t 28 (pg g) (t 29 (.slice i j k) (t 30 (pg v) (tl 31 (iI 12) b 0 (tr 32 (iU 12) (j3 12 ⟨by decide,by decide⟩) (tc 33 93 #[iU 12] (eZ) ?_))))))))))))))))))))))));rintro _ V ⟨D,rfl,x,B⟩;refine⟨_,rfl,?_⟩;replace A:=A.keep B;replace b:=b.keep B;replace c:=c.keep B;replace a:=a.keep B;replace r:=aA r B;refine tc 34 33 #[pg g,.slice i j k,D] (qm A.sx r (ly x1 (aJ (chn E))) x (Nat.le_trans (fA _) (by decide)) (by omega) (by omega)) ?_
 rintro _ ai ⟨rfl,ac,S,q,p⟩;refine⟨_,rfl,?_⟩;obtain⟨b,o⟩:=au b o q p;obtain⟨c,m⟩:=au c m q p;obtain⟨a,l⟩:=au a l q p;replace r:=A.byu r p;replace x:=A.byu x p;replace A:=A.op S q p;clear r;clear x;refine ae (dk (aa (ag (t 35 (iI 2) (t 25 (iI 2) (ae (kP ?_)))))));refine aG [(0,pg g),(4,pg v),(6,iU 0),(7,iU (aJ (chn E))),(8,pg s),(10,.slice i j k),(24,.agg #[.slice d e f,.slice i j k]),(25,iI 2),(26,bT),(27,.slice i j k),(28,pg g),(29,.slice i j k),(30,pg v),(31,iI 12),(32,iU 12),(33,D),(35,iI 2)] (ab (ag (t 26 (bF) (ae (aa (ab (aW (dM (dC (dC (gy (aa (ab ?_)))))))))))));replace A:=A.drew;replace b:=b.drew;replace c:=c.drew;replace a:=a.drew;refine bI (fun w'=>Blk w' s [iU x0,iU x1,iU x3] 167) (fun _=>false) a ?_
 refine zlr 0 36 [iU x0,iU x1,iU x3] (fun _ h=>h) 0 (z 1 37 (pg g) (z 2 38 (pg g) (z 3 39 (pg s) (zl 4 40 (iU x0) (fun _ h=>h) 0 (z 5 41 (pq s 1) (zl 6 42 (iU x1) (fun _ h=>h) 1 (zc 7 43 24 #[pg g,iU x0,iU x1] (ek A.sx G (by omega) (by omega)) ?_)))))));rintro _ v28 ⟨rfl,ad,S,q,p⟩;obtain⟨b,o⟩:=au b o q p;obtain⟨c,m⟩:=au c m q p;obtain⟨a,l⟩:=au a l q p;replace A:=A.op S q p;refine⟨_,rfl,a,?_⟩;refine zq 8 44 (iU (IntKind.u64.wrap (dq (put (put (put (dD E) (Ky.mk 12 (aJ (chn E)) 0) (uv x0 x1 x2 x3 x4 x5)) (Ky.mk 14 x3 (aJ (chn E))) (nv 12)) (Ky.mk 15 x1 (aJ (chn E))) (nv 12)) x0 x1+1))) (iU ((dq (put (put (put (dD E) (Ky.mk 12 (aJ (chn E)) 0) (uv x0 x1 x2 x3 x4 x5)) (Ky.mk 14 x3 (aJ (chn E))) (nv 12)) (Ky.mk 15 x1 (aJ (chn E))) (nv 12)) x0 x1+1) % 18446744073709551616)) (congrArg (Value.int .u64) (IntKind.wrap_u64 _)) (zc 9 45 94 #[.agg #[iU x0,iU x1,iU x3],pg g,iU ((dq (put (put (put (dD E) (Ky.mk 12 (aJ (chn E)) 0) (uv x0 x1 x2 x3 x4 x5)) (Ky.mk 14 x3 (aJ (chn E))) (nv 12)) (Ky.mk 15 x1 (aJ (chn E))) (nv 12)) x0 x1+1) % 18446744073709551616)] (count_set A.sx G (by omega) (by omega)) ?_);rintro _ v30 ⟨rfl,ah,S,q,p⟩;obtain⟨b,o⟩:=au b o q p;obtain⟨c,m⟩:=au c m q p;obtain⟨a,l⟩:=au a l q p;replace A:=A.op S q p;refine⟨_,rfl,a,?_⟩;refine bB (aa (ab (ag (t 46 (iU (aJ (chn E))) (t 6 (iU (aJ (chn E))) (ae (aa (aG [(6,iU (aJ (chn E)))] (aF (aE (iU (aJ (chn E))) (rs1 6 (by kernel_rfl) (by kernel_rfl)) ?_))))))))));exact⟨rfl,_,A.sx,A.km,A.cc⟩
theorem rr0{s:Rc.RSt}{o:Nat}(h:Oct s.2.1/\∀ i,i < 6->0<=s.2.2 i/\s.2.2 i < 18446744073709551616):Oct (Rc.rnx 0 o s).2.1/\∀ i,i < 6->0<=(Rc.rnx 0 o s).2.2 i/\(Rc.rnx 0 o s).2.2 i < 18446744073709551616:=by
 refine⟨?_,fun i hi=>?_⟩
 ·show Oct (rdL (bN 8 s.2.1) s.1 s.2.1)
  unfold rdL;split
  ·split
   ·exact h.1
   ·exact fun x hx=>h.1 x (List.mem_of_mem_drop hx)
  ·exact h.1
 ·show 0<=(if i=o then rdV 0 (bN 8 s.2.1) s.1 else s.2.2 i)/\(if i=o then rdV 0 (bN 8 s.2.1) s.1 else s.2.2 i) < 18446744073709551616
  split
  ·exact qx h.1
  ·exact h.2 i hi
theorem eM(a:Oct l)(i:Nat)(hi:i < 6:=by decide):0<=uX l i/\uX l i < 18446744073709551616:=by
 have h:=rr0 (o:=5) (rr0 (o:=4) (rr0 (o:=3) (rr0 (o:=2) (rr0 (o:=1) (rr0 (o:=0) (s:=(0,l,fun _=>0)) ⟨a,fun _ _=>⟨Int.le_refl _,(by decide:(0:Int) < 18446744073709551616)⟩⟩)))))
 have e:Rc.aI l=Rc.rnx 0 5 (Rc.rnx 0 4 (Rc.rnx 0 3 (Rc.rnx 0 2 (Rc.rnx 0 1 (Rc.rnx 0 0 (0,l,fun _=>0)))))):=rfl;unfold uX Rc.aT;rw[e];split
 ·exact h.2 i hi
 ·exact⟨Int.le_refl _,(by decide:(0:Int) < 18446744073709551616)⟩
def sO(E:ay)(k id a b d:Int):ay :=
 let E1:=rem (rem (rem E (Ky.mk k id 0)) (Ky.mk 14 d id)) (Ky.mk 15 b id)
 qc E1 a b ((dq E1 a b - 1) % 18446744073709551616)
def mZ(E:ay)(id:Int):ay:=if (Kv.look E (Ky.mk 12 id 0)).isSome=true then sO E 12 id (uX (got E (Ky.mk 12 id 0)) 0) (uX (got E (Ky.mk 12 id 0)) 1) (uX (got E (Ky.mk 12 id 0)) 3) else E
def gV(E:ay)(id y:Int):ay:=if (Kv.look E (Ky.mk 12 id 0)).isSome=true then put E (Ky.mk 12 id 0) (uv (uX (got E (Ky.mk 12 id 0)) 0) (uX (got E (Ky.mk 12 id 0)) 1) (uX (got E (Ky.mk 12 id 0)) 2) (uX (got E (Ky.mk 12 id 0)) 3) (uX (got E (Ky.mk 12 id 0)) 4) y) else E
theorem pY{b:Bool}(h:Sx B w K g E W n N)(a:0<=id/\id < 18446744073709551616)(hn:n+5<=4000000000000000000)(c:N+5<=100000000)(hb:(Kv.look E (Ky.mk 12 id 0)).isSome=b):Calls Tryz.prog 66 #[pg g,.agg fU,.int .u64 id] w (SxE B w K g E W (n+1) N (.tuple #[.agg (uA (got E (Ky.mk 12 id 0))),.bool b])):=by
 subst hb;exact E4 h a hn c
theorem endU(h:Sx B w K g E W n N)(D:0<=id/\id < 18446744073709551616)(hn:n+20<=4000000000000000000)(hN:N+20<=100000000):Calls Tryz.prog 53 #[pg g,.agg fU,.int .u64 id] w (SxF B w K g (mZ E id) W n N (.bool (Kv.look E (Ky.mk 12 id 0)).isSome)):=by
 have A:=h.at
 refine aC (n:=51) Tryz.func53 rfl ?_
 refine ab (ag (ta 4 fUl 105 (pg) ?_));intro v1 F a U B;obtain⟨zg2,d,A⟩:=A.al U B;refine t 6 (bF) (ae (aa (ab (ag (t 13 (pg g) (tlr 14 fUl a 0 (t 15 (iU id) ?_)))))));by_cases G:(Kv.look E (Ky.mk 12 id 0)).isSome=true
 ·refine tc 16 66 #[pg g,.agg fU,iU id] (pY A.sx D (by omega) (by omega) G) ?_
  rintro _ v5 ⟨rfl,K4,S,q,p⟩;refine⟨_,rfl,?_⟩;obtain⟨a,d⟩:=au a d q p;replace A:=A.op S q p;refine t 12 (.tuple #[.agg (uA (got E (Ky.mk 12 id 0))),bT]) (t 17 (.agg (uA (got E (Ky.mk 12 id 0)))) (t 18 (bT) ?_));have x:=a.lt;refine ta 7 zz6 42 (pg) ?_
  intro v6 Q c T B;obtain⟨R,o,A⟩:=A.al T B;replace a:=a.keep B;refine ts c 0 (.agg (uA (got E (Ky.mk 12 id 0)))) (uL (got E (Ky.mk 12 id 0))) (uL (got E (Ky.mk 12 id 0))) ?_
  intro v8 Y C;replace A:=Bk.At.cell A c C R o (by decide);replace a:=a.chg C (show F≠Q by omega);have c:=Y;refine t 8 (bT) (ae (aa (aG [(0,pg g),(2,iU id),(4,pg F),(6,bF),(7,pg Q),(8,bT)] (ab (ab (ag (t 19 (bT) (t 20 (bF) (ae (aa (aW (aK (aa (ab (ag (t 21 (pg g) (t 22 (pg F) (tl 23 (iI 12) a 0 (t 24 (iU id) (tc 25 64 #[iI 12,iU id,iU 0] (ow D (gR id)) ?_))))))))))))))))))));rintro _ v11 ⟨H,rfl,P,B⟩;refine⟨_,rfl,?_⟩;replace A:=A.keep B;replace a:=a.keep B;replace c:=c.keep B;refine tc 26 107 #[pg g,H] (tm A.sx P (Nat.le_trans (Ky.cL _ _ _) (by decide)) (by omega) (by omega)) ?_
  rintro _ X ⟨rfl,ao,S,q,p⟩;refine⟨_,rfl,?_⟩;obtain⟨a,d⟩:=au a d q p;obtain⟨c,o⟩:=au c o q p;replace P:=A.byu P p;replace A:=A.op S q p;clear P;refine ae (aa (ab (ag (t 27 (pq F 3) (tl 28 (.func (.func 97) #[] #[]) a 3 (tlr 29 (uL (got E (Ky.mk 12 id 0))) c 0 (tc 30 97 #[.agg (uA (got E (Ky.mk 12 id 0)))] (yP) ?_)))))));rintro _ ap ⟨rfl,B⟩;refine⟨_,rfl,?_⟩;replace A:=A.keep B;replace a:=a.keep B;replace c:=c.keep B;have x:=a.lt;have V:=c.lt;refine ta 9 [iU 0,iU 0,iU 0] 167 (pg) ?_
  intro ac r b O B;obtain⟨J,e,A⟩:=A.al O B;replace a:=a.keep B;replace c:=c.keep B;refine ts b 0 (.agg #[iU (uX (got E (Ky.mk 12 id 0)) 0),iU (uX (got E (Ky.mk 12 id 0)) 1),iU (uX (got E (Ky.mk 12 id 0)) 3)]) [iU (uX (got E (Ky.mk 12 id 0)) 0),iU (uX (got E (Ky.mk 12 id 0)) 1),iU (uX (got E (Ky.mk 12 id 0)) 3)] [iU (uX (got E (Ky.mk 12 id 0)) 0),iU (uX (got E (Ky.mk 12 id 0)) 1),iU (uX (got E (Ky.mk 12 id 0)) 3)] ?_
  intro am Y C;replace A:=Bk.At.cell A b C J e (by decide);replace a:=a.chg C (show F≠r by omega);replace c:=c.chg C (show Q≠r by omega);have b:=Y;refine ae (aa (aG [(0,pg g),(2,iU id),(6,bF),(9,pg r)] (ab (ab (ag (tlr 31 [iU (uX (got E (Ky.mk 12 id 0)) 0),iU (uX (got E (Ky.mk 12 id 0)) 1),iU (uX (got E (Ky.mk 12 id 0)) 3)] b 0 (t 32 (iU id) (tc 33 92 #[.agg #[iU (uX (got E (Ky.mk 12 id 0)) 0),iU (uX (got E (Ky.mk 12 id 0)) 1),iU (uX (got E (Ky.mk 12 id 0)) 3)],iU id] (ig (eM (h.oct _) 1) (eM (h.oct _) 3)) ?_))))))));rintro _ Z ⟨f,i,l,k,j,m,rfl,v,s,B⟩;refine⟨_,rfl,?_⟩;replace A:=A.keep B;replace a:=a.keep B;replace c:=c.keep B;replace b:=b.keep B;refine t 34 (iI 0) (ae (aa (bj (pI 2 ?_))));refine ab (ag (t 35 (bT) (ae (aa (ab (aP (aK (aa (ab (bj (ab (ag (tr 36 (.slice f i l) (cS (.agg #[.slice f i l,.slice k j m]) (iI 0) (.slice f i l) CV) (t 11 (.slice f i l) (ae (aa (ag (t 37 (pg g) (t 38 (.slice f i l) (tc 39 107 #[pg g,.slice f i l] (tm A.sx v (Nat.le_trans (Ky.cL _ _ _) (by decide)) (by omega) (by omega)) ?_))))))))))))))))))));rintro _ v23 ⟨rfl,aq,S,q,p⟩;refine⟨_,rfl,?_⟩;obtain⟨a,d⟩:=au a d q p;obtain⟨c,o⟩:=au c o q p;obtain⟨b,e⟩:=au b e q p;replace v:=A.byu v p;replace s:=A.byu s p;replace A:=A.op S q p;clear v;refine ae (dk (aa (ag (t 40 (iI 1) (t 34 (iI 1) (ae (kP ?_)))))));refine aG [(0,pg g),(6,bF),(9,pg r),(11,.slice f i l),(33,.agg #[.slice f i l,.slice k j m]),(34,iI 1),(35,bT),(36,.slice f i l),(37,pg g),(38,.slice f i l),(40,iI 1)] (ab (ag (t 35 (bT) (ae (aa (ab (aP (aK (aa (ab (bj (ab (ag (tr 36 (.slice k j m) (cS (.agg #[.slice f i l,.slice k j m]) (iI 1) (.slice k j m) Dw) (t 11 (.slice k j m) (ae (aa (ag (t 37 (pg g) (t 38 (.slice k j m) (tc 39 107 #[pg g,.slice k j m] (tm A.sx s (Nat.le_trans (Ky.cL _ _ _) (by decide)) (by omega) (by omega)) ?_)))))))))))))))))))));rintro _ v25 ⟨rfl,af,S,q,p⟩;refine⟨_,rfl,?_⟩;obtain⟨a,d⟩:=au a d q p;obtain⟨c,o⟩:=au c o q p;obtain⟨b,e⟩:=au b e q p;replace s:=A.byu s p;replace A:=A.op S q p;clear s;refine ae (dk (aa (ag (t 40 (iI 2) (t 34 (iI 2) (ae (kP ?_)))))));refine aG [(0,pg g),(6,bF),(9,pg r),(11,.slice k j m),(33,.agg #[.slice f i l,.slice k j m]),(34,iI 2),(35,bT),(36,.slice k j m),(37,pg g),(38,.slice k j m),(40,iI 2)] (ab (ag (t 35 (bF) (ae (aa (ab (aW (dM (dC (dC (gy (aa (ab ?_)))))))))))));replace A:=A.drew;replace a:=a.drew;replace c:=c.drew;replace b:=b.drew;refine bI (fun w'=>Blk w' r [iU (uX (got E (Ky.mk 12 id 0)) 0),iU (uX (got E (Ky.mk 12 id 0)) 1),iU (uX (got E (Ky.mk 12 id 0)) 3)] 167) (fun _=>false) b ?_
  refine zlr 0 41 [iU (uX (got E (Ky.mk 12 id 0)) 0),iU (uX (got E (Ky.mk 12 id 0)) 1),iU (uX (got E (Ky.mk 12 id 0)) 3)] (fun _ h=>h) 0 (z 1 42 (pg g) (z 2 43 (pg g) (z 3 44 (pg r) (zl 4 45 (iU (uX (got E (Ky.mk 12 id 0)) 0)) (fun _ h=>h) 0 (z 5 46 (pq r 1) (zl 6 47 (iU (uX (got E (Ky.mk 12 id 0)) 1)) (fun _ h=>h) 1 (zc 7 48 24 #[pg g,iU (uX (got E (Ky.mk 12 id 0)) 0),iU (uX (got E (Ky.mk 12 id 0)) 1)] (ek A.sx (eM (h.oct _) 0) (by omega) (by omega)) ?_)))))));rintro _ aj ⟨rfl,ad,S,q,p⟩;obtain⟨a,d⟩:=au a d q p;obtain⟨c,o⟩:=au c o q p;obtain⟨b,e⟩:=au b e q p;replace A:=A.op S q p;refine⟨_,rfl,b,?_⟩;refine zq 8 49 (iU (IntKind.u64.wrap (dq (rem (rem (rem E (Ky.mk 12 id 0)) (Ky.mk 14 (uX (got E (Ky.mk 12 id 0)) 3) id)) (Ky.mk 15 (uX (got E (Ky.mk 12 id 0)) 1) id)) (uX (got E (Ky.mk 12 id 0)) 0) (uX (got E (Ky.mk 12 id 0)) 1) - 1))) (iU ((dq (rem (rem (rem E (Ky.mk 12 id 0)) (Ky.mk 14 (uX (got E (Ky.mk 12 id 0)) 3) id)) (Ky.mk 15 (uX (got E (Ky.mk 12 id 0)) 1) id)) (uX (got E (Ky.mk 12 id 0)) 0) (uX (got E (Ky.mk 12 id 0)) 1) - 1) % 18446744073709551616)) (congrArg (Value.int .u64) (IntKind.wrap_u64 _)) (zc 9 50 94 #[.agg #[iU (uX (got E (Ky.mk 12 id 0)) 0),iU (uX (got E (Ky.mk 12 id 0)) 1),iU (uX (got E (Ky.mk 12 id 0)) 3)],pg g,iU ((dq (rem (rem (rem E (Ky.mk 12 id 0)) (Ky.mk 14 (uX (got E (Ky.mk 12 id 0)) 3) id)) (Ky.mk 15 (uX (got E (Ky.mk 12 id 0)) 1) id)) (uX (got E (Ky.mk 12 id 0)) 0) (uX (got E (Ky.mk 12 id 0)) 1) - 1) % 18446744073709551616)] (count_set A.sx (eM (h.oct _) 0) (by omega) (by omega)) ?_);rintro _ ak ⟨rfl,K28,S,q,p⟩;obtain⟨a,d⟩:=au a d q p;obtain⟨c,o⟩:=au c o q p;obtain⟨b,e⟩:=au b e q p;replace A:=A.op S q p;refine⟨_,rfl,b,?_⟩;refine bB (aa (ab (ag (t 6 (bT) (ae (aa (aG [(6,bT)] (aF (aE (bT) (rs1 6 (by kernel_rfl) (by kernel_rfl)) ?_)))))))));rw[show mZ E id=_ from if_pos G,show (Kv.look E (Ky.mk 12 id 0)).isSome=true from G];exact⟨rfl,_,_,_,A.sx,by omega,by omega,A.km,A.cc⟩
 ·refine tc 16 66 #[pg g,.agg fU,iU id] (pY A.sx D (by omega) (by omega) (Bool.eq_false_iff.2 G)) ?_
  rintro _ an ⟨rfl,ah,S,q,p⟩;refine⟨_,rfl,?_⟩;obtain⟨a,d⟩:=au a d q p;replace A:=A.op S q p;refine t 12 (.tuple #[.agg (uA (got E (Ky.mk 12 id 0))),bF]) (t 17 (.agg (uA (got E (Ky.mk 12 id 0)))) (t 18 (bF) ?_));have x:=a.lt;refine ta 7 zz6 42 (pg) ?_
  intro v32 L u I B;obtain⟨M,y,A⟩:=A.al I B;replace a:=a.keep B;refine ts u 0 (.agg (uA (got E (Ky.mk 12 id 0)))) (uL (got E (Ky.mk 12 id 0))) (uL (got E (Ky.mk 12 id 0))) ?_
  intro ai Y C;replace A:=Bk.At.cell A u C M y (by decide);replace a:=a.chg C (show F≠L by omega);have u:=Y;refine t 8 (bF) (ae (aa (aG [(0,pg g),(2,iU id),(4,pg F),(6,bF),(7,pg L),(8,bF)] (ab (ab (ag (t 19 (bF) (t 20 (bT) (ae (aa (aP (ab (ag (t 6 (bF) (ae (aa (aF (dm (aE (bF) (rs1 6 (by kernel_rfl) (by kernel_rfl)) ?_)))))))))))))))))));rw[show mZ E id=_ from if_neg G,show (Kv.look E (Ky.mk 12 id 0)).isSome=false from Bool.eq_false_iff.2 G];exact⟨rfl,_,_,_,A.sx,by omega,by omega,A.km,A.cc⟩
theorem less1{r:Nat}(a:q≠r)(X:Blk w r [.int .u64 x0,.int .u64 x1,.int .u64 x2,.int .u64 x3,.int .u64 x4,.int .u64 x5] 42)(c:Blk w q [.int .u64 y] 22):Calls Tryz.prog 48 #[pg r,pg q] w fun e w'=>e=.returned (.tuple #[])/\Blk w' r [.int .u64 x0,.int .u64 x1,.int .u64 x2,.int .u64 x3,.int .u64 x4,.int .u64 y] 42/\Chg (· = r) w w':=by
 have b:Chg (·=r) w w:=Chg.refl _ _;refine aC (n:=7) Tryz.func48 rfl ?_
 refine ag (t 3 (pg r) (tl 4 (iU y) c 0 (t 5 (pg r) (t 6 (pq r 5) (ts X 5 (iU y) [iU y] [iU x0,iU x1,iU x2,iU x3,iU x4,iU y] ?_)))));intro v1 Y C;replace c:=c.chg C a;replace b:=b.trans C (fun _ _ h=>h);have X:=Y;refine ae (j7 (.tuple #[]) (rs0 (by kernel_rfl)) ?_);exact⟨rfl,X,b⟩
theorem CG(h:Sx B w K g E W n N)(r:0<=id/\id < 18446744073709551616)(b:Blk w q [.int .u64 y] 22)(f:¬ K q)(hn:n+20<=4000000000000000000)(U:N+20<=100000000):Calls Tryz.prog 47 #[pg g,.agg fU,.int .u64 id,.func (.func 48) #[] #[pg q]] w (SxF B w K g (gV E id y) W n N (.bool (Kv.look E (Ky.mk 12 id 0)).isSome)):=by
 have p:=b.lt;have A:=h.at
 refine aC (n:=27) Tryz.func47 rfl ?_
 refine ab (ag ?_);have p:=b.lt;refine ta 5 fUl 105 (pg) ?_
 intro v1 D a G B;have O:=Nat.le_trans A.size G;have d:=A.new G;replace b:=b.keep B;replace A:=A.keep B;refine t 8 (bF) (ae (aa (ab (ag (t 12 (pg g) (tlr 13 fUl a 0 (t 14 (iU id) ?_)))))));by_cases u:(Kv.look E (Ky.mk 12 id 0)).isSome=true
 ·refine tc 15 66 #[pg g,.agg fU,iU id] (pY A.sx r (by omega) (by omega) u) ?_
  rintro _ T ⟨rfl,Q,S,j,i⟩;refine⟨_,rfl,?_⟩;obtain⟨b,f⟩:=au b f j i;obtain⟨a,d⟩:=au a d j i;replace A:=A.op S j i;refine t 11 (.tuple #[.agg (uA (got E (Ky.mk 12 id 0))),bT]) (t 16 (.agg (uA (got E (Ky.mk 12 id 0)))) (t 17 (bT) ?_));have p:=b.lt;have F:=a.lt;refine ta 9 zz6 42 (pg) ?_
  intro v6 o c v B;have x:=Nat.le_trans A.size v;have e:=A.new v;replace b:=b.keep B;replace A:=A.keep B;replace a:=a.keep B;refine ts c 0 (.agg (uA (got E (Ky.mk 12 id 0)))) (uL (got E (Ky.mk 12 id 0))) (uL (got E (Ky.mk 12 id 0))) ?_
  intro R Y C;replace b:=b.chg C (show q≠o by omega);replace A:=Bk.At.cell A c C x e (by decide);replace a:=a.chg C (show D≠o by omega);have c:=Y;refine t 10 (bT) (ae (aa (aG [(0,pg g),(2,iU id),(3,.func (.func 48) #[] #[pg q]),(5,pg D),(8,bF),(9,pg o),(10,bT)] (ab (ab (ag (t 18 (bT) (ae (aa (aP (ab (ag (t 19 (.func (.func 48) #[] #[pg q]) (tc 20 48 #[pg o,pg q] (less1 (show q≠o by omega) c b) ?_))))))))))))));rintro _ P ⟨rfl,Z,C⟩;refine⟨_,rfl,?_⟩;replace b:=b.chg C (show q≠o by omega);replace A:=Bk.At.cell A c C x e (by decide);replace a:=a.chg C (show D≠o by omega);clear c;have c:=Z;clear Z;refine ae (aa (ag (t 21 (pg g) (tlr 22 fUl a 0 (t 23 (iU id) (tlr 24 [iU (uX (got E (Ky.mk 12 id 0)) 0),iU (uX (got E (Ky.mk 12 id 0)) 1),iU (uX (got E (Ky.mk 12 id 0)) 2),iU (uX (got E (Ky.mk 12 id 0)) 3),iU (uX (got E (Ky.mk 12 id 0)) 4),iU y] c 0 (tc 25 91 #[pg g,.agg fU,iU id,.agg #[iU (uX (got E (Ky.mk 12 id 0)) 0),iU (uX (got E (Ky.mk 12 id 0)) 1),iU (uX (got E (Ky.mk 12 id 0)) 2),iU (uX (got E (Ky.mk 12 id 0)) 3),iU (uX (got E (Ky.mk 12 id 0)) 4),iU y]] (layU A.sx r (by omega) (by omega)) ?_)))))));rintro _ v11 ⟨rfl,J,S,j,i⟩;refine⟨_,rfl,?_⟩;obtain⟨b,f⟩:=au b f j i;obtain⟨a,d⟩:=au a d j i;obtain⟨c,e⟩:=au c e j i;replace A:=A.op S j i;refine ae (aa (ab (ag (t 26 (bT) (t 8 (bT) (ae (aa (aF (aE (bT) (rs1 8 (by kernel_rfl) (by kernel_rfl)) ?_)))))))));rw[show gV E id y=_ from if_pos u,show (Kv.look E (Ky.mk 12 id 0)).isSome=true from u];exact⟨rfl,_,_,_,A.sx,by omega,by omega,A.km,A.cc⟩
 ·refine tc 15 66 #[pg g,.agg fU,iU id] (pY A.sx r (by omega) (by omega) (Bool.eq_false_iff.2 u)) ?_
  rintro _ H ⟨rfl,I,S,j,i⟩;refine⟨_,rfl,?_⟩;obtain⟨b,f⟩:=au b f j i;obtain⟨a,d⟩:=au a d j i;replace A:=A.op S j i;refine t 11 (.tuple #[.agg (uA (got E (Ky.mk 12 id 0))),bF]) (t 16 (.agg (uA (got E (Ky.mk 12 id 0)))) (t 17 (bF) ?_));have p:=b.lt;have F:=a.lt;refine ta 9 zz6 42 (pg) ?_
  intro M m k l B;have z:=Nat.le_trans A.size l;have s:=A.new l;replace b:=b.keep B;replace A:=A.keep B;replace a:=a.keep B;refine ts k 0 (.agg (uA (got E (Ky.mk 12 id 0)))) (uL (got E (Ky.mk 12 id 0))) (uL (got E (Ky.mk 12 id 0))) ?_
  intro L Y C;replace b:=b.chg C (show q≠m by omega);replace A:=Bk.At.cell A k C z s (by decide);replace a:=a.chg C (show D≠m by omega);have k:=Y;refine t 10 (bF) (ae (aa (aG [(0,pg g),(2,iU id),(3,.func (.func 48) #[] #[pg q]),(5,pg D),(8,bF),(9,pg m),(10,bF)] (ab (ab (ag (t 18 (bF) (ae (aa (aW (aK (aa (ab (ag (t 26 (bF) (t 8 (bF) (ae (aa (aF (aE (bF) (rs1 8 (by kernel_rfl) (by kernel_rfl)) ?_))))))))))))))))))));rw[show gV E id y=_ from if_neg u,show (Kv.look E (Ky.mk 12 id 0)).isSome=false from Bool.eq_false_iff.2 u];exact⟨rfl,_,_,_,A.sx,by omega,by omega,A.km,A.cc⟩
end
end Qu
end
section
namespace Qu
open Go.RowKit Go.Lib Pg Lim Gl Kv Bk Pw
attribute [local go_sem] Oper.semAt_some
set_option linter.unusedVariables false
set_option linter.unusedSimpArgs false
section
variable {B g n N:Nat}{w:World}{K:Nat->Prop}{E:ay}{W:List ay}{id:Int}
theorem m8{x0 x1 x2 x3 x4 x5:Int}(h:Sx B w K g E W n N)(c:0<=x0/\x0 < 18446744073709551616)(f:0<=x1/\x1 < 18446744073709551616)(d:0<=x3/\x3 < 18446744073709551616)(hn:n+30<=4000000000000000000)(r:N+30<=100000000):Calls Tryz.prog 11 #[pg g,.agg #[.int .u64 x0,.int .u64 x1,.int .u64 x2,.int .u64 x3,.int .u64 x4,.int .u64 x5]] w (SxE B w K g (eS E 12 (uv x0 x1 x2 x3 x4 x5) x0 x1 x3) W (n+7) (N+10) (.int .u64 (aJ (chn E)))):=by
 have A:=h.at
 refine aC (n:=9) Tryz.func11 rfl ?_
 refine ab (ag (ta 3 [iU x0,iU x1,iU x2,iU x3,iU x4,iU x5] 42 (pg) ?_));intro v1 l a e B;obtain⟨m,b,A⟩:=A.al e B;refine t 4 (iU 0) (ae (aa (ab ?_)));replace A:=A.drew;replace a:=a.drew;refine bI (fun k=>Blk k l [iU x0,iU x1,iU x2,iU x3,iU x4,iU x5] 42) (fun _=>false) a ?_
 refine z 0 5 (pg g) (zlr 2 7 [iU x0,iU x1,iU x2,iU x3,iU x4,iU x5] (fun _ h=>h) 0 (zc 1 6 40 #[] (dU) ?_));rintro _ p ⟨rfl,B⟩;replace A:=A.keep B;replace a:=a.keep B;refine⟨_,rfl,a,?_⟩;refine zc 3 8 39 #[pg g,.agg fU,.agg #[iU x0,iU x1,iU x2,iU x3,iU x4,iU x5]] (beginU A.sx c f d (by omega) (by omega)) ?_
 rintro _ q ⟨rfl,o,S,j,i⟩;obtain⟨a,b⟩:=au a b j i;replace A:=A.op S j i;refine⟨_,rfl,a,?_⟩;refine z 4 4 (iU (aJ (chn E))) (bB (aa (aF (aE (iU (aJ (chn E))) (rs1 4 (by kernel_rfl) (by kernel_rfl)) ?_))));exact⟨rfl,_,A.sx,A.km,A.cc⟩
theorem iE(h:Sx B w K g E W n N)(c:0<=id/\id < 18446744073709551616)(hn:n+30<=4000000000000000000)(o:N+30<=100000000):Calls Tryz.prog 25 #[pg g,.int .u64 id] w (SxE B w K g E W (n+1) N (.tuple #[.agg (uA (got E (Ky.mk 12 id 0))),.bool (Kv.look E (Ky.mk 12 id 0)).isSome])):=by
 have A:=h.at
 refine aC (n:=12) Tryz.func25 rfl ?_
 refine ab (ag (ta 4 zz6 42 (pg) ?_));intro v1 l a d B;obtain⟨e,b,A⟩:=A.al d B;refine t 5 (bF) (ae (aa (ab (ag (t 6 (pg g) (tc 7 40 #[] (dU) ?_))))));rintro _ k ⟨rfl,B⟩;refine⟨_,rfl,?_⟩;replace A:=A.keep B;replace a:=a.keep B;refine t 8 (iU id) (tc 9 66 #[pg g,.agg fU,iU id] (E4 A.sx c (by omega) (by omega)) ?_);rintro _ m ⟨rfl,j,S,i,f⟩;refine⟨_,rfl,?_⟩;obtain⟨a,b⟩:=au a b i f;replace A:=A.op S i f;refine t 10 (.agg (uA (got E (Ky.mk 12 id 0)))) (t 11 (.bool (Kv.look E (Ky.mk 12 id 0)).isSome) (ts a 0 (.agg (uA (got E (Ky.mk 12 id 0)))) (uL (got E (Ky.mk 12 id 0))) (uL (got E (Ky.mk 12 id 0))) ?_));intro v6 Y C;replace A:=Bk.At.cell A a C e b (by decide);have a:=Y;refine t 5 (.bool (Kv.look E (Ky.mk 12 id 0)).isSome) (ae (aa (aF (aE (.tuple #[.agg (uA (got E (Ky.mk 12 id 0))),.bool (Kv.look E (Ky.mk 12 id 0)).isSome]) (iQ 4 5 (T:=42) (by kernel_rfl) (by kernel_rfl) (by kernel_rfl) (lr a 0)) ?_))));exact⟨rfl,_,A.sx,A.km,A.cc⟩
theorem nF{y:Int}(h:Sx B w K g E W n N)(d:0<=id/\id < 18446744073709551616)(hn:n+30<=4000000000000000000)(r:N+30<=100000000):Calls Tryz.prog 15 #[pg g,.int .u64 id,.int .u64 y] w (SxF B w K g (gV E id y) W n N (.bool (Kv.look E (Ky.mk 12 id 0)).isSome)):=by
 have A:=h.at
 refine aC (n:=12) Tryz.func15 rfl ?_
 refine ab (ag (ta 5 [iU y] 22 (pg) ?_));intro v1 f b c B;obtain⟨l,a,A⟩:=A.al c B;refine t 6 (bF) (ae (aa (ab (ag (t 7 (pg g) (tc 8 40 #[] (dU) ?_))))));rintro _ p ⟨rfl,B⟩;refine⟨_,rfl,?_⟩;replace A:=A.keep B;replace b:=b.keep B;refine t 9 (iU id) (t 10 (.func (.func 48) #[] #[pg f]) (tc 11 47 #[pg g,.agg fU,iU id,.func (.func 48) #[] #[pg f]] (CG A.sx d b a (by omega) (by omega)) ?_));rintro _ v6 ⟨rfl,q,o,j,S,m,k,i,e⟩;refine⟨_,rfl,?_⟩;obtain⟨b,a⟩:=au b a i e;replace A:=A.op S i e;refine t 6 (.bool (Kv.look E (Ky.mk 12 id 0)).isSome) (ae (aa (aF (aE (.bool (Kv.look E (Ky.mk 12 id 0)).isSome) (rs1 6 (by kernel_rfl) (by kernel_rfl)) ?_))));exact⟨rfl,_,_,_,A.sx,by omega,by omega,A.km,A.cc⟩
end
end Qu
end
section
namespace Qu
open Go.RowKit Go.Lib Pg Lim Gl Kv
structure Nk (w:World) (K:Nat->Prop) (z:Nat) (ao:Option Addr) (n c:Nat) (x:Int):Prop where
 lt:n=0\/z < w.heap.size
 out:n=0\/¬ K z
 to:∀ w':World,(n≠0->w'.heap[z]?=w.heap[z]?)->ef w' ao n c x
structure Nq (w:World) (K:Nat->Prop) (z:Nat) (ao:Option Addr) (n c:Nat) (x:Int):Prop where
 lt:n=0\/z < w.heap.size
 out:n=0\/¬ K z
 to:∀ w':World,(n≠0->w'.heap[z]?=w.heap[z]?)->gF w' ao n c x
section
variable {w w':World} {K K':Nat->Prop} {z n c:Nat} {ao:Option Addr} {x:Int}
section
variable {g:Nat}
theorem Nk.nat(h:Nk w K z ao n c x):ef w ao n c x:=h.to w (fun _=>rfl)
theorem Nk.keep(h:Nk w K z ao n c x)(hb:Below w.heap.size w w'):Nk w' K z ao n c x :=
 ⟨h.lt.imp_right fun h=>Nat.lt_of_lt_of_le h hb.size,h.out,fun b a=>h.to b fun hn=>(a hn).trans (hb.block z (h.lt.resolve_left hn))⟩
theorem Nk.drew(h:Nk w K z ao n c x):Nk w.drew K z ao n c x:=h.keep (Below.refl _ _).drew
theorem Nk.op(h:Nk w K z ao n c x)(f:∀ b,K' b->K b\/w.heap.size<=b)(hc:Chg K w w'):Nk w' K' z ao n c x:=by
 refine⟨h.lt.imp_right fun h=>Nat.lt_of_lt_of_le h hc.size,?_,fun g a=>h.to g fun hn=>(a hn).trans (hc.same z (h.lt.resolve_left hn) (h.out.resolve_left hn))⟩;rcases h.lt with d | d
 ·exact .inl d
 ·refine h.out.imp_right fun a e=>(f z e).elim a fun i=>by omega
theorem Nk.cell(h:Nk w K z ao n c x)(hc:Chg (·=g) w w')(a:n=0\/z≠g):Nk w' K z ao n c x :=
 ⟨h.lt.imp_right fun h=>Nat.lt_of_lt_of_le h hc.size,h.out,fun d b=>h.to d fun hn=>(b hn).trans (hc.same z (h.lt.resolve_left hn) (a.resolve_left hn))⟩
theorem Nq.o(h:Nq w K z ao n c x):gF w ao n c x:=h.to w (fun _=>rfl)
theorem Nq.keep(h:Nq w K z ao n c x)(hb:Below w.heap.size w w'):Nq w' K z ao n c x :=
 ⟨h.lt.imp_right fun h=>Nat.lt_of_lt_of_le h hb.size,h.out,fun b a=>h.to b fun hn=>(a hn).trans (hb.block z (h.lt.resolve_left hn))⟩
theorem Nq.drew(h:Nq w K z ao n c x):Nq w.drew K z ao n c x:=h.keep (Below.refl _ _).drew
theorem Nq.op(h:Nq w K z ao n c x)(f:∀ b,K' b->K b\/w.heap.size<=b)(hc:Chg K w w'):Nq w' K' z ao n c x:=by
 refine⟨h.lt.imp_right fun h=>Nat.lt_of_lt_of_le h hc.size,?_,fun g a=>h.to g fun hn=>(a hn).trans (hc.same z (h.lt.resolve_left hn) (h.out.resolve_left hn))⟩;rcases h.lt with d | d
 ·exact .inl d
 ·refine h.out.imp_right fun a e=>(f z e).elim a fun i=>by omega
theorem Nq.cell(h:Nq w K z ao n c x)(hc:Chg (·=g) w w')(a:n=0\/z≠g):Nq w' K z ao n c x :=
 ⟨h.lt.imp_right fun h=>Nat.lt_of_lt_of_le h hc.size,h.out,fun d b=>h.to d fun hn=>(b hn).trans (hc.same z (h.lt.resolve_left hn) (a.resolve_left hn))⟩
theorem vr{B:Nat}(h:Rc.dg w B ao n c x)(g:∀ b,K b->b < B):∃ z,(n=0\/B<=z)/\Nq w K z ao n c x:=by
 obtain⟨b,o,l,f,d,k,a,j⟩:=h.ex;refine⟨b,.inr j,?_,.inr fun e=>by have:=g b e;omega,fun m hw=>⟨b,o,l,f,d,k,⟨a.loc,fun i hi=>?_⟩⟩⟩
 ·rcases Nat.eq_zero_or_pos n with h | h
  ·exact .inl h
  ·exact .inr (aH (a.cell 0 (by omega)))
 ·rw[World.cell?_of_block (w:=w) (hw (by omega))];exact a.cell i hi
end
end
end Qu
end
end Go.Proofs.YtidnifmehnjipaaGreat
