/- Several texts, joined: QuA, QuB, BkB, QuC, QuD, QuN. -/
import Derived.Test.YtidnifmehnjipaaGreatJao
import Derived.Test.YtidnifmehnjipaaGreatJam
import Derived.LoopN
set_option maxRecDepth 100000
set_option maxHeartbeats 8000000
namespace Go.Proofs.YtidnifmehnjipaaGreat
section
namespace Qu
open Go.RowKit Go.Lib Pg Lim Gl Kv Bk Pw
attribute [local go_sem] Oper.semAt_some
set_option linter.unusedVariables false
set_option linter.unusedSimpArgs false
section
variable {w:World}{k a b x:Int}{v l:List Int}{B g n N:Nat}{K:Nat->Prop}{E:ax}{W:List ax}
theorem oe(h:0<=a/\a < 18446744073709551616)(f:Ky.mkE k a b=false):Calls Tryz.prog 64 #[.int .i64 k,.int .u64 a,.int .u64 b] w fun e w'=>∃ v,e=.returned v/\ByU w' v (Ky.mk k a b)/\Below w.heap.size w w':=by
 have d:=Below.refl w.heap.size w;refine aB (n:=18) Tryz.func64 rfl (by kernel_rfl) (by kernel_rfl) ?_
 refine ab (af (t 6 (.slice none 0 0) (ae (aa (ab (af (t 10 (.int .i64 k) (t 11 (.int .u64 a) (t 12 (.int .u64 b) (t 13 (.agg #[.int .i64 k,.int .u64 a,.int .u64 b]) (tc 14 32 #[.agg #[.int .i64 k,.int .u64 a,.int .u64 b]] (Al h f) ?_)))))))))));rintro _ i ⟨c,rfl,g,B⟩;refine⟨_,rfl,?_⟩;replace d:=aj d B;clear B;refine t 9 (.tuple #[c,.int .i64 0]) (t 15 (c) (t 16 (.int .i64 0) (t 7 (c) (t 8 (.int .i64 0) (ae (aa (aC [(6,.slice none 0 0),(7,c)] (by kernel_rfl) (ab (af (t 17 (c) (t 6 (c) (ae (aa (aF (aE (c) (rs1 6 (by kernel_rfl) (by kernel_rfl)) ?_)))))))))))))));exact⟨_,rfl,g,d⟩
def nv(x:Int):List Int:=Rc.thr (Rc.pnx (fun o=>([x]:List Int).getD o 0)) [(0,0)] []
def bj(l:List Int):Int:=Rc.aS (Rc.bL l) 0
def ey(l:List Int):Int:=Rc.aS (Rc.b8 l) 0
def aI(l:List Int):Int:=Rc.aS (Rc.b8 l) 1
def got(E:ax)(k:List Int):List Int:=(Kv.look E k).getD []
theorem eT(x:Int):(nv x).length<=300:=by have:=Rc.fm (fun o=>([x]:List Int).getD o 0) [(0,0)] [];simpa[nv] using this
theorem Au(x:Int):Oct (nv x):=Rc.lT _ _ _ (fun _ h=>by simp at h)
theorem dB(hE:Ky.mkE k a b=false)(hv:v.length<=4096):eI (Ky.mk k a b) v=0:=by
 have h1:=mk_pos hE;have h2:=Ky.bZ k a b;unfold eI;rw[if_neg (by omega),if_neg (by omega)]
theorem qf{kv vv:Value}(h:Sx B w K g E W n N)(e:ByU w kv (Ky.mk k a b))(c:Ky.mkE k a b=false)(f:ByU w vv v)(d:v.length<=4096)(hn:n<=4000000000000000000)(i:N+2<=100000000) :
  Calls Tryz.prog 33 #[pg g,kv,vv] w (SxE B w K g (put E (Ky.mk k a b) v) W (n+1) (N+2) (.int .i64 0)):=by
 have u:=xset h e f hn i;rw[dB c d,if_pos rfl] at u;exact u
theorem xt{v:Value}(h:ByU w v l)(d:l.length<=1000000000):Calls Tryz.prog 141 #[v] w fun e w'=>e=.returned (.tuple #[.agg #[.int .u64 (ey l),.int .u64 (aI l)],.int .i64 (Rc.aU (Rc.b8 l))])/\Below w.heap.size w w':=by
 obtain⟨b,f,c,rfl,a⟩:=bya h.byt;exact Rc.oChain a d
theorem oX{v:Value}(h:ByU w v l)(d:l.length<=1000000000):Calls Tryz.prog 65 #[v] w fun e w'=>e=.returned (.tuple #[.int .u64 (bj l),.int .i64 (Rc.aU (Rc.bL l))])/\Below w.heap.size w w':=by
 obtain⟨b,f,c,rfl,a⟩:=bya h.byt;exact Rc.CA a d
theorem oH{y:Int}:Calls Tryz.prog 34 #[.agg #[.int .u64 x,.int .u64 y]] w fun e w'=>∃ v,e=.returned v/\ByU w' v (pv x y)/\Below w.heap.size w w':=by
 refine Rc.pQ.mono ?_
 rintro e w' ⟨b,n,rfl,hn,X,hb,B⟩;exact⟨_,rfl,lJ X (zF x y) hn (Nat.le_trans (j9 x y) (by decide)),B⟩
theorem fb:Calls Tryz.prog 93 #[.int .u64 x] w fun e w'=>∃ v,e=.returned v/\ByU w' v (nv x)/\Below w.heap.size w w':=by
 refine Rc.nT.mono ?_
 rintro e w' ⟨b,n,rfl,hn,X,hb,B⟩;exact⟨_,rfl,lJ X (Au x) hn (Nat.le_trans (eT x) (by decide)),B⟩
theorem Sx.qF(h:Sx B w K g E W n N)(k:List Int):(got E k).length<=1000000000:=by
 unfold got
 cases e:Kv.look E k with
 | none=>simp
 | some v=>exact(h.sa.small _ (Kv.l9 e)).2
theorem nP  : Ky.mkE 2 0 0=false:=by
 unfold Ky.mkE;rw[show (Ky.frm 2).1=1 from rfl];simp
theorem gN(a:Int):Ky.mkE 12 a 0=false:=by
 unfold Ky.mkE;rw[show (Ky.frm 12).1=9 from rfl];simp
theorem gL(a:Int):Ky.mkE 13 a 0=false:=by
 unfold Ky.mkE;rw[show (Ky.frm 13).1=9 from rfl];simp
theorem ju(a b:Int):Ky.mkE 14 a b=false:=by
 unfold Ky.mkE;rw[show (Ky.frm 14).1=17 from rfl];simp
theorem jL(a b:Int):Ky.mkE 15 a b=false:=by
 unfold Ky.mkE;rw[show (Ky.frm 15).1=17 from rfl];simp
theorem gV(a b:Int):Ky.mkE 17 a b=false:=by
 unfold Ky.mkE;rw[show (Ky.frm 17).1=17 from rfl];simp
def chn(E:ax):List Int:=got E (Ky.mk 2 0 0)
def dD(E:ax):ax:=put E (Ky.mk 2 0 0) (pv (ey (chn E)) ((aI (chn E)+1) % 18446744073709551616))
def dr(E:ax)(a b:Int):Int:=bj (got E (Ky.mk 17 a b))
def pW(E:ax)(a b n:Int):ax:=if n=0 then rem E (Ky.mk 17 a b) else put E (Ky.mk 17 a b) (nv n)
theorem fU(h:Sx B w K g E W n N)(hn:n+5<=4000000000000000000)(y:N+5<=100000000):Calls Tryz.prog 90 #[pg g] w (SxE B w K g (dD E) W (n+2) (N+2) (.int .u64 (aI (chn E)))):=by
 have A:=h.at
 refine aB (n:=33) Tryz.func90 rfl (by kernel_rfl) (by kernel_rfl) ?_
 refine ab (af (t 2 (.int .u64 0) (ae (aa (ab (af (tc 9 64 #[.int .i64 2,.int .u64 0,.int .u64 0] (oe ⟨by decide,by decide⟩ nP) ?_)))))));rintro _ x ⟨d,rfl,c,B⟩;refine⟨_,rfl,?_⟩;replace A:=A.keep B;clear B;refine t 3 (d) (ae (aa (ab (af (t 11 (pg g) (t 12 (d) (tc 13 63 #[pg g,d] (DG A.sx c (by omega) (by omega)) ?_)))))));rintro _ v6 ⟨e,rfl,o,S,i⟩;refine⟨_,rfl,?_⟩;replace c:=A.byu c i;replace A:=A.op S (fun _ h=>.inl h) i;clear S i;refine t 10 (.tuple #[e,.bool (Kv.look E (Ky.mk 2 0 0)).isSome]) (t 14 (e) (t 15 (.bool (Kv.look E (Ky.mk 2 0 0)).isSome) (t 4 (e) (t 5 (.bool (Kv.look E (Ky.mk 2 0 0)).isSome) (ae (aa (aC [(0,pg g),(2,.int .u64 0),(3,d),(4,e)] (by kernel_rfl) (ab (af (t 17 (e) (tc 18 141 #[e] (xt o (Sx.qF A.sx _)) ?_)))))))))));rintro _ u ⟨rfl,B⟩;refine⟨_,rfl,?_⟩;replace A:=A.keep B;replace c:=ay c B;replace o:=ay o B;clear B;clear o;refine t 16 (.tuple #[.agg #[.int .u64 (ey (got E (Ky.mk 2 0 0))),.int .u64 (aI (got E (Ky.mk 2 0 0)))],.int .i64 (Rc.aU (Rc.b8 (got E (Ky.mk 2 0 0))))]) (t 19 (.agg #[.int .u64 (ey (got E (Ky.mk 2 0 0))),.int .u64 (aI (got E (Ky.mk 2 0 0)))]) (t 20 (.int .i64 (Rc.aU (Rc.b8 (got E (Ky.mk 2 0 0))))) (ta 6 [.int .u64 0,.int .u64 0] 40 (pg) ?_)));intro v m a l B;have k:=Nat.le_trans A.size l;have b:=A.new l;replace A:=A.keep B;replace c:=ay c B;clear B;refine ts a 0 (.agg #[.int .u64 (ey (got E (Ky.mk 2 0 0))),.int .u64 (aI (got E (Ky.mk 2 0 0)))]) [.int .u64 (ey (got E (Ky.mk 2 0 0))),.int .u64 (aI (got E (Ky.mk 2 0 0)))] [.int .u64 (ey (got E (Ky.mk 2 0 0))),.int .u64 (aI (got E (Ky.mk 2 0 0)))] ?_
 intro v10 Y C;replace A:=Bk.At.cell A a C k b (by decide);replace c:=bO c a C (by decide);clear C a;have a:=Y;clear Y;refine t 7 (.int .i64 (Rc.aU (Rc.b8 (got E (Ky.mk 2 0 0))))) (ae (aa (ab (af (t 21 (pq m 1) (tl 22 (.int .u64 (aI (got E (Ky.mk 2 0 0)))) a 1 (t 8 (.int .u64 (aI (got E (Ky.mk 2 0 0)))) (ae (aa (ab (af (t 23 (pq m 1) (tl 24 (.int .u64 (aI (got E (Ky.mk 2 0 0)))) a 1 (tq 25 (.int .u64 (IntKind.u64.wrap (aI (got E (Ky.mk 2 0 0))+1))) (.int .u64 ((aI (got E (Ky.mk 2 0 0))+1) % 18446744073709551616)) (congrArg (Value.int .u64) (IntKind.wrap_u64 _)) (t 26 (pq m 1) (ts a 1 (.int .u64 ((aI (got E (Ky.mk 2 0 0))+1) % 18446744073709551616)) [.int .u64 ((aI (got E (Ky.mk 2 0 0))+1) % 18446744073709551616)] [.int .u64 (ey (got E (Ky.mk 2 0 0))),.int .u64 ((aI (got E (Ky.mk 2 0 0))+1) % 18446744073709551616)] ?_))))))))))))))));intro v11 Y C;replace A:=Bk.At.cell A a C k b (by decide);replace c:=bO c a C (by decide);clear C a;have a:=Y;clear Y;refine ae (aa (aC [(0,pg g),(2,.int .u64 0),(3,d),(6,pg m),(8,.int .u64 (aI (got E (Ky.mk 2 0 0))))] (by kernel_rfl) (ab (af (t 27 (pg g) (t 28 (d) (tlr 29 [.int .u64 (ey (got E (Ky.mk 2 0 0))),.int .u64 ((aI (got E (Ky.mk 2 0 0))+1) % 18446744073709551616)] a 0 (tc 30 34 #[.agg #[.int .u64 (ey (got E (Ky.mk 2 0 0))),.int .u64 ((aI (got E (Ky.mk 2 0 0))+1) % 18446744073709551616)]] (oH) ?_))))))));rintro _ r ⟨j,rfl,f,B⟩;refine⟨_,rfl,?_⟩;replace A:=A.keep B;replace c:=ay c B;replace a:=a.keep B;clear B;refine tc 31 33 #[pg g,d,j] (qf A.sx c nP f (Nat.le_trans (j9 _ _) (by decide)) (by omega) (by omega)) ?_
 rintro _ q ⟨rfl,s,S,p,i⟩;refine⟨_,rfl,?_⟩;replace c:=A.byu c i;replace b:=opX a b p i;replace a:=b.1;replace b:=b.2;replace f:=A.byu f i;replace A:=A.op S p i;clear S p i;clear c;clear f;refine ae (aa (ab (af (t 32 (.int .u64 (aI (got E (Ky.mk 2 0 0)))) (t 2 (.int .u64 (aI (got E (Ky.mk 2 0 0)))) (ae (aa (aF (aE (.int .u64 (aI (got E (Ky.mk 2 0 0)))) (rs1 2 (by kernel_rfl) (by kernel_rfl)) ?_)))))))));exact⟨rfl,_,A.sx,A.km,A.cc⟩
theorem ek(h:Sx B w K g E W n N)(j:0<=a/\a < 18446744073709551616)(hn:n+5<=4000000000000000000)(m:N+5<=100000000):Calls Tryz.prog 24 #[pg g,.int .u64 a,.int .u64 b] w (SxE B w K g E W (n+1) N (.int .u64 (dr E a b))):=by
 have A:=h.at
 refine aB (n:=25) Tryz.func24 rfl (by kernel_rfl) (by kernel_rfl) ?_
 refine ab (af (t 6 (.int .u64 0) (ae (aa (ab (af (t 12 (pg g) (t 13 (.int .u64 a) (t 14 (.int .u64 b) (tc 15 64 #[.int .i64 17,.int .u64 a,.int .u64 b] (oe j (gV a b)) ?_))))))))));rintro _ k ⟨i,rfl,d,B⟩;refine⟨_,rfl,?_⟩;replace A:=A.keep B;clear B;refine tc 16 63 #[pg g,i] (DG A.sx d (by omega) (by omega)) ?_
 rintro _ v6 ⟨c,rfl,e,S,f⟩;refine⟨_,rfl,?_⟩;replace d:=A.byu d f;replace A:=A.op S (fun _ h=>.inl h) f;clear S f;refine t 11 (.tuple #[c,.bool (Kv.look E (Ky.mk 17 a b)).isSome]) (t 17 (c) (t 18 (.bool (Kv.look E (Ky.mk 17 a b)).isSome) (t 7 (c) (t 8 (.bool (Kv.look E (Ky.mk 17 a b)).isSome) (ae (aa (aC [(6,.int .u64 0),(7,c)] (by kernel_rfl) (ab (af (t 20 (c) (tc 21 65 #[c] (oX e (Sx.qF A.sx _)) ?_)))))))))));rintro _ l ⟨rfl,B⟩;refine⟨_,rfl,?_⟩;replace A:=A.keep B;replace d:=ay d B;replace e:=ay e B;clear B;clear e;refine t 19 (.tuple #[.int .u64 (bj (got E (Ky.mk 17 a b))),.int .i64 (Rc.aU (Rc.bL (got E (Ky.mk 17 a b))))]) (t 22 (.int .u64 (bj (got E (Ky.mk 17 a b)))) (t 23 (.int .i64 (Rc.aU (Rc.bL (got E (Ky.mk 17 a b))))) (t 9 (.int .u64 (bj (got E (Ky.mk 17 a b)))) (t 10 (.int .i64 (Rc.aU (Rc.bL (got E (Ky.mk 17 a b))))) (ae (aa (ab (af (t 24 (.int .u64 (bj (got E (Ky.mk 17 a b)))) (t 6 (.int .u64 (bj (got E (Ky.mk 17 a b)))) (ae (aa (aF (aE (.int .u64 (bj (got E (Ky.mk 17 a b)))) (rs1 6 (by kernel_rfl) (by kernel_rfl)) ?_))))))))))))));exact⟨rfl,_,A.sx,A.km,A.cc⟩
theorem count_set{d m:Int}(h:Sx B w K g E W n N)(v:0<=a/\a < 18446744073709551616)(hn:n+5<=4000000000000000000)(C:N+5<=100000000):Calls Tryz.prog 94 #[.agg #[.int .u64 a,.int .u64 b,.int .u64 d],pg g,.int .u64 m] w (SxE B w K g (pW E a b m) W (n+1) (N+2) (.tuple #[])):=by
 have A:=h.at
 refine aB (n:=22) Tryz.func94 rfl (by kernel_rfl) (by kernel_rfl) ?_
 refine ab (af (ta 3 [.int .u64 a,.int .u64 b,.int .u64 d] 167 (pg) ?_));intro v1 r e o B;have x:=Nat.le_trans A.size o;have c:=A.new o;replace A:=A.keep B;clear B;refine ae (aa (ab (af (t 7 (pg r) (tl 8 (.int .u64 a) e 0 (t 9 (pq r 1) (tl 10 (.int .u64 b) e 1 (tc 11 64 #[.int .i64 17,.int .u64 a,.int .u64 b] (oe v (gV a b)) ?_))))))));rintro _ D ⟨f,rfl,j,B⟩;refine⟨_,rfl,?_⟩;replace A:=A.keep B;replace e:=e.keep B;clear B;refine t 6 (f) (ae (aa (ab (ab (af (t 12 (.int .u64 m) ?_))))));by_cases q:(m:Int)=0
 ·refine tq 13 (.bool ((m:Int) == 0)) (.bool true) (congrArg Value.bool (beq_iff_eq.2 q)) (ae (aa (aC [(1,pg g),(2,.int .u64 m),(6,f),(13,.bool true)] (by kernel_rfl) (aO (ab (af (t 14 (pg g) (t 15 (f) (tc 16 107 #[pg g,f] (sV A.sx j (Nat.le_trans (Ky.bZ _ _ _) (by decide)) (by omega) (by omega)) ?_)))))))));rintro _ y ⟨rfl,z,S,k,i⟩;refine⟨_,rfl,?_⟩;replace c:=opX e c k i;replace e:=c.1;replace c:=c.2;replace j:=A.byu j i;replace A:=A.op S k i;clear S k i;clear j;refine ae (aa (aF (dn (aE (.tuple #[]) (rs0 (by kernel_rfl)) ?_))));rw[show pW E a b m=_ from if_pos q];exact⟨rfl,_,A.sx,A.km,A.cc⟩
 ·refine tq 13 (.bool ((m:Int) == 0)) (.bool false) (congrArg Value.bool (beq_eq_false_iff_ne.2 q)) (ae (aa (aC [(1,pg g),(2,.int .u64 m),(6,f),(13,.bool false)] (by kernel_rfl) (aV (aJ (aa (af (t 17 (pg g) (t 18 (f) (t 19 (.int .u64 m) (tc 20 93 #[.int .u64 m] (fb) ?_)))))))))));rintro _ v11 ⟨l,rfl,p,B⟩;refine⟨_,rfl,?_⟩;replace A:=A.keep B;replace e:=e.keep B;replace j:=ay j B;clear B;refine tc 21 33 #[pg g,f,l] (qf A.sx j (gV a b) p (Nat.le_trans (eT _) (by decide)) (by omega) (by omega)) ?_
  rintro _ s ⟨rfl,u,S,k,i⟩;refine⟨_,rfl,?_⟩;replace c:=opX e c k i;replace e:=c.1;replace c:=c.2;replace j:=A.byu j i;replace p:=A.byu p i;replace A:=A.op S k i;clear S k i;clear j;clear p;refine ae (j1 (.tuple #[]) (rs0 (by kernel_rfl)) ?_);rw[show pW E a b m=_ from if_neg q];exact⟨rfl,_,A.sx,A.km,A.cc⟩
end
end Qu
end
section
namespace Qu
open Go.RowKit Go.Lib Pg Lim Gl Kv Bk Pw
attribute [local go_sem] Oper.semAt_some
set_option linter.unusedVariables false
set_option linter.unusedSimpArgs false
section
variable {w:World}{x0 x1 x2 x3 x4 x5 a b id:Int}{a6 a1 a2:Option Addr}{ρ:Operand->Value}{v:Value}{l:List Int}{B g n N:Nat}{K:Nat->Prop}{E:ax}{W:List ax}
theorem dS  : Calls Tryz.prog 40 #[] w fun e w'=>e=.returned (.agg #[.int .i64 12,.func (.func 95) #[] #[],.func (.func 96) #[] #[],.func (.func 97) #[] #[]])/\Below w.heap.size w w':=by
 have b:=Below.refl w.heap.size w;refine aB (n:=2) Tryz.func40 rfl (by kernel_rfl) (by kernel_rfl) ?_
 refine ab (af (ta 0 [.int .i64 0,.nilFunc,.nilFunc,.nilFunc] 105 (pg) ?_));intro v1 f a c B;replace b:=aj b B;clear B;refine ae (aa (ab (af (t 1 (.agg #[.int .i64 12,.func (.func 95) #[] #[],.func (.func 96) #[] #[],.func (.func 97) #[] #[]]) (ts a 0 (.agg #[.int .i64 12,.func (.func 95) #[] #[],.func (.func 96) #[] #[],.func (.func 97) #[] #[]]) [.int .i64 12,.func (.func 95) #[] #[],.func (.func 96) #[] #[],.func (.func 97) #[] #[]] [.int .i64 12,.func (.func 95) #[] #[],.func (.func 96) #[] #[],.func (.func 97) #[] #[]] ?_)))));intro d Y C;replace b:=aR b C (by omega);clear C a;have a:=Y;clear Y;refine ae (aa (aF (aE (.agg #[.int .i64 12,.func (.func 95) #[] #[],.func (.func 96) #[] #[],.func (.func 97) #[] #[]]) (rsc 0 (T:=105) (by kernel_rfl) (by kernel_rfl) (lr a 0)) ?_)));exact⟨rfl,b⟩
theorem iu  : Calls Tryz.prog 45 #[] w fun e w'=>e=.returned (.agg #[.int .i64 13,.func (.func 101) #[] #[],.func (.func 102) #[] #[],.func (.func 103) #[] #[]])/\Below w.heap.size w w':=by
 have b:=Below.refl w.heap.size w;refine aB (n:=2) Tryz.func45 rfl (by kernel_rfl) (by kernel_rfl) ?_
 refine ab (af (ta 0 [.int .i64 0,.nilFunc,.nilFunc,.nilFunc] 114 (pg) ?_));intro v1 f a c B;replace b:=aj b B;clear B;refine ae (aa (ab (af (t 1 (.agg #[.int .i64 13,.func (.func 101) #[] #[],.func (.func 102) #[] #[],.func (.func 103) #[] #[]]) (ts a 0 (.agg #[.int .i64 13,.func (.func 101) #[] #[],.func (.func 102) #[] #[],.func (.func 103) #[] #[]]) [.int .i64 13,.func (.func 101) #[] #[],.func (.func 102) #[] #[],.func (.func 103) #[] #[]] [.int .i64 13,.func (.func 101) #[] #[],.func (.func 102) #[] #[],.func (.func 103) #[] #[]] ?_)))));intro d Y C;replace b:=aR b C (by omega);clear C a;have a:=Y;clear Y;refine ae (aa (aF (aE (.agg #[.int .i64 13,.func (.func 101) #[] #[],.func (.func 102) #[] #[],.func (.func 103) #[] #[]]) (rsc 0 (T:=114) (by kernel_rfl) (by kernel_rfl) (lr a 0)) ?_)));exact⟨rfl,b⟩
theorem yD:Calls Tryz.prog 97 #[.agg #[.int .u64 x0,.int .u64 x1,.int .u64 x2,.int .u64 x3,.int .u64 x4,.int .u64 x5]] w fun e w'=>e=.returned (.agg #[.int .u64 x0,.int .u64 x1,.int .u64 x3])/\Below w.heap.size w w':=by
 have c:=Below.refl w.heap.size w;refine aB (n:=10) Tryz.func97 rfl (by kernel_rfl) (by kernel_rfl) ?_
 refine ab (af (ta 1 [.int .u64 x0,.int .u64 x1,.int .u64 x2,.int .u64 x3,.int .u64 x4,.int .u64 x5] 42 (pg) ?_));intro v1 d a h B;replace c:=aj c B;clear B;have f:=a.lt;refine ta 2 [.int .u64 0,.int .u64 0,.int .u64 0] 167 (pg) ?_
 intro j i b g B;replace c:=aj c B;replace a:=a.keep B;clear B;refine ae (aa (ab (af (t 3 (pg d) (tl 4 (.int .u64 x0) a 0 (t 5 (pq d 1) (tl 6 (.int .u64 x1) a 1 (t 7 (pq d 3) (tl 8 (.int .u64 x3) a 3 (t 9 (.agg #[.int .u64 x0,.int .u64 x1,.int .u64 x3]) (ts b 0 (.agg #[.int .u64 x0,.int .u64 x1,.int .u64 x3]) [.int .u64 x0,.int .u64 x1,.int .u64 x3] [.int .u64 x0,.int .u64 x1,.int .u64 x3] ?_)))))))))));intro k Y C;replace c:=aR c C (by omega);replace a:=a.chg C (show d≠i by omega);clear C b;have b:=Y;clear Y;refine ae (aa (aF (aE (.agg #[.int .u64 x0,.int .u64 x1,.int .u64 x3]) (rsc 2 (T:=167) (by kernel_rfl) (by kernel_rfl) (lr b 0)) ?_)));exact⟨rfl,c⟩
theorem yx{g h:Nat}:Calls Tryz.prog 103 #[.agg #[.int .u64 x0,.int .u64 x1,.int .u64 x2,.int .u64 x3,.int .u64 x4,.int .u64 x5,.slice a6 g h]] w fun e w'=>e=.returned (.agg #[.int .u64 x0,.int .u64 x1,.int .u64 x4])/\Below w.heap.size w w':=by
 have c:=Below.refl w.heap.size w;refine aB (n:=10) Tryz.func103 rfl (by kernel_rfl) (by kernel_rfl) ?_
 refine ab (af (ta 1 [.int .u64 x0,.int .u64 x1,.int .u64 x2,.int .u64 x3,.int .u64 x4,.int .u64 x5,.slice a6 g h] 48 (pg) ?_));intro v1 d a j B;replace c:=aj c B;clear B;have f:=a.lt;refine ta 2 [.int .u64 0,.int .u64 0,.int .u64 0] 167 (pg) ?_
 intro l k b i B;replace c:=aj c B;replace a:=a.keep B;clear B;refine ae (aa (ab (af (t 3 (pg d) (tl 4 (.int .u64 x0) a 0 (t 5 (pq d 1) (tl 6 (.int .u64 x1) a 1 (t 7 (pq d 4) (tl 8 (.int .u64 x4) a 4 (t 9 (.agg #[.int .u64 x0,.int .u64 x1,.int .u64 x4]) (ts b 0 (.agg #[.int .u64 x0,.int .u64 x1,.int .u64 x4]) [.int .u64 x0,.int .u64 x1,.int .u64 x4] [.int .u64 x0,.int .u64 x1,.int .u64 x4] ?_)))))))))));intro m Y C;replace c:=aR c C (by omega);replace a:=a.chg C (show d≠k by omega);clear C b;have b:=Y;clear Y;refine ae (aa (aF (aE (.agg #[.int .u64 x0,.int .u64 x1,.int .u64 x4]) (rsc 2 (T:=167) (by kernel_rfl) (by kernel_rfl) (lr b 0)) ?_)));exact⟨rfl,c⟩
theorem EU{k:Int}(f:0<=a/\a < 18446744073709551616)(d:Ky.mkE k a b=false):Calls Tryz.prog 64 #[.int .i64 k,.int .u64 a,.int .u64 b] w fun e w'=>∃ ao m c,e=.returned (.slice ao m c)/\ByU w' (.slice ao m c) (Ky.mk k a b)/\Below w.heap.size w w':=by
 refine(oe f d).mono ?_
 rintro e w' ⟨v,rfl,U,B⟩;obtain⟨_,ao,c,rfl,_⟩:=bya U.byt;exact⟨_,_,_,rfl,U,B⟩
theorem DU{o:Oper}{m1 c1 m2 c2:Nat}(b:∃ u v,o.op=.build 168 #[(0,u),(1,v)]/\ρ u=.slice a1 m1 c1/\ρ v=.slice a2 m2 c2:=by exact⟨_,_,rfl,by kernel_rfl,by kernel_rfl⟩):(execOp ρ o).run Tryz.prog w=.ok (.value (.agg #[.slice a1 m1 c1,.slice a2 m2 c2])) w:=by
 obtain⟨u,v,h,d,c⟩:=b;simp only[execOp,h,d,c];go_simp
theorem ia{d:Int}(hb:0<=b/\b < 18446744073709551616)(u:0<=d/\d < 18446744073709551616):Calls Tryz.prog 92 #[.agg #[.int .u64 a,.int .u64 b,.int .u64 d],.int .u64 id] w fun e w'=>∃ a1 m1 c1 a2 m2 c2,e=.returned (.agg #[.slice a1 m1 c1,.slice a2 m2 c2])/\ByU w' (.slice a1 m1 c1) (Ky.mk 14 d id)/\ByU w' (.slice a2 m2 c2) (Ky.mk 15 b id)/\Below w.heap.size w w':=by
 have g:=Below.refl w.heap.size w;refine aB (n:=14) Tryz.func92 rfl (by kernel_rfl) (by kernel_rfl) ?_
 refine ab (af (ta 2 [.int .u64 a,.int .u64 b,.int .u64 d] 167 (pg) ?_));intro v1 q c x B;replace g:=aj g B;clear B;have t:=c.lt;refine ta 4 [.slice none 0 0,.slice none 0 0] 168 (pg) ?_
 intro A s f v B;replace g:=aj g B;replace c:=c.keep B;clear B;refine ae (aa (ab ?_));replace g:=g.drew;replace c:=c.drew;replace f:=f.drew;refine bH (fun w'=>Blk w' q [.int .u64 a,.int .u64 b,.int .u64 d] 167) (fun _=>false) c ?_
 refine z 0 5 (pq q 2) (zl 1 6 (.int .u64 d) (fun _ h=>h) 2 (z 2 7 (.int .u64 id) (z 4 9 (pq q 1) (zl 5 10 (.int .u64 b) (fun _ h=>h) 1 (z 6 11 (.int .u64 id) (zc 3 8 64 #[.int .i64 14,.int .u64 d,.int .u64 id] (EU u (ju d id)) ?_))))));rintro _ y ⟨j,m,i,rfl,p,B⟩;replace g:=aj g B;replace c:=c.keep B;replace f:=f.keep B;clear B;refine⟨_,rfl,c,?_⟩;refine zc 7 12 64 #[.int .i64 15,.int .u64 b,.int .u64 id] (EU hb (jL b id)) ?_
 rintro _ v10 ⟨o,k,l,rfl,r,B⟩;replace g:=aj g B;replace c:=c.keep B;replace f:=f.keep B;replace p:=ay p B;clear B;refine⟨_,rfl,c,?_⟩;refine zr 8 13 (.agg #[.slice j m i,.slice o k l]) (fun _ _=>DU) (zs 9 f 0 (.agg #[.slice j m i,.slice o k l]) [.slice j m i,.slice o k l] [.slice j m i,.slice o k l] ?_);intro v11 Y C;replace g:=aR g C (by omega);replace c:=c.chg C (show q≠s by omega);replace p:=bO p f C (by decide);replace r:=bO r f C (by decide);clear C f;have f:=Y;clear Y;refine⟨c,?_⟩;refine bC (aa (aC [(4,pg s)] (by kernel_rfl) (aF (aE (.agg #[.slice j m i,.slice o k l]) (rsc 4 (T:=168) (by kernel_rfl) (by kernel_rfl) (lr f 0)) ?_))));exact⟨_,_,_,_,_,_,rfl,p,r,g⟩
def uv(x0 x1 x2 x3 x4 x5:Int):List Int:=Rc.thr (Rc.pnx (fun o=>([x0,x1,x2,x3,x4,x5]:List Int).getD o 0)) [(0,0),(0,1),(0,2),(0,3),(0,4),(0,5)] []
theorem pZ(x0 x1 x2 x3 x4 x5:Int):(uv x0 x1 x2 x3 x4 x5).length<=1800:=by have:=Rc.fm (fun o=>([x0,x1,x2,x3,x4,x5]:List Int).getD o 0) [(0,0),(0,1),(0,2),(0,3),(0,4),(0,5)] [];simpa[uv] using this
theorem AZ(x0 x1 x2 x3 x4 x5:Int):Oct (uv x0 x1 x2 x3 x4 x5):=Rc.lT _ _ _ (fun _ h=>by simp at h)
theorem nZ:Calls Tryz.prog 95 #[.agg #[.int .u64 x0,.int .u64 x1,.int .u64 x2,.int .u64 x3,.int .u64 x4,.int .u64 x5]] w fun e w'=>∃ v,e=.returned v/\ByU w' v (uv x0 x1 x2 x3 x4 x5)/\Below w.heap.size w w':=by
 refine Rc.j7.mono ?_
 rintro e w' ⟨b,n,rfl,hn,X,hb,B⟩;exact⟨_,rfl,lJ X (AZ _ _ _ _ _ _) hn (Nat.le_trans (pZ ..) (by decide)),B⟩
def uX(l:List Int)(i:Nat):Int:=Rc.aS (Rc.aH l) i
def uA(l:List Int):Array Value:=#[.int .u64 (uX l 0),.int .u64 (uX l 1),.int .u64 (uX l 2),.int .u64 (uX l 3),.int .u64 (uX l 4),.int .u64 (uX l 5)]
def uL(l:List Int):List Value:=[.int .u64 (uX l 0),.int .u64 (uX l 1),.int .u64 (uX l 2),.int .u64 (uX l 3),.int .u64 (uX l 4),.int .u64 (uX l 5)]
theorem pd(h:ByU w v l)(d:l.length<=1000000000):Calls Tryz.prog 96 #[v] w fun e w'=>e=.returned (.tuple #[.agg (uA l),.int .i64 (Rc.aU (Rc.aH l))])/\Below w.heap.size w w':=by
 obtain⟨b,f,c,rfl,a⟩:=bya h.byt;exact Rc.ux a d
theorem layU(h:Sx B w K g E W n N)(o:0<=id/\id < 18446744073709551616)(hn:n+5<=4000000000000000000)(D:N+5<=100000000):Calls Tryz.prog 91 #[pg g,.agg #[.int .i64 12,.func (.func 95) #[] #[],.func (.func 96) #[] #[],.func (.func 97) #[] #[]],.int .u64 id,.agg #[.int .u64 x0,.int .u64 x1,.int .u64 x2,.int .u64 x3,.int .u64 x4,.int .u64 x5]] w (SxE B w K g (put E (Ky.mk 12 id 0) (uv x0 x1 x2 x3 x4 x5)) W (n+1) (N+2) (.tuple #[])):=by
 have A:=h.at
 refine aB (n:=18) Tryz.func91 rfl (by kernel_rfl) (by kernel_rfl) ?_
 refine ab (af (ta 5 [.int .i64 12,.func (.func 95) #[] #[],.func (.func 96) #[] #[],.func (.func 97) #[] #[]] 105 (pg) ?_));intro v1 p a j B;have v:=Nat.le_trans A.size j;have d:=A.new j;replace A:=A.keep B;clear B;refine ta 7 [.int .u64 x0,.int .u64 x1,.int .u64 x2,.int .u64 x3,.int .u64 x4,.int .u64 x5] 42 (pg) ?_
 intro C t b i B;have x:=Nat.le_trans A.size i;have c:=A.new i;replace A:=A.keep B;replace a:=a.keep B;clear B;refine ae (aa ?_);replace A:=A.drew;replace a:=a.drew;replace b:=b.drew;refine bH (fun r=>Blk r p [.int .i64 12,.func (.func 95) #[] #[],.func (.func 96) #[] #[],.func (.func 97) #[] #[]] 105/\Blk r t [.int .u64 x0,.int .u64 x1,.int .u64 x2,.int .u64 x3,.int .u64 x4,.int .u64 x5] 42) (fun _=>false) ⟨a,b⟩ ?_
 refine z 0 8 (pg g) (z 1 9 (pg p) (zl 2 10 (.int .i64 12) (fun _ h=>h.1) 0 (z 3 11 (.int .u64 id) (z 5 13 (pq p 1) (zl 6 14 (.func (.func 95) #[] #[]) (fun _ h=>h.1) 1 (zlr 7 15 [.int .u64 x0,.int .u64 x1,.int .u64 x2,.int .u64 x3,.int .u64 x4,.int .u64 x5] (fun _ h=>h.2) 0 (zc 4 12 64 #[.int .i64 12,.int .u64 id,.int .u64 0] (oe o (gN id)) ?_)))))));rintro _ y ⟨q,rfl,f,B⟩;replace A:=A.keep B;replace a:=a.keep B;replace b:=b.keep B;clear B;refine⟨_,rfl,⟨a,b⟩,?_⟩;refine zc 8 16 95 #[.agg #[.int .u64 x0,.int .u64 x1,.int .u64 x2,.int .u64 x3,.int .u64 x4,.int .u64 x5]] (nZ) ?_
 rintro _ v10 ⟨m,rfl,l,B⟩;replace A:=A.keep B;replace a:=a.keep B;replace b:=b.keep B;replace f:=ay f B;clear B;refine⟨_,rfl,⟨a,b⟩,?_⟩;refine zc 9 17 33 #[pg g,q,m] (qf A.sx f (gN id) l (Nat.le_trans (pZ ..) (by decide)) (by omega) (by omega)) ?_
 rintro _ u ⟨rfl,s,S,k,e⟩;replace d:=opX a d k e;replace a:=d.1;replace d:=d.2;replace c:=opX b c k e;replace b:=c.1;replace c:=c.2;replace f:=A.byu f e;replace l:=A.byu l e;replace A:=A.op S k e;clear S k e;clear f;clear l;refine⟨_,rfl,⟨a,b⟩,?_⟩;refine bC (j1 (.tuple #[]) (rs0 (by kernel_rfl)) ?_);exact⟨rfl,_,A.sx,A.km,A.cc⟩
theorem EK(h:Sx B w K g E W n N)(x:0<=id/\id < 18446744073709551616)(hn:n+5<=4000000000000000000)(M:N+5<=100000000):Calls Tryz.prog 66 #[pg g,.agg #[.int .i64 12,.func (.func 95) #[] #[],.func (.func 96) #[] #[],.func (.func 97) #[] #[]],.int .u64 id] w (SxE B w K g E W (n+1) N (.tuple #[.agg (uA (got E (Ky.mk 12 id 0))),.bool (Kv.look E (Ky.mk 12 id 0)).isSome])):=by
 have A:=h.at
 refine aB (n:=30) Tryz.func66 rfl (by kernel_rfl) (by kernel_rfl) ?_
 refine ab (af (ta 4 [.int .i64 12,.func (.func 95) #[] #[],.func (.func 96) #[] #[],.func (.func 97) #[] #[]] 105 (pg) ?_));intro v1 q a s B;have I:=Nat.le_trans A.size s;have u:=A.new s;replace A:=A.keep B;clear B;have r:=a.lt;refine ta 6 [.int .u64 0,.int .u64 0,.int .u64 0,.int .u64 0,.int .u64 0,.int .u64 0] 42 (pg) ?_
 intro L m b p B;have z:=Nat.le_trans A.size p;have f:=A.new p;replace A:=A.keep B;replace a:=a.keep B;clear B;refine t 7 (.bool false) (ae (aa (ab (af (t 13 (pg g) (t 14 (pg q) (tl 15 (.int .i64 12) a 0 (t 16 (.int .u64 id) (tc 17 64 #[.int .i64 12,.int .u64 id,.int .u64 0] (oe x (gN id)) ?_)))))))));rintro _ J ⟨y,rfl,e,B⟩;refine⟨_,rfl,?_⟩;replace A:=A.keep B;replace a:=a.keep B;replace b:=b.keep B;clear B;refine tc 18 63 #[pg g,y] (DG A.sx e (by omega) (by omega)) ?_
 rintro _ v10 ⟨d,rfl,v,S,o⟩;refine⟨_,rfl,?_⟩;replace a:=a.chg o u;replace b:=b.chg o f;replace e:=A.byu e o;replace A:=A.op S (fun _ h=>.inl h) o;clear S o;refine t 12 (.tuple #[d,.bool (Kv.look E (Ky.mk 12 id 0)).isSome]) (t 19 (d) (t 20 (.bool (Kv.look E (Ky.mk 12 id 0)).isSome) (t 8 (d) (t 9 (.bool (Kv.look E (Ky.mk 12 id 0)).isSome) (ae (aa (aC [(4,pg q),(6,pg m),(7,.bool false),(8,d),(9,.bool (Kv.look E (Ky.mk 12 id 0)).isSome)] (by kernel_rfl) (ab (af (t 22 (pq q 2) (tl 23 (.func (.func 96) #[] #[]) a 2 (t 24 (d) (tc 25 96 #[d] (pd v (Sx.qF A.sx _)) ?_)))))))))))));rintro _ v11 ⟨rfl,B⟩;refine⟨_,rfl,?_⟩;replace A:=A.keep B;replace a:=a.keep B;replace b:=b.keep B;replace e:=ay e B;replace v:=ay v B;clear B;clear v;refine t 21 (.tuple #[.agg (uA (got E (Ky.mk 12 id 0))),.int .i64 (Rc.aU (Rc.aH (got E (Ky.mk 12 id 0))))]) (t 26 (.agg (uA (got E (Ky.mk 12 id 0)))) (t 27 (.int .i64 (Rc.aU (Rc.aH (got E (Ky.mk 12 id 0))))) ?_));have r:=a.lt;have D:=b.lt;refine ta 10 [.int .u64 0,.int .u64 0,.int .u64 0,.int .u64 0,.int .u64 0,.int .u64 0] 42 (pg) ?_
 intro H k c i B;have l:=Nat.le_trans A.size i;have j:=A.new i;replace A:=A.keep B;replace a:=a.keep B;replace b:=b.keep B;replace e:=ay e B;clear B;refine ts c 0 (.agg (uA (got E (Ky.mk 12 id 0)))) (uL (got E (Ky.mk 12 id 0))) (uL (got E (Ky.mk 12 id 0))) ?_
 intro G Y C;replace A:=Bk.At.cell A c C l j (by decide);replace a:=a.chg C (show q≠k by omega);replace b:=b.chg C (show m≠k by omega);replace e:=bO e c C (by decide);clear C c;have c:=Y;clear Y;refine t 11 (.int .i64 (Rc.aU (Rc.aH (got E (Ky.mk 12 id 0))))) (ae (aa (ab (af (tlr 28 (uL (got E (Ky.mk 12 id 0))) c 0 (t 29 (.bool (Kv.look E (Ky.mk 12 id 0)).isSome) (ts b 0 (.agg (uA (got E (Ky.mk 12 id 0)))) (uL (got E (Ky.mk 12 id 0))) (uL (got E (Ky.mk 12 id 0))) ?_)))))));intro F Y C;replace A:=Bk.At.cell A b C z f (by decide);replace a:=a.chg C (show q≠m by omega);replace e:=bO e b C (by decide);replace c:=c.chg C (show k≠m by omega);clear C b;have b:=Y;clear Y;refine t 7 (.bool (Kv.look E (Ky.mk 12 id 0)).isSome) (ae (aa (aC [(6,pg m),(7,.bool (Kv.look E (Ky.mk 12 id 0)).isSome)] (by kernel_rfl) (aF (aE (.tuple #[.agg (uA (got E (Ky.mk 12 id 0))),.bool (Kv.look E (Ky.mk 12 id 0)).isSome]) (iL 6 7 (T:=42) (by kernel_rfl) (by kernel_rfl) (by kernel_rfl) (lr b 0)) ?_)))));exact⟨rfl,_,A.sx,A.km,A.cc⟩
end
end Qu
end
section
namespace Bk
open Go.RowKit Go.Lib Pg Lim Gl Kv
attribute [local go_sem] Oper.semAt_some
set_option linter.unusedSimpArgs false
set_option linter.unusedVariables false
section
variable {l:List Int}{w:World}{K D:Nat->Prop}{g n N:Nat}{E:ax}{W:List ax}
theorem qp{err:Int}(b:aZ l):0<=rdV 0 (bM 8 l) err/\rdV 0 (bM 8 l) err < 18446744073709551616:=by
 unfold rdV bM;split
 ·split
  ·exact⟨Int.le_refl _,by decide⟩
  ·rename_i a;split at a
   ·cases a;have:=bF (l:=l.take 8) (fun x hx=>b x (List.mem_of_mem_take hx));rw[List.length_take,Nat.min_eq_left (by assumption)] at this;exact this
   ·cases a
 ·exact⟨Int.le_refl _,by decide⟩
theorem xe(a:Oct l):(0<=rE l/\rE l < 18446744073709551616)/\(0<=zt l/\zt l < 18446744073709551616):=by
 have b:aZ (rdL (bM 8 l) 0 l):=by
  unfold rdL;split
  ·split
   ·exact a
   ·exact fun x hx=>a x (List.mem_of_mem_drop hx)
  ·exact a
 have e:Rc.ig l=Rc.rnx 0 1 (Rc.rnx 0 0 (0,l,fun _=>0)):=rfl;unfold rE zt Rc.aS;rw[e];split
 ·exact⟨qp (err:=0) a,qp b⟩
 ·exact⟨⟨Int.le_refl _,by decide⟩,Int.le_refl _,by decide⟩
theorem SA.octv(h:SA w K D g E W n N):∀ x∈E,Oct x.2:=by
 obtain⟨F,V,m,Q,f,T,j,b,rfl,i⟩:=h.open;obtain⟨L,rfl,A,O,S,k,r⟩:=b.map.ex;intro x hx;rw[dp] at hx;obtain⟨e,he,rfl⟩:=List.mem_map.1 hx;obtain⟨es,c,a⟩:=List.mem_flatten.1 he;obtain⟨p,d,rfl⟩:=List.mem_map.1 c;exact((A.cy p d).1.bX e a).v.oct
theorem Sx.oct{B:Nat}(h:Sx B w K g E W n N)(k:List Int):Oct ((Kv.look E k).getD []):=by
 cases e:Kv.look E k with
 | none=>exact fun x hx=>by simp at hx
 | some v=>exact SA.octv h.sa _ (Kv.l9 e)
end
end Bk
end
section
namespace Qu
open Go.RowKit Go.Lib Pg Lim Gl Kv Bk Pw
attribute [local go_sem] Oper.semAt_some
set_option linter.unusedVariables false
set_option linter.unusedSimpArgs false
section
variable {n m1 c1 m2 c2 B g N q:Nat}{w:World}{c:Code}{a1 a2:Option Addr}{ρ:Operand->Value}{o:Oper}{l:List Int}{K:Nat->Prop}{E:ax}{W:List ax}{x0 x1 x2 x3 x4 x5 id y:Int}
theorem pB{P:Program}{ds:List Deferred}{l:Fr}{Q:Exit->Act->World->Prop}(k:Nat)(h:GC P n ds c (Exit.then (Code.rounds P c Q k) Q) l w):GC P n ds (Code.loop c) Q l w:=⟨fun a r=>wp_loop_rounds (k+1) (h.out a r)⟩
theorem kK{P:Program}{ds:List Deferred}{l:Fr}{Q b:Exit->Act->World->Prop}{k:Nat}(h:GC P n ds c (Exit.then (Code.rounds P c Q k) Q) l w):GE n ds (Exit.then (Code.rounds P c Q (k+1)) b) .normal l w:=⟨fun a r=>h.out a r⟩
theorem CH:(Instr.index 168 (.agg #[.slice a1 m1 c1,.slice a2 m2 c2]) (.int .i64 0)).run Tryz.prog w=.ok (.slice a1 m1 c1) w:=by
 unfold Instr.index;go_simp
theorem Di:(Instr.index 168 (.agg #[.slice a1 m1 c1,.slice a2 m2 c2]) (.int .i64 1)).run Tryz.prog w=.ok (.slice a2 m2 c2) w:=by
 unfold Instr.index;go_simp
theorem cS(X i v:Value)(f:(Instr.index 168 X i).run Tryz.prog w=.ok v w)(b:∃ u y,o.op=.index 168 u y/\ρ u=X/\ρ y=i:=by exact⟨_,_,rfl,by kernel_rfl,by kernel_rfl⟩):(execOp ρ o).run Tryz.prog w=.ok (.value v) w:=by
 obtain⟨u,y,h,d,c⟩:=b;simp only[execOp,h,d,c];go_simp
theorem jX(k:Int)(b:0<=k/\k < 18446744073709551616)(c:∃ u,o.op=.convert 3 22 u/\ρ u=.int .i64 k:=by exact⟨_,rfl,by kernel_rfl⟩):(execOp ρ o).run Tryz.prog w=.ok (.value (.int .u64 k)) w:=by
 obtain⟨u,h,d⟩:=c;simp only[execOp,h,d];go_simp;rw[IntKind.wrap_u64,Int.emod_eq_of_lt b.1 b.2]
theorem lG(ho:Oct l):0<=aI l/\aI l < 18446744073709551616:=(xe ho).2
def eU(E:ax)(k:Int)(r:List Int)(a b d:Int):ax :=
 let i:=aI (chn E)
 let E1:=put (put (put (dD E) (Ky.mk k i 0) r) (Ky.mk 14 d i) (nv k)) (Ky.mk 15 b i) (nv k)
 pW E1 a b ((dr E1 a b+1) % 18446744073709551616)
theorem beginU(h:Sx B w K g E W n N)(H:0<=x0/\x0 < 18446744073709551616)(Q:0<=x1/\x1 < 18446744073709551616)(O:0<=x3/\x3 < 18446744073709551616)(hn:n+20<=4000000000000000000)(hN:N+20<=100000000):Calls Tryz.prog 39 #[pg g,.agg #[.int .i64 12,.func (.func 95) #[] #[],.func (.func 96) #[] #[],.func (.func 97) #[] #[]],.agg #[.int .u64 x0,.int .u64 x1,.int .u64 x2,.int .u64 x3,.int .u64 x4,.int .u64 x5]] w (SxE B w K g (eU E 12 (uv x0 x1 x2 x3 x4 x5) x0 x1 x3) W (n+7) (N+10) (.int .u64 (aI (chn E)))):=by
 have P:0<=aI (chn E)/\aI (chn E) < 18446744073709551616:=lG (h.oct _);have A:=h.at
 refine aB (n:=47) Tryz.func39 rfl (by kernel_rfl) (by kernel_rfl) ?_
 refine ab (af (ta 4 [.int .i64 12,.func (.func 95) #[] #[],.func (.func 96) #[] #[],.func (.func 97) #[] #[]] 105 (pg) ?_));intro v1 v e M B;have zg2:=Nat.le_trans A.size M;have b:=A.new M;replace A:=A.keep B;clear B;have L:=e.lt;refine ta 5 [.int .u64 x0,.int .u64 x1,.int .u64 x2,.int .u64 x3,.int .u64 x4,.int .u64 x5] 42 (pg) ?_
 intro v3 R f J B;have zg4:=Nat.le_trans A.size J;have a:=A.new J;replace A:=A.keep B;replace e:=e.keep B;clear B;refine t 6 (.int .u64 0) (ae (aa (ab (af (t 11 (pg g) (tc 12 90 #[pg g] (fU A.sx (by omega) (by omega)) ?_))))));rintro _ v6 ⟨rfl,K5,S,q,p⟩;refine⟨_,rfl,?_⟩;replace b:=opX e b q p;replace e:=b.1;replace b:=b.2;replace a:=opX f a q p;replace f:=a.1;replace a:=a.2;replace A:=A.op S q p;clear S q p;refine t 7 (.int .u64 (aI (chn E))) (ae (aa (ab (af (t 13 (pg g) (tlr 14 [.int .i64 12,.func (.func 95) #[] #[],.func (.func 96) #[] #[],.func (.func 97) #[] #[]] e 0 (t 15 (.int .u64 (aI (chn E))) (tlr 16 [.int .u64 x0,.int .u64 x1,.int .u64 x2,.int .u64 x3,.int .u64 x4,.int .u64 x5] f 0 (tc 17 91 #[pg g,.agg #[.int .i64 12,.func (.func 95) #[] #[],.func (.func 96) #[] #[],.func (.func 97) #[] #[]],.int .u64 (aI (chn E)),.agg #[.int .u64 x0,.int .u64 x1,.int .u64 x2,.int .u64 x3,.int .u64 x4,.int .u64 x5]] (layU A.sx P (by omega) (by omega)) ?_)))))))));rintro _ v8 ⟨rfl,K7,S,q,p⟩;refine⟨_,rfl,?_⟩;replace b:=opX e b q p;replace e:=b.1;replace b:=b.2;replace a:=opX f a q p;replace f:=a.1;replace a:=a.2;replace A:=A.op S q p;clear S q p;refine ae (aa (aC [(0,pg g),(4,pg v),(5,pg R),(6,.int .u64 0),(7,.int .u64 (aI (chn E)))] (by kernel_rfl) (ab (af (t 18 (pq v 3) (tl 19 (.func (.func 97) #[] #[]) e 3 (tlr 20 [.int .u64 x0,.int .u64 x1,.int .u64 x2,.int .u64 x3,.int .u64 x4,.int .u64 x5] f 0 (tc 21 97 #[.agg #[.int .u64 x0,.int .u64 x1,.int .u64 x2,.int .u64 x3,.int .u64 x4,.int .u64 x5]] (yD) ?_))))))));rintro _ v9 ⟨rfl,B⟩;refine⟨_,rfl,?_⟩;replace A:=A.keep B;replace e:=e.keep B;replace f:=f.keep B;clear B;have L:=e.lt;have T:=f.lt;refine ta 8 [.int .u64 0,.int .u64 0,.int .u64 0] 167 (pg) ?_
 intro v10 s d F B;have I:=Nat.le_trans A.size F;have c:=A.new F;replace A:=A.keep B;replace e:=e.keep B;replace f:=f.keep B;clear B;refine ts d 0 (.agg #[.int .u64 x0,.int .u64 x1,.int .u64 x3]) [.int .u64 x0,.int .u64 x1,.int .u64 x3] [.int .u64 x0,.int .u64 x1,.int .u64 x3] ?_
 intro v12 Y C;replace A:=Bk.At.cell A d C I c (by decide);replace e:=e.chg C (show v≠s by omega);replace f:=f.chg C (show R≠s by omega);clear C d;have d:=Y;clear Y;refine ae (aa (ab (ab (af (tlr 22 [.int .u64 x0,.int .u64 x1,.int .u64 x3] d 0 (t 23 (.int .u64 (aI (chn E))) (tc 24 92 #[.agg #[.int .u64 x0,.int .u64 x1,.int .u64 x3],.int .u64 (aI (chn E))] (ia Q O) ?_)))))));rintro _ X ⟨i,j,k,l,m,o,rfl,u,r,B⟩;refine⟨_,rfl,?_⟩;replace A:=A.keep B;replace e:=e.keep B;replace f:=f.keep B;replace d:=d.keep B;clear B;refine t 25 (.int .i64 0) (ae (aa (bp (pB 2 ?_))));refine ab (af (t 26 (.bool true) (ae (aa (ab (aO (aJ (aa (ab (bp (ab (af (tr 27 (.slice i j k) (cS (.agg #[.slice i j k,.slice l m o]) (.int .i64 0) (.slice i j k) CH) (t 10 (.slice i j k) (ae (aa (aC [(0,pg g),(4,pg v),(6,.int .u64 0),(7,.int .u64 (aI (chn E))),(8,pg s),(10,.slice i j k),(24,.agg #[.slice i j k,.slice l m o]),(25,.int .i64 0),(26,.bool true),(27,.slice i j k)] (by kernel_rfl) (af (t 28 (pg g) (t 29 (.slice i j k) (t 30 (pg v) (tl 31 (.int .i64 12) e 0 (tr 32 (.int .u64 12) (jX 12 ⟨by decide,by decide⟩) (tc 33 93 #[.int .u64 12] (fb) ?_))))))))))))))))))))))));rintro _ Z ⟨G,rfl,y,B⟩;refine⟨_,rfl,?_⟩;replace A:=A.keep B;replace e:=e.keep B;replace f:=f.keep B;replace d:=d.keep B;replace u:=ay u B;replace r:=ay r B;clear B;refine tc 34 33 #[pg g,.slice i j k,G] (qf A.sx u (ju x3 (aI (chn E))) y (Nat.le_trans (eT _) (by decide)) (by omega) (by omega)) ?_
 rintro _ U ⟨rfl,ag,S,q,p⟩;refine⟨_,rfl,?_⟩;replace b:=opX e b q p;replace e:=b.1;replace b:=b.2;replace a:=opX f a q p;replace f:=a.1;replace a:=a.2;replace c:=opX d c q p;replace d:=c.1;replace c:=c.2;replace u:=A.byu u p;replace r:=A.byu r p;replace y:=A.byu y p;replace A:=A.op S q p;clear S q p;clear u;clear y;refine ae (dm (aa (af (t 35 (.int .i64 1) (t 25 (.int .i64 1) (ae (kK ?_)))))));refine aC [(0,pg g),(4,pg v),(6,.int .u64 0),(7,.int .u64 (aI (chn E))),(8,pg s),(10,.slice i j k),(24,.agg #[.slice i j k,.slice l m o]),(25,.int .i64 1),(26,.bool true),(27,.slice i j k),(28,pg g),(29,.slice i j k),(30,pg v),(31,.int .i64 12),(32,.int .u64 12),(33,G),(35,.int .i64 1)] (by kernel_rfl) (ab (af (t 26 (.bool true) (ae (aa (ab (aO (aJ (aa (ab (bp (ab (af (tr 27 (.slice l m o) (cS (.agg #[.slice i j k,.slice l m o]) (.int .i64 1) (.slice l m o) Di) (t 10 (.slice l m o) (ae (aa (af (t 28 (pg g) (t 29 (.slice l m o) (t 30 (pg v) (tl 31 (.int .i64 12) e 0 (tr 32 (.int .u64 12) (jX 12 ⟨by decide,by decide⟩) (tc 33 93 #[.int .u64 12] (fb) ?_))))))))))))))))))))))));rintro _ V ⟨D,rfl,x,B⟩;refine⟨_,rfl,?_⟩;replace A:=A.keep B;replace e:=e.keep B;replace f:=f.keep B;replace d:=d.keep B;replace r:=ay r B;clear B;refine tc 34 33 #[pg g,.slice l m o,D] (qf A.sx r (jL x1 (aI (chn E))) x (Nat.le_trans (eT _) (by decide)) (by omega) (by omega)) ?_
 rintro _ ai ⟨rfl,ac,S,q,p⟩;refine⟨_,rfl,?_⟩;replace b:=opX e b q p;replace e:=b.1;replace b:=b.2;replace a:=opX f a q p;replace f:=a.1;replace a:=a.2;replace c:=opX d c q p;replace d:=c.1;replace c:=c.2;replace r:=A.byu r p;replace x:=A.byu x p;replace A:=A.op S q p;clear S q p;clear r;clear x;refine ae (dm (aa (af (t 35 (.int .i64 2) (t 25 (.int .i64 2) (ae (kK ?_)))))));refine aC [(0,pg g),(4,pg v),(6,.int .u64 0),(7,.int .u64 (aI (chn E))),(8,pg s),(10,.slice l m o),(24,.agg #[.slice i j k,.slice l m o]),(25,.int .i64 2),(26,.bool true),(27,.slice l m o),(28,pg g),(29,.slice l m o),(30,pg v),(31,.int .i64 12),(32,.int .u64 12),(33,D),(35,.int .i64 2)] (by kernel_rfl) (ab (af (t 26 (.bool false) (ae (aa (ab (aV (dM (dC (dC (gp (aa (ab ?_)))))))))))));replace A:=A.drew;replace e:=e.drew;replace f:=f.drew;replace d:=d.drew;refine bH (fun w'=>Blk w' s [.int .u64 x0,.int .u64 x1,.int .u64 x3] 167) (fun _=>false) d ?_
 refine zlr 0 36 [.int .u64 x0,.int .u64 x1,.int .u64 x3] (fun _ h=>h) 0 (z 1 37 (pg g) (z 2 38 (pg g) (z 3 39 (pg s) (zl 4 40 (.int .u64 x0) (fun _ h=>h) 0 (z 5 41 (pq s 1) (zl 6 42 (.int .u64 x1) (fun _ h=>h) 1 (zc 7 43 24 #[pg g,.int .u64 x0,.int .u64 x1] (ek A.sx H (by omega) (by omega)) ?_)))))));rintro _ v28 ⟨rfl,ad,S,q,p⟩;replace b:=opX e b q p;replace e:=b.1;replace b:=b.2;replace a:=opX f a q p;replace f:=a.1;replace a:=a.2;replace c:=opX d c q p;replace d:=c.1;replace c:=c.2;replace A:=A.op S q p;clear S q p;refine⟨_,rfl,d,?_⟩;refine zq 8 44 (.int .u64 (IntKind.u64.wrap (dr (put (put (put (dD E) (Ky.mk 12 (aI (chn E)) 0) (uv x0 x1 x2 x3 x4 x5)) (Ky.mk 14 x3 (aI (chn E))) (nv 12)) (Ky.mk 15 x1 (aI (chn E))) (nv 12)) x0 x1+1))) (.int .u64 ((dr (put (put (put (dD E) (Ky.mk 12 (aI (chn E)) 0) (uv x0 x1 x2 x3 x4 x5)) (Ky.mk 14 x3 (aI (chn E))) (nv 12)) (Ky.mk 15 x1 (aI (chn E))) (nv 12)) x0 x1+1) % 18446744073709551616)) (congrArg (Value.int .u64) (IntKind.wrap_u64 _)) (zc 9 45 94 #[.agg #[.int .u64 x0,.int .u64 x1,.int .u64 x3],pg g,.int .u64 ((dr (put (put (put (dD E) (Ky.mk 12 (aI (chn E)) 0) (uv x0 x1 x2 x3 x4 x5)) (Ky.mk 14 x3 (aI (chn E))) (nv 12)) (Ky.mk 15 x1 (aI (chn E))) (nv 12)) x0 x1+1) % 18446744073709551616)] (count_set A.sx H (by omega) (by omega)) ?_);rintro _ v30 ⟨rfl,ah,S,q,p⟩;replace b:=opX e b q p;replace e:=b.1;replace b:=b.2;replace a:=opX f a q p;replace f:=a.1;replace a:=a.2;replace c:=opX d c q p;replace d:=c.1;replace c:=c.2;replace A:=A.op S q p;clear S q p;refine⟨_,rfl,d,?_⟩;refine bC (aa (ab (af (t 46 (.int .u64 (aI (chn E))) (t 6 (.int .u64 (aI (chn E))) (ae (aa (aC [(6,.int .u64 (aI (chn E)))] (by kernel_rfl) (aF (aE (.int .u64 (aI (chn E))) (rs1 6 (by kernel_rfl) (by kernel_rfl)) ?_))))))))));exact⟨rfl,_,A.sx,A.km,A.cc⟩
theorem rr0{s:Rc.RSt}{o:Nat}(h:Oct s.2.1/\∀ i,i < 6->0<=s.2.2 i/\s.2.2 i < 18446744073709551616):Oct (Rc.rnx 0 o s).2.1/\∀ i,i < 6->0<=(Rc.rnx 0 o s).2.2 i/\(Rc.rnx 0 o s).2.2 i < 18446744073709551616:=by
 refine⟨?_,fun i hi=>?_⟩
 ·show Oct (rdL (bM 8 s.2.1) s.1 s.2.1)
  unfold rdL;split
  ·split
   ·exact h.1
   ·exact fun x hx=>h.1 x (List.mem_of_mem_drop hx)
  ·exact h.1
 ·show 0<=(if i=o then rdV 0 (bM 8 s.2.1) s.1 else s.2.2 i)/\(if i=o then rdV 0 (bM 8 s.2.1) s.1 else s.2.2 i) < 18446744073709551616
  split
  ·exact qp h.1
  ·exact h.2 i hi
theorem eN(a:Oct l)(i:Nat)(hi:i < 6:=by decide):0<=uX l i/\uX l i < 18446744073709551616:=by
 have h:=rr0 (o:=5) (rr0 (o:=4) (rr0 (o:=3) (rr0 (o:=2) (rr0 (o:=1) (rr0 (o:=0) (s:=(0,l,fun _=>0)) ⟨a,fun _ _=>⟨Int.le_refl _,(by decide:(0:Int) < 18446744073709551616)⟩⟩)))))
 have e:Rc.aH l=Rc.rnx 0 5 (Rc.rnx 0 4 (Rc.rnx 0 3 (Rc.rnx 0 2 (Rc.rnx 0 1 (Rc.rnx 0 0 (0,l,fun _=>0)))))):=rfl;unfold uX Rc.aS;rw[e];split
 ·exact h.2 i hi
 ·exact⟨Int.le_refl _,(by decide:(0:Int) < 18446744073709551616)⟩
def sG(E:ax)(k id a b d:Int):ax :=
 let E1:=rem (rem (rem E (Ky.mk k id 0)) (Ky.mk 14 d id)) (Ky.mk 15 b id)
 pW E1 a b ((dr E1 a b - 1) % 18446744073709551616)
def mR(E:ax)(id:Int):ax:=if (Kv.look E (Ky.mk 12 id 0)).isSome=true then sG E 12 id (uX (got E (Ky.mk 12 id 0)) 0) (uX (got E (Ky.mk 12 id 0)) 1) (uX (got E (Ky.mk 12 id 0)) 3) else E
def gR(E:ax)(id y:Int):ax:=if (Kv.look E (Ky.mk 12 id 0)).isSome=true then put E (Ky.mk 12 id 0) (uv (uX (got E (Ky.mk 12 id 0)) 0) (uX (got E (Ky.mk 12 id 0)) 1) (uX (got E (Ky.mk 12 id 0)) 2) (uX (got E (Ky.mk 12 id 0)) 3) (uX (got E (Ky.mk 12 id 0)) 4) y) else E
theorem pR{b:Bool}(h:Sx B w K g E W n N)(a:0<=id/\id < 18446744073709551616)(hn:n+5<=4000000000000000000)(c:N+5<=100000000)(hb:(Kv.look E (Ky.mk 12 id 0)).isSome=b):Calls Tryz.prog 66 #[pg g,.agg #[.int .i64 12,.func (.func 95) #[] #[],.func (.func 96) #[] #[],.func (.func 97) #[] #[]],.int .u64 id] w (SxE B w K g E W (n+1) N (.tuple #[.agg (uA (got E (Ky.mk 12 id 0))),.bool b])):=by
 subst hb;exact EK h a hn c
theorem endU(h:Sx B w K g E W n N)(G:0<=id/\id < 18446744073709551616)(hn:n+20<=4000000000000000000)(hN:N+20<=100000000):Calls Tryz.prog 53 #[pg g,.agg #[.int .i64 12,.func (.func 95) #[] #[],.func (.func 96) #[] #[],.func (.func 97) #[] #[]],.int .u64 id] w (SxF B w K g (mR E id) W n N (.bool (Kv.look E (Ky.mk 12 id 0)).isSome)):=by
 have A:=h.at
 refine aB (n:=51) Tryz.func53 rfl (by kernel_rfl) (by kernel_rfl) ?_
 refine ab (af (ta 4 [.int .i64 12,.func (.func 95) #[] #[],.func (.func 96) #[] #[],.func (.func 97) #[] #[]] 105 (pg) ?_));intro v1 H c P B;have zg2:=Nat.le_trans A.size P;have a:=A.new P;replace A:=A.keep B;clear B;refine t 6 (.bool false) (ae (aa (ab (af (t 13 (pg g) (tlr 14 [.int .i64 12,.func (.func 95) #[] #[],.func (.func 96) #[] #[],.func (.func 97) #[] #[]] c 0 (t 15 (.int .u64 id) ?_)))))));by_cases I:(Kv.look E (Ky.mk 12 id 0)).isSome=true
 ·refine tc 16 66 #[pg g,.agg #[.int .i64 12,.func (.func 95) #[] #[],.func (.func 96) #[] #[],.func (.func 97) #[] #[]],.int .u64 id] (pR A.sx G (by omega) (by omega) I) ?_
  rintro _ v5 ⟨rfl,K4,S,q,i⟩;refine⟨_,rfl,?_⟩;replace a:=opX c a q i;replace c:=a.1;replace a:=a.2;replace A:=A.op S q i;clear S q i;refine t 12 (.tuple #[.agg (uA (got E (Ky.mk 12 id 0))),.bool true]) (t 17 (.agg (uA (got E (Ky.mk 12 id 0)))) (t 18 (.bool true) ?_));have y:=c.lt;refine ta 7 [.int .u64 0,.int .u64 0,.int .u64 0,.int .u64 0,.int .u64 0,.int .u64 0] 42 (pg) ?_
  intro v6 T f M B;have U:=Nat.le_trans A.size M;have d:=A.new M;replace A:=A.keep B;replace c:=c.keep B;clear B;refine ts f 0 (.agg (uA (got E (Ky.mk 12 id 0)))) (uL (got E (Ky.mk 12 id 0))) (uL (got E (Ky.mk 12 id 0))) ?_
  intro v8 Y C;replace A:=Bk.At.cell A f C U d (by decide);replace c:=c.chg C (show H≠T by omega);clear C f;have f:=Y;clear Y;refine t 8 (.bool true) (ae (aa (aC [(0,pg g),(2,.int .u64 id),(4,pg H),(6,.bool false),(7,pg T),(8,.bool true)] (by kernel_rfl) (ab (ab (af (t 19 (.bool true) (t 20 (.bool false) (ae (aa (aV (aJ (aa (ab (af (t 21 (pg g) (t 22 (pg H) (tl 23 (.int .i64 12) c 0 (t 24 (.int .u64 id) (tc 25 64 #[.int .i64 12,.int .u64 id,.int .u64 0] (oe G (gN id)) ?_))))))))))))))))))));rintro _ v11 ⟨J,rfl,R,B⟩;refine⟨_,rfl,?_⟩;replace A:=A.keep B;replace c:=c.keep B;replace f:=f.keep B;clear B;refine tc 26 107 #[pg g,J] (sV A.sx R (Nat.le_trans (Ky.bZ _ _ _) (by decide)) (by omega) (by omega)) ?_
  rintro _ X ⟨rfl,an,S,q,i⟩;refine⟨_,rfl,?_⟩;replace a:=opX c a q i;replace c:=a.1;replace a:=a.2;replace d:=opX f d q i;replace f:=d.1;replace d:=d.2;replace R:=A.byu R i;replace A:=A.op S q i;clear S q i;clear R;refine ae (aa (ab (af (t 27 (pq H 3) (tl 28 (.func (.func 97) #[] #[]) c 3 (tlr 29 (uL (got E (Ky.mk 12 id 0))) f 0 (tc 30 97 #[.agg (uA (got E (Ky.mk 12 id 0)))] (yD) ?_)))))));rintro _ ao ⟨rfl,B⟩;refine⟨_,rfl,?_⟩;replace A:=A.keep B;replace c:=c.keep B;replace f:=f.keep B;clear B;have y:=c.lt;have V:=f.lt;refine ta 9 [.int .u64 0,.int .u64 0,.int .u64 0] 167 (pg) ?_
  intro ac r e D B;have L:=Nat.le_trans A.size D;have b:=A.new D;replace A:=A.keep B;replace c:=c.keep B;replace f:=f.keep B;clear B;refine ts e 0 (.agg #[.int .u64 (uX (got E (Ky.mk 12 id 0)) 0),.int .u64 (uX (got E (Ky.mk 12 id 0)) 1),.int .u64 (uX (got E (Ky.mk 12 id 0)) 3)]) [.int .u64 (uX (got E (Ky.mk 12 id 0)) 0),.int .u64 (uX (got E (Ky.mk 12 id 0)) 1),.int .u64 (uX (got E (Ky.mk 12 id 0)) 3)] [.int .u64 (uX (got E (Ky.mk 12 id 0)) 0),.int .u64 (uX (got E (Ky.mk 12 id 0)) 1),.int .u64 (uX (got E (Ky.mk 12 id 0)) 3)] ?_
  intro al Y C;replace A:=Bk.At.cell A e C L b (by decide);replace c:=c.chg C (show H≠r by omega);replace f:=f.chg C (show T≠r by omega);clear C e;have e:=Y;clear Y;refine ae (aa (aC [(0,pg g),(2,.int .u64 id),(6,.bool false),(9,pg r)] (by kernel_rfl) (ab (ab (af (tlr 31 [.int .u64 (uX (got E (Ky.mk 12 id 0)) 0),.int .u64 (uX (got E (Ky.mk 12 id 0)) 1),.int .u64 (uX (got E (Ky.mk 12 id 0)) 3)] e 0 (t 32 (.int .u64 id) (tc 33 92 #[.agg #[.int .u64 (uX (got E (Ky.mk 12 id 0)) 0),.int .u64 (uX (got E (Ky.mk 12 id 0)) 1),.int .u64 (uX (got E (Ky.mk 12 id 0)) 3)],.int .u64 id] (ia (eN (h.oct _) 1) (eN (h.oct _) 3)) ?_))))))));rintro _ Z ⟨j,k,o,m,l,p,rfl,v,u,B⟩;refine⟨_,rfl,?_⟩;replace A:=A.keep B;replace c:=c.keep B;replace f:=f.keep B;replace e:=e.keep B;clear B;refine t 34 (.int .i64 0) (ae (aa (bp (pB 2 ?_))));refine ab (af (t 35 (.bool true) (ae (aa (ab (aO (aJ (aa (ab (bp (ab (af (tr 36 (.slice j k o) (cS (.agg #[.slice j k o,.slice m l p]) (.int .i64 0) (.slice j k o) CH) (t 11 (.slice j k o) (ae (aa (af (t 37 (pg g) (t 38 (.slice j k o) (tc 39 107 #[pg g,.slice j k o] (sV A.sx v (Nat.le_trans (Ky.bZ _ _ _) (by decide)) (by omega) (by omega)) ?_))))))))))))))))))));rintro _ v23 ⟨rfl,ap,S,q,i⟩;refine⟨_,rfl,?_⟩;replace a:=opX c a q i;replace c:=a.1;replace a:=a.2;replace d:=opX f d q i;replace f:=d.1;replace d:=d.2;replace b:=opX e b q i;replace e:=b.1;replace b:=b.2;replace v:=A.byu v i;replace u:=A.byu u i;replace A:=A.op S q i;clear S q i;clear v;refine ae (dm (aa (af (t 40 (.int .i64 1) (t 34 (.int .i64 1) (ae (kK ?_)))))));refine aC [(0,pg g),(6,.bool false),(9,pg r),(11,.slice j k o),(33,.agg #[.slice j k o,.slice m l p]),(34,.int .i64 1),(35,.bool true),(36,.slice j k o),(37,pg g),(38,.slice j k o),(40,.int .i64 1)] (by kernel_rfl) (ab (af (t 35 (.bool true) (ae (aa (ab (aO (aJ (aa (ab (bp (ab (af (tr 36 (.slice m l p) (cS (.agg #[.slice j k o,.slice m l p]) (.int .i64 1) (.slice m l p) Di) (t 11 (.slice m l p) (ae (aa (af (t 37 (pg g) (t 38 (.slice m l p) (tc 39 107 #[pg g,.slice m l p] (sV A.sx u (Nat.le_trans (Ky.bZ _ _ _) (by decide)) (by omega) (by omega)) ?_)))))))))))))))))))));rintro _ v25 ⟨rfl,ag,S,q,i⟩;refine⟨_,rfl,?_⟩;replace a:=opX c a q i;replace c:=a.1;replace a:=a.2;replace d:=opX f d q i;replace f:=d.1;replace d:=d.2;replace b:=opX e b q i;replace e:=b.1;replace b:=b.2;replace u:=A.byu u i;replace A:=A.op S q i;clear S q i;clear u;refine ae (dm (aa (af (t 40 (.int .i64 2) (t 34 (.int .i64 2) (ae (kK ?_)))))));refine aC [(0,pg g),(6,.bool false),(9,pg r),(11,.slice m l p),(33,.agg #[.slice j k o,.slice m l p]),(34,.int .i64 2),(35,.bool true),(36,.slice m l p),(37,pg g),(38,.slice m l p),(40,.int .i64 2)] (by kernel_rfl) (ab (af (t 35 (.bool false) (ae (aa (ab (aV (dM (dC (dC (gp (aa (ab ?_)))))))))))));replace A:=A.drew;replace c:=c.drew;replace f:=f.drew;replace e:=e.drew;refine bH (fun w'=>Blk w' r [.int .u64 (uX (got E (Ky.mk 12 id 0)) 0),.int .u64 (uX (got E (Ky.mk 12 id 0)) 1),.int .u64 (uX (got E (Ky.mk 12 id 0)) 3)] 167) (fun _=>false) e ?_
  refine zlr 0 41 [.int .u64 (uX (got E (Ky.mk 12 id 0)) 0),.int .u64 (uX (got E (Ky.mk 12 id 0)) 1),.int .u64 (uX (got E (Ky.mk 12 id 0)) 3)] (fun _ h=>h) 0 (z 1 42 (pg g) (z 2 43 (pg g) (z 3 44 (pg r) (zl 4 45 (.int .u64 (uX (got E (Ky.mk 12 id 0)) 0)) (fun _ h=>h) 0 (z 5 46 (pq r 1) (zl 6 47 (.int .u64 (uX (got E (Ky.mk 12 id 0)) 1)) (fun _ h=>h) 1 (zc 7 48 24 #[pg g,.int .u64 (uX (got E (Ky.mk 12 id 0)) 0),.int .u64 (uX (got E (Ky.mk 12 id 0)) 1)] (ek A.sx (eN (h.oct _) 0) (by omega) (by omega)) ?_)))))));rintro _ aj ⟨rfl,ad,S,q,i⟩;replace a:=opX c a q i;replace c:=a.1;replace a:=a.2;replace d:=opX f d q i;replace f:=d.1;replace d:=d.2;replace b:=opX e b q i;replace e:=b.1;replace b:=b.2;replace A:=A.op S q i;clear S q i;refine⟨_,rfl,e,?_⟩;refine zq 8 49 (.int .u64 (IntKind.u64.wrap (dr (rem (rem (rem E (Ky.mk 12 id 0)) (Ky.mk 14 (uX (got E (Ky.mk 12 id 0)) 3) id)) (Ky.mk 15 (uX (got E (Ky.mk 12 id 0)) 1) id)) (uX (got E (Ky.mk 12 id 0)) 0) (uX (got E (Ky.mk 12 id 0)) 1) - 1))) (.int .u64 ((dr (rem (rem (rem E (Ky.mk 12 id 0)) (Ky.mk 14 (uX (got E (Ky.mk 12 id 0)) 3) id)) (Ky.mk 15 (uX (got E (Ky.mk 12 id 0)) 1) id)) (uX (got E (Ky.mk 12 id 0)) 0) (uX (got E (Ky.mk 12 id 0)) 1) - 1) % 18446744073709551616)) (congrArg (Value.int .u64) (IntKind.wrap_u64 _)) (zc 9 50 94 #[.agg #[.int .u64 (uX (got E (Ky.mk 12 id 0)) 0),.int .u64 (uX (got E (Ky.mk 12 id 0)) 1),.int .u64 (uX (got E (Ky.mk 12 id 0)) 3)],pg g,.int .u64 ((dr (rem (rem (rem E (Ky.mk 12 id 0)) (Ky.mk 14 (uX (got E (Ky.mk 12 id 0)) 3) id)) (Ky.mk 15 (uX (got E (Ky.mk 12 id 0)) 1) id)) (uX (got E (Ky.mk 12 id 0)) 0) (uX (got E (Ky.mk 12 id 0)) 1) - 1) % 18446744073709551616)] (count_set A.sx (eN (h.oct _) 0) (by omega) (by omega)) ?_);rintro _ ak ⟨rfl,K28,S,q,i⟩;replace a:=opX c a q i;replace c:=a.1;replace a:=a.2;replace d:=opX f d q i;replace f:=d.1;replace d:=d.2;replace b:=opX e b q i;replace e:=b.1;replace b:=b.2;replace A:=A.op S q i;clear S q i;refine⟨_,rfl,e,?_⟩;refine bC (aa (ab (af (t 6 (.bool true) (ae (aa (aC [(6,.bool true)] (by kernel_rfl) (aF (aE (.bool true) (rs1 6 (by kernel_rfl) (by kernel_rfl)) ?_)))))))));rw[show mR E id=_ from if_pos I,show (Kv.look E (Ky.mk 12 id 0)).isSome=true from I];exact⟨rfl,_,_,_,A.sx,by omega,by omega,A.km,A.cc⟩
 ·refine tc 16 66 #[pg g,.agg #[.int .i64 12,.func (.func 95) #[] #[],.func (.func 96) #[] #[],.func (.func 97) #[] #[]],.int .u64 id] (pR A.sx G (by omega) (by omega) (Bool.eq_false_iff.2 I)) ?_
  rintro _ am ⟨rfl,ah,S,q,i⟩;refine⟨_,rfl,?_⟩;replace a:=opX c a q i;replace c:=a.1;replace a:=a.2;replace A:=A.op S q i;clear S q i;refine t 12 (.tuple #[.agg (uA (got E (Ky.mk 12 id 0))),.bool false]) (t 17 (.agg (uA (got E (Ky.mk 12 id 0)))) (t 18 (.bool false) ?_));have y:=c.lt;refine ta 7 [.int .u64 0,.int .u64 0,.int .u64 0,.int .u64 0,.int .u64 0,.int .u64 0] 42 (pg) ?_
  intro v32 O s x B;have Q:=Nat.le_trans A.size x;have F:=A.new x;replace A:=A.keep B;replace c:=c.keep B;clear B;refine ts s 0 (.agg (uA (got E (Ky.mk 12 id 0)))) (uL (got E (Ky.mk 12 id 0))) (uL (got E (Ky.mk 12 id 0))) ?_
  intro ai Y C;replace A:=Bk.At.cell A s C Q F (by decide);replace c:=c.chg C (show H≠O by omega);clear C s;have s:=Y;clear Y;refine t 8 (.bool false) (ae (aa (aC [(0,pg g),(2,.int .u64 id),(4,pg H),(6,.bool false),(7,pg O),(8,.bool false)] (by kernel_rfl) (ab (ab (af (t 19 (.bool false) (t 20 (.bool true) (ae (aa (aO (ab (af (t 6 (.bool false) (ae (aa (aF (dn (aE (.bool false) (rs1 6 (by kernel_rfl) (by kernel_rfl)) ?_)))))))))))))))))));rw[show mR E id=_ from if_neg I,show (Kv.look E (Ky.mk 12 id 0)).isSome=false from Bool.eq_false_iff.2 I];exact⟨rfl,_,_,_,A.sx,by omega,by omega,A.km,A.cc⟩
theorem less1{r:Nat}(a:q≠r)(X:Blk w r [.int .u64 x0,.int .u64 x1,.int .u64 x2,.int .u64 x3,.int .u64 x4,.int .u64 x5] 42)(c:Blk w q [.int .u64 y] 22):Calls Tryz.prog 48 #[pg r,pg q] w fun e w'=>e=.returned (.tuple #[])/\Blk w' r [.int .u64 x0,.int .u64 x1,.int .u64 x2,.int .u64 x3,.int .u64 x4,.int .u64 y] 42/\Chg (· = r) w w':=by
 have b:Chg (·=r) w w:=Chg.refl _ _;refine aB (n:=7) Tryz.func48 rfl (by kernel_rfl) (by kernel_rfl) ?_
 refine af (t 3 (pg r) (tl 4 (.int .u64 y) c 0 (t 5 (pg r) (t 6 (pq r 5) (ts X 5 (.int .u64 y) [.int .u64 y] [.int .u64 x0,.int .u64 x1,.int .u64 x2,.int .u64 x3,.int .u64 x4,.int .u64 y] ?_)))));intro v1 Y C;replace c:=c.chg C a;replace b:=b.trans C (fun _ _ h=>h);clear C X;have X:=Y;clear Y;refine ae (j1 (.tuple #[]) (rs0 (by kernel_rfl)) ?_);exact⟨rfl,X,b⟩
theorem Ct(h:Sx B w K g E W n N)(r:0<=id/\id < 18446744073709551616)(e:Blk w q [.int .u64 y] 22)(c:¬ K q)(hn:n+20<=4000000000000000000)(U:N+20<=100000000):Calls Tryz.prog 47 #[pg g,.agg #[.int .i64 12,.func (.func 95) #[] #[],.func (.func 96) #[] #[],.func (.func 97) #[] #[]],.int .u64 id,.func (.func 48) #[] #[pg q]] w (SxF B w K g (gR E id y) W n N (.bool (Kv.look E (Ky.mk 12 id 0)).isSome)):=by
 have p:=e.lt;have A:=h.at
 refine aB (n:=27) Tryz.func47 rfl (by kernel_rfl) (by kernel_rfl) ?_
 refine ab (af ?_);have p:=e.lt;refine ta 5 [.int .i64 12,.func (.func 95) #[] #[],.func (.func 96) #[] #[],.func (.func 97) #[] #[]] 105 (pg) ?_
 intro v1 D b G B;have O:=Nat.le_trans A.size G;have a:=A.new G;replace e:=e.keep B;replace A:=A.keep B;clear B;refine t 8 (.bool false) (ae (aa (ab (af (t 12 (pg g) (tlr 13 [.int .i64 12,.func (.func 95) #[] #[],.func (.func 96) #[] #[],.func (.func 97) #[] #[]] b 0 (t 14 (.int .u64 id) ?_)))))));by_cases u:(Kv.look E (Ky.mk 12 id 0)).isSome=true
 ·refine tc 15 66 #[pg g,.agg #[.int .i64 12,.func (.func 95) #[] #[],.func (.func 96) #[] #[],.func (.func 97) #[] #[]],.int .u64 id] (pR A.sx r (by omega) (by omega) u) ?_
  rintro _ T ⟨rfl,Q,S,j,i⟩;refine⟨_,rfl,?_⟩;replace c:=opX e c j i;replace e:=c.1;replace c:=c.2;replace a:=opX b a j i;replace b:=a.1;replace a:=a.2;replace A:=A.op S j i;clear S j i;refine t 11 (.tuple #[.agg (uA (got E (Ky.mk 12 id 0))),.bool true]) (t 16 (.agg (uA (got E (Ky.mk 12 id 0)))) (t 17 (.bool true) ?_));have p:=e.lt;have F:=b.lt;refine ta 9 [.int .u64 0,.int .u64 0,.int .u64 0,.int .u64 0,.int .u64 0,.int .u64 0] 42 (pg) ?_
  intro v6 o f v B;have x:=Nat.le_trans A.size v;have d:=A.new v;replace e:=e.keep B;replace A:=A.keep B;replace b:=b.keep B;clear B;refine ts f 0 (.agg (uA (got E (Ky.mk 12 id 0)))) (uL (got E (Ky.mk 12 id 0))) (uL (got E (Ky.mk 12 id 0))) ?_
  intro R Y C;replace e:=e.chg C (show q≠o by omega);replace A:=Bk.At.cell A f C x d (by decide);replace b:=b.chg C (show D≠o by omega);clear C f;have f:=Y;clear Y;refine t 10 (.bool true) (ae (aa (aC [(0,pg g),(2,.int .u64 id),(3,.func (.func 48) #[] #[pg q]),(5,pg D),(8,.bool false),(9,pg o),(10,.bool true)] (by kernel_rfl) (ab (ab (af (t 18 (.bool true) (ae (aa (aO (ab (af (t 19 (.func (.func 48) #[] #[pg q]) (tc 20 48 #[pg o,pg q] (less1 (show q≠o by omega) f e) ?_))))))))))))));rintro _ P ⟨rfl,Z,C⟩;refine⟨_,rfl,?_⟩;replace e:=e.chg C (show q≠o by omega);replace A:=Bk.At.cell A f C x d (by decide);replace b:=b.chg C (show D≠o by omega);clear C;clear f;have f:=Z;clear Z;refine ae (aa (af (t 21 (pg g) (tlr 22 [.int .i64 12,.func (.func 95) #[] #[],.func (.func 96) #[] #[],.func (.func 97) #[] #[]] b 0 (t 23 (.int .u64 id) (tlr 24 [.int .u64 (uX (got E (Ky.mk 12 id 0)) 0),.int .u64 (uX (got E (Ky.mk 12 id 0)) 1),.int .u64 (uX (got E (Ky.mk 12 id 0)) 2),.int .u64 (uX (got E (Ky.mk 12 id 0)) 3),.int .u64 (uX (got E (Ky.mk 12 id 0)) 4),.int .u64 y] f 0 (tc 25 91 #[pg g,.agg #[.int .i64 12,.func (.func 95) #[] #[],.func (.func 96) #[] #[],.func (.func 97) #[] #[]],.int .u64 id,.agg #[.int .u64 (uX (got E (Ky.mk 12 id 0)) 0),.int .u64 (uX (got E (Ky.mk 12 id 0)) 1),.int .u64 (uX (got E (Ky.mk 12 id 0)) 2),.int .u64 (uX (got E (Ky.mk 12 id 0)) 3),.int .u64 (uX (got E (Ky.mk 12 id 0)) 4),.int .u64 y]] (layU A.sx r (by omega) (by omega)) ?_)))))));rintro _ v11 ⟨rfl,J,S,j,i⟩;refine⟨_,rfl,?_⟩;replace c:=opX e c j i;replace e:=c.1;replace c:=c.2;replace a:=opX b a j i;replace b:=a.1;replace a:=a.2;replace d:=opX f d j i;replace f:=d.1;replace d:=d.2;replace A:=A.op S j i;clear S j i;refine ae (aa (ab (af (t 26 (.bool true) (t 8 (.bool true) (ae (aa (aF (aE (.bool true) (rs1 8 (by kernel_rfl) (by kernel_rfl)) ?_)))))))));rw[show gR E id y=_ from if_pos u,show (Kv.look E (Ky.mk 12 id 0)).isSome=true from u];exact⟨rfl,_,_,_,A.sx,by omega,by omega,A.km,A.cc⟩
 ·refine tc 15 66 #[pg g,.agg #[.int .i64 12,.func (.func 95) #[] #[],.func (.func 96) #[] #[],.func (.func 97) #[] #[]],.int .u64 id] (pR A.sx r (by omega) (by omega) (Bool.eq_false_iff.2 u)) ?_
  rintro _ H ⟨rfl,I,S,j,i⟩;refine⟨_,rfl,?_⟩;replace c:=opX e c j i;replace e:=c.1;replace c:=c.2;replace a:=opX b a j i;replace b:=a.1;replace a:=a.2;replace A:=A.op S j i;clear S j i;refine t 11 (.tuple #[.agg (uA (got E (Ky.mk 12 id 0))),.bool false]) (t 16 (.agg (uA (got E (Ky.mk 12 id 0)))) (t 17 (.bool false) ?_));have p:=e.lt;have F:=b.lt;refine ta 9 [.int .u64 0,.int .u64 0,.int .u64 0,.int .u64 0,.int .u64 0,.int .u64 0] 42 (pg) ?_
  intro M m k l B;have z:=Nat.le_trans A.size l;have s:=A.new l;replace e:=e.keep B;replace A:=A.keep B;replace b:=b.keep B;clear B;refine ts k 0 (.agg (uA (got E (Ky.mk 12 id 0)))) (uL (got E (Ky.mk 12 id 0))) (uL (got E (Ky.mk 12 id 0))) ?_
  intro L Y C;replace e:=e.chg C (show q≠m by omega);replace A:=Bk.At.cell A k C z s (by decide);replace b:=b.chg C (show D≠m by omega);clear C k;have k:=Y;clear Y;refine t 10 (.bool false) (ae (aa (aC [(0,pg g),(2,.int .u64 id),(3,.func (.func 48) #[] #[pg q]),(5,pg D),(8,.bool false),(9,pg m),(10,.bool false)] (by kernel_rfl) (ab (ab (af (t 18 (.bool false) (ae (aa (aV (aJ (aa (ab (af (t 26 (.bool false) (t 8 (.bool false) (ae (aa (aF (aE (.bool false) (rs1 8 (by kernel_rfl) (by kernel_rfl)) ?_))))))))))))))))))));rw[show gR E id y=_ from if_neg u,show (Kv.look E (Ky.mk 12 id 0)).isSome=false from Bool.eq_false_iff.2 u];exact⟨rfl,_,_,_,A.sx,by omega,by omega,A.km,A.cc⟩
end
end Qu
end
section
namespace Qu
open Go.RowKit Go.Lib Pg Lim Gl Kv Bk Pw
attribute [local go_sem] Oper.semAt_some
set_option linter.unusedVariables false
set_option linter.unusedSimpArgs false
section
variable {B g n N:Nat}{w:World}{K:Nat->Prop}{E:ax}{W:List ax}{id:Int}
theorem mS{x0 x1 x2 x3 x4 x5:Int}(h:Sx B w K g E W n N)(d:0<=x0/\x0 < 18446744073709551616)(j:0<=x1/\x1 < 18446744073709551616)(e:0<=x3/\x3 < 18446744073709551616)(hn:n+30<=4000000000000000000)(r:N+30<=100000000):Calls Tryz.prog 11 #[pg g,.agg #[.int .u64 x0,.int .u64 x1,.int .u64 x2,.int .u64 x3,.int .u64 x4,.int .u64 x5]] w (SxE B w K g (eU E 12 (uv x0 x1 x2 x3 x4 x5) x0 x1 x3) W (n+7) (N+10) (.int .u64 (aI (chn E)))):=by
 have A:=h.at
 refine aB (n:=9) Tryz.func11 rfl (by kernel_rfl) (by kernel_rfl) ?_
 refine ab (af (ta 3 [.int .u64 x0,.int .u64 x1,.int .u64 x2,.int .u64 x3,.int .u64 x4,.int .u64 x5] 42 (pg) ?_));intro v1 l a c B;have m:=Nat.le_trans A.size c;have b:=A.new c;replace A:=A.keep B;clear B;refine t 4 (.int .u64 0) (ae (aa (ab ?_)));replace A:=A.drew;replace a:=a.drew;refine bH (fun k=>Blk k l [.int .u64 x0,.int .u64 x1,.int .u64 x2,.int .u64 x3,.int .u64 x4,.int .u64 x5] 42) (fun _=>false) a ?_
 refine z 0 5 (pg g) (zlr 2 7 [.int .u64 x0,.int .u64 x1,.int .u64 x2,.int .u64 x3,.int .u64 x4,.int .u64 x5] (fun _ h=>h) 0 (zc 1 6 40 #[] (dS) ?_));rintro _ p ⟨rfl,B⟩;replace A:=A.keep B;replace a:=a.keep B;clear B;refine⟨_,rfl,a,?_⟩;refine zc 3 8 39 #[pg g,.agg #[.int .i64 12,.func (.func 95) #[] #[],.func (.func 96) #[] #[],.func (.func 97) #[] #[]],.agg #[.int .u64 x0,.int .u64 x1,.int .u64 x2,.int .u64 x3,.int .u64 x4,.int .u64 x5]] (beginU A.sx d j e (by omega) (by omega)) ?_
 rintro _ q ⟨rfl,o,S,i,f⟩;replace b:=opX a b i f;replace a:=b.1;replace b:=b.2;replace A:=A.op S i f;clear S i f;refine⟨_,rfl,a,?_⟩;refine z 4 4 (.int .u64 (aI (chn E))) (bC (aa (aF (aE (.int .u64 (aI (chn E))) (rs1 4 (by kernel_rfl) (by kernel_rfl)) ?_))));exact⟨rfl,_,A.sx,A.km,A.cc⟩
theorem iA(h:Sx B w K g E W n N)(i:0<=id/\id < 18446744073709551616)(hn:n+30<=4000000000000000000)(o:N+30<=100000000):Calls Tryz.prog 25 #[pg g,.int .u64 id] w (SxE B w K g E W (n+1) N (.tuple #[.agg (uA (got E (Ky.mk 12 id 0))),.bool (Kv.look E (Ky.mk 12 id 0)).isSome])):=by
 have A:=h.at
 refine aB (n:=12) Tryz.func25 rfl (by kernel_rfl) (by kernel_rfl) ?_
 refine ab (af (ta 4 [.int .u64 0,.int .u64 0,.int .u64 0,.int .u64 0,.int .u64 0,.int .u64 0] 42 (pg) ?_));intro v1 k b c B;have f:=Nat.le_trans A.size c;have a:=A.new c;replace A:=A.keep B;clear B;refine t 5 (.bool false) (ae (aa (ab (af (t 6 (pg g) (tc 7 40 #[] (dS) ?_))))));rintro _ j ⟨rfl,B⟩;refine⟨_,rfl,?_⟩;replace A:=A.keep B;replace b:=b.keep B;clear B;refine t 8 (.int .u64 id) (tc 9 66 #[pg g,.agg #[.int .i64 12,.func (.func 95) #[] #[],.func (.func 96) #[] #[],.func (.func 97) #[] #[]],.int .u64 id] (EK A.sx i (by omega) (by omega)) ?_);rintro _ m ⟨rfl,l,S,e,d⟩;refine⟨_,rfl,?_⟩;replace a:=opX b a e d;replace b:=a.1;replace a:=a.2;replace A:=A.op S e d;clear S e d;refine t 10 (.agg (uA (got E (Ky.mk 12 id 0)))) (t 11 (.bool (Kv.look E (Ky.mk 12 id 0)).isSome) (ts b 0 (.agg (uA (got E (Ky.mk 12 id 0)))) (uL (got E (Ky.mk 12 id 0))) (uL (got E (Ky.mk 12 id 0))) ?_));intro v6 Y C;replace A:=Bk.At.cell A b C f a (by decide);clear C b;have b:=Y;clear Y;refine t 5 (.bool (Kv.look E (Ky.mk 12 id 0)).isSome) (ae (aa (aF (aE (.tuple #[.agg (uA (got E (Ky.mk 12 id 0))),.bool (Kv.look E (Ky.mk 12 id 0)).isSome]) (iL 4 5 (T:=42) (by kernel_rfl) (by kernel_rfl) (by kernel_rfl) (lr b 0)) ?_))));exact⟨rfl,_,A.sx,A.km,A.cc⟩
theorem nz{y:Int}(h:Sx B w K g E W n N)(f:0<=id/\id < 18446744073709551616)(hn:n+30<=4000000000000000000)(r:N+30<=100000000):Calls Tryz.prog 15 #[pg g,.int .u64 id,.int .u64 y] w (SxF B w K g (gR E id y) W n N (.bool (Kv.look E (Ky.mk 12 id 0)).isSome)):=by
 have A:=h.at
 refine aB (n:=12) Tryz.func15 rfl (by kernel_rfl) (by kernel_rfl) ?_
 refine ab (af (ta 5 [.int .u64 y] 22 (pg) ?_));intro v1 i b c B;have l:=Nat.le_trans A.size c;have a:=A.new c;replace A:=A.keep B;clear B;refine t 6 (.bool false) (ae (aa (ab (af (t 7 (pg g) (tc 8 40 #[] (dS) ?_))))));rintro _ p ⟨rfl,B⟩;refine⟨_,rfl,?_⟩;replace A:=A.keep B;replace b:=b.keep B;clear B;refine t 9 (.int .u64 id) (t 10 (.func (.func 48) #[] #[pg i]) (tc 11 47 #[pg g,.agg #[.int .i64 12,.func (.func 95) #[] #[],.func (.func 96) #[] #[],.func (.func 97) #[] #[]],.int .u64 id,.func (.func 48) #[] #[pg i]] (Ct A.sx f b a (by omega) (by omega)) ?_));rintro _ v6 ⟨rfl,q,o,j,S,m,k,e,d⟩;refine⟨_,rfl,?_⟩;replace a:=opX b a e d;replace b:=a.1;replace a:=a.2;replace A:=A.op S e d;clear S e d;refine t 6 (.bool (Kv.look E (Ky.mk 12 id 0)).isSome) (ae (aa (aF (aE (.bool (Kv.look E (Ky.mk 12 id 0)).isSome) (rs1 6 (by kernel_rfl) (by kernel_rfl)) ?_))));exact⟨rfl,_,_,_,A.sx,by omega,by omega,A.km,A.cc⟩
end
end Qu
end
section
namespace Qu
open Go.RowKit Go.Lib Pg Lim Gl Kv
structure Nk (w:World) (K:Nat->Prop) (z:Nat) (ao:Option Addr) (n c:Nat) (x:Int):Prop where
 lt:n=0\/z < w.heap.size
 out:n=0\/¬ K z
 to:∀ w':World,(n≠0->w'.heap[z]?=w.heap[z]?)->ef w' ao n c x
structure Nq (w:World) (K:Nat->Prop) (z:Nat) (ao:Option Addr) (n c:Nat) (x:Int):Prop where
 lt:n=0\/z < w.heap.size
 out:n=0\/¬ K z
 to:∀ w':World,(n≠0->w'.heap[z]?=w.heap[z]?)->gB w' ao n c x
section
variable {w w':World} {K K':Nat->Prop} {z n c:Nat} {ao:Option Addr} {x:Int}
section
variable {g:Nat}
theorem Nk.nat(h:Nk w K z ao n c x):ef w ao n c x:=h.to w (fun _=>rfl)
theorem Nk.keep(h:Nk w K z ao n c x)(hb:Below w.heap.size w w'):Nk w' K z ao n c x :=
 ⟨h.lt.imp_right fun h=>Nat.lt_of_lt_of_le h hb.size,h.out,fun b a=>h.to b fun hn=>(a hn).trans (hb.block z (h.lt.resolve_left hn))⟩
theorem Nk.drew(h:Nk w K z ao n c x):Nk w.drew K z ao n c x:=h.keep (Below.refl _ _).drew
theorem Nk.op(h:Nk w K z ao n c x)(f:∀ b,K' b->K b\/w.heap.size<=b)(hc:Chg K w w'):Nk w' K' z ao n c x:=by
 refine⟨h.lt.imp_right fun h=>Nat.lt_of_lt_of_le h hc.size,?_,fun g a=>h.to g fun hn=>(a hn).trans (hc.same z (h.lt.resolve_left hn) (h.out.resolve_left hn))⟩;rcases h.lt with d | d
 ·exact .inl d
 ·refine h.out.imp_right fun a e=>(f z e).elim a fun i=>by omega
theorem Nk.cell(h:Nk w K z ao n c x)(hc:Chg (·=g) w w')(a:n=0\/z≠g):Nk w' K z ao n c x :=
 ⟨h.lt.imp_right fun h=>Nat.lt_of_lt_of_le h hc.size,h.out,fun d b=>h.to d fun hn=>(b hn).trans (hc.same z (h.lt.resolve_left hn) (a.resolve_left hn))⟩
theorem Nq.o(h:Nq w K z ao n c x):gB w ao n c x:=h.to w (fun _=>rfl)
theorem Nq.keep(h:Nq w K z ao n c x)(hb:Below w.heap.size w w'):Nq w' K z ao n c x :=
 ⟨h.lt.imp_right fun h=>Nat.lt_of_lt_of_le h hb.size,h.out,fun b a=>h.to b fun hn=>(a hn).trans (hb.block z (h.lt.resolve_left hn))⟩
theorem Nq.drew(h:Nq w K z ao n c x):Nq w.drew K z ao n c x:=h.keep (Below.refl _ _).drew
theorem Nq.op(h:Nq w K z ao n c x)(f:∀ b,K' b->K b\/w.heap.size<=b)(hc:Chg K w w'):Nq w' K' z ao n c x:=by
 refine⟨h.lt.imp_right fun h=>Nat.lt_of_lt_of_le h hc.size,?_,fun g a=>h.to g fun hn=>(a hn).trans (hc.same z (h.lt.resolve_left hn) (h.out.resolve_left hn))⟩;rcases h.lt with d | d
 ·exact .inl d
 ·refine h.out.imp_right fun a e=>(f z e).elim a fun i=>by omega
theorem Nq.cell(h:Nq w K z ao n c x)(hc:Chg (·=g) w w')(a:n=0\/z≠g):Nq w' K z ao n c x :=
 ⟨h.lt.imp_right fun h=>Nat.lt_of_lt_of_le h hc.size,h.out,fun d b=>h.to d fun hn=>(b hn).trans (hc.same z (h.lt.resolve_left hn) (a.resolve_left hn))⟩
theorem vg{B:Nat}(h:Rc.dg w B ao n c x)(g:∀ b,K b->b < B):∃ z,(n=0\/B<=z)/\Nq w K z ao n c x:=by
 obtain⟨b,o,l,f,d,k,a,j⟩:=h.ex;refine⟨b,.inr j,?_,.inr fun e=>by have:=g b e;omega,fun m hw=>⟨b,o,l,f,d,k,⟨a.loc,fun i hi=>?_⟩⟩⟩
 ·rcases Nat.eq_zero_or_pos n with h | h
  ·exact .inl h
  ·exact .inr (aG (a.cell 0 (by omega)))
 ·rw[World.cell?_of_block (w:=w) (hw (by omega))];exact a.cell i hi
end
end
end Qu
end
end Go.Proofs.YtidnifmehnjipaaGreat
