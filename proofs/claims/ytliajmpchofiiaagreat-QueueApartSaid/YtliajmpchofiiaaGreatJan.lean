/- Several texts, joined: QuA, QuB, BkB, QuC, QuD, QuN. -/
import Derived.Test.YtliajmpchofiiaaGreatJam
import Derived.Test.YtliajmpchofiiaaGreatJal
import Derived.LoopN
set_option maxRecDepth 100000
set_option maxHeartbeats 8000000
namespace Go.Proofs.YtliajmpchofiiaaGreat
section
namespace Qu
open Go.RowKit Go.Lib Pg Lim Gl Kv Bk Pw
section
variable {w:World}{k a b x:Int}{v l:List Int}{B g n N:Nat}{K:Nat->Prop}{E:ay}{W:List ay}
attribute [local go_sem] Oper.semAt_some
set_option linter.unusedVariables false
set_option linter.unusedSimpArgs false
theorem lW(ha:0<=a/\a < 18446744073709551616)(hE:Ky.mkE k a b=false):Calls Tryz.prog 88 #[.int .i64 k,.int .u64 a,.int .u64 b] w fun e w'=>∃ v,e=.returned v/\ByU w' v (Ky.mk k a b)/\Below w.heap.size w w':=by
 have BB:=Below.refl w.heap.size w;refine aG (n:=18) Tryz.func88 rfl (by kernel_rfl) (by kernel_rfl) ?_
 refine af (ah (t 6 (.slice none 0 0) ?_));refine ag (ab (af (ah (t 10 (.int .i64 k) ?_))));refine t 11 (.int .u64 a) ?_
 refine t 12 (.int .u64 b) ?_
 refine t 13 (.agg #[.int .i64 k,.int .u64 a,.int .u64 b]) ?_
 refine tc 14 49 #[.agg #[.int .i64 k,.int .u64 a,.int .u64 b]] (vT ha hE) ?_
 rintro _ v3 ⟨kv2,rfl,U1,B⟩;refine⟨_,rfl,?_⟩;replace BB:=ai BB B;clear B;refine t 9 (.tuple #[kv2,.int .i64 0]) ?_
 refine t 15 (kv2) ?_
 refine t 16 (.int .i64 0) ?_
 refine t 7 (kv2) ?_
 refine t 8 (.int .i64 0) ?_
 refine ag (ab (aE [(6,.slice none 0 0),(7,kv2)] (by kernel_rfl) ?_));refine af (ah (t 17 (kv2) ?_));refine t 6 (kv2) ?_
 refine ag (ab (aI (aH (kv2) (rs1 6 (by kernel_rfl) (by kernel_rfl)) ?_)));exact⟨_,rfl,U1,BB⟩
def nv(x:Int):List Int:=Rc.thr (Rc.pnx (fun o=>([x]:List Int).getD o 0)) [(0,0)] []
def dN(l:List Int):Int:=Rc.bE (Rc.dI l) 0
def dC(l:List Int):Int:=Rc.bE (Rc.ez l) 0
def aN(l:List Int):Int:=Rc.bE (Rc.ez l) 1
def got(E:ay)(k:List Int):List Int:=(Kv.look E k).getD []
theorem jw(x:Int):(nv x).length<=300:=by have:=Rc.eR (fun o=>([x]:List Int).getD o 0) [(0,0)] []; simpa[nv] using this
theorem nv_oct(x:Int):Oct (nv x):=Rc.j9 _ _ _ (fun _ h=>by simp at h)
theorem AE(hE:Ky.mkE k a b=false)(hv:v.length<=4096):gY (Ky.mk k a b) v=0:=by
 have h1:=mk_pos hE;have h2:=Ky.fY k a b;unfold gY;rw[if_neg (by omega),if_neg (by omega)]
theorem oN{kv vv:Value}(h:Sx B w K g E W n N)(hk:ByU w kv (Ky.mk k a b))(hE:Ky.mkE k a b=false)(hv:ByU w vv v)(hl:v.length<=4096)(hn:n<=4000000000000000000)(hN:N + 2<=100000000) :
  Calls Tryz.prog 50 #[pg g,kv,vv] w (SxE B w K g (put E (Ky.mk k a b) v) W (n + 1) (N + 2) (.int .i64 0)):=by
 have u:=xset h hk hv hn hN;rw[AE hE hl,if_pos rfl] at u;exact u
theorem u7{v:Value}(h:ByU w v l)(hl:l.length<=1000000000):Calls Tryz.prog 168 #[v] w fun e w'=>e=.returned (.tuple #[.agg #[.int .u64 (dC l),.int .u64 (aN l)],.int .i64 (Rc.dG (Rc.ez l))])/\Below w.heap.size w w':=by
 obtain⟨b,ao,c,rfl,h2⟩:=bya h.byt;exact Rc.oChain h2 hl
theorem mf{v:Value}(h:ByU w v l)(hl:l.length<=1000000000):Calls Tryz.prog 89 #[v] w fun e w'=>e=.returned (.tuple #[.int .u64 (dN l),.int .i64 (Rc.dG (Rc.dI l))])/\Below w.heap.size w w':=by
 obtain⟨b,ao,c,rfl,h2⟩:=bya h.byt;exact Rc.AY h2 hl
theorem mI{y:Int}:Calls Tryz.prog 51 #[.agg #[.int .u64 x,.int .u64 y]] w fun e w'=>∃ v,e=.returned v/\ByU w' v (pv x y)/\Below w.heap.size w w':=by
 refine Rc.nS.mono ?_
 rintro e w' ⟨b,n,rfl,hn,X,hb,B⟩;exact⟨_,rfl,j4 X (pv_oct x y) hn (Nat.le_trans (qE x y) (by decide)),B⟩
theorem eC:Calls Tryz.prog 116 #[.int .u64 x] w fun e w'=>∃ v,e=.returned v/\ByU w' v (nv x)/\Below w.heap.size w w':=by
 refine Rc.lZ.mono ?_
 rintro e w' ⟨b,n,rfl,hn,X,hb,B⟩;exact⟨_,rfl,j4 X (nv_oct x) hn (Nat.le_trans (jw x) (by decide)),B⟩
theorem Sx.nW(h:Sx B w K g E W n N)(k:List Int):(got E k).length<=1000000000:=by
 unfold got
 cases e:Kv.look E k with
 | none=>simp
 | some v=>exact(h.sa.small _ (Kv.iX e)).2
theorem xW  : Ky.mkE 2 0 0=false:=by
 unfold Ky.mkE;rw[show (Ky.frm 2).1=1 from rfl];simp
theorem qa(a:Int):Ky.mkE 12 a 0=false:=by
 unfold Ky.mkE;rw[show (Ky.frm 12).1=9 from rfl];simp
theorem pY(a:Int):Ky.mkE 13 a 0=false:=by
 unfold Ky.mkE;rw[show (Ky.frm 13).1=9 from rfl];simp
theorem p7(a b:Int):Ky.mkE 14 a b=false:=by
 unfold Ky.mkE;rw[show (Ky.frm 14).1=17 from rfl];simp
theorem pF(a b:Int):Ky.mkE 15 a b=false:=by
 unfold Ky.mkE;rw[show (Ky.frm 15).1=17 from rfl];simp
theorem sG(a b:Int):Ky.mkE 17 a b=false:=by
 unfold Ky.mkE;rw[show (Ky.frm 17).1=17 from rfl];simp
def chn(E:ay):List Int:=got E (Ky.mk 2 0 0)
def fM(E:ay):ay:=put E (Ky.mk 2 0 0) (pv (dC (chn E)) ((aN (chn E) + 1) % 18446744073709551616))
def cR(E:ay)(a b:Int):Int:=dN (got E (Ky.mk 17 a b))
def ow(E:ay)(a b n:Int):ay:=if n=0 then rem E (Ky.mk 17 a b) else put E (Ky.mk 17 a b) (nv n)
theorem kI(h:Sx B w K g E W n N)(hn:n + 5<=4000000000000000000)(hN:N + 5<=100000000):Calls Tryz.prog 113 #[pg g] w (SxE B w K g (fM E) W (n + 2) (N + 2) (.int .u64 (aN (chn E)))):=by
 have A:=h.at
 refine aG (n:=33) Tryz.func113 rfl (by kernel_rfl) (by kernel_rfl) ?_
 refine af (ah (t 2 (.int .u64 0) ?_));refine ag (ab (af (ah (tc 9 88 #[.int .i64 2,.int .u64 0,.int .u64 0] (lW ⟨by decide,by decide⟩ xW) ?_))));rintro _ v3 ⟨kv2,rfl,U1,B⟩;refine⟨_,rfl,?_⟩;replace A:=A.keep B;clear B;refine t 3 (kv2) ?_
 refine ag (ab (af (ah (t 11 (pg g) ?_))));refine t 12 (kv2) ?_
 refine tc 13 87 #[pg g,kv2] (As A.sx U1 (by omega) (by omega)) ?_
 rintro _ v6 ⟨gv4,rfl,U5,S,hC⟩;refine⟨_,rfl,?_⟩;replace U1:=A.byu U1 hC;replace A:=A.op S (fun _ h=>.inl h) hC;clear S hC;refine t 10 (.tuple #[gv4,.bool (Kv.look E (Ky.mk 2 0 0)).isSome]) ?_
 refine t 14 (gv4) ?_
 refine t 15 (.bool (Kv.look E (Ky.mk 2 0 0)).isSome) ?_
 refine t 4 (gv4) ?_
 refine t 5 (.bool (Kv.look E (Ky.mk 2 0 0)).isSome) ?_
 refine ag (ab (aE [(0,pg g),(2,.int .u64 0),(3,kv2),(4,gv4)] (by kernel_rfl) ?_));refine af (ah (t 17 (gv4) ?_));refine tc 18 168 #[gv4] (u7 U5 (Sx.nW A.sx _)) ?_
 rintro _ v7 ⟨rfl,B⟩;refine⟨_,rfl,?_⟩;replace A:=A.keep B;replace U1:=bh U1 B;replace U5:=bh U5 B;clear B;clear U5;refine t 16 (.tuple #[.agg #[.int .u64 (dC (got E (Ky.mk 2 0 0))),.int .u64 (aN (got E (Ky.mk 2 0 0)))],.int .i64 (Rc.dG (Rc.ez (got E (Ky.mk 2 0 0))))]) ?_
 refine t 19 (.agg #[.int .u64 (dC (got E (Ky.mk 2 0 0))),.int .u64 (aN (got E (Ky.mk 2 0 0)))]) ?_
 refine t 20 (.int .i64 (Rc.dG (Rc.ez (got E (Ky.mk 2 0 0))))) ?_
 refine ta 6 [.int .u64 0,.int .u64 0] 44 (pg) ?_
 intro v8 g9 Xg9 hg9 B;have zg9:=Nat.le_trans A.size hg9;have nXg9:=A.new hg9;replace A:=A.keep B;replace U1:=bh U1 B;clear B;refine ts Xg9 0 (.agg #[.int .u64 (dC (got E (Ky.mk 2 0 0))),.int .u64 (aN (got E (Ky.mk 2 0 0)))]) [.int .u64 (dC (got E (Ky.mk 2 0 0))),.int .u64 (aN (got E (Ky.mk 2 0 0)))] [.int .u64 (dC (got E (Ky.mk 2 0 0))),.int .u64 (aN (got E (Ky.mk 2 0 0)))] ?_
 intro v10 Y C;replace A:=Bk.At.cell A Xg9 C zg9 nXg9 (by decide);replace U1:=dW U1 Xg9 C (by decide);clear C Xg9;have Xg9:=Y;clear Y;refine t 7 (.int .i64 (Rc.dG (Rc.ez (got E (Ky.mk 2 0 0))))) ?_
 refine ag (ab (af (ah (t 21 (pq g9 1) ?_))));refine tl 22 (.int .u64 (aN (got E (Ky.mk 2 0 0)))) Xg9 1 ?_
 refine t 8 (.int .u64 (aN (got E (Ky.mk 2 0 0)))) ?_
 refine ag (ab (af (ah (t 23 (pq g9 1) ?_))));refine tl 24 (.int .u64 (aN (got E (Ky.mk 2 0 0)))) Xg9 1 ?_
 refine tq 25 (.int .u64 (IntKind.u64.wrap (aN (got E (Ky.mk 2 0 0)) + 1))) (.int .u64 ((aN (got E (Ky.mk 2 0 0)) + 1) % 18446744073709551616)) (congrArg (Value.int .u64) (IntKind.wrap_u64 _)) ?_
 refine t 26 (pq g9 1) ?_
 refine ts Xg9 1 (.int .u64 ((aN (got E (Ky.mk 2 0 0)) + 1) % 18446744073709551616)) [.int .u64 ((aN (got E (Ky.mk 2 0 0)) + 1) % 18446744073709551616)] [.int .u64 (dC (got E (Ky.mk 2 0 0))),.int .u64 ((aN (got E (Ky.mk 2 0 0)) + 1) % 18446744073709551616)] ?_
 intro v11 Y C;replace A:=Bk.At.cell A Xg9 C zg9 nXg9 (by decide);replace U1:=dW U1 Xg9 C (by decide);clear C Xg9;have Xg9:=Y;clear Y;refine ag (ab (aE [(0,pg g),(2,.int .u64 0),(3,kv2),(6,pg g9),(8,.int .u64 (aN (got E (Ky.mk 2 0 0))))] (by kernel_rfl) ?_));refine af (ah (t 27 (pg g) ?_));refine t 28 (kv2) ?_
 refine tlr 29 [.int .u64 (dC (got E (Ky.mk 2 0 0))),.int .u64 ((aN (got E (Ky.mk 2 0 0)) + 1) % 18446744073709551616)] Xg9 0 ?_
 refine tc 30 51 #[.agg #[.int .u64 (dC (got E (Ky.mk 2 0 0))),.int .u64 ((aN (got E (Ky.mk 2 0 0)) + 1) % 18446744073709551616)]] (mI) ?_
 rintro _ v14 ⟨pv13,rfl,U12,B⟩;refine⟨_,rfl,?_⟩;replace A:=A.keep B;replace U1:=bh U1 B;replace Xg9:=Xg9.keep B;clear B;refine tc 31 50 #[pg g,kv2,pv13] (oN A.sx U1 xW U12 (Nat.le_trans (qE _ _) (by decide)) (by omega) (by omega)) ?_
 rintro _ v16 ⟨rfl,K15,S,hK,hC⟩;refine⟨_,rfl,?_⟩;replace U1:=A.byu U1 hC;replace nXg9:=opX Xg9 nXg9 hK hC;replace Xg9:=nXg9.1;replace nXg9:=nXg9.2;replace U12:=A.byu U12 hC;replace A:=A.op S hK hC;clear S hK hC;clear U1;clear U12;refine ag (ab (af (ah (t 32 (.int .u64 (aN (got E (Ky.mk 2 0 0)))) ?_))));refine t 2 (.int .u64 (aN (got E (Ky.mk 2 0 0)))) ?_
 refine ag (ab (aI (aH (.int .u64 (aN (got E (Ky.mk 2 0 0)))) (rs1 2 (by kernel_rfl) (by kernel_rfl)) ?_)));exact⟨rfl,_,A.sx,A.km,A.cc⟩
theorem bU(h:Sx B w K g E W n N)(ha:0<=a/\a < 18446744073709551616)(hn:n + 5<=4000000000000000000)(hN:N + 5<=100000000):Calls Tryz.prog 34 #[pg g,.int .u64 a,.int .u64 b] w (SxE B w K g E W (n + 1) N (.int .u64 (cR E a b))):=by
 have A:=h.at
 refine aG (n:=25) Tryz.func34 rfl (by kernel_rfl) (by kernel_rfl) ?_
 refine af (ah (t 6 (.int .u64 0) ?_));refine ag (ab (af (ah (t 12 (pg g) ?_))));refine t 13 (.int .u64 a) ?_
 refine t 14 (.int .u64 b) ?_
 refine tc 15 88 #[.int .i64 17,.int .u64 a,.int .u64 b] (lW ha (sG a b)) ?_
 rintro _ v3 ⟨kv2,rfl,U1,B⟩;refine⟨_,rfl,?_⟩;replace A:=A.keep B;clear B;refine tc 16 87 #[pg g,kv2] (As A.sx U1 (by omega) (by omega)) ?_
 rintro _ v6 ⟨gv4,rfl,U5,S,hC⟩;refine⟨_,rfl,?_⟩;replace U1:=A.byu U1 hC;replace A:=A.op S (fun _ h=>.inl h) hC;clear S hC;refine t 11 (.tuple #[gv4,.bool (Kv.look E (Ky.mk 17 a b)).isSome]) ?_
 refine t 17 (gv4) ?_
 refine t 18 (.bool (Kv.look E (Ky.mk 17 a b)).isSome) ?_
 refine t 7 (gv4) ?_
 refine t 8 (.bool (Kv.look E (Ky.mk 17 a b)).isSome) ?_
 refine ag (ab (aE [(6,.int .u64 0),(7,gv4)] (by kernel_rfl) ?_));refine af (ah (t 20 (gv4) ?_));refine tc 21 89 #[gv4] (mf U5 (Sx.nW A.sx _)) ?_
 rintro _ v7 ⟨rfl,B⟩;refine⟨_,rfl,?_⟩;replace A:=A.keep B;replace U1:=bh U1 B;replace U5:=bh U5 B;clear B;clear U5;refine t 19 (.tuple #[.int .u64 (dN (got E (Ky.mk 17 a b))),.int .i64 (Rc.dG (Rc.dI (got E (Ky.mk 17 a b))))]) ?_
 refine t 22 (.int .u64 (dN (got E (Ky.mk 17 a b)))) ?_
 refine t 23 (.int .i64 (Rc.dG (Rc.dI (got E (Ky.mk 17 a b))))) ?_
 refine t 9 (.int .u64 (dN (got E (Ky.mk 17 a b)))) ?_
 refine t 10 (.int .i64 (Rc.dG (Rc.dI (got E (Ky.mk 17 a b))))) ?_
 refine ag (ab (af (ah (t 24 (.int .u64 (dN (got E (Ky.mk 17 a b)))) ?_))));refine t 6 (.int .u64 (dN (got E (Ky.mk 17 a b)))) ?_
 refine ag (ab (aI (aH (.int .u64 (dN (got E (Ky.mk 17 a b)))) (rs1 6 (by kernel_rfl) (by kernel_rfl)) ?_)));exact⟨rfl,_,A.sx,A.km,A.cc⟩
theorem count_set{d m:Int}(h:Sx B w K g E W n N)(ha:0<=a/\a < 18446744073709551616)(hn:n + 5<=4000000000000000000)(hN:N + 5<=100000000):Calls Tryz.prog 117 #[.agg #[.int .u64 a,.int .u64 b,.int .u64 d],pg g,.int .u64 m] w (SxE B w K g (ow E a b m) W (n + 1) (N + 2) (.tuple #[])):=by
 have A:=h.at
 refine aG (n:=22) Tryz.func117 rfl (by kernel_rfl) (by kernel_rfl) ?_
 refine af (ah (ta 3 [.int .u64 a,.int .u64 b,.int .u64 d] 188 (pg) ?_));intro v1 g2 Xg2 hg2 B;have zg2:=Nat.le_trans A.size hg2;have nXg2:=A.new hg2;replace A:=A.keep B;clear B;refine ag (ab (af (ah (t 7 (pg g2) ?_))));refine tl 8 (.int .u64 a) Xg2 0 ?_
 refine t 9 (pq g2 1) ?_
 refine tl 10 (.int .u64 b) Xg2 1 ?_
 refine tc 11 88 #[.int .i64 17,.int .u64 a,.int .u64 b] (lW ha (sG a b)) ?_
 rintro _ v5 ⟨kv4,rfl,U3,B⟩;refine⟨_,rfl,?_⟩;replace A:=A.keep B;replace Xg2:=Xg2.keep B;clear B;refine t 6 (kv4) ?_
 refine ag (ab (af (af (ah (t 12 (.int .u64 m) ?_)))));by_cases c6:(m:Int)=0
 ·refine tq 13 (.bool ((m:Int) == 0)) (.bool true) (congrArg Value.bool (beq_iff_eq.2 c6)) ?_
  refine ag (ab (aE [(1,pg g),(2,.int .u64 m),(6,kv4),(13,.bool true)] (by kernel_rfl) ?_));refine bu ?_
  refine af (ah (t 14 (pg g) ?_));refine t 15 (kv4) ?_
  refine tc 16 130 #[pg g,kv4] (qw A.sx U3 (Nat.le_trans (Ky.fY _ _ _) (by decide)) (by omega) (by omega)) ?_
  rintro _ v8 ⟨rfl,K7,S,hK,hC⟩;refine⟨_,rfl,?_⟩;replace nXg2:=opX Xg2 nXg2 hK hC;replace Xg2:=nXg2.1;replace nXg2:=nXg2.2;replace U3:=A.byu U3 hC;replace A:=A.op S hK hC;clear S hK hC;clear U3;refine ag (ab (aI (fL (aH (.tuple #[]) (rs0 (by kernel_rfl)) ?_))));rw[show ow E a b m=_ from if_pos c6];exact⟨rfl,_,A.sx,A.km,A.cc⟩
 ·refine tq 13 (.bool ((m:Int) == 0)) (.bool false) (congrArg Value.bool (beq_eq_false_iff_ne.2 c6)) ?_
  refine ag (ab (aE [(1,pg g),(2,.int .u64 m),(6,kv4),(13,.bool false)] (by kernel_rfl) ?_));refine bM ?_
  refine aK (ab (ah (t 17 (pg g) ?_)));refine t 18 (kv4) ?_
  refine t 19 (.int .u64 m) ?_
  refine tc 20 116 #[.int .u64 m] (eC) ?_
  rintro _ v11 ⟨pv10,rfl,U9,B⟩;refine⟨_,rfl,?_⟩;replace A:=A.keep B;replace Xg2:=Xg2.keep B;replace U3:=bh U3 B;clear B;refine tc 21 50 #[pg g,kv4,pv10] (oN A.sx U3 (sG a b) U9 (Nat.le_trans (jw _) (by decide)) (by omega) (by omega)) ?_
  rintro _ v13 ⟨rfl,K12,S,hK,hC⟩;refine⟨_,rfl,?_⟩;replace nXg2:=opX Xg2 nXg2 hK hC;replace Xg2:=nXg2.1;replace nXg2:=nXg2.2;replace U3:=A.byu U3 hC;replace U9:=A.byu U9 hC;replace A:=A.op S hK hC;clear S hK hC;clear U3;clear U9;refine ag (kz (.tuple #[]) (rs0 (by kernel_rfl)) ?_);rw[show ow E a b m=_ from if_neg c6];exact⟨rfl,_,A.sx,A.km,A.cc⟩
end
end Qu
end
section
namespace Qu
open Go.RowKit Go.Lib Pg Lim Gl Kv Bk Pw
section
variable {w:World}{x0 x1 x2 x3 x4 x5 a b id:Int}{a6 a1 a2:Option Addr}{ρ:Operand->Value}{v:Value}{l:List Int}{B g n N:Nat}{K:Nat->Prop}{E:ay}{W:List ay}
attribute [local go_sem] Oper.semAt_some
set_option linter.unusedVariables false
set_option linter.unusedSimpArgs false
theorem dH  : Calls Tryz.prog 57 #[] w fun e w'=>e=.returned (.agg #[.int .i64 12,.func (.func 118) #[] #[],.func (.func 119) #[] #[],.func (.func 120) #[] #[]])/\Below w.heap.size w w':=by
 have BB:=Below.refl w.heap.size w;refine aG (n:=2) Tryz.func57 rfl (by kernel_rfl) (by kernel_rfl) ?_
 refine af (ah (ta 0 [.int .i64 0,.nilFunc,.nilFunc,.nilFunc] 119 (pg) ?_));intro v1 g2 Xg2 hg2 B;replace BB:=ai BB B;clear B;refine ag (ab (af (ah (t 1 (.agg #[.int .i64 12,.func (.func 118) #[] #[],.func (.func 119) #[] #[],.func (.func 120) #[] #[]]) ?_))));refine ts Xg2 0 (.agg #[.int .i64 12,.func (.func 118) #[] #[],.func (.func 119) #[] #[],.func (.func 120) #[] #[]]) [.int .i64 12,.func (.func 118) #[] #[],.func (.func 119) #[] #[],.func (.func 120) #[] #[]] [.int .i64 12,.func (.func 118) #[] #[],.func (.func 119) #[] #[],.func (.func 120) #[] #[]] ?_
 intro v3 Y C;replace BB:=cZ BB C (by omega);clear C Xg2;have Xg2:=Y;clear Y;refine ag (ab (aI (aH (.agg #[.int .i64 12,.func (.func 118) #[] #[],.func (.func 119) #[] #[],.func (.func 120) #[] #[]]) (rsc 0 (T:=119) (by kernel_rfl) (by kernel_rfl) (lr Xg2 0)) ?_)));exact⟨rfl,BB⟩
theorem gK  : Calls Tryz.prog 62 #[] w fun e w'=>e=.returned (.agg #[.int .i64 13,.func (.func 124) #[] #[],.func (.func 125) #[] #[],.func (.func 126) #[] #[]])/\Below w.heap.size w w':=by
 have BB:=Below.refl w.heap.size w;refine aG (n:=2) Tryz.func62 rfl (by kernel_rfl) (by kernel_rfl) ?_
 refine af (ah (ta 0 [.int .i64 0,.nilFunc,.nilFunc,.nilFunc] 128 (pg) ?_));intro v1 g2 Xg2 hg2 B;replace BB:=ai BB B;clear B;refine ag (ab (af (ah (t 1 (.agg #[.int .i64 13,.func (.func 124) #[] #[],.func (.func 125) #[] #[],.func (.func 126) #[] #[]]) ?_))));refine ts Xg2 0 (.agg #[.int .i64 13,.func (.func 124) #[] #[],.func (.func 125) #[] #[],.func (.func 126) #[] #[]]) [.int .i64 13,.func (.func 124) #[] #[],.func (.func 125) #[] #[],.func (.func 126) #[] #[]] [.int .i64 13,.func (.func 124) #[] #[],.func (.func 125) #[] #[],.func (.func 126) #[] #[]] ?_
 intro v3 Y C;replace BB:=cZ BB C (by omega);clear C Xg2;have Xg2:=Y;clear Y;refine ag (ab (aI (aH (.agg #[.int .i64 13,.func (.func 124) #[] #[],.func (.func 125) #[] #[],.func (.func 126) #[] #[]]) (rsc 0 (T:=128) (by kernel_rfl) (by kernel_rfl) (lr Xg2 0)) ?_)));exact⟨rfl,BB⟩
theorem yx:Calls Tryz.prog 120 #[.agg #[.int .u64 x0,.int .u64 x1,.int .u64 x2,.int .u64 x3,.int .u64 x4,.int .u64 x5]] w fun e w'=>e=.returned (.agg #[.int .u64 x0,.int .u64 x1,.int .u64 x3])/\Below w.heap.size w w':=by
 have BB:=Below.refl w.heap.size w;refine aG (n:=10) Tryz.func120 rfl (by kernel_rfl) (by kernel_rfl) ?_
 refine af (ah (ta 1 [.int .u64 x0,.int .u64 x1,.int .u64 x2,.int .u64 x3,.int .u64 x4,.int .u64 x5] 46 (pg) ?_));intro v1 g2 Xg2 hg2 B;replace BB:=ai BB B;clear B;have lXg2:=Xg2.lt;refine ta 2 [.int .u64 0,.int .u64 0,.int .u64 0] 188 (pg) ?_
 intro v3 g4 Xg4 hg4 B;replace BB:=ai BB B;replace Xg2:=Xg2.keep B;clear B;refine ag (ab (af (ah (t 3 (pg g2) ?_))));refine tl 4 (.int .u64 x0) Xg2 0 ?_
 refine t 5 (pq g2 1) ?_
 refine tl 6 (.int .u64 x1) Xg2 1 ?_
 refine t 7 (pq g2 3) ?_
 refine tl 8 (.int .u64 x3) Xg2 3 ?_
 refine t 9 (.agg #[.int .u64 x0,.int .u64 x1,.int .u64 x3]) ?_
 refine ts Xg4 0 (.agg #[.int .u64 x0,.int .u64 x1,.int .u64 x3]) [.int .u64 x0,.int .u64 x1,.int .u64 x3] [.int .u64 x0,.int .u64 x1,.int .u64 x3] ?_
 intro v5 Y C;replace BB:=cZ BB C (by omega);replace Xg2:=Xg2.chg C (show g2≠g4 by omega);clear C Xg4;have Xg4:=Y;clear Y;refine ag (ab (aI (aH (.agg #[.int .u64 x0,.int .u64 x1,.int .u64 x3]) (rsc 2 (T:=188) (by kernel_rfl) (by kernel_rfl) (lr Xg4 0)) ?_)));exact⟨rfl,BB⟩
theorem xu{n6 c6:Nat}:Calls Tryz.prog 126 #[.agg #[.int .u64 x0,.int .u64 x1,.int .u64 x2,.int .u64 x3,.int .u64 x4,.int .u64 x5,.slice a6 n6 c6]] w fun e w'=>e=.returned (.agg #[.int .u64 x0,.int .u64 x1,.int .u64 x4])/\Below w.heap.size w w':=by
 have BB:=Below.refl w.heap.size w;refine aG (n:=10) Tryz.func126 rfl (by kernel_rfl) (by kernel_rfl) ?_
 refine af (ah (ta 1 [.int .u64 x0,.int .u64 x1,.int .u64 x2,.int .u64 x3,.int .u64 x4,.int .u64 x5,.slice a6 n6 c6] 51 (pg) ?_));intro v1 g2 Xg2 hg2 B;replace BB:=ai BB B;clear B;have lXg2:=Xg2.lt;refine ta 2 [.int .u64 0,.int .u64 0,.int .u64 0] 188 (pg) ?_
 intro v3 g4 Xg4 hg4 B;replace BB:=ai BB B;replace Xg2:=Xg2.keep B;clear B;refine ag (ab (af (ah (t 3 (pg g2) ?_))));refine tl 4 (.int .u64 x0) Xg2 0 ?_
 refine t 5 (pq g2 1) ?_
 refine tl 6 (.int .u64 x1) Xg2 1 ?_
 refine t 7 (pq g2 4) ?_
 refine tl 8 (.int .u64 x4) Xg2 4 ?_
 refine t 9 (.agg #[.int .u64 x0,.int .u64 x1,.int .u64 x4]) ?_
 refine ts Xg4 0 (.agg #[.int .u64 x0,.int .u64 x1,.int .u64 x4]) [.int .u64 x0,.int .u64 x1,.int .u64 x4] [.int .u64 x0,.int .u64 x1,.int .u64 x4] ?_
 intro v5 Y C;replace BB:=cZ BB C (by omega);replace Xg2:=Xg2.chg C (show g2≠g4 by omega);clear C Xg4;have Xg4:=Y;clear Y;refine ag (ab (aI (aH (.agg #[.int .u64 x0,.int .u64 x1,.int .u64 x4]) (rsc 2 (T:=188) (by kernel_rfl) (by kernel_rfl) (lr Xg4 0)) ?_)));exact⟨rfl,BB⟩
theorem Bo{k:Int}(ha:0<=a/\a < 18446744073709551616)(hE:Ky.mkE k a b=false):Calls Tryz.prog 88 #[.int .i64 k,.int .u64 a,.int .u64 b] w fun e w'=>∃ ao m c,e=.returned (.slice ao m c)/\ByU w' (.slice ao m c) (Ky.mk k a b)/\Below w.heap.size w w':=by
 refine(lW ha hE).mono ?_
 rintro e w' ⟨v,rfl,U,B⟩;obtain⟨_,ao,c,rfl,_⟩:=bya U.byt;exact⟨_,_,_,rfl,U,B⟩
theorem zg{o:Oper}{m1 c1 m2 c2:Nat}(ho:∃ u v,o.op=.build 189 #[(0,u),(1,v)]/\ρ u=.slice a1 m1 c1/\ρ v=.slice a2 m2 c2:=by exact⟨_,_,rfl,by kernel_rfl,by kernel_rfl⟩):(execOp ρ o).run Tryz.prog w=.ok (.value (.agg #[.slice a1 m1 c1,.slice a2 m2 c2])) w:=by
 obtain⟨u,v,h,h1,h2⟩:=ho;simp only[execOp,h,h1,h2];go_simp
theorem gu{d:Int}(hb:0<=b/\b < 18446744073709551616)(hd:0<=d/\d < 18446744073709551616):Calls Tryz.prog 115 #[.agg #[.int .u64 a,.int .u64 b,.int .u64 d],.int .u64 id] w fun e w'=>∃ a1 m1 c1 a2 m2 c2,e=.returned (.agg #[.slice a1 m1 c1,.slice a2 m2 c2])/\ByU w' (.slice a1 m1 c1) (Ky.mk 14 d id)/\ByU w' (.slice a2 m2 c2) (Ky.mk 15 b id)/\Below w.heap.size w w':=by
 have BB:=Below.refl w.heap.size w;refine aG (n:=14) Tryz.func115 rfl (by kernel_rfl) (by kernel_rfl) ?_
 refine af (ah (ta 2 [.int .u64 a,.int .u64 b,.int .u64 d] 188 (pg) ?_));intro v1 g2 Xg2 hg2 B;replace BB:=ai BB B;clear B;have lXg2:=Xg2.lt;refine ta 4 [.slice none 0 0,.slice none 0 0] 189 (pg) ?_
 intro v3 g4 Xg4 hg4 B;replace BB:=ai BB B;replace Xg2:=Xg2.keep B;clear B;refine ag (ab (af ?_));replace BB:=BB.drew;replace Xg2:=Xg2.drew;replace Xg4:=Xg4.drew;refine bW (fun w'=>Blk w' g2 [.int .u64 a,.int .u64 b,.int .u64 d] 188) (fun _=>false) Xg2 ?_
 refine z 0 5 (pq g2 2) ?_
 refine zl 1 6 (.int .u64 d) (fun _ h=>h) 2 ?_
 refine z 2 7 (.int .u64 id) ?_
 refine z 4 9 (pq g2 1) ?_
 refine zl 5 10 (.int .u64 b) (fun _ h=>h) 1 ?_
 refine z 6 11 (.int .u64 id) ?_
 refine zc 3 8 88 #[.int .i64 14,.int .u64 d,.int .u64 id] (Bo hd (p7 d id)) ?_
 rintro _ v7 ⟨as6,ms6,cs6,rfl,U5,B⟩;replace BB:=ai BB B;replace Xg2:=Xg2.keep B;replace Xg4:=Xg4.keep B;clear B;refine⟨_,rfl,Xg2,?_⟩;refine zc 7 12 88 #[.int .i64 15,.int .u64 b,.int .u64 id] (Bo hb (pF b id)) ?_
 rintro _ v10 ⟨as9,ms9,cs9,rfl,U8,B⟩;replace BB:=ai BB B;replace Xg2:=Xg2.keep B;replace Xg4:=Xg4.keep B;replace U5:=bh U5 B;clear B;refine⟨_,rfl,Xg2,?_⟩;refine zr 8 13 (.agg #[.slice as6 ms6 cs6,.slice as9 ms9 cs9]) (fun _ _=>zg) ?_
 refine zs 9 Xg4 0 (.agg #[.slice as6 ms6 cs6,.slice as9 ms9 cs9]) [.slice as6 ms6 cs6,.slice as9 ms9 cs9] [.slice as6 ms6 cs6,.slice as9 ms9 cs9] ?_
 intro v11 Y C;replace BB:=cZ BB C (by omega);replace Xg2:=Xg2.chg C (show g2≠g4 by omega);replace U5:=dW U5 Xg4 C (by decide);replace U8:=dW U8 Xg4 C (by decide);clear C Xg4;have Xg4:=Y;clear Y;refine⟨Xg2,?_⟩;refine bg (ab (aE [(4,pg g4)] (by kernel_rfl) ?_));refine aI (aH (.agg #[.slice as6 ms6 cs6,.slice as9 ms9 cs9]) (rsc 4 (T:=189) (by kernel_rfl) (by kernel_rfl) (lr Xg4 0)) ?_);exact⟨_,_,_,_,_,_,rfl,U5,U8,BB⟩
def uv(x0 x1 x2 x3 x4 x5:Int):List Int:=Rc.thr (Rc.pnx (fun o=>([x0,x1,x2,x3,x4,x5]:List Int).getD o 0)) [(0,0),(0,1),(0,2),(0,3),(0,4),(0,5)] []
theorem wY(x0 x1 x2 x3 x4 x5:Int):(uv x0 x1 x2 x3 x4 x5).length<=1800:=by have:=Rc.eR (fun o=>([x0,x1,x2,x3,x4,x5]:List Int).getD o 0) [(0,0),(0,1),(0,2),(0,3),(0,4),(0,5)] []; simpa[uv] using this
theorem uv_oct(x0 x1 x2 x3 x4 x5:Int):Oct (uv x0 x1 x2 x3 x4 x5):=Rc.j9 _ _ _ (fun _ h=>by simp at h)
theorem lY:Calls Tryz.prog 118 #[.agg #[.int .u64 x0,.int .u64 x1,.int .u64 x2,.int .u64 x3,.int .u64 x4,.int .u64 x5]] w fun e w'=>∃ v,e=.returned v/\ByU w' v (uv x0 x1 x2 x3 x4 x5)/\Below w.heap.size w w':=by
 refine Rc.jj.mono ?_
 rintro e w' ⟨b,n,rfl,hn,X,hb,B⟩;exact⟨_,rfl,j4 X (uv_oct _ _ _ _ _ _) hn (Nat.le_trans (wY ..) (by decide)),B⟩
def uX(l:List Int)(i:Nat):Int:=Rc.bE (Rc.bp l) i
theorem oQ(h:ByU w v l)(hl:l.length<=1000000000):Calls Tryz.prog 119 #[v] w fun e w'=>e=.returned (.tuple #[.agg #[.int .u64 (uX l 0),.int .u64 (uX l 1),.int .u64 (uX l 2),.int .u64 (uX l 3),.int .u64 (uX l 4),.int .u64 (uX l 5)],.int .i64 (Rc.dG (Rc.bp l))])/\Below w.heap.size w w':=by
 obtain⟨b,ao,c,rfl,h2⟩:=bya h.byt;exact Rc.qG h2 hl
theorem layU(h:Sx B w K g E W n N)(hid:0<=id/\id < 18446744073709551616)(hn:n + 5<=4000000000000000000)(hN:N + 5<=100000000):Calls Tryz.prog 114 #[pg g,.agg #[.int .i64 12,.func (.func 118) #[] #[],.func (.func 119) #[] #[],.func (.func 120) #[] #[]],.int .u64 id,.agg #[.int .u64 x0,.int .u64 x1,.int .u64 x2,.int .u64 x3,.int .u64 x4,.int .u64 x5]] w (SxE B w K g (put E (Ky.mk 12 id 0) (uv x0 x1 x2 x3 x4 x5)) W (n + 1) (N + 2) (.tuple #[])):=by
 have A:=h.at
 refine aG (n:=18) Tryz.func114 rfl (by kernel_rfl) (by kernel_rfl) ?_
 refine af (ah (ta 5 [.int .i64 12,.func (.func 118) #[] #[],.func (.func 119) #[] #[],.func (.func 120) #[] #[]] 119 (pg) ?_));intro v1 g2 Xg2 hg2 B;have zg2:=Nat.le_trans A.size hg2;have nXg2:=A.new hg2;replace A:=A.keep B;clear B;refine ta 7 [.int .u64 x0,.int .u64 x1,.int .u64 x2,.int .u64 x3,.int .u64 x4,.int .u64 x5] 46 (pg) ?_
 intro v3 g4 Xg4 hg4 B;have zg4:=Nat.le_trans A.size hg4;have nXg4:=A.new hg4;replace A:=A.keep B;replace Xg2:=Xg2.keep B;clear B;refine ag (ab ?_);replace A:=A.drew;replace Xg2:=Xg2.drew;replace Xg4:=Xg4.drew;refine bW (fun w'=>Blk w' g2 [.int .i64 12,.func (.func 118) #[] #[],.func (.func 119) #[] #[],.func (.func 120) #[] #[]] 119/\Blk w' g4 [.int .u64 x0,.int .u64 x1,.int .u64 x2,.int .u64 x3,.int .u64 x4,.int .u64 x5] 46) (fun _=>false) ⟨Xg2,Xg4⟩ ?_
 refine z 0 8 (pg g) ?_
 refine z 1 9 (pg g2) ?_
 refine zl 2 10 (.int .i64 12) (fun _ h=>h.1) 0 ?_
 refine z 3 11 (.int .u64 id) ?_
 refine z 5 13 (pq g2 1) ?_
 refine zl 6 14 (.func (.func 118) #[] #[]) (fun _ h=>h.1) 1 ?_
 refine zlr 7 15 [.int .u64 x0,.int .u64 x1,.int .u64 x2,.int .u64 x3,.int .u64 x4,.int .u64 x5] (fun _ h=>h.2) 0 ?_
 refine zc 4 12 88 #[.int .i64 12,.int .u64 id,.int .u64 0] (lW hid (qa id)) ?_
 rintro _ v7 ⟨kv6,rfl,U5,B⟩;replace A:=A.keep B;replace Xg2:=Xg2.keep B;replace Xg4:=Xg4.keep B;clear B;refine⟨_,rfl,⟨Xg2,Xg4⟩,?_⟩;refine zc 8 16 118 #[.agg #[.int .u64 x0,.int .u64 x1,.int .u64 x2,.int .u64 x3,.int .u64 x4,.int .u64 x5]] (lY) ?_
 rintro _ v10 ⟨pv9,rfl,U8,B⟩;replace A:=A.keep B;replace Xg2:=Xg2.keep B;replace Xg4:=Xg4.keep B;replace U5:=bh U5 B;clear B;refine⟨_,rfl,⟨Xg2,Xg4⟩,?_⟩;refine zc 9 17 50 #[pg g,kv6,pv9] (oN A.sx U5 (qa id) U8 (Nat.le_trans (wY ..) (by decide)) (by omega) (by omega)) ?_
 rintro _ v12 ⟨rfl,K11,S,hK,hC⟩;replace nXg2:=opX Xg2 nXg2 hK hC;replace Xg2:=nXg2.1;replace nXg2:=nXg2.2;replace nXg4:=opX Xg4 nXg4 hK hC;replace Xg4:=nXg4.1;replace nXg4:=nXg4.2;replace U5:=A.byu U5 hC;replace U8:=A.byu U8 hC;replace A:=A.op S hK hC;clear S hK hC;clear U5;clear U8;refine⟨_,rfl,⟨Xg2,Xg4⟩,?_⟩;refine bg (kz (.tuple #[]) (rs0 (by kernel_rfl)) ?_);exact⟨rfl,_,A.sx,A.km,A.cc⟩
theorem AZ(h:Sx B w K g E W n N)(hid:0<=id/\id < 18446744073709551616)(hn:n + 5<=4000000000000000000)(hN:N + 5<=100000000):Calls Tryz.prog 91 #[pg g,.agg #[.int .i64 12,.func (.func 118) #[] #[],.func (.func 119) #[] #[],.func (.func 120) #[] #[]],.int .u64 id] w (SxE B w K g E W (n + 1) N (.tuple #[.agg #[.int .u64 (uX (got E (Ky.mk 12 id 0)) 0),.int .u64 (uX (got E (Ky.mk 12 id 0)) 1),.int .u64 (uX (got E (Ky.mk 12 id 0)) 2),.int .u64 (uX (got E (Ky.mk 12 id 0)) 3),.int .u64 (uX (got E (Ky.mk 12 id 0)) 4),.int .u64 (uX (got E (Ky.mk 12 id 0)) 5)],.bool (Kv.look E (Ky.mk 12 id 0)).isSome])):=by
 have A:=h.at
 refine aG (n:=30) Tryz.func91 rfl (by kernel_rfl) (by kernel_rfl) ?_
 refine af (ah (ta 4 [.int .i64 12,.func (.func 118) #[] #[],.func (.func 119) #[] #[],.func (.func 120) #[] #[]] 119 (pg) ?_));intro v1 g2 Xg2 hg2 B;have zg2:=Nat.le_trans A.size hg2;have nXg2:=A.new hg2;replace A:=A.keep B;clear B;have lXg2:=Xg2.lt;refine ta 6 [.int .u64 0,.int .u64 0,.int .u64 0,.int .u64 0,.int .u64 0,.int .u64 0] 46 (pg) ?_
 intro v3 g4 Xg4 hg4 B;have zg4:=Nat.le_trans A.size hg4;have nXg4:=A.new hg4;replace A:=A.keep B;replace Xg2:=Xg2.keep B;clear B;refine t 7 (.bool false) ?_
 refine ag (ab (af (ah (t 13 (pg g) ?_))));refine t 14 (pg g2) ?_
 refine tl 15 (.int .i64 12) Xg2 0 ?_
 refine t 16 (.int .u64 id) ?_
 refine tc 17 88 #[.int .i64 12,.int .u64 id,.int .u64 0] (lW hid (qa id)) ?_
 rintro _ v7 ⟨kv6,rfl,U5,B⟩;refine⟨_,rfl,?_⟩;replace A:=A.keep B;replace Xg2:=Xg2.keep B;replace Xg4:=Xg4.keep B;clear B;refine tc 18 87 #[pg g,kv6] (As A.sx U5 (by omega) (by omega)) ?_
 rintro _ v10 ⟨gv8,rfl,U9,S,hC⟩;refine⟨_,rfl,?_⟩;replace Xg2:=Xg2.chg hC nXg2;replace Xg4:=Xg4.chg hC nXg4;replace U5:=A.byu U5 hC;replace A:=A.op S (fun _ h=>.inl h) hC;clear S hC;refine t 12 (.tuple #[gv8,.bool (Kv.look E (Ky.mk 12 id 0)).isSome]) ?_
 refine t 19 (gv8) ?_
 refine t 20 (.bool (Kv.look E (Ky.mk 12 id 0)).isSome) ?_
 refine t 8 (gv8) ?_
 refine t 9 (.bool (Kv.look E (Ky.mk 12 id 0)).isSome) ?_
 refine ag (ab (aE [(4,pg g2),(6,pg g4),(7,.bool false),(8,gv8),(9,.bool (Kv.look E (Ky.mk 12 id 0)).isSome)] (by kernel_rfl) ?_));refine af (ah (t 22 (pq g2 2) ?_));refine tl 23 (.func (.func 119) #[] #[]) Xg2 2 ?_
 refine t 24 (gv8) ?_
 refine tc 25 119 #[gv8] (oQ U9 (Sx.nW A.sx _)) ?_
 rintro _ v11 ⟨rfl,B⟩;refine⟨_,rfl,?_⟩;replace A:=A.keep B;replace Xg2:=Xg2.keep B;replace Xg4:=Xg4.keep B;replace U5:=bh U5 B;replace U9:=bh U9 B;clear B;clear U9;refine t 21 (.tuple #[.agg #[.int .u64 (uX (got E (Ky.mk 12 id 0)) 0),.int .u64 (uX (got E (Ky.mk 12 id 0)) 1),.int .u64 (uX (got E (Ky.mk 12 id 0)) 2),.int .u64 (uX (got E (Ky.mk 12 id 0)) 3),.int .u64 (uX (got E (Ky.mk 12 id 0)) 4),.int .u64 (uX (got E (Ky.mk 12 id 0)) 5)],.int .i64 (Rc.dG (Rc.bp (got E (Ky.mk 12 id 0))))]) ?_
 refine t 26 (.agg #[.int .u64 (uX (got E (Ky.mk 12 id 0)) 0),.int .u64 (uX (got E (Ky.mk 12 id 0)) 1),.int .u64 (uX (got E (Ky.mk 12 id 0)) 2),.int .u64 (uX (got E (Ky.mk 12 id 0)) 3),.int .u64 (uX (got E (Ky.mk 12 id 0)) 4),.int .u64 (uX (got E (Ky.mk 12 id 0)) 5)]) ?_
 refine t 27 (.int .i64 (Rc.dG (Rc.bp (got E (Ky.mk 12 id 0))))) ?_
 have lXg2:=Xg2.lt;have lXg4:=Xg4.lt;refine ta 10 [.int .u64 0,.int .u64 0,.int .u64 0,.int .u64 0,.int .u64 0,.int .u64 0] 46 (pg) ?_
 intro v12 g13 Xg13 hg13 B;have zg13:=Nat.le_trans A.size hg13;have nXg13:=A.new hg13;replace A:=A.keep B;replace Xg2:=Xg2.keep B;replace Xg4:=Xg4.keep B;replace U5:=bh U5 B;clear B;refine ts Xg13 0 (.agg #[.int .u64 (uX (got E (Ky.mk 12 id 0)) 0),.int .u64 (uX (got E (Ky.mk 12 id 0)) 1),.int .u64 (uX (got E (Ky.mk 12 id 0)) 2),.int .u64 (uX (got E (Ky.mk 12 id 0)) 3),.int .u64 (uX (got E (Ky.mk 12 id 0)) 4),.int .u64 (uX (got E (Ky.mk 12 id 0)) 5)]) [.int .u64 (uX (got E (Ky.mk 12 id 0)) 0),.int .u64 (uX (got E (Ky.mk 12 id 0)) 1),.int .u64 (uX (got E (Ky.mk 12 id 0)) 2),.int .u64 (uX (got E (Ky.mk 12 id 0)) 3),.int .u64 (uX (got E (Ky.mk 12 id 0)) 4),.int .u64 (uX (got E (Ky.mk 12 id 0)) 5)] [.int .u64 (uX (got E (Ky.mk 12 id 0)) 0),.int .u64 (uX (got E (Ky.mk 12 id 0)) 1),.int .u64 (uX (got E (Ky.mk 12 id 0)) 2),.int .u64 (uX (got E (Ky.mk 12 id 0)) 3),.int .u64 (uX (got E (Ky.mk 12 id 0)) 4),.int .u64 (uX (got E (Ky.mk 12 id 0)) 5)] ?_
 intro v14 Y C;replace A:=Bk.At.cell A Xg13 C zg13 nXg13 (by decide);replace Xg2:=Xg2.chg C (show g2≠g13 by omega);replace Xg4:=Xg4.chg C (show g4≠g13 by omega);replace U5:=dW U5 Xg13 C (by decide);clear C Xg13;have Xg13:=Y;clear Y;refine t 11 (.int .i64 (Rc.dG (Rc.bp (got E (Ky.mk 12 id 0))))) ?_
 refine ag (ab (af (ah (tlr 28 [.int .u64 (uX (got E (Ky.mk 12 id 0)) 0),.int .u64 (uX (got E (Ky.mk 12 id 0)) 1),.int .u64 (uX (got E (Ky.mk 12 id 0)) 2),.int .u64 (uX (got E (Ky.mk 12 id 0)) 3),.int .u64 (uX (got E (Ky.mk 12 id 0)) 4),.int .u64 (uX (got E (Ky.mk 12 id 0)) 5)] Xg13 0 ?_))));refine t 29 (.bool (Kv.look E (Ky.mk 12 id 0)).isSome) ?_
 refine ts Xg4 0 (.agg #[.int .u64 (uX (got E (Ky.mk 12 id 0)) 0),.int .u64 (uX (got E (Ky.mk 12 id 0)) 1),.int .u64 (uX (got E (Ky.mk 12 id 0)) 2),.int .u64 (uX (got E (Ky.mk 12 id 0)) 3),.int .u64 (uX (got E (Ky.mk 12 id 0)) 4),.int .u64 (uX (got E (Ky.mk 12 id 0)) 5)]) [.int .u64 (uX (got E (Ky.mk 12 id 0)) 0),.int .u64 (uX (got E (Ky.mk 12 id 0)) 1),.int .u64 (uX (got E (Ky.mk 12 id 0)) 2),.int .u64 (uX (got E (Ky.mk 12 id 0)) 3),.int .u64 (uX (got E (Ky.mk 12 id 0)) 4),.int .u64 (uX (got E (Ky.mk 12 id 0)) 5)] [.int .u64 (uX (got E (Ky.mk 12 id 0)) 0),.int .u64 (uX (got E (Ky.mk 12 id 0)) 1),.int .u64 (uX (got E (Ky.mk 12 id 0)) 2),.int .u64 (uX (got E (Ky.mk 12 id 0)) 3),.int .u64 (uX (got E (Ky.mk 12 id 0)) 4),.int .u64 (uX (got E (Ky.mk 12 id 0)) 5)] ?_
 intro v15 Y C;replace A:=Bk.At.cell A Xg4 C zg4 nXg4 (by decide);replace Xg2:=Xg2.chg C (show g2≠g4 by omega);replace U5:=dW U5 Xg4 C (by decide);replace Xg13:=Xg13.chg C (show g13≠g4 by omega);clear C Xg4;have Xg4:=Y;clear Y;refine t 7 (.bool (Kv.look E (Ky.mk 12 id 0)).isSome) ?_
 refine ag (ab (aE [(6,pg g4),(7,.bool (Kv.look E (Ky.mk 12 id 0)).isSome)] (by kernel_rfl) ?_));refine aI (aH (.tuple #[.agg #[.int .u64 (uX (got E (Ky.mk 12 id 0)) 0),.int .u64 (uX (got E (Ky.mk 12 id 0)) 1),.int .u64 (uX (got E (Ky.mk 12 id 0)) 2),.int .u64 (uX (got E (Ky.mk 12 id 0)) 3),.int .u64 (uX (got E (Ky.mk 12 id 0)) 4),.int .u64 (uX (got E (Ky.mk 12 id 0)) 5)],.bool (Kv.look E (Ky.mk 12 id 0)).isSome]) (AN 6 7 (T:=46) (by kernel_rfl) (by kernel_rfl) (by kernel_rfl) (lr Xg4 0)) ?_);exact⟨rfl,_,A.sx,A.km,A.cc⟩
end
end Qu
end
section
namespace Bk
open Go.RowKit Go.Lib Pg Lim Gl Kv
section
variable {l:List Int}{w:World}{K D:Nat->Prop}{g n N:Nat}{E:ay}{W:List ay}
attribute [local go_sem] Oper.semAt_some
set_option linter.unusedSimpArgs false
set_option linter.unusedVariables false
theorem nF{err:Int}(ho:aW l):0<=rdV 0 (bO 8 l) err/\rdV 0 (bO 8 l) err < 18446744073709551616:=by
 unfold rdV bO;split
 ·split
  ·exact⟨Int.le_refl _,by decide⟩
  ·rename_i hh;split at hh
   ·cases hh;have:=bF (l:=l.take 8) (fun x hx=>ho x (List.mem_of_mem_take hx));rw[List.length_take,Nat.min_eq_left (by assumption)] at this;exact this
   ·cases hh
 ·exact⟨Int.le_refl _,by decide⟩
theorem tz(ho:Oct l):(0<=pV l/\pV l < 18446744073709551616)/\(0<=wE l/\wE l < 18446744073709551616):=by
 have h1:aW (rdL (bO 8 l) 0 l):=by
  unfold rdL;split
  ·split
   ·exact ho
   ·exact fun x hx=>ho x (List.mem_of_mem_drop hx)
  ·exact ho
 have e:Rc.gG l=Rc.rnx 0 1 (Rc.rnx 0 0 (0,l,fun _=>0)):=rfl;unfold pV wE Rc.bE;rw[e];split
 ·exact⟨nF (err:=0) ho,nF h1⟩
 ·exact⟨⟨Int.le_refl _,by decide⟩,Int.le_refl _,by decide⟩
theorem SA.octv(h:SA w K D g E W n N):∀ x∈E,Oct x.2:=by
 obtain⟨F,V,m,Q,jv,T,oj,hX,rfl,hB⟩:=h.open;obtain⟨L,rfl,A,O,S,k,r⟩:=hX.map.ex;intro x hx;rw[cM] at hx;obtain⟨e,he,rfl⟩:=List.mem_map.1 hx;obtain⟨es,h1,h2⟩:=List.mem_flatten.1 he;obtain⟨p,hp,rfl⟩:=List.mem_map.1 h1;exact((A.br p hp).1.cQ e h2).v.oct
theorem Sx.oct{B:Nat}(h:Sx B w K g E W n N)(k:List Int):Oct ((Kv.look E k).getD []):=by
 cases e:Kv.look E k with
 | none=>exact fun x hx=>by simp at hx
 | some v=>exact SA.octv h.sa _ (Kv.iX e)
end
end Bk
end
section
namespace Qu
open Go.RowKit Go.Lib Pg Lim Gl Kv Bk Pw
section
variable {n m1 c1 m2 c2 B g N q:Nat}{w:World}{c:Code}{a1 a2:Option Addr}{ρ:Operand->Value}{o:Oper}{l:List Int}{K:Nat->Prop}{E:ay}{W:List ay}{x0 x1 x2 x3 x4 x5 id y:Int}
attribute [local go_sem] Oper.semAt_some
set_option linter.unusedVariables false
set_option linter.unusedSimpArgs false
theorem nC{P:Program}{ds:List Deferred}{l:Fr}{Q:Exit->Act->World->Prop}(k:Nat)(h:GC P n ds c (Exit.then (Code.rounds P c Q k) Q) l w):GC P n ds (Code.loop c) Q l w:=⟨fun a r=>wp_loop_rounds (k + 1) (h.out a r)⟩
theorem jK{P:Program}{ds:List Deferred}{l:Fr}{Q Q':Exit->Act->World->Prop}{k:Nat}(h:GC P n ds c (Exit.then (Code.rounds P c Q k) Q) l w):GE n ds (Exit.then (Code.rounds P c Q (k + 1)) Q') .normal l w:=⟨fun a r=>h.out a r⟩
theorem AX:(Instr.index 189 (.agg #[.slice a1 m1 c1,.slice a2 m2 c2]) (.int .i64 0)).run Tryz.prog w=.ok (.slice a1 m1 c1) w:=by
 unfold Instr.index;go_simp
theorem Ac:(Instr.index 189 (.agg #[.slice a1 m1 c1,.slice a2 m2 c2]) (.int .i64 1)).run Tryz.prog w=.ok (.slice a2 m2 c2) w:=by
 unfold Instr.index;go_simp
theorem b8(X i v:Value)(hr:(Instr.index 189 X i).run Tryz.prog w=.ok v w)(ho:∃ u y,o.op=.index 189 u y/\ρ u=X/\ρ y=i:=by exact⟨_,_,rfl,by kernel_rfl,by kernel_rfl⟩):(execOp ρ o).run Tryz.prog w=.ok (.value v) w:=by
 obtain⟨u,y,h,h1,h2⟩:=ho;simp only[execOp,h,h1,h2];go_simp
theorem iq(k:Int)(hk:0<=k/\k < 18446744073709551616)(ho:∃ u,o.op=.convert 3 27 u/\ρ u=.int .i64 k:=by exact⟨_,rfl,by kernel_rfl⟩):(execOp ρ o).run Tryz.prog w=.ok (.value (.int .u64 k)) w:=by
 obtain⟨u,h,h1⟩:=ho;simp only[execOp,h,h1];go_simp;rw[IntKind.wrap_u64,Int.emod_eq_of_lt hk.1 hk.2]
theorem rV(ho:Oct l):0<=aN l/\aN l < 18446744073709551616:=(tz ho).2
def cY(E:ay)(k:Int)(r:List Int)(a b d:Int):ay :=
 let i:=aN (chn E)
 let E1:=put (put (put (fM E) (Ky.mk k i 0) r) (Ky.mk 14 d i) (nv k)) (Ky.mk 15 b i) (nv k)
 ow E1 a b ((cR E1 a b + 1) % 18446744073709551616)
theorem beginU(h:Sx B w K g E W n N)(hx0:0<=x0/\x0 < 18446744073709551616)(hx1:0<=x1/\x1 < 18446744073709551616)(hx3:0<=x3/\x3 < 18446744073709551616)(hn:n + 20<=4000000000000000000)(hN:N + 20<=100000000):Calls Tryz.prog 56 #[pg g,.agg #[.int .i64 12,.func (.func 118) #[] #[],.func (.func 119) #[] #[],.func (.func 120) #[] #[]],.agg #[.int .u64 x0,.int .u64 x1,.int .u64 x2,.int .u64 x3,.int .u64 x4,.int .u64 x5]] w (SxE B w K g (cY E 12 (uv x0 x1 x2 x3 x4 x5) x0 x1 x3) W (n + 7) (N + 10) (.int .u64 (aN (chn E)))):=by
 have hid:0<=aN (chn E)/\aN (chn E) < 18446744073709551616:=rV (h.oct _);have A:=h.at
 refine aG (n:=47) Tryz.func56 rfl (by kernel_rfl) (by kernel_rfl) ?_
 refine af (ah (ta 4 [.int .i64 12,.func (.func 118) #[] #[],.func (.func 119) #[] #[],.func (.func 120) #[] #[]] 119 (pg) ?_));intro v1 g2 Xg2 hg2 B;have zg2:=Nat.le_trans A.size hg2;have nXg2:=A.new hg2;replace A:=A.keep B;clear B;have lXg2:=Xg2.lt;refine ta 5 [.int .u64 x0,.int .u64 x1,.int .u64 x2,.int .u64 x3,.int .u64 x4,.int .u64 x5] 46 (pg) ?_
 intro v3 g4 Xg4 hg4 B;have zg4:=Nat.le_trans A.size hg4;have nXg4:=A.new hg4;replace A:=A.keep B;replace Xg2:=Xg2.keep B;clear B;refine t 6 (.int .u64 0) ?_
 refine ag (ab (af (ah (t 11 (pg g) ?_))));refine tc 12 113 #[pg g] (kI A.sx (by omega) (by omega)) ?_
 rintro _ v6 ⟨rfl,K5,S,hK,hC⟩;refine⟨_,rfl,?_⟩;replace nXg2:=opX Xg2 nXg2 hK hC;replace Xg2:=nXg2.1;replace nXg2:=nXg2.2;replace nXg4:=opX Xg4 nXg4 hK hC;replace Xg4:=nXg4.1;replace nXg4:=nXg4.2;replace A:=A.op S hK hC;clear S hK hC;refine t 7 (.int .u64 (aN (chn E))) ?_
 refine ag (ab (af (ah (t 13 (pg g) ?_))));refine tlr 14 [.int .i64 12,.func (.func 118) #[] #[],.func (.func 119) #[] #[],.func (.func 120) #[] #[]] Xg2 0 ?_
 refine t 15 (.int .u64 (aN (chn E))) ?_
 refine tlr 16 [.int .u64 x0,.int .u64 x1,.int .u64 x2,.int .u64 x3,.int .u64 x4,.int .u64 x5] Xg4 0 ?_
 refine tc 17 114 #[pg g,.agg #[.int .i64 12,.func (.func 118) #[] #[],.func (.func 119) #[] #[],.func (.func 120) #[] #[]],.int .u64 (aN (chn E)),.agg #[.int .u64 x0,.int .u64 x1,.int .u64 x2,.int .u64 x3,.int .u64 x4,.int .u64 x5]] (layU A.sx hid (by omega) (by omega)) ?_
 rintro _ v8 ⟨rfl,K7,S,hK,hC⟩;refine⟨_,rfl,?_⟩;replace nXg2:=opX Xg2 nXg2 hK hC;replace Xg2:=nXg2.1;replace nXg2:=nXg2.2;replace nXg4:=opX Xg4 nXg4 hK hC;replace Xg4:=nXg4.1;replace nXg4:=nXg4.2;replace A:=A.op S hK hC;clear S hK hC;refine ag (ab (aE [(0,pg g),(4,pg g2),(5,pg g4),(6,.int .u64 0),(7,.int .u64 (aN (chn E)))] (by kernel_rfl) ?_));refine af (ah (t 18 (pq g2 3) ?_));refine tl 19 (.func (.func 120) #[] #[]) Xg2 3 ?_
 refine tlr 20 [.int .u64 x0,.int .u64 x1,.int .u64 x2,.int .u64 x3,.int .u64 x4,.int .u64 x5] Xg4 0 ?_
 refine tc 21 120 #[.agg #[.int .u64 x0,.int .u64 x1,.int .u64 x2,.int .u64 x3,.int .u64 x4,.int .u64 x5]] (yx) ?_
 rintro _ v9 ⟨rfl,B⟩;refine⟨_,rfl,?_⟩;replace A:=A.keep B;replace Xg2:=Xg2.keep B;replace Xg4:=Xg4.keep B;clear B;have lXg2:=Xg2.lt;have lXg4:=Xg4.lt;refine ta 8 [.int .u64 0,.int .u64 0,.int .u64 0] 188 (pg) ?_
 intro v10 g11 Xg11 hg11 B;have zg11:=Nat.le_trans A.size hg11;have nXg11:=A.new hg11;replace A:=A.keep B;replace Xg2:=Xg2.keep B;replace Xg4:=Xg4.keep B;clear B;refine ts Xg11 0 (.agg #[.int .u64 x0,.int .u64 x1,.int .u64 x3]) [.int .u64 x0,.int .u64 x1,.int .u64 x3] [.int .u64 x0,.int .u64 x1,.int .u64 x3] ?_
 intro v12 Y C;replace A:=Bk.At.cell A Xg11 C zg11 nXg11 (by decide);replace Xg2:=Xg2.chg C (show g2≠g11 by omega);replace Xg4:=Xg4.chg C (show g4≠g11 by omega);clear C Xg11;have Xg11:=Y;clear Y;refine ag (ab (af (af (ah (tlr 22 [.int .u64 x0,.int .u64 x1,.int .u64 x3] Xg11 0 ?_)))));refine t 23 (.int .u64 (aN (chn E))) ?_
 refine tc 24 115 #[.agg #[.int .u64 x0,.int .u64 x1,.int .u64 x3],.int .u64 (aN (chn E))] (gu hx1 hx3) ?_
 rintro _ v16 ⟨as15,ms15,cs15,ps15,qs15,rs15,rfl,U13,U14,B⟩;refine⟨_,rfl,?_⟩;replace A:=A.keep B;replace Xg2:=Xg2.keep B;replace Xg4:=Xg4.keep B;replace Xg11:=Xg11.keep B;clear B;refine t 25 (.int .i64 0) ?_
 refine ag (ab (aS ?_));refine nC 2 ?_
 refine af (ah (t 26 (.bool true) ?_));refine ag (ab (af (bu ?_)));refine aK (ab (af (aS (af (ah (tr 27 (.slice as15 ms15 cs15) (b8 (.agg #[.slice as15 ms15 cs15,.slice ps15 qs15 rs15]) (.int .i64 0) (.slice as15 ms15 cs15) AX) ?_))))));refine t 10 (.slice as15 ms15 cs15) ?_
 refine ag (ab (aE [(0,pg g),(4,pg g2),(6,.int .u64 0),(7,.int .u64 (aN (chn E))),(8,pg g11),(10,.slice as15 ms15 cs15),(24,.agg #[.slice as15 ms15 cs15,.slice ps15 qs15 rs15]),(25,.int .i64 0),(26,.bool true),(27,.slice as15 ms15 cs15)] (by kernel_rfl) ?_));refine ah (t 28 (pg g) ?_);refine t 29 (.slice as15 ms15 cs15) ?_
 refine t 30 (pg g2) ?_
 refine tl 31 (.int .i64 12) Xg2 0 ?_
 refine tr 32 (.int .u64 12) (iq 12 ⟨by decide,by decide⟩) ?_
 refine tc 33 116 #[.int .u64 12] (eC) ?_
 rintro _ v19 ⟨pv18,rfl,U17,B⟩;refine⟨_,rfl,?_⟩;replace A:=A.keep B;replace Xg2:=Xg2.keep B;replace Xg4:=Xg4.keep B;replace Xg11:=Xg11.keep B;replace U13:=bh U13 B;replace U14:=bh U14 B;clear B;refine tc 34 50 #[pg g,.slice as15 ms15 cs15,pv18] (oN A.sx U13 (p7 x3 (aN (chn E))) U17 (Nat.le_trans (jw _) (by decide)) (by omega) (by omega)) ?_
 rintro _ v21 ⟨rfl,K20,S,hK,hC⟩;refine⟨_,rfl,?_⟩;replace nXg2:=opX Xg2 nXg2 hK hC;replace Xg2:=nXg2.1;replace nXg2:=nXg2.2;replace nXg4:=opX Xg4 nXg4 hK hC;replace Xg4:=nXg4.1;replace nXg4:=nXg4.2;replace nXg11:=opX Xg11 nXg11 hK hC;replace Xg11:=nXg11.1;replace nXg11:=nXg11.2;replace U13:=A.byu U13 hC;replace U14:=A.byu U14 hC;replace U17:=A.byu U17 hC;replace A:=A.op S hK hC;clear S hK hC;clear U13;clear U17;refine ag (dw (ab (ah (t 35 (.int .i64 1) ?_))));refine t 25 (.int .i64 1) ?_
 refine ag ?_
 refine jK ?_
 refine aE [(0,pg g),(4,pg g2),(6,.int .u64 0),(7,.int .u64 (aN (chn E))),(8,pg g11),(10,.slice as15 ms15 cs15),(24,.agg #[.slice as15 ms15 cs15,.slice ps15 qs15 rs15]),(25,.int .i64 1),(26,.bool true),(27,.slice as15 ms15 cs15),(28,pg g),(29,.slice as15 ms15 cs15),(30,pg g2),(31,.int .i64 12),(32,.int .u64 12),(33,pv18),(35,.int .i64 1)] (by kernel_rfl) ?_
 refine af (ah (t 26 (.bool true) ?_));refine ag (ab (af (bu ?_)));refine aK (ab (af (aS (af (ah (tr 27 (.slice ps15 qs15 rs15) (b8 (.agg #[.slice as15 ms15 cs15,.slice ps15 qs15 rs15]) (.int .i64 1) (.slice ps15 qs15 rs15) Ac) ?_))))));refine t 10 (.slice ps15 qs15 rs15) ?_
 refine ag (ab (ah (t 28 (pg g) ?_)));refine t 29 (.slice ps15 qs15 rs15) ?_
 refine t 30 (pg g2) ?_
 refine tl 31 (.int .i64 12) Xg2 0 ?_
 refine tr 32 (.int .u64 12) (iq 12 ⟨by decide,by decide⟩) ?_
 refine tc 33 116 #[.int .u64 12] (eC) ?_
 rintro _ v24 ⟨pv23,rfl,U22,B⟩;refine⟨_,rfl,?_⟩;replace A:=A.keep B;replace Xg2:=Xg2.keep B;replace Xg4:=Xg4.keep B;replace Xg11:=Xg11.keep B;replace U14:=bh U14 B;clear B;refine tc 34 50 #[pg g,.slice ps15 qs15 rs15,pv23] (oN A.sx U14 (pF x1 (aN (chn E))) U22 (Nat.le_trans (jw _) (by decide)) (by omega) (by omega)) ?_
 rintro _ v26 ⟨rfl,K25,S,hK,hC⟩;refine⟨_,rfl,?_⟩;replace nXg2:=opX Xg2 nXg2 hK hC;replace Xg2:=nXg2.1;replace nXg2:=nXg2.2;replace nXg4:=opX Xg4 nXg4 hK hC;replace Xg4:=nXg4.1;replace nXg4:=nXg4.2;replace nXg11:=opX Xg11 nXg11 hK hC;replace Xg11:=nXg11.1;replace nXg11:=nXg11.2;replace U14:=A.byu U14 hC;replace U22:=A.byu U22 hC;replace A:=A.op S hK hC;clear S hK hC;clear U14;clear U22;refine ag (dw (ab (ah (t 35 (.int .i64 2) ?_))));refine t 25 (.int .i64 2) ?_
 refine ag ?_
 refine jK ?_
 refine aE [(0,pg g),(4,pg g2),(6,.int .u64 0),(7,.int .u64 (aN (chn E))),(8,pg g11),(10,.slice ps15 qs15 rs15),(24,.agg #[.slice as15 ms15 cs15,.slice ps15 qs15 rs15]),(25,.int .i64 2),(26,.bool true),(27,.slice ps15 qs15 rs15),(28,pg g),(29,.slice ps15 qs15 rs15),(30,pg g2),(31,.int .i64 12),(32,.int .u64 12),(33,pv23),(35,.int .i64 2)] (by kernel_rfl) ?_
 refine af (ah (t 26 (.bool false) ?_));refine ag (ab (af (bM ?_)));refine cX (cL (cL (fi (ab (af ?_)))));replace A:=A.drew;replace Xg2:=Xg2.drew;replace Xg4:=Xg4.drew;replace Xg11:=Xg11.drew;refine bW (fun w'=>Blk w' g11 [.int .u64 x0,.int .u64 x1,.int .u64 x3] 188) (fun _=>false) Xg11 ?_
 refine zlr 0 36 [.int .u64 x0,.int .u64 x1,.int .u64 x3] (fun _ h=>h) 0 ?_
 refine z 1 37 (pg g) ?_
 refine z 2 38 (pg g) ?_
 refine z 3 39 (pg g11) ?_
 refine zl 4 40 (.int .u64 x0) (fun _ h=>h) 0 ?_
 refine z 5 41 (pq g11 1) ?_
 refine zl 6 42 (.int .u64 x1) (fun _ h=>h) 1 ?_
 refine zc 7 43 34 #[pg g,.int .u64 x0,.int .u64 x1] (bU A.sx hx0 (by omega) (by omega)) ?_
 rintro _ v28 ⟨rfl,K27,S,hK,hC⟩;replace nXg2:=opX Xg2 nXg2 hK hC;replace Xg2:=nXg2.1;replace nXg2:=nXg2.2;replace nXg4:=opX Xg4 nXg4 hK hC;replace Xg4:=nXg4.1;replace nXg4:=nXg4.2;replace nXg11:=opX Xg11 nXg11 hK hC;replace Xg11:=nXg11.1;replace nXg11:=nXg11.2;replace A:=A.op S hK hC;clear S hK hC;refine⟨_,rfl,Xg11,?_⟩;refine zq 8 44 (.int .u64 (IntKind.u64.wrap (cR (put (put (put (fM E) (Ky.mk 12 (aN (chn E)) 0) (uv x0 x1 x2 x3 x4 x5)) (Ky.mk 14 x3 (aN (chn E))) (nv 12)) (Ky.mk 15 x1 (aN (chn E))) (nv 12)) x0 x1 + 1))) (.int .u64 ((cR (put (put (put (fM E) (Ky.mk 12 (aN (chn E)) 0) (uv x0 x1 x2 x3 x4 x5)) (Ky.mk 14 x3 (aN (chn E))) (nv 12)) (Ky.mk 15 x1 (aN (chn E))) (nv 12)) x0 x1 + 1) % 18446744073709551616)) (congrArg (Value.int .u64) (IntKind.wrap_u64 _)) ?_
 refine zc 9 45 117 #[.agg #[.int .u64 x0,.int .u64 x1,.int .u64 x3],pg g,.int .u64 ((cR (put (put (put (fM E) (Ky.mk 12 (aN (chn E)) 0) (uv x0 x1 x2 x3 x4 x5)) (Ky.mk 14 x3 (aN (chn E))) (nv 12)) (Ky.mk 15 x1 (aN (chn E))) (nv 12)) x0 x1 + 1) % 18446744073709551616)] (count_set A.sx hx0 (by omega) (by omega)) ?_
 rintro _ v30 ⟨rfl,K29,S,hK,hC⟩;replace nXg2:=opX Xg2 nXg2 hK hC;replace Xg2:=nXg2.1;replace nXg2:=nXg2.2;replace nXg4:=opX Xg4 nXg4 hK hC;replace Xg4:=nXg4.1;replace nXg4:=nXg4.2;replace nXg11:=opX Xg11 nXg11 hK hC;replace Xg11:=nXg11.1;replace nXg11:=nXg11.2;replace A:=A.op S hK hC;clear S hK hC;refine⟨_,rfl,Xg11,?_⟩;refine bg (ab (af (ah (t 46 (.int .u64 (aN (chn E))) ?_))));refine t 6 (.int .u64 (aN (chn E))) ?_
 refine ag (ab (aE [(6,.int .u64 (aN (chn E)))] (by kernel_rfl) ?_));refine aI (aH (.int .u64 (aN (chn E))) (rs1 6 (by kernel_rfl) (by kernel_rfl)) ?_);exact⟨rfl,_,A.sx,A.km,A.cc⟩
theorem rr0{s:Rc.RSt}{o:Nat}(h:Oct s.2.1/\∀ i,i < 6->0<=s.2.2 i/\s.2.2 i < 18446744073709551616):Oct (Rc.rnx 0 o s).2.1/\∀ i,i < 6->0<=(Rc.rnx 0 o s).2.2 i/\(Rc.rnx 0 o s).2.2 i < 18446744073709551616:=by
 refine⟨?_,fun i hi => ?_⟩
 ·show Oct (rdL (bO 8 s.2.1) s.1 s.2.1)
  unfold rdL;split
  ·split
   ·exact h.1
   ·exact fun x hx=>h.1 x (List.mem_of_mem_drop hx)
  ·exact h.1
 ·show 0<=(if i=o then rdV 0 (bO 8 s.2.1) s.1 else s.2.2 i)/\(if i=o then rdV 0 (bO 8 s.2.1) s.1 else s.2.2 i) < 18446744073709551616
  split
  ·exact nF h.1
  ·exact h.2 i hi
theorem fH(ho:Oct l)(i:Nat)(hi:i < 6:=by decide):0<=uX l i/\uX l i < 18446744073709551616:=by
 have h:=rr0 (o:=5) (rr0 (o:=4) (rr0 (o:=3) (rr0 (o:=2) (rr0 (o:=1) (rr0 (o:=0) (s:=(0,l,fun _=>0)) ⟨ho,fun _ _=>⟨Int.le_refl _,(by decide:(0:Int) < 18446744073709551616)⟩⟩)))))
 have e:Rc.bp l=Rc.rnx 0 5 (Rc.rnx 0 4 (Rc.rnx 0 3 (Rc.rnx 0 2 (Rc.rnx 0 1 (Rc.rnx 0 0 (0,l,fun _=>0)))))):=rfl;unfold uX Rc.bE;rw[e];split
 ·exact h.2 i hi
 ·exact⟨Int.le_refl _,(by decide:(0:Int) < 18446744073709551616)⟩
def rh(E:ay)(k id a b d:Int):ay :=
 let E1:=rem (rem (rem E (Ky.mk k id 0)) (Ky.mk 14 d id)) (Ky.mk 15 b id)
 ow E1 a b ((cR E1 a b - 1) % 18446744073709551616)
def kx(E:ay)(id:Int):ay:=if (Kv.look E (Ky.mk 12 id 0)).isSome=true then rh E 12 id (uX (got E (Ky.mk 12 id 0)) 0) (uX (got E (Ky.mk 12 id 0)) 1) (uX (got E (Ky.mk 12 id 0)) 3) else E
def gg(E:ay)(id y:Int):ay:=if (Kv.look E (Ky.mk 12 id 0)).isSome=true then put E (Ky.mk 12 id 0) (uv (uX (got E (Ky.mk 12 id 0)) 0) (uX (got E (Ky.mk 12 id 0)) 1) (uX (got E (Ky.mk 12 id 0)) 2) (uX (got E (Ky.mk 12 id 0)) 3) (uX (got E (Ky.mk 12 id 0)) 4) y) else E
theorem oG{b:Bool}(h:Sx B w K g E W n N)(hid:0<=id/\id < 18446744073709551616)(hn:n + 5<=4000000000000000000)(hN:N + 5<=100000000)(hb:(Kv.look E (Ky.mk 12 id 0)).isSome=b):Calls Tryz.prog 91 #[pg g,.agg #[.int .i64 12,.func (.func 118) #[] #[],.func (.func 119) #[] #[],.func (.func 120) #[] #[]],.int .u64 id] w (SxE B w K g E W (n + 1) N (.tuple #[.agg #[.int .u64 (uX (got E (Ky.mk 12 id 0)) 0),.int .u64 (uX (got E (Ky.mk 12 id 0)) 1),.int .u64 (uX (got E (Ky.mk 12 id 0)) 2),.int .u64 (uX (got E (Ky.mk 12 id 0)) 3),.int .u64 (uX (got E (Ky.mk 12 id 0)) 4),.int .u64 (uX (got E (Ky.mk 12 id 0)) 5)],.bool b])):=by
 subst hb;exact AZ h hid hn hN
theorem endU(h:Sx B w K g E W n N)(hid:0<=id/\id < 18446744073709551616)(hn:n + 20<=4000000000000000000)(hN:N + 20<=100000000):Calls Tryz.prog 70 #[pg g,.agg #[.int .i64 12,.func (.func 118) #[] #[],.func (.func 119) #[] #[],.func (.func 120) #[] #[]],.int .u64 id] w (SxF B w K g (kx E id) W n N (.bool (Kv.look E (Ky.mk 12 id 0)).isSome)):=by
 have A:=h.at
 refine aG (n:=51) Tryz.func70 rfl (by kernel_rfl) (by kernel_rfl) ?_
 refine af (ah (ta 4 [.int .i64 12,.func (.func 118) #[] #[],.func (.func 119) #[] #[],.func (.func 120) #[] #[]] 119 (pg) ?_));intro v1 g2 Xg2 hg2 B;have zg2:=Nat.le_trans A.size hg2;have nXg2:=A.new hg2;replace A:=A.keep B;clear B;refine t 6 (.bool false) ?_
 refine ag (ab (af (ah (t 13 (pg g) ?_))));refine tlr 14 [.int .i64 12,.func (.func 118) #[] #[],.func (.func 119) #[] #[],.func (.func 120) #[] #[]] Xg2 0 ?_
 refine t 15 (.int .u64 id) ?_
 by_cases c3:(Kv.look E (Ky.mk 12 id 0)).isSome=true
 ·refine tc 16 91 #[pg g,.agg #[.int .i64 12,.func (.func 118) #[] #[],.func (.func 119) #[] #[],.func (.func 120) #[] #[]],.int .u64 id] (oG A.sx hid (by omega) (by omega) c3) ?_
  rintro _ v5 ⟨rfl,K4,S,hK,hC⟩;refine⟨_,rfl,?_⟩;replace nXg2:=opX Xg2 nXg2 hK hC;replace Xg2:=nXg2.1;replace nXg2:=nXg2.2;replace A:=A.op S hK hC;clear S hK hC;refine t 12 (.tuple #[.agg #[.int .u64 (uX (got E (Ky.mk 12 id 0)) 0),.int .u64 (uX (got E (Ky.mk 12 id 0)) 1),.int .u64 (uX (got E (Ky.mk 12 id 0)) 2),.int .u64 (uX (got E (Ky.mk 12 id 0)) 3),.int .u64 (uX (got E (Ky.mk 12 id 0)) 4),.int .u64 (uX (got E (Ky.mk 12 id 0)) 5)],.bool true]) ?_
  refine t 17 (.agg #[.int .u64 (uX (got E (Ky.mk 12 id 0)) 0),.int .u64 (uX (got E (Ky.mk 12 id 0)) 1),.int .u64 (uX (got E (Ky.mk 12 id 0)) 2),.int .u64 (uX (got E (Ky.mk 12 id 0)) 3),.int .u64 (uX (got E (Ky.mk 12 id 0)) 4),.int .u64 (uX (got E (Ky.mk 12 id 0)) 5)]) ?_
  refine t 18 (.bool true) ?_
  have lXg2:=Xg2.lt;refine ta 7 [.int .u64 0,.int .u64 0,.int .u64 0,.int .u64 0,.int .u64 0,.int .u64 0] 46 (pg) ?_
  intro v6 g7 Xg7 hg7 B;have zg7:=Nat.le_trans A.size hg7;have nXg7:=A.new hg7;replace A:=A.keep B;replace Xg2:=Xg2.keep B;clear B;refine ts Xg7 0 (.agg #[.int .u64 (uX (got E (Ky.mk 12 id 0)) 0),.int .u64 (uX (got E (Ky.mk 12 id 0)) 1),.int .u64 (uX (got E (Ky.mk 12 id 0)) 2),.int .u64 (uX (got E (Ky.mk 12 id 0)) 3),.int .u64 (uX (got E (Ky.mk 12 id 0)) 4),.int .u64 (uX (got E (Ky.mk 12 id 0)) 5)]) [.int .u64 (uX (got E (Ky.mk 12 id 0)) 0),.int .u64 (uX (got E (Ky.mk 12 id 0)) 1),.int .u64 (uX (got E (Ky.mk 12 id 0)) 2),.int .u64 (uX (got E (Ky.mk 12 id 0)) 3),.int .u64 (uX (got E (Ky.mk 12 id 0)) 4),.int .u64 (uX (got E (Ky.mk 12 id 0)) 5)] [.int .u64 (uX (got E (Ky.mk 12 id 0)) 0),.int .u64 (uX (got E (Ky.mk 12 id 0)) 1),.int .u64 (uX (got E (Ky.mk 12 id 0)) 2),.int .u64 (uX (got E (Ky.mk 12 id 0)) 3),.int .u64 (uX (got E (Ky.mk 12 id 0)) 4),.int .u64 (uX (got E (Ky.mk 12 id 0)) 5)] ?_
  intro v8 Y C;replace A:=Bk.At.cell A Xg7 C zg7 nXg7 (by decide);replace Xg2:=Xg2.chg C (show g2≠g7 by omega);clear C Xg7;have Xg7:=Y;clear Y;refine t 8 (.bool true) ?_
  refine ag (ab (aE [(0,pg g),(2,.int .u64 id),(4,pg g2),(6,.bool false),(7,pg g7),(8,.bool true)] (by kernel_rfl) ?_));refine af (af (ah (t 19 (.bool true) ?_)));refine t 20 (.bool false) ?_
  refine ag (ab (bM ?_));refine aK (ab (af (ah (t 21 (pg g) ?_))));refine t 22 (pg g2) ?_
  refine tl 23 (.int .i64 12) Xg2 0 ?_
  refine t 24 (.int .u64 id) ?_
  refine tc 25 88 #[.int .i64 12,.int .u64 id,.int .u64 0] (lW hid (qa id)) ?_
  rintro _ v11 ⟨kv10,rfl,U9,B⟩;refine⟨_,rfl,?_⟩;replace A:=A.keep B;replace Xg2:=Xg2.keep B;replace Xg7:=Xg7.keep B;clear B;refine tc 26 130 #[pg g,kv10] (qw A.sx U9 (Nat.le_trans (Ky.fY _ _ _) (by decide)) (by omega) (by omega)) ?_
  rintro _ v13 ⟨rfl,K12,S,hK,hC⟩;refine⟨_,rfl,?_⟩;replace nXg2:=opX Xg2 nXg2 hK hC;replace Xg2:=nXg2.1;replace nXg2:=nXg2.2;replace nXg7:=opX Xg7 nXg7 hK hC;replace Xg7:=nXg7.1;replace nXg7:=nXg7.2;replace U9:=A.byu U9 hC;replace A:=A.op S hK hC;clear S hK hC;clear U9;refine ag (ab (af (ah (t 27 (pq g2 3) ?_))));refine tl 28 (.func (.func 120) #[] #[]) Xg2 3 ?_
  refine tlr 29 [.int .u64 (uX (got E (Ky.mk 12 id 0)) 0),.int .u64 (uX (got E (Ky.mk 12 id 0)) 1),.int .u64 (uX (got E (Ky.mk 12 id 0)) 2),.int .u64 (uX (got E (Ky.mk 12 id 0)) 3),.int .u64 (uX (got E (Ky.mk 12 id 0)) 4),.int .u64 (uX (got E (Ky.mk 12 id 0)) 5)] Xg7 0 ?_
  refine tc 30 120 #[.agg #[.int .u64 (uX (got E (Ky.mk 12 id 0)) 0),.int .u64 (uX (got E (Ky.mk 12 id 0)) 1),.int .u64 (uX (got E (Ky.mk 12 id 0)) 2),.int .u64 (uX (got E (Ky.mk 12 id 0)) 3),.int .u64 (uX (got E (Ky.mk 12 id 0)) 4),.int .u64 (uX (got E (Ky.mk 12 id 0)) 5)]] (yx) ?_
  rintro _ v14 ⟨rfl,B⟩;refine⟨_,rfl,?_⟩;replace A:=A.keep B;replace Xg2:=Xg2.keep B;replace Xg7:=Xg7.keep B;clear B;have lXg2:=Xg2.lt;have lXg7:=Xg7.lt;refine ta 9 [.int .u64 0,.int .u64 0,.int .u64 0] 188 (pg) ?_
  intro v15 g16 Xg16 hg16 B;have zg16:=Nat.le_trans A.size hg16;have nXg16:=A.new hg16;replace A:=A.keep B;replace Xg2:=Xg2.keep B;replace Xg7:=Xg7.keep B;clear B;refine ts Xg16 0 (.agg #[.int .u64 (uX (got E (Ky.mk 12 id 0)) 0),.int .u64 (uX (got E (Ky.mk 12 id 0)) 1),.int .u64 (uX (got E (Ky.mk 12 id 0)) 3)]) [.int .u64 (uX (got E (Ky.mk 12 id 0)) 0),.int .u64 (uX (got E (Ky.mk 12 id 0)) 1),.int .u64 (uX (got E (Ky.mk 12 id 0)) 3)] [.int .u64 (uX (got E (Ky.mk 12 id 0)) 0),.int .u64 (uX (got E (Ky.mk 12 id 0)) 1),.int .u64 (uX (got E (Ky.mk 12 id 0)) 3)] ?_
  intro v17 Y C;replace A:=Bk.At.cell A Xg16 C zg16 nXg16 (by decide);replace Xg2:=Xg2.chg C (show g2≠g16 by omega);replace Xg7:=Xg7.chg C (show g7≠g16 by omega);clear C Xg16;have Xg16:=Y;clear Y;refine ag (ab (aE [(0,pg g),(2,.int .u64 id),(6,.bool false),(9,pg g16)] (by kernel_rfl) ?_));refine af (af (ah (tlr 31 [.int .u64 (uX (got E (Ky.mk 12 id 0)) 0),.int .u64 (uX (got E (Ky.mk 12 id 0)) 1),.int .u64 (uX (got E (Ky.mk 12 id 0)) 3)] Xg16 0 ?_)));refine t 32 (.int .u64 id) ?_
  refine tc 33 115 #[.agg #[.int .u64 (uX (got E (Ky.mk 12 id 0)) 0),.int .u64 (uX (got E (Ky.mk 12 id 0)) 1),.int .u64 (uX (got E (Ky.mk 12 id 0)) 3)],.int .u64 id] (gu (fH (h.oct _) 1) (fH (h.oct _) 3)) ?_
  rintro _ v21 ⟨as20,ms20,cs20,ps20,qs20,rs20,rfl,U18,U19,B⟩;refine⟨_,rfl,?_⟩;replace A:=A.keep B;replace Xg2:=Xg2.keep B;replace Xg7:=Xg7.keep B;replace Xg16:=Xg16.keep B;clear B;refine t 34 (.int .i64 0) ?_
  refine ag (ab (aS ?_));refine nC 2 ?_
  refine af (ah (t 35 (.bool true) ?_));refine ag (ab (af (bu ?_)));refine aK (ab (af (aS (af (ah (tr 36 (.slice as20 ms20 cs20) (b8 (.agg #[.slice as20 ms20 cs20,.slice ps20 qs20 rs20]) (.int .i64 0) (.slice as20 ms20 cs20) AX) ?_))))));refine t 11 (.slice as20 ms20 cs20) ?_
  refine ag (ab (ah (t 37 (pg g) ?_)));refine t 38 (.slice as20 ms20 cs20) ?_
  refine tc 39 130 #[pg g,.slice as20 ms20 cs20] (qw A.sx U18 (Nat.le_trans (Ky.fY _ _ _) (by decide)) (by omega) (by omega)) ?_
  rintro _ v23 ⟨rfl,K22,S,hK,hC⟩;refine⟨_,rfl,?_⟩;replace nXg2:=opX Xg2 nXg2 hK hC;replace Xg2:=nXg2.1;replace nXg2:=nXg2.2;replace nXg7:=opX Xg7 nXg7 hK hC;replace Xg7:=nXg7.1;replace nXg7:=nXg7.2;replace nXg16:=opX Xg16 nXg16 hK hC;replace Xg16:=nXg16.1;replace nXg16:=nXg16.2;replace U18:=A.byu U18 hC;replace U19:=A.byu U19 hC;replace A:=A.op S hK hC;clear S hK hC;clear U18;refine ag (dw (ab (ah (t 40 (.int .i64 1) ?_))));refine t 34 (.int .i64 1) ?_
  refine ag ?_
  refine jK ?_
  refine aE [(0,pg g),(6,.bool false),(9,pg g16),(11,.slice as20 ms20 cs20),(33,.agg #[.slice as20 ms20 cs20,.slice ps20 qs20 rs20]),(34,.int .i64 1),(35,.bool true),(36,.slice as20 ms20 cs20),(37,pg g),(38,.slice as20 ms20 cs20),(40,.int .i64 1)] (by kernel_rfl) ?_
  refine af (ah (t 35 (.bool true) ?_));refine ag (ab (af (bu ?_)));refine aK (ab (af (aS (af (ah (tr 36 (.slice ps20 qs20 rs20) (b8 (.agg #[.slice as20 ms20 cs20,.slice ps20 qs20 rs20]) (.int .i64 1) (.slice ps20 qs20 rs20) Ac) ?_))))));refine t 11 (.slice ps20 qs20 rs20) ?_
  refine ag (ab (ah (t 37 (pg g) ?_)));refine t 38 (.slice ps20 qs20 rs20) ?_
  refine tc 39 130 #[pg g,.slice ps20 qs20 rs20] (qw A.sx U19 (Nat.le_trans (Ky.fY _ _ _) (by decide)) (by omega) (by omega)) ?_
  rintro _ v25 ⟨rfl,K24,S,hK,hC⟩;refine⟨_,rfl,?_⟩;replace nXg2:=opX Xg2 nXg2 hK hC;replace Xg2:=nXg2.1;replace nXg2:=nXg2.2;replace nXg7:=opX Xg7 nXg7 hK hC;replace Xg7:=nXg7.1;replace nXg7:=nXg7.2;replace nXg16:=opX Xg16 nXg16 hK hC;replace Xg16:=nXg16.1;replace nXg16:=nXg16.2;replace U19:=A.byu U19 hC;replace A:=A.op S hK hC;clear S hK hC;clear U19;refine ag (dw (ab (ah (t 40 (.int .i64 2) ?_))));refine t 34 (.int .i64 2) ?_
  refine ag ?_
  refine jK ?_
  refine aE [(0,pg g),(6,.bool false),(9,pg g16),(11,.slice ps20 qs20 rs20),(33,.agg #[.slice as20 ms20 cs20,.slice ps20 qs20 rs20]),(34,.int .i64 2),(35,.bool true),(36,.slice ps20 qs20 rs20),(37,pg g),(38,.slice ps20 qs20 rs20),(40,.int .i64 2)] (by kernel_rfl) ?_
  refine af (ah (t 35 (.bool false) ?_));refine ag (ab (af (bM ?_)));refine cX (cL (cL (fi (ab (af ?_)))));replace A:=A.drew;replace Xg2:=Xg2.drew;replace Xg7:=Xg7.drew;replace Xg16:=Xg16.drew;refine bW (fun w'=>Blk w' g16 [.int .u64 (uX (got E (Ky.mk 12 id 0)) 0),.int .u64 (uX (got E (Ky.mk 12 id 0)) 1),.int .u64 (uX (got E (Ky.mk 12 id 0)) 3)] 188) (fun _=>false) Xg16 ?_
  refine zlr 0 41 [.int .u64 (uX (got E (Ky.mk 12 id 0)) 0),.int .u64 (uX (got E (Ky.mk 12 id 0)) 1),.int .u64 (uX (got E (Ky.mk 12 id 0)) 3)] (fun _ h=>h) 0 ?_
  refine z 1 42 (pg g) ?_
  refine z 2 43 (pg g) ?_
  refine z 3 44 (pg g16) ?_
  refine zl 4 45 (.int .u64 (uX (got E (Ky.mk 12 id 0)) 0)) (fun _ h=>h) 0 ?_
  refine z 5 46 (pq g16 1) ?_
  refine zl 6 47 (.int .u64 (uX (got E (Ky.mk 12 id 0)) 1)) (fun _ h=>h) 1 ?_
  refine zc 7 48 34 #[pg g,.int .u64 (uX (got E (Ky.mk 12 id 0)) 0),.int .u64 (uX (got E (Ky.mk 12 id 0)) 1)] (bU A.sx (fH (h.oct _) 0) (by omega) (by omega)) ?_
  rintro _ v27 ⟨rfl,K26,S,hK,hC⟩;replace nXg2:=opX Xg2 nXg2 hK hC;replace Xg2:=nXg2.1;replace nXg2:=nXg2.2;replace nXg7:=opX Xg7 nXg7 hK hC;replace Xg7:=nXg7.1;replace nXg7:=nXg7.2;replace nXg16:=opX Xg16 nXg16 hK hC;replace Xg16:=nXg16.1;replace nXg16:=nXg16.2;replace A:=A.op S hK hC;clear S hK hC;refine⟨_,rfl,Xg16,?_⟩;refine zq 8 49 (.int .u64 (IntKind.u64.wrap (cR (rem (rem (rem E (Ky.mk 12 id 0)) (Ky.mk 14 (uX (got E (Ky.mk 12 id 0)) 3) id)) (Ky.mk 15 (uX (got E (Ky.mk 12 id 0)) 1) id)) (uX (got E (Ky.mk 12 id 0)) 0) (uX (got E (Ky.mk 12 id 0)) 1) - 1))) (.int .u64 ((cR (rem (rem (rem E (Ky.mk 12 id 0)) (Ky.mk 14 (uX (got E (Ky.mk 12 id 0)) 3) id)) (Ky.mk 15 (uX (got E (Ky.mk 12 id 0)) 1) id)) (uX (got E (Ky.mk 12 id 0)) 0) (uX (got E (Ky.mk 12 id 0)) 1) - 1) % 18446744073709551616)) (congrArg (Value.int .u64) (IntKind.wrap_u64 _)) ?_
  refine zc 9 50 117 #[.agg #[.int .u64 (uX (got E (Ky.mk 12 id 0)) 0),.int .u64 (uX (got E (Ky.mk 12 id 0)) 1),.int .u64 (uX (got E (Ky.mk 12 id 0)) 3)],pg g,.int .u64 ((cR (rem (rem (rem E (Ky.mk 12 id 0)) (Ky.mk 14 (uX (got E (Ky.mk 12 id 0)) 3) id)) (Ky.mk 15 (uX (got E (Ky.mk 12 id 0)) 1) id)) (uX (got E (Ky.mk 12 id 0)) 0) (uX (got E (Ky.mk 12 id 0)) 1) - 1) % 18446744073709551616)] (count_set A.sx (fH (h.oct _) 0) (by omega) (by omega)) ?_
  rintro _ v29 ⟨rfl,K28,S,hK,hC⟩;replace nXg2:=opX Xg2 nXg2 hK hC;replace Xg2:=nXg2.1;replace nXg2:=nXg2.2;replace nXg7:=opX Xg7 nXg7 hK hC;replace Xg7:=nXg7.1;replace nXg7:=nXg7.2;replace nXg16:=opX Xg16 nXg16 hK hC;replace Xg16:=nXg16.1;replace nXg16:=nXg16.2;replace A:=A.op S hK hC;clear S hK hC;refine⟨_,rfl,Xg16,?_⟩;refine bg (ab (af (ah (t 6 (.bool true) ?_))));refine ag (ab (aE [(6,.bool true)] (by kernel_rfl) ?_));refine aI (aH (.bool true) (rs1 6 (by kernel_rfl) (by kernel_rfl)) ?_);rw[show kx E id=_ from if_pos c3,show (Kv.look E (Ky.mk 12 id 0)).isSome=true from c3];exact⟨rfl,_,_,_,A.sx,by omega,by omega,A.km,A.cc⟩
 ·refine tc 16 91 #[pg g,.agg #[.int .i64 12,.func (.func 118) #[] #[],.func (.func 119) #[] #[],.func (.func 120) #[] #[]],.int .u64 id] (oG A.sx hid (by omega) (by omega) (Bool.eq_false_iff.2 c3)) ?_
  rintro _ v31 ⟨rfl,K30,S,hK,hC⟩;refine⟨_,rfl,?_⟩;replace nXg2:=opX Xg2 nXg2 hK hC;replace Xg2:=nXg2.1;replace nXg2:=nXg2.2;replace A:=A.op S hK hC;clear S hK hC;refine t 12 (.tuple #[.agg #[.int .u64 (uX (got E (Ky.mk 12 id 0)) 0),.int .u64 (uX (got E (Ky.mk 12 id 0)) 1),.int .u64 (uX (got E (Ky.mk 12 id 0)) 2),.int .u64 (uX (got E (Ky.mk 12 id 0)) 3),.int .u64 (uX (got E (Ky.mk 12 id 0)) 4),.int .u64 (uX (got E (Ky.mk 12 id 0)) 5)],.bool false]) ?_
  refine t 17 (.agg #[.int .u64 (uX (got E (Ky.mk 12 id 0)) 0),.int .u64 (uX (got E (Ky.mk 12 id 0)) 1),.int .u64 (uX (got E (Ky.mk 12 id 0)) 2),.int .u64 (uX (got E (Ky.mk 12 id 0)) 3),.int .u64 (uX (got E (Ky.mk 12 id 0)) 4),.int .u64 (uX (got E (Ky.mk 12 id 0)) 5)]) ?_
  refine t 18 (.bool false) ?_
  have lXg2:=Xg2.lt;refine ta 7 [.int .u64 0,.int .u64 0,.int .u64 0,.int .u64 0,.int .u64 0,.int .u64 0] 46 (pg) ?_
  intro v32 g33 Xg33 hg33 B;have zg33:=Nat.le_trans A.size hg33;have nXg33:=A.new hg33;replace A:=A.keep B;replace Xg2:=Xg2.keep B;clear B;refine ts Xg33 0 (.agg #[.int .u64 (uX (got E (Ky.mk 12 id 0)) 0),.int .u64 (uX (got E (Ky.mk 12 id 0)) 1),.int .u64 (uX (got E (Ky.mk 12 id 0)) 2),.int .u64 (uX (got E (Ky.mk 12 id 0)) 3),.int .u64 (uX (got E (Ky.mk 12 id 0)) 4),.int .u64 (uX (got E (Ky.mk 12 id 0)) 5)]) [.int .u64 (uX (got E (Ky.mk 12 id 0)) 0),.int .u64 (uX (got E (Ky.mk 12 id 0)) 1),.int .u64 (uX (got E (Ky.mk 12 id 0)) 2),.int .u64 (uX (got E (Ky.mk 12 id 0)) 3),.int .u64 (uX (got E (Ky.mk 12 id 0)) 4),.int .u64 (uX (got E (Ky.mk 12 id 0)) 5)] [.int .u64 (uX (got E (Ky.mk 12 id 0)) 0),.int .u64 (uX (got E (Ky.mk 12 id 0)) 1),.int .u64 (uX (got E (Ky.mk 12 id 0)) 2),.int .u64 (uX (got E (Ky.mk 12 id 0)) 3),.int .u64 (uX (got E (Ky.mk 12 id 0)) 4),.int .u64 (uX (got E (Ky.mk 12 id 0)) 5)] ?_
  intro v34 Y C;replace A:=Bk.At.cell A Xg33 C zg33 nXg33 (by decide);replace Xg2:=Xg2.chg C (show g2≠g33 by omega);clear C Xg33;have Xg33:=Y;clear Y;refine t 8 (.bool false) ?_
  refine ag (ab (aE [(0,pg g),(2,.int .u64 id),(4,pg g2),(6,.bool false),(7,pg g33),(8,.bool false)] (by kernel_rfl) ?_));refine af (af (ah (t 19 (.bool false) ?_)));refine t 20 (.bool true) ?_
  refine ag (ab (bu ?_));refine af (ah (t 6 (.bool false) ?_));refine ag (ab (aI (fL (aH (.bool false) (rs1 6 (by kernel_rfl) (by kernel_rfl)) ?_))));rw[show kx E id=_ from if_neg c3,show (Kv.look E (Ky.mk 12 id 0)).isSome=false from Bool.eq_false_iff.2 c3];exact⟨rfl,_,_,_,A.sx,by omega,by omega,A.km,A.cc⟩
theorem less1{r:Nat}(hne:q≠r)(X:Blk w r [.int .u64 x0,.int .u64 x1,.int .u64 x2,.int .u64 x3,.int .u64 x4,.int .u64 x5] 46)(Xq:Blk w q [.int .u64 y] 27):Calls Tryz.prog 65 #[pg r,pg q] w fun e w'=>e=.returned (.tuple #[])/\Blk w' r [.int .u64 x0,.int .u64 x1,.int .u64 x2,.int .u64 x3,.int .u64 x4,.int .u64 y] 46/\Chg (· = r) w w':=by
 have CC:Chg (· = r) w w:=Chg.refl _ _;refine aG (n:=7) Tryz.func65 rfl (by kernel_rfl) (by kernel_rfl) ?_
 refine ah (t 3 (pg r) ?_);refine tl 4 (.int .u64 y) Xq 0 ?_
 refine t 5 (pg r) ?_
 refine t 6 (pq r 5) ?_
 refine ts X 5 (.int .u64 y) [.int .u64 y] [.int .u64 x0,.int .u64 x1,.int .u64 x2,.int .u64 x3,.int .u64 x4,.int .u64 y] ?_
 intro v1 Y C;replace Xq:=Xq.chg C hne;replace CC:=CC.trans C (fun _ _ h=>h);clear C X;have X:=Y;clear Y;refine ag (kz (.tuple #[]) (rs0 (by kernel_rfl)) ?_);exact⟨rfl,X,CC⟩
theorem zN(h:Sx B w K g E W n N)(hid:0<=id/\id < 18446744073709551616)(Xq:Blk w q [.int .u64 y] 27)(nXq:¬ K q)(hn:n + 20<=4000000000000000000)(hN:N + 20<=100000000):Calls Tryz.prog 64 #[pg g,.agg #[.int .i64 12,.func (.func 118) #[] #[],.func (.func 119) #[] #[],.func (.func 120) #[] #[]],.int .u64 id,.func (.func 65) #[] #[pg q]] w (SxF B w K g (gg E id y) W n N (.bool (Kv.look E (Ky.mk 12 id 0)).isSome)):=by
 have lXq:=Xq.lt;have A:=h.at
 refine aG (n:=27) Tryz.func64 rfl (by kernel_rfl) (by kernel_rfl) ?_
 refine af (ah ?_);have lXq:=Xq.lt;refine ta 5 [.int .i64 12,.func (.func 118) #[] #[],.func (.func 119) #[] #[],.func (.func 120) #[] #[]] 119 (pg) ?_
 intro v1 g2 Xg2 hg2 B;have zg2:=Nat.le_trans A.size hg2;have nXg2:=A.new hg2;replace Xq:=Xq.keep B;replace A:=A.keep B;clear B;refine t 8 (.bool false) ?_
 refine ag (ab (af (ah (t 12 (pg g) ?_))));refine tlr 13 [.int .i64 12,.func (.func 118) #[] #[],.func (.func 119) #[] #[],.func (.func 120) #[] #[]] Xg2 0 ?_
 refine t 14 (.int .u64 id) ?_
 by_cases c3:(Kv.look E (Ky.mk 12 id 0)).isSome=true
 ·refine tc 15 91 #[pg g,.agg #[.int .i64 12,.func (.func 118) #[] #[],.func (.func 119) #[] #[],.func (.func 120) #[] #[]],.int .u64 id] (oG A.sx hid (by omega) (by omega) c3) ?_
  rintro _ v5 ⟨rfl,K4,S,hK,hC⟩;refine⟨_,rfl,?_⟩;replace nXq:=opX Xq nXq hK hC;replace Xq:=nXq.1;replace nXq:=nXq.2;replace nXg2:=opX Xg2 nXg2 hK hC;replace Xg2:=nXg2.1;replace nXg2:=nXg2.2;replace A:=A.op S hK hC;clear S hK hC;refine t 11 (.tuple #[.agg #[.int .u64 (uX (got E (Ky.mk 12 id 0)) 0),.int .u64 (uX (got E (Ky.mk 12 id 0)) 1),.int .u64 (uX (got E (Ky.mk 12 id 0)) 2),.int .u64 (uX (got E (Ky.mk 12 id 0)) 3),.int .u64 (uX (got E (Ky.mk 12 id 0)) 4),.int .u64 (uX (got E (Ky.mk 12 id 0)) 5)],.bool true]) ?_
  refine t 16 (.agg #[.int .u64 (uX (got E (Ky.mk 12 id 0)) 0),.int .u64 (uX (got E (Ky.mk 12 id 0)) 1),.int .u64 (uX (got E (Ky.mk 12 id 0)) 2),.int .u64 (uX (got E (Ky.mk 12 id 0)) 3),.int .u64 (uX (got E (Ky.mk 12 id 0)) 4),.int .u64 (uX (got E (Ky.mk 12 id 0)) 5)]) ?_
  refine t 17 (.bool true) ?_
  have lXq:=Xq.lt;have lXg2:=Xg2.lt;refine ta 9 [.int .u64 0,.int .u64 0,.int .u64 0,.int .u64 0,.int .u64 0,.int .u64 0] 46 (pg) ?_
  intro v6 g7 Xg7 hg7 B;have zg7:=Nat.le_trans A.size hg7;have nXg7:=A.new hg7;replace Xq:=Xq.keep B;replace A:=A.keep B;replace Xg2:=Xg2.keep B;clear B;refine ts Xg7 0 (.agg #[.int .u64 (uX (got E (Ky.mk 12 id 0)) 0),.int .u64 (uX (got E (Ky.mk 12 id 0)) 1),.int .u64 (uX (got E (Ky.mk 12 id 0)) 2),.int .u64 (uX (got E (Ky.mk 12 id 0)) 3),.int .u64 (uX (got E (Ky.mk 12 id 0)) 4),.int .u64 (uX (got E (Ky.mk 12 id 0)) 5)]) [.int .u64 (uX (got E (Ky.mk 12 id 0)) 0),.int .u64 (uX (got E (Ky.mk 12 id 0)) 1),.int .u64 (uX (got E (Ky.mk 12 id 0)) 2),.int .u64 (uX (got E (Ky.mk 12 id 0)) 3),.int .u64 (uX (got E (Ky.mk 12 id 0)) 4),.int .u64 (uX (got E (Ky.mk 12 id 0)) 5)] [.int .u64 (uX (got E (Ky.mk 12 id 0)) 0),.int .u64 (uX (got E (Ky.mk 12 id 0)) 1),.int .u64 (uX (got E (Ky.mk 12 id 0)) 2),.int .u64 (uX (got E (Ky.mk 12 id 0)) 3),.int .u64 (uX (got E (Ky.mk 12 id 0)) 4),.int .u64 (uX (got E (Ky.mk 12 id 0)) 5)] ?_
  intro v8 Y C;replace Xq:=Xq.chg C (show q≠g7 by omega);replace A:=Bk.At.cell A Xg7 C zg7 nXg7 (by decide);replace Xg2:=Xg2.chg C (show g2≠g7 by omega);clear C Xg7;have Xg7:=Y;clear Y;refine t 10 (.bool true) ?_
  refine ag (ab (aE [(0,pg g),(2,.int .u64 id),(3,.func (.func 65) #[] #[pg q]),(5,pg g2),(8,.bool false),(9,pg g7),(10,.bool true)] (by kernel_rfl) ?_));refine af (af (ah (t 18 (.bool true) ?_)));refine ag (ab (bu ?_));refine af (ah (t 19 (.func (.func 65) #[] #[pg q]) ?_));refine tc 20 65 #[pg g7,pg q] (less1 (show q≠g7 by omega) Xg7 Xq) ?_
  rintro _ v9 ⟨rfl,Z,C⟩;refine⟨_,rfl,?_⟩;replace Xq:=Xq.chg C (show q≠g7 by omega);replace A:=Bk.At.cell A Xg7 C zg7 nXg7 (by decide);replace Xg2:=Xg2.chg C (show g2≠g7 by omega);clear C;clear Xg7;have Xg7:=Z;clear Z;refine ag (ab (ah (t 21 (pg g) ?_)));refine tlr 22 [.int .i64 12,.func (.func 118) #[] #[],.func (.func 119) #[] #[],.func (.func 120) #[] #[]] Xg2 0 ?_
  refine t 23 (.int .u64 id) ?_
  refine tlr 24 [.int .u64 (uX (got E (Ky.mk 12 id 0)) 0),.int .u64 (uX (got E (Ky.mk 12 id 0)) 1),.int .u64 (uX (got E (Ky.mk 12 id 0)) 2),.int .u64 (uX (got E (Ky.mk 12 id 0)) 3),.int .u64 (uX (got E (Ky.mk 12 id 0)) 4),.int .u64 y] Xg7 0 ?_
  refine tc 25 114 #[pg g,.agg #[.int .i64 12,.func (.func 118) #[] #[],.func (.func 119) #[] #[],.func (.func 120) #[] #[]],.int .u64 id,.agg #[.int .u64 (uX (got E (Ky.mk 12 id 0)) 0),.int .u64 (uX (got E (Ky.mk 12 id 0)) 1),.int .u64 (uX (got E (Ky.mk 12 id 0)) 2),.int .u64 (uX (got E (Ky.mk 12 id 0)) 3),.int .u64 (uX (got E (Ky.mk 12 id 0)) 4),.int .u64 y]] (layU A.sx hid (by omega) (by omega)) ?_
  rintro _ v11 ⟨rfl,K10,S,hK,hC⟩;refine⟨_,rfl,?_⟩;replace nXq:=opX Xq nXq hK hC;replace Xq:=nXq.1;replace nXq:=nXq.2;replace nXg2:=opX Xg2 nXg2 hK hC;replace Xg2:=nXg2.1;replace nXg2:=nXg2.2;replace nXg7:=opX Xg7 nXg7 hK hC;replace Xg7:=nXg7.1;replace nXg7:=nXg7.2;replace A:=A.op S hK hC;clear S hK hC;refine ag (ab (af (ah (t 26 (.bool true) ?_))));refine t 8 (.bool true) ?_
  refine ag (ab (aI (aH (.bool true) (rs1 8 (by kernel_rfl) (by kernel_rfl)) ?_)));rw[show gg E id y=_ from if_pos c3,show (Kv.look E (Ky.mk 12 id 0)).isSome=true from c3];exact⟨rfl,_,_,_,A.sx,by omega,by omega,A.km,A.cc⟩
 ·refine tc 15 91 #[pg g,.agg #[.int .i64 12,.func (.func 118) #[] #[],.func (.func 119) #[] #[],.func (.func 120) #[] #[]],.int .u64 id] (oG A.sx hid (by omega) (by omega) (Bool.eq_false_iff.2 c3)) ?_
  rintro _ v13 ⟨rfl,K12,S,hK,hC⟩;refine⟨_,rfl,?_⟩;replace nXq:=opX Xq nXq hK hC;replace Xq:=nXq.1;replace nXq:=nXq.2;replace nXg2:=opX Xg2 nXg2 hK hC;replace Xg2:=nXg2.1;replace nXg2:=nXg2.2;replace A:=A.op S hK hC;clear S hK hC;refine t 11 (.tuple #[.agg #[.int .u64 (uX (got E (Ky.mk 12 id 0)) 0),.int .u64 (uX (got E (Ky.mk 12 id 0)) 1),.int .u64 (uX (got E (Ky.mk 12 id 0)) 2),.int .u64 (uX (got E (Ky.mk 12 id 0)) 3),.int .u64 (uX (got E (Ky.mk 12 id 0)) 4),.int .u64 (uX (got E (Ky.mk 12 id 0)) 5)],.bool false]) ?_
  refine t 16 (.agg #[.int .u64 (uX (got E (Ky.mk 12 id 0)) 0),.int .u64 (uX (got E (Ky.mk 12 id 0)) 1),.int .u64 (uX (got E (Ky.mk 12 id 0)) 2),.int .u64 (uX (got E (Ky.mk 12 id 0)) 3),.int .u64 (uX (got E (Ky.mk 12 id 0)) 4),.int .u64 (uX (got E (Ky.mk 12 id 0)) 5)]) ?_
  refine t 17 (.bool false) ?_
  have lXq:=Xq.lt;have lXg2:=Xg2.lt;refine ta 9 [.int .u64 0,.int .u64 0,.int .u64 0,.int .u64 0,.int .u64 0,.int .u64 0] 46 (pg) ?_
  intro v14 g15 Xg15 hg15 B;have zg15:=Nat.le_trans A.size hg15;have nXg15:=A.new hg15;replace Xq:=Xq.keep B;replace A:=A.keep B;replace Xg2:=Xg2.keep B;clear B;refine ts Xg15 0 (.agg #[.int .u64 (uX (got E (Ky.mk 12 id 0)) 0),.int .u64 (uX (got E (Ky.mk 12 id 0)) 1),.int .u64 (uX (got E (Ky.mk 12 id 0)) 2),.int .u64 (uX (got E (Ky.mk 12 id 0)) 3),.int .u64 (uX (got E (Ky.mk 12 id 0)) 4),.int .u64 (uX (got E (Ky.mk 12 id 0)) 5)]) [.int .u64 (uX (got E (Ky.mk 12 id 0)) 0),.int .u64 (uX (got E (Ky.mk 12 id 0)) 1),.int .u64 (uX (got E (Ky.mk 12 id 0)) 2),.int .u64 (uX (got E (Ky.mk 12 id 0)) 3),.int .u64 (uX (got E (Ky.mk 12 id 0)) 4),.int .u64 (uX (got E (Ky.mk 12 id 0)) 5)] [.int .u64 (uX (got E (Ky.mk 12 id 0)) 0),.int .u64 (uX (got E (Ky.mk 12 id 0)) 1),.int .u64 (uX (got E (Ky.mk 12 id 0)) 2),.int .u64 (uX (got E (Ky.mk 12 id 0)) 3),.int .u64 (uX (got E (Ky.mk 12 id 0)) 4),.int .u64 (uX (got E (Ky.mk 12 id 0)) 5)] ?_
  intro v16 Y C;replace Xq:=Xq.chg C (show q≠g15 by omega);replace A:=Bk.At.cell A Xg15 C zg15 nXg15 (by decide);replace Xg2:=Xg2.chg C (show g2≠g15 by omega);clear C Xg15;have Xg15:=Y;clear Y;refine t 10 (.bool false) ?_
  refine ag (ab (aE [(0,pg g),(2,.int .u64 id),(3,.func (.func 65) #[] #[pg q]),(5,pg g2),(8,.bool false),(9,pg g15),(10,.bool false)] (by kernel_rfl) ?_));refine af (af (ah (t 18 (.bool false) ?_)));refine ag (ab (bM ?_));refine aK (ab (af (ah (t 26 (.bool false) ?_))));refine t 8 (.bool false) ?_
  refine ag (ab (aI (aH (.bool false) (rs1 8 (by kernel_rfl) (by kernel_rfl)) ?_)));rw[show gg E id y=_ from if_neg c3,show (Kv.look E (Ky.mk 12 id 0)).isSome=false from Bool.eq_false_iff.2 c3];exact⟨rfl,_,_,_,A.sx,by omega,by omega,A.km,A.cc⟩
end
end Qu
end
section
namespace Qu
open Go.RowKit Go.Lib Pg Lim Gl Kv Bk Pw
section
variable {B g n N:Nat}{w:World}{K:Nat->Prop}{E:ay}{W:List ay}{id:Int}
attribute [local go_sem] Oper.semAt_some
set_option linter.unusedVariables false
set_option linter.unusedSimpArgs false
theorem hH{x0 x1 x2 x3 x4 x5:Int}(h:Sx B w K g E W n N)(hx0:0<=x0/\x0 < 18446744073709551616)(hx1:0<=x1/\x1 < 18446744073709551616)(hx3:0<=x3/\x3 < 18446744073709551616)(hn:n + 30<=4000000000000000000)(hN:N + 30<=100000000):Calls Tryz.prog 18 #[pg g,.agg #[.int .u64 x0,.int .u64 x1,.int .u64 x2,.int .u64 x3,.int .u64 x4,.int .u64 x5]] w (SxE B w K g (cY E 12 (uv x0 x1 x2 x3 x4 x5) x0 x1 x3) W (n + 7) (N + 10) (.int .u64 (aN (chn E)))):=by
 have A:=h.at
 refine aG (n:=9) Tryz.func18 rfl (by kernel_rfl) (by kernel_rfl) ?_
 refine af (ah (ta 3 [.int .u64 x0,.int .u64 x1,.int .u64 x2,.int .u64 x3,.int .u64 x4,.int .u64 x5] 46 (pg) ?_));intro v1 g2 Xg2 hg2 B;have zg2:=Nat.le_trans A.size hg2;have nXg2:=A.new hg2;replace A:=A.keep B;clear B;refine t 4 (.int .u64 0) ?_
 refine ag (ab (af ?_));replace A:=A.drew;replace Xg2:=Xg2.drew;refine bW (fun w'=>Blk w' g2 [.int .u64 x0,.int .u64 x1,.int .u64 x2,.int .u64 x3,.int .u64 x4,.int .u64 x5] 46) (fun _=>false) Xg2 ?_
 refine z 0 5 (pg g) ?_
 refine zlr 2 7 [.int .u64 x0,.int .u64 x1,.int .u64 x2,.int .u64 x3,.int .u64 x4,.int .u64 x5] (fun _ h=>h) 0 ?_
 refine zc 1 6 57 #[] (dH) ?_
 rintro _ v3 ⟨rfl,B⟩;replace A:=A.keep B;replace Xg2:=Xg2.keep B;clear B;refine⟨_,rfl,Xg2,?_⟩;refine zc 3 8 56 #[pg g,.agg #[.int .i64 12,.func (.func 118) #[] #[],.func (.func 119) #[] #[],.func (.func 120) #[] #[]],.agg #[.int .u64 x0,.int .u64 x1,.int .u64 x2,.int .u64 x3,.int .u64 x4,.int .u64 x5]] (beginU A.sx hx0 hx1 hx3 (by omega) (by omega)) ?_
 rintro _ v5 ⟨rfl,K4,S,hK,hC⟩;replace nXg2:=opX Xg2 nXg2 hK hC;replace Xg2:=nXg2.1;replace nXg2:=nXg2.2;replace A:=A.op S hK hC;clear S hK hC;refine⟨_,rfl,Xg2,?_⟩;refine z 4 4 (.int .u64 (aN (chn E))) ?_
 refine bg (ab (aI (aH (.int .u64 (aN (chn E))) (rs1 4 (by kernel_rfl) (by kernel_rfl)) ?_)));exact⟨rfl,_,A.sx,A.km,A.cc⟩
theorem e9(h:Sx B w K g E W n N)(hid:0<=id/\id < 18446744073709551616)(hn:n + 30<=4000000000000000000)(hN:N + 30<=100000000):Calls Tryz.prog 37 #[pg g,.int .u64 id] w (SxE B w K g E W (n + 1) N (.tuple #[.agg #[.int .u64 (uX (got E (Ky.mk 12 id 0)) 0),.int .u64 (uX (got E (Ky.mk 12 id 0)) 1),.int .u64 (uX (got E (Ky.mk 12 id 0)) 2),.int .u64 (uX (got E (Ky.mk 12 id 0)) 3),.int .u64 (uX (got E (Ky.mk 12 id 0)) 4),.int .u64 (uX (got E (Ky.mk 12 id 0)) 5)],.bool (Kv.look E (Ky.mk 12 id 0)).isSome])):=by
 have A:=h.at
 refine aG (n:=12) Tryz.func37 rfl (by kernel_rfl) (by kernel_rfl) ?_
 refine af (ah (ta 4 [.int .u64 0,.int .u64 0,.int .u64 0,.int .u64 0,.int .u64 0,.int .u64 0] 46 (pg) ?_));intro v1 g2 Xg2 hg2 B;have zg2:=Nat.le_trans A.size hg2;have nXg2:=A.new hg2;replace A:=A.keep B;clear B;refine t 5 (.bool false) ?_
 refine ag (ab (af (ah (t 6 (pg g) ?_))));refine tc 7 57 #[] (dH) ?_
 rintro _ v3 ⟨rfl,B⟩;refine⟨_,rfl,?_⟩;replace A:=A.keep B;replace Xg2:=Xg2.keep B;clear B;refine t 8 (.int .u64 id) ?_
 refine tc 9 91 #[pg g,.agg #[.int .i64 12,.func (.func 118) #[] #[],.func (.func 119) #[] #[],.func (.func 120) #[] #[]],.int .u64 id] (AZ A.sx hid (by omega) (by omega)) ?_
 rintro _ v5 ⟨rfl,K4,S,hK,hC⟩;refine⟨_,rfl,?_⟩;replace nXg2:=opX Xg2 nXg2 hK hC;replace Xg2:=nXg2.1;replace nXg2:=nXg2.2;replace A:=A.op S hK hC;clear S hK hC;refine t 10 (.agg #[.int .u64 (uX (got E (Ky.mk 12 id 0)) 0),.int .u64 (uX (got E (Ky.mk 12 id 0)) 1),.int .u64 (uX (got E (Ky.mk 12 id 0)) 2),.int .u64 (uX (got E (Ky.mk 12 id 0)) 3),.int .u64 (uX (got E (Ky.mk 12 id 0)) 4),.int .u64 (uX (got E (Ky.mk 12 id 0)) 5)]) ?_
 refine t 11 (.bool (Kv.look E (Ky.mk 12 id 0)).isSome) ?_
 refine ts Xg2 0 (.agg #[.int .u64 (uX (got E (Ky.mk 12 id 0)) 0),.int .u64 (uX (got E (Ky.mk 12 id 0)) 1),.int .u64 (uX (got E (Ky.mk 12 id 0)) 2),.int .u64 (uX (got E (Ky.mk 12 id 0)) 3),.int .u64 (uX (got E (Ky.mk 12 id 0)) 4),.int .u64 (uX (got E (Ky.mk 12 id 0)) 5)]) [.int .u64 (uX (got E (Ky.mk 12 id 0)) 0),.int .u64 (uX (got E (Ky.mk 12 id 0)) 1),.int .u64 (uX (got E (Ky.mk 12 id 0)) 2),.int .u64 (uX (got E (Ky.mk 12 id 0)) 3),.int .u64 (uX (got E (Ky.mk 12 id 0)) 4),.int .u64 (uX (got E (Ky.mk 12 id 0)) 5)] [.int .u64 (uX (got E (Ky.mk 12 id 0)) 0),.int .u64 (uX (got E (Ky.mk 12 id 0)) 1),.int .u64 (uX (got E (Ky.mk 12 id 0)) 2),.int .u64 (uX (got E (Ky.mk 12 id 0)) 3),.int .u64 (uX (got E (Ky.mk 12 id 0)) 4),.int .u64 (uX (got E (Ky.mk 12 id 0)) 5)] ?_
 intro v6 Y C;replace A:=Bk.At.cell A Xg2 C zg2 nXg2 (by decide);clear C Xg2;have Xg2:=Y;clear Y;refine t 5 (.bool (Kv.look E (Ky.mk 12 id 0)).isSome) ?_
 refine ag (ab (aI (aH (.tuple #[.agg #[.int .u64 (uX (got E (Ky.mk 12 id 0)) 0),.int .u64 (uX (got E (Ky.mk 12 id 0)) 1),.int .u64 (uX (got E (Ky.mk 12 id 0)) 2),.int .u64 (uX (got E (Ky.mk 12 id 0)) 3),.int .u64 (uX (got E (Ky.mk 12 id 0)) 4),.int .u64 (uX (got E (Ky.mk 12 id 0)) 5)],.bool (Kv.look E (Ky.mk 12 id 0)).isSome]) (AN 4 5 (T:=46) (by kernel_rfl) (by kernel_rfl) (by kernel_rfl) (lr Xg2 0)) ?_)));exact⟨rfl,_,A.sx,A.km,A.cc⟩
theorem kQ{y:Int}(h:Sx B w K g E W n N)(hid:0<=id/\id < 18446744073709551616)(hn:n + 30<=4000000000000000000)(hN:N + 30<=100000000):Calls Tryz.prog 22 #[pg g,.int .u64 id,.int .u64 y] w (SxF B w K g (gg E id y) W n N (.bool (Kv.look E (Ky.mk 12 id 0)).isSome)):=by
 have A:=h.at
 refine aG (n:=12) Tryz.func22 rfl (by kernel_rfl) (by kernel_rfl) ?_
 refine af (ah (ta 5 [.int .u64 y] 27 (pg) ?_));intro v1 g2 Xg2 hg2 B;have zg2:=Nat.le_trans A.size hg2;have nXg2:=A.new hg2;replace A:=A.keep B;clear B;refine t 6 (.bool false) ?_
 refine ag (ab (af (ah (t 7 (pg g) ?_))));refine tc 8 57 #[] (dH) ?_
 rintro _ v3 ⟨rfl,B⟩;refine⟨_,rfl,?_⟩;replace A:=A.keep B;replace Xg2:=Xg2.keep B;clear B;refine t 9 (.int .u64 id) ?_
 refine t 10 (.func (.func 65) #[] #[pg g2]) ?_
 refine tc 11 64 #[pg g,.agg #[.int .i64 12,.func (.func 118) #[] #[],.func (.func 119) #[] #[],.func (.func 120) #[] #[]],.int .u64 id,.func (.func 65) #[] #[pg g2]] (zN A.sx hid Xg2 nXg2 (by omega) (by omega)) ?_
 rintro _ v6 ⟨rfl,K4,n5,mn5,S,bn5,dn5,hK,hC⟩;refine⟨_,rfl,?_⟩;replace nXg2:=opX Xg2 nXg2 hK hC;replace Xg2:=nXg2.1;replace nXg2:=nXg2.2;replace A:=A.op S hK hC;clear S hK hC;refine t 6 (.bool (Kv.look E (Ky.mk 12 id 0)).isSome) ?_
 refine ag (ab (aI (aH (.bool (Kv.look E (Ky.mk 12 id 0)).isSome) (rs1 6 (by kernel_rfl) (by kernel_rfl)) ?_)));exact⟨rfl,_,_,_,A.sx,by omega,by omega,A.km,A.cc⟩
end
end Qu
end
section
namespace Qu
open Go.RowKit Go.Lib Pg Lim Gl Kv
structure Nk (w:World) (K:Nat->Prop) (z:Nat) (ao:Option Addr) (n c:Nat) (x:Int):Prop where
 lt:n=0\/z < w.heap.size
 out:n=0\/¬ K z
 to:∀ w':World,(n≠0->w'.heap[z]? = w.heap[z]?)->fg w' ao n c x
structure Nq (w:World) (K:Nat->Prop) (z:Nat) (ao:Option Addr) (n c:Nat) (x:Int):Prop where
 lt:n=0\/z < w.heap.size
 out:n=0\/¬ K z
 to:∀ w':World,(n≠0->w'.heap[z]? = w.heap[z]?)->gb w' ao n c x
section
variable {w w':World} {K K':Nat->Prop} {z n c:Nat} {ao:Option Addr} {x:Int}
section
variable {g:Nat}
theorem Nk.nat(h:Nk w K z ao n c x):fg w ao n c x:=h.to w (fun _=>rfl)
theorem Nk.keep(h:Nk w K z ao n c x)(hb:Below w.heap.size w w'):Nk w' K z ao n c x :=
 ⟨h.lt.imp_right fun h=>Nat.lt_of_lt_of_le h hb.size,h.out,fun w2 h2=>h.to w2 fun hn=>(h2 hn).trans (hb.block z (h.lt.resolve_left hn))⟩
theorem Nk.drew(h:Nk w K z ao n c x):Nk w.drew K z ao n c x:=h.keep (Below.refl _ _).drew
theorem Nk.op(h:Nk w K z ao n c x)(hK:∀ b,K' b->K b\/w.heap.size<=b)(hc:Chg K w w'):Nk w' K' z ao n c x:=by
 refine⟨h.lt.imp_right fun h=>Nat.lt_of_lt_of_le h hc.size,?_,fun w2 h2=>h.to w2 fun hn=>(h2 hn).trans (hc.same z (h.lt.resolve_left hn) (h.out.resolve_left hn))⟩;rcases h.lt with h1 | h1
 ·exact .inl h1
 ·refine h.out.imp_right fun h2 h3=>(hK z h3).elim h2 fun h4=>by omega
theorem Nk.cell(h:Nk w K z ao n c x)(hc:Chg (· = g) w w')(hne:n=0\/z≠g):Nk w' K z ao n c x :=
 ⟨h.lt.imp_right fun h=>Nat.lt_of_lt_of_le h hc.size,h.out,fun w2 h2=>h.to w2 fun hn=>(h2 hn).trans (hc.same z (h.lt.resolve_left hn) (hne.resolve_left hn))⟩
theorem Nq.o(h:Nq w K z ao n c x):gb w ao n c x:=h.to w (fun _=>rfl)
theorem Nq.keep(h:Nq w K z ao n c x)(hb:Below w.heap.size w w'):Nq w' K z ao n c x :=
 ⟨h.lt.imp_right fun h=>Nat.lt_of_lt_of_le h hb.size,h.out,fun w2 h2=>h.to w2 fun hn=>(h2 hn).trans (hb.block z (h.lt.resolve_left hn))⟩
theorem Nq.drew(h:Nq w K z ao n c x):Nq w.drew K z ao n c x:=h.keep (Below.refl _ _).drew
theorem Nq.op(h:Nq w K z ao n c x)(hK:∀ b,K' b->K b\/w.heap.size<=b)(hc:Chg K w w'):Nq w' K' z ao n c x:=by
 refine⟨h.lt.imp_right fun h=>Nat.lt_of_lt_of_le h hc.size,?_,fun w2 h2=>h.to w2 fun hn=>(h2 hn).trans (hc.same z (h.lt.resolve_left hn) (h.out.resolve_left hn))⟩;rcases h.lt with h1 | h1
 ·exact .inl h1
 ·refine h.out.imp_right fun h2 h3=>(hK z h3).elim h2 fun h4=>by omega
theorem Nq.cell(h:Nq w K z ao n c x)(hc:Chg (· = g) w w')(hne:n=0\/z≠g):Nq w' K z ao n c x :=
 ⟨h.lt.imp_right fun h=>Nat.lt_of_lt_of_le h hc.size,h.out,fun w2 h2=>h.to w2 fun hn=>(h2 hn).trans (hc.same z (h.lt.resolve_left hn) (hne.resolve_left hn))⟩
theorem An{B:Nat}(h:Rc.dx w B ao n c x)(hK:∀ b,K b->b < B):∃ z,(n=0\/B<=z)/\Nq w K z ao n c x:=by
 obtain⟨b,o,l,h1,h2,h3,h4,h5⟩:=h.ex;refine⟨b,.inr h5,?_,.inr fun hk=>by have:=hK b hk; omega,fun w2 hw=>⟨b,o,l,h1,h2,h3,⟨h4.loc,fun i hi => ?_⟩⟩⟩
 ·rcases Nat.eq_zero_or_pos n with h | h
  ·exact .inl h
  ·exact .inr (aA (h4.cell 0 (by omega)))
 ·rw[World.cell?_of_block (w:=w) (hw (by omega))];exact h4.cell i hi
end
end
end Qu
end
end Go.Proofs.YtliajmpchofiiaaGreat
