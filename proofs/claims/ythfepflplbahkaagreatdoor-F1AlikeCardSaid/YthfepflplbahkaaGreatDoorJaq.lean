import Derived.Test.YthfepflplbahkaaGreatDoorJap
import Derived.Test.YthfepflplbahkaaGreatDoorJae
set_option maxRecDepth 100000
set_option maxHeartbeats 8000000
namespace Go.Proofs.YthfepflplbahkaaGreatDoor
section
namespace Fo
open Go.RowKit Go.Lib Pg Lim Gl Kv Bk Pw
attribute [local go_sem] Oper.semAt_some
set_option linter.unusedVariables false
set_option linter.unusedSimpArgs false
section
variable {w:World}{k m0 m1 x y a b:Int}{n:Nat}{ρ:Operand->Value}
theorem fo_f(hf:Ky.frm k=((n:Int),m0,m1)):Calls Tryz.prog 148 #[.int .i64 k] w fun e w'=>e=.returned (.agg #[.int .i64 (n:Int),.int .u8 m0,.int .u8 m1])/\Below w.heap.size w w':=by
 have u:=Ky.mJ (w:=w) (k:=k);rw[hf] at u;exact u
theorem Cx{n:Int}(h:8 < n):Calls Tryz.prog 134 #[.agg #[.int .i64 n,.int .u8 x,.int .u8 y]] w fun e w'=>e=.returned (.bool true)/\Below w.heap.size w w':=by
 have u:=Ky.fl (w:=w) (n:=n) (x:=x) (y:=y);rw[decide_eq_true h] at u;exact u
theorem pN{n:Int}(h:16 < n):Calls Tryz.prog 137 #[.agg #[.int .i64 n,.int .u8 x,.int .u8 y]] w fun e w'=>e=.returned (.bool true)/\Below w.heap.size w w':=by
 have u:=Ky.fT (w:=w) (n:=n) (x:=x) (y:=y);rw[decide_eq_true h] at u;exact u
theorem An(c:0<=a)(b:a < 18446744073709551616):Calls Tryz.prog 135 #[.int .i64 k,.int .u64 a] w fun e w'=>e=.returned (.int .u64 (Ky.tn k a))/\Below w.heap.size w w':=by
 refine(Ky.gI c b).mono ?_
 rintro e w' ⟨rfl,rfl⟩;exact⟨rfl,Below.refl _ _⟩
theorem CG{o:Oper}{n:Int}(hn:n≠0)(b:∃ u v,o.op=.binOp .eql 209 u v 209/\ρ u=.agg #[.int .i64 n,.int .u8 m0,.int .u8 m1]/\ρ v=.agg #[.int .i64 0,.int .u8 0,.int .u8 0]:=by exact⟨_,_,rfl,by kernel_rfl,by kernel_rfl⟩):(execOp ρ o).run Tryz.prog w=.ok (.value (.bool false)) w:=by
 obtain⟨u,v,h,e1,e2⟩:=b;simp only[execOp,h,e1,e2];go_simp
 try simp[hn]
theorem DH(hf:Ky.frm k=((n:Int),m0,m1))(hn:16 < n):Ky.mk k a b=Ky.mkb ((n:Int),m0,m1) (Ky.tn k a) ++ Ky.be 8 b:=by
 unfold Ky.mk;rw[hf,if_pos (by show (16:Int) < (n:Int);omega)]
theorem mk_n(hf:Ky.frm k=((n:Int),m0,m1))(hn:16 < n/\n<=1000)(N:0<=m0/\m0 < 256)(L:0<=m1/\m1 < 256)(y:0<=a/\a < 18446744073709551616):Calls Tryz.prog 98 #[.agg #[.int .i64 k,.int .u64 a,.int .u64 b]] w fun e w'=>∃ v,e=.returned (.tuple #[v,.int .i64 0])/\ByU w' v (Ky.mk k a b)/\Below w.heap.size w w':=by
 have f:=Below.refl w.heap.size w;refine aM (n:=46) Tryz.func98 rfl (by kernel_rfl) (by kernel_rfl) ?_
 refine aj (aA (ta 1 [.int .i64 k,.int .u64 a,.int .u64 b] 151 (pg) ?_));intro v1 g2 c o B;have G:=Nat.le_trans f.size o;skip;replace f:=ax f B;clear B;refine t 2 (.slice none 0 0) ?_
 refine t 3 (.int .i64 0) ?_
 refine ay (ah (aj (aA (t 6 (pg g2) ?_))));refine tl 7 (.int .i64 k) c 0 ?_
 refine tc 8 148 #[.int .i64 k] (fo_f hf) ?_
 rintro _ v3 ⟨rfl,B⟩;refine⟨_,rfl,?_⟩;replace f:=ax f B;replace c:=c.keep B;clear B;have s:=c.lt;refine ta 4 [.int .i64 0,.int .u8 0,.int .u8 0] 209 (pg) ?_
 intro v4 g5 d r B;have M:=Nat.le_trans f.size r;have l:=c.lt;replace f:=ax f B;replace c:=c.keep B;clear B;refine ts d 0 (.agg #[.int .i64 (n:Int),.int .u8 m0,.int .u8 m1]) [.int .i64 (n:Int),.int .u8 m0,.int .u8 m1] [.int .i64 (n:Int),.int .u8 m0,.int .u8 m1] ?_
 intro v6 Y C;replace f:=a7 f C (by omega);replace c:=c.chg C (show g2≠g5 by omega);clear C d;have d:=Y;clear Y;refine ay (ah ?_);refine jt (fun(_:Unit)=>[(1,pg g2),(4,pg g5),(31,.bool false)]) (fun _ w'=>Below w.heap.size w w'/\Blk w' g2 [.int .i64 k,.int .u64 a,.int .u64 b] 151/\Blk w' g5 [.int .i64 (n:Int),.int .u8 m0,.int .u8 m1] 209) ?_ ?_
 ·refine aj ?_
  refine aA (tlr 9 [.int .i64 (n:Int),.int .u8 m0,.int .u8 m1] d 0 ?_);refine t 10 (.agg #[.int .i64 0,.int .u8 0,.int .u8 0]) ?_
  refine tr 11 (.bool false) (CG (n:=(n:Int)) (m0:=m0) (m1:=m1) (by omega)) ?_
  refine t 12 (.bool false) ?_
  refine t 13 (pq g2 1) ?_
  refine tl 14 (.int .u64 a) c 1 ?_
  by_cases x:(a:Int)=0
  ·refine tq 15 (.bool ((a:Int) != 0)) (.bool false) (congrArg Value.bool (bne_eq_false_iff_eq.2 x)) ?_
   refine t 16 (.bool false) ?_
   refine tn 17 ?_
   refine tn 18 ?_
   refine tn 19 ?_
   refine t 20 (.bool false) ?_
   refine t 21 (.bool false) ?_
   refine t 22 (.bool false) ?_
   refine t 23 (pq g2 2) ?_
   refine tl 24 (.int .u64 b) c 2 ?_
   by_cases A:(b:Int)=0
   ·refine tq 25 (.bool ((b:Int) != 0)) (.bool false) (congrArg Value.bool (bne_eq_false_iff_eq.2 A)) ?_
    refine t 26 (.bool false) ?_
    refine tn 27 ?_
    refine tn 28 ?_
    refine tn 29 ?_
    refine t 30 (.bool false) ?_
    refine t 31 (.bool false) ?_
    refine ay (ah (aT [(1,pg g2),(2,.slice none 0 0),(3,.int .i64 0),(4,pg g5),(31,.bool false)] (by kernel_rfl) ?_));refine dA ?_
    refine bT ?_
    exact cM () ⟨f,c,d⟩ (by kernel_rfl)
   ·refine tq 25 (.bool ((b:Int) != 0)) (.bool true) (congrArg Value.bool (bne_iff_ne.2 A)) ?_
    refine t 26 (.bool true) ?_
    refine tlr 27 [.int .i64 (n:Int),.int .u8 m0,.int .u8 m1] d 0 ?_
    refine tc 28 137 #[.agg #[.int .i64 (n:Int),.int .u8 m0,.int .u8 m1]] (pN (by omega)) ?_
    rintro _ v9 ⟨rfl,B⟩;refine⟨_,rfl,?_⟩;replace f:=ax f B;replace c:=c.keep B;replace d:=d.keep B;clear B;refine t 29 (.bool false) ?_
    refine t 30 (.bool false) ?_
    refine t 31 (.bool false) ?_
    refine ay (ah (aT [(1,pg g2),(2,.slice none 0 0),(3,.int .i64 0),(4,pg g5),(31,.bool false)] (by kernel_rfl) ?_));refine dA ?_
    refine bT ?_
    exact cM () ⟨f,c,d⟩ (by kernel_rfl)
  ·refine tq 15 (.bool ((a:Int) != 0)) (.bool true) (congrArg Value.bool (bne_iff_ne.2 x)) ?_
   refine t 16 (.bool true) ?_
   refine tlr 17 [.int .i64 (n:Int),.int .u8 m0,.int .u8 m1] d 0 ?_
   refine tc 18 134 #[.agg #[.int .i64 (n:Int),.int .u8 m0,.int .u8 m1]] (Cx (by omega)) ?_
   rintro _ v10 ⟨rfl,B⟩;refine⟨_,rfl,?_⟩;replace f:=ax f B;replace c:=c.keep B;replace d:=d.keep B;clear B;refine t 19 (.bool false) ?_
   refine t 20 (.bool false) ?_
   refine t 21 (.bool false) ?_
   refine t 22 (.bool false) ?_
   refine t 23 (pq g2 2) ?_
   refine tl 24 (.int .u64 b) c 2 ?_
   by_cases j:(b:Int)=0
   ·refine tq 25 (.bool ((b:Int) != 0)) (.bool false) (congrArg Value.bool (bne_eq_false_iff_eq.2 j)) ?_
    refine t 26 (.bool false) ?_
    refine tn 27 ?_
    refine tn 28 ?_
    refine tn 29 ?_
    refine t 30 (.bool false) ?_
    refine t 31 (.bool false) ?_
    refine ay (ah (aT [(1,pg g2),(2,.slice none 0 0),(3,.int .i64 0),(4,pg g5),(31,.bool false)] (by kernel_rfl) ?_));refine dA ?_
    refine bT ?_
    exact cM () ⟨f,c,d⟩ (by kernel_rfl)
   ·refine tq 25 (.bool ((b:Int) != 0)) (.bool true) (congrArg Value.bool (bne_iff_ne.2 j)) ?_
    refine t 26 (.bool true) ?_
    refine tlr 27 [.int .i64 (n:Int),.int .u8 m0,.int .u8 m1] d 0 ?_
    refine tc 28 137 #[.agg #[.int .i64 (n:Int),.int .u8 m0,.int .u8 m1]] (pN (by omega)) ?_
    rintro _ v12 ⟨rfl,B⟩;refine⟨_,rfl,?_⟩;replace f:=ax f B;replace c:=c.keep B;replace d:=d.keep B;clear B;refine t 29 (.bool false) ?_
    refine t 30 (.bool false) ?_
    refine t 31 (.bool false) ?_
    refine ay (ah (aT [(1,pg g2),(2,.slice none 0 0),(3,.int .i64 0),(4,pg g5),(31,.bool false)] (by kernel_rfl) ?_));refine dA ?_
    refine bT ?_
    exact cM () ⟨f,c,d⟩ (by kernel_rfl)
 clear c d f;rintro _ D ⟨f,c,d⟩;refine aj ?_
 replace f:=f.drew;replace c:=c.drew;replace d:=d.drew;refine bX (fun w'=>Blk w' g5 [.int .i64 (n:Int),.int .u8 m0,.int .u8 m1] 209/\Blk w' g2 [.int .i64 k,.int .u64 a,.int .u64 b] 151) (fun _=>false) ⟨d,c⟩ ?_
 refine zlr 0 32 [.int .i64 (n:Int),.int .u8 m0,.int .u8 m1] (fun _ h=>h.1) 0 ?_
 refine z 1 33 (pg g2) ?_
 refine zl 2 34 (.int .i64 k) (fun _ h=>h.2) 0 ?_
 refine z 3 35 (pq g2 1) ?_
 refine zl 4 36 (.int .u64 a) (fun _ h=>h.2) 1 ?_
 refine zc 5 37 135 #[.int .i64 k,.int .u64 a] (An y.1 y.2) ?_
 rintro _ m ⟨rfl,B⟩;replace f:=ax f B;replace c:=c.keep B;replace d:=d.keep B;clear B;refine⟨_,rfl,⟨d,c⟩,?_⟩;obtain⟨T,p⟩:∃ T,T=(m).heap.size:=⟨_,rfl⟩
 have q:w.heap.size<=T:=by rw[p];exact f.size
 refine zc 6 38 149 #[.agg #[.int .i64 (n:Int),.int .u8 m0,.int .u8 m1],.int .u64 (Ky.tn k a)] (Ky.nY (n:=n) (a:=Ky.tn k a) hn.2 N L) ?_
 rintro _ K ⟨u,rfl,U,B⟩;rw[<- p] at U;have J:=B.size;replace f:=ax f B;replace c:=c.keep B;replace d:=d.keep B;clear B
 have g:T<=_:=Nat.le_trans (Nat.le_of_eq p) J;refine⟨_,rfl,⟨d,c⟩,?_⟩;refine z 7 5 (u) ?_
 refine bh (ah (aj (aj (aA (tlr 39 [.int .i64 (n:Int),.int .u8 m0,.int .u8 m1] d 0 ?_)))));refine tc 40 137 #[.agg #[.int .i64 (n:Int),.int .u8 m0,.int .u8 m1]] (pN (by omega)) ?_
 rintro _ H ⟨rfl,B⟩;refine⟨_,rfl,?_⟩;replace f:=ax f B;replace c:=c.keep B;replace d:=d.keep B;replace U:=U.keep B;replace g:=Nat.le_trans g B.size;clear B;refine ay (ah (et ?_));refine aA (t 41 (u) ?_);refine t 42 (pq g2 2) ?_
 refine tl 43 (.int .u64 b) c 2 ?_
 clear c;clear d;refine tc 44 150 #[u,.int .u64 b] (Ky.di U g (Nat.le_trans (Ky.lC _ _) (by decide))) ?_
 rintro _ I ⟨i,rfl,F,E⟩;refine⟨_,rfl,?_⟩;replace f:=f.trans (E.mono q);clear U;refine t 5 (i) ?_
 refine ay (ah (aT [(5,i)] (by kernel_rfl) ?_));refine aj (aA (t 45 (i) ?_));refine t 2 (i) ?_
 refine t 3 (.int .i64 0) ?_
 refine ay (ah (aO (aQ (.tuple #[i,.int .i64 0]) (rs2 2 3 (by kernel_rfl) (by kernel_rfl) (by kernel_rfl)) ?_)));refine⟨_,rfl,?_,f⟩;rw[DH hf hn.1];exact ByU.of F
theorem mk_f(g:0<=a/\a < 18446744073709551616)(f:16 < (Ky.frm k).1):Calls Tryz.prog 98 #[.agg #[.int .i64 k,.int .u64 a,.int .u64 b]] w fun e w'=>∃ v,e=.returned (.tuple #[v,.int .i64 0])/\ByU w' v (Ky.mk k a b)/\Below w.heap.size w w':=by
 obtain⟨n,m0,m1,hf,hn,d,c,h⟩:=Ky.oh k;rw[hf] at f;exact mk_n hf ⟨by have:(16:Int) < (n:Int):=f;omega,by omega⟩ d c g
end
end Fo
end
section
namespace Fo
open Go.RowKit Go.Lib Pg Lim Gl Kv Bk Pw
attribute [local go_sem] Oper.semAt_some
set_option linter.unusedVariables false
set_option linter.unusedSimpArgs false
structure Nk (w:World) (K:Nat->Prop) (z:Nat) (ao:Option Addr) (n c:Nat) (x:Int):Prop where
 lt:n=0\/z < w.heap.size
 out:n=0\/¬ K z
 to:∀ w':World,(n≠0->w'.heap[z]?=w.heap[z]?)->aU w' ao n c x
structure Nq (w:World) (K:Nat->Prop) (z:Nat) (ao:Option Addr) (n c:Nat) (x:Int):Prop where
 lt:n=0\/z < w.heap.size
 out:n=0\/¬ K z
 to:∀ w':World,(n≠0->w'.heap[z]?=w.heap[z]?)->dY w' ao n c x
section
variable {w w':World} {K K':Nat->Prop} {z n c:Nat} {ao:Option Addr} {x:Int}
section
variable {g:Nat}
theorem Nk.nat(h:Nk w K z ao n c x):aU w ao n c x:=h.to w (fun _=>rfl)
theorem Nk.keep(h:Nk w K z ao n c x)(hb:Below w.heap.size w w'):Nk w' K z ao n c x :=
 ⟨h.lt.imp_right fun h=>Nat.lt_of_lt_of_le h hb.size,h.out,fun b a=>h.to b fun hn=>(a hn).trans (hb.block z (h.lt.resolve_left hn))⟩
theorem Nk.drew(h:Nk w K z ao n c x):Nk w.drew K z ao n c x:=h.keep (Below.refl _ _).drew
theorem Nk.op(h:Nk w K z ao n c x)(e:∀ b,K' b->K b\/w.heap.size<=b)(hc:Chg K w w'):Nk w' K' z ao n c x:=by
 refine⟨h.lt.imp_right fun h=>Nat.lt_of_lt_of_le h hc.size,?_,fun f a=>h.to f fun hn=>(a hn).trans (hc.same z (h.lt.resolve_left hn) (h.out.resolve_left hn))⟩;rcases h.lt with d | d
 ·exact .inl d
 ·refine h.out.imp_right fun a g=>(e z g).elim a fun i=>by omega
theorem Nk.cell(h:Nk w K z ao n c x)(hc:Chg (·=g) w w')(a:n=0\/z≠g):Nk w' K z ao n c x :=
 ⟨h.lt.imp_right fun h=>Nat.lt_of_lt_of_le h hc.size,h.out,fun d b=>h.to d fun hn=>(b hn).trans (hc.same z (h.lt.resolve_left hn) (a.resolve_left hn))⟩
theorem Nq.o(h:Nq w K z ao n c x):dY w ao n c x:=h.to w (fun _=>rfl)
theorem Nq.keep(h:Nq w K z ao n c x)(hb:Below w.heap.size w w'):Nq w' K z ao n c x :=
 ⟨h.lt.imp_right fun h=>Nat.lt_of_lt_of_le h hb.size,h.out,fun b a=>h.to b fun hn=>(a hn).trans (hb.block z (h.lt.resolve_left hn))⟩
theorem Nq.drew(h:Nq w K z ao n c x):Nq w.drew K z ao n c x:=h.keep (Below.refl _ _).drew
theorem Nq.op(h:Nq w K z ao n c x)(e:∀ b,K' b->K b\/w.heap.size<=b)(hc:Chg K w w'):Nq w' K' z ao n c x:=by
 refine⟨h.lt.imp_right fun h=>Nat.lt_of_lt_of_le h hc.size,?_,fun f a=>h.to f fun hn=>(a hn).trans (hc.same z (h.lt.resolve_left hn) (h.out.resolve_left hn))⟩;rcases h.lt with d | d
 ·exact .inl d
 ·refine h.out.imp_right fun a g=>(e z g).elim a fun i=>by omega
theorem Nq.cell(h:Nq w K z ao n c x)(hc:Chg (·=g) w w')(a:n=0\/z≠g):Nq w' K z ao n c x :=
 ⟨h.lt.imp_right fun h=>Nat.lt_of_lt_of_le h hc.size,h.out,fun d b=>h.to d fun hn=>(b hn).trans (hc.same z (h.lt.resolve_left hn) (a.resolve_left hn))⟩
theorem Nq.nat(h:Nq w K z ao n c x):aU w ao n c x:=h.o.a
theorem vE{B:Nat}(h:Rc.fI w B ao n c x)(g:∀ b,K b->b < B):∃ z,(n=0\/B<=z)/\Nq w K z ao n c x:=by
 obtain⟨b,o,l,d,f,j,a,k⟩:=h.ex;refine⟨b,.inr k,?_,.inr fun e=>by have:=g b e;omega,fun m hw=>⟨b,o,l,d,f,j,⟨a.loc,fun i hi=>?_⟩⟩⟩
 ·rcases Nat.eq_zero_or_pos n with h | h
  ·exact .inl h
  ·exact .inr (aI (a.cell 0 (by omega)))
 ·rw[World.cell?_of_block (w:=w) (hw (by omega))];exact a.cell i hi
end
end
section
variable {w w':World} {K:Nat->Prop} {z k d g B n N:Nat} {a:Option Addr} {x:Int} {E:aD} {W:List aD}
theorem ey (A:Sx B w K g E W n N) (M:Nf w' z a k d x) (hz:k=0\/w.heap.size<=z):Nq w' K z a k d x :=
 ⟨M.lt,hz.imp_right fun h1 h2=>by have:=A.sa.lt h2;omega,M.to⟩
theorem Nq.nk (h:Nq w K z a k d x):Nk w K z a k d x:=⟨h.lt,h.out,fun w2 h2=>(h.to w2 h2).a⟩
end
section
variable {n z s g B N:Nat}{k b x y id p:Int}{a aH:Option Addr}{v l:List Int}{w:World}{K:Nat->Prop}{E:aD}{W:List aD}
theorem ne1(h:n=0\/z < s)(hg:s<=g):n=0\/z≠g:=h.imp_right fun h=>by omega
theorem ne2(h:n=0\/s<=z)(hg:g < s):n=0\/z≠g:=h.imp_right fun h=>by omega
theorem ne3{t:Nat}(h:n=0\/s<=z)(hs:t<=s):n=0\/t<=z:=h.imp_right fun h=>by omega
def got(E:aD)(k:List Int):List Int:=(Kv.look E k).getD []
theorem Bo{a:Int}(hE:Ky.mkE k a b=false)(hv:v.length<=4096):iU (Ky.mk k a b) v=0:=by
 have h1:=mk_pos hE;have h2:=Ky.jX k a b;unfold iU;rw[if_neg (by omega),if_neg (by omega)]
theorem qset{kv vv:Value}{a:Int}(h:Sx B w K g E W n N)(c:ByU w kv (Ky.mk k a b))(f:Ky.mkE k a b=false)(hv:ByU w vv v)(d:v.length<=4096)(hn:n<=4000000000000000000)(e:N+2<=100000000) :
  Calls Tryz.prog 64 #[pg g,kv,vv] w (SxE B w K g (put E (Ky.mk k a b) v) W (n+1) (N+2) (.int .i64 0)):=by
 have u:=xset h c hv hn e;rw[Bo f d,if_pos rfl] at u;exact u
theorem yH(h:Sx B w K g E W n N)(k:List Int):(got E k).length<=1000000000:=by
 unfold got
 cases e:Kv.look E k with
 | none=>simp
 | some v=>exact(h.sa.small _ (Kv.jG e)).2
theorem Ad(a b:Int):Ky.mkE 7 a b=false:=by
 unfold Ky.mkE;rw[show (Ky.frm 7).1=18 from rfl];simp
theorem mm(a b:Int):Ky.mkE 8 a b=false:=by
 unfold Ky.mkE;rw[show (Ky.frm 8).1=18 from rfl];simp
def hv(x y:Int):List Int:=Rc.thr (Rc.pnx (fun o=>([x,y]:List Int).getD o 0)) [(2,0),(0,1)] []
def hX(l:List Int)(i:Nat):Int:=Rc.gj (Rc.cU l) i
theorem yZ(x y:Int):(hv x y).length<=600:=by have:=Rc.lE (fun o=>([x,y]:List Int).getD o 0) [(2,0),(0,1)] [];simpa[hv] using this
theorem hv_oct(x y:Int):Oct (hv x y):=Rc.uJ _ _ _ (fun _ h=>by simp at h)
theorem yO{c:Nat}(h:aU w a n c x)(m:n<=1000000):Calls Tryz.prog 88 #[.agg #[.slice a n c,.int .u64 y]] w fun e w'=>∃ v,e=.returned v/\ByU w' v (hv x y)/\Below w.heap.size w w':=by
 refine(Rc.mP h m).mono ?_
 rintro e w' ⟨b,n,rfl,hn,X,hb,B⟩;exact⟨_,rfl,uR X (hv_oct x y) hn (Nat.le_trans (yZ x y) (by decide)),B⟩
theorem vD{v:Value}(h:ByU w v l)(a:l.length<=1000000000):Calls Tryz.prog 128 #[v] w fun e w'=>∃ a0 n0 c0,e=.returned (.tuple #[.agg #[.slice a0 n0 c0,.int .u64 (hX l 1)],.int .i64 (Rc.iJ (Rc.cU l))])/\(Rc.fI w' w.heap.size a0 n0 c0 (hX l 0)/\n0<=510)/\Below w.heap.size w w':=by
 obtain⟨b,f,c,rfl,d⟩:=bya h.byt;exact Rc.xG d a
def cv(x y:Int):List Int:=Rc.thr (Rc.pnx (fun o=>([x,y]:List Int).getD o 0)) [(0,0),(0,1)] []
def cX(l:List Int)(i:Nat):Int:=Rc.gj (Rc.kO l) i
theorem yI(x y:Int):(cv x y).length<=600:=by have:=Rc.lE (fun o=>([x,y]:List Int).getD o 0) [(0,0),(0,1)] [];simpa[cv] using this
theorem cv_oct(x y:Int):Oct (cv x y):=Rc.uJ _ _ _ (fun _ h=>by simp at h)
theorem DN:Calls Tryz.prog 66 #[.agg #[.int .u64 x,.int .u64 y]] w fun e w'=>∃ v,e=.returned v/\ByU w' v (cv x y)/\Below w.heap.size w w':=by
 refine Rc.se.mono ?_
 rintro e w' ⟨b,n,rfl,hn,X,hb,B⟩;exact⟨_,rfl,uR X (cv_oct x y) hn (Nat.le_trans (yI x y) (by decide)),B⟩
theorem cut_rd{v:Value}(h:ByU w v l)(a:l.length<=1000000000):Calls Tryz.prog 85 #[v] w fun e w'=>e=.returned (.tuple #[.agg #[.int .u64 (cX l 0),.int .u64 (cX l 1)],.int .i64 (Rc.iJ (Rc.kO l))])/\Below w.heap.size w w':=by
 obtain⟨b,f,c,rfl,d⟩:=bya h.byt;exact Rc.oCut d a
theorem xa{a:Int}(f:0<=a/\a < 18446744073709551616)(g:16 < (Ky.frm k).1):Calls Tryz.prog 65 #[.int .i64 k,.int .u64 a,.int .u64 b] w fun e w'=>∃ v,e=.returned v/\ByU w' v (Ky.mk k a b)/\Below w.heap.size w w':=by
 have c:=Below.refl w.heap.size w;refine aM (n:=18) Tryz.func65 rfl (by kernel_rfl) (by kernel_rfl) ?_
 refine aj (aA (t 6 (.slice none 0 0) ?_));refine ay (ah (aj (aA (t 10 (.int .i64 k) ?_))));refine t 11 (.int .u64 a) ?_
 refine t 12 (.int .u64 b) ?_
 refine t 13 (.agg #[.int .i64 k,.int .u64 a,.int .u64 b]) ?_
 refine tc 14 98 #[.agg #[.int .i64 k,.int .u64 a,.int .u64 b]] (mk_f f g) ?_
 rintro _ v1 ⟨v,rfl,d,B⟩;refine⟨_,rfl,?_⟩;replace c:=ax c B;clear B;refine t 9 (.tuple #[v,.int .i64 0]) ?_
 refine t 15 (v) ?_
 refine t 16 (.int .i64 0) ?_
 refine t 7 (v) ?_
 refine t 8 (.int .i64 0) ?_
 refine ay (ah (aT [(6,.slice none 0 0),(7,v)] (by kernel_rfl) ?_));refine aj (aA (t 17 (v) ?_));refine t 6 (v) ?_
 refine ay (ah (aO (aQ (v) (rs1 6 (by kernel_rfl) (by kernel_rfl)) ?_)));exact⟨_,rfl,d,c⟩
structure FndH(B:Nat)(w:World)(K:Nat->Prop)(g:Nat)(E:aD)(W:List aD)(n N:Nat)(V:Int)(mk:Value->Value)(e:Ending)(w':World):Prop where
 ex:∃ a0 n0 c0,e=.returned (mk (.slice a0 n0 c0))/\∃ z0 K',Sx B w' K' g E W n N/\(∀ b,K' b->K b\/w.heap.size<=b)/\Chg K w w'/\Nq w' K' z0 a0 n0 c0 V/\n0<=510/\(n0=0\/w.heap.size<=z0)
abbrev hmk(r:Int)(b:Bool)(v:Value):Value:=.tuple #[.agg #[v,.int .u64 r],.bool b]
abbrev rmk(v:Value):Value:=.agg #[v]
theorem mW(h:Sx B w K g E W n N)(hid:0<=id/\id < 18446744073709551616)(hn:n+10<=4000000000000000000)(O:N+10<=100000000):Calls Tryz.prog 79 #[pg g,.int .u64 id,.int .u64 p] w (FndH B w K g E W (n+1) N (hX (got E (Ky.mk 7 id p)) 0) (hmk (hX (got E (Ky.mk 7 id p)) 1) (Kv.look E (Ky.mk 7 id p)).isSome)):=by
 have A:=h.at
 refine aM (n:=27) Tryz.func79 rfl (by kernel_rfl) (by kernel_rfl) ?_
 refine aj (aA (ta 6 [.slice none 0 0,.int .u64 0] 116 (pg) ?_));intro v1 g2 a v B;have D:=Nat.le_trans A.size v;have i:=A.new v;replace A:=A.keep B;clear B;refine t 7 (.bool false) ?_
 refine ay (ah (aj (aA (t 13 (pg g) ?_))));refine t 14 (.int .u64 id) ?_
 refine t 15 (.int .u64 p) ?_
 refine tc 16 65 #[.int .i64 7,.int .u64 id,.int .u64 p] (xa hid (by decide)) ?_
 rintro _ v5 ⟨z,rfl,l,B⟩;refine⟨_,rfl,?_⟩;replace A:=A.keep B;replace a:=a.keep B;clear B;refine tc 17 127 #[pg g,z] (xget A.sx l (by omega) (by omega)) ?_
 rintro _ M ⟨k,rfl,y,S,hC⟩;refine⟨_,rfl,?_⟩;replace i:=opX a i (fun _ h=>.inl h) hC;replace a:=i.1;replace i:=i.2;replace l:=A.byu l hC;replace A:=A.op S (fun _ h=>.inl h) hC;clear S hC;refine t 12 (.tuple #[k,.bool (Kv.look E (Ky.mk 7 id p)).isSome]) ?_
 refine t 18 (k) ?_
 refine t 19 (.bool (Kv.look E (Ky.mk 7 id p)).isSome) ?_
 refine t 8 (k) ?_
 refine t 9 (.bool (Kv.look E (Ky.mk 7 id p)).isSome) ?_
 refine ay (ah (aT [(6,pg g2),(7,.bool false),(8,k),(9,.bool (Kv.look E (Ky.mk 7 id p)).isSome)] (by kernel_rfl) ?_));refine aj (aA (t 21 (k) ?_));refine tc 22 128 #[k] (vD y (yH A.sx _)) ?_
 rintro _ v10 ⟨f,e,d,rfl,⟨H,F⟩,B⟩;refine⟨_,rfl,?_⟩;obtain⟨L,s,j⟩:=vE H (fun b hb=>A.lt hb);clear H;have q:=ne2 s a.lt;have u:=ne3 s A.size;clear s;replace A:=A.keep B;replace a:=a.keep B;replace l:=eQ l B;replace y:=eQ y B;clear B;clear y;refine t 20 (.tuple #[.agg #[.slice f e d,.int .u64 (hX (got E (Ky.mk 7 id p)) 1)],.int .i64 (Rc.iJ (Rc.cU (got E (Ky.mk 7 id p))))]) ?_
 refine t 23 (.agg #[.slice f e d,.int .u64 (hX (got E (Ky.mk 7 id p)) 1)]) ?_
 refine t 24 (.int .i64 (Rc.iJ (Rc.cU (got E (Ky.mk 7 id p))))) ?_
 have G:=a.lt;refine ta 10 [.slice none 0 0,.int .u64 0] 116 (pg) ?_
 intro v11 g12 c o B;have x:=Nat.le_trans A.size o;have r:=A.new o;have m:=ne1 j.lt o;replace A:=A.keep B;replace a:=a.keep B;replace l:=eQ l B;replace j:=j.keep B;clear B;refine ts c 0 (.agg #[.slice f e d,.int .u64 (hX (got E (Ky.mk 7 id p)) 1)]) [.slice f e d,.int .u64 (hX (got E (Ky.mk 7 id p)) 1)] [.slice f e d,.int .u64 (hX (got E (Ky.mk 7 id p)) 1)] ?_
 intro I Y C;replace A:=Bk.At.cell A c C x r (by decide);replace a:=a.chg C (show g2≠g12 by omega);replace l:=jP l c C (by decide);replace j:=j.cell C m;clear C c;have c:=Y;clear Y;refine t 11 (.int .i64 (Rc.iJ (Rc.cU (got E (Ky.mk 7 id p))))) ?_
 refine ay (ah (aj (aA (tlr 25 [.slice f e d,.int .u64 (hX (got E (Ky.mk 7 id p)) 1)] c 0 ?_))));refine t 26 (.bool (Kv.look E (Ky.mk 7 id p)).isSome) ?_
 refine ts a 0 (.agg #[.slice f e d,.int .u64 (hX (got E (Ky.mk 7 id p)) 1)]) [.slice f e d,.int .u64 (hX (got E (Ky.mk 7 id p)) 1)] [.slice f e d,.int .u64 (hX (got E (Ky.mk 7 id p)) 1)] ?_
 intro J Y C;replace A:=Bk.At.cell A a C D i (by decide);replace l:=jP l a C (by decide);replace j:=j.cell C q;replace c:=c.chg C (show g12≠g2 by omega);clear C a;have a:=Y;clear Y;refine t 7 (.bool (Kv.look E (Ky.mk 7 id p)).isSome) ?_
 refine ay (ah (aO (aQ (.tuple #[.agg #[.slice f e d,.int .u64 (hX (got E (Ky.mk 7 id p)) 1)],.bool (Kv.look E (Ky.mk 7 id p)).isSome]) (qD 6 7 (T:=116) (by kernel_rfl) (by kernel_rfl) (by kernel_rfl) (lr a 0)) ?_)));exact⟨_,_,_,rfl,_,_,A.sx,A.km,A.cc,j,F,u⟩
theorem wX(h:Sx B w K g E W n N)(hid:0<=id/\id < 18446744073709551616)(hn:n+10<=4000000000000000000)(G:N+10<=100000000):Calls Tryz.prog 49 #[pg g,.int .u64 id,.int .u64 p] w (FndH B w K g E W (n+1) N (hX (got E (Ky.mk 7 id p)) 0) rmk):=by
 have A:=h.at
 refine aM (n:=18) Tryz.func49 rfl (by kernel_rfl) (by kernel_rfl) ?_
 refine aj (aA (ta 6 [.slice none 0 0] 32 (pg) ?_));intro v1 g2 a q B;have v:=Nat.le_trans A.size q;have e:=A.new q;replace A:=A.keep B;clear B;refine ay (ah (aj (aA (t 10 (pg g) ?_))));refine t 11 (.int .u64 id) ?_
 refine t 12 (.int .u64 p) ?_
 refine tc 13 79 #[pg g,.int .u64 id,.int .u64 p] (mW A.sx hid (by omega) (by omega)) ?_
 rintro _ v5 ⟨b,d,c,rfl,z,D,S,s,hC,f,u,m⟩;refine⟨_,rfl,?_⟩;have k:=ne2 m a.lt;have r:=ne3 m A.size;clear m;replace e:=opX a e s hC;replace a:=e.1;replace e:=e.2;replace A:=A.op S s hC;clear S s hC;refine t 9 (.tuple #[.agg #[.slice b d c,.int .u64 (hX (got E (Ky.mk 7 id p)) 1)],.bool (Kv.look E (Ky.mk 7 id p)).isSome]) ?_
 refine t 14 (.agg #[.slice b d c,.int .u64 (hX (got E (Ky.mk 7 id p)) 1)]) ?_
 refine t 15 (.bool (Kv.look E (Ky.mk 7 id p)).isSome) ?_
 have y:=a.lt;refine ta 7 [.slice none 0 0,.int .u64 0] 116 (pg) ?_
 intro v6 g7 i l B;have x:=Nat.le_trans A.size l;have o:=A.new l;have j:=ne1 f.lt l;replace A:=A.keep B;replace a:=a.keep B;replace f:=f.keep B;clear B;refine ts i 0 (.agg #[.slice b d c,.int .u64 (hX (got E (Ky.mk 7 id p)) 1)]) [.slice b d c,.int .u64 (hX (got E (Ky.mk 7 id p)) 1)] [.slice b d c,.int .u64 (hX (got E (Ky.mk 7 id p)) 1)] ?_
 intro F Y C;replace A:=Bk.At.cell A i C x o (by decide);replace a:=a.chg C (show g2≠g7 by omega);replace f:=f.cell C j;clear C i;have i:=Y;clear Y;refine t 8 (.bool (Kv.look E (Ky.mk 7 id p)).isSome) ?_
 refine ay (ah (aT [(6,pg g2),(7,pg g7)] (by kernel_rfl) ?_));refine aj (aA (t 16 (pg g7) ?_));refine tlr 17 [.slice b d c] i 0 ?_
 refine ts a 0 (.agg #[.slice b d c]) [.slice b d c] [.slice b d c] ?_
 intro v9 Y C;replace A:=Bk.At.cell A a C v e (by decide);replace f:=f.cell C k;replace i:=i.chg C (show g7≠g2 by omega);clear C a;have a:=Y;clear Y;refine ay (ah (aO (aQ (.agg #[.slice b d c]) (rsc 6 (T:=32) (by kernel_rfl) (by kernel_rfl) (lr a 0)) ?_)));exact⟨_,_,_,rfl,_,_,A.sx,A.km,A.cc,f,u,r⟩
def ll(E:aD)(id p x r:Int):aD:=if r=0 then rem E (Ky.mk 7 id p) else put E (Ky.mk 7 id p) (hv x r)
theorem oQ{r:Int}{j k y:Nat}{q:Int}(h:Sx B w K g E W n N)(hid:0<=id/\id < 18446744073709551616)(d:Nk w K y aH j k q)(x:j<=1000000)(hn:n+10<=4000000000000000000)(D:N+10<=100000000):Calls Tryz.prog 56 #[pg g,.int .u64 id,.int .u64 p,.agg #[.slice aH j k,.int .u64 r]] w (SxE B w K g (ll E id p q r) W (n+1) (N+2) (.tuple #[])):=by
 have A:=h.at
 refine aM (n:=23) Tryz.func56 rfl (by kernel_rfl) (by kernel_rfl) ?_
 refine aj (aA (ta 7 [.slice aH j k,.int .u64 r] 116 (pg) ?_));intro v1 g2 b i B;have z:=Nat.le_trans A.size i;have a:=A.new i;have s:=ne1 d.lt i;replace A:=A.keep B;replace d:=d.keep B;clear B;refine ay (ah (aj (aA (t 9 (.int .u64 id) ?_))));refine t 10 (.int .u64 p) ?_
 refine tc 11 65 #[.int .i64 7,.int .u64 id,.int .u64 p] (xa hid (by decide)) ?_
 rintro _ v5 ⟨c,rfl,e,B⟩;refine⟨_,rfl,?_⟩;replace A:=A.keep B;replace d:=d.keep B;replace b:=b.keep B;clear B;refine t 8 (c) ?_
 refine ay (ah (aj (aj (aA (t 12 (pq g2 1) ?_)))));refine tl 13 (.int .u64 r) b 1 ?_
 by_cases m:(r:Int)=0
 ·refine tq 14 (.bool ((r:Int) == 0)) (.bool true) (congrArg Value.bool (beq_iff_eq.2 m)) ?_
  refine ay (ah (aT [(0,pg g),(7,pg g2),(8,c),(14,.bool true)] (by kernel_rfl) ?_));refine et ?_
  refine aj (aA (t 15 (pg g) ?_));refine t 16 (c) ?_
  refine tc 17 75 #[pg g,c] (xdel A.sx e (Nat.le_trans (Ky.jX _ _ _) (by decide)) (by omega) (by omega)) ?_
  rintro _ C ⟨rfl,F,S,f,hC⟩;refine⟨_,rfl,?_⟩;replace d:=d.op f hC;replace a:=opX b a f hC;replace b:=a.1;replace a:=a.2;replace e:=A.byu e hC;replace A:=A.op S f hC;clear S f hC;clear e;refine ay (ah (aO (jJ (aQ (.tuple #[]) (rs0 (by kernel_rfl)) ?_))));rw[show ll E id p q r=_ from if_pos m];exact⟨rfl,_,A.sx,A.km,A.cc⟩
 ·refine tq 14 (.bool ((r:Int) == 0)) (.bool false) (congrArg Value.bool (beq_eq_false_iff_ne.2 m)) ?_
  refine ay (ah (aT [(0,pg g),(7,pg g2),(8,c),(14,.bool false)] (by kernel_rfl) ?_));refine dA ?_
  refine bT (ah (aA (t 18 (pg g) ?_)));refine t 19 (c) ?_
  refine tlr 20 [.slice aH j k,.int .u64 r] b 0 ?_
  refine tc 21 88 #[.agg #[.slice aH j k,.int .u64 r]] (yO d.nat x) ?_
  rintro _ v11 ⟨l,rfl,o,B⟩;refine⟨_,rfl,?_⟩;replace A:=A.keep B;replace d:=d.keep B;replace b:=b.keep B;replace e:=eQ e B;clear B;refine tc 22 64 #[pg g,c,l] (qset A.sx e (Ad id p) o (Nat.le_trans (yZ _ _) (by decide)) (by omega) (by omega)) ?_
  rintro _ u ⟨rfl,v,S,f,hC⟩;refine⟨_,rfl,?_⟩;replace d:=d.op f hC;replace a:=opX b a f hC;replace b:=a.1;replace a:=a.2;replace e:=A.byu e hC;replace o:=A.byu o hC;replace A:=A.op S f hC;clear S f hC;clear e;clear o;refine ay (iT (.tuple #[]) (rs0 (by kernel_rfl)) ?_);rw[show ll E id p q r=_ from if_neg m];exact⟨rfl,_,A.sx,A.km,A.cc⟩
def aZ(E:aD)(id p:Int):aD:=ll E id p (hX (got E (Ky.mk 7 id p)) 0) ((hX (got E (Ky.mk 7 id p)) 1+1) % 18446744073709551616)
def letE(E:aD)(id p:Int):aD:=if (Kv.look E (Ky.mk 7 id p)).isSome=true then ll E id p (hX (got E (Ky.mk 7 id p)) 0) ((hX (got E (Ky.mk 7 id p)) 1 - 1) % 18446744073709551616) else E
theorem kD(h:Sx B w K g E W n N)(hid:0<=id/\id < 18446744073709551616)(hn:n+20<=4000000000000000000)(v:N+20<=100000000):Calls Tryz.prog 45 #[pg g,.int .u64 id,.int .u64 p] w (SxE B w K g (aZ E id p) W (n+2) (N+2) (.tuple #[])):=by
 have A:=h.at
 refine aM (n:=24) Tryz.func45 rfl (by kernel_rfl) (by kernel_rfl) ?_
 refine aj (aA (t 9 (pg g) ?_));refine t 10 (.int .u64 id) ?_
 refine t 11 (.int .u64 p) ?_
 refine tc 12 79 #[pg g,.int .u64 id,.int .u64 p] (mW A.sx hid (by omega) (by omega)) ?_
 rintro _ v3 ⟨f,d,e,rfl,q,u,S,j,hC,c,r,m⟩;refine⟨_,rfl,?_⟩;have o:=ne3 m A.size;clear m;replace A:=A.op S j hC;clear S j hC;refine t 8 (.tuple #[.agg #[.slice f d e,.int .u64 (hX (got E (Ky.mk 7 id p)) 1)],.bool (Kv.look E (Ky.mk 7 id p)).isSome]) ?_
 refine t 13 (.agg #[.slice f d e,.int .u64 (hX (got E (Ky.mk 7 id p)) 1)]) ?_
 refine t 14 (.bool (Kv.look E (Ky.mk 7 id p)).isSome) ?_
 refine ta 6 [.slice none 0 0,.int .u64 0] 116 (pg) ?_
 intro v4 g5 a k B;have l:=Nat.le_trans A.size k;have b:=A.new k;have i:=ne1 c.lt k;replace A:=A.keep B;replace c:=c.keep B;clear B;refine ts a 0 (.agg #[.slice f d e,.int .u64 (hX (got E (Ky.mk 7 id p)) 1)]) [.slice f d e,.int .u64 (hX (got E (Ky.mk 7 id p)) 1)] [.slice f d e,.int .u64 (hX (got E (Ky.mk 7 id p)) 1)] ?_
 intro v6 Y C;replace A:=Bk.At.cell A a C l b (by decide);replace c:=c.cell C i;clear C a;have a:=Y;clear Y;refine t 7 (.bool (Kv.look E (Ky.mk 7 id p)).isSome) ?_
 refine ay (ah (aT [(0,pg g),(1,.int .u64 id),(2,.int .u64 p),(6,pg g5)] (by kernel_rfl) ?_));refine aj (aA (t 15 (pq g5 1) ?_));refine tl 16 (.int .u64 (hX (got E (Ky.mk 7 id p)) 1)) a 1 ?_
 refine tq 17 (.int .u64 (IntKind.u64.wrap ((hX (got E (Ky.mk 7 id p)) 1)+1))) (.int .u64 (((hX (got E (Ky.mk 7 id p)) 1)+1) % 18446744073709551616)) (congrArg (Value.int .u64) (IntKind.wrap_u64 _)) ?_
 refine t 18 (pq g5 1) ?_
 refine ts a 1 (.int .u64 (((hX (got E (Ky.mk 7 id p)) 1)+1) % 18446744073709551616)) [.int .u64 (((hX (got E (Ky.mk 7 id p)) 1)+1) % 18446744073709551616)] [.slice f d e,.int .u64 (((hX (got E (Ky.mk 7 id p)) 1)+1) % 18446744073709551616)] ?_
 intro s Y C;replace A:=Bk.At.cell A a C l b (by decide);replace c:=c.cell C i;clear C a;have a:=Y;clear Y;refine ay (ah (aA (t 19 (pg g) ?_)));refine t 20 (.int .u64 id) ?_
 refine t 21 (.int .u64 p) ?_
 refine tlr 22 [.slice f d e,.int .u64 (((hX (got E (Ky.mk 7 id p)) 1)+1) % 18446744073709551616)] a 0 ?_
 refine tc 23 56 #[pg g,.int .u64 id,.int .u64 p,.agg #[.slice f d e,.int .u64 (((hX (got E (Ky.mk 7 id p)) 1)+1) % 18446744073709551616)]] (oQ A.sx hid c.nk (by omega) (by omega) (by omega)) ?_
 rintro _ v9 ⟨rfl,x,S,j,hC⟩;refine⟨_,rfl,?_⟩;replace c:=c.op j hC;replace b:=opX a b j hC;replace a:=b.1;replace b:=b.2;replace A:=A.op S j hC;clear S j hC;refine ay (iT (.tuple #[]) (rs0 (by kernel_rfl)) ?_);exact⟨rfl,_,A.sx,A.km,A.cc⟩
theorem vH(h:Sx B w K g E W n N)(hid:0<=id/\id < 18446744073709551616)(hn:n+20<=4000000000000000000)(x:N+20<=100000000):Calls Tryz.prog 57 #[pg g,.int .u64 id,.int .u64 p] w (SxF B w K g (letE E id p) W n N (.tuple #[])):=by
 have A:=h.at
 refine aM (n:=25) Tryz.func57 rfl (by kernel_rfl) (by kernel_rfl) ?_
 refine aj (aA (t 9 (pg g) ?_));refine t 10 (.int .u64 id) ?_
 refine t 11 (.int .u64 p) ?_
 refine tc 12 79 #[pg g,.int .u64 id,.int .u64 p] (mW A.sx hid (by omega) (by omega)) ?_
 rintro _ v3 ⟨f,d,e,rfl,r,v,S,j,hC,c,s,m⟩;refine⟨_,rfl,?_⟩;have q:=ne3 m A.size;clear m;replace A:=A.op S j hC;clear S j hC;refine t 8 (.tuple #[.agg #[.slice f d e,.int .u64 (hX (got E (Ky.mk 7 id p)) 1)],.bool (Kv.look E (Ky.mk 7 id p)).isSome]) ?_
 refine t 13 (.agg #[.slice f d e,.int .u64 (hX (got E (Ky.mk 7 id p)) 1)]) ?_
 refine t 14 (.bool (Kv.look E (Ky.mk 7 id p)).isSome) ?_
 refine ta 6 [.slice none 0 0,.int .u64 0] 116 (pg) ?_
 intro v4 g5 a k B;have l:=Nat.le_trans A.size k;have b:=A.new k;have i:=ne1 c.lt k;replace A:=A.keep B;replace c:=c.keep B;clear B;refine ts a 0 (.agg #[.slice f d e,.int .u64 (hX (got E (Ky.mk 7 id p)) 1)]) [.slice f d e,.int .u64 (hX (got E (Ky.mk 7 id p)) 1)] [.slice f d e,.int .u64 (hX (got E (Ky.mk 7 id p)) 1)] ?_
 intro v6 Y C;replace A:=Bk.At.cell A a C l b (by decide);replace c:=c.cell C i;clear C a;have a:=Y;clear Y;refine t 7 (.bool (Kv.look E (Ky.mk 7 id p)).isSome) ?_
 refine ay (ah (aT [(0,pg g),(1,.int .u64 id),(2,.int .u64 p),(6,pg g5),(7,.bool (Kv.look E (Ky.mk 7 id p)).isSome)] (by kernel_rfl) ?_));refine aj (aA (t 15 (.bool (Kv.look E (Ky.mk 7 id p)).isSome) ?_));refine ay (ah ?_);rcases Bool.eq_false_or_eq_true ((Kv.look E (Ky.mk 7 id p)).isSome) with o | o
 ·refine et (hc:=congrArg Value.bool o) ?_
  refine aj (aA (t 16 (pq g5 1) ?_));refine tl 17 (.int .u64 (hX (got E (Ky.mk 7 id p)) 1)) a 1 ?_
  refine tq 18 (.int .u64 (IntKind.u64.wrap ((hX (got E (Ky.mk 7 id p)) 1) - 1))) (.int .u64 (((hX (got E (Ky.mk 7 id p)) 1) - 1) % 18446744073709551616)) (congrArg (Value.int .u64) (IntKind.wrap_u64 _)) ?_
  refine t 19 (pq g5 1) ?_
  refine ts a 1 (.int .u64 (((hX (got E (Ky.mk 7 id p)) 1) - 1) % 18446744073709551616)) [.int .u64 (((hX (got E (Ky.mk 7 id p)) 1) - 1) % 18446744073709551616)] [.slice f d e,.int .u64 (((hX (got E (Ky.mk 7 id p)) 1) - 1) % 18446744073709551616)] ?_
  intro u Y C;replace A:=Bk.At.cell A a C l b (by decide);replace c:=c.cell C i;clear C a;have a:=Y;clear Y;refine ay (ah (aA (t 20 (pg g) ?_)));refine t 21 (.int .u64 id) ?_
  refine t 22 (.int .u64 p) ?_
  refine tlr 23 [.slice f d e,.int .u64 (((hX (got E (Ky.mk 7 id p)) 1) - 1) % 18446744073709551616)] a 0 ?_
  refine tc 24 56 #[pg g,.int .u64 id,.int .u64 p,.agg #[.slice f d e,.int .u64 (((hX (got E (Ky.mk 7 id p)) 1) - 1) % 18446744073709551616)]] (oQ A.sx hid c.nk (by omega) (by omega) (by omega)) ?_
  rintro _ v10 ⟨rfl,y,S,j,hC⟩;refine⟨_,rfl,?_⟩;replace c:=c.op j hC;replace b:=opX a b j hC;replace a:=b.1;replace b:=b.2;replace A:=A.op S j hC;clear S j hC;refine ay (iT (.tuple #[]) (rs0 (by kernel_rfl)) ?_);rw[show letE E id p=_ from if_pos o];exact⟨rfl,_,_,_,A.sx,by omega,by omega,A.km,A.cc⟩
 ·refine dA (hc:=congrArg Value.bool o) ?_
  refine bT (iT (.tuple #[]) (rs0 (by kernel_rfl)) ?_);rw[show letE E id p=_ from if_neg (by rw[o];decide)];exact⟨rfl,_,_,_,A.sx,by omega,by omega,A.km,A.cc⟩
end
end Fo
end
section
namespace Fo
open Go.RowKit Go.Lib Pg Lim Gl
set_option linter.unusedVariables false
set_option linter.unusedSimpArgs false
section
variable {w:World}{a0 a1 a2 a3:Option Addr}{n0 c0 n1 c1 n2 c2:Nat}{x0 x1 x2:Int}
theorem jA(p:aU w a0 n0 c0 x0)(k0:n0<=100000000000):Calls Tryz.prog 47 #[.agg #[.slice a0 n0 c0]] w (NdE w (· <= n0+1) (x0)):=by
 have d:=Below.refl w.heap.size w;refine aM (n:=6) Tryz.func47 rfl (by kernel_rfl) (by kernel_rfl) ?_
 refine aj (aA (ta 1 [.slice a0 n0 c0] 32 (pg) ?_));intro v1 g2 a l B;replace d:=ax d B;clear B;have h:=a.lt;refine ta 2 [.slice none 0 0] 32 (pg) ?_
 intro v3 g4 b o B;replace d:=ax d B;replace a:=a.keep B;clear B;refine ay (ah (aj (aA (tlr 3 [.slice a0 n0 c0] a 0 ?_))));refine t 4 (.agg #[.slice none 0 0]) ?_
 have h:=a.lt;have j:=b.lt;refine tc 5 27 #[.agg #[.slice a0 n0 c0],.agg #[.slice none 0 0]] (sC (p.keep d) (by omega) (mQ _ 0).nat (by omega)) ?_
 rintro _ v6 ⟨f,c,e,i,rfl,g,m,k,B⟩;refine⟨_,rfl,?_⟩;replace d:=ax d B;replace a:=a.keep B;replace b:=b.keep B;clear B;refine ts b 0 (.agg #[.slice f c e]) [.slice f c e] [.slice f c e] ?_
 intro q Y C;replace d:=a7 d C (by omega);replace a:=a.chg C (show g2≠g4 by omega);replace g:=g.cell C (show c=0\/i≠g4 by omega);clear C b;have b:=Y;clear Y;refine ay (ah (aO (aQ (.agg #[.slice f c e]) (rsc 2 (T:=32) (by kernel_rfl) (by kernel_rfl) (lr b 0)) ?_)));exact⟨_,_,_,_,rfl,g.eqv (by omega),by omega,by omega,d⟩
theorem qL(y:aU w a0 n0 c0 x0)(k0:n0<=100000000000)(x:aU w a1 n1 c1 x1)(k1:n1<=100000000000):Calls Tryz.prog 52 #[.agg #[.slice a0 n0 c0],.agg #[.slice a1 n1 c1]] w (NdE w (· <= n0) (fW x0 x1)):=by
 have h:=Below.refl w.heap.size w;refine aM (n:=14) Tryz.func52 rfl (by kernel_rfl) (by kernel_rfl) ?_
 refine aj (aA (ta 2 [.slice a0 n0 c0] 32 (pg) ?_));intro v1 g2 a r B;replace h:=ax h B;clear B;have j:=a.lt;refine ta 3 [.slice a1 n1 c1] 32 (pg) ?_
 intro v3 g4 b v B;replace h:=ax h B;replace a:=a.keep B;clear B;have j:=a.lt;have k:=b.lt;refine ta 4 [.slice none 0 0] 32 (pg) ?_
 intro v5 g6 d s B;replace h:=ax h B;replace a:=a.keep B;replace b:=b.keep B;clear B;refine ay (ah (aj (aA (tlr 8 [.slice a0 n0 c0] a 0 ?_))));refine tlr 9 [.slice a1 n1 c1] b 0 ?_
 have j:=a.lt;have k:=b.lt;have m:=d.lt;refine tc 10 39 #[.agg #[.slice a0 n0 c0],.agg #[.slice a1 n1 c1]] (eSub (y.keep h) (by omega) (x.keep h) (by omega)) ?_
 rintro _ z ⟨e,c,f,l,rfl,i,u,q,B⟩;refine⟨_,rfl,?_⟩;replace h:=ax h B;replace a:=a.keep B;replace b:=b.keep B;replace d:=d.keep B;clear B;refine t 7 (.tuple #[.agg #[.slice e c f],.int .i64 (sbE x0 x1)]) ?_
 refine t 11 (.agg #[.slice e c f]) ?_
 refine t 12 (.int .i64 (sbE x0 x1)) ?_
 have j:=a.lt;have k:=b.lt;have m:=d.lt;have p:=i.lt;refine ta 5 [.slice none 0 0] 32 (pg) ?_
 intro v9 g10 g o B;replace h:=ax h B;replace a:=a.keep B;replace b:=b.keep B;replace d:=d.keep B;replace i:=i.keep B;clear B;refine ts g 0 (.agg #[.slice e c f]) [.slice e c f] [.slice e c f] ?_
 intro v11 Y C;replace h:=a7 h C (by omega);replace a:=a.chg C (show g2≠g10 by omega);replace b:=b.chg C (show g4≠g10 by omega);replace d:=d.chg C (show g6≠g10 by omega);replace i:=i.cell C (show c=0\/l≠g10 by omega);clear C g;have g:=Y;clear Y;refine t 6 (.int .i64 (sbE x0 x1)) ?_
 refine ay (ah (aT [(4,pg g6),(5,pg g10)] (by kernel_rfl) ?_));refine aj (aA (tlr 13 [.slice e c f] g 0 ?_));refine ts d 0 (.agg #[.slice e c f]) [.slice e c f] [.slice e c f] ?_
 intro v12 Y C;replace h:=a7 h C (by omega);replace a:=a.chg C (show g2≠g6 by omega);replace b:=b.chg C (show g4≠g6 by omega);replace i:=i.cell C (show c=0\/l≠g6 by omega);replace g:=g.chg C (show g10≠g6 by omega);clear C d;have d:=Y;clear Y;refine ay (ah (aO (aQ (.agg #[.slice e c f]) (rsc 4 (T:=32) (by kernel_rfl) (by kernel_rfl) (lr d 0)) ?_)));exact⟨_,_,_,_,rfl,i,by omega,by omega,h⟩
theorem tX{b c:Int}(h0:aU w a0 n0 c0 x0)(k0:n0<=100000000000)(hb:0<=b/\b < 18446744073709551616)(hc:0<=c/\c < 18446744073709551616):Calls Tryz.prog 54 #[.agg #[.slice a0 n0 c0],.agg #[.int .u64 b,.int .u64 c]] w (NdE w (· <= n0+80) (x0 * (c * U36) / (b * U36))):=by
 have g:=Below.refl w.heap.size w;refine aM (n:=19) Tryz.func54 rfl (by kernel_rfl) (by kernel_rfl) ?_
 refine aj (aA (ta 2 [.slice a0 n0 c0] 32 (pg) ?_));intro v1 g2 a hg2 B;replace g:=ax g B;clear B;have j:=a.lt;refine ta 3 [.int .u64 b,.int .u64 c] 111 (pg) ?_
 intro v3 g4 d hg4 B;replace g:=ax g B;replace a:=a.keep B;clear B;have j:=a.lt;have l:=d.lt;refine ta 4 [.slice none 0 0] 32 (pg) ?_
 intro v5 g6 e hg6 B;replace g:=ax g B;replace a:=a.keep B;replace d:=d.keep B;clear B;refine ay (ah (aj ?_));replace g:=g.drew;replace a:=a.drew;replace d:=d.drew;replace e:=e.drew;refine bX (fun w'=>Blk w' g2 [.slice a0 n0 c0] 32/\Blk w' g4 [.int .u64 b,.int .u64 c] 111) (fun _=>false) ⟨a,d⟩ ?_
 refine zlr 0 8 [.slice a0 n0 c0] (fun _ h=>h.1) 0 ?_
 refine z 1 9 (pq g4 1) ?_
 refine zl 2 10 (.int .u64 c) (fun _ h=>h.2) 1 ?_
 refine z 4 12 (pg g4) ?_
 refine zl 5 13 (.int .u64 b) (fun _ h=>h.2) 0 ?_
 refine cn [3,11] ?_
 have j:=a.lt;have l:=d.lt;have p:=e.lt;refine dz 3 (some 11) 18 #[.int .u64 c] (eOf hc) ?_ ?_
 ·rintro _ v8 ⟨ak,L,ai,Q,rfl,f,hq7,mq7,B⟩;replace g:=ax g B;replace a:=a.keep B;replace d:=d.keep B;replace e:=e.keep B;clear B;refine⟨_,rfl,⟨a,d⟩,?_⟩;refine cn [6,11] ?_
  have j:=a.lt;have l:=d.lt;have p:=e.lt;refine dz 6 (some 14) 18 #[.int .u64 b] (eOf hb) ?_ ?_
  ·rintro _ v10 ⟨an,R,au,X,rfl,k,hq9,mq9,B⟩;replace g:=ax g B;replace a:=a.keep B;replace d:=d.keep B;replace e:=e.keep B;replace f:=f.keep B;clear B;refine⟨_,rfl,⟨a,d⟩,?_⟩;refine cn [7,11] ?_
   have j:=a.lt;have l:=d.lt;have p:=e.lt;refine dz 7 (some 15) 86 #[.agg #[.slice a0 n0 c0],.agg #[.slice ak L ai],.agg #[.slice an R au]] (jT (h0.keep g) (by omega) f.nat (by omega) k.nat (by omega)) ?_ ?_
   ·rintro _ v12 ⟨D,r,E,Z,rfl,H,hq11,mq11,B⟩;replace g:=ax g B;replace a:=a.keep B;replace d:=d.keep B;replace e:=e.keep B;replace f:=f.keep B;replace k:=k.keep B;clear B;refine⟨_,rfl,⟨a,d⟩,?_⟩;refine z 8 7 (.tuple #[.agg #[.slice D r E],.int .i64 (dvZ (b * U36))]) ?_
    refine z 9 16 (.agg #[.slice D r E]) ?_
    refine z 10 17 (.int .i64 (dvZ (b * U36))) ?_
    have j:=a.lt;have l:=d.lt;have p:=e.lt;have ad:=f.lt;have am:=k.lt;have lNq11:=H.lt;refine za 11 5 [.slice none 0 0] 32 (pg) ?_
    intro v13 g14 K hg14 B;replace g:=ax g B;replace a:=a.keep B;replace d:=d.keep B;replace e:=e.keep B;replace f:=f.keep B;replace k:=k.keep B;replace H:=H.keep B;clear B;refine⟨⟨a,d⟩,?_⟩;refine zs 12 K 0 (.agg #[.slice D r E]) [.slice D r E] [.slice D r E] ?_
    intro v15 Y C;replace g:=a7 g C (by omega);replace a:=a.chg C (show g2≠g14 by omega);replace d:=d.chg C (show g4≠g14 by omega);replace e:=e.chg C (show g6≠g14 by omega);replace f:=f.cell C (show L=0\/Q≠g14 by omega);replace k:=k.cell C (show R=0\/X≠g14 by omega);replace H:=H.cell C (show r=0\/Z≠g14 by omega);clear C K;have K:=Y;clear Y;refine⟨⟨a,d⟩,?_⟩;refine z 13 6 (.int .i64 (dvZ (b * U36))) ?_
    refine bh (ah (aT [(4,pg g6),(5,pg g14)] (by kernel_rfl) ?_));refine aj (aA (tlr 18 [.slice D r E] K 0 ?_));refine ts e 0 (.agg #[.slice D r E]) [.slice D r E] [.slice D r E] ?_
    intro v16 Y C;replace g:=a7 g C (by omega);replace a:=a.chg C (show g2≠g6 by omega);replace d:=d.chg C (show g4≠g6 by omega);replace f:=f.cell C (show L=0\/Q≠g6 by omega);replace k:=k.cell C (show R=0\/X≠g6 by omega);replace H:=H.cell C (show r=0\/Z≠g6 by omega);replace K:=K.chg C (show g14≠g6 by omega);clear C e;have e:=Y;clear Y;refine ay (ah (aO (aQ (.agg #[.slice D r E]) (rsc 4 (T:=32) (by kernel_rfl) (by kernel_rfl) (lr e 0)) ?_)));exact⟨_,_,_,_,rfl,H,by omega,by omega,g⟩
   have j:=a.lt;have l:=d.lt;have p:=e.lt;have ad:=f.lt;have am:=k.lt;refine zaa 11 5 [.slice none 0 0] 32 (pg) ?_ ?_
   ·intro v17 g18 G hg18 B;replace g:=ax g B;replace a:=a.keep B;replace d:=d.keep B;replace e:=e.keep B;replace f:=f.keep B;replace k:=k.keep B;clear B;refine⟨⟨a,d⟩,?_⟩;have j:=a.lt;have l:=d.lt;have p:=e.lt;have lXg18:=G.lt;refine zc 7 15 86 #[.agg #[.slice a0 n0 c0],.agg #[.slice ak L ai],.agg #[.slice an R au]] (jT (h0.keep g) (by omega) f.nat (by omega) k.nat (by omega)) ?_
    rintro _ v20 ⟨x,o,A,ac,rfl,P,hq19,mq19,B⟩;replace g:=ax g B;replace a:=a.keep B;replace d:=d.keep B;replace e:=e.keep B;replace f:=f.keep B;replace k:=k.keep B;replace G:=G.keep B;clear B;refine⟨_,rfl,⟨a,d⟩,?_⟩;refine z 8 7 (.tuple #[.agg #[.slice x o A],.int .i64 (dvZ (b * U36))]) ?_
    refine z 9 16 (.agg #[.slice x o A]) ?_
    refine z 10 17 (.int .i64 (dvZ (b * U36))) ?_
    refine zs 12 G 0 (.agg #[.slice x o A]) [.slice x o A] [.slice x o A] ?_
    intro v21 Y C;replace g:=a7 g C (by omega);replace a:=a.chg C (show g2≠g18 by omega);replace d:=d.chg C (show g4≠g18 by omega);replace e:=e.chg C (show g6≠g18 by omega);replace f:=f.cell C (show L=0\/Q≠g18 by omega);replace k:=k.cell C (show R=0\/X≠g18 by omega);replace P:=P.cell C (show o=0\/ac≠g18 by omega);clear C G;have G:=Y;clear Y;refine⟨⟨a,d⟩,?_⟩;refine z 13 6 (.int .i64 (dvZ (b * U36))) ?_
    refine bh (ah (aT [(4,pg g6),(5,pg g18)] (by kernel_rfl) ?_));refine aj (aA (tlr 18 [.slice x o A] G 0 ?_));refine ts e 0 (.agg #[.slice x o A]) [.slice x o A] [.slice x o A] ?_
    intro v22 Y C;replace g:=a7 g C (by omega);replace a:=a.chg C (show g2≠g6 by omega);replace d:=d.chg C (show g4≠g6 by omega);replace f:=f.cell C (show L=0\/Q≠g6 by omega);replace k:=k.cell C (show R=0\/X≠g6 by omega);replace G:=G.chg C (show g18≠g6 by omega);replace P:=P.cell C (show o=0\/ac≠g6 by omega);clear C e;have e:=Y;clear Y;refine ay (ah (aO (aQ (.agg #[.slice x o A]) (rsc 4 (T:=32) (by kernel_rfl) (by kernel_rfl) (lr e 0)) ?_)));exact⟨_,_,_,_,rfl,P,by omega,by omega,g⟩
   exact dJ
  have j:=a.lt;have l:=d.lt;have p:=e.lt;have ad:=f.lt;refine zaa 11 5 [.slice none 0 0] 32 (pg) ?_ ?_
  ·intro v23 g24 m hg24 B;replace g:=ax g B;replace a:=a.keep B;replace d:=d.keep B;replace e:=e.keep B;replace f:=f.keep B;clear B;refine⟨⟨a,d⟩,?_⟩;have j:=a.lt;have l:=d.lt;have p:=e.lt;have al:=m.lt;refine zc 6 14 18 #[.int .u64 b] (eOf hb) ?_
   rintro _ v26 ⟨ar,U,ao,ag,rfl,I,hq25,mq25,B⟩;replace g:=ax g B;replace a:=a.keep B;replace d:=d.keep B;replace e:=e.keep B;replace f:=f.keep B;replace m:=m.keep B;clear B;refine⟨_,rfl,⟨a,d⟩,?_⟩;have j:=a.lt;have l:=d.lt;have p:=e.lt;have al:=m.lt;refine zc 7 15 86 #[.agg #[.slice a0 n0 c0],.agg #[.slice ak L ai],.agg #[.slice ar U ao]] (jT (h0.keep g) (by omega) f.nat (by omega) I.nat (by omega)) ?_
   rintro _ v28 ⟨y,s,u,af,rfl,M,hq27,mq27,B⟩;replace g:=ax g B;replace a:=a.keep B;replace d:=d.keep B;replace e:=e.keep B;replace f:=f.keep B;replace m:=m.keep B;replace I:=I.keep B;clear B;refine⟨_,rfl,⟨a,d⟩,?_⟩;refine z 8 7 (.tuple #[.agg #[.slice y s u],.int .i64 (dvZ (b * U36))]) ?_
   refine z 9 16 (.agg #[.slice y s u]) ?_
   refine z 10 17 (.int .i64 (dvZ (b * U36))) ?_
   refine zs 12 m 0 (.agg #[.slice y s u]) [.slice y s u] [.slice y s u] ?_
   intro v29 Y C;replace g:=a7 g C (by omega);replace a:=a.chg C (show g2≠g24 by omega);replace d:=d.chg C (show g4≠g24 by omega);replace e:=e.chg C (show g6≠g24 by omega);replace f:=f.cell C (show L=0\/Q≠g24 by omega);replace I:=I.cell C (show U=0\/ag≠g24 by omega);replace M:=M.cell C (show s=0\/af≠g24 by omega);clear C m;have m:=Y;clear Y;refine⟨⟨a,d⟩,?_⟩;refine z 13 6 (.int .i64 (dvZ (b * U36))) ?_
   refine bh (ah (aT [(4,pg g6),(5,pg g24)] (by kernel_rfl) ?_));refine aj (aA (tlr 18 [.slice y s u] m 0 ?_));refine ts e 0 (.agg #[.slice y s u]) [.slice y s u] [.slice y s u] ?_
   intro v30 Y C;replace g:=a7 g C (by omega);replace a:=a.chg C (show g2≠g6 by omega);replace d:=d.chg C (show g4≠g6 by omega);replace f:=f.cell C (show L=0\/Q≠g6 by omega);replace m:=m.chg C (show g24≠g6 by omega);replace I:=I.cell C (show U=0\/ag≠g6 by omega);replace M:=M.cell C (show s=0\/af≠g6 by omega);clear C e;have e:=Y;clear Y;refine ay (ah (aO (aQ (.agg #[.slice y s u]) (rsc 4 (T:=32) (by kernel_rfl) (by kernel_rfl) (lr e 0)) ?_)));exact⟨_,_,_,_,rfl,M,by omega,by omega,g⟩
  exact dJ
 have j:=a.lt;have l:=d.lt;have p:=e.lt;refine zaa 11 5 [.slice none 0 0] 32 (pg) ?_ ?_
 ·intro v31 O i hg32 B;replace g:=ax g B;replace a:=a.keep B;replace d:=d.keep B;replace e:=e.keep B;clear B;refine⟨⟨a,d⟩,?_⟩;have j:=a.lt;have l:=d.lt;have p:=e.lt;have S:=i.lt;refine zc 3 11 18 #[.int .u64 c] (eOf hc) ?_
  rintro _ v34 ⟨av,V,aw,ae,rfl,F,hq33,mq33,B⟩;replace g:=ax g B;replace a:=a.keep B;replace d:=d.keep B;replace e:=e.keep B;replace i:=i.keep B;clear B;refine⟨_,rfl,⟨a,d⟩,?_⟩;have j:=a.lt;have l:=d.lt;have p:=e.lt;have S:=i.lt;refine zc 6 14 18 #[.int .u64 b] (eOf hb) ?_
  rintro _ v36 ⟨ap,W,aq,ab,rfl,J,hq35,mq35,B⟩;replace g:=ax g B;replace a:=a.keep B;replace d:=d.keep B;replace e:=e.keep B;replace i:=i.keep B;replace F:=F.keep B;clear B;refine⟨_,rfl,⟨a,d⟩,?_⟩;have j:=a.lt;have l:=d.lt;have p:=e.lt;have S:=i.lt;refine zc 7 15 86 #[.agg #[.slice a0 n0 c0],.agg #[.slice av V aw],.agg #[.slice ap W aq]] (jT (h0.keep g) (by omega) F.nat (by omega) J.nat (by omega)) ?_
  rintro _ v38 ⟨t,q,v,aa,rfl,N,hq37,mq37,B⟩;replace g:=ax g B;replace a:=a.keep B;replace d:=d.keep B;replace e:=e.keep B;replace i:=i.keep B;replace F:=F.keep B;replace J:=J.keep B;clear B;refine⟨_,rfl,⟨a,d⟩,?_⟩;refine z 8 7 (.tuple #[.agg #[.slice t q v],.int .i64 (dvZ (b * U36))]) ?_
  refine z 9 16 (.agg #[.slice t q v]) ?_
  refine z 10 17 (.int .i64 (dvZ (b * U36))) ?_
  refine zs 12 i 0 (.agg #[.slice t q v]) [.slice t q v] [.slice t q v] ?_
  intro v39 Y C;replace g:=a7 g C (by omega);replace a:=a.chg C (show g2≠O by omega);replace d:=d.chg C (show g4≠O by omega);replace e:=e.chg C (show g6≠O by omega);replace F:=F.cell C (show V=0\/ae≠O by omega);replace J:=J.cell C (show W=0\/ab≠O by omega);replace N:=N.cell C (show q=0\/aa≠O by omega);clear C i;have i:=Y;clear Y;refine⟨⟨a,d⟩,?_⟩;refine z 13 6 (.int .i64 (dvZ (b * U36))) ?_
  refine bh (ah (aT [(4,pg g6),(5,pg O)] (by kernel_rfl) ?_));refine aj (aA (tlr 18 [.slice t q v] i 0 ?_));refine ts e 0 (.agg #[.slice t q v]) [.slice t q v] [.slice t q v] ?_
  intro v40 Y C;replace g:=a7 g C (by omega);replace a:=a.chg C (show g2≠g6 by omega);replace d:=d.chg C (show g4≠g6 by omega);replace i:=i.chg C (show O≠g6 by omega);replace F:=F.cell C (show V=0\/ae≠g6 by omega);replace J:=J.cell C (show W=0\/ab≠g6 by omega);replace N:=N.cell C (show q=0\/aa≠g6 by omega);clear C e;have e:=Y;clear Y;refine ay (ah (aO (aQ (.agg #[.slice t q v]) (rsc 4 (T:=32) (by kernel_rfl) (by kernel_rfl) (lr e 0)) ?_)));exact⟨_,_,_,_,rfl,N,by omega,by omega,g⟩
 exact dJ
theorem iV{n3 c3:Nat}{x3:Int}{rt tk un A:Int}{jl bo:Bool}(h0:aU w a0 n0 c0 x0)(k0:n0<=100000000000)(h1:aU w a1 n1 c1 x1)(k1:n1<=100000000000)(R:aU w a2 n2 c2 x2)(k2:n2<=100000000000)(V:aU w a3 n3 c3 x3)(k3:n3<=100000000000):Calls Tryz.prog 44 #[.agg #[.int .u64 rt,.int .u64 tk,.slice a0 n0 c0,.bool jl,.int .u64 un,.bool bo,.int .u64 A,.slice a1 n1 c1,.slice a2 n2 c2,.slice a3 n3 c3]] w fun e w'=>∃ b0 m0 d0 y0 b1 m1 d1 y1 b2 m2 d2 y2 b3 m3 d3 y3,e=.returned (.agg #[.int .u64 rt,.int .u64 tk,.slice b0 m0 d0,.bool jl,.int .u64 un,.bool bo,.int .u64 A,.slice b1 m1 d1,.slice b2 m2 d2,.slice b3 m3 d3])/\Nf w' y0 b0 m0 d0 x0/\(m0=0\/w.heap.size<=y0)/\m0<=n0 + 1/\Nf w' y1 b1 m1 d1 x1/\(m1=0\/w.heap.size<=y1)/\m1<=n1 + 1/\Nf w' y2 b2 m2 d2 x2/\(m2=0\/w.heap.size<=y2)/\m2<=n2 + 1/\Nf w' y3 b3 m3 d3 x3/\(m3=0\/w.heap.size<=y3)/\m3<=n3 + 1/\Below w.heap.size w w':=by
 have l:=Below.refl w.heap.size w;refine aM (n:=20) Tryz.func44 rfl (by kernel_rfl) (by kernel_rfl) ?_
 refine aj (aA (ta 1 [.int .u64 rt,.int .u64 tk,.slice a0 n0 c0,.bool jl,.int .u64 un,.bool bo,.int .u64 A,.slice a1 n1 c1,.slice a2 n2 c2,.slice a3 n3 c3] 39 (pg) ?_));intro v1 g2 a Q B;replace l:=ax l B;clear B;have y:=a.lt;refine ta 2 [.int .u64 0,.int .u64 0,.slice none 0 0,.bool false,.int .u64 0,.bool false,.int .u64 0,.slice none 0 0,.slice none 0 0,.slice none 0 0] 39 (pg) ?_
 intro v3 g4 b X B;replace l:=ax l B;replace a:=a.keep B;clear B;refine ay (ah (aj ?_));replace l:=l.drew;replace a:=a.drew;replace b:=b.drew;refine bX (fun w'=>Blk w' g2 [.int .u64 rt,.int .u64 tk,.slice a0 n0 c0,.bool jl,.int .u64 un,.bool bo,.int .u64 A,.slice a1 n1 c1,.slice a2 n2 c2,.slice a3 n3 c3] 39) (fun i=>decide (7<=i)) a ?_
 refine z 0 3 (pq g2 2) ?_
 refine zlr 1 4 [.slice a0 n0 c0] (fun _ h=>h) 2 ?_
 refine z 3 6 (pq g2 7) ?_
 refine zlr 4 7 [.slice a1 n1 c1] (fun _ h=>h) 7 ?_
 have y:=a.lt;have H:=b.lt;refine zc 2 5 47 #[.agg #[.slice a0 n0 c0]] (jA (h0.keep l) (by omega)) ?_
 rintro _ v6 ⟨t,f,s,D,rfl,c,W,M,B⟩;replace l:=ax l B;replace a:=a.keep B;replace b:=b.keep B;clear B;refine⟨_,rfl,a,?_⟩;refine z 6 9 (pq g2 2) ?_
 have y:=a.lt;have H:=b.lt;refine zc 5 8 47 #[.agg #[.slice a1 n1 c1]] (jA (h1.keep l) (by omega)) ?_
 rintro _ v8 ⟨u,k,v,E,rfl,g,U,P,B⟩;replace l:=ax l B;replace a:=a.keep B;replace b:=b.keep B;replace c:=c.keep B;clear B;refine⟨_,rfl,a,?_⟩;refine pF ?_
 refine ys 7 a 2 (.agg #[.slice t f s]) [.slice t f s] [.int .u64 rt,.int .u64 tk,.slice t f s,.bool jl,.int .u64 un,.bool bo,.int .u64 A,.slice a1 n1 c1,.slice a2 n2 c2,.slice a3 n3 c3] ?_
 intro v9 Y C;replace l:=a7 l C (by omega);replace b:=b.chg C (show g4≠g2 by omega);replace c:=c.cell C (show f=0\/D≠g2 by omega);replace g:=g.cell C (show k=0\/E≠g2 by omega);clear C a;have a:=Y;clear Y;refine yt 8 10 (pq g2 7) ?_
 refine ys 9 a 7 (.agg #[.slice u k v]) [.slice u k v] [.int .u64 rt,.int .u64 tk,.slice t f s,.bool jl,.int .u64 un,.bool bo,.int .u64 A,.slice u k v,.slice a2 n2 c2,.slice a3 n3 c3] ?_
 intro v10 Y C;replace l:=a7 l C (by omega);replace b:=b.chg C (show g4≠g2 by omega);replace c:=c.cell C (show f=0\/D≠g2 by omega);replace g:=g.cell C (show k=0\/E≠g2 by omega);clear C a;have a:=Y;clear Y;refine pQ ?_
 refine ah (aj ?_);replace l:=l.drew;replace a:=a.drew;replace b:=b.drew;replace c:=c.drew;replace g:=g.drew;refine bX (fun w'=>Blk w' g2 [.int .u64 rt,.int .u64 tk,.slice t f s,.bool jl,.int .u64 un,.bool bo,.int .u64 A,.slice u k v,.slice a2 n2 c2,.slice a3 n3 c3] 39) (fun i=>decide (7<=i)) a ?_
 refine z 0 11 (pq g2 8) ?_
 refine zlr 1 12 [.slice a2 n2 c2] (fun _ h=>h) 8 ?_
 refine z 3 14 (pq g2 9) ?_
 refine zlr 4 15 [.slice a3 n3 c3] (fun _ h=>h) 9 ?_
 have y:=a.lt;have H:=b.lt;refine zc 2 13 47 #[.agg #[.slice a2 n2 c2]] (jA (R.keep l) (by omega)) ?_
 rintro _ v12 ⟨p,d,o,F,rfl,m,J,I,B⟩;replace l:=ax l B;replace a:=a.keep B;replace b:=b.keep B;replace c:=c.keep B;replace g:=g.keep B;clear B;refine⟨_,rfl,a,?_⟩;refine z 6 17 (pq g2 8) ?_
 have y:=a.lt;have H:=b.lt;refine zc 5 16 47 #[.agg #[.slice a3 n3 c3]] (jA (V.keep l) (by omega)) ?_
 rintro _ N ⟨r,j,q,G,rfl,x,L,K,B⟩;replace l:=ax l B;replace a:=a.keep B;replace b:=b.keep B;replace c:=c.keep B;replace g:=g.keep B;replace m:=m.keep B;clear B;refine⟨_,rfl,a,?_⟩;refine pF ?_
 refine ys 7 a 8 (.agg #[.slice p d o]) [.slice p d o] [.int .u64 rt,.int .u64 tk,.slice t f s,.bool jl,.int .u64 un,.bool bo,.int .u64 A,.slice u k v,.slice p d o,.slice a3 n3 c3] ?_
 intro Z Y C;replace l:=a7 l C (by omega);replace b:=b.chg C (show g4≠g2 by omega);replace c:=c.cell C (show f=0\/D≠g2 by omega);replace g:=g.cell C (show k=0\/E≠g2 by omega);replace m:=m.cell C (show d=0\/F≠g2 by omega);replace x:=x.cell C (show j=0\/G≠g2 by omega);clear C a;have a:=Y;clear Y;refine yt 8 18 (pq g2 9) ?_
 refine ys 9 a 9 (.agg #[.slice r j q]) [.slice r j q] [.int .u64 rt,.int .u64 tk,.slice t f s,.bool jl,.int .u64 un,.bool bo,.int .u64 A,.slice u k v,.slice p d o,.slice r j q] ?_
 intro O Y C;replace l:=a7 l C (by omega);replace b:=b.chg C (show g4≠g2 by omega);replace c:=c.cell C (show f=0\/D≠g2 by omega);replace g:=g.cell C (show k=0\/E≠g2 by omega);replace m:=m.cell C (show d=0\/F≠g2 by omega);replace x:=x.cell C (show j=0\/G≠g2 by omega);clear C a;have a:=Y;clear Y;refine pQ ?_
 refine ah (aT [(1,pg g2),(2,pg g4)] (by kernel_rfl) ?_);refine aj (aA (tlr 19 [.int .u64 rt,.int .u64 tk,.slice t f s,.bool jl,.int .u64 un,.bool bo,.int .u64 A,.slice u k v,.slice p d o,.slice r j q] a 0 ?_));refine ts b 0 (.agg #[.int .u64 rt,.int .u64 tk,.slice t f s,.bool jl,.int .u64 un,.bool bo,.int .u64 A,.slice u k v,.slice p d o,.slice r j q]) [.int .u64 rt,.int .u64 tk,.slice t f s,.bool jl,.int .u64 un,.bool bo,.int .u64 A,.slice u k v,.slice p d o,.slice r j q] [.int .u64 rt,.int .u64 tk,.slice t f s,.bool jl,.int .u64 un,.bool bo,.int .u64 A,.slice u k v,.slice p d o,.slice r j q] ?_
 intro S Y C;replace l:=a7 l C (by omega);replace a:=a.chg C (show g2≠g4 by omega);replace c:=c.cell C (show f=0\/D≠g4 by omega);replace g:=g.cell C (show k=0\/E≠g4 by omega);replace m:=m.cell C (show d=0\/F≠g4 by omega);replace x:=x.cell C (show j=0\/G≠g4 by omega);clear C b;have b:=Y;clear Y;refine ay (ah (aO (aQ (.agg #[.int .u64 rt,.int .u64 tk,.slice t f s,.bool jl,.int .u64 un,.bool bo,.int .u64 A,.slice u k v,.slice p d o,.slice r j q]) (rsc 2 (T:=39) (by kernel_rfl) (by kernel_rfl) (lr b 0)) ?_)));exact⟨_,_,_,_,_,_,_,_,_,_,_,_,_,_,_,_,rfl,c,by omega,by omega,g,by omega,by omega,m,by omega,by omega,x,by omega,by omega,l⟩
theorem shr_mk:Calls Tryz.prog 80 #[.bool false] w fun e w'=>∃ g,e=.returned (.func (.func 130) #[] #[pg g])/\Blk w' g [.func (.func 86) #[] #[]] 156/\w.heap.size<=g/\Below w.heap.size w w':=by
 have b:=Below.refl w.heap.size w;refine aM (n:=6) Tryz.func80 rfl (by kernel_rfl) (by kernel_rfl) ?_
 refine aj (aA (t 2 (.nilFunc) ?_));refine ay (ah (aj (aA (ta 3 [.nilFunc] 156 (pg) ?_))));intro v1 g2 a c B;replace b:=ax b B;clear B;refine ts a 0 (.func (.func 86) #[] #[]) [.func (.func 86) #[] #[]] [.func (.func 86) #[] #[]] ?_
 intro v3 Y C;replace b:=a7 b C (by omega);clear C a;have a:=Y;clear Y;refine ay (ah (aj (aj (aA (t 4 (.bool false) ?_)))));refine ay (ah (dA ?_));refine bT (ah (aj (aA (t 5 (.func (.func 130) #[] #[pg g2]) ?_))));refine t 2 (.func (.func 130) #[] #[pg g2]) ?_
 refine ay (ah (aO (aQ (.func (.func 130) #[] #[pg g2]) (rs1 2 (by kernel_rfl) (by kernel_rfl)) ?_)));exact⟨_,rfl,a,c,b⟩
theorem yA{g:Nat}(J:aU w a0 n0 c0 x0)(k0:n0<=100000000000)(H:aU w a1 n1 c1 x1)(k1:n1<=100000000000)(A:aU w a2 n2 c2 x2)(k2:n2<=100000000000)(f:Blk w g [.func (.func 86) #[] #[]] 156):Calls Tryz.prog 130 #[.agg #[.slice a0 n0 c0],.agg #[.slice a1 n1 c1],.agg #[.slice a2 n2 c2],pg g] w (NdE w (· <= n0+n1+n2) (x0 * x1 / x2)):=by
 have o:=f.lt;have j:=Below.refl w.heap.size w;refine aM (n:=19) Tryz.func130 rfl (by kernel_rfl) (by kernel_rfl) ?_
 refine aj (aA ?_);have o:=f.lt;refine ta 4 [.slice a0 n0 c0] 32 (pg) ?_
 intro v1 g2 a D B;replace j:=ax j B;replace f:=f.keep B;clear B;have o:=f.lt;have m:=a.lt;refine ta 5 [.slice a1 n1 c1] 32 (pg) ?_
 intro v3 g4 b G B;replace j:=ax j B;replace f:=f.keep B;replace a:=a.keep B;clear B;have o:=f.lt;have m:=a.lt;have p:=b.lt;refine ta 6 [.slice a2 n2 c2] 32 (pg) ?_
 intro v5 g6 c E B;replace j:=ax j B;replace f:=f.keep B;replace a:=a.keep B;replace b:=b.keep B;clear B;have o:=f.lt;have m:=a.lt;have p:=b.lt;have q:=c.lt;refine ta 7 [.slice none 0 0] 32 (pg) ?_
 intro K g8 e I B;replace j:=ax j B;replace f:=f.keep B;replace a:=a.keep B;replace b:=b.keep B;replace c:=c.keep B;clear B;refine ay (ah (aj (aA (tl 11 (.func (.func 86) #[] #[]) f 0 ?_))));refine tlr 12 [.slice a0 n0 c0] a 0 ?_
 refine tlr 13 [.slice a1 n1 c1] b 0 ?_
 refine tlr 14 [.slice a2 n2 c2] c 0 ?_
 have o:=f.lt;have m:=a.lt;have p:=b.lt;have q:=c.lt;have s:=e.lt;refine tc 15 86 #[.agg #[.slice a0 n0 c0],.agg #[.slice a1 n1 c1],.agg #[.slice a2 n2 c2]] (jT (J.keep j) (by omega) (H.keep j) (by omega) (A.keep j) (by omega)) ?_
 rintro _ v10 ⟨i,d,h,r,rfl,l,F,x,B⟩;refine⟨_,rfl,?_⟩;replace j:=ax j B;replace f:=f.keep B;replace a:=a.keep B;replace b:=b.keep B;replace c:=c.keep B;replace e:=e.keep B;clear B;refine t 10 (.tuple #[.agg #[.slice i d h],.int .i64 (dvZ x2)]) ?_
 refine t 16 (.agg #[.slice i d h]) ?_
 refine t 17 (.int .i64 (dvZ x2)) ?_
 have o:=f.lt;have m:=a.lt;have p:=b.lt;have q:=c.lt;have s:=e.lt;have u:=l.lt;refine ta 8 [.slice none 0 0] 32 (pg) ?_
 intro v11 g12 k v B;replace j:=ax j B;replace f:=f.keep B;replace a:=a.keep B;replace b:=b.keep B;replace c:=c.keep B;replace e:=e.keep B;replace l:=l.keep B;clear B;refine ts k 0 (.agg #[.slice i d h]) [.slice i d h] [.slice i d h] ?_
 intro y Y C;replace j:=a7 j C (by omega);replace f:=f.chg C (show g≠g12 by omega);replace a:=a.chg C (show g2≠g12 by omega);replace b:=b.chg C (show g4≠g12 by omega);replace c:=c.chg C (show g6≠g12 by omega);replace e:=e.chg C (show g8≠g12 by omega);replace l:=l.cell C (show d=0\/r≠g12 by omega);clear C k;have k:=Y;clear Y;refine t 9 (.int .i64 (dvZ x2)) ?_
 refine ay (ah (aT [(7,pg g8),(8,pg g12)] (by kernel_rfl) ?_));refine aj (aA (tlr 18 [.slice i d h] k 0 ?_));refine ts e 0 (.agg #[.slice i d h]) [.slice i d h] [.slice i d h] ?_
 intro z Y C;replace j:=a7 j C (by omega);replace f:=f.chg C (show g≠g8 by omega);replace a:=a.chg C (show g2≠g8 by omega);replace b:=b.chg C (show g4≠g8 by omega);replace c:=c.chg C (show g6≠g8 by omega);replace l:=l.cell C (show d=0\/r≠g8 by omega);replace k:=k.chg C (show g12≠g8 by omega);clear C e;have e:=Y;clear Y;refine ay (ah (aO (aQ (.agg #[.slice i d h]) (rsc 7 (T:=32) (by kernel_rfl) (by kernel_rfl) (lr e 0)) ?_)));exact⟨_,_,_,_,rfl,l,by omega,by omega,j⟩
theorem dZ{b:Bool}(h:aU w a0 n0 c0 x0)(hn:n0<=100000000000)(hb:decide (x0=0)=b):Calls Tryz.prog 21 #[.agg #[.slice a0 n0 c0]] w fun e w'=>e=.returned (.bool b)/\Below w.heap.size w w':=hb▸D1 h (by omega)
theorem wc{y:Int}(E:aU w a0 n0 c0 x0)(k0:n0<=100000000000)(P:aU w a1 n1 c1 x1)(k1:n1<=100000000000)(hy:0<=y/\y < 18446744073709551616):Calls Tryz.prog 48 #[.int .u64 y,.agg #[.slice a0 n0 c0],.agg #[.slice a1 n1 c1]] w (NdE w (· <= n0+n1+40) (x1 * (y * U36) / x0)):=by
 have e:=Below.refl w.heap.size w;refine aM (n:=18) Tryz.func48 rfl (by kernel_rfl) (by kernel_rfl) ?_
 refine aj (aA (ta 4 [.slice a0 n0 c0] 32 (pg) ?_));intro v1 g2 a L B;replace e:=ax e B;clear B;have f:=a.lt;refine ta 5 [.slice a1 n1 c1] 32 (pg) ?_
 intro v3 g4 c N B;replace e:=ax e B;replace a:=a.keep B;clear B;have f:=a.lt;have j:=c.lt;refine ta 6 [.slice none 0 0] 32 (pg) ?_
 intro v5 g6 d M B;replace e:=ax e B;replace a:=a.keep B;replace c:=c.keep B;clear B;refine ay (ah (aj (aj (aA (tlr 8 [.slice a0 n0 c0] a 0 ?_)))));by_cases D:x0=0
 ·have f:=a.lt;have j:=c.lt;have o:=d.lt;refine tc 9 21 #[.agg #[.slice a0 n0 c0]] (dZ (E.keep e) (by omega) (b:=true) (decide_eq_true D)) ?_
  rintro _ Q ⟨rfl,B⟩;refine⟨_,rfl,?_⟩;replace e:=ax e B;replace a:=a.keep B;replace c:=c.keep B;replace d:=d.keep B;clear B;refine ay (ah (et ?_));refine aj (aA (t 10 (.agg #[.slice none 0 0]) ?_));refine ts d 0 (.agg #[.slice none 0 0]) [.slice none 0 0] [.slice none 0 0] ?_
  intro R Y C;replace e:=a7 e C (by omega);replace a:=a.chg C (show g2≠g6 by omega);replace c:=c.chg C (show g4≠g6 by omega);clear C d;have d:=Y;clear Y;refine ay (ah (aO (jJ (aQ (.agg #[.slice none 0 0]) (rsc 6 (T:=32) (by kernel_rfl) (by kernel_rfl) (lr d 0)) ?_))));subst D;rw[Int.ediv_zero];exact⟨_,_,_,0,rfl,mQ _ 0,.inl rfl,by omega,e⟩
 ·have f:=a.lt;have j:=c.lt;have o:=d.lt;refine tc 9 21 #[.agg #[.slice a0 n0 c0]] (dZ (E.keep e) (by omega) (b:=false) (decide_eq_false D)) ?_
  rintro _ v9 ⟨rfl,B⟩;refine⟨_,rfl,?_⟩;replace e:=ax e B;replace a:=a.keep B;replace c:=c.keep B;replace d:=d.keep B;clear B;refine ay (ah (dA ?_));refine bT (ah (aj (aA ?_)));have f:=a.lt;have j:=c.lt;have o:=d.lt;refine tc 11 80 #[.bool false] (shr_mk) ?_
  rintro _ v10 ⟨g,rfl,p,S,B⟩;refine⟨_,rfl,?_⟩;replace e:=ax e B;replace a:=a.keep B;replace c:=c.keep B;replace d:=d.keep B;clear B;refine t 7 (.func (.func 130) #[] #[pg g]) ?_
  refine ay (ah (aj ?_));replace e:=e.drew;replace a:=a.drew;replace c:=c.drew;replace d:=d.drew;replace p:=p.drew;refine bX (fun G=>Blk G g4 [.slice a1 n1 c1] 32/\Blk G g2 [.slice a0 n0 c0] 32) (fun _=>false) ⟨c,a⟩ ?_
  refine z 0 12 (.func (.func 130) #[] #[pg g]) ?_
  refine zlr 1 13 [.slice a1 n1 c1] (fun _ h=>h.1) 0 ?_
  refine z 2 14 (.int .u64 y) ?_
  refine zlr 4 16 [.slice a0 n0 c0] (fun _ h=>h.2) 0 ?_
  have f:=a.lt;have j:=c.lt;have o:=d.lt;have A:=p.lt;refine zc 3 15 18 #[.int .u64 y] (eOf hy) ?_
  rintro _ v12 ⟨x,r,v,s,rfl,i,H,F,B⟩;replace e:=ax e B;replace a:=a.keep B;replace c:=c.keep B;replace d:=d.keep B;replace p:=p.keep B;clear B;refine⟨_,rfl,⟨c,a⟩,?_⟩;have f:=a.lt;have j:=c.lt;have o:=d.lt;have A:=p.lt;refine zc 5 17 130 #[.agg #[.slice a1 n1 c1],.agg #[.slice x r v],.agg #[.slice a0 n0 c0],pg g] (yA (P.keep e) (by omega) i.nat (by omega) (E.keep e) (by omega) p) ?_
  rintro _ K ⟨m,k,l,u,rfl,q,J,I,B⟩;replace e:=ax e B;replace a:=a.keep B;replace c:=c.keep B;replace d:=d.keep B;replace p:=p.keep B;replace i:=i.keep B;clear B;refine⟨_,rfl,⟨c,a⟩,?_⟩;refine zs 6 d 0 (.agg #[.slice m k l]) [.slice m k l] [.slice m k l] ?_
  intro O Y C;replace e:=a7 e C (by omega);replace a:=a.chg C (show g2≠g6 by omega);replace c:=c.chg C (show g4≠g6 by omega);replace p:=p.chg C (show g≠g6 by omega);replace i:=i.cell C (show r=0\/s≠g6 by omega);replace q:=q.cell C (show k=0\/u≠g6 by omega);clear C d;have d:=Y;clear Y;refine⟨⟨c,a⟩,?_⟩;refine bh (ah (aT [(6,pg g6)] (by kernel_rfl) ?_));refine aO (aQ (.agg #[.slice m k l]) (rsc 6 (T:=32) (by kernel_rfl) (by kernel_rfl) (lr d 0)) ?_);exact⟨_,_,_,_,rfl,q,by omega,by omega,e⟩
end
end Fo
end
end Go.Proofs.YthfepflplbahkaaGreatDoor
