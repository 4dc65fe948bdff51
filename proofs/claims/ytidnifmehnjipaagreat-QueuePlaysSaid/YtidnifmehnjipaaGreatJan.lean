import Derived.Test.YtidnifmehnjipaaGreatJal
import Derived.Test.YtidnifmehnjipaaGreatJaf
set_option maxRecDepth 100000
set_option maxHeartbeats 8000000
namespace Go.Proofs.YtidnifmehnjipaaGreat
namespace Ks
open Go.RowKit Go.Lib Pg Gl
attribute [local go_sem] Oper.semAt_some
set_option linter.unusedVariables false
set_option linter.unusedSimpArgs false
section
variable {w:World}{k m0 m1 x y a b:Int}{n:Nat}{r:Bool}{ρ:Operand->Value}
theorem fo_f(hf:Ky.frm k=((n:Int),m0,m1)):Calls Tryz.prog 76 #[.int .i64 k] w fun e w'=>e=.returned (.agg #[.int .i64 (n:Int),.int .u8 m0,.int .u8 m1])/\Below w.heap.size w w':=by
 have u:=Ky.iW (w:=w) (k:=k);rw[hf] at u;exact u
theorem CH{n:Int}(h:decide (8 < n)=r):Calls Tryz.prog 77 #[.agg #[.int .i64 n,.int .u8 x,.int .u8 y]] w fun e w'=>e=.returned (.bool r)/\Below w.heap.size w w':=by
 subst h;exact Ky.eQ (w:=w) (n:=n) (x:=x) (y:=y)
theorem lS{n:Int}(h:decide (16 < n)=r):Calls Tryz.prog 78 #[.agg #[.int .i64 n,.int .u8 x,.int .u8 y]] w fun e w'=>e=.returned (.bool r)/\Below w.heap.size w w':=by
 subst h;exact Ky.fI (w:=w) (n:=n) (x:=x) (y:=y)
theorem Af(c:0<=a)(b:a < 18446744073709551616):Calls Tryz.prog 80 #[.int .i64 k,.int .u64 a] w fun e w'=>e=.returned (.int .u64 (Ky.tn k a))/\Below w.heap.size w w':=by
 refine(Ky.gw c b).mono ?_
 rintro e w' ⟨rfl,rfl⟩;exact⟨rfl,Below.refl _ _⟩
theorem Cv{o:Oper}{n:Int}(hn:n≠0)(b:∃ u v,o.op=.binOp .eql 154 u v 154/\ρ u=.agg #[.int .i64 n,.int .u8 m0,.int .u8 m1]/\ρ v=.agg #[.int .i64 0,.int .u8 0,.int .u8 0]:=by exact⟨_,_,rfl,by kernel_rfl,by kernel_rfl⟩):(execOp ρ o).run Tryz.prog w=.ok (.value (.bool false)) w:=by
 obtain⟨u,v,h,e1,e2⟩:=b;simp only[execOp,h,e1,e2];go_simp
 try simp[hn]
theorem mk_n(hf:Ky.frm k=((n:Int),m0,m1))(hn:n<=18)(O:0<=m0/\m0 < 256)(P:0<=m1/\m1 < 256)(D:0<=a/\a < 18446744073709551616)(he:(n:Int)≠0/\(a≠0->8 < (n:Int))/\(b≠0->16 < (n:Int))):Calls Tryz.prog 32 #[.agg #[.int .i64 k,.int .u64 a,.int .u64 b]] w fun e w'=>∃ v,e=.returned (.tuple #[v,.int .i64 0])/\OB w' (w.heap.size <= ·) v (Ky.mk k a b)/\Below w.heap.size w w':=by
 have f:=Below.refl w.heap.size w;refine aC (n:=46) Tryz.func32 rfl ?_
 refine ab (ag (ta 1 [iI k,iU a,iU b] 90 (pg) ?_));intro v1 g c x B;have R:=Nat.le_trans f.size x;skip;replace f:=ai f B;refine t 2 (.slice none 0 0) (t 3 (iI 0) (ae (aa (ab (ag (t 6 (pg g) (tl 7 (iI k) c 0 (tc 8 76 #[iI k] (fo_f hf) ?_))))))));rintro _ V ⟨rfl,B⟩;refine⟨_,rfl,?_⟩;replace f:=ai f B;replace c:=c.keep B;have E:=c.lt;refine ta 4 [iI 0,.int .u8 0,.int .u8 0] 154 (pg) ?_
 intro v4 l d y B;have I:=Nat.le_trans f.size y;have p:=c.lt;replace f:=ai f B;replace c:=c.keep B;refine ts d 0 (.agg #[iI (n:Int),.int .u8 m0,.int .u8 m1]) [iI (n:Int),.int .u8 m0,.int .u8 m1] [iI (n:Int),.int .u8 m0,.int .u8 m1] ?_
 intro v6 Y C;replace f:=aS f C (by omega);replace c:=c.chg C (show g≠l by omega);have d:=Y;refine ae (aa ?_);refine gm (fun(_:Unit)=>[(1,pg g),(4,pg l),(31,bF)]) (fun _ w'=>Below w.heap.size w w'/\Blk w' g [iI k,iU a,iU b] 90/\Blk w' l [iI (n:Int),.int .u8 m0,.int .u8 m1] 154) ?_ ?_
 ·refine ab (ag (tlr 9 [iI (n:Int),.int .u8 m0,.int .u8 m1] d 0 (t 10 (.agg #[iI 0,.int .u8 0,.int .u8 0]) (tr 11 (bF) (Cv (n:=(n:Int)) (m0:=m0) (m1:=m1) he.1) (t 12 (bF) (t 13 (pq g 1) (tl 14 (iU a) c 1 ?_)))))));by_cases F:(a:Int)=0
  ·refine tq 15 (.bool ((a:Int) != 0)) (bF) (congrArg Value.bool (bne_eq_false_iff_eq.2 F)) (t 16 (bF) (tn 17 (tn 18 (tn 19 (t 20 (bF) (t 21 (bF) (t 22 (bF) (t 23 (pq g 2) (tl 24 (iU b) c 2 ?_)))))))));by_cases A:(b:Int)=0
   ·exact tq 25 (.bool ((b:Int) != 0)) (bF) (congrArg Value.bool (bne_eq_false_iff_eq.2 A)) (t 26 (bF) (tn 27 (tn 28 (tn 29 (t 30 (bF) (t 31 (bF) (ae (aa (aG [(1,pg g),(2,.slice none 0 0),(3,iI 0),(4,pg l),(31,bF)] (aW (aK (bZ () ⟨f,c,d⟩ (by kernel_rfl)))))))))))))
   ·refine tq 25 (.bool ((b:Int) != 0)) (bT) (congrArg Value.bool (bne_iff_ne.2 A)) (t 26 (bT) (tlr 27 [iI (n:Int),.int .u8 m0,.int .u8 m1] d 0 (tc 28 78 #[.agg #[iI (n:Int),.int .u8 m0,.int .u8 m1]] (lS (r:=true) (by exact decide_eq_true (he.2.2 (by omega)))) ?_)));rintro _ W ⟨rfl,B⟩;refine⟨_,rfl,?_⟩;replace f:=ai f B;replace c:=c.keep B;replace d:=d.keep B;exact t 29 (bF) (t 30 (bF) (t 31 (bF) (ae (aa (aG [(1,pg g),(2,.slice none 0 0),(3,iI 0),(4,pg l),(31,bF)] (aW (aK (bZ () ⟨f,c,d⟩ (by kernel_rfl)))))))))
  ·refine tq 15 (.bool ((a:Int) != 0)) (bT) (congrArg Value.bool (bne_iff_ne.2 F)) (t 16 (bT) (tlr 17 [iI (n:Int),.int .u8 m0,.int .u8 m1] d 0 (tc 18 77 #[.agg #[iI (n:Int),.int .u8 m0,.int .u8 m1]] (CH (r:=true) (by exact decide_eq_true (he.2.1 (by omega)))) ?_)));rintro _ v10 ⟨rfl,B⟩;refine⟨_,rfl,?_⟩;replace f:=ai f B;replace c:=c.keep B;replace d:=d.keep B;refine t 19 (bF) (t 20 (bF) (t 21 (bF) (t 22 (bF) (t 23 (pq g 2) (tl 24 (iU b) c 2 ?_)))));by_cases o:(b:Int)=0
   ·exact tq 25 (.bool ((b:Int) != 0)) (bF) (congrArg Value.bool (bne_eq_false_iff_eq.2 o)) (t 26 (bF) (tn 27 (tn 28 (tn 29 (t 30 (bF) (t 31 (bF) (ae (aa (aG [(1,pg g),(2,.slice none 0 0),(3,iI 0),(4,pg l),(31,bF)] (aW (aK (bZ () ⟨f,c,d⟩ (by kernel_rfl)))))))))))))
   ·refine tq 25 (.bool ((b:Int) != 0)) (bT) (congrArg Value.bool (bne_iff_ne.2 o)) (t 26 (bT) (tlr 27 [iI (n:Int),.int .u8 m0,.int .u8 m1] d 0 (tc 28 78 #[.agg #[iI (n:Int),.int .u8 m0,.int .u8 m1]] (lS (r:=true) (by exact decide_eq_true (he.2.2 (by omega)))) ?_)));rintro _ N ⟨rfl,B⟩;refine⟨_,rfl,?_⟩;replace f:=ai f B;replace c:=c.keep B;replace d:=d.keep B;exact t 29 (bF) (t 30 (bF) (t 31 (bF) (ae (aa (aG [(1,pg g),(2,.slice none 0 0),(3,iI 0),(4,pg l),(31,bF)] (aW (aK (bZ () ⟨f,c,d⟩ (by kernel_rfl)))))))))
 clear c d f;rintro _ G ⟨f,c,d⟩;refine ab ?_
 replace f:=f.drew;replace c:=c.drew;replace d:=d.drew;refine bI (fun w'=>Blk w' l [iI (n:Int),.int .u8 m0,.int .u8 m1] 154/\Blk w' g [iI k,iU a,iU b] 90) (fun _=>false) ⟨d,c⟩ ?_
 refine zlr 0 32 [iI (n:Int),.int .u8 m0,.int .u8 m1] (fun _ h=>h.1) 0 (z 1 33 (pg g) (zl 2 34 (iI k) (fun _ h=>h.2) 0 (z 3 35 (pq g 1) (zl 4 36 (iU a) (fun _ h=>h.2) 1 (zc 5 37 80 #[iI k,iU a] (Af D.1 D.2) ?_)))));rintro _ s ⟨rfl,B⟩;replace f:=ai f B;replace c:=c.keep B;replace d:=d.keep B;refine⟨_,rfl,⟨d,c⟩,?_⟩;obtain⟨T,q⟩:∃ T,T=(s).heap.size:=⟨_,rfl⟩
 have m:w.heap.size<=T:=by rw[q];exact f.size
 refine zc 6 38 79 #[.agg #[iI (n:Int),.int .u8 m0,.int .u8 m1],iU (Ky.tn k a)] (Ky.oS (n:=n) (a:=Ky.tn k a) (by omega) O P) ?_
 rintro _ H ⟨u,rfl,U,B⟩;rw[<- q] at U;have L:=B.size;replace f:=ai f B;replace c:=c.keep B;replace d:=d.keep B
 have i:T<=_:=Nat.le_trans (Nat.le_of_eq q) L;refine⟨_,rfl,⟨d,c⟩,?_⟩;refine z 7 5 (u) (bB (aa (ab (ab (ag (tlr 39 [iI (n:Int),.int .u8 m0,.int .u8 m1] d 0 ?_))))));by_cases j:(16:Int) < n
 ·refine tc 40 78 #[.agg #[iI (n:Int),.int .u8 m0,.int .u8 m1]] (lS (r:=true) (decide_eq_true j)) ?_
  rintro _ K ⟨rfl,B⟩;refine⟨_,rfl,?_⟩;replace f:=ai f B;replace c:=c.keep B;replace d:=d.keep B;replace U:=U.keep B;replace i:=Nat.le_trans i B.size;refine ae (aa (aP (ag (t 41 (u) (t 42 (pq g 2) (tl 43 (iU b) c 2 ?_))))));clear c;clear d;refine tc 44 81 #[u,iU b] (Ky.cZ U i (Nat.le_trans (Ky.jV _ _) (by decide))) ?_
  rintro _ S ⟨u2,rfl,Q,M⟩;refine⟨_,rfl,?_⟩;replace f:=f.trans (M.mono m);clear U;refine t 5 (u2) (ae (aa (aG [(5,u2)] (ab (ag (t 45 (u2) (t 2 (u2) (t 3 (iI 0) (ae (aa (aF (aE (.tuple #[u2,iI 0]) (rs2 2 3 (by kernel_rfl) (by kernel_rfl) (by kernel_rfl)) ?_))))))))))));refine⟨_,rfl,?_,f⟩;rw[show Ky.mk k a b=_ by unfold Ky.mk;rw[hf,if_pos (show (16:Int) < (n:Int) from j)]];exact(Q).mono (fun b _ h=>Nat.le_trans m h)
 ·refine tc 40 78 #[.agg #[iI (n:Int),.int .u8 m0,.int .u8 m1]] (lS (r:=false) (decide_eq_false j)) ?_
  rintro _ J ⟨rfl,B⟩;refine⟨_,rfl,?_⟩;replace f:=ai f B;replace c:=c.keep B;replace d:=d.keep B;replace U:=U.keep B;replace i:=Nat.le_trans i B.size;refine ae (aa (aW (aK (aa (ab (ag (t 45 (u) (t 2 (u) (t 3 (iI 0) (ae (aa (aG [(2,u),(3,iI 0)] (aF (aE (.tuple #[u,iI 0]) (rs2 2 3 (by kernel_rfl) (by kernel_rfl) (by kernel_rfl)) ?_))))))))))))));refine⟨_,rfl,?_,f⟩;rw[show Ky.mk k a b=_ by unfold Ky.mk;rw[hf,if_neg (show ¬ (16:Int) < (n:Int) from j),List.append_nil]];exact(U).mono (fun b _ h=>Nat.le_trans m h)
theorem mk_g(g:0<=a/\a < 18446744073709551616)(c:Ky.mkE k a b=false):Calls Tryz.prog 32 #[.agg #[.int .i64 k,.int .u64 a,.int .u64 b]] w fun e w'=>∃ v,e=.returned (.tuple #[v,.int .i64 0])/\OB w' (w.heap.size <= ·) v (Ky.mk k a b)/\Below w.heap.size w w':=by
 obtain⟨n,m0,m1,hf,hn,d,f,i⟩:=Ky.kM k;unfold Ky.mkE at c;rw[hf] at c;simp at c;exact mk_n hf hn d f g ⟨by omega,fun h=>by omega,fun h=>by omega⟩
end
end Ks
end Go.Proofs.YtidnifmehnjipaaGreat
