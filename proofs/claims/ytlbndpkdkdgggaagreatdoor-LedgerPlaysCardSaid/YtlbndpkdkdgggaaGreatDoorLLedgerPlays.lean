/- gleanlaw24.LedgerPlays returns true for every input. (tools/gen_lgj.py) -/
import Derived.Test.YtlbndpkdkdgggaaGreatDoorJpd
set_option maxRecDepth 100000
set_option maxHeartbeats 8000000
namespace Go.Proofs.YtlbndpkdkdgggaaGreatDoor
namespace ledgerPlays
open Go.RowKit Go.Lib Lim Pg Gl Lg
theorem setm {fn:FuncId} {vs:Array Value} {w:World} {K:Nat->Prop} {S:St} {r s:Rat} {p q p' q':Int} {g:Nat} (h:Calls Tryz.prog fn vs w fun e w'=>∃ a n c b m d_ K',e=.returned (.tuple #[.agg #[.slice a n c,.slice b m d_],.int .i64 p,.int .i64 q])/\RQ w' a n c b m d_ r/\Rm w' g K' S/\(∀ b,K' b->K b\/w.heap.size<=b)/\Chg K w w'/\Lp w w') (e:r=s) (hp:p=p') (hq:q=q'):Calls Tryz.prog fn vs w fun e w'=>∃ a n c b m d_ K',e=.returned (.tuple #[.agg #[.slice a n c,.slice b m d_],.int .i64 p',.int .i64 q'])/\RQ w' a n c b m d_ s/\Rm w' g K' S/\(∀ b,K' b->K b\/w.heap.size<=b)/\Chg K w w'/\Lp w w':=by subst e hp hq; exact h
theorem light_any {w:World} {ao:Option Addr} {n c pb po:Nat} {s:Nat->E7} (SA:StpA w ao n pb po s):Calls Tryz.prog 10 #[.slice ao n c] w fun e w'=>∃ b:Bool,e=.returned (.bool b)/\(b=true->n<=40/\∀ i,i < n->(s i).dv.2.1<=4/\(s i).ev.2.1<=4)/\Below w.heap.size w w':=by
 have hfew:=SA.few
 have BB:=Below.refl w.heap.size w
 refine gc_enter (n:=35) Tryz.func10 rfl ?_
 refine gc_seq (gc_reg (t 2 (bF) (gl_nil (ge_then (gc_seq (gc_seq (gc_reg (t 3 (iI 0) (gl_nil (ge_then (gc_block (gc_loop (fun i=>n - i) (fun (i:Nat)=>[(0,.slice ao n c),(2,bF),(3,iI (i:Int))]) (fun i w'=>i<=n/\(∀ j,j < i->(s j).dv.2.1<=4/\(s j).ev.2.1<=4)/\Below w.heap.size w w') 0 ⟨Nat.zero_le _,fun j hj=>absurd hj (Nat.not_lt_zero _),BB⟩ (by kernel_rfl) ?_))))))))))))
 clear BB
 rintro i v1 ⟨hi,hx_i,BB⟩
 refine gc_seq (gc_seq (gc_reg (t 4 (iI (i:Int)) (t 5 (.slice ao n c) (t 6 (iI ((n:Nat):Int)) ?_)))))
 by_cases c2:(i:Int) < ((n:Nat):Int)
 ·have hk_i:i < n:=by omega
  refine tq 7 (.bool (decide ((i:Int) < ((n:Nat):Int)))) (bT) (congrArg Value.bool (decide_eq_true c2)) (t 8 (bT) (t 9 (iI (i:Int)) ?_))
  by_cases c3:(i:Int)<=40
  ·refine tq 10 (.bool (decide ((i:Int)<=40))) (bT) (congrArg Value.bool (decide_eq_true c3)) (t 11 (bT) (gl_nil (ge_then (gc_yes (gc_skip (ge_then (gc_seq (gc_block (gc_seq (gc_reg (t 14 (.slice ao n c) (t 15 (iI (i:Int)) ?_))))))))))))
   obtain ⟨xa,xv,xu,xn,xm,d1,d2,d3,e1,e2,e3,xx,xy,A,hd2,he2⟩:=SA.at hk_i
   have hfw:=A.few
   refine tr 16 (pq pb (po + i * 7)) (run_ixa 7 pb po n c i hk_i SA.ptr) (t 17 (pq pb (po + i * 7 + 5)) (t 18 (pq pb (po + i * 7 + 5)) (tr 19 (.slice d1 d2 d3) (A.ldd BB) (t 20 (iI ((d2:Nat):Int)) ?_))))
   by_cases c4:(4:Int) < ((d2:Nat):Int)
   ·refine tq 21 (.bool (decide ((4:Int) < ((d2:Nat):Int)))) (bT) (congrArg Value.bool (decide_eq_true c4)) (t 22 (bT) (tn 23 (tn 24 (tn 25 (tn 26 (tn 27 (tn 28 (tn 29 (tn 30 (t 31 (bT) (gl_nil (ge_then (gc_fr [(0,.slice ao n c),(2,bF),(3,iI (i:Int)),(4,iI (i:Int)),(5,.slice ao n c),(6,iI ((n:Nat):Int)),(7,bT),(8,bT),(9,iI (i:Int)),(10,bT),(11,bT),(14,.slice ao n c),(15,iI (i:Int)),(16,pq pb (po + i * 7)),(17,pq pb (po + i * 7 + 5)),(18,pq pb (po + i * 7 + 5)),(19,.slice d1 d2 d3),(20,iI ((d2:Nat):Int)),(21,bT),(22,bT),(23,undef),(24,undef),(25,undef),(26,undef),(27,undef),(28,undef),(29,undef),(30,undef),(31,bT)] (gc_yes (gc_seq (gc_reg (t 2 (bF) (gl_nil (ge_then (gc_ret (ge_br (ge_tr (ge_tr (ge_br (ge_tr (ge_ret (bF) (rs1 2 (by kernel_rfl) (by kernel_rfl)) ?_))))))))))))))))))))))))))
    exact ⟨false,rfl,fun h=>(by cases h),BB⟩
   ·refine tq 21 (.bool (decide ((4:Int) < ((d2:Nat):Int)))) (bF) (congrArg Value.bool (decide_eq_false c4)) (t 22 (bF) (t 23 (.slice ao n c) (t 24 (iI (i:Int)) (tr 25 (pq pb (po + i * 7)) (run_ixa 7 pb po n c i hk_i SA.ptr) (t 26 (pq pb (po + i * 7 + 6)) (t 27 (pq pb (po + i * 7 + 6)) (tr 28 (.slice e1 e2 e3) (A.lde BB) (t 29 (iI ((e2:Nat):Int)) ?_))))))))
    by_cases c5:(4:Int) < ((e2:Nat):Int)
    ·refine tq 30 (.bool (decide ((4:Int) < ((e2:Nat):Int)))) (bT) (congrArg Value.bool (decide_eq_true c5)) (t 31 (bT) (gl_nil (ge_then (gc_fr [(0,.slice ao n c),(2,bF),(3,iI (i:Int)),(4,iI (i:Int)),(5,.slice ao n c),(6,iI ((n:Nat):Int)),(7,bT),(8,bT),(9,iI (i:Int)),(10,bT),(11,bT),(14,.slice ao n c),(15,iI (i:Int)),(16,pq pb (po + i * 7)),(17,pq pb (po + i * 7 + 5)),(18,pq pb (po + i * 7 + 5)),(19,.slice d1 d2 d3),(20,iI ((d2:Nat):Int)),(21,bF),(22,bF),(23,.slice ao n c),(24,iI (i:Int)),(25,pq pb (po + i * 7)),(26,pq pb (po + i * 7 + 6)),(27,pq pb (po + i * 7 + 6)),(28,.slice e1 e2 e3),(29,iI ((e2:Nat):Int)),(30,bT),(31,bT)] (gc_yes (gc_seq (gc_reg (t 2 (bF) (gl_nil (ge_then (gc_ret (ge_br (ge_tr (ge_tr (ge_br (ge_tr (ge_ret (bF) (rs1 2 (by kernel_rfl) (by kernel_rfl)) ?_)))))))))))))))))
     exact ⟨false,rfl,fun h=>(by cases h),BB⟩
    ·exact tq 30 (.bool (decide ((4:Int) < ((e2:Nat):Int)))) (bF) (congrArg Value.bool (decide_eq_false c5)) (t 31 (bF) (gl_nil (ge_then (gc_fr [(0,.slice ao n c),(2,bF),(3,iI (i:Int)),(4,iI (i:Int)),(5,.slice ao n c),(6,iI ((n:Nat):Int)),(7,bT),(8,bT),(9,iI (i:Int)),(10,bT),(11,bT),(14,.slice ao n c),(15,iI (i:Int)),(16,pq pb (po + i * 7)),(17,pq pb (po + i * 7 + 5)),(18,pq pb (po + i * 7 + 5)),(19,.slice d1 d2 d3),(20,iI ((d2:Nat):Int)),(21,bF),(22,bF),(23,.slice ao n c),(24,iI (i:Int)),(25,pq pb (po + i * 7)),(26,pq pb (po + i * 7 + 6)),(27,pq pb (po + i * 7 + 6)),(28,.slice e1 e2 e3),(29,iI ((e2:Nat):Int)),(30,bF),(31,bF)] (gc_no (gc_skip (ge_bn (ge_then (gc_reg (t 12 (iI (i:Int)) (tq 13 (iI (IntKind.i64.wrap ((i:Int) + 1))) (iI ((i:Int) + 1)) (wi (by omega)) (t 3 (iI ((i:Int) + 1)) (gl_nil (ge_round (i + 1) (by omega) ⟨by omega,fun j hj=>(Nat.lt_or_ge j i).elim (hx_i j) (fun h=>(show i=j by omega)▸⟨by omega,by omega⟩),BB⟩ (by kernel_rfl)))))))))))))))
  ·refine tq 10 (.bool (decide ((i:Int)<=40))) (bF) (congrArg Value.bool (decide_eq_false c3)) (t 11 (bF) (gl_nil (ge_then (gc_no (gc_exit (ge_tx (ge_tx (ge_bx (ge_then (gc_seq (gc_reg (t 32 (.slice ao n c) (t 33 (iI ((n:Nat):Int)) ?_)))))))))))))
   by_cases c6:((n:Nat):Int)<=40
   ·refine tq 34 (.bool (decide (((n:Nat):Int)<=40))) (bT) (congrArg Value.bool (decide_eq_true c6)) (t 2 (bT) (gl_nil (ge_then (gc_fr [(2,bT)] (gc_ret (ge_ret (bT) (rs1 2 (by kernel_rfl) (by kernel_rfl)) ?_))))))
    exact ⟨true,rfl,fun _=>⟨by omega,fun j hj=>hx_i j (by omega)⟩,BB⟩
   ·refine tq 34 (.bool (decide (((n:Nat):Int)<=40))) (bF) (congrArg Value.bool (decide_eq_false c6)) (t 2 (bF) (gl_nil (ge_then (gc_fr [(2,bF)] (gc_ret (ge_ret (bF) (rs1 2 (by kernel_rfl) (by kernel_rfl)) ?_))))))
    exact ⟨false,rfl,fun h=>(by cases h),BB⟩
 ·skip
  refine tq 7 (.bool (decide ((i:Int) < ((n:Nat):Int)))) (bF) (congrArg Value.bool (decide_eq_false c2)) (t 8 (bF) (tn 9 (tn 10 (t 11 (bF) (gl_nil (ge_then (gc_no (gc_exit (ge_tx (ge_tx (ge_bx (ge_then (gc_seq (gc_reg (t 32 (.slice ao n c) (t 33 (iI ((n:Nat):Int)) ?_))))))))))))))))
  by_cases c7:((n:Nat):Int)<=40
  ·refine tq 34 (.bool (decide (((n:Nat):Int)<=40))) (bT) (congrArg Value.bool (decide_eq_true c7)) (t 2 (bT) (gl_nil (ge_then (gc_fr [(2,bT)] (gc_ret (ge_ret (bT) (rs1 2 (by kernel_rfl) (by kernel_rfl)) ?_))))))
   exact ⟨true,rfl,fun _=>⟨by omega,fun j hj=>hx_i j (by omega)⟩,BB⟩
  ·refine tq 34 (.bool (decide (((n:Nat):Int)<=40))) (bF) (congrArg Value.bool (decide_eq_false c7)) (t 2 (bF) (gl_nil (ge_then (gc_fr [(2,bF)] (gc_ret (ge_ret (bF) (rs1 2 (by kernel_rfl) (by kernel_rfl)) ?_))))))
   exact ⟨false,rfl,fun h=>(by cases h),BB⟩
theorem plays_any {w:World} {ao:Option Addr} {n c pb po:Nat} {s:Nat->E7} (SA:StpA w ao n pb po s):Calls Tryz.prog 3 #[.slice ao n c] w fun e w'=>e=.returned (.bool true)/\Below w.heap.size w w':=by
 have hfew:=SA.few
 have BB:=Below.refl w.heap.size w
 refine gc_enter (n:=201) Tryz.func3 rfl ?_
 refine gc_seq (gc_reg (t 2 (bF) (gl_nil (ge_then (gc_seq (gc_seq (gc_reg (tc 13 9 #[] (known24) ?_))))))))
 rintro _ v1 ⟨rfl,B⟩
 refine ⟨_,rfl,?_⟩
 replace BB:=joinB BB B
 refine t 14 (bF) (gl_nil (ge_then (gc_no (gc_skip (ge_then (gc_seq (gc_seq (gc_reg (t 15 (.slice ao n c) (tc 16 10 #[.slice ao n c] (light_any (SA.keep BB)) ?_))))))))))
 rintro _ v2 ⟨lb,rfl,hlb,B⟩
 refine ⟨_,rfl,?_⟩
 replace BB:=joinB BB B
 cases lb
 ·skip
  refine t 17 (bT) (gl_nil (ge_then (gc_yes (gc_seq (gc_reg (t 2 (bT) (gl_nil (ge_then (gc_ret (ge_tr (ge_ret (bT) (rs1 2 (by kernel_rfl) (by kernel_rfl)) ?_)))))))))))
  exact ⟨rfl,BB⟩
 ·obtain ⟨hn,h4⟩:=hlb rfl
  refine t 17 (bF) (gl_nil (ge_then (gc_no (gc_skip (ge_then (gc_seq (gc_reg ?_)))))))
  have hsz:=BB.size
  refine tc 18 11 #[] (lNew) ?_
  rintro _ v4 ⟨gL3,KL3,rfl,ML3,hlo_KL3,B⟩
  refine ⟨_,rfl,?_⟩
  replace BB:=joinB BB B
  replace hlo_KL3:∀ b,KL3 b->w.heap.size<=b:=fun b h=>Nat.le_trans hsz (hlo_KL3 b h)
  clear hsz
  refine t 19 (.agg #[zS]) (ta 20 [zS] 30 (pg) ?_)
  intro v5 g6 Xg6 hg6 B
  have hkg6_KL3:¬ KL3 g6:=fun h=>absurd (ML3.lt h) (Nat.not_lt.2 hg6)
  have hbg6:=Nat.le_trans BB.size hg6
  replace BB:=joinB BB B
  replace ML3:=ML3.keep B
  refine t 3 (pg gL3) (t 4 (pg g6) (gl_nil (ge_then (gc_fr [(0,.slice ao n c),(2,bF),(3,pg gL3),(4,pg g6)] (gc_seq (gc_seq (gc_reg (t 5 (iI 0) (gl_nil (ge_then (gc_block (gc_loop (fun i=>n - i) (fun (i:Nat)=>[(0,.slice ao n c),(2,bF),(3,pg gL3),(4,pg g6),(5,iI (i:Int))]) (fun i w'=>i<=n/\Below w.heap.size w w'/\∃ S K J,Lm w' gL3 K S/\Rm w' g6 J S/\(∀ b,K b->w.heap.size<=b)/\(∀ b,J b->w.heap.size<=b)/\(∀ b,K b->¬ J b)/\Gj S i) 0 ⟨Nat.zero_le _,BB,[],KL3,(fun q=>q=g6),ML3,Rm.new Xg6,hlo_KL3,(fun b h=>h▸hbg6),(fun b h k=>hkg6_KL3 (k▸h)),Gj.nil⟩ (by kernel_rfl) ?_))))))))))))
  clear BB ML3 Xg6
  rintro i v7 ⟨hi,BB,S,K9,J9,M9,R9,hlo_K9,hlo_J9,hd_K9_J9,G⟩
  have hd_J9_K9:∀ b,J9 b->¬ K9 b:=fun b h k=>hd_K9_J9 b k h
  refine gc_seq (gc_seq (gc_reg (t 21 (iI (i:Int)) (t 22 (.slice ao n c) (t 23 (iI ((n:Nat):Int)) ?_)))))
  by_cases c8:(i:Int) < ((n:Nat):Int)
  ·have hk_i:i < n:=by omega
   refine tq 24 (.bool (decide ((i:Int) < ((n:Nat):Int)))) (bT) (congrArg Value.bool (decide_eq_true c8)) (gl_nil (ge_then (gc_yes (gc_skip (ge_then (gc_seq (gc_block (gc_seq (gc_reg (t 27 (.slice ao n c) (t 28 (iI (i:Int)) ?_)))))))))))
   obtain ⟨xa,xv,xu,xn,xm,d1,d2,d3,e1,e2,e3,xx,xy,A,hd2,he2⟩:=SA.at hk_i
   have hfw:=A.few
   have q4:=h4 i hk_i
   rw [<- hd2,<- he2] at q4
   clear hd2 he2
   have Nx:=A.dx
   have Ny:=A.ey
   have hx:0<=xx/\xx < 2 ^ (64 * 4):=⟨Nx.nonneg,nat_lt Nx (by omega)⟩
   have hy:0<=xy/\xy < 2 ^ (64 * 4):=⟨Ny.nonneg,nat_lt Ny (by omega)⟩
   refine tr 29 (pq pb (po + i * 7)) (run_ixa 7 pb po n c i hk_i SA.ptr) (tr 30 (.agg #[iI xa,iU xv,iU xu,iU xn,iU xm,.slice d1 d2 d3,.slice e1 e2 e3]) (A.load BB) (ta 6 [iI 0,iU 0,iU 0,iU 0,iU 0,zS,zS] 37 (pg) ?_))
   intro v9 g10 Xg10 hg10 B
   have hkg10_K9:¬ K9 g10:=fun h=>absurd (M9.lt h) (Nat.not_lt.2 hg10)
   have hkg10_J9:¬ J9 g10:=fun h=>absurd (R9.lt h) (Nat.not_lt.2 hg10)
   have hbg10:=Nat.le_trans BB.size hg10
   replace BB:=joinB BB B
   replace M9:=M9.keep B
   replace R9:=R9.keep B
   refine ts Xg10 0 (.agg #[iI xa,iU xv,iU xu,iU xn,iU xm,.slice d1 d2 d3,.slice e1 e2 e3]) [iI xa,iU xv,iU xu,iU xn,iU xm,.slice d1 d2 d3,.slice e1 e2 e3] [iI xa,iU xv,iU xu,iU xn,iU xm,.slice d1 d2 d3,.slice e1 e2 e3] ?_
   intro v11 Y C
   replace BB:=belowC BB C (by omega)
   replace M9:=M9.off C (Lp.z0 Xg10 C (by rfl)) (fun b h e=>hkg10_K9 (e▸h))
   replace R9:=R9.off C (Lp.z0 Xg10 C (by rfl)) (fun b h e=>hkg10_J9 (e▸h))
   have Xg10:=Y
   refine gl_nil (ge_then ?_)
   refine gc_join (fun (_:Unit)=>[(0,.slice ao n c),(2,bF),(3,pg gL3),(4,pg g6),(5,iI (i:Int)),(6,pg g10)]) (fun _ w'=>Below w.heap.size w w'/\Blk w' g10 [iI xa,iU xv,iU xu,iU xn,iU xm,.slice d1 d2 d3,.slice e1 e2 e3] 37/\∃ S K J,Lm w' gL3 K S/\Rm w' g6 J S/\(∀ b,K b->w.heap.size<=b)/\(∀ b,J b->w.heap.size<=b)/\(∀ b,K b->¬ J b)/\Gj S (i + 1)) ?_ ?_
   ·refine gc_seq (gc_reg (t 31 (pg g10) (tl 32 (iI xa) Xg10 0 (gl_nil (ge_then (gc_block (gc_seq (gc_seq (gc_reg ?_)))))))))
    by_cases c12:(xa:Int)=0
    ·refine tq 34 (.bool ((xa:Int) == 0)) (bT) (congrArg Value.bool (beq_iff_eq.2 c12)) (t 33 (bT) (gl_nil (ge_then (gc_fr [(0,.slice ao n c),(2,bF),(3,pg gL3),(4,pg g6),(5,iI (i:Int)),(6,pg g10),(21,iI (i:Int)),(22,.slice ao n c),(23,iI ((n:Nat):Int)),(24,bT),(27,.slice ao n c),(28,iI (i:Int)),(29,pq pb (po + i * 7)),(30,.agg #[iI xa,iU xv,iU xu,iU xn,iU xm,.slice d1 d2 d3,.slice e1 e2 e3]),(31,pg g10),(32,iI xa),(33,bT),(34,bT)] (gc_yes (gc_skip (ge_then (gc_yes (gc_seq (gc_reg (t 36 (pg gL3) (t 37 (pq g10 1) (tl 38 (iU xv) Xg10 1 (t 39 (pq g10 5) (tlr 40 [.slice d1 d2 d3] Xg10 5 (t 41 (pq g10 3) (tl 42 (iU xn) Xg10 3 (tc 43 12 #[pg gL3,iU xv,.agg #[.slice d1 d2 d3],iU xn] (lGive A.rv (Nx.keep BB) (by omega) A.rn M9 (G.fs (by omega)) (by decide) (G.bd (by omega))) ?_))))))))))))))))))
     rintro _ v15 ⟨K13,rfl,M14,hK,C,P⟩
     refine ⟨_,rfl,?_⟩
     have hlo_K13:∀ b,K13 b->w.heap.size<=b:=fun b h=>(hK b h).elim (hlo_K9 b) (fun h=>Nat.le_trans BB.size h)
     have hd_K13_J9:∀ b,K13 b->¬ J9 b:=fun b h k=>(hK b h).elim (fun h=>hd_K9_J9 b h k) (fun h=>absurd (R9.lt k) (Nat.not_lt.2 h))
     have hd_J9_K13:∀ b,J9 b->¬ K13 b:=fun b h k=>hd_K13_J9 b k h
     have hkg10_K13:¬ K13 g10:=fun h=>(hK _ h).elim hkg10_K9 (fun h=>absurd Xg10.lt (Nat.not_lt.2 h))
     replace BB:=belowK BB C hlo_K9
     replace R9:=R9.off C P hd_J9_K9
     replace Xg10:=Xg10.chg C hkg10_K9
     clear hlo_K9 hkg10_K9 hd_K9_J9 hd_J9_K9 M9 hK C P
     skip
     refine gl_nil (ge_then (gc_reg (t 44 (pg g6) (t 45 (pq g10 1) (tl 46 (iU xv) Xg10 1 (t 47 (pq g10 5) (tlr 48 [.slice d1 d2 d3] Xg10 5 (t 49 (pq g10 3) (tl 50 (iU xn) Xg10 3 (tc 51 13 #[pg g6,iU xv,.agg #[.slice d1 d2 d3],iU xn] (mGive A.rv (fun _ C=>Nx.keep (belowK BB C hlo_J9)) (by omega) A.rn R9 (G.fs (by omega)) (by decide) (G.bd (by omega))) ?_))))))))))
     rintro _ v18 ⟨K16,v0K16,rfl,M17,hK,C,P⟩
     refine ⟨_,rfl,?_⟩
     have hlo_K16:∀ b,K16 b->w.heap.size<=b:=fun b h=>(hK b h).elim (hlo_J9 b) (fun h=>Nat.le_trans BB.size h)
     have hkg10_K16:¬ K16 g10:=fun h=>(hK _ h).elim hkg10_J9 (fun h=>absurd Xg10.lt (Nat.not_lt.2 h))
     have hd_K16_K13:∀ b,K16 b->¬ K13 b:=fun b h k=>(hK b h).elim (fun h=>hd_J9_K13 b h k) (fun h=>absurd (M14.lt k) (Nat.not_lt.2 h))
     have hd_K13_K16:∀ b,K13 b->¬ K16 b:=fun b h k=>hd_K16_K13 b k h
     replace BB:=belowK BB C hlo_J9
     replace Xg10:=Xg10.chg C hkg10_J9
     replace M14:=M14.off C P hd_K13_J9
     clear hlo_J9 hkg10_J9 hd_J9_K13 hd_K13_J9 R9 hK C P
     skip
     exact gl_nil (ge_bn (ge_join () ⟨BB,Xg10,(sGive S xv xx xn),K13,K16,M14,M17,hlo_K13,hlo_K16,hd_K13_K16,G.give (by omega) hx A.rn⟩ (by kernel_rfl)))
    ·refine tq 34 (.bool ((xa:Int) == 0)) (bF) (congrArg Value.bool (beq_eq_false_iff_ne.2 c12)) (t 33 (bF) (gl_nil (ge_then (gc_fr [(0,.slice ao n c),(2,bF),(3,pg gL3),(4,pg g6),(5,iI (i:Int)),(6,pg g10),(21,iI (i:Int)),(22,.slice ao n c),(23,iI ((n:Nat):Int)),(24,bT),(27,.slice ao n c),(28,iI (i:Int)),(29,pq pb (po + i * 7)),(30,.agg #[iI xa,iU xv,iU xu,iU xn,iU xm,.slice d1 d2 d3,.slice e1 e2 e3]),(31,pg g10),(32,iI xa),(33,bF),(34,bF)] (gc_no (gc_reg ?_))))))
     by_cases c19:(xa:Int)=1
     ·refine tq 35 (.bool ((xa:Int) == 1)) (bT) (congrArg Value.bool (beq_iff_eq.2 c19)) (t 33 (bT) (gl_nil (ge_then (gc_yes (gc_seq (gc_reg (t 36 (pg gL3) (t 37 (pq g10 1) (tl 38 (iU xv) Xg10 1 (t 39 (pq g10 5) (tlr 40 [.slice d1 d2 d3] Xg10 5 (t 41 (pq g10 3) (tl 42 (iU xn) Xg10 3 (tc 43 12 #[pg gL3,iU xv,.agg #[.slice d1 d2 d3],iU xn] (lGive A.rv (Nx.keep BB) (by omega) A.rn M9 (G.fs (by omega)) (by decide) (G.bd (by omega))) ?_))))))))))))))
      rintro _ v22 ⟨K20,rfl,M21,hK,C,P⟩
      refine ⟨_,rfl,?_⟩
      have hlo_K20:∀ b,K20 b->w.heap.size<=b:=fun b h=>(hK b h).elim (hlo_K9 b) (fun h=>Nat.le_trans BB.size h)
      have hd_K20_J9:∀ b,K20 b->¬ J9 b:=fun b h k=>(hK b h).elim (fun h=>hd_K9_J9 b h k) (fun h=>absurd (R9.lt k) (Nat.not_lt.2 h))
      have hd_J9_K20:∀ b,J9 b->¬ K20 b:=fun b h k=>hd_K20_J9 b k h
      have hkg10_K20:¬ K20 g10:=fun h=>(hK _ h).elim hkg10_K9 (fun h=>absurd Xg10.lt (Nat.not_lt.2 h))
      replace BB:=belowK BB C hlo_K9
      replace R9:=R9.off C P hd_J9_K9
      replace Xg10:=Xg10.chg C hkg10_K9
      clear hlo_K9 hkg10_K9 hd_K9_J9 hd_J9_K9 M9 hK C P
      skip
      refine gl_nil (ge_then (gc_reg (t 44 (pg g6) (t 45 (pq g10 1) (tl 46 (iU xv) Xg10 1 (t 47 (pq g10 5) (tlr 48 [.slice d1 d2 d3] Xg10 5 (t 49 (pq g10 3) (tl 50 (iU xn) Xg10 3 (tc 51 13 #[pg g6,iU xv,.agg #[.slice d1 d2 d3],iU xn] (mGive A.rv (fun _ C=>Nx.keep (belowK BB C hlo_J9)) (by omega) A.rn R9 (G.fs (by omega)) (by decide) (G.bd (by omega))) ?_))))))))))
      rintro _ v25 ⟨K23,v0K23,rfl,M24,hK,C,P⟩
      refine ⟨_,rfl,?_⟩
      have hlo_K23:∀ b,K23 b->w.heap.size<=b:=fun b h=>(hK b h).elim (hlo_J9 b) (fun h=>Nat.le_trans BB.size h)
      have hkg10_K23:¬ K23 g10:=fun h=>(hK _ h).elim hkg10_J9 (fun h=>absurd Xg10.lt (Nat.not_lt.2 h))
      have hd_K23_K20:∀ b,K23 b->¬ K20 b:=fun b h k=>(hK b h).elim (fun h=>hd_J9_K20 b h k) (fun h=>absurd (M21.lt k) (Nat.not_lt.2 h))
      have hd_K20_K23:∀ b,K20 b->¬ K23 b:=fun b h k=>hd_K23_K20 b k h
      replace BB:=belowK BB C hlo_J9
      replace Xg10:=Xg10.chg C hkg10_J9
      replace M21:=M21.off C P hd_K20_J9
      clear hlo_J9 hkg10_J9 hd_J9_K20 hd_K20_J9 R9 hK C P
      skip
      exact gl_nil (ge_bn (ge_join () ⟨BB,Xg10,(sGive S xv xx xn),K20,K23,M21,M24,hlo_K20,hlo_K23,hd_K20_K23,G.give (by omega) hx A.rn⟩ (by kernel_rfl)))
     ·refine tq 35 (.bool ((xa:Int) == 1)) (bF) (congrArg Value.bool (beq_eq_false_iff_ne.2 c19)) (t 33 (bF) (gl_nil (ge_then (gc_no (gc_seq (gc_reg ?_))))))
      by_cases c26:(xa:Int)=2
      ·refine tq 53 (.bool ((xa:Int) == 2)) (bT) (congrArg Value.bool (beq_iff_eq.2 c26)) (t 52 (bT) (gl_nil (ge_then (gc_yes (gc_seq (gc_reg (t 55 (pg gL3) (t 56 (pq g10 1) (tl 57 (iU xv) Xg10 1 (t 58 (pq g10 2) (tl 59 (iU xu) Xg10 2 ?_)))))))))))
       obtain ⟨rT,hrT⟩:∃ r,(sTold (sTick S xv) xv xu).1=r:=⟨_,rfl⟩
       obtain ⟨pT,hpT⟩:∃ r,(sTold (sTick S xv) xv xu).2.1=r:=⟨_,rfl⟩
       obtain ⟨kT,hkT⟩:∃ r,(sTold (sTick S xv) xv xu).2.2=r:=⟨_,rfl⟩
       have fT:Ft rT (64 * 200000):=hrT▸(Gj.tick (v:=xv) G).told (v:=xv) (d:=xu) (by omega)
       refine tc 60 14 #[pg gL3,iU xv,iU xu] (setl (lSettle A.rv A.ru M9 (G.fs (by omega)) (by decide) (G.bd (by omega))) hrT hpT hkT) ?_
       rintro _ v30 ⟨aq29,kq29,dq29,bq29,lq29,eq29,K27,rfl,Qq29,M28,hK,C,P⟩
       refine ⟨_,rfl,?_⟩
       have hlo_K27:∀ b,K27 b->w.heap.size<=b:=fun b h=>(hK b h).elim (hlo_K9 b) (fun h=>Nat.le_trans BB.size h)
       have hd_K27_J9:∀ b,K27 b->¬ J9 b:=fun b h k=>(hK b h).elim (fun h=>hd_K9_J9 b h k) (fun h=>absurd (R9.lt k) (Nat.not_lt.2 h))
       have hd_J9_K27:∀ b,J9 b->¬ K27 b:=fun b h k=>hd_K27_J9 b k h
       have hkg10_K27:¬ K27 g10:=fun h=>(hK _ h).elim hkg10_K9 (fun h=>absurd Xg10.lt (Nat.not_lt.2 h))
       replace BB:=belowK BB C hlo_K9
       replace R9:=R9.off C P hd_J9_K9
       replace Xg10:=Xg10.chg C hkg10_K9
       clear hlo_K9 hkg10_K9 hd_K9_J9 hd_J9_K9 M9 hK C P
       skip
       refine t 54 (.tuple #[.agg #[.slice aq29 kq29 dq29,.slice bq29 lq29 eq29],iI pT,iI kT]) (t 61 (.agg #[.slice aq29 kq29 dq29,.slice bq29 lq29 eq29]) (t 62 (iI pT) (t 63 (iI kT) ?_)))
       have lXg10:=Xg10.lt
       refine ta 7 [zS,zS] 40 (pg) ?_
       intro v31 g32 Xg32 hg32 B
       have hkg32_J9:¬ J9 g32:=fun h=>absurd (R9.lt h) (Nat.not_lt.2 hg32)
       have hkg32_K27:¬ K27 g32:=fun h=>absurd (M28.lt h) (Nat.not_lt.2 hg32)
       have hbg32:=Nat.le_trans BB.size hg32
       replace BB:=joinB BB B
       replace R9:=R9.keep B
       replace Xg10:=Xg10.keep B
       replace M28:=M28.keep B
       replace Qq29:=Qq29.keep B
       refine ts Xg32 0 (.agg #[.slice aq29 kq29 dq29,.slice bq29 lq29 eq29]) [.slice aq29 kq29 dq29,.slice bq29 lq29 eq29] [.slice aq29 kq29 dq29,.slice bq29 lq29 eq29] ?_
       intro v33 Y C
       replace BB:=belowC BB C (by omega)
       replace R9:=R9.off C (Lp.cg Xg32 C (by rfl)) (fun b h e=>hkg32_J9 (e▸h))
       replace Xg10:=Xg10.chg C (show g10≠g32 by omega)
       replace M28:=M28.off C (Lp.cg Xg32 C (by rfl)) (fun b h e=>hkg32_K27 (e▸h))
       replace Qq29:=Qq29.cg Xg32 C (by rfl)
       have Xg32:=Y
       refine t 8 (iI pT) (t 9 (iI kT) (gl_nil (ge_then (gc_fr [(0,.slice ao n c),(2,bF),(3,pg gL3),(4,pg g6),(5,iI (i:Int)),(6,pg g10),(7,pg g32),(8,iI pT),(9,iI kT),(21,iI (i:Int)),(22,.slice ao n c),(23,iI ((n:Nat):Int)),(24,bT),(27,.slice ao n c),(28,iI (i:Int)),(29,pq pb (po + i * 7)),(30,.agg #[iI xa,iU xv,iU xu,iU xn,iU xm,.slice d1 d2 d3,.slice e1 e2 e3]),(31,pg g10),(32,iI xa),(33,bF),(34,bF),(35,bF),(52,bT),(53,bT),(54,.tuple #[.agg #[.slice aq29 kq29 dq29,.slice bq29 lq29 eq29],iI pT,iI kT]),(55,pg gL3),(56,pq g10 1),(57,iU xv),(58,pq g10 2),(59,iU xu),(60,.tuple #[.agg #[.slice aq29 kq29 dq29,.slice bq29 lq29 eq29],iI pT,iI kT]),(61,.agg #[.slice aq29 kq29 dq29,.slice bq29 lq29 eq29]),(62,iI pT),(63,iI kT)] (gc_seq (gc_reg (t 65 (pg g6) (t 66 (pq g10 1) (tl 67 (iU xv) Xg10 1 (t 68 (pq g10 2) (tl 69 (iU xu) Xg10 2 (tc 70 15 #[pg g6,iU xv,iU xu] (setm (mSettle A.rv A.ru R9 (G.fs (by omega)) (by decide) (G.bd (by omega)) (G.hp (by omega))) hrT hpT hkT) ?_))))))))))))
       rintro _ v37 ⟨aq36,kq36,dq36,bq36,lq36,eq36,K34,rfl,Qq36,M35,hK,C,P⟩
       refine ⟨_,rfl,?_⟩
       have hlo_K34:∀ b,K34 b->w.heap.size<=b:=fun b h=>(hK b h).elim (hlo_J9 b) (fun h=>Nat.le_trans BB.size h)
       have hkg10_K34:¬ K34 g10:=fun h=>(hK _ h).elim hkg10_J9 (fun h=>absurd Xg10.lt (Nat.not_lt.2 h))
       have hd_K34_K27:∀ b,K34 b->¬ K27 b:=fun b h k=>(hK b h).elim (fun h=>hd_J9_K27 b h k) (fun h=>absurd (M28.lt k) (Nat.not_lt.2 h))
       have hd_K27_K34:∀ b,K27 b->¬ K34 b:=fun b h k=>hd_K34_K27 b k h
       have hkg32_K34:¬ K34 g32:=fun h=>(hK _ h).elim hkg32_J9 (fun h=>absurd Xg32.lt (Nat.not_lt.2 h))
       replace BB:=belowK BB C hlo_J9
       replace Xg10:=Xg10.chg C hkg10_J9
       replace M28:=M28.off C P hd_K27_J9
       replace Qq29:=Qq29.lp P
       replace Xg32:=Xg32.chg C hkg32_J9
       clear hlo_J9 hkg10_J9 hkg32_J9 hd_J9_K27 hd_K27_J9 R9 hK C P
       skip
       refine t 64 (.tuple #[.agg #[.slice aq36 kq36 dq36,.slice bq36 lq36 eq36],iI pT,iI kT]) (t 71 (.agg #[.slice aq36 kq36 dq36,.slice bq36 lq36 eq36]) (t 72 (iI pT) (t 73 (iI kT) ?_)))
       have lXg10:=Xg10.lt
       have lXg32:=Xg32.lt
       refine ta 10 [zS,zS] 40 (pg) ?_
       intro v38 g39 Xg39 hg39 B
       have hkg39_K27:¬ K27 g39:=fun h=>absurd (M28.lt h) (Nat.not_lt.2 hg39)
       have hkg39_K34:¬ K34 g39:=fun h=>absurd (M35.lt h) (Nat.not_lt.2 hg39)
       have hbg39:=Nat.le_trans BB.size hg39
       replace BB:=joinB BB B
       replace Xg10:=Xg10.keep B
       replace M28:=M28.keep B
       replace Qq29:=Qq29.keep B
       replace Xg32:=Xg32.keep B
       replace M35:=M35.keep B
       replace Qq36:=Qq36.keep B
       refine ts Xg39 0 (.agg #[.slice aq36 kq36 dq36,.slice bq36 lq36 eq36]) [.slice aq36 kq36 dq36,.slice bq36 lq36 eq36] [.slice aq36 kq36 dq36,.slice bq36 lq36 eq36] ?_
       intro v40 Y C
       replace BB:=belowC BB C (by omega)
       replace Xg10:=Xg10.chg C (show g10≠g39 by omega)
       replace M28:=M28.off C (Lp.cg Xg39 C (by rfl)) (fun b h e=>hkg39_K27 (e▸h))
       replace Qq29:=Qq29.cg Xg39 C (by rfl)
       replace Xg32:=Xg32.chg C (show g32≠g39 by omega)
       replace M35:=M35.off C (Lp.cg Xg39 C (by rfl)) (fun b h e=>hkg39_K34 (e▸h))
       replace Qq36:=Qq36.cg Xg39 C (by rfl)
       have Xg39:=Y
       refine t 11 (iI pT) (t 12 (iI kT) (gl_nil (ge_then (gc_fr [(0,.slice ao n c),(2,bF),(3,pg gL3),(4,pg g6),(5,iI (i:Int)),(6,pg g10),(7,pg g32),(8,iI pT),(9,iI kT),(10,pg g39),(11,iI pT),(12,iI kT),(21,iI (i:Int)),(22,.slice ao n c),(23,iI ((n:Nat):Int)),(24,bT),(27,.slice ao n c),(28,iI (i:Int)),(29,pq pb (po + i * 7)),(30,.agg #[iI xa,iU xv,iU xu,iU xn,iU xm,.slice d1 d2 d3,.slice e1 e2 e3]),(31,pg g10),(32,iI xa),(33,bF),(34,bF),(35,bF),(52,bT),(53,bT),(54,.tuple #[.agg #[.slice aq29 kq29 dq29,.slice bq29 lq29 eq29],iI pT,iI kT]),(55,pg gL3),(56,pq g10 1),(57,iU xv),(58,pq g10 2),(59,iU xu),(60,.tuple #[.agg #[.slice aq29 kq29 dq29,.slice bq29 lq29 eq29],iI pT,iI kT]),(61,.agg #[.slice aq29 kq29 dq29,.slice bq29 lq29 eq29]),(62,iI pT),(63,iI kT),(64,.tuple #[.agg #[.slice aq36 kq36 dq36,.slice bq36 lq36 eq36],iI pT,iI kT]),(65,pg g6),(66,pq g10 1),(67,iU xv),(68,pq g10 2),(69,iU xu),(70,.tuple #[.agg #[.slice aq36 kq36 dq36,.slice bq36 lq36 eq36],iI pT,iI kT]),(71,.agg #[.slice aq36 kq36 dq36,.slice bq36 lq36 eq36]),(72,iI pT),(73,iI kT)] (gc_seq (gc_reg (tlr 74 [.slice aq29 kq29 dq29,.slice bq29 lq29 eq29] Xg32 0 (tlr 75 [.slice aq36 kq36 dq36,.slice bq36 lq36 eq36] Xg39 0 (tc 76 16 #[.agg #[.slice aq29 kq29 dq29,.slice bq29 lq29 eq29],.agg #[.slice aq36 kq36 dq36,.slice bq36 lq36 eq36]] (pSameL (B:=200000) Qq29 Qq36 fT fT (by decide) (t:=true) (decide_eq_true (rfl))) ?_)))))))))
       rintro _ v41 ⟨rfl,B⟩
       refine ⟨_,rfl,?_⟩
       replace BB:=joinB BB B
       replace Xg10:=Xg10.keep B
       replace M28:=M28.keep B
       replace Qq29:=Qq29.keep B
       replace Xg32:=Xg32.keep B
       replace M35:=M35.keep B
       replace Qq36:=Qq36.keep B
       replace Xg39:=Xg39.keep B
       refine t 77 (bF) (t 78 (bF) (t 79 (iI pT) (t 80 (iI pT) (tq 81 (.bool ((pT:Int) != pT)) (bF) (congrArg Value.bool (bne_self_eq_false _)) (t 82 (bF) (t 83 (bF) (t 84 (iI kT) (t 85 (iI kT) (tq 86 (.bool ((kT:Int) != kT)) (bF) (congrArg Value.bool (bne_self_eq_false _)) (t 87 (bF) (gl_nil (ge_then (gc_fr [(0,.slice ao n c),(2,bF),(3,pg gL3),(4,pg g6),(5,iI (i:Int)),(6,pg g10),(7,pg g32),(8,iI pT),(9,iI kT),(10,pg g39),(11,iI pT),(12,iI kT),(21,iI (i:Int)),(22,.slice ao n c),(23,iI ((n:Nat):Int)),(24,bT),(27,.slice ao n c),(28,iI (i:Int)),(29,pq pb (po + i * 7)),(30,.agg #[iI xa,iU xv,iU xu,iU xn,iU xm,.slice d1 d2 d3,.slice e1 e2 e3]),(31,pg g10),(32,iI xa),(33,bF),(34,bF),(35,bF),(52,bT),(53,bT),(54,.tuple #[.agg #[.slice aq29 kq29 dq29,.slice bq29 lq29 eq29],iI pT,iI kT]),(55,pg gL3),(56,pq g10 1),(57,iU xv),(58,pq g10 2),(59,iU xu),(60,.tuple #[.agg #[.slice aq29 kq29 dq29,.slice bq29 lq29 eq29],iI pT,iI kT]),(61,.agg #[.slice aq29 kq29 dq29,.slice bq29 lq29 eq29]),(62,iI pT),(63,iI kT),(64,.tuple #[.agg #[.slice aq36 kq36 dq36,.slice bq36 lq36 eq36],iI pT,iI kT]),(65,pg g6),(66,pq g10 1),(67,iU xv),(68,pq g10 2),(69,iU xu),(70,.tuple #[.agg #[.slice aq36 kq36 dq36,.slice bq36 lq36 eq36],iI pT,iI kT]),(71,.agg #[.slice aq36 kq36 dq36,.slice bq36 lq36 eq36]),(72,iI pT),(73,iI kT),(74,.agg #[.slice aq29 kq29 dq29,.slice bq29 lq29 eq29]),(75,.agg #[.slice aq36 kq36 dq36,.slice bq36 lq36 eq36]),(76,bT),(77,bF),(78,bF),(79,iI pT),(80,iI pT),(81,bF),(82,bF),(83,bF),(84,iI kT),(85,iI kT),(86,bF),(87,bF)] ?_)))))))))))))
       exact gc_no (gc_skip (ge_bn (ge_join () ⟨BB,Xg10,(sClear (sTick S xv) xv xu),K27,K34,M28,M35,hlo_K27,hlo_K34,hd_K27_K34,(Gj.tick G).clear⟩ (by kernel_rfl))))
      ·refine tq 53 (.bool ((xa:Int) == 2)) (bF) (congrArg Value.bool (beq_eq_false_iff_ne.2 c26)) (t 52 (bF) (gl_nil (ge_then (gc_no (gc_seq (gc_seq (gc_reg ?_)))))))
       by_cases c42:(xa:Int)=3
       ·refine tq 89 (.bool ((xa:Int) == 3)) (bT) (congrArg Value.bool (beq_iff_eq.2 c42)) (t 88 (bT) (gl_nil (ge_then (gc_yes (gc_skip (ge_then (gc_yes (gc_seq (gc_reg (t 91 (pg gL3) (t 92 (pq g10 1) (tl 93 (iU xv) Xg10 1 (t 94 (pq g10 2) (tl 95 (iU xu) Xg10 2 (t 96 (pq g10 5) (tlr 97 [.slice d1 d2 d3] Xg10 5 (t 98 (pq g10 6) (tlr 99 [.slice e1 e2 e3] Xg10 6 (t 100 (pq g10 3) (tl 101 (iU xn) Xg10 3 (tc 102 17 #[pg gL3,iU xv,iU xu,.agg #[.slice d1 d2 d3],.agg #[.slice e1 e2 e3],iU xn] (lHold A.rv A.ru (Nx.keep BB) (by omega) (Ny.keep BB) (by omega) A.rn M9 (G.fs (by omega)) (by decide) (G.bd (by omega))) ?_)))))))))))))))))))))
        rintro _ v45 ⟨K43,rfl,M44,hK,C,P⟩
        refine ⟨_,rfl,?_⟩
        have hlo_K43:∀ b,K43 b->w.heap.size<=b:=fun b h=>(hK b h).elim (hlo_K9 b) (fun h=>Nat.le_trans BB.size h)
        have hd_K43_J9:∀ b,K43 b->¬ J9 b:=fun b h k=>(hK b h).elim (fun h=>hd_K9_J9 b h k) (fun h=>absurd (R9.lt k) (Nat.not_lt.2 h))
        have hd_J9_K43:∀ b,J9 b->¬ K43 b:=fun b h k=>hd_K43_J9 b k h
        have hkg10_K43:¬ K43 g10:=fun h=>(hK _ h).elim hkg10_K9 (fun h=>absurd Xg10.lt (Nat.not_lt.2 h))
        replace BB:=belowK BB C hlo_K9
        replace R9:=R9.off C P hd_J9_K9
        replace Xg10:=Xg10.chg C hkg10_K9
        clear hlo_K9 hkg10_K9 hd_K9_J9 hd_J9_K9 M9 hK C P
        skip
        refine gl_nil (ge_then (gc_fr [(0,.slice ao n c),(2,bF),(3,pg gL3),(4,pg g6),(5,iI (i:Int)),(6,pg g10),(21,iI (i:Int)),(22,.slice ao n c),(23,iI ((n:Nat):Int)),(24,bT),(27,.slice ao n c),(28,iI (i:Int)),(29,pq pb (po + i * 7)),(30,.agg #[iI xa,iU xv,iU xu,iU xn,iU xm,.slice d1 d2 d3,.slice e1 e2 e3]),(31,pg g10),(32,iI xa),(33,bF),(34,bF),(35,bF),(52,bF),(53,bF),(88,bT),(89,bT),(91,pg gL3),(92,pq g10 1),(93,iU xv),(94,pq g10 2),(95,iU xu),(96,pq g10 5),(97,.agg #[.slice d1 d2 d3]),(98,pq g10 6),(99,.agg #[.slice e1 e2 e3]),(100,pq g10 3),(101,iU xn)] (gc_reg (t 103 (pg g6) (t 104 (pq g10 1) (tl 105 (iU xv) Xg10 1 (t 106 (pq g10 2) (tl 107 (iU xu) Xg10 2 (t 108 (pq g10 5) (tlr 109 [.slice d1 d2 d3] Xg10 5 (t 110 (pq g10 6) (tlr 111 [.slice e1 e2 e3] Xg10 6 (t 112 (pq g10 3) (tl 113 (iU xn) Xg10 3 (tc 114 18 #[pg g6,iU xv,iU xu,.agg #[.slice d1 d2 d3],.agg #[.slice e1 e2 e3],iU xn] (mHold A.rv A.ru (fun _ C=>Nx.keep (belowK BB C hlo_J9)) (by omega) (fun _ C=>Ny.keep (belowK BB C hlo_J9)) (by omega) A.rn R9 (G.bd (by omega))) ?_)))))))))))))))
        rintro _ v48 ⟨K46,v0K46,rfl,M47,hK,C,P⟩
        refine ⟨_,rfl,?_⟩
        have hlo_K46:∀ b,K46 b->w.heap.size<=b:=fun b h=>(hK b h).elim (hlo_J9 b) (fun h=>Nat.le_trans BB.size h)
        have hkg10_K46:¬ K46 g10:=fun h=>(hK _ h).elim hkg10_J9 (fun h=>absurd Xg10.lt (Nat.not_lt.2 h))
        have hd_K46_K43:∀ b,K46 b->¬ K43 b:=fun b h k=>(hK b h).elim (fun h=>hd_J9_K43 b h k) (fun h=>absurd (M44.lt k) (Nat.not_lt.2 h))
        have hd_K43_K46:∀ b,K43 b->¬ K46 b:=fun b h k=>hd_K46_K43 b k h
        replace BB:=belowK BB C hlo_J9
        replace Xg10:=Xg10.chg C hkg10_J9
        replace M44:=M44.off C P hd_K43_J9
        clear hlo_J9 hkg10_J9 hd_J9_K43 hd_K43_J9 R9 hK C P
        skip
        exact gl_nil (ge_bn (ge_join () ⟨BB,Xg10,(sHold S xv xu xx xy xn),K43,K46,M44,M47,hlo_K43,hlo_K46,hd_K43_K46,G.hold hx hy A.rn⟩ (by kernel_rfl)))
       ·refine tq 89 (.bool ((xa:Int) == 3)) (bF) (congrArg Value.bool (beq_eq_false_iff_ne.2 c42)) (t 88 (bF) (gl_nil (ge_then (gc_no (gc_reg ?_)))))
        by_cases c49:(xa:Int)=4
        ·refine tq 90 (.bool ((xa:Int) == 4)) (bT) (congrArg Value.bool (beq_iff_eq.2 c49)) (t 88 (bT) (gl_nil (ge_then (gc_yes (gc_seq (gc_reg (t 91 (pg gL3) (t 92 (pq g10 1) (tl 93 (iU xv) Xg10 1 (t 94 (pq g10 2) (tl 95 (iU xu) Xg10 2 (t 96 (pq g10 5) (tlr 97 [.slice d1 d2 d3] Xg10 5 (t 98 (pq g10 6) (tlr 99 [.slice e1 e2 e3] Xg10 6 (t 100 (pq g10 3) (tl 101 (iU xn) Xg10 3 (tc 102 17 #[pg gL3,iU xv,iU xu,.agg #[.slice d1 d2 d3],.agg #[.slice e1 e2 e3],iU xn] (lHold A.rv A.ru (Nx.keep BB) (by omega) (Ny.keep BB) (by omega) A.rn M9 (G.fs (by omega)) (by decide) (G.bd (by omega))) ?_))))))))))))))))))
         rintro _ v52 ⟨K50,rfl,M51,hK,C,P⟩
         refine ⟨_,rfl,?_⟩
         have hlo_K50:∀ b,K50 b->w.heap.size<=b:=fun b h=>(hK b h).elim (hlo_K9 b) (fun h=>Nat.le_trans BB.size h)
         have hd_K50_J9:∀ b,K50 b->¬ J9 b:=fun b h k=>(hK b h).elim (fun h=>hd_K9_J9 b h k) (fun h=>absurd (R9.lt k) (Nat.not_lt.2 h))
         have hd_J9_K50:∀ b,J9 b->¬ K50 b:=fun b h k=>hd_K50_J9 b k h
         have hkg10_K50:¬ K50 g10:=fun h=>(hK _ h).elim hkg10_K9 (fun h=>absurd Xg10.lt (Nat.not_lt.2 h))
         replace BB:=belowK BB C hlo_K9
         replace R9:=R9.off C P hd_J9_K9
         replace Xg10:=Xg10.chg C hkg10_K9
         clear hlo_K9 hkg10_K9 hd_K9_J9 hd_J9_K9 M9 hK C P
         skip
         refine gl_nil (ge_then (gc_fr [(0,.slice ao n c),(2,bF),(3,pg gL3),(4,pg g6),(5,iI (i:Int)),(6,pg g10),(21,iI (i:Int)),(22,.slice ao n c),(23,iI ((n:Nat):Int)),(24,bT),(27,.slice ao n c),(28,iI (i:Int)),(29,pq pb (po + i * 7)),(30,.agg #[iI xa,iU xv,iU xu,iU xn,iU xm,.slice d1 d2 d3,.slice e1 e2 e3]),(31,pg g10),(32,iI xa),(33,bF),(34,bF),(35,bF),(52,bF),(53,bF),(88,bT),(89,bF),(90,bT),(91,pg gL3),(92,pq g10 1),(93,iU xv),(94,pq g10 2),(95,iU xu),(96,pq g10 5),(97,.agg #[.slice d1 d2 d3]),(98,pq g10 6),(99,.agg #[.slice e1 e2 e3]),(100,pq g10 3),(101,iU xn)] (gc_reg (t 103 (pg g6) (t 104 (pq g10 1) (tl 105 (iU xv) Xg10 1 (t 106 (pq g10 2) (tl 107 (iU xu) Xg10 2 (t 108 (pq g10 5) (tlr 109 [.slice d1 d2 d3] Xg10 5 (t 110 (pq g10 6) (tlr 111 [.slice e1 e2 e3] Xg10 6 (t 112 (pq g10 3) (tl 113 (iU xn) Xg10 3 (tc 114 18 #[pg g6,iU xv,iU xu,.agg #[.slice d1 d2 d3],.agg #[.slice e1 e2 e3],iU xn] (mHold A.rv A.ru (fun _ C=>Nx.keep (belowK BB C hlo_J9)) (by omega) (fun _ C=>Ny.keep (belowK BB C hlo_J9)) (by omega) A.rn R9 (G.bd (by omega))) ?_)))))))))))))))
         rintro _ v55 ⟨K53,v0K53,rfl,M54,hK,C,P⟩
         refine ⟨_,rfl,?_⟩
         have hlo_K53:∀ b,K53 b->w.heap.size<=b:=fun b h=>(hK b h).elim (hlo_J9 b) (fun h=>Nat.le_trans BB.size h)
         have hkg10_K53:¬ K53 g10:=fun h=>(hK _ h).elim hkg10_J9 (fun h=>absurd Xg10.lt (Nat.not_lt.2 h))
         have hd_K53_K50:∀ b,K53 b->¬ K50 b:=fun b h k=>(hK b h).elim (fun h=>hd_J9_K50 b h k) (fun h=>absurd (M51.lt k) (Nat.not_lt.2 h))
         have hd_K50_K53:∀ b,K50 b->¬ K53 b:=fun b h k=>hd_K53_K50 b k h
         replace BB:=belowK BB C hlo_J9
         replace Xg10:=Xg10.chg C hkg10_J9
         replace M51:=M51.off C P hd_K50_J9
         clear hlo_J9 hkg10_J9 hd_J9_K50 hd_K50_J9 R9 hK C P
         skip
         exact gl_nil (ge_bn (ge_join () ⟨BB,Xg10,(sHold S xv xu xx xy xn),K50,K53,M51,M54,hlo_K50,hlo_K53,hd_K50_K53,G.hold hx hy A.rn⟩ (by kernel_rfl)))
        ·refine tq 90 (.bool ((xa:Int) == 4)) (bF) (congrArg Value.bool (beq_eq_false_iff_ne.2 c49)) (t 88 (bF) (gl_nil (ge_then (gc_no (gc_seq (gc_reg ?_))))))
         by_cases c56:(xa:Int)=5
         ·refine tq 116 (.bool ((xa:Int) == 5)) (bT) (congrArg Value.bool (beq_iff_eq.2 c56)) (t 115 (bT) (gl_nil (ge_then (gc_yes (gc_seq (gc_reg (t 117 (pg gL3) (t 118 (pq g10 1) (tl 119 (iU xv) Xg10 1 (t 120 (pq g10 2) (tl 121 (iU xu) Xg10 2 (tc 122 19 #[pg gL3,iU xv,iU xu] (lDrop A.rv A.ru M9 (G.fs (by omega)) (by decide) (G.bd (by omega))) ?_))))))))))))
          rintro _ v59 ⟨K57,rfl,M58,hK,C,P⟩
          refine ⟨_,rfl,?_⟩
          have hlo_K57:∀ b,K57 b->w.heap.size<=b:=fun b h=>(hK b h).elim (hlo_K9 b) (fun h=>Nat.le_trans BB.size h)
          have hd_K57_J9:∀ b,K57 b->¬ J9 b:=fun b h k=>(hK b h).elim (fun h=>hd_K9_J9 b h k) (fun h=>absurd (R9.lt k) (Nat.not_lt.2 h))
          have hd_J9_K57:∀ b,J9 b->¬ K57 b:=fun b h k=>hd_K57_J9 b k h
          have hkg10_K57:¬ K57 g10:=fun h=>(hK _ h).elim hkg10_K9 (fun h=>absurd Xg10.lt (Nat.not_lt.2 h))
          replace BB:=belowK BB C hlo_K9
          replace R9:=R9.off C P hd_J9_K9
          replace Xg10:=Xg10.chg C hkg10_K9
          clear hlo_K9 hkg10_K9 hd_K9_J9 hd_J9_K9 M9 hK C P
          skip
          refine gl_nil (ge_then (gc_fr [(0,.slice ao n c),(2,bF),(3,pg gL3),(4,pg g6),(5,iI (i:Int)),(6,pg g10),(21,iI (i:Int)),(22,.slice ao n c),(23,iI ((n:Nat):Int)),(24,bT),(27,.slice ao n c),(28,iI (i:Int)),(29,pq pb (po + i * 7)),(30,.agg #[iI xa,iU xv,iU xu,iU xn,iU xm,.slice d1 d2 d3,.slice e1 e2 e3]),(31,pg g10),(32,iI xa),(33,bF),(34,bF),(35,bF),(52,bF),(53,bF),(88,bF),(89,bF),(90,bF),(115,bT),(116,bT),(117,pg gL3),(118,pq g10 1),(119,iU xv),(120,pq g10 2),(121,iU xu)] (gc_reg (t 123 (pg g6) (t 124 (pq g10 1) (tl 125 (iU xv) Xg10 1 (t 126 (pq g10 2) (tl 127 (iU xu) Xg10 2 (tc 128 20 #[pg g6,iU xv,iU xu] (mDrop A.rv A.ru R9 (G.bd (by omega))) ?_)))))))))
          rintro _ v62 ⟨K60,v0K60,rfl,M61,hK,C,P⟩
          refine ⟨_,rfl,?_⟩
          have hlo_K60:∀ b,K60 b->w.heap.size<=b:=fun b h=>(hK b h).elim (hlo_J9 b) (fun h=>Nat.le_trans BB.size h)
          have hkg10_K60:¬ K60 g10:=fun h=>(hK _ h).elim hkg10_J9 (fun h=>absurd Xg10.lt (Nat.not_lt.2 h))
          have hd_K60_K57:∀ b,K60 b->¬ K57 b:=fun b h k=>(hK b h).elim (fun h=>hd_J9_K57 b h k) (fun h=>absurd (M58.lt k) (Nat.not_lt.2 h))
          have hd_K57_K60:∀ b,K57 b->¬ K60 b:=fun b h k=>hd_K60_K57 b k h
          replace BB:=belowK BB C hlo_J9
          replace Xg10:=Xg10.chg C hkg10_J9
          replace M58:=M58.off C P hd_K57_J9
          clear hlo_J9 hkg10_J9 hd_J9_K57 hd_K57_J9 R9 hK C P
          skip
          exact gl_nil (ge_bn (ge_join () ⟨BB,Xg10,(sDrop S xv xu),K57,K60,M58,M61,hlo_K57,hlo_K60,hd_K57_K60,G.drop⟩ (by kernel_rfl)))
         ·refine tq 116 (.bool ((xa:Int) == 5)) (bF) (congrArg Value.bool (beq_eq_false_iff_ne.2 c56)) (t 115 (bF) (gl_nil (ge_then (gc_no (gc_seq (gc_reg ?_))))))
          by_cases c63:(xa:Int)=6
          ·refine tq 130 (.bool ((xa:Int) == 6)) (bT) (congrArg Value.bool (beq_iff_eq.2 c63)) (t 129 (bT) (gl_nil (ge_then (gc_fr [(0,.slice ao n c),(2,bF),(3,pg gL3),(4,pg g6),(5,iI (i:Int)),(6,pg g10),(21,iI (i:Int)),(22,.slice ao n c),(23,iI ((n:Nat):Int)),(24,bT),(27,.slice ao n c),(28,iI (i:Int)),(29,pq pb (po + i * 7)),(30,.agg #[iI xa,iU xv,iU xu,iU xn,iU xm,.slice d1 d2 d3,.slice e1 e2 e3]),(31,pg g10),(32,iI xa),(33,bF),(34,bF),(35,bF),(52,bF),(53,bF),(88,bF),(89,bF),(90,bF),(115,bF),(116,bF),(129,bT),(130,bT)] (gc_yes (gc_seq (gc_reg (t 131 (pg gL3) (t 132 (pq g10 1) (tl 133 (iU xv) Xg10 1 (t 134 (pq g10 3) (tl 135 (iU xn) Xg10 3 (t 136 (pq g10 4) (tl 137 (iU xm) Xg10 4 (tc 138 21 #[pg gL3,iU xv,iU xn,iU xm] (lCut A.rv A.rn A.rm M9 (G.fs (by omega)) (by decide) (G.bd (by omega))) ?_)))))))))))))))
           rintro _ v66 ⟨K64,rfl,M65,hK,C,P⟩
           refine ⟨_,rfl,?_⟩
           have hlo_K64:∀ b,K64 b->w.heap.size<=b:=fun b h=>(hK b h).elim (hlo_K9 b) (fun h=>Nat.le_trans BB.size h)
           have hd_K64_J9:∀ b,K64 b->¬ J9 b:=fun b h k=>(hK b h).elim (fun h=>hd_K9_J9 b h k) (fun h=>absurd (R9.lt k) (Nat.not_lt.2 h))
           have hd_J9_K64:∀ b,J9 b->¬ K64 b:=fun b h k=>hd_K64_J9 b k h
           have hkg10_K64:¬ K64 g10:=fun h=>(hK _ h).elim hkg10_K9 (fun h=>absurd Xg10.lt (Nat.not_lt.2 h))
           replace BB:=belowK BB C hlo_K9
           replace R9:=R9.off C P hd_J9_K9
           replace Xg10:=Xg10.chg C hkg10_K9
           clear hlo_K9 hkg10_K9 hd_K9_J9 hd_J9_K9 M9 hK C P
           skip
           refine gl_nil (ge_then (gc_reg (t 139 (pg g6) (t 140 (pq g10 1) (tl 141 (iU xv) Xg10 1 (t 142 (pq g10 3) (tl 143 (iU xn) Xg10 3 (t 144 (pq g10 4) (tl 145 (iU xm) Xg10 4 (tc 146 22 #[pg g6,iU xv,iU xn,iU xm] (mCut A.rv A.rn A.rm R9 (G.fs (by omega)) (by decide) (G.bd (by omega)) (G.hp (by omega))) ?_))))))))))
           rintro _ v69 ⟨K67,v0K67,rfl,M68,hK,C,P⟩
           refine ⟨_,rfl,?_⟩
           have hlo_K67:∀ b,K67 b->w.heap.size<=b:=fun b h=>(hK b h).elim (hlo_J9 b) (fun h=>Nat.le_trans BB.size h)
           have hkg10_K67:¬ K67 g10:=fun h=>(hK _ h).elim hkg10_J9 (fun h=>absurd Xg10.lt (Nat.not_lt.2 h))
           have hd_K67_K64:∀ b,K67 b->¬ K64 b:=fun b h k=>(hK b h).elim (fun h=>hd_J9_K64 b h k) (fun h=>absurd (M65.lt k) (Nat.not_lt.2 h))
           have hd_K64_K67:∀ b,K64 b->¬ K67 b:=fun b h k=>hd_K67_K64 b k h
           replace BB:=belowK BB C hlo_J9
           replace Xg10:=Xg10.chg C hkg10_J9
           replace M65:=M65.off C P hd_K64_J9
           clear hlo_J9 hkg10_J9 hd_J9_K64 hd_K64_J9 R9 hK C P
           skip
           exact gl_nil (ge_bn (ge_join () ⟨BB,Xg10,(sCut S xv xn xm),K64,K67,M65,M68,hlo_K64,hlo_K67,hd_K64_K67,G.cut A.rn A.rm⟩ (by kernel_rfl)))
          ·exact tq 130 (.bool ((xa:Int) == 6)) (bF) (congrArg Value.bool (beq_eq_false_iff_ne.2 c63)) (t 129 (bF) (gl_nil (ge_then (gc_fr [(0,.slice ao n c),(2,bF),(3,pg gL3),(4,pg g6),(5,iI (i:Int)),(6,pg g10),(21,iI (i:Int)),(22,.slice ao n c),(23,iI ((n:Nat):Int)),(24,bT),(27,.slice ao n c),(28,iI (i:Int)),(29,pq pb (po + i * 7)),(30,.agg #[iI xa,iU xv,iU xu,iU xn,iU xm,.slice d1 d2 d3,.slice e1 e2 e3]),(31,pg g10),(32,iI xa),(33,bF),(34,bF),(35,bF),(52,bF),(53,bF),(88,bF),(89,bF),(90,bF),(115,bF),(116,bF),(129,bF),(130,bF)] (gc_no (gc_skip (ge_bn (ge_join () ⟨BB,Xg10,S,K9,J9,M9,R9,hlo_K9,hlo_J9,hd_K9_J9,G.up⟩ (by kernel_rfl)))))))))
   clear BB Xg10 M9 R9
   rintro ⟨⟩ v70 ⟨BB,Xg10,S2,K8,J8,M8,R8,hlo_K8,hlo_J8,hd_K8_J8,G2⟩
   have hd_J8_K8:∀ b,J8 b->¬ K8 b:=fun b h k=>hd_K8_J8 b k h
   refine gc_seq ?_
   replace BB:=BB.drew
   replace Nx:=Nx
   replace Ny:=Ny
   replace Xg10:=Xg10.drew
   replace M8:=M8.drew
   replace R8:=R8.drew
   refine gc_draw (fun w'=>Blk w' g10 [iI xa,iU xv,iU xu,iU xn,iU xm,.slice d1 d2 d3,.slice e1 e2 e3] 37) (fun _=>false) Xg10 ?_
   refine z 0 147 (pg gL3) (z 1 148 (pq g10 1) (zl 2 149 (iU xv) (fun _ h=>h) 1 (z 3 150 (pq g10 2) (zl 4 151 (iU xu) (fun _ h=>h) 2 (z 6 153 (pg g6) (z 7 154 (pq g10 1) (zl 8 155 (iU xv) (fun _ h=>h) 1 (z 9 156 (pq g10 2) (zl 10 157 (iU xu) (fun _ h=>h) 2 (zc 5 152 23 #[pg gL3,iU xv,iU xu] (rdl (lStake A.rv A.ru M8 (G2.fs (by omega)) (by decide) (G2.bd (by omega))) (show sWorth S2 xv xu=sWorth S2 xv xu from rfl)) ?_))))))))))
   rintro _ v72 ⟨aq71,kq71,dq71,bq71,lq71,eq71,rfl,Qq71,B⟩
   replace BB:=joinB BB B
   replace Xg10:=Xg10.keep B
   replace M8:=M8.keep B
   replace R8:=R8.keep B
   refine ⟨_,rfl,Xg10,?_⟩
   refine zc 11 158 24 #[pg g6,iU xv,iU xu] (mStake A.rv A.ru R8 (G2.bd (by omega))) ?_
   rintro _ v74 ⟨aq73,kq73,dq73,bq73,lq73,eq73,rfl,Qq73,B⟩
   replace BB:=joinB BB B
   replace Xg10:=Xg10.keep B
   replace M8:=M8.keep B
   replace R8:=R8.keep B
   replace Qq71:=Qq71.keep B
   refine ⟨_,rfl,Xg10,?_⟩
   refine zc 12 159 16 #[.agg #[.slice aq71 kq71 dq71,.slice bq71 lq71 eq71],.agg #[.slice aq73 kq73 dq73,.slice bq73 lq73 eq73]] (pSameL (B:=200000) Qq71 Qq73 (G2.worth (by omega)) (G2.worth (by omega)) (by decide) (t:=true) (decide_eq_true (rfl))) ?_
   rintro _ v75 ⟨rfl,B⟩
   replace BB:=joinB BB B
   replace Xg10:=Xg10.keep B
   replace M8:=M8.keep B
   replace R8:=R8.keep B
   replace Qq71:=Qq71.keep B
   replace Qq73:=Qq73.keep B
   refine ⟨_,rfl,Xg10,?_⟩
   refine z 13 160 (bF) (z 14 161 (bF) (z 15 162 (pg gL3) (z 16 163 (pq g10 1) (zl 17 164 (iU xv) (fun _ h=>h) 1 (z 18 165 (pq g10 2) (zl 19 166 (iU xu) (fun _ h=>h) 2 (z 21 168 (pg g6) (z 22 169 (pq g10 1) (zl 23 170 (iU xv) (fun _ h=>h) 1 (z 24 171 (pq g10 2) (zl 25 172 (iU xu) (fun _ h=>h) 2 (zc 20 167 25 #[pg gL3,iU xv,iU xu] (rdl (lOwed A.rv A.ru M8 (G2.fs (by omega)) (by decide) (G2.bd (by omega))) (show sOwed S2 xv xu=sOwed S2 xv xu from rfl)) ?_))))))))))))
   rintro _ v77 ⟨aq76,kq76,dq76,bq76,lq76,eq76,rfl,Qq76,B⟩
   replace BB:=joinB BB B
   replace Xg10:=Xg10.keep B
   replace M8:=M8.keep B
   replace R8:=R8.keep B
   replace Qq71:=Qq71.keep B
   replace Qq73:=Qq73.keep B
   refine ⟨_,rfl,Xg10,?_⟩
   refine zc 26 173 26 #[pg g6,iU xv,iU xu] (mOwed A.rv A.ru R8 (G2.bd (by omega))) ?_
   rintro _ v79 ⟨aq78,kq78,dq78,bq78,lq78,eq78,rfl,Qq78,B⟩
   replace BB:=joinB BB B
   replace Xg10:=Xg10.keep B
   replace M8:=M8.keep B
   replace R8:=R8.keep B
   replace Qq71:=Qq71.keep B
   replace Qq73:=Qq73.keep B
   replace Qq76:=Qq76.keep B
   refine ⟨_,rfl,Xg10,?_⟩
   refine zc 27 174 16 #[.agg #[.slice aq76 kq76 dq76,.slice bq76 lq76 eq76],.agg #[.slice aq78 kq78 dq78,.slice bq78 lq78 eq78]] (pSameL (B:=200000) Qq76 Qq78 (G2.owed (by omega)) (G2.owed (by omega)) (by decide) (t:=true) (decide_eq_true (rfl))) ?_
   rintro _ v80 ⟨rfl,B⟩
   replace BB:=joinB BB B
   replace Xg10:=Xg10.keep B
   replace M8:=M8.keep B
   replace R8:=R8.keep B
   replace Qq71:=Qq71.keep B
   replace Qq73:=Qq73.keep B
   replace Qq76:=Qq76.keep B
   replace Qq78:=Qq78.keep B
   refine ⟨_,rfl,Xg10,?_⟩
   refine z 28 175 (bF) (z 29 176 (bF) (z 30 177 (bF) (z 31 178 (pg gL3) (z 32 179 (pq g10 1) (zl 33 180 (iU xv) (fun _ h=>h) 1 (z 35 182 (pg g6) (z 36 183 (pq g10 1) (zl 37 184 (iU xv) (fun _ h=>h) 1 (zc 34 181 27 #[pg gL3,iU xv] (rdl (lStakes A.rv M8 (G2.fs (by omega)) (by decide) (G2.bd (by omega))) (show sStakes S2 xv=sStakes S2 xv from rfl)) ?_)))))))))
   rintro _ v82 ⟨aq81,kq81,dq81,bq81,lq81,eq81,rfl,Qq81,B⟩
   replace BB:=joinB BB B
   replace Xg10:=Xg10.keep B
   replace M8:=M8.keep B
   replace R8:=R8.keep B
   replace Qq71:=Qq71.keep B
   replace Qq73:=Qq73.keep B
   replace Qq76:=Qq76.keep B
   replace Qq78:=Qq78.keep B
   refine ⟨_,rfl,Xg10,?_⟩
   refine zc 38 185 28 #[pg g6,iU xv] (mStakes A.rv R8 (G2.fs (by omega)) (by decide) (G2.bd (by omega))) ?_
   rintro _ v84 ⟨aq83,kq83,dq83,bq83,lq83,eq83,rfl,Qq83,B⟩
   replace BB:=joinB BB B
   replace Xg10:=Xg10.keep B
   replace M8:=M8.keep B
   replace R8:=R8.keep B
   replace Qq71:=Qq71.keep B
   replace Qq73:=Qq73.keep B
   replace Qq76:=Qq76.keep B
   replace Qq78:=Qq78.keep B
   replace Qq81:=Qq81.keep B
   refine ⟨_,rfl,Xg10,?_⟩
   refine zc 39 186 16 #[.agg #[.slice aq81 kq81 dq81,.slice bq81 lq81 eq81],.agg #[.slice aq83 kq83 dq83,.slice bq83 lq83 eq83]] (pSameL (B:=200000) Qq81 Qq83 (G2.sums (by omega)).1 (G2.sums (by omega)).1 (by decide) (t:=true) (decide_eq_true (rfl))) ?_
   rintro _ v85 ⟨rfl,B⟩
   replace BB:=joinB BB B
   replace Xg10:=Xg10.keep B
   replace M8:=M8.keep B
   replace R8:=R8.keep B
   replace Qq71:=Qq71.keep B
   replace Qq73:=Qq73.keep B
   replace Qq76:=Qq76.keep B
   replace Qq78:=Qq78.keep B
   replace Qq81:=Qq81.keep B
   replace Qq83:=Qq83.keep B
   refine ⟨_,rfl,Xg10,?_⟩
   refine z 40 187 (bF) (z 41 188 (bF) (z 42 189 (bF) (z 43 190 (pg gL3) (z 44 191 (pq g10 1) (zl 45 192 (iU xv) (fun _ h=>h) 1 (z 47 194 (pg g6) (z 48 195 (pq g10 1) (zl 49 196 (iU xv) (fun _ h=>h) 1 (zc 46 193 29 #[pg gL3,iU xv] (rdl (lOwes A.rv M8 (G2.fs (by omega)) (by decide) (G2.bd (by omega))) (show sOwes S2 xv=sOwes S2 xv from rfl)) ?_)))))))))
   rintro _ v87 ⟨aq86,kq86,dq86,bq86,lq86,eq86,rfl,Qq86,B⟩
   replace BB:=joinB BB B
   replace Xg10:=Xg10.keep B
   replace M8:=M8.keep B
   replace R8:=R8.keep B
   replace Qq71:=Qq71.keep B
   replace Qq73:=Qq73.keep B
   replace Qq76:=Qq76.keep B
   replace Qq78:=Qq78.keep B
   replace Qq81:=Qq81.keep B
   replace Qq83:=Qq83.keep B
   refine ⟨_,rfl,Xg10,?_⟩
   refine zc 50 197 30 #[pg g6,iU xv] (mOwes A.rv R8 (G2.fs (by omega)) (by decide) (G2.bd (by omega))) ?_
   rintro _ v89 ⟨aq88,kq88,dq88,bq88,lq88,eq88,rfl,Qq88,B⟩
   replace BB:=joinB BB B
   replace Xg10:=Xg10.keep B
   replace M8:=M8.keep B
   replace R8:=R8.keep B
   replace Qq71:=Qq71.keep B
   replace Qq73:=Qq73.keep B
   replace Qq76:=Qq76.keep B
   replace Qq78:=Qq78.keep B
   replace Qq81:=Qq81.keep B
   replace Qq83:=Qq83.keep B
   replace Qq86:=Qq86.keep B
   refine ⟨_,rfl,Xg10,?_⟩
   refine zc 51 198 16 #[.agg #[.slice aq86 kq86 dq86,.slice bq86 lq86 eq86],.agg #[.slice aq88 kq88 dq88,.slice bq88 lq88 eq88]] (pSameL (B:=200000) Qq86 Qq88 (G2.sums (by omega)).2 (G2.sums (by omega)).2 (by decide) (t:=true) (decide_eq_true (rfl))) ?_
   rintro _ v90 ⟨rfl,B⟩
   replace BB:=joinB BB B
   replace Xg10:=Xg10.keep B
   replace M8:=M8.keep B
   replace R8:=R8.keep B
   replace Qq71:=Qq71.keep B
   replace Qq73:=Qq73.keep B
   replace Qq76:=Qq76.keep B
   replace Qq78:=Qq78.keep B
   replace Qq81:=Qq81.keep B
   replace Qq83:=Qq83.keep B
   replace Qq86:=Qq86.keep B
   replace Qq88:=Qq88.keep B
   refine ⟨_,rfl,Xg10,?_⟩
   exact z 52 199 (bF) (z 53 200 (bF) (gz_done (ge_then (gc_fr [(0,.slice ao n c),(2,bF),(3,pg gL3),(4,pg g6),(5,iI (i:Int)),(6,pg g10),(147,pg gL3),(148,pq g10 1),(149,iU xv),(150,pq g10 2),(151,iU xu),(152,.agg #[.slice aq71 kq71 dq71,.slice bq71 lq71 eq71]),(153,pg g6),(154,pq g10 1),(155,iU xv),(156,pq g10 2),(157,iU xu),(158,.agg #[.slice aq73 kq73 dq73,.slice bq73 lq73 eq73]),(159,bT),(160,bF),(161,bF),(162,pg gL3),(163,pq g10 1),(164,iU xv),(165,pq g10 2),(166,iU xu),(167,.agg #[.slice aq76 kq76 dq76,.slice bq76 lq76 eq76]),(168,pg g6),(169,pq g10 1),(170,iU xv),(171,pq g10 2),(172,iU xu),(173,.agg #[.slice aq78 kq78 dq78,.slice bq78 lq78 eq78]),(174,bT),(175,bF),(176,bF),(177,bF),(178,pg gL3),(179,pq g10 1),(180,iU xv),(181,.agg #[.slice aq81 kq81 dq81,.slice bq81 lq81 eq81]),(182,pg g6),(183,pq g10 1),(184,iU xv),(185,.agg #[.slice aq83 kq83 dq83,.slice bq83 lq83 eq83]),(186,bT),(187,bF),(188,bF),(189,bF),(190,pg gL3),(191,pq g10 1),(192,iU xv),(193,.agg #[.slice aq86 kq86 dq86,.slice bq86 lq86 eq86]),(194,pg g6),(195,pq g10 1),(196,iU xv),(197,.agg #[.slice aq88 kq88 dq88,.slice bq88 lq88 eq88]),(198,bT),(199,bF),(200,bF)] (gc_no (gc_skip (ge_bn (ge_then (gc_reg (t 25 (iI (i:Int)) (tq 26 (iI (IntKind.i64.wrap ((i:Int) + 1))) (iI ((i:Int) + 1)) (wi (by omega)) (t 5 (iI ((i:Int) + 1)) (gl_nil (ge_round (i + 1) (by omega) ⟨by omega,BB,S2,K8,J8,M8,R8,hlo_K8,hlo_J8,hd_K8_J8,G2⟩ (by kernel_rfl)))))))))))))))
  ·skip
   refine tq 24 (.bool (decide ((i:Int) < ((n:Nat):Int)))) (bF) (congrArg Value.bool (decide_eq_false c8)) (gl_nil (ge_then (gc_no (gc_exit (ge_tx (ge_tx (ge_bx (ge_then (gc_seq (gc_reg (t 2 (bT) (gl_nil (ge_then (gc_ret (ge_ret (bT) (rs1 2 (by kernel_rfl) (by kernel_rfl)) ?_)))))))))))))))
   exact ⟨rfl,BB⟩
theorem walk (a0:Option Addr) (len0 cap0:Nat) (w:World) (w0:StpsIn w a0 len0):Calls Tryz.prog 3 #[.slice a0 len0 cap0] w fun e w'=>e=.returned (.bool true)/\Below w.heap.size w w':=by
 obtain ⟨pb,po,s,SA⟩:=w0
 exact plays_any SA
end ledgerPlays
end Go.Proofs.YtlbndpkdkdgggaaGreatDoor
