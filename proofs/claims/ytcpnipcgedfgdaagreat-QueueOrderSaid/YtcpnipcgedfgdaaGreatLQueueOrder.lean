/- gleanlaw12.QueueOrder. -/
import Derived.Test.YtcpnipcgedfgdaaGreatJaw
set_option maxRecDepth 100000
set_option maxHeartbeats 8000000
namespace Go.Proofs.YtcpnipcgedfgdaaGreat
namespace Qu
open Go.RowKit Go.Lib Pg Lim Gl Kv Bk Pw
attribute [local go_sem] Oper.semAt_some
set_option linter.unusedVariables false
set_option linter.unusedSimpArgs false
theorem queueOrder_walk {w:World} {ao:Option Addr} {n c pb po_:Nat} {st:Nat->Sq} (SS:StpQ w ao n pb po_ st):Calls Tryz.prog 8 #[.slice ao n c] w fun e w'=>e=.returned (.bool true)/\Below w.heap.size w w':=by
 have BB:=Below.refl w.heap.size w
 have hfew:=SS.few
 refine gc_enter (n:=174) Tryz.func8 rfl (by kernel_rfl) (by kernel_rfl) ?_
 refine gc_seq (gc_reg (t 2 (.bool false) ?_))
 refine gl_nil (ge_then (gc_seq (gc_seq (gc_reg (tc 14 29 #[] (known12) ?_)))))
 rintro _ v1 ⟨rfl,B⟩
 refine ⟨_,rfl,?_⟩
 replace BB:=joinB BB B
 clear B
 refine t 15 (.bool false) ?_
 refine gl_nil (ge_then (gc_no ?_))
 refine gc_skip (ge_then (gc_seq (gc_seq (gc_reg (t 16 (.slice ao n c) ?_)))))
 refine tc 17 30 #[.slice ao n c] (light_any (SS.keep BB)) ?_
 rintro _ v2 ⟨lb,rfl,hlb,B⟩
 refine ⟨_,rfl,?_⟩
 replace BB:=joinB BB B
 clear B
 cases lb
 ·skip
  refine t 18 (.bool true) ?_
  refine gl_nil (ge_then (gc_yes ?_))
  refine gc_seq (gc_reg (t 2 (.bool true) ?_))
  refine gl_nil (ge_then (gc_ret (ge_tr (ge_ret (.bool true) (rs1 2 (by kernel_rfl) (by kernel_rfl)) ?_))))
  exact ⟨rfl,BB⟩
 ·obtain ⟨h150,h30⟩:=hlb rfl
  refine t 18 (.bool false) ?_
  refine gl_nil (ge_then (gc_no ?_))
  refine gc_skip (ge_then (gc_seq (gc_reg (tc 19 31 #[.int .u64 1] (begun_any) ?_))))
  rintro _ v3 ⟨Bz,g0,K0,rfl,S0,hwB0,hK0,B0⟩
  refine ⟨_,rfl,?_⟩
  have hwB:=Nat.le_trans BB.size hwB0
  replace BB:=joinB BB B0
  clear B0
  have A:=S0.at
  clear S0
  refine t 3 (pg g0) ?_
  refine gl_nil (ge_then (gc_seq (gc_seq (gc_reg (t 4 (.int .i64 0) ?_)))))
  refine gl_nil (ge_then (gc_block (gc_loop (fun s=>n - s) (fun (s:Nat)=>[(0,.slice ao n c),(3,pg g0),(4,.int .i64 (s:Int))]) (fun s w'=>s<=n/\Below w.heap.size w w'/\∃ K E nn NN,Sx Bz w' K g0 E [] nn NN/\nn<=1 + s * 20/\NN<=2 + s * 20/\Qs E (1 + (s:Int)) (qes 1 st s)) (0:Nat) ⟨Nat.zero_le _,BB,_,bgE 1,1,2,A.sx,by omega,by omega,bg_qs0 (by decide)⟩ (by kernel_rfl) ?_)))
  clear BB
  clear A
  rintro i v4 ⟨hi,BB,K,E,nn,NN,S,hnn,hNN,Q⟩
  have A:=S.at
  clear S
  refine gc_seq (gc_seq (gc_reg (t 20 (.int .i64 (i:Int)) ?_)))
  refine t 21 (.slice ao n c) ?_
  refine t 22 (.int .i64 ((n:Nat):Int)) ?_
  by_cases ci:(i:Int) < ((n:Nat):Int)
  ·have hk_i:i < n:=by omega
   have rr:=SS.rng i hk_i
   refine tq 23 (.bool (decide ((i:Int) < ((n:Nat):Int)))) (.bool true) (congrArg Value.bool (decide_eq_true ci)) ?_
   refine gl_nil (ge_then (gc_yes ?_))
   refine gc_skip (ge_then (gc_seq (gc_block (gc_seq (gc_reg (t 26 (.slice ao n c) ?_))))))
   refine t 27 (.int .i64 (i:Int)) ?_
   refine tr 28 (pq pb (po_ + i * 16)) (run_ixa 16 pb po_ n c i hk_i SS.ptr) ?_
   refine t 29 (pq pb (po_ + i * 16)) ?_
   refine tr 30 (.int .i64 (st i).w) (run_lI SS hk_i BB) ?_
   refine tr 31 (.int .i64 (Int.tmod ((st i).w) 2)) (run_rem2) ?_
   by_cases c5:(Int.tmod ((st i).w) 2:Int)=0
   ·refine tq 32 (.bool ((Int.tmod ((st i).w) 2:Int) == 0)) (.bool true) (congrArg Value.bool (beq_iff_eq.2 c5)) ?_
    refine gl_nil (ge_then (gc_yes ?_))
    refine gc_reg (t 33 (pg g0) ?_)
    refine t 34 (.slice ao n c) ?_
    refine t 35 (.int .i64 (i:Int)) ?_
    refine tr 36 (pq pb (po_ + i * 16)) (run_ixa 16 pb po_ n c i hk_i SS.ptr) ?_
    refine t 37 (pq pb (po_ + i * 16 + 3)) ?_
    refine tr 38 (.agg #[.int .u64 (st i).u0,.int .u64 (st i).u1,.int .u64 (st i).u2,.int .u64 (st i).u3,.int .u64 (st i).u4,.int .u64 (st i).u5]) (run_lU SS hk_i BB) ?_
    refine tc 39 35 #[pg g0,.agg #[.int .u64 (st i).u0,.int .u64 (st i).u1,.int .u64 (st i).u2,.int .u64 (st i).u3,.int .u64 (st i).u4,.int .u64 (st i).u5]] (unbond_any A.sx rr.u0 rr.u1 rr.u3 (by omega) (by omega)) ?_
    rintro _ v7 ⟨rfl,K6,S,hK,hC⟩
    refine ⟨_,rfl,?_⟩
    replace BB:=belowO BB hC (fun b hb=>Nat.le_trans hwB (A.sx.kb b hb))
    replace A:=A.op S hK hC
    clear S hK hC
    refine gl_nil (ge_bn (ge_then (gc_fr [(0,.slice ao n c),(3,pg g0),(4,.int .i64 (i:Int)),(20,.int .i64 (i:Int)),(21,.slice ao n c),(22,.int .i64 ((n:Nat):Int)),(23,.bool true),(26,.slice ao n c),(27,.int .i64 (i:Int)),(28,pq pb (po_ + i * 16)),(29,pq pb (po_ + i * 16)),(30,.int .i64 (st i).w),(31,.int .i64 (Int.tmod ((st i).w) 2)),(32,.bool true),(33,pg g0),(34,.slice ao n c),(35,.int .i64 (i:Int)),(36,pq pb (po_ + i * 16)),(37,pq pb (po_ + i * 16 + 3)),(38,.agg #[.int .u64 (st i).u0,.int .u64 (st i).u1,.int .u64 (st i).u2,.int .u64 (st i).u3,.int .u64 (st i).u4,.int .u64 (st i).u5])] (by kernel_rfl) ?_)))
    refine gc_reg (t 24 (.int .i64 (i:Int)) ?_)
    refine tq 25 (.int .i64 (IntKind.i64.wrap ((i:Int) + 1))) (.int .i64 ((i:Int) + 1)) (wi (by omega)) ?_
    refine t 4 (.int .i64 ((i:Int) + 1)) ?_
    refine gl_nil ?_
    exact ge_round (i + 1) (by show n - (i + 1) < n - i; omega) ⟨hk_i,BB,_,_,_,_,A.sx,by omega,by omega,Q.stepU c5 (by omega) (by omega) rr⟩ (by kernel_rfl)
   ·refine tq 32 (.bool ((Int.tmod ((st i).w) 2:Int) == 0)) (.bool false) (congrArg Value.bool (beq_eq_false_iff_ne.2 c5)) ?_
    refine gl_nil (ge_then (gc_no ?_))
    refine gc_reg (t 40 (pg g0) ?_)
    refine t 41 (.slice ao n c) ?_
    refine t 42 (.int .i64 (i:Int)) ?_
    refine tr 43 (pq pb (po_ + i * 16)) (run_ixa 16 pb po_ n c i hk_i SS.ptr) ?_
    refine t 44 (pq pb (po_ + i * 16 + 9)) ?_
    refine tr 45 (.agg #[.int .u64 (st i).m0,.int .u64 (st i).m1,.int .u64 (st i).m2,.int .u64 (st i).m3,.int .u64 (st i).m4,.int .u64 (st i).m5,.slice (Sq.a (st i)) (Sq.l (st i)) (Sq.c (st i))]) (run_lM SS hk_i BB) ?_
    refine tc 46 37 #[pg g0,.agg #[.int .u64 (st i).m0,.int .u64 (st i).m1,.int .u64 (st i).m2,.int .u64 (st i).m3,.int .u64 (st i).m4,.int .u64 (st i).m5,.slice (Sq.a (st i)) (Sq.l (st i)) (Sq.c (st i))]] (move_any A.sx rr.m0 rr.m1 rr.m4 (SS.nk hk_i BB (fun b hb=>Nat.le_trans hwB (A.sx.kb b hb))) (Nat.le_trans (h30 i hk_i) (by decide)) (by omega) (by omega)) ?_
    rintro _ v9 ⟨rfl,K8,S,hK,hC⟩
    refine ⟨_,rfl,?_⟩
    replace BB:=belowO BB hC (fun b hb=>Nat.le_trans hwB (A.sx.kb b hb))
    replace A:=A.op S hK hC
    clear S hK hC
    refine gl_nil (ge_bn (ge_then (gc_fr [(0,.slice ao n c),(3,pg g0),(4,.int .i64 (i:Int)),(20,.int .i64 (i:Int)),(21,.slice ao n c),(22,.int .i64 ((n:Nat):Int)),(23,.bool true),(26,.slice ao n c),(27,.int .i64 (i:Int)),(28,pq pb (po_ + i * 16)),(29,pq pb (po_ + i * 16)),(30,.int .i64 (st i).w),(31,.int .i64 (Int.tmod ((st i).w) 2)),(32,.bool false),(40,pg g0),(41,.slice ao n c),(42,.int .i64 (i:Int)),(43,pq pb (po_ + i * 16)),(44,pq pb (po_ + i * 16 + 9)),(45,.agg #[.int .u64 (st i).m0,.int .u64 (st i).m1,.int .u64 (st i).m2,.int .u64 (st i).m3,.int .u64 (st i).m4,.int .u64 (st i).m5,.slice (Sq.a (st i)) (Sq.l (st i)) (Sq.c (st i))])] (by kernel_rfl) ?_)))
    refine gc_reg (t 24 (.int .i64 (i:Int)) ?_)
    refine tq 25 (.int .i64 (IntKind.i64.wrap ((i:Int) + 1))) (.int .i64 ((i:Int) + 1)) (wi (by omega)) ?_
    refine t 4 (.int .i64 ((i:Int) + 1)) ?_
    refine gl_nil ?_
    exact ge_round (i + 1) (by show n - (i + 1) < n - i; omega) ⟨hk_i,BB,_,_,_,_,A.sx,by omega,by omega,Q.stepM c5 (by omega) (by omega) rr⟩ (by kernel_rfl)
  ·have hin:i=n:=by omega
   rw [hin] at Q
   refine tq 23 (.bool (decide ((i:Int) < ((n:Nat):Int)))) (.bool false) (congrArg Value.bool (decide_eq_false ci)) ?_
   refine gl_nil (ge_then (gc_no ?_))
   refine gc_exit (ge_tx (ge_tx (ge_bx (ge_then (gc_seq (gc_reg (t 47 (pg g0) ?_)))))))
   have lgnd:=A.sx.sa.lt A.sx.sa.top
   refine tc 48 47 #[pg g0,.int .u64 18446744073709551615] (due_x A.sx (by decide) Q.keys (by omega) (by omega)) ?_
   rintro _ v10 ⟨dv,nd,rfl,UD,S,qnda,qndb,qndc,C⟩
   refine ⟨_,rfl,?_⟩
   have hC:=C.mono (fun b _ (e:b=g0)=>e▸A.sx.sa.top)
   replace BB:=belowO BB hC (fun b hb=>Nat.le_trans hwB (A.sx.kb b hb))
   replace A:=A.op S (fun _ h=>.inl h) hC
   clear S hC C
   obtain ⟨da,dc,rfl⟩:=UD.shape
   have hdl:(upto E (p14 18446744073709551615)).length=n:=by rw [Q.dueLen (by omega),qes_len]
   rw [hdl] at UD ⊢
   refine t 5 (.slice da n dc) ?_
   refine gl_nil (ge_then (gc_seq (gc_seq (gc_reg (t 6 (.int .i64 1) ?_)))))
   refine gl_nil (ge_then (gc_block ?_))
   obtain ⟨VD,hVD⟩:∃ V,v10=V:=⟨_,rfl⟩
   rw [hVD] at BB A UD ⊢
   obtain ⟨-,pd,hpd,hcd⟩:=UD.cells
   have AD:=A
   have zD:=BB.size
   have BBD:=BB
   refine gc_loop (fun s=>n - s) (fun (s:Nat)=>[(0,.slice ao n c),(3,pg g0),(5,.slice da n dc),(6,.int .i64 ((s + 1:Nat):Int))]) (fun s w'=>Below w.heap.size w w'/\Below VD.heap.size VD w') (0:Nat) ⟨BB,Below.refl _ _⟩ (by kernel_rfl) ?_
   clear BB
   clear A
   clear UD
   rintro sj v11 ⟨BB,BD⟩
   refine gc_seq (gc_seq (gc_reg (t 49 (.int .i64 ((sj + 1:Nat):Int)) ?_)))
   refine t 50 (.slice da n dc) ?_
   refine t 51 (.int .i64 ((n:Nat):Int)) ?_
   by_cases ct:((sj + 1:Nat):Int) < ((n:Nat):Int)
   ·have hk_t:sj + 1 < n:=by omega
    obtain ⟨e1,he1,e2,he2,hL1,hL2,hord⟩:=Q.dueOrd (by omega) (t:=18446744073709551615) (by decide) (j:=sj) (by rw [hdl]; exact hk_t)
    obtain ⟨j1,hj1,rfl⟩:=qes_mem.1 he1
    obtain ⟨j2,hj2,rfl⟩:=qes_mem.1 he2
    rw [qe_id] at hL1 hL2
    rw [qe_id,qe_id] at hord
    have hcA:VD.cell? ⟨pd,0 + sj * 2,none⟩=some (.int .u64 (1 + (j1:Int))):=by
     have:=(hcd sj (by omega)).1
     rw [List.getD,hL1] at this
     exact this
    have hcB:VD.cell? ⟨pd,0 + (sj + 1) * 2,none⟩=some (.int .u64 (1 + (j2:Int))):=by
     have:=(hcd (sj + 1) hk_t).1
     rw [List.getD,hL2] at this
     exact this
    refine tq 52 (.bool (decide (((sj + 1:Nat):Int) < ((n:Nat):Int)))) (.bool true) (congrArg Value.bool (decide_eq_true ct)) ?_
    refine gl_nil (ge_then (gc_yes ?_))
    refine gc_skip (ge_then (gc_seq (gc_block (gc_seq ?_))))
    replace BB:=BB.drew
    replace BD:=BD.drew
    refine gc_draw (fun w'=>Below VD.heap.size VD w') (fun _=>false) BD ?_
    refine z 0 55 (.slice ao n c) ?_
    refine z 1 56 (.slice da n dc) ?_
    refine z 2 57 (.int .i64 ((sj + 1:Nat):Int)) ?_
    refine zq 3 58 (.int .i64 (IntKind.i64.wrap (((sj + 1:Nat):Int) - 1))) (.int .i64 (sj:Int)) (congrArg (Value.int .i64) (by rw [IntKind.wrap_i64]; omega)) ?_
    refine zr 4 59 (pq pd (0 + sj * 2)) (fun _ h=>run_ixa 2 pd 0 n dc sj (by omega) hpd) ?_
    refine z 5 60 (pq pd (0 + sj * 2)) ?_
    refine zr 6 61 (.int .u64 (1 + (j1:Int))) (fun _ h=>run_ld64 (cellB h hcA)) ?_
    refine z 8 63 (.slice ao n c) ?_
    refine z 9 64 (.slice da n dc) ?_
    refine z 10 65 (.int .i64 ((sj + 1:Nat):Int)) ?_
    refine zr 11 66 (pq pd (0 + (sj + 1) * 2)) (fun _ h=>run_ixa 2 pd 0 n dc (sj + 1) hk_t hpd) ?_
    refine z 12 67 (pq pd (0 + (sj + 1) * 2)) ?_
    refine zr 13 68 (.int .u64 (1 + (j2:Int))) (fun _ h=>run_ld64 (cellB h hcB)) ?_
    refine zc 7 62 50 #[.slice ao n c,.int .u64 (1 + (j1:Int))] (time_any (c:=c) (SS.keep BB) hj1) ?_
    rintro _ v12 ⟨rfl,B⟩
    replace BB:=joinB BB B
    replace BD:=joinB BD B
    clear B
    refine ⟨_,rfl,BD,?_⟩
    refine zc 14 69 50 #[.slice ao n c,.int .u64 (1 + (j2:Int))] (time_any (c:=c) (SS.keep BB) hj2) ?_
    rintro _ v13 ⟨rfl,B⟩
    replace BB:=joinB BB B
    replace BD:=joinB BD B
    clear B
    refine ⟨_,rfl,BD,?_⟩
    refine z 15 7 (.int .u64 (qe 1 (st j1) j1).due) ?_
    refine z 16 8 (.int .u64 (qe 1 (st j2) j2).due) ?_
    refine gz_done (ge_then (gc_fr [(0,.slice ao n c),(3,pg g0),(5,.slice da n dc),(6,.int .i64 ((sj + 1:Nat):Int)),(7,.int .u64 (qe 1 (st j1) j1).due),(8,.int .u64 (qe 1 (st j2) j2).due),(49,.int .i64 ((sj + 1:Nat):Int)),(50,.slice da n dc),(51,.int .i64 ((n:Nat):Int)),(52,.bool true),(55,.slice ao n c),(56,.slice da n dc),(57,.int .i64 ((sj + 1:Nat):Int)),(58,.int .i64 (sj:Int)),(59,pq pd (0 + sj * 2)),(60,pq pd (0 + sj * 2)),(61,.int .u64 (1 + (j1:Int))),(62,.int .u64 (qe 1 (st j1) j1).due),(63,.slice ao n c),(64,.slice da n dc),(65,.int .i64 ((sj + 1:Nat):Int)),(66,pq pd (0 + (sj + 1) * 2)),(67,pq pd (0 + (sj + 1) * 2)),(68,.int .u64 (1 + (j2:Int))),(69,.int .u64 (qe 1 (st j2) j2).due)] (by kernel_rfl) ?_))
    refine gc_seq ?_
    replace BB:=BB.drew
    replace BD:=BD.drew
    refine gc_draw (fun w'=>Below VD.heap.size VD w') (fun _=>false) BD ?_
    refine z 0 70 (.int .u64 (qe 1 (st j1) j1).due) ?_
    refine z 1 71 (.int .u64 (qe 1 (st j2) j2).due) ?_
    have t14:¬ (((qe 1 (st j2) j2).due:Int) < (qe 1 (st j1) j1).due):=by rcases hord with ho | ho<;>omega
    refine zq 2 72 (.bool (decide (((qe 1 (st j2) j2).due:Int) < (qe 1 (st j1) j1).due))) (.bool false) (congrArg Value.bool (decide_eq_false t14)) ?_
    refine z 3 73 (.bool false) ?_
    refine z 4 74 (.int .u64 (qe 1 (st j1) j1).due) ?_
    refine z 5 75 (.int .u64 (qe 1 (st j2) j2).due) ?_
    by_cases c15:((qe 1 (st j1) j1).due:Int)=(qe 1 (st j2) j2).due
    ·refine zq 6 76 (.bool (((qe 1 (st j1) j1).due:Int) == (qe 1 (st j2) j2).due)) (.bool true) (congrArg Value.bool (beq_iff_eq.2 c15)) ?_
     refine z 7 77 (.bool true) ?_
     refine z 8 78 (.slice da n dc) ?_
     refine z 9 79 (.int .i64 ((sj + 1:Nat):Int)) ?_
     refine zq 10 80 (.int .i64 (IntKind.i64.wrap (((sj + 1:Nat):Int) - 1))) (.int .i64 (sj:Int)) (congrArg (Value.int .i64) (by rw [IntKind.wrap_i64]; omega)) ?_
     refine zr 11 81 (pq pd (0 + sj * 2)) (fun _ h=>run_ixa 2 pd 0 n dc sj (by omega) hpd) ?_
     refine z 12 82 (pq pd (0 + sj * 2)) ?_
     refine zr 13 83 (.int .u64 (1 + (j1:Int))) (fun _ h=>run_ld64 (cellB h hcA)) ?_
     refine z 14 84 (.slice da n dc) ?_
     refine z 15 85 (.int .i64 ((sj + 1:Nat):Int)) ?_
     refine zr 16 86 (pq pd (0 + (sj + 1) * 2)) (fun _ h=>run_ixa 2 pd 0 n dc (sj + 1) hk_t hpd) ?_
     refine z 17 87 (pq pd (0 + (sj + 1) * 2)) ?_
     refine zr 18 88 (.int .u64 (1 + (j2:Int))) (fun _ h=>run_ld64 (cellB h hcB)) ?_
     have t16:¬ ((1 + (j2:Int):Int)<=1 + (j1:Int)):=by rcases hord with ho | ho<;>omega
     refine zq 19 89 (.bool (decide ((1 + (j2:Int):Int)<=1 + (j1:Int)))) (.bool false) (congrArg Value.bool (decide_eq_false t16)) ?_
     refine z 20 90 (.bool false) ?_
     refine z 21 91 (.bool false) ?_
     refine gz_done (ge_then (gc_fr [(0,.slice ao n c),(3,pg g0),(5,.slice da n dc),(6,.int .i64 ((sj + 1:Nat):Int)),(7,.int .u64 (qe 1 (st j1) j1).due),(8,.int .u64 (qe 1 (st j2) j2).due),(49,.int .i64 ((sj + 1:Nat):Int)),(50,.slice da n dc),(51,.int .i64 ((n:Nat):Int)),(52,.bool true),(55,.slice ao n c),(56,.slice da n dc),(57,.int .i64 ((sj + 1:Nat):Int)),(58,.int .i64 (sj:Int)),(59,pq pd (0 + sj * 2)),(60,pq pd (0 + sj * 2)),(61,.int .u64 (1 + (j1:Int))),(62,.int .u64 (qe 1 (st j1) j1).due),(63,.slice ao n c),(64,.slice da n dc),(65,.int .i64 ((sj + 1:Nat):Int)),(66,pq pd (0 + (sj + 1) * 2)),(67,pq pd (0 + (sj + 1) * 2)),(68,.int .u64 (1 + (j2:Int))),(69,.int .u64 (qe 1 (st j2) j2).due),(70,.int .u64 (qe 1 (st j1) j1).due),(71,.int .u64 (qe 1 (st j2) j2).due),(72,.bool false),(73,.bool false),(74,.int .u64 (qe 1 (st j1) j1).due),(75,.int .u64 (qe 1 (st j2) j2).due),(76,.bool true),(77,.bool true),(78,.slice da n dc),(79,.int .i64 ((sj + 1:Nat):Int)),(80,.int .i64 (sj:Int)),(81,pq pd (0 + sj * 2)),(82,pq pd (0 + sj * 2)),(83,.int .u64 (1 + (j1:Int))),(84,.slice da n dc),(85,.int .i64 ((sj + 1:Nat):Int)),(86,pq pd (0 + (sj + 1) * 2)),(87,pq pd (0 + (sj + 1) * 2)),(88,.int .u64 (1 + (j2:Int))),(89,.bool false),(90,.bool false),(91,.bool false)] (by kernel_rfl) ?_))
     refine gc_no ?_
     refine gc_skip (ge_bn (ge_then (gc_reg (t 53 (.int .i64 ((sj + 1:Nat):Int)) ?_))))
     refine tq 54 (.int .i64 (IntKind.i64.wrap (((sj + 1:Nat):Int) + 1))) (.int .i64 (((sj + 1:Nat):Int) + 1)) (wi (by omega)) ?_
     refine t 6 (.int .i64 (((sj + 1:Nat):Int) + 1)) ?_
     refine gl_nil ?_
     exact ge_round (sj + 1) (by show n - (sj + 1) < n - sj; omega) ⟨BB,BD⟩ (by kernel_rfl)
    ·refine zq 6 76 (.bool (((qe 1 (st j1) j1).due:Int) == (qe 1 (st j2) j2).due)) (.bool false) (congrArg Value.bool (beq_eq_false_iff_ne.2 c15)) ?_
     refine z 7 77 (.bool false) ?_
     refine zn 8 78 ?_
     refine zn 9 79 ?_
     refine zn 10 80 ?_
     refine zn 11 81 ?_
     refine zn 12 82 ?_
     refine zn 13 83 ?_
     refine zn 14 84 ?_
     refine zn 15 85 ?_
     refine zn 16 86 ?_
     refine zn 17 87 ?_
     refine zn 18 88 ?_
     refine zn 19 89 ?_
     refine z 20 90 (.bool false) ?_
     refine z 21 91 (.bool false) ?_
     refine gz_done (ge_then (gc_fr [(0,.slice ao n c),(3,pg g0),(5,.slice da n dc),(6,.int .i64 ((sj + 1:Nat):Int)),(7,.int .u64 (qe 1 (st j1) j1).due),(8,.int .u64 (qe 1 (st j2) j2).due),(49,.int .i64 ((sj + 1:Nat):Int)),(50,.slice da n dc),(51,.int .i64 ((n:Nat):Int)),(52,.bool true),(55,.slice ao n c),(56,.slice da n dc),(57,.int .i64 ((sj + 1:Nat):Int)),(58,.int .i64 (sj:Int)),(59,pq pd (0 + sj * 2)),(60,pq pd (0 + sj * 2)),(61,.int .u64 (1 + (j1:Int))),(62,.int .u64 (qe 1 (st j1) j1).due),(63,.slice ao n c),(64,.slice da n dc),(65,.int .i64 ((sj + 1:Nat):Int)),(66,pq pd (0 + (sj + 1) * 2)),(67,pq pd (0 + (sj + 1) * 2)),(68,.int .u64 (1 + (j2:Int))),(69,.int .u64 (qe 1 (st j2) j2).due),(70,.int .u64 (qe 1 (st j1) j1).due),(71,.int .u64 (qe 1 (st j2) j2).due),(72,.bool false),(73,.bool false),(74,.int .u64 (qe 1 (st j1) j1).due),(75,.int .u64 (qe 1 (st j2) j2).due),(76,.bool false),(77,.bool false),(78,undef),(79,undef),(80,undef),(81,undef),(82,undef),(83,undef),(84,undef),(85,undef),(86,undef),(87,undef),(88,undef),(89,undef),(90,.bool false),(91,.bool false)] (by kernel_rfl) ?_))
     refine gc_no ?_
     refine gc_skip (ge_bn (ge_then (gc_reg (t 53 (.int .i64 ((sj + 1:Nat):Int)) ?_))))
     refine tq 54 (.int .i64 (IntKind.i64.wrap (((sj + 1:Nat):Int) + 1))) (.int .i64 (((sj + 1:Nat):Int) + 1)) (wi (by omega)) ?_
     refine t 6 (.int .i64 (((sj + 1:Nat):Int) + 1)) ?_
     refine gl_nil ?_
     exact ge_round (sj + 1) (by show n - (sj + 1) < n - sj; omega) ⟨BB,BD⟩ (by kernel_rfl)
   ·refine tq 52 (.bool (decide (((sj + 1:Nat):Int) < ((n:Nat):Int)))) (.bool false) (congrArg Value.bool (decide_eq_false ct)) ?_
    refine gl_nil (ge_then (gc_no ?_))
    refine gc_exit (ge_tx (ge_tx (ge_bx (ge_then (gc_seq (gc_seq (gc_reg (t 9 (.int .i64 0) ?_))))))))
    refine gl_nil (ge_then (gc_block ?_))
    have A:=AD.keep BD
    refine gc_loop (fun s=>n - s) (fun (s:Nat)=>[(0,.slice ao n c),(3,pg g0),(5,.slice da n dc),(9,.int .i64 (s:Int))]) (fun s w'=>s<=n/\Below w.heap.size w w'/\∃ K nn NN,Sx Bz w' K g0 E [] nn NN/\nn<=10000 + s * 5000/\NN<=3002) (0:Nat) ⟨Nat.zero_le _,BB,_,_,_,A.sx,by omega,by omega⟩ (by kernel_rfl) ?_
    clear BB
    clear BD
    clear A
    rintro i v17 ⟨hi,BB,K2,n2,N2,S,hn2,hN2⟩
    have A:=S.at
    clear S
    refine gc_seq (gc_seq (gc_reg (t 92 (.int .i64 (i:Int)) ?_)))
    refine t 93 (.slice ao n c) ?_
    refine t 94 (.int .i64 ((n:Nat):Int)) ?_
    by_cases ci:(i:Int) < ((n:Nat):Int)
    ·have hk_i:i < n:=by omega
     have rr:=SS.rng i hk_i
     refine tq 95 (.bool (decide ((i:Int) < ((n:Nat):Int)))) (.bool true) (congrArg Value.bool (decide_eq_true ci)) ?_
     refine gl_nil (ge_then (gc_yes ?_))
     refine gc_skip (ge_then (gc_seq (gc_block (gc_seq (gc_reg (t 98 (pg g0) ?_))))))
     refine t 99 (.slice ao n c) ?_
     refine t 100 (.int .i64 (i:Int)) ?_
     refine tr 101 (pq pb (po_ + i * 16)) (run_ixa 16 pb po_ n c i hk_i SS.ptr) ?_
     refine tr 102 (.agg #[.int .i64 (st i).w,.int .i64 (st i).k,.int .u64 (st i).n,.int .u64 (st i).u0,.int .u64 (st i).u1,.int .u64 (st i).u2,.int .u64 (st i).u3,.int .u64 (st i).u4,.int .u64 (st i).u5,.int .u64 (st i).m0,.int .u64 (st i).m1,.int .u64 (st i).m2,.int .u64 (st i).m3,.int .u64 (st i).m4,.int .u64 (st i).m5,.slice (Sq.a (st i)) (Sq.l (st i)) (Sq.c (st i))]) (run_lS SS hk_i BB) ?_
     refine tc 103 51 #[.agg #[.int .i64 (st i).w,.int .i64 (st i).k,.int .u64 (st i).n,.int .u64 (st i).u0,.int .u64 (st i).u1,.int .u64 (st i).u2,.int .u64 (st i).u3,.int .u64 (st i).u4,.int .u64 (st i).u5,.int .u64 (st i).m0,.int .u64 (st i).m1,.int .u64 (st i).m2,.int .u64 (st i).m3,.int .u64 (st i).m4,.int .u64 (st i).m5,.slice (Sq.a (st i)) (Sq.l (st i)) (Sq.c (st i))]] (source_any 1 i) ?_
     rintro _ v18 ⟨rfl,B⟩
     refine ⟨_,rfl,?_⟩
     replace BB:=joinB BB B
     replace A:=A.keep B
     clear B
     have gi:=Q.at hk_i
     have lgnf:=A.sx.sa.lt A.sx.sa.top
     refine tc 104 48 #[pg g0,.int .u64 (qe 1 (st i) i).val] (from_x A.sx gi.2.2.2.1 Q.keys (by omega) (by omega)) ?_
     rintro _ v19 ⟨fv,nf,rfl,UF,S,qnfa,qnfb,qnfc,C⟩
     refine ⟨_,rfl,?_⟩
     have hC:=C.mono (fun b _ (e:b=g0)=>e▸A.sx.sa.top)
     replace BB:=belowO BB hC (fun b hb=>Nat.le_trans hwB (A.sx.kb b hb))
     replace A:=A.op S (fun _ h=>.inl h) hC
     clear S hC C
     obtain ⟨fa,fc,rfl⟩:=UF.shape
     obtain ⟨fl,hfl⟩:∃ m,(under E (p15 (qe 1 (st i) i).val)).length=m:=⟨_,rfl⟩
     rw [hfl] at UF qnfc ⊢
     refine t 10 (.slice fa fl fc) ?_
     refine gl_nil (ge_then (gc_fr [(0,.slice ao n c),(3,pg g0),(5,.slice da n dc),(9,.int .i64 (i:Int)),(10,.slice fa fl fc),(92,.int .i64 (i:Int)),(93,.slice ao n c),(94,.int .i64 ((n:Nat):Int)),(95,.bool true),(98,pg g0),(99,.slice ao n c),(100,.int .i64 (i:Int)),(101,pq pb (po_ + i * 16)),(102,.agg #[.int .i64 (st i).w,.int .i64 (st i).k,.int .u64 (st i).n,.int .u64 (st i).u0,.int .u64 (st i).u1,.int .u64 (st i).u2,.int .u64 (st i).u3,.int .u64 (st i).u4,.int .u64 (st i).u5,.int .u64 (st i).m0,.int .u64 (st i).m1,.int .u64 (st i).m2,.int .u64 (st i).m3,.int .u64 (st i).m4,.int .u64 (st i).m5,.slice (Sq.a (st i)) (Sq.l (st i)) (Sq.c (st i))]),(103,.int .u64 (qe 1 (st i) i).val),(104,.slice fa fl fc)] (by kernel_rfl) ?_))
     refine gc_seq (gc_reg (t 11 (.int .u64 0) ?_))
     refine gl_nil (ge_then (gc_seq (gc_seq (gc_reg (t 12 (.int .i64 0) ?_)))))
     refine gl_nil (ge_then (gc_block ?_))
     obtain ⟨VF,hVF⟩:∃ V,v19=V:=⟨_,rfl⟩
     rw [hVF] at BB A UF ⊢
     obtain ⟨-,pf,hpf,hcf⟩:=UF.cells
     have AF:=A
     have zF:=BB.size
     refine gc_loop (fun s=>n - s.1) (fun (s:Nat × Nat)=>[(0,.slice ao n c),(3,pg g0),(5,.slice da n dc),(9,.int .i64 (i:Int)),(10,.slice fa fl fc),(11,.int .u64 (s.2:Int)),(12,.int .i64 (s.1:Int))]) (fun s w'=>s.1<=n/\s.2<=s.1/\s.2=cnt (qes 1 st s.1) (qe 1 (st i) i).del (qe 1 (st i) i).val/\Below w.heap.size w w'/\Below VF.heap.size VF w') ((0,0):Nat × Nat) ⟨Nat.zero_le _,Nat.le_refl _,rfl,BB,Below.refl _ _⟩ (by kernel_rfl) ?_
     clear BB
     clear A
     clear UF
     rintro ⟨k,m⟩ v20 ⟨hk,hmk,hm,BB,BF⟩
     dsimp only at hk hmk hm
     refine gc_seq (gc_seq (gc_reg (t 105 (.int .i64 (k:Int)) ?_)))
     refine t 106 (.slice ao n c) ?_
     refine t 107 (.int .i64 ((n:Nat):Int)) ?_
     by_cases ck:(k:Int) < ((n:Nat):Int)
     ·have hk_k:k < n:=by omega
      refine tq 108 (.bool (decide ((k:Int) < ((n:Nat):Int)))) (.bool true) (congrArg Value.bool (decide_eq_true ck)) ?_
      refine gl_nil (ge_then (gc_yes ?_))
      refine gc_skip (ge_then (gc_seq (gc_block (gc_seq ?_))))
      replace BB:=BB.drew
      replace BF:=BF.drew
      refine gc_draw (fun w'=>Below w.heap.size w w') (fun _=>false) BB ?_
      refine z 0 111 (.slice ao n c) ?_
      refine z 1 112 (.int .i64 (k:Int)) ?_
      refine zr 2 113 (pq pb (po_ + k * 16)) (fun _ h=>run_ixa 16 pb po_ n c k hk_k SS.ptr) ?_
      refine zr 3 114 (.agg #[.int .i64 (st k).w,.int .i64 (st k).k,.int .u64 (st k).n,.int .u64 (st k).u0,.int .u64 (st k).u1,.int .u64 (st k).u2,.int .u64 (st k).u3,.int .u64 (st k).u4,.int .u64 (st k).u5,.int .u64 (st k).m0,.int .u64 (st k).m1,.int .u64 (st k).m2,.int .u64 (st k).m3,.int .u64 (st k).m4,.int .u64 (st k).m5,.slice (Sq.a (st k)) (Sq.l (st k)) (Sq.c (st k))]) (fun _ h=>run_lS SS hk_k h) ?_
      refine z 5 116 (.slice ao n c) ?_
      refine z 6 117 (.int .i64 (i:Int)) ?_
      refine zr 7 118 (pq pb (po_ + i * 16)) (fun _ h=>run_ixa 16 pb po_ n c i hk_i SS.ptr) ?_
      refine zr 8 119 (.agg #[.int .i64 (st i).w,.int .i64 (st i).k,.int .u64 (st i).n,.int .u64 (st i).u0,.int .u64 (st i).u1,.int .u64 (st i).u2,.int .u64 (st i).u3,.int .u64 (st i).u4,.int .u64 (st i).u5,.int .u64 (st i).m0,.int .u64 (st i).m1,.int .u64 (st i).m2,.int .u64 (st i).m3,.int .u64 (st i).m4,.int .u64 (st i).m5,.slice (Sq.a (st i)) (Sq.l (st i)) (Sq.c (st i))]) (fun _ h=>run_lS SS hk_i h) ?_
      refine zc 4 115 51 #[.agg #[.int .i64 (st k).w,.int .i64 (st k).k,.int .u64 (st k).n,.int .u64 (st k).u0,.int .u64 (st k).u1,.int .u64 (st k).u2,.int .u64 (st k).u3,.int .u64 (st k).u4,.int .u64 (st k).u5,.int .u64 (st k).m0,.int .u64 (st k).m1,.int .u64 (st k).m2,.int .u64 (st k).m3,.int .u64 (st k).m4,.int .u64 (st k).m5,.slice (Sq.a (st k)) (Sq.l (st k)) (Sq.c (st k))]] (source_any 1 k) ?_
      rintro _ v21 ⟨rfl,B⟩
      replace BB:=joinB BB B
      replace BF:=joinB BF B
      clear B
      refine ⟨_,rfl,BB,?_⟩
      refine zc 9 120 51 #[.agg #[.int .i64 (st i).w,.int .i64 (st i).k,.int .u64 (st i).n,.int .u64 (st i).u0,.int .u64 (st i).u1,.int .u64 (st i).u2,.int .u64 (st i).u3,.int .u64 (st i).u4,.int .u64 (st i).u5,.int .u64 (st i).m0,.int .u64 (st i).m1,.int .u64 (st i).m2,.int .u64 (st i).m3,.int .u64 (st i).m4,.int .u64 (st i).m5,.slice (Sq.a (st i)) (Sq.l (st i)) (Sq.c (st i))]] (source_any 1 i) ?_
      rintro _ v22 ⟨rfl,B⟩
      replace BB:=joinB BB B
      replace BF:=joinB BF B
      clear B
      refine ⟨_,rfl,BB,?_⟩
      by_cases c23:((qe 1 (st k) k).val:Int)=(qe 1 (st i) i).val
      ·refine zq 10 121 (.bool (((qe 1 (st k) k).val:Int) == (qe 1 (st i) i).val)) (.bool true) (congrArg Value.bool (beq_iff_eq.2 c23)) ?_
       refine z 11 122 (.bool true) ?_
       refine z 12 123 (.slice ao n c) ?_
       refine z 13 124 (.int .i64 (k:Int)) ?_
       refine zr 14 125 (pq pb (po_ + k * 16)) (fun _ h=>run_ixa 16 pb po_ n c k hk_k SS.ptr) ?_
       refine zr 15 126 (.agg #[.int .i64 (st k).w,.int .i64 (st k).k,.int .u64 (st k).n,.int .u64 (st k).u0,.int .u64 (st k).u1,.int .u64 (st k).u2,.int .u64 (st k).u3,.int .u64 (st k).u4,.int .u64 (st k).u5,.int .u64 (st k).m0,.int .u64 (st k).m1,.int .u64 (st k).m2,.int .u64 (st k).m3,.int .u64 (st k).m4,.int .u64 (st k).m5,.slice (Sq.a (st k)) (Sq.l (st k)) (Sq.c (st k))]) (fun _ h=>run_lS SS hk_k h) ?_
       refine z 17 128 (.slice ao n c) ?_
       refine z 18 129 (.int .i64 (i:Int)) ?_
       refine zr 19 130 (pq pb (po_ + i * 16)) (fun _ h=>run_ixa 16 pb po_ n c i hk_i SS.ptr) ?_
       refine zr 20 131 (.agg #[.int .i64 (st i).w,.int .i64 (st i).k,.int .u64 (st i).n,.int .u64 (st i).u0,.int .u64 (st i).u1,.int .u64 (st i).u2,.int .u64 (st i).u3,.int .u64 (st i).u4,.int .u64 (st i).u5,.int .u64 (st i).m0,.int .u64 (st i).m1,.int .u64 (st i).m2,.int .u64 (st i).m3,.int .u64 (st i).m4,.int .u64 (st i).m5,.slice (Sq.a (st i)) (Sq.l (st i)) (Sq.c (st i))]) (fun _ h=>run_lS SS hk_i h) ?_
       refine zc 16 127 52 #[.agg #[.int .i64 (st k).w,.int .i64 (st k).k,.int .u64 (st k).n,.int .u64 (st k).u0,.int .u64 (st k).u1,.int .u64 (st k).u2,.int .u64 (st k).u3,.int .u64 (st k).u4,.int .u64 (st k).u5,.int .u64 (st k).m0,.int .u64 (st k).m1,.int .u64 (st k).m2,.int .u64 (st k).m3,.int .u64 (st k).m4,.int .u64 (st k).m5,.slice (Sq.a (st k)) (Sq.l (st k)) (Sq.c (st k))]] (owner_any 1 k) ?_
       rintro _ v24 ⟨rfl,B⟩
       replace BB:=joinB BB B
       replace BF:=joinB BF B
       clear B
       refine ⟨_,rfl,BB,?_⟩
       refine zc 21 132 52 #[.agg #[.int .i64 (st i).w,.int .i64 (st i).k,.int .u64 (st i).n,.int .u64 (st i).u0,.int .u64 (st i).u1,.int .u64 (st i).u2,.int .u64 (st i).u3,.int .u64 (st i).u4,.int .u64 (st i).u5,.int .u64 (st i).m0,.int .u64 (st i).m1,.int .u64 (st i).m2,.int .u64 (st i).m3,.int .u64 (st i).m4,.int .u64 (st i).m5,.slice (Sq.a (st i)) (Sq.l (st i)) (Sq.c (st i))]] (owner_any 1 i) ?_
       rintro _ v25 ⟨rfl,B⟩
       replace BB:=joinB BB B
       replace BF:=joinB BF B
       clear B
       refine ⟨_,rfl,BB,?_⟩
       by_cases c26:((qe 1 (st k) k).del:Int)=(qe 1 (st i) i).del
       ·refine zq 22 133 (.bool (((qe 1 (st k) k).del:Int) == (qe 1 (st i) i).del)) (.bool true) (congrArg Value.bool (beq_iff_eq.2 c26)) ?_
        refine z 23 134 (.bool true) ?_
        refine gz_done (ge_then (gc_fr [(0,.slice ao n c),(3,pg g0),(5,.slice da n dc),(9,.int .i64 (i:Int)),(10,.slice fa fl fc),(11,.int .u64 (m:Int)),(12,.int .i64 (k:Int)),(105,.int .i64 (k:Int)),(106,.slice ao n c),(107,.int .i64 ((n:Nat):Int)),(108,.bool true),(111,.slice ao n c),(112,.int .i64 (k:Int)),(113,pq pb (po_ + k * 16)),(114,.agg #[.int .i64 (st k).w,.int .i64 (st k).k,.int .u64 (st k).n,.int .u64 (st k).u0,.int .u64 (st k).u1,.int .u64 (st k).u2,.int .u64 (st k).u3,.int .u64 (st k).u4,.int .u64 (st k).u5,.int .u64 (st k).m0,.int .u64 (st k).m1,.int .u64 (st k).m2,.int .u64 (st k).m3,.int .u64 (st k).m4,.int .u64 (st k).m5,.slice (Sq.a (st k)) (Sq.l (st k)) (Sq.c (st k))]),(115,.int .u64 (qe 1 (st k) k).val),(116,.slice ao n c),(117,.int .i64 (i:Int)),(118,pq pb (po_ + i * 16)),(119,.agg #[.int .i64 (st i).w,.int .i64 (st i).k,.int .u64 (st i).n,.int .u64 (st i).u0,.int .u64 (st i).u1,.int .u64 (st i).u2,.int .u64 (st i).u3,.int .u64 (st i).u4,.int .u64 (st i).u5,.int .u64 (st i).m0,.int .u64 (st i).m1,.int .u64 (st i).m2,.int .u64 (st i).m3,.int .u64 (st i).m4,.int .u64 (st i).m5,.slice (Sq.a (st i)) (Sq.l (st i)) (Sq.c (st i))]),(120,.int .u64 (qe 1 (st i) i).val),(121,.bool true),(122,.bool true),(123,.slice ao n c),(124,.int .i64 (k:Int)),(125,pq pb (po_ + k * 16)),(126,.agg #[.int .i64 (st k).w,.int .i64 (st k).k,.int .u64 (st k).n,.int .u64 (st k).u0,.int .u64 (st k).u1,.int .u64 (st k).u2,.int .u64 (st k).u3,.int .u64 (st k).u4,.int .u64 (st k).u5,.int .u64 (st k).m0,.int .u64 (st k).m1,.int .u64 (st k).m2,.int .u64 (st k).m3,.int .u64 (st k).m4,.int .u64 (st k).m5,.slice (Sq.a (st k)) (Sq.l (st k)) (Sq.c (st k))]),(127,.int .u64 (qe 1 (st k) k).del),(128,.slice ao n c),(129,.int .i64 (i:Int)),(130,pq pb (po_ + i * 16)),(131,.agg #[.int .i64 (st i).w,.int .i64 (st i).k,.int .u64 (st i).n,.int .u64 (st i).u0,.int .u64 (st i).u1,.int .u64 (st i).u2,.int .u64 (st i).u3,.int .u64 (st i).u4,.int .u64 (st i).u5,.int .u64 (st i).m0,.int .u64 (st i).m1,.int .u64 (st i).m2,.int .u64 (st i).m3,.int .u64 (st i).m4,.int .u64 (st i).m5,.slice (Sq.a (st i)) (Sq.l (st i)) (Sq.c (st i))]),(132,.int .u64 (qe 1 (st i) i).del),(133,.bool true),(134,.bool true)] (by kernel_rfl) ?_))
        refine gc_yes ?_
        refine gc_reg (t 135 (.int .u64 (m:Int)) ?_)
        refine tq 136 (.int .u64 (IntKind.u64.wrap ((m:Int) + 1))) (.int .u64 ((m:Int) + 1)) (wu (by omega)) ?_
        refine t 11 (.int .u64 ((m:Int) + 1)) ?_
        refine gl_nil (ge_bn (ge_then (gc_reg (t 109 (.int .i64 (k:Int)) ?_))))
        refine tq 110 (.int .i64 (IntKind.i64.wrap ((k:Int) + 1))) (.int .i64 ((k:Int) + 1)) (wi (by omega)) ?_
        refine t 12 (.int .i64 ((k:Int) + 1)) ?_
        refine gl_nil ?_
        exact ge_round ((k + 1,m + 1):Nat × Nat) (by show n - (k + 1) < n - k; omega) ⟨hk_k,by show m + 1<=k + 1; omega,by show m + 1=cnt (qes 1 st (k + 1)) _ _; rw [qes_succ,cnt_app,if_pos ⟨c26,c23⟩,hm],BB,BF⟩ (by kernel_rfl)
       ·refine zq 22 133 (.bool (((qe 1 (st k) k).del:Int) == (qe 1 (st i) i).del)) (.bool false) (congrArg Value.bool (beq_eq_false_iff_ne.2 c26)) ?_
        refine z 23 134 (.bool false) ?_
        refine gz_done (ge_then (gc_fr [(0,.slice ao n c),(3,pg g0),(5,.slice da n dc),(9,.int .i64 (i:Int)),(10,.slice fa fl fc),(11,.int .u64 (m:Int)),(12,.int .i64 (k:Int)),(105,.int .i64 (k:Int)),(106,.slice ao n c),(107,.int .i64 ((n:Nat):Int)),(108,.bool true),(111,.slice ao n c),(112,.int .i64 (k:Int)),(113,pq pb (po_ + k * 16)),(114,.agg #[.int .i64 (st k).w,.int .i64 (st k).k,.int .u64 (st k).n,.int .u64 (st k).u0,.int .u64 (st k).u1,.int .u64 (st k).u2,.int .u64 (st k).u3,.int .u64 (st k).u4,.int .u64 (st k).u5,.int .u64 (st k).m0,.int .u64 (st k).m1,.int .u64 (st k).m2,.int .u64 (st k).m3,.int .u64 (st k).m4,.int .u64 (st k).m5,.slice (Sq.a (st k)) (Sq.l (st k)) (Sq.c (st k))]),(115,.int .u64 (qe 1 (st k) k).val),(116,.slice ao n c),(117,.int .i64 (i:Int)),(118,pq pb (po_ + i * 16)),(119,.agg #[.int .i64 (st i).w,.int .i64 (st i).k,.int .u64 (st i).n,.int .u64 (st i).u0,.int .u64 (st i).u1,.int .u64 (st i).u2,.int .u64 (st i).u3,.int .u64 (st i).u4,.int .u64 (st i).u5,.int .u64 (st i).m0,.int .u64 (st i).m1,.int .u64 (st i).m2,.int .u64 (st i).m3,.int .u64 (st i).m4,.int .u64 (st i).m5,.slice (Sq.a (st i)) (Sq.l (st i)) (Sq.c (st i))]),(120,.int .u64 (qe 1 (st i) i).val),(121,.bool true),(122,.bool true),(123,.slice ao n c),(124,.int .i64 (k:Int)),(125,pq pb (po_ + k * 16)),(126,.agg #[.int .i64 (st k).w,.int .i64 (st k).k,.int .u64 (st k).n,.int .u64 (st k).u0,.int .u64 (st k).u1,.int .u64 (st k).u2,.int .u64 (st k).u3,.int .u64 (st k).u4,.int .u64 (st k).u5,.int .u64 (st k).m0,.int .u64 (st k).m1,.int .u64 (st k).m2,.int .u64 (st k).m3,.int .u64 (st k).m4,.int .u64 (st k).m5,.slice (Sq.a (st k)) (Sq.l (st k)) (Sq.c (st k))]),(127,.int .u64 (qe 1 (st k) k).del),(128,.slice ao n c),(129,.int .i64 (i:Int)),(130,pq pb (po_ + i * 16)),(131,.agg #[.int .i64 (st i).w,.int .i64 (st i).k,.int .u64 (st i).n,.int .u64 (st i).u0,.int .u64 (st i).u1,.int .u64 (st i).u2,.int .u64 (st i).u3,.int .u64 (st i).u4,.int .u64 (st i).u5,.int .u64 (st i).m0,.int .u64 (st i).m1,.int .u64 (st i).m2,.int .u64 (st i).m3,.int .u64 (st i).m4,.int .u64 (st i).m5,.slice (Sq.a (st i)) (Sq.l (st i)) (Sq.c (st i))]),(132,.int .u64 (qe 1 (st i) i).del),(133,.bool false),(134,.bool false)] (by kernel_rfl) ?_))
        refine gc_no ?_
        refine gc_skip (ge_bn (ge_then (gc_reg (t 109 (.int .i64 (k:Int)) ?_))))
        refine tq 110 (.int .i64 (IntKind.i64.wrap ((k:Int) + 1))) (.int .i64 ((k:Int) + 1)) (wi (by omega)) ?_
        refine t 12 (.int .i64 ((k:Int) + 1)) ?_
        refine gl_nil ?_
        exact ge_round ((k + 1,m):Nat × Nat) (by show n - (k + 1) < n - k; omega) ⟨hk_k,by show m<=k + 1; omega,by show m=cnt (qes 1 st (k + 1)) _ _; rw [qes_succ,cnt_app,if_neg (fun q=>c26 q.1),hm]; rfl,BB,BF⟩ (by kernel_rfl)
      ·refine zq 10 121 (.bool (((qe 1 (st k) k).val:Int) == (qe 1 (st i) i).val)) (.bool false) (congrArg Value.bool (beq_eq_false_iff_ne.2 c23)) ?_
       refine z 11 122 (.bool false) ?_
       refine zn 12 123 ?_
       refine zn 13 124 ?_
       refine zn 14 125 ?_
       refine zn 15 126 ?_
       refine zn 16 127 ?_
       refine zn 17 128 ?_
       refine zn 18 129 ?_
       refine zn 19 130 ?_
       refine zn 20 131 ?_
       refine zn 21 132 ?_
       refine zn 22 133 ?_
       refine z 23 134 (.bool false) ?_
       refine gz_done (ge_then (gc_fr [(0,.slice ao n c),(3,pg g0),(5,.slice da n dc),(9,.int .i64 (i:Int)),(10,.slice fa fl fc),(11,.int .u64 (m:Int)),(12,.int .i64 (k:Int)),(105,.int .i64 (k:Int)),(106,.slice ao n c),(107,.int .i64 ((n:Nat):Int)),(108,.bool true),(111,.slice ao n c),(112,.int .i64 (k:Int)),(113,pq pb (po_ + k * 16)),(114,.agg #[.int .i64 (st k).w,.int .i64 (st k).k,.int .u64 (st k).n,.int .u64 (st k).u0,.int .u64 (st k).u1,.int .u64 (st k).u2,.int .u64 (st k).u3,.int .u64 (st k).u4,.int .u64 (st k).u5,.int .u64 (st k).m0,.int .u64 (st k).m1,.int .u64 (st k).m2,.int .u64 (st k).m3,.int .u64 (st k).m4,.int .u64 (st k).m5,.slice (Sq.a (st k)) (Sq.l (st k)) (Sq.c (st k))]),(115,.int .u64 (qe 1 (st k) k).val),(116,.slice ao n c),(117,.int .i64 (i:Int)),(118,pq pb (po_ + i * 16)),(119,.agg #[.int .i64 (st i).w,.int .i64 (st i).k,.int .u64 (st i).n,.int .u64 (st i).u0,.int .u64 (st i).u1,.int .u64 (st i).u2,.int .u64 (st i).u3,.int .u64 (st i).u4,.int .u64 (st i).u5,.int .u64 (st i).m0,.int .u64 (st i).m1,.int .u64 (st i).m2,.int .u64 (st i).m3,.int .u64 (st i).m4,.int .u64 (st i).m5,.slice (Sq.a (st i)) (Sq.l (st i)) (Sq.c (st i))]),(120,.int .u64 (qe 1 (st i) i).val),(121,.bool false),(122,.bool false),(123,undef),(124,undef),(125,undef),(126,undef),(127,undef),(128,undef),(129,undef),(130,undef),(131,undef),(132,undef),(133,undef),(134,.bool false)] (by kernel_rfl) ?_))
       refine gc_no ?_
       refine gc_skip (ge_bn (ge_then (gc_reg (t 109 (.int .i64 (k:Int)) ?_))))
       refine tq 110 (.int .i64 (IntKind.i64.wrap ((k:Int) + 1))) (.int .i64 ((k:Int) + 1)) (wi (by omega)) ?_
       refine t 12 (.int .i64 ((k:Int) + 1)) ?_
       refine gl_nil ?_
       exact ge_round ((k + 1,m):Nat × Nat) (by show n - (k + 1) < n - k; omega) ⟨hk_k,by show m<=k + 1; omega,by show m=cnt (qes 1 st (k + 1)) _ _; rw [qes_succ,cnt_app,if_neg (fun q=>c23 q.2),hm]; rfl,BB,BF⟩ (by kernel_rfl)
     ·have hkn:k=n:=by omega
      have hcnt:cntQ E (qe 1 (st i) i).del (qe 1 (st i) i).val=(m:Int):=by rw [Q.cntQ gi.2.2.1 gi.2.2.2.1 (by rw [qes_len]; omega),hm,hkn]
      refine tq 108 (.bool (decide ((k:Int) < ((n:Nat):Int)))) (.bool false) (congrArg Value.bool (decide_eq_false ck)) ?_
      refine gl_nil (ge_then (gc_no ?_))
      refine gc_exit (ge_tx (ge_tx (ge_bx (ge_then (gc_seq (gc_seq (gc_reg (t 13 (.int .i64 1) ?_))))))))
      refine gl_nil (ge_then (gc_block (gc_loop (fun s=>fl - s) (fun (s:Nat)=>[(0,.slice ao n c),(3,pg g0),(5,.slice da n dc),(9,.int .i64 (i:Int)),(10,.slice fa fl fc),(11,.int .u64 (m:Int)),(13,.int .i64 ((s + 1:Nat):Int))]) (fun s w'=>Below w.heap.size w w'/\Below VF.heap.size VF w') (0:Nat) ⟨BB,BF⟩ (by kernel_rfl) ?_)))
      clear BB
      clear BF
      rintro sj v27 ⟨BB,BF⟩
      refine gc_seq (gc_seq (gc_reg (t 137 (.int .i64 ((sj + 1:Nat):Int)) ?_)))
      refine t 138 (.slice fa fl fc) ?_
      refine t 139 (.int .i64 ((fl:Nat):Int)) ?_
      by_cases cu:((sj + 1:Nat):Int) < ((fl:Nat):Int)
      ·have hk_t:sj + 1 < fl:=by omega
       obtain ⟨e1,he1,e2,he2,hL1,hL2,hord⟩:=Q.frmOrd (by omega) gi.2.2.2.1 (j:=sj) (by rw [hfl]; exact hk_t)
       obtain ⟨j1,hj1,rfl⟩:=qes_mem.1 he1
       obtain ⟨j2,hj2,rfl⟩:=qes_mem.1 he2
       rw [qe_id] at hL1 hL2
       rw [qe_id,qe_id] at hord
       have hcA:VF.cell? ⟨pf,0 + sj * 2,none⟩=some (.int .u64 (1 + (j1:Int))):=by
        have:=(hcf sj (by omega)).1
        rw [List.getD,hL1] at this
        exact this
       have hcB:VF.cell? ⟨pf,0 + (sj + 1) * 2,none⟩=some (.int .u64 (1 + (j2:Int))):=by
        have:=(hcf (sj + 1) hk_t).1
        rw [List.getD,hL2] at this
        exact this
       refine tq 140 (.bool (decide (((sj + 1:Nat):Int) < ((fl:Nat):Int)))) (.bool true) (congrArg Value.bool (decide_eq_true cu)) ?_
       refine gl_nil (ge_then (gc_yes ?_))
       refine gc_skip (ge_then (gc_seq (gc_block (gc_seq ?_))))
       replace BB:=BB.drew
       replace BF:=BF.drew
       refine gc_draw (fun w'=>Below VF.heap.size VF w') (fun _=>false) BF ?_
       refine z 0 143 (.slice fa fl fc) ?_
       refine z 1 144 (.int .i64 ((sj + 1:Nat):Int)) ?_
       refine zq 2 145 (.int .i64 (IntKind.i64.wrap (((sj + 1:Nat):Int) - 1))) (.int .i64 (sj:Int)) (congrArg (Value.int .i64) (by rw [IntKind.wrap_i64]; omega)) ?_
       refine zr 3 146 (pq pf (0 + sj * 2)) (fun _ h=>run_ixa 2 pf 0 fl fc sj (by omega) hpf) ?_
       refine z 4 147 (pq pf (0 + sj * 2)) ?_
       refine zr 5 148 (.int .u64 (1 + (j1:Int))) (fun _ h=>run_ld64 (cellB h hcA)) ?_
       refine z 6 149 (.slice fa fl fc) ?_
       refine z 7 150 (.int .i64 ((sj + 1:Nat):Int)) ?_
       refine zr 8 151 (pq pf (0 + (sj + 1) * 2)) (fun _ h=>run_ixa 2 pf 0 fl fc (sj + 1) hk_t hpf) ?_
       refine z 9 152 (pq pf (0 + (sj + 1) * 2)) ?_
       refine zr 10 153 (.int .u64 (1 + (j2:Int))) (fun _ h=>run_ld64 (cellB h hcB)) ?_
       have t28:¬ ((1 + (j2:Int):Int)<=1 + (j1:Int)):=by omega
       refine zq 11 154 (.bool (decide ((1 + (j2:Int):Int)<=1 + (j1:Int)))) (.bool false) (congrArg Value.bool (decide_eq_false t28)) ?_
       refine gz_done (ge_then (gc_fr [(0,.slice ao n c),(3,pg g0),(5,.slice da n dc),(9,.int .i64 (i:Int)),(10,.slice fa fl fc),(11,.int .u64 (m:Int)),(13,.int .i64 ((sj + 1:Nat):Int)),(137,.int .i64 ((sj + 1:Nat):Int)),(138,.slice fa fl fc),(139,.int .i64 ((fl:Nat):Int)),(140,.bool true),(143,.slice fa fl fc),(144,.int .i64 ((sj + 1:Nat):Int)),(145,.int .i64 (sj:Int)),(146,pq pf (0 + sj * 2)),(147,pq pf (0 + sj * 2)),(148,.int .u64 (1 + (j1:Int))),(149,.slice fa fl fc),(150,.int .i64 ((sj + 1:Nat):Int)),(151,pq pf (0 + (sj + 1) * 2)),(152,pq pf (0 + (sj + 1) * 2)),(153,.int .u64 (1 + (j2:Int))),(154,.bool false)] (by kernel_rfl) ?_))
       refine gc_no ?_
       refine gc_skip (ge_bn (ge_then (gc_reg (t 141 (.int .i64 ((sj + 1:Nat):Int)) ?_))))
       refine tq 142 (.int .i64 (IntKind.i64.wrap (((sj + 1:Nat):Int) + 1))) (.int .i64 (((sj + 1:Nat):Int) + 1)) (wi (by omega)) ?_
       refine t 13 (.int .i64 (((sj + 1:Nat):Int) + 1)) ?_
       refine gl_nil ?_
       exact ge_round (sj + 1) (by show fl - (sj + 1) < fl - sj; omega) ⟨BB,BF⟩ (by kernel_rfl)
      ·refine tq 140 (.bool (decide (((sj + 1:Nat):Int) < ((fl:Nat):Int)))) (.bool false) (congrArg Value.bool (decide_eq_false cu)) ?_
       refine gl_nil (ge_then (gc_no ?_))
       refine gc_exit (ge_tx (ge_tx (ge_bx (ge_then (gc_seq ?_)))))
       have A:=AF.keep BF
       clear BF
       replace BB:=BB.drew
       replace A:=A.drew
       refine gc_draw (fun w'=>Below w.heap.size w w') (fun _=>false) BB ?_
       refine z 0 155 (pg g0) ?_
       refine z 1 156 (.slice ao n c) ?_
       refine z 2 157 (.int .i64 (i:Int)) ?_
       refine zr 3 158 (pq pb (po_ + i * 16)) (fun _ h=>run_ixa 16 pb po_ n c i hk_i SS.ptr) ?_
       refine zr 4 159 (.agg #[.int .i64 (st i).w,.int .i64 (st i).k,.int .u64 (st i).n,.int .u64 (st i).u0,.int .u64 (st i).u1,.int .u64 (st i).u2,.int .u64 (st i).u3,.int .u64 (st i).u4,.int .u64 (st i).u5,.int .u64 (st i).m0,.int .u64 (st i).m1,.int .u64 (st i).m2,.int .u64 (st i).m3,.int .u64 (st i).m4,.int .u64 (st i).m5,.slice (Sq.a (st i)) (Sq.l (st i)) (Sq.c (st i))]) (fun _ h=>run_lS SS hk_i h) ?_
       refine z 6 161 (.slice ao n c) ?_
       refine z 7 162 (.int .i64 (i:Int)) ?_
       refine zr 8 163 (pq pb (po_ + i * 16)) (fun _ h=>run_ixa 16 pb po_ n c i hk_i SS.ptr) ?_
       refine zr 9 164 (.agg #[.int .i64 (st i).w,.int .i64 (st i).k,.int .u64 (st i).n,.int .u64 (st i).u0,.int .u64 (st i).u1,.int .u64 (st i).u2,.int .u64 (st i).u3,.int .u64 (st i).u4,.int .u64 (st i).u5,.int .u64 (st i).m0,.int .u64 (st i).m1,.int .u64 (st i).m2,.int .u64 (st i).m3,.int .u64 (st i).m4,.int .u64 (st i).m5,.slice (Sq.a (st i)) (Sq.l (st i)) (Sq.c (st i))]) (fun _ h=>run_lS SS hk_i h) ?_
       refine z 12 167 (.int .u64 (m:Int)) ?_
       refine zc 5 160 52 #[.agg #[.int .i64 (st i).w,.int .i64 (st i).k,.int .u64 (st i).n,.int .u64 (st i).u0,.int .u64 (st i).u1,.int .u64 (st i).u2,.int .u64 (st i).u3,.int .u64 (st i).u4,.int .u64 (st i).u5,.int .u64 (st i).m0,.int .u64 (st i).m1,.int .u64 (st i).m2,.int .u64 (st i).m3,.int .u64 (st i).m4,.int .u64 (st i).m5,.slice (Sq.a (st i)) (Sq.l (st i)) (Sq.c (st i))]] (owner_any 1 i) ?_
       rintro _ v29 ⟨rfl,B⟩
       replace BB:=joinB BB B
       replace A:=A.keep B
       clear B
       refine ⟨_,rfl,BB,?_⟩
       refine zc 10 165 51 #[.agg #[.int .i64 (st i).w,.int .i64 (st i).k,.int .u64 (st i).n,.int .u64 (st i).u0,.int .u64 (st i).u1,.int .u64 (st i).u2,.int .u64 (st i).u3,.int .u64 (st i).u4,.int .u64 (st i).u5,.int .u64 (st i).m0,.int .u64 (st i).m1,.int .u64 (st i).m2,.int .u64 (st i).m3,.int .u64 (st i).m4,.int .u64 (st i).m5,.slice (Sq.a (st i)) (Sq.l (st i)) (Sq.c (st i))]] (source_any 1 i) ?_
       rintro _ v30 ⟨rfl,B⟩
       replace BB:=joinB BB B
       replace A:=A.keep B
       clear B
       refine ⟨_,rfl,BB,?_⟩
       refine zc 11 166 49 #[pg g0,.int .u64 (qe 1 (st i) i).del,.int .u64 (qe 1 (st i) i).val] (SxE.cast (count_get A.sx gi.2.2.1 (by omega) (by omega)) rfl (congrArg (Value.int .u64) hcnt)) ?_
       rintro _ v32 ⟨rfl,K31,S,hK,hC⟩
       replace BB:=belowO BB hC (fun b hb=>Nat.le_trans hwB (A.sx.kb b hb))
       replace A:=A.op S hK hC
       clear S hK hC
       refine ⟨_,rfl,BB,?_⟩
       refine zq 13 168 (.bool ((m:Int) != (m:Int))) (.bool false) (congrArg Value.bool (bne_self_eq_false _)) ?_
       refine gz_done (ge_then (gc_fr [(0,.slice ao n c),(3,pg g0),(5,.slice da n dc),(9,.int .i64 (i:Int)),(10,.slice fa fl fc),(11,.int .u64 (m:Int)),(13,.int .i64 ((sj + 1:Nat):Int)),(137,.int .i64 ((sj + 1:Nat):Int)),(138,.slice fa fl fc),(139,.int .i64 ((fl:Nat):Int)),(140,.bool false),(155,pg g0),(156,.slice ao n c),(157,.int .i64 (i:Int)),(158,pq pb (po_ + i * 16)),(159,.agg #[.int .i64 (st i).w,.int .i64 (st i).k,.int .u64 (st i).n,.int .u64 (st i).u0,.int .u64 (st i).u1,.int .u64 (st i).u2,.int .u64 (st i).u3,.int .u64 (st i).u4,.int .u64 (st i).u5,.int .u64 (st i).m0,.int .u64 (st i).m1,.int .u64 (st i).m2,.int .u64 (st i).m3,.int .u64 (st i).m4,.int .u64 (st i).m5,.slice (Sq.a (st i)) (Sq.l (st i)) (Sq.c (st i))]),(160,.int .u64 (qe 1 (st i) i).del),(161,.slice ao n c),(162,.int .i64 (i:Int)),(163,pq pb (po_ + i * 16)),(164,.agg #[.int .i64 (st i).w,.int .i64 (st i).k,.int .u64 (st i).n,.int .u64 (st i).u0,.int .u64 (st i).u1,.int .u64 (st i).u2,.int .u64 (st i).u3,.int .u64 (st i).u4,.int .u64 (st i).u5,.int .u64 (st i).m0,.int .u64 (st i).m1,.int .u64 (st i).m2,.int .u64 (st i).m3,.int .u64 (st i).m4,.int .u64 (st i).m5,.slice (Sq.a (st i)) (Sq.l (st i)) (Sq.c (st i))]),(165,.int .u64 (qe 1 (st i) i).val),(166,.int .u64 (m:Int)),(167,.int .u64 (m:Int)),(168,.bool false)] (by kernel_rfl) ?_))
       refine gc_no ?_
       refine gc_skip (ge_bn (ge_then (gc_reg (t 96 (.int .i64 (i:Int)) ?_))))
       refine tq 97 (.int .i64 (IntKind.i64.wrap ((i:Int) + 1))) (.int .i64 ((i:Int) + 1)) (wi (by omega)) ?_
       refine t 9 (.int .i64 ((i:Int) + 1)) ?_
       refine gl_nil ?_
       exact ge_round (i + 1) (by show n - (i + 1) < n - i; omega) ⟨hk_i,BB,_,_,_,A.sx,by omega,by omega⟩ (by kernel_rfl)
    ·refine tq 95 (.bool (decide ((i:Int) < ((n:Nat):Int)))) (.bool false) (congrArg Value.bool (decide_eq_false ci)) ?_
     refine gl_nil (ge_then (gc_no ?_))
     refine gc_exit (ge_tx (ge_tx (ge_bx (ge_then (gc_seq (gc_reg (t 169 (.slice da n dc) ?_)))))))
     refine t 170 (.int .i64 ((n:Nat):Int)) ?_
     refine t 171 (.slice ao n c) ?_
     refine t 172 (.int .i64 ((n:Nat):Int)) ?_
     refine tq 173 (.bool (((n:Nat):Int) == ((n:Nat):Int))) (.bool true) (congrArg Value.bool (beq_self_eq_true _)) ?_
     refine t 2 (.bool true) ?_
     refine gl_nil (ge_then (gc_ret (ge_ret (.bool true) (rs1 2 (by kernel_rfl) (by kernel_rfl)) ?_)))
     exact ⟨rfl,BB⟩
end Qu
end Go.Proofs.YtcpnipcgedfgdaaGreat
