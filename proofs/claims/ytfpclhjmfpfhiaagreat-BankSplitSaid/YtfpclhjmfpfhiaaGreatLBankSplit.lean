/- gleanlaw9.BankSplit. -/
import Derived.Test.YtfpclhjmfpfhiaaGreatJak
namespace Go.Proofs.YtfpclhjmfpfhiaaGreat
namespace Bk
open Go.RowKit Go.Lib Pg Lim Gl Kv
set_option maxRecDepth 100000
set_option maxHeartbeats 4000000
set_option linter.unusedVariables false
theorem snewB {w:World} (Bz:Nat) (hb:Bz=w.heap.size):Calls Tryz.prog 7 #[] w fun e w'=>∃ g K,e=.returned (pg g)/\Sx Bz w' K g [] [] 0 0/\(∀ b,K b->Bz<=b)/\Below w.heap.size w w':=by
 subst hb
 exact snewX
theorem bankSplit_walk {w:World} {ao:Option Addr} {n c pb po:Nat} {sw sa sb sn:Nat->Int} {xa xb xn xm:Int} (SS:StpA w ao n pb po sw sa sb sn) (ra1:U64 xa) (rb1:U64 xb) (rn1:U64 xn) (rm1:U64 xm):Calls Tryz.prog 5 #[.slice ao n c,.int .u64 xa,.int .u64 xb,.int .u64 xn,.int .u64 xm] w fun e w'=>e=.returned (.bool true)/\Below w.heap.size w w':=by
 have BB:=Below.refl w.heap.size w
 have hfew:=SS.few
 obtain ⟨pn,hpn⟩:∃ pn,xn % 1000000000000000001=pn:=⟨_,rfl⟩
 obtain ⟨pm,hpm⟩:∃ pm,xm % 1000000000000000001=pm:=⟨_,rfl⟩
 have bn:0<=pn/\pn<=1000000000000000000:=by omega
 have bm:0<=pm/\pm<=1000000000000000000:=by omega
 have un:U64 pn:=by unfold U64; omega
 have um:U64 pm:=by unfold U64; omega
 have us:U64 (pn + pm):=by unfold U64; omega
 refine gc_enter (n:=111) Tryz.func5 rfl (by kernel_rfl) (by kernel_rfl) ?_
 refine gc_seq ?_
 refine gc_reg ?_
 refine t 10 (.bool false) ?_
 refine gl_nil ?_
 refine ge_then ?_
 refine gc_seq ?_
 refine gc_seq ?_
 refine gc_reg ?_
 refine tc 18 6 #[] (known9) ?_
 rintro _ v1 ⟨rfl,B⟩
 refine ⟨_,rfl,?_⟩
 replace BB:=joinB BB B
 clear B
 refine t 19 (.bool false) ?_
 refine gl_nil ?_
 refine ge_then ?_
 refine gc_no ?_
 refine gc_skip ?_
 refine ge_then ?_
 refine gc_seq ?_
 refine gc_seq ?_
 refine gc_reg ?_
 refine t 20 (.slice ao n c) ?_
 refine t 21 (.int .i64 ((n:Nat):Int)) ?_
 by_cases c2:(300:Int) < ((n:Nat):Int)
 ·refine tq 22 (.bool (decide ((300:Int) < ((n:Nat):Int)))) (.bool true) (congrArg Value.bool (decide_eq_true c2)) ?_
  refine gl_nil ?_
  refine ge_then ?_
  refine gc_yes ?_
  refine gc_seq ?_
  refine gc_reg ?_
  refine t 10 (.bool true) ?_
  refine gl_nil ?_
  refine ge_then ?_
  refine gc_fr [(0,.slice ao n c),(1,.int .u64 xa),(2,.int .u64 xb),(3,.int .u64 xn),(4,.int .u64 xm),(10,.bool true)] (by kernel_rfl) ?_
  refine gc_ret ?_
  refine ge_tr ?_
  refine ge_ret (.bool true) (rs1 10 (by kernel_rfl) (by kernel_rfl)) ?_
  exact ⟨rfl,BB⟩
 ·refine tq 22 (.bool (decide ((300:Int) < ((n:Nat):Int)))) (.bool false) (congrArg Value.bool (decide_eq_false c2)) ?_
  refine gl_nil ?_
  refine ge_then ?_
  refine gc_no ?_
  refine gc_skip ?_
  refine ge_then ?_
  refine gc_seq ?_
  refine gc_reg ?_
  have hwB:=BB.size
  obtain ⟨Bz,hBz⟩:∃ Bz,Bz=(v1).heap.size:=⟨_,rfl⟩
  rw [<- hBz] at hwB
  refine tc 23 7 #[] (snewB Bz hBz) ?_
  rintro _ v3 ⟨g0,K0,rfl,S0,hK0,B0⟩
  refine ⟨_,rfl,?_⟩
  replace BB:=joinB BB B0
  have A:=S0.at
  clear S0
  refine t 11 (pg g0) ?_
  refine gl_nil ?_
  refine ge_then ?_
  refine gc_fr [(0,.slice ao n c),(1,.int .u64 xa),(2,.int .u64 xb),(3,.int .u64 xn),(4,.int .u64 xm),(10,.bool false),(11,pg g0)] (by kernel_rfl) ?_
  refine gc_seq ?_
  refine gc_seq ?_
  refine gc_reg ?_
  refine t 12 (.int .i64 0) ?_
  refine gl_nil ?_
  refine ge_then ?_
  refine gc_block ?_
  have hlast:=A.sx
  refine gc_loop (fun i=>n - i) (fun (i:Nat)=>[(0,.slice ao n c),(1,.int .u64 xa),(2,.int .u64 xb),(3,.int .u64 xn),(4,.int .u64 xm),(11,pg g0),(12,.int .i64 (i:Int))]) (fun i w'=>i<=n/\Below w.heap.size w w'/\∃ K E nn NN,Sx Bz w' K g0 E [] nn NN/\nn<=i * 10/\NN<=i * 10/\AllA E/\Can E) 0 ⟨Nat.zero_le _,BB,_,[],0,0,A.sx,Nat.zero_le _,Nat.zero_le _,(fun e h=>by cases h),can_nil⟩ (by kernel_rfl) ?_
  clear BB
  clear A
  clear hlast
  rintro i v4 ⟨hi,BB,K,E,nn,NN,S,hnn,hNN,hAll,hCan⟩
  have A:=S.at
  clear S
  refine gc_seq ?_
  refine gc_seq ?_
  refine gc_reg ?_
  refine t 24 (.int .i64 (i:Int)) ?_
  refine t 25 (.slice ao n c) ?_
  refine t 26 (.int .i64 ((n:Nat):Int)) ?_
  by_cases ci:(i:Int) < ((n:Nat):Int)
  ·have hk_i:i < n:=by omega
   obtain ⟨ra,rb,rn⟩:=SS.rng i hk_i
   refine tq 27 (.bool (decide ((i:Int) < ((n:Nat):Int)))) (.bool true) (congrArg Value.bool (decide_eq_true ci)) ?_
   refine gl_nil ?_
   refine ge_then ?_
   refine gc_yes ?_
   refine gc_skip ?_
   refine ge_then ?_
   refine gc_seq ?_
   refine gc_block ?_
   refine gc_seq ?_
   refine gc_reg ?_
   refine t 30 (.slice ao n c) ?_
   refine t 31 (.int .i64 (i:Int)) ?_
   refine tr 32 (pq pb (po + i * 4)) (run_ixa 4 pb po n c i hk_i SS.ptr) ?_
   refine t 33 (pq pb (po + i * 4)) ?_
   refine tr 34 (.int .i64 (sw i)) (run_ldi (cellB BB (SS.cell i hk_i).1)) ?_
   by_cases c5:(sw i:Int)=0
   ·refine tq 35 (.bool ((sw i:Int) == 0)) (.bool true) (congrArg Value.bool (beq_iff_eq.2 c5)) ?_
    refine gl_nil ?_
    refine ge_then ?_
    refine gc_yes ?_
    replace BB:=BB.drew
    replace A:=A.drew
    refine gc_draw (fun w'=>Below w.heap.size w w') (fun _=>false) BB ?_
    refine z 0 36 (pg g0) ?_
    refine z 1 37 (.slice ao n c) ?_
    refine z 2 38 (.int .i64 (i:Int)) ?_
    refine zr 3 39 (pq pb (po + i * 4)) (fun _ h=>run_ixa 4 pb po n c i hk_i SS.ptr) ?_
    refine z 4 40 (pq pb (po + i * 4 + 1)) ?_
    refine zr 5 41 (.int .u64 (sa i)) (fun _ h=>run_ldu (cellB h (SS.cell i hk_i).2.1)) ?_
    refine z 6 42 (.slice ao n c) ?_
    refine z 7 43 (.int .i64 (i:Int)) ?_
    refine zr 8 44 (pq pb (po + i * 4)) (fun _ h=>run_ixa 4 pb po n c i hk_i SS.ptr) ?_
    refine z 9 45 (pq pb (po + i * 4 + 3)) ?_
    refine zr 10 46 (.int .u64 (sn i)) (fun _ h=>run_ldu (cellB h (SS.cell i hk_i).2.2.2)) ?_
    refine zc 11 47 8 #[pg g0,.int .u64 (sa i),.int .u64 (sn i)] (mint_any A.sx ra rn (by omega) (by omega)) ?_
    rintro _ v9 ⟨rfl,K6,n7,N8,S,qn7,qN8,hK,hC⟩
    replace BB:=belowO BB hC (fun b hb=>Nat.le_trans hwB (A.sx.kb b hb))
    replace A:=A.op S hK hC
    clear S hK hC
    refine ⟨_,rfl,BB,?_⟩
    refine gz_done ?_
    refine ge_bn ?_
    refine ge_then ?_
    refine gc_fr [(0,.slice ao n c),(1,.int .u64 xa),(2,.int .u64 xb),(3,.int .u64 xn),(4,.int .u64 xm),(11,pg g0),(12,.int .i64 (i:Int)),(24,.int .i64 (i:Int)),(25,.slice ao n c),(26,.int .i64 ((n:Nat):Int)),(27,.bool true),(30,.slice ao n c),(31,.int .i64 (i:Int)),(32,pq pb (po + i * 4)),(33,pq pb (po + i * 4)),(34,.int .i64 (sw i)),(35,.bool true),(36,pg g0),(37,.slice ao n c),(38,.int .i64 (i:Int)),(39,pq pb (po + i * 4)),(40,pq pb (po + i * 4 + 1)),(41,.int .u64 (sa i)),(42,.slice ao n c),(43,.int .i64 (i:Int)),(44,pq pb (po + i * 4)),(45,pq pb (po + i * 4 + 3)),(46,.int .u64 (sn i))] (by kernel_rfl) ?_
    refine gc_reg ?_
    refine t 28 (.int .i64 (i:Int)) ?_
    refine tq 29 (.int .i64 (IntKind.i64.wrap ((i:Int) + 1))) (.int .i64 ((i:Int) + 1)) (wi (by omega)) ?_
    refine t 12 (.int .i64 ((i:Int) + 1)) ?_
    refine gl_nil ?_
    exact ge_round (i + 1) (by omega) ⟨hk_i,BB,_,_,_,_,A.sx,by omega,by omega,mint_all hAll,can_mint hCan (A.sx.ok (mint_all hAll)) ra rn⟩ (by kernel_rfl)
   ·refine tq 35 (.bool ((sw i:Int) == 0)) (.bool false) (congrArg Value.bool (beq_eq_false_iff_ne.2 c5)) ?_
    refine gl_nil ?_
    refine ge_then ?_
    refine gc_no ?_
    refine gc_skip ?_
    refine ge_bn ?_
    refine ge_then ?_
    refine gc_reg ?_
    refine t 28 (.int .i64 (i:Int)) ?_
    refine tq 29 (.int .i64 (IntKind.i64.wrap ((i:Int) + 1))) (.int .i64 ((i:Int) + 1)) (wi (by omega)) ?_
    refine t 12 (.int .i64 ((i:Int) + 1)) ?_
    refine gl_nil ?_
    exact ge_round (i + 1) (by omega) ⟨hk_i,BB,_,_,_,_,A.sx,by omega,by omega,hAll,hCan⟩ (by kernel_rfl)
  ·refine tq 27 (.bool (decide ((i:Int) < ((n:Nat):Int)))) (.bool false) (congrArg Value.bool (decide_eq_false ci)) ?_
   refine gl_nil ?_
   refine ge_then ?_
   refine gc_no ?_
   refine gc_exit ?_
   refine ge_tx ?_
   refine ge_tx ?_
   refine ge_bx ?_
   refine ge_then ?_
   refine gc_seq ?_
   refine gc_reg ?_
   refine t 48 (pg g0) ?_
   refine tc 49 17 #[pg g0] (dumpZ A.sx (by omega)) ?_
   rintro _ v11 ⟨dv,es,rfl,PD,eD,ZD,B⟩
   refine ⟨_,rfl,?_⟩
   replace BB:=joinB BB B
   replace A:=A.keep B
   clear B
   refine t 13 (dv) ?_
   refine gl_nil ?_
   refine ge_then ?_
   refine gc_seq ?_
   refine gc_reg ?_
   refine t 50 (pg g0) ?_
   refine tc 51 23 #[pg g0] (copyX A.sx (by omega)) ?_
   rintro _ v12 ⟨g1,K2,rfl,C2,hK2,B⟩
   refine ⟨_,rfl,?_⟩
   have ZC:=zn_copy ZD hK2
   have dj:∀ b,K b->¬ K2 b:=fun b hb h2=>by have:=A.sx.sa.lt hb; have:=hK2 b h2; omega
   replace ZC:=ZC.keep B
   replace BB:=joinB BB B
   replace A:=A.keep B
   replace ZD:=ZD.keep B
   clear B
   refine t 14 (pg g1) ?_
   refine gl_nil ?_
   refine ge_then ?_
   refine gc_seq ?_
   refine gc_reg ?_
   refine t 52 (.int .u64 xn) ?_
   refine tr 53 (.int .u64 pn) (run_rm rn1 hpn) ?_
   refine t 54 (.int .u64 xm) ?_
   refine tr 55 (.int .u64 pm) (run_rm rm1 hpm) ?_
   refine t 3 (.int .u64 pn) ?_
   refine t 4 (.int .u64 pm) ?_
   refine gl_nil ?_
   refine ge_then ?_
   refine gc_fr [(1,.int .u64 xa),(2,.int .u64 xb),(3,.int .u64 pn),(4,.int .u64 pm),(11,pg g0),(13,dv),(14,pg g1)] (by kernel_rfl) ?_
   refine gc_seq ?_
   refine gc_reg ?_
   refine t 56 (pg g0) ?_
   refine t 57 (.int .u64 xa) ?_
   refine t 58 (.int .u64 xb) ?_
   refine t 59 (.int .u64 pn) ?_
   refine tc 60 10 #[pg g0,.int .u64 xa,.int .u64 xb,.int .u64 pn] (move_any A.sx ra1 rb1 un (by omega) (by omega)) ?_
   rintro _ v16 ⟨rfl,K13,n14,N15,S,qn14,qN15,hK,hC⟩
   refine ⟨_,rfl,?_⟩
   replace BB:=belowO BB hC (fun b hb=>Nat.le_trans hwB (A.sx.kb b hb))
   replace ZD:=ZD.op hC hK
   replace ZC:=ZD.both ZC
   have dj2:=dj_op C2 dj hK
   replace C2:=C2.beside A.sx hC dj
   replace dj:=dj2
   clear dj2
   replace A:=A.op S hK hC
   clear S hK hC
   refine t 61 (pg g0) ?_
   refine t 62 (.int .u64 xa) ?_
   refine t 63 (.int .u64 xb) ?_
   refine t 64 (.int .u64 pm) ?_
   refine tc 65 10 #[pg g0,.int .u64 xa,.int .u64 xb,.int .u64 pm] (move_any A.sx ra1 rb1 um (by omega) (by omega)) ?_
   rintro _ v20 ⟨rfl,K17,n18,N19,S,qn18,qN19,hK,hC⟩
   refine ⟨_,rfl,?_⟩
   replace BB:=belowO BB hC (fun b hb=>Nat.le_trans hwB (A.sx.kb b hb))
   replace ZD:=ZD.op hC hK
   replace ZC:=ZD.both ZC
   have dj2:=dj_op C2 dj hK
   replace C2:=C2.beside A.sx hC dj
   replace dj:=dj2
   clear dj2
   replace A:=A.op S hK hC
   clear S hK hC
   refine t 15 (.int .i64 (moveR E xa xb pn)) ?_
   refine t 16 (.int .i64 (moveR (moveE E xa xb pn) xa xb pm)) ?_
   refine gl_nil ?_
   refine ge_then ?_
   refine gc_fr [(1,.int .u64 xa),(2,.int .u64 xb),(3,.int .u64 pn),(4,.int .u64 pm),(11,pg g0),(13,dv),(14,pg g1),(15,.int .i64 (moveR E xa xb pn)),(16,.int .i64 (moveR (moveE E xa xb pn) xa xb pm))] (by kernel_rfl) ?_
   refine gc_seq ?_
   refine gc_reg ?_
   refine t 66 (pg g1) ?_
   refine t 67 (.int .u64 xa) ?_
   refine t 68 (.int .u64 xb) ?_
   refine t 69 (.int .u64 pn) ?_
   refine t 70 (.int .u64 pm) ?_
   refine tq 71 (.int .u64 (IntKind.u64.wrap (pn + pm))) (.int .u64 (pn + pm)) (wu (by omega)) ?_
   refine tc 72 10 #[pg g1,.int .u64 xa,.int .u64 xb,.int .u64 (pn + pm)] (move_any C2 ra1 rb1 us (by omega) (by omega)) ?_
   rintro _ v24 ⟨rfl,K21,n22,N23,S,qn22,qN23,hK,hC⟩
   refine ⟨_,rfl,?_⟩
   replace BB:=belowO BB hC (fun b hb=>Nat.le_trans hwB (C2.kb b hb))
   replace ZC:=ZC.op hC hK
   replace ZD:=ZC.both ZD
   have dj2:=dj_sym (dj_op A.sx (dj_sym dj) hK)
   have A2:=(A.sx.beside C2 hC (dj_sym dj)).at
   clear A
   have A:=A2
   clear A2
   replace dj:=dj2
   clear dj2
   clear C2
   have C2:=S
   clear S hK hC
   refine t 17 (.int .i64 (moveR E xa xb (pn + pm))) ?_
   refine gl_nil ?_
   refine ge_then ?_
   refine gc_seq ?_
   refine gc_seq ?_
   refine gc_reg ?_
   refine t 73 (.int .i64 (moveR E xa xb pn)) ?_
   refine t 74 (.int .i64 (moveR (moveE E xa xb pn) xa xb pm)) ?_
   refine tq 75 (.int .i64 (IntKind.i64.wrap ((moveR E xa xb pn) + (moveR (moveE E xa xb pn) xa xb pm)))) (.int .i64 ((moveR E xa xb pn) + (moveR (moveE E xa xb pn) xa xb pm))) (wi (by have:=moveR_rng (E:=E) (a:=xa) (b:=xb) (n:=pn); have:=moveR_rng (E:=(moveE E xa xb pn)) (a:=xa) (b:=xb) (n:=pm); omega)) ?_
   by_cases c25:((moveR E xa xb pn) + (moveR (moveE E xa xb pn) xa xb pm):Int)=0
   ·refine tq 76 (.bool (((moveR E xa xb pn) + (moveR (moveE E xa xb pn) xa xb pm):Int) != 0)) (.bool false) (congrArg Value.bool (bne_eq_false_iff_eq.2 c25)) ?_
    refine gl_nil ?_
    refine ge_then ?_
    refine gc_fr [(1,.int .u64 xa),(2,.int .u64 xb),(3,.int .u64 pn),(4,.int .u64 pm),(11,pg g0),(13,dv),(14,pg g1),(17,.int .i64 (moveR E xa xb (pn + pm))),(76,.bool false)] (by kernel_rfl) ?_
    refine gc_no ?_
    refine gc_skip ?_
    refine ge_then ?_
    refine gc_seq ?_
    refine gc_seq ?_
    refine gc_reg ?_
    refine t 77 (.int .u64 xa) ?_
    refine t 78 (.int .u64 xb) ?_
    by_cases c26:(xa:Int)=xb
    ·refine tq 79 (.bool ((xa:Int) != xb)) (.bool false) (congrArg Value.bool (bne_eq_false_iff_eq.2 c26)) ?_
     refine t 80 (.bool false) ?_
     refine tn 81 ?_
     refine tn 82 ?_
     refine tn 83 ?_
     refine tn 84 ?_
     refine tn 85 ?_
     refine tn 86 ?_
     refine tn 87 ?_
     refine tn 88 ?_
     refine tn 89 ?_
     refine tn 90 ?_
     refine t 91 (.bool false) ?_
     refine gl_nil ?_
     refine ge_then ?_
     refine gc_fr [(1,.int .u64 xa),(2,.int .u64 xb),(3,.int .u64 pn),(4,.int .u64 pm),(11,pg g0),(13,dv),(91,.bool false)] (by kernel_rfl) ?_
     refine gc_no ?_
     refine gc_skip ?_
     refine ge_then ?_
     refine gc_seq ?_
     refine gc_reg ?_
     refine t 92 (pg g0) ?_
     refine t 93 (.int .u64 xb) ?_
     refine t 94 (.int .u64 xa) ?_
     refine t 95 (.int .u64 pn) ?_
     refine t 96 (.int .u64 pm) ?_
     refine tq 97 (.int .u64 (IntKind.u64.wrap (pn + pm))) (.int .u64 (pn + pm)) (wu (by omega)) ?_
     refine tc 98 10 #[pg g0,.int .u64 xb,.int .u64 xa,.int .u64 (pn + pm)] (move_any A.sx rb1 ra1 us (by omega) (by omega)) ?_
     rintro _ v30 ⟨rfl,K27,n28,N29,S,qn28,qN29,hK,hC⟩
     refine ⟨_,rfl,?_⟩
     replace BB:=belowO BB hC (fun b hb=>Nat.le_trans hwB (A.sx.kb b hb))
     replace ZD:=ZD.op hC hK
     replace ZC:=ZD.both ZC
     have dj2:=dj_op C2 dj hK
     replace C2:=C2.beside A.sx hC dj
     replace dj:=dj2
     clear dj2
     replace A:=A.op S hK hC
     clear S hK hC
     by_cases c31:(moveR (moveE (moveE E xa xb pn) xa xb pm) xb xa (pn + pm):Int)=0
     ·refine tq 99 (.bool ((moveR (moveE (moveE E xa xb pn) xa xb pm) xb xa (pn + pm):Int) != 0)) (.bool false) (congrArg Value.bool (bne_eq_false_iff_eq.2 c31)) ?_
      refine t 100 (.bool false) ?_
      refine tn 101 ?_
      refine tn 102 ?_
      refine tn 103 ?_
      refine t 104 (.bool false) ?_
      refine t 105 (.bool false) ?_
      refine t 106 (pg g0) ?_
      refine tc 107 17 #[pg g0] (dumpZ A.sx (by omega)) ?_
      rintro _ v33 ⟨dp32,sp32,rfl,Pp32,ep32,Zp32,B⟩
      refine ⟨_,rfl,?_⟩
      replace BB:=joinB BB B
      replace A:=A.keep B
      replace ZD:=ZD.keep B
      replace ZC:=ZC.keep B
      replace C2:=C2.keep B
      clear B
      refine t 108 (dv) ?_
      refine tc 109 16 #[dp32,dv] (pairsT A.sx (by omega) (Zp32.prs Pp32) (ZD.prs PD) ep32 eD (by rw [move_same c26.symm,move_same c26,move_same c26])) ?_
      rintro _ v34 ⟨rfl,B⟩
      refine ⟨_,rfl,?_⟩
      replace BB:=joinB BB B
      replace A:=A.keep B
      replace ZD:=ZD.keep B
      replace ZC:=ZC.keep B
      replace C2:=C2.keep B
      replace Zp32:=Zp32.keep B
      clear B
      refine t 110 (.bool true) ?_
      refine t 10 (.bool true) ?_
      refine gl_nil ?_
      refine ge_then ?_
      refine gc_fr [(10,.bool true)] (by kernel_rfl) ?_
      refine gc_ret ?_
      refine ge_ret (.bool true) (rs1 10 (by kernel_rfl) (by kernel_rfl)) ?_
      exact ⟨rfl,BB⟩
     ·refine tq 99 (.bool ((moveR (moveE (moveE E xa xb pn) xa xb pm) xb xa (pn + pm):Int) != 0)) (.bool true) (congrArg Value.bool (bne_iff_ne.2 c31)) ?_
      refine t 100 (.bool true) ?_
      refine t 101 (.int .u64 xa) ?_
      refine t 102 (.int .u64 xb) ?_
      refine tq 103 (.bool ((xa:Int) == xb)) (.bool true) (congrArg Value.bool (beq_iff_eq.2 c26)) ?_
      refine t 104 (.bool true) ?_
      refine t 105 (.bool true) ?_
      refine tn 106 ?_
      refine tn 107 ?_
      refine tn 108 ?_
      refine tn 109 ?_
      refine t 110 (.bool true) ?_
      refine t 10 (.bool true) ?_
      refine gl_nil ?_
      refine ge_then ?_
      refine gc_fr [(10,.bool true)] (by kernel_rfl) ?_
      refine gc_ret ?_
      refine ge_ret (.bool true) (rs1 10 (by kernel_rfl) (by kernel_rfl)) ?_
      exact ⟨rfl,BB⟩
    ·refine tq 79 (.bool ((xa:Int) != xb)) (.bool true) (congrArg Value.bool (bne_iff_ne.2 c26)) ?_
     refine t 80 (.bool true) ?_
     refine t 81 (.int .i64 (moveR E xa xb (pn + pm))) ?_
     have z1:=moveR_rng (E:=E) (a:=xa) (b:=xb) (n:=pn)
     have z2:=moveR_rng (E:=(moveE E xa xb pn)) (a:=xa) (b:=xb) (n:=pm)
     obtain ⟨mt1,mt2,mt3,mt4⟩:=move_two hCan ra1 rb1 bn bm c26 (by omega) (by omega)
     have t35:((moveR E xa xb (pn + pm):Int)=0):=mt1
     refine tq 82 (.bool ((moveR E xa xb (pn + pm):Int) != 0)) (.bool false) (congrArg Value.bool (bne_eq_false_iff_eq.2 t35)) ?_
     refine t 83 (.bool false) ?_
     refine t 84 (pg g0) ?_
     refine tc 85 17 #[pg g0] (dumpZ A.sx (by omega)) ?_
     rintro _ v37 ⟨dp36,sp36,rfl,Pp36,ep36,Zp36,B⟩
     refine ⟨_,rfl,?_⟩
     replace BB:=joinB BB B
     replace A:=A.keep B
     replace ZD:=ZD.keep B
     replace ZC:=ZC.keep B
     replace C2:=C2.keep B
     clear B
     refine t 86 (pg g1) ?_
     refine tc 87 17 #[pg g1] (dumpZ C2 (by omega)) ?_
     rintro _ v39 ⟨dp38,sp38,rfl,Pp38,ep38,Zp38,B⟩
     refine ⟨_,rfl,?_⟩
     replace BB:=joinB BB B
     replace A:=A.keep B
     replace ZD:=ZD.keep B
     replace ZC:=ZC.keep B
     replace C2:=C2.keep B
     replace Zp36:=Zp36.keep B
     clear B
     refine tc 88 16 #[dp36,dp38] (pairsT A.sx (by omega) (Zp36.prs Pp36) (Zp38.prs Pp38) ep36 ep38 mt2.symm) ?_
     rintro _ v40 ⟨rfl,B⟩
     refine ⟨_,rfl,?_⟩
     replace BB:=joinB BB B
     replace A:=A.keep B
     replace ZD:=ZD.keep B
     replace ZC:=ZC.keep B
     replace C2:=C2.keep B
     replace Zp36:=Zp36.keep B
     replace Zp38:=Zp38.keep B
     clear B
     clear Zp36
     clear Zp38
     refine t 89 (.bool false) ?_
     refine t 90 (.bool false) ?_
     refine t 91 (.bool false) ?_
     refine gl_nil ?_
     refine ge_then ?_
     refine gc_fr [(1,.int .u64 xa),(2,.int .u64 xb),(3,.int .u64 pn),(4,.int .u64 pm),(11,pg g0),(13,dv),(91,.bool false)] (by kernel_rfl) ?_
     refine gc_no ?_
     refine gc_skip ?_
     refine ge_then ?_
     refine gc_seq ?_
     refine gc_reg ?_
     refine t 92 (pg g0) ?_
     refine t 93 (.int .u64 xb) ?_
     refine t 94 (.int .u64 xa) ?_
     refine t 95 (.int .u64 pn) ?_
     refine t 96 (.int .u64 pm) ?_
     refine tq 97 (.int .u64 (IntKind.u64.wrap (pn + pm))) (.int .u64 (pn + pm)) (wu (by omega)) ?_
     refine tc 98 10 #[pg g0,.int .u64 xb,.int .u64 xa,.int .u64 (pn + pm)] (move_any A.sx rb1 ra1 us (by omega) (by omega)) ?_
     rintro _ v44 ⟨rfl,K41,n42,N43,S,qn42,qN43,hK,hC⟩
     refine ⟨_,rfl,?_⟩
     replace BB:=belowO BB hC (fun b hb=>Nat.le_trans hwB (A.sx.kb b hb))
     replace ZD:=ZD.op hC hK
     replace ZC:=ZD.both ZC
     have dj2:=dj_op C2 dj hK
     replace C2:=C2.beside A.sx hC dj
     replace dj:=dj2
     clear dj2
     replace A:=A.op S hK hC
     clear S hK hC
     have t45:((moveR (moveE (moveE E xa xb pn) xa xb pm) xb xa (pn + pm):Int)=0):=by rw [mt2]; exact mt3
     refine tq 99 (.bool ((moveR (moveE (moveE E xa xb pn) xa xb pm) xb xa (pn + pm):Int) != 0)) (.bool false) (congrArg Value.bool (bne_eq_false_iff_eq.2 t45)) ?_
     refine t 100 (.bool false) ?_
     refine tn 101 ?_
     refine tn 102 ?_
     refine tn 103 ?_
     refine t 104 (.bool false) ?_
     refine t 105 (.bool false) ?_
     refine t 106 (pg g0) ?_
     refine tc 107 17 #[pg g0] (dumpZ A.sx (by omega)) ?_
     rintro _ v47 ⟨dp46,sp46,rfl,Pp46,ep46,Zp46,B⟩
     refine ⟨_,rfl,?_⟩
     replace BB:=joinB BB B
     replace A:=A.keep B
     replace ZD:=ZD.keep B
     replace ZC:=ZC.keep B
     replace C2:=C2.keep B
     clear B
     refine t 108 (dv) ?_
     refine tc 109 16 #[dp46,dv] (pairsT A.sx (by omega) (Zp46.prs Pp46) (ZD.prs PD) ep46 eD (by rw [mt2]; exact mt4.symm)) ?_
     rintro _ v48 ⟨rfl,B⟩
     refine ⟨_,rfl,?_⟩
     replace BB:=joinB BB B
     replace A:=A.keep B
     replace ZD:=ZD.keep B
     replace ZC:=ZC.keep B
     replace C2:=C2.keep B
     replace Zp46:=Zp46.keep B
     clear B
     refine t 110 (.bool true) ?_
     refine t 10 (.bool true) ?_
     refine gl_nil ?_
     refine ge_then ?_
     refine gc_fr [(10,.bool true)] (by kernel_rfl) ?_
     refine gc_ret ?_
     refine ge_ret (.bool true) (rs1 10 (by kernel_rfl) (by kernel_rfl)) ?_
     exact ⟨rfl,BB⟩
   ·refine tq 76 (.bool (((moveR E xa xb pn) + (moveR (moveE E xa xb pn) xa xb pm):Int) != 0)) (.bool true) (congrArg Value.bool (bne_iff_ne.2 c25)) ?_
    refine gl_nil ?_
    refine ge_then ?_
    refine gc_fr [(1,.int .u64 xa),(2,.int .u64 xb),(3,.int .u64 pn),(4,.int .u64 pm),(11,pg g0),(13,dv),(14,pg g1),(17,.int .i64 (moveR E xa xb (pn + pm))),(76,.bool true)] (by kernel_rfl) ?_
    refine gc_yes ?_
    refine gc_seq ?_
    refine gc_reg ?_
    refine t 10 (.bool true) ?_
    refine gl_nil ?_
    refine ge_then ?_
    refine gc_ret ?_
    refine ge_tr ?_
    refine ge_ret (.bool true) (rs1 10 (by kernel_rfl) (by kernel_rfl)) ?_
    exact ⟨rfl,BB⟩
end Bk
end Go.Proofs.YtfpclhjmfpfhiaaGreat
