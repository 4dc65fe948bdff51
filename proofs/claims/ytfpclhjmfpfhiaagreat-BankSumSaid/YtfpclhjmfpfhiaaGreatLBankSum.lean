/- gleanlaw9.BankSum. -/
import Derived.Test.YtfpclhjmfpfhiaaGreatJak
namespace Go.Proofs.YtfpclhjmfpfhiaaGreat
namespace Bk
open Go.RowKit Go.Lib Pg Lim Gl Kv
set_option maxRecDepth 100000
set_option maxHeartbeats 4000000
set_option linter.unusedVariables false
theorem run_bld {ρ:Operand->Value} {w:World} {o:Oper} {x y:Int} (ho:∃ u v,o.op=.build 42 #[(0,u),(1,v)]/\ρ u=.int .u64 x/\ρ v=.int .u64 y:=by exact ⟨_,_,rfl,by kernel_rfl,by kernel_rfl⟩):(execOp ρ o).run Tryz.prog w=.ok (.value (.agg #[.int .u64 x,.int .u64 y])) w:=by
 obtain ⟨u,v,h,h1,h2⟩:=ho
 simp only [execOp,h]
 go_simp
theorem snewB {w:World} (Bz:Nat) (hb:Bz=w.heap.size):Calls Tryz.prog 7 #[] w fun e w'=>∃ g K,e=.returned (pg g)/\Sx Bz w' K g [] [] 0 0/\(∀ b,K b->Bz<=b)/\Below w.heap.size w w':=by
 subst hb
 exact snewX
theorem bankSum_walk {w:World} {ao:Option Addr} {n c pb po:Nat} {sw sa sb sn:Nat->Int} (SS:StpA w ao n pb po sw sa sb sn):Calls Tryz.prog 4 #[.slice ao n c] w fun e w'=>e=.returned (.bool true)/\Below w.heap.size w w':=by
 have BB:=Below.refl w.heap.size w
 have hfew:=SS.few
 refine gc_enter (n:=164) Tryz.func4 rfl (by kernel_rfl) (by kernel_rfl) ?_
 refine gc_seq ?_
 refine gc_reg ?_
 refine t 2 (.bool false) ?_
 refine gl_nil ?_
 refine ge_then ?_
 refine gc_seq ?_
 refine gc_seq ?_
 refine gc_reg ?_
 refine tc 13 6 #[] (known9) ?_
 rintro _ v1 ⟨rfl,B⟩
 refine ⟨_,rfl,?_⟩
 replace BB:=joinB BB B
 clear B
 refine t 14 (.bool false) ?_
 refine gl_nil ?_
 refine ge_then ?_
 refine gc_no ?_
 refine gc_skip ?_
 refine ge_then ?_
 refine gc_seq ?_
 refine gc_seq ?_
 refine gc_reg ?_
 refine t 15 (.slice ao n c) ?_
 refine t 16 (.int .i64 ((n:Nat):Int)) ?_
 by_cases c2:(300:Int) < ((n:Nat):Int)
 ·refine tq 17 (.bool (decide ((300:Int) < ((n:Nat):Int)))) (.bool true) (congrArg Value.bool (decide_eq_true c2)) ?_
  refine gl_nil ?_
  refine ge_then ?_
  refine gc_yes ?_
  refine gc_seq ?_
  refine gc_reg ?_
  refine t 2 (.bool true) ?_
  refine gl_nil ?_
  refine ge_then ?_
  refine gc_ret ?_
  refine ge_tr ?_
  refine ge_ret (.bool true) (rs1 2 (by kernel_rfl) (by kernel_rfl)) ?_
  exact ⟨rfl,BB⟩
 ·refine tq 17 (.bool (decide ((300:Int) < ((n:Nat):Int)))) (.bool false) (congrArg Value.bool (decide_eq_false c2)) ?_
  refine gl_nil ?_
  refine ge_then ?_
  refine gc_no ?_
  refine gc_skip ?_
  refine ge_then ?_
  refine gc_seq ?_
  refine gc_reg ?_
  have hwB:=BB.size
  obtain ⟨Bz,hBz⟩:∃ Bz,Bz=(v1).heap.size:=⟨_,rfl⟩
  rw [<- hBz] at hwB
  refine tc 18 7 #[] (snewB Bz hBz) ?_
  rintro _ v3 ⟨g0,K0,rfl,S0,hK0,B0⟩
  refine ⟨_,rfl,?_⟩
  replace BB:=joinB BB B0
  have A:=S0.at
  clear S0
  refine t 3 (pg g0) ?_
  refine gl_nil ?_
  refine ge_then ?_
  refine gc_seq ?_
  refine gc_reg ?_
  refine t 4 (.slice none 0 0) ?_
  refine gl_nil ?_
  refine ge_then ?_
  refine gc_fr [(0,.slice ao n c),(2,.bool false),(3,pg g0),(4,.slice none 0 0)] (by kernel_rfl) ?_
  refine gc_seq ?_
  refine gc_seq ?_
  refine gc_reg ?_
  refine t 5 (.int .i64 0) ?_
  refine gl_nil ?_
  refine ge_then ?_
  refine gc_block ?_
  have hlast:=A.sx
  refine gc_loop (fun s=>n - s.1) (fun (s:Nat × Option Addr × Nat × Nat)=>[(0,.slice ao n c),(3,pg g0),(4,.slice s.2.1 s.2.2.1 s.2.2.2),(5,.int .i64 (s.1:Int))]) (fun s w'=>s.1<=n/\Below w.heap.size w w'/\∃ K E nn NN nA wA,Sx Bz w' K g0 E [] nn NN/\nn<=s.1 * 10000/\NN<=s.1 * 10/\AllA E/\Zn K nA wA w'/\Rc.NatW wA nA s.2.1 s.2.2.1 s.2.2.2 (accs E).sum/\s.2.2.1<=3 * s.1) ((0,none,0,0):Nat × Option Addr × Nat × Nat) ⟨Nat.zero_le _,BB,_,[],0,0,_,_,A.sx,Nat.zero_le _,Nat.zero_le _,(fun e h=>by cases h),zn_nil,Rc.natW_nil _ _,Nat.zero_le _⟩ (by kernel_rfl) ?_
  clear BB
  clear A
  clear hlast
  rintro ⟨i,a,k,d⟩ v4 ⟨hi,BB,K,E,nn,NN,nA,wA,S,hnn,hNN,hAll,Z,NA,hkk⟩
  dsimp only at hi hnn hNN NA hkk
  have A:=S.at
  clear S
  have okE:=A.sx.ok hAll
  have hwv:=BB.size
  refine gc_seq ?_
  refine gc_seq ?_
  refine gc_reg ?_
  refine t 19 (.int .i64 (i:Int)) ?_
  refine t 20 (.slice ao n c) ?_
  refine t 21 (.int .i64 ((n:Nat):Int)) ?_
  by_cases ci:(i:Int) < ((n:Nat):Int)
  ·have hk_i:i < n:=by omega
   obtain ⟨ra,rb,rn⟩:=SS.rng i hk_i
   refine tq 22 (.bool (decide ((i:Int) < ((n:Nat):Int)))) (.bool true) (congrArg Value.bool (decide_eq_true ci)) ?_
   refine gl_nil ?_
   refine ge_then ?_
   refine gc_yes ?_
   refine gc_skip ?_
   refine ge_then ?_
   refine gc_seq ?_
   refine gc_block ?_
   refine gc_seq ?_
   refine gc_reg ?_
   refine t 25 (.slice ao n c) ?_
   refine t 26 (.int .i64 (i:Int)) ?_
   refine tr 27 (pq pb (po + i * 4)) (run_ixa 4 pb po n c i hk_i SS.ptr) ?_
   refine tr 28 (.agg #[.int .i64 (sw i),.int .u64 (sa i),.int .u64 (sb i),.int .u64 (sn i)]) (run_lds SS hk_i BB) ?_
   refine ta 6 [.int .i64 0,.int .u64 0,.int .u64 0,.int .u64 0] 33 (pg) ?_
   intro v5 g6 Xg6 hg6 B
   have yZg6:=Nat.le_trans Z.ext.2 hg6
   have zg6:=Nat.le_trans A.size hg6
   have nXg6:=A.new hg6
   replace BB:=joinB BB B
   replace A:=A.keep B
   replace Z:=Z.keep B
   clear B
   refine ts Xg6 0 (.agg #[.int .i64 (sw i),.int .u64 (sa i),.int .u64 (sb i),.int .u64 (sn i)]) [.int .i64 (sw i),.int .u64 (sa i),.int .u64 (sb i),.int .u64 (sn i)] [.int .i64 (sw i),.int .u64 (sa i),.int .u64 (sb i),.int .u64 (sn i)] ?_
   intro v7 Y C
   replace BB:=belowC BB C (by omega)
   replace A:=At.cell A Xg6 C zg6 nXg6 (by decide)
   replace Z:=Z.cell C (by omega)
   clear C Xg6
   have Xg6:=Y
   clear Y
   refine gl_nil ?_
   refine ge_then ?_
   refine gc_join (fun (s:Value × Nat × Nat)=>[(0,.slice ao n c),(3,pg g0),(4,.slice a k d),(5,.int .i64 (i:Int)),(6,pg g6),(7,s.1),(8,pg s.2.1),(9,pg s.2.2)]) (fun s w'=>Below w.heap.size w w'/\Blk w' g6 [.int .i64 (sw i),.int .u64 (sa i),.int .u64 (sb i),.int .u64 (sn i)] 33/\Blk w' s.2.1 [.int .u64 (coin E (sa i)),.int .u64 (seqn E (sa i))] 42/\Blk w' s.2.2 [.int .u64 (coin E (sb i)),.int .u64 (seqn E (sb i))] 42/\∃ K' n' N' es nD wD,Sx Bz w' K' g0 E [] n' N'/\n'<=nn + 2/\N'<=NN/\Zn K' nA wA w'/\Zn K' nD wD w'/\PrA wD nD s.1 es/\es.map En.kl2=E/\¬ K' g6/\¬ K' s.2.1/\¬ K' s.2.2) ?_ ?_
   ·replace BB:=BB.drew
    replace A:=A.drew
    replace Z:=Z.drew
    replace Xg6:=Xg6.drew
    refine gc_draw (fun w'=>Blk w' g6 [.int .i64 (sw i),.int .u64 (sa i),.int .u64 (sb i),.int .u64 (sn i)] 33) (fun _=>false) Xg6 ?_
    refine z 0 29 (pg g0) ?_
    refine z 2 31 (pg g0) ?_
    refine z 3 32 (pq g6 1) ?_
    refine zl 4 33 (.int .u64 (sa i)) (fun _ h=>h) 1 ?_
    refine z 6 35 (pg g0) ?_
    refine z 7 36 (pq g6 2) ?_
    refine zl 8 37 (.int .u64 (sb i)) (fun _ h=>h) 2 ?_
    refine gz_ready [1,10,11] ?_
    have lXg6:=Xg6.lt
    refine ga_call 1 (some 30) 17 #[pg g0] (dumpZ A.sx (by omega)) ?_ ?_
    ·rintro _ v9 ⟨dp8,sp8,rfl,Pp8,ep8,Zp8,B⟩
     replace BB:=joinB BB B
     replace A:=A.keep B
     replace Z:=Z.keep B
     replace Xg6:=Xg6.keep B
     clear B
     refine ⟨_,rfl,Xg6,?_⟩
     refine gz_ready [5,10,11] ?_
     refine ga_call 5 (some 34) 14 #[pg g0,.int .u64 (sa i)] (get_any A.sx ra (by omega) (by omega)) ?_ ?_
     ·rintro _ v11 ⟨rfl,K10,S,hK,hC⟩
      replace BB:=belowO BB hC (fun b hb=>Nat.le_trans hwB (A.sx.kb b hb))
      replace Z:=Z.op hC hK
      have mXg6:=not_op Xg6 nXg6 hK
      replace Xg6:=Xg6.chg hC nXg6
      replace nXg6:=mXg6
      clear mXg6
      replace Zp8:=Zp8.op hC hK
      replace A:=A.op S hK hC
      clear S hK hC
      refine ⟨_,rfl,Xg6,?_⟩
      refine gz_ready [9,10,11] ?_
      refine ga_call 9 (some 38) 14 #[pg g0,.int .u64 (sb i)] (get_any A.sx rb (by omega) (by omega)) ?_ ?_
      ·rintro _ v13 ⟨rfl,K12,S,hK,hC⟩
       replace BB:=belowO BB hC (fun b hb=>Nat.le_trans hwB (A.sx.kb b hb))
       replace Z:=Z.op hC hK
       have mXg6:=not_op Xg6 nXg6 hK
       replace Xg6:=Xg6.chg hC nXg6
       replace nXg6:=mXg6
       clear mXg6
       replace Zp8:=Zp8.op hC hK
       replace A:=A.op S hK hC
       clear S hK hC
       refine ⟨_,rfl,Xg6,?_⟩
       refine gz_ready [10,11] ?_
       have lXg6:=Xg6.lt
       refine zaa 10 8 [.int .u64 0,.int .u64 0] 42 (pg) ?_ ?_
       ·intro v14 g15 Xg15 hg15 B
        have yZg15:=Nat.le_trans Z.ext.2 hg15
        have yZp8g15:=Nat.le_trans Zp8.ext.2 hg15
        have zg15:=Nat.le_trans A.size hg15
        have nXg15:=A.new hg15
        replace BB:=joinB BB B
        replace A:=A.keep B
        replace Z:=Z.keep B
        replace Xg6:=Xg6.keep B
        replace Zp8:=Zp8.keep B
        clear B
        refine ⟨Xg6,?_⟩
        have lXg6:=Xg6.lt
        have lXg15:=Xg15.lt
        refine za 11 9 [.int .u64 0,.int .u64 0] 42 (pg) ?_
        intro v16 g17 Xg17 hg17 B
        have yZg17:=Nat.le_trans Z.ext.2 hg17
        have yZp8g17:=Nat.le_trans Zp8.ext.2 hg17
        have zg17:=Nat.le_trans A.size hg17
        have nXg17:=A.new hg17
        replace BB:=joinB BB B
        replace A:=A.keep B
        replace Z:=Z.keep B
        replace Xg6:=Xg6.keep B
        replace Zp8:=Zp8.keep B
        replace Xg15:=Xg15.keep B
        clear B
        refine ⟨Xg6,?_⟩
        refine z 12 7 (dp8) ?_
        refine zs 13 Xg15 0 (.agg #[.int .u64 (coin E (sa i)),.int .u64 (seqn E (sa i))]) [.int .u64 (coin E (sa i)),.int .u64 (seqn E (sa i))] [.int .u64 (coin E (sa i)),.int .u64 (seqn E (sa i))] ?_
        intro v18 Y C
        replace BB:=belowC BB C (by omega)
        replace A:=At.cell A Xg15 C zg15 nXg15 (by decide)
        replace Z:=Z.cell C (by omega)
        replace Xg6:=Xg6.chg C (show g6≠g15 by omega)
        replace Zp8:=Zp8.cell C (by omega)
        replace Xg17:=Xg17.chg C (show g17≠g15 by omega)
        clear C Xg15
        have Xg15:=Y
        clear Y
        refine ⟨Xg6,?_⟩
        refine zs 14 Xg17 0 (.agg #[.int .u64 (coin E (sb i)),.int .u64 (seqn E (sb i))]) [.int .u64 (coin E (sb i)),.int .u64 (seqn E (sb i))] [.int .u64 (coin E (sb i)),.int .u64 (seqn E (sb i))] ?_
        intro v19 Y C
        replace BB:=belowC BB C (by omega)
        replace A:=At.cell A Xg17 C zg17 nXg17 (by decide)
        replace Z:=Z.cell C (by omega)
        replace Xg6:=Xg6.chg C (show g6≠g17 by omega)
        replace Zp8:=Zp8.cell C (by omega)
        replace Xg15:=Xg15.chg C (show g15≠g17 by omega)
        clear C Xg17
        have Xg17:=Y
        clear Y
        refine ⟨Xg6,?_⟩
        refine gz_done ?_
        exact ge_join ((dp8,g15,g17):Value × Nat × Nat) ⟨BB,Xg6,Xg15,Xg17,_,_,_,_,_,_,A.sx,by omega,by omega,Z,Zp8,Pp8,ep8,nXg6,nXg15,nXg17⟩ (by kernel_rfl)
       have lXg6:=Xg6.lt
       refine zaa 11 9 [.int .u64 0,.int .u64 0] 42 (pg) ?_ ?_
       ·intro v20 g21 Xg21 hg21 B
        have yZg21:=Nat.le_trans Z.ext.2 hg21
        have yZp8g21:=Nat.le_trans Zp8.ext.2 hg21
        have zg21:=Nat.le_trans A.size hg21
        have nXg21:=A.new hg21
        replace BB:=joinB BB B
        replace A:=A.keep B
        replace Z:=Z.keep B
        replace Xg6:=Xg6.keep B
        replace Zp8:=Zp8.keep B
        clear B
        refine ⟨Xg6,?_⟩
        have lXg6:=Xg6.lt
        have lXg21:=Xg21.lt
        refine za 10 8 [.int .u64 0,.int .u64 0] 42 (pg) ?_
        intro v22 g23 Xg23 hg23 B
        have yZg23:=Nat.le_trans Z.ext.2 hg23
        have yZp8g23:=Nat.le_trans Zp8.ext.2 hg23
        have zg23:=Nat.le_trans A.size hg23
        have nXg23:=A.new hg23
        replace BB:=joinB BB B
        replace A:=A.keep B
        replace Z:=Z.keep B
        replace Xg6:=Xg6.keep B
        replace Zp8:=Zp8.keep B
        replace Xg21:=Xg21.keep B
        clear B
        refine ⟨Xg6,?_⟩
        refine z 12 7 (dp8) ?_
        refine zs 13 Xg23 0 (.agg #[.int .u64 (coin E (sa i)),.int .u64 (seqn E (sa i))]) [.int .u64 (coin E (sa i)),.int .u64 (seqn E (sa i))] [.int .u64 (coin E (sa i)),.int .u64 (seqn E (sa i))] ?_
        intro v24 Y C
        replace BB:=belowC BB C (by omega)
        replace A:=At.cell A Xg23 C zg23 nXg23 (by decide)
        replace Z:=Z.cell C (by omega)
        replace Xg6:=Xg6.chg C (show g6≠g23 by omega)
        replace Zp8:=Zp8.cell C (by omega)
        replace Xg21:=Xg21.chg C (show g21≠g23 by omega)
        clear C Xg23
        have Xg23:=Y
        clear Y
        refine ⟨Xg6,?_⟩
        refine zs 14 Xg21 0 (.agg #[.int .u64 (coin E (sb i)),.int .u64 (seqn E (sb i))]) [.int .u64 (coin E (sb i)),.int .u64 (seqn E (sb i))] [.int .u64 (coin E (sb i)),.int .u64 (seqn E (sb i))] ?_
        intro v25 Y C
        replace BB:=belowC BB C (by omega)
        replace A:=At.cell A Xg21 C zg21 nXg21 (by decide)
        replace Z:=Z.cell C (by omega)
        replace Xg6:=Xg6.chg C (show g6≠g21 by omega)
        replace Zp8:=Zp8.cell C (by omega)
        replace Xg23:=Xg23.chg C (show g23≠g21 by omega)
        clear C Xg21
        have Xg21:=Y
        clear Y
        refine ⟨Xg6,?_⟩
        refine gz_done ?_
        exact ge_join ((dp8,g23,g21):Value × Nat × Nat) ⟨BB,Xg6,Xg23,Xg21,_,_,_,_,_,_,A.sx,by omega,by omega,Z,Zp8,Pp8,ep8,nXg6,nXg23,nXg21⟩ (by kernel_rfl)
       exact ga_nil
      have lXg6:=Xg6.lt
      refine zaa 10 8 [.int .u64 0,.int .u64 0] 42 (pg) ?_ ?_
      ·intro v26 g27 Xg27 hg27 B
       have yZg27:=Nat.le_trans Z.ext.2 hg27
       have yZp8g27:=Nat.le_trans Zp8.ext.2 hg27
       have zg27:=Nat.le_trans A.size hg27
       have nXg27:=A.new hg27
       replace BB:=joinB BB B
       replace A:=A.keep B
       replace Z:=Z.keep B
       replace Xg6:=Xg6.keep B
       replace Zp8:=Zp8.keep B
       clear B
       refine ⟨Xg6,?_⟩
       refine gz_ready [9,11] ?_
       refine ga_call 9 (some 38) 14 #[pg g0,.int .u64 (sb i)] (get_any A.sx rb (by omega) (by omega)) ?_ ?_
       ·rintro _ v29 ⟨rfl,K28,S,hK,hC⟩
        replace BB:=belowO BB hC (fun b hb=>Nat.le_trans hwB (A.sx.kb b hb))
        replace Z:=Z.op hC hK
        have mXg6:=not_op Xg6 nXg6 hK
        replace Xg6:=Xg6.chg hC nXg6
        replace nXg6:=mXg6
        clear mXg6
        replace Zp8:=Zp8.op hC hK
        have mXg27:=not_op Xg27 nXg27 hK
        replace Xg27:=Xg27.chg hC nXg27
        replace nXg27:=mXg27
        clear mXg27
        replace A:=A.op S hK hC
        clear S hK hC
        refine ⟨_,rfl,Xg6,?_⟩
        have lXg6:=Xg6.lt
        have lXg27:=Xg27.lt
        refine za 11 9 [.int .u64 0,.int .u64 0] 42 (pg) ?_
        intro v30 g31 Xg31 hg31 B
        have yZg31:=Nat.le_trans Z.ext.2 hg31
        have yZp8g31:=Nat.le_trans Zp8.ext.2 hg31
        have zg31:=Nat.le_trans A.size hg31
        have nXg31:=A.new hg31
        replace BB:=joinB BB B
        replace A:=A.keep B
        replace Z:=Z.keep B
        replace Xg6:=Xg6.keep B
        replace Zp8:=Zp8.keep B
        replace Xg27:=Xg27.keep B
        clear B
        refine ⟨Xg6,?_⟩
        refine z 12 7 (dp8) ?_
        refine zs 13 Xg27 0 (.agg #[.int .u64 (coin E (sa i)),.int .u64 (seqn E (sa i))]) [.int .u64 (coin E (sa i)),.int .u64 (seqn E (sa i))] [.int .u64 (coin E (sa i)),.int .u64 (seqn E (sa i))] ?_
        intro v32 Y C
        replace BB:=belowC BB C (by omega)
        replace A:=At.cell A Xg27 C zg27 nXg27 (by decide)
        replace Z:=Z.cell C (by omega)
        replace Xg6:=Xg6.chg C (show g6≠g27 by omega)
        replace Zp8:=Zp8.cell C (by omega)
        replace Xg31:=Xg31.chg C (show g31≠g27 by omega)
        clear C Xg27
        have Xg27:=Y
        clear Y
        refine ⟨Xg6,?_⟩
        refine zs 14 Xg31 0 (.agg #[.int .u64 (coin E (sb i)),.int .u64 (seqn E (sb i))]) [.int .u64 (coin E (sb i)),.int .u64 (seqn E (sb i))] [.int .u64 (coin E (sb i)),.int .u64 (seqn E (sb i))] ?_
        intro v33 Y C
        replace BB:=belowC BB C (by omega)
        replace A:=At.cell A Xg31 C zg31 nXg31 (by decide)
        replace Z:=Z.cell C (by omega)
        replace Xg6:=Xg6.chg C (show g6≠g31 by omega)
        replace Zp8:=Zp8.cell C (by omega)
        replace Xg27:=Xg27.chg C (show g27≠g31 by omega)
        clear C Xg31
        have Xg31:=Y
        clear Y
        refine ⟨Xg6,?_⟩
        refine gz_done ?_
        exact ge_join ((dp8,g27,g31):Value × Nat × Nat) ⟨BB,Xg6,Xg27,Xg31,_,_,_,_,_,_,A.sx,by omega,by omega,Z,Zp8,Pp8,ep8,nXg6,nXg27,nXg31⟩ (by kernel_rfl)
       have lXg6:=Xg6.lt
       have lXg27:=Xg27.lt
       refine zaa 11 9 [.int .u64 0,.int .u64 0] 42 (pg) ?_ ?_
       ·intro v34 g35 Xg35 hg35 B
        have yZg35:=Nat.le_trans Z.ext.2 hg35
        have yZp8g35:=Nat.le_trans Zp8.ext.2 hg35
        have zg35:=Nat.le_trans A.size hg35
        have nXg35:=A.new hg35
        replace BB:=joinB BB B
        replace A:=A.keep B
        replace Z:=Z.keep B
        replace Xg6:=Xg6.keep B
        replace Zp8:=Zp8.keep B
        replace Xg27:=Xg27.keep B
        clear B
        refine ⟨Xg6,?_⟩
        refine zc 9 38 14 #[pg g0,.int .u64 (sb i)] (get_any A.sx rb (by omega) (by omega)) ?_
        rintro _ v37 ⟨rfl,K36,S,hK,hC⟩
        replace BB:=belowO BB hC (fun b hb=>Nat.le_trans hwB (A.sx.kb b hb))
        replace Z:=Z.op hC hK
        have mXg6:=not_op Xg6 nXg6 hK
        replace Xg6:=Xg6.chg hC nXg6
        replace nXg6:=mXg6
        clear mXg6
        replace Zp8:=Zp8.op hC hK
        have mXg27:=not_op Xg27 nXg27 hK
        replace Xg27:=Xg27.chg hC nXg27
        replace nXg27:=mXg27
        clear mXg27
        have mXg35:=not_op Xg35 nXg35 hK
        replace Xg35:=Xg35.chg hC nXg35
        replace nXg35:=mXg35
        clear mXg35
        replace A:=A.op S hK hC
        clear S hK hC
        refine ⟨_,rfl,Xg6,?_⟩
        refine z 12 7 (dp8) ?_
        refine zs 13 Xg27 0 (.agg #[.int .u64 (coin E (sa i)),.int .u64 (seqn E (sa i))]) [.int .u64 (coin E (sa i)),.int .u64 (seqn E (sa i))] [.int .u64 (coin E (sa i)),.int .u64 (seqn E (sa i))] ?_
        intro v38 Y C
        replace BB:=belowC BB C (by omega)
        replace A:=At.cell A Xg27 C zg27 nXg27 (by decide)
        replace Z:=Z.cell C (by omega)
        replace Xg6:=Xg6.chg C (show g6≠g27 by omega)
        replace Zp8:=Zp8.cell C (by omega)
        replace Xg35:=Xg35.chg C (show g35≠g27 by omega)
        clear C Xg27
        have Xg27:=Y
        clear Y
        refine ⟨Xg6,?_⟩
        refine zs 14 Xg35 0 (.agg #[.int .u64 (coin E (sb i)),.int .u64 (seqn E (sb i))]) [.int .u64 (coin E (sb i)),.int .u64 (seqn E (sb i))] [.int .u64 (coin E (sb i)),.int .u64 (seqn E (sb i))] ?_
        intro v39 Y C
        replace BB:=belowC BB C (by omega)
        replace A:=At.cell A Xg35 C zg35 nXg35 (by decide)
        replace Z:=Z.cell C (by omega)
        replace Xg6:=Xg6.chg C (show g6≠g35 by omega)
        replace Zp8:=Zp8.cell C (by omega)
        replace Xg27:=Xg27.chg C (show g27≠g35 by omega)
        clear C Xg35
        have Xg35:=Y
        clear Y
        refine ⟨Xg6,?_⟩
        refine gz_done ?_
        exact ge_join ((dp8,g27,g35):Value × Nat × Nat) ⟨BB,Xg6,Xg27,Xg35,_,_,_,_,_,_,A.sx,by omega,by omega,Z,Zp8,Pp8,ep8,nXg6,nXg27,nXg35⟩ (by kernel_rfl)
       exact ga_nil
      have lXg6:=Xg6.lt
      refine zaa 11 9 [.int .u64 0,.int .u64 0] 42 (pg) ?_ ?_
      ·intro v40 g41 Xg41 hg41 B
       have yZg41:=Nat.le_trans Z.ext.2 hg41
       have yZp8g41:=Nat.le_trans Zp8.ext.2 hg41
       have zg41:=Nat.le_trans A.size hg41
       have nXg41:=A.new hg41
       replace BB:=joinB BB B
       replace A:=A.keep B
       replace Z:=Z.keep B
       replace Xg6:=Xg6.keep B
       replace Zp8:=Zp8.keep B
       clear B
       refine ⟨Xg6,?_⟩
       refine gz_ready [9,10] ?_
       refine ga_call 9 (some 38) 14 #[pg g0,.int .u64 (sb i)] (get_any A.sx rb (by omega) (by omega)) ?_ ?_
       ·rintro _ v43 ⟨rfl,K42,S,hK,hC⟩
        replace BB:=belowO BB hC (fun b hb=>Nat.le_trans hwB (A.sx.kb b hb))
        replace Z:=Z.op hC hK
        have mXg6:=not_op Xg6 nXg6 hK
        replace Xg6:=Xg6.chg hC nXg6
        replace nXg6:=mXg6
        clear mXg6
        replace Zp8:=Zp8.op hC hK
        have mXg41:=not_op Xg41 nXg41 hK
        replace Xg41:=Xg41.chg hC nXg41
        replace nXg41:=mXg41
        clear mXg41
        replace A:=A.op S hK hC
        clear S hK hC
        refine ⟨_,rfl,Xg6,?_⟩
        have lXg6:=Xg6.lt
        have lXg41:=Xg41.lt
        refine za 10 8 [.int .u64 0,.int .u64 0] 42 (pg) ?_
        intro v44 g45 Xg45 hg45 B
        have yZg45:=Nat.le_trans Z.ext.2 hg45
        have yZp8g45:=Nat.le_trans Zp8.ext.2 hg45
        have zg45:=Nat.le_trans A.size hg45
        have nXg45:=A.new hg45
        replace BB:=joinB BB B
        replace A:=A.keep B
        replace Z:=Z.keep B
        replace Xg6:=Xg6.keep B
        replace Zp8:=Zp8.keep B
        replace Xg41:=Xg41.keep B
        clear B
        refine ⟨Xg6,?_⟩
        refine z 12 7 (dp8) ?_
        refine zs 13 Xg45 0 (.agg #[.int .u64 (coin E (sa i)),.int .u64 (seqn E (sa i))]) [.int .u64 (coin E (sa i)),.int .u64 (seqn E (sa i))] [.int .u64 (coin E (sa i)),.int .u64 (seqn E (sa i))] ?_
        intro v46 Y C
        replace BB:=belowC BB C (by omega)
        replace A:=At.cell A Xg45 C zg45 nXg45 (by decide)
        replace Z:=Z.cell C (by omega)
        replace Xg6:=Xg6.chg C (show g6≠g45 by omega)
        replace Zp8:=Zp8.cell C (by omega)
        replace Xg41:=Xg41.chg C (show g41≠g45 by omega)
        clear C Xg45
        have Xg45:=Y
        clear Y
        refine ⟨Xg6,?_⟩
        refine zs 14 Xg41 0 (.agg #[.int .u64 (coin E (sb i)),.int .u64 (seqn E (sb i))]) [.int .u64 (coin E (sb i)),.int .u64 (seqn E (sb i))] [.int .u64 (coin E (sb i)),.int .u64 (seqn E (sb i))] ?_
        intro v47 Y C
        replace BB:=belowC BB C (by omega)
        replace A:=At.cell A Xg41 C zg41 nXg41 (by decide)
        replace Z:=Z.cell C (by omega)
        replace Xg6:=Xg6.chg C (show g6≠g41 by omega)
        replace Zp8:=Zp8.cell C (by omega)
        replace Xg45:=Xg45.chg C (show g45≠g41 by omega)
        clear C Xg41
        have Xg41:=Y
        clear Y
        refine ⟨Xg6,?_⟩
        refine gz_done ?_
        exact ge_join ((dp8,g45,g41):Value × Nat × Nat) ⟨BB,Xg6,Xg45,Xg41,_,_,_,_,_,_,A.sx,by omega,by omega,Z,Zp8,Pp8,ep8,nXg6,nXg45,nXg41⟩ (by kernel_rfl)
       have lXg6:=Xg6.lt
       have lXg41:=Xg41.lt
       refine zaa 10 8 [.int .u64 0,.int .u64 0] 42 (pg) ?_ ?_
       ·intro v48 g49 Xg49 hg49 B
        have yZg49:=Nat.le_trans Z.ext.2 hg49
        have yZp8g49:=Nat.le_trans Zp8.ext.2 hg49
        have zg49:=Nat.le_trans A.size hg49
        have nXg49:=A.new hg49
        replace BB:=joinB BB B
        replace A:=A.keep B
        replace Z:=Z.keep B
        replace Xg6:=Xg6.keep B
        replace Zp8:=Zp8.keep B
        replace Xg41:=Xg41.keep B
        clear B
        refine ⟨Xg6,?_⟩
        refine zc 9 38 14 #[pg g0,.int .u64 (sb i)] (get_any A.sx rb (by omega) (by omega)) ?_
        rintro _ v51 ⟨rfl,K50,S,hK,hC⟩
        replace BB:=belowO BB hC (fun b hb=>Nat.le_trans hwB (A.sx.kb b hb))
        replace Z:=Z.op hC hK
        have mXg6:=not_op Xg6 nXg6 hK
        replace Xg6:=Xg6.chg hC nXg6
        replace nXg6:=mXg6
        clear mXg6
        replace Zp8:=Zp8.op hC hK
        have mXg41:=not_op Xg41 nXg41 hK
        replace Xg41:=Xg41.chg hC nXg41
        replace nXg41:=mXg41
        clear mXg41
        have mXg49:=not_op Xg49 nXg49 hK
        replace Xg49:=Xg49.chg hC nXg49
        replace nXg49:=mXg49
        clear mXg49
        replace A:=A.op S hK hC
        clear S hK hC
        refine ⟨_,rfl,Xg6,?_⟩
        refine z 12 7 (dp8) ?_
        refine zs 13 Xg49 0 (.agg #[.int .u64 (coin E (sa i)),.int .u64 (seqn E (sa i))]) [.int .u64 (coin E (sa i)),.int .u64 (seqn E (sa i))] [.int .u64 (coin E (sa i)),.int .u64 (seqn E (sa i))] ?_
        intro v52 Y C
        replace BB:=belowC BB C (by omega)
        replace A:=At.cell A Xg49 C zg49 nXg49 (by decide)
        replace Z:=Z.cell C (by omega)
        replace Xg6:=Xg6.chg C (show g6≠g49 by omega)
        replace Zp8:=Zp8.cell C (by omega)
        replace Xg41:=Xg41.chg C (show g41≠g49 by omega)
        clear C Xg49
        have Xg49:=Y
        clear Y
        refine ⟨Xg6,?_⟩
        refine zs 14 Xg41 0 (.agg #[.int .u64 (coin E (sb i)),.int .u64 (seqn E (sb i))]) [.int .u64 (coin E (sb i)),.int .u64 (seqn E (sb i))] [.int .u64 (coin E (sb i)),.int .u64 (seqn E (sb i))] ?_
        intro v53 Y C
        replace BB:=belowC BB C (by omega)
        replace A:=At.cell A Xg41 C zg41 nXg41 (by decide)
        replace Z:=Z.cell C (by omega)
        replace Xg6:=Xg6.chg C (show g6≠g41 by omega)
        replace Zp8:=Zp8.cell C (by omega)
        replace Xg49:=Xg49.chg C (show g49≠g41 by omega)
        clear C Xg41
        have Xg41:=Y
        clear Y
        refine ⟨Xg6,?_⟩
        refine gz_done ?_
        exact ge_join ((dp8,g49,g41):Value × Nat × Nat) ⟨BB,Xg6,Xg49,Xg41,_,_,_,_,_,_,A.sx,by omega,by omega,Z,Zp8,Pp8,ep8,nXg6,nXg49,nXg41⟩ (by kernel_rfl)
       exact ga_nil
      exact ga_nil
     have lXg6:=Xg6.lt
     refine zaa 10 8 [.int .u64 0,.int .u64 0] 42 (pg) ?_ ?_
     ·intro v54 g55 Xg55 hg55 B
      have yZg55:=Nat.le_trans Z.ext.2 hg55
      have yZp8g55:=Nat.le_trans Zp8.ext.2 hg55
      have zg55:=Nat.le_trans A.size hg55
      have nXg55:=A.new hg55
      replace BB:=joinB BB B
      replace A:=A.keep B
      replace Z:=Z.keep B
      replace Xg6:=Xg6.keep B
      replace Zp8:=Zp8.keep B
      clear B
      refine ⟨Xg6,?_⟩
      refine gz_ready [5,11] ?_
      refine ga_call 5 (some 34) 14 #[pg g0,.int .u64 (sa i)] (get_any A.sx ra (by omega) (by omega)) ?_ ?_
      ·rintro _ v57 ⟨rfl,K56,S,hK,hC⟩
       replace BB:=belowO BB hC (fun b hb=>Nat.le_trans hwB (A.sx.kb b hb))
       replace Z:=Z.op hC hK
       have mXg6:=not_op Xg6 nXg6 hK
       replace Xg6:=Xg6.chg hC nXg6
       replace nXg6:=mXg6
       clear mXg6
       replace Zp8:=Zp8.op hC hK
       have mXg55:=not_op Xg55 nXg55 hK
       replace Xg55:=Xg55.chg hC nXg55
       replace nXg55:=mXg55
       clear mXg55
       replace A:=A.op S hK hC
       clear S hK hC
       refine ⟨_,rfl,Xg6,?_⟩
       refine gz_ready [9,11] ?_
       refine ga_call 9 (some 38) 14 #[pg g0,.int .u64 (sb i)] (get_any A.sx rb (by omega) (by omega)) ?_ ?_
       ·rintro _ v59 ⟨rfl,K58,S,hK,hC⟩
        replace BB:=belowO BB hC (fun b hb=>Nat.le_trans hwB (A.sx.kb b hb))
        replace Z:=Z.op hC hK
        have mXg6:=not_op Xg6 nXg6 hK
        replace Xg6:=Xg6.chg hC nXg6
        replace nXg6:=mXg6
        clear mXg6
        replace Zp8:=Zp8.op hC hK
        have mXg55:=not_op Xg55 nXg55 hK
        replace Xg55:=Xg55.chg hC nXg55
        replace nXg55:=mXg55
        clear mXg55
        replace A:=A.op S hK hC
        clear S hK hC
        refine ⟨_,rfl,Xg6,?_⟩
        have lXg6:=Xg6.lt
        have lXg55:=Xg55.lt
        refine za 11 9 [.int .u64 0,.int .u64 0] 42 (pg) ?_
        intro v60 g61 Xg61 hg61 B
        have yZg61:=Nat.le_trans Z.ext.2 hg61
        have yZp8g61:=Nat.le_trans Zp8.ext.2 hg61
        have zg61:=Nat.le_trans A.size hg61
        have nXg61:=A.new hg61
        replace BB:=joinB BB B
        replace A:=A.keep B
        replace Z:=Z.keep B
        replace Xg6:=Xg6.keep B
        replace Zp8:=Zp8.keep B
        replace Xg55:=Xg55.keep B
        clear B
        refine ⟨Xg6,?_⟩
        refine z 12 7 (dp8) ?_
        refine zs 13 Xg55 0 (.agg #[.int .u64 (coin E (sa i)),.int .u64 (seqn E (sa i))]) [.int .u64 (coin E (sa i)),.int .u64 (seqn E (sa i))] [.int .u64 (coin E (sa i)),.int .u64 (seqn E (sa i))] ?_
        intro v62 Y C
        replace BB:=belowC BB C (by omega)
        replace A:=At.cell A Xg55 C zg55 nXg55 (by decide)
        replace Z:=Z.cell C (by omega)
        replace Xg6:=Xg6.chg C (show g6≠g55 by omega)
        replace Zp8:=Zp8.cell C (by omega)
        replace Xg61:=Xg61.chg C (show g61≠g55 by omega)
        clear C Xg55
        have Xg55:=Y
        clear Y
        refine ⟨Xg6,?_⟩
        refine zs 14 Xg61 0 (.agg #[.int .u64 (coin E (sb i)),.int .u64 (seqn E (sb i))]) [.int .u64 (coin E (sb i)),.int .u64 (seqn E (sb i))] [.int .u64 (coin E (sb i)),.int .u64 (seqn E (sb i))] ?_
        intro v63 Y C
        replace BB:=belowC BB C (by omega)
        replace A:=At.cell A Xg61 C zg61 nXg61 (by decide)
        replace Z:=Z.cell C (by omega)
        replace Xg6:=Xg6.chg C (show g6≠g61 by omega)
        replace Zp8:=Zp8.cell C (by omega)
        replace Xg55:=Xg55.chg C (show g55≠g61 by omega)
        clear C Xg61
        have Xg61:=Y
        clear Y
        refine ⟨Xg6,?_⟩
        refine gz_done ?_
        exact ge_join ((dp8,g55,g61):Value × Nat × Nat) ⟨BB,Xg6,Xg55,Xg61,_,_,_,_,_,_,A.sx,by omega,by omega,Z,Zp8,Pp8,ep8,nXg6,nXg55,nXg61⟩ (by kernel_rfl)
       have lXg6:=Xg6.lt
       have lXg55:=Xg55.lt
       refine zaa 11 9 [.int .u64 0,.int .u64 0] 42 (pg) ?_ ?_
       ·intro v64 g65 Xg65 hg65 B
        have yZg65:=Nat.le_trans Z.ext.2 hg65
        have yZp8g65:=Nat.le_trans Zp8.ext.2 hg65
        have zg65:=Nat.le_trans A.size hg65
        have nXg65:=A.new hg65
        replace BB:=joinB BB B
        replace A:=A.keep B
        replace Z:=Z.keep B
        replace Xg6:=Xg6.keep B
        replace Zp8:=Zp8.keep B
        replace Xg55:=Xg55.keep B
        clear B
        refine ⟨Xg6,?_⟩
        refine zc 9 38 14 #[pg g0,.int .u64 (sb i)] (get_any A.sx rb (by omega) (by omega)) ?_
        rintro _ v67 ⟨rfl,K66,S,hK,hC⟩
        replace BB:=belowO BB hC (fun b hb=>Nat.le_trans hwB (A.sx.kb b hb))
        replace Z:=Z.op hC hK
        have mXg6:=not_op Xg6 nXg6 hK
        replace Xg6:=Xg6.chg hC nXg6
        replace nXg6:=mXg6
        clear mXg6
        replace Zp8:=Zp8.op hC hK
        have mXg55:=not_op Xg55 nXg55 hK
        replace Xg55:=Xg55.chg hC nXg55
        replace nXg55:=mXg55
        clear mXg55
        have mXg65:=not_op Xg65 nXg65 hK
        replace Xg65:=Xg65.chg hC nXg65
        replace nXg65:=mXg65
        clear mXg65
        replace A:=A.op S hK hC
        clear S hK hC
        refine ⟨_,rfl,Xg6,?_⟩
        refine z 12 7 (dp8) ?_
        refine zs 13 Xg55 0 (.agg #[.int .u64 (coin E (sa i)),.int .u64 (seqn E (sa i))]) [.int .u64 (coin E (sa i)),.int .u64 (seqn E (sa i))] [.int .u64 (coin E (sa i)),.int .u64 (seqn E (sa i))] ?_
        intro v68 Y C
        replace BB:=belowC BB C (by omega)
        replace A:=At.cell A Xg55 C zg55 nXg55 (by decide)
        replace Z:=Z.cell C (by omega)
        replace Xg6:=Xg6.chg C (show g6≠g55 by omega)
        replace Zp8:=Zp8.cell C (by omega)
        replace Xg65:=Xg65.chg C (show g65≠g55 by omega)
        clear C Xg55
        have Xg55:=Y
        clear Y
        refine ⟨Xg6,?_⟩
        refine zs 14 Xg65 0 (.agg #[.int .u64 (coin E (sb i)),.int .u64 (seqn E (sb i))]) [.int .u64 (coin E (sb i)),.int .u64 (seqn E (sb i))] [.int .u64 (coin E (sb i)),.int .u64 (seqn E (sb i))] ?_
        intro v69 Y C
        replace BB:=belowC BB C (by omega)
        replace A:=At.cell A Xg65 C zg65 nXg65 (by decide)
        replace Z:=Z.cell C (by omega)
        replace Xg6:=Xg6.chg C (show g6≠g65 by omega)
        replace Zp8:=Zp8.cell C (by omega)
        replace Xg55:=Xg55.chg C (show g55≠g65 by omega)
        clear C Xg65
        have Xg65:=Y
        clear Y
        refine ⟨Xg6,?_⟩
        refine gz_done ?_
        exact ge_join ((dp8,g55,g65):Value × Nat × Nat) ⟨BB,Xg6,Xg55,Xg65,_,_,_,_,_,_,A.sx,by omega,by omega,Z,Zp8,Pp8,ep8,nXg6,nXg55,nXg65⟩ (by kernel_rfl)
       exact ga_nil
      have lXg6:=Xg6.lt
      have lXg55:=Xg55.lt
      refine zaa 11 9 [.int .u64 0,.int .u64 0] 42 (pg) ?_ ?_
      ·intro v70 g71 Xg71 hg71 B
       have yZg71:=Nat.le_trans Z.ext.2 hg71
       have yZp8g71:=Nat.le_trans Zp8.ext.2 hg71
       have zg71:=Nat.le_trans A.size hg71
       have nXg71:=A.new hg71
       replace BB:=joinB BB B
       replace A:=A.keep B
       replace Z:=Z.keep B
       replace Xg6:=Xg6.keep B
       replace Zp8:=Zp8.keep B
       replace Xg55:=Xg55.keep B
       clear B
       refine ⟨Xg6,?_⟩
       refine zc 5 34 14 #[pg g0,.int .u64 (sa i)] (get_any A.sx ra (by omega) (by omega)) ?_
       rintro _ v73 ⟨rfl,K72,S,hK,hC⟩
       replace BB:=belowO BB hC (fun b hb=>Nat.le_trans hwB (A.sx.kb b hb))
       replace Z:=Z.op hC hK
       have mXg6:=not_op Xg6 nXg6 hK
       replace Xg6:=Xg6.chg hC nXg6
       replace nXg6:=mXg6
       clear mXg6
       replace Zp8:=Zp8.op hC hK
       have mXg55:=not_op Xg55 nXg55 hK
       replace Xg55:=Xg55.chg hC nXg55
       replace nXg55:=mXg55
       clear mXg55
       have mXg71:=not_op Xg71 nXg71 hK
       replace Xg71:=Xg71.chg hC nXg71
       replace nXg71:=mXg71
       clear mXg71
       replace A:=A.op S hK hC
       clear S hK hC
       refine ⟨_,rfl,Xg6,?_⟩
       refine zc 9 38 14 #[pg g0,.int .u64 (sb i)] (get_any A.sx rb (by omega) (by omega)) ?_
       rintro _ v75 ⟨rfl,K74,S,hK,hC⟩
       replace BB:=belowO BB hC (fun b hb=>Nat.le_trans hwB (A.sx.kb b hb))
       replace Z:=Z.op hC hK
       have mXg6:=not_op Xg6 nXg6 hK
       replace Xg6:=Xg6.chg hC nXg6
       replace nXg6:=mXg6
       clear mXg6
       replace Zp8:=Zp8.op hC hK
       have mXg55:=not_op Xg55 nXg55 hK
       replace Xg55:=Xg55.chg hC nXg55
       replace nXg55:=mXg55
       clear mXg55
       have mXg71:=not_op Xg71 nXg71 hK
       replace Xg71:=Xg71.chg hC nXg71
       replace nXg71:=mXg71
       clear mXg71
       replace A:=A.op S hK hC
       clear S hK hC
       refine ⟨_,rfl,Xg6,?_⟩
       refine z 12 7 (dp8) ?_
       refine zs 13 Xg55 0 (.agg #[.int .u64 (coin E (sa i)),.int .u64 (seqn E (sa i))]) [.int .u64 (coin E (sa i)),.int .u64 (seqn E (sa i))] [.int .u64 (coin E (sa i)),.int .u64 (seqn E (sa i))] ?_
       intro v76 Y C
       replace BB:=belowC BB C (by omega)
       replace A:=At.cell A Xg55 C zg55 nXg55 (by decide)
       replace Z:=Z.cell C (by omega)
       replace Xg6:=Xg6.chg C (show g6≠g55 by omega)
       replace Zp8:=Zp8.cell C (by omega)
       replace Xg71:=Xg71.chg C (show g71≠g55 by omega)
       clear C Xg55
       have Xg55:=Y
       clear Y
       refine ⟨Xg6,?_⟩
       refine zs 14 Xg71 0 (.agg #[.int .u64 (coin E (sb i)),.int .u64 (seqn E (sb i))]) [.int .u64 (coin E (sb i)),.int .u64 (seqn E (sb i))] [.int .u64 (coin E (sb i)),.int .u64 (seqn E (sb i))] ?_
       intro v77 Y C
       replace BB:=belowC BB C (by omega)
       replace A:=At.cell A Xg71 C zg71 nXg71 (by decide)
       replace Z:=Z.cell C (by omega)
       replace Xg6:=Xg6.chg C (show g6≠g71 by omega)
       replace Zp8:=Zp8.cell C (by omega)
       replace Xg55:=Xg55.chg C (show g55≠g71 by omega)
       clear C Xg71
       have Xg71:=Y
       clear Y
       refine ⟨Xg6,?_⟩
       refine gz_done ?_
       exact ge_join ((dp8,g55,g71):Value × Nat × Nat) ⟨BB,Xg6,Xg55,Xg71,_,_,_,_,_,_,A.sx,by omega,by omega,Z,Zp8,Pp8,ep8,nXg6,nXg55,nXg71⟩ (by kernel_rfl)
      exact ga_nil
     have lXg6:=Xg6.lt
     refine zaa 11 9 [.int .u64 0,.int .u64 0] 42 (pg) ?_ ?_
     ·intro v78 g79 Xg79 hg79 B
      have yZg79:=Nat.le_trans Z.ext.2 hg79
      have yZp8g79:=Nat.le_trans Zp8.ext.2 hg79
      have zg79:=Nat.le_trans A.size hg79
      have nXg79:=A.new hg79
      replace BB:=joinB BB B
      replace A:=A.keep B
      replace Z:=Z.keep B
      replace Xg6:=Xg6.keep B
      replace Zp8:=Zp8.keep B
      clear B
      refine ⟨Xg6,?_⟩
      refine gz_ready [5,10] ?_
      refine ga_call 5 (some 34) 14 #[pg g0,.int .u64 (sa i)] (get_any A.sx ra (by omega) (by omega)) ?_ ?_
      ·rintro _ v81 ⟨rfl,K80,S,hK,hC⟩
       replace BB:=belowO BB hC (fun b hb=>Nat.le_trans hwB (A.sx.kb b hb))
       replace Z:=Z.op hC hK
       have mXg6:=not_op Xg6 nXg6 hK
       replace Xg6:=Xg6.chg hC nXg6
       replace nXg6:=mXg6
       clear mXg6
       replace Zp8:=Zp8.op hC hK
       have mXg79:=not_op Xg79 nXg79 hK
       replace Xg79:=Xg79.chg hC nXg79
       replace nXg79:=mXg79
       clear mXg79
       replace A:=A.op S hK hC
       clear S hK hC
       refine ⟨_,rfl,Xg6,?_⟩
       refine gz_ready [9,10] ?_
       refine ga_call 9 (some 38) 14 #[pg g0,.int .u64 (sb i)] (get_any A.sx rb (by omega) (by omega)) ?_ ?_
       ·rintro _ v83 ⟨rfl,K82,S,hK,hC⟩
        replace BB:=belowO BB hC (fun b hb=>Nat.le_trans hwB (A.sx.kb b hb))
        replace Z:=Z.op hC hK
        have mXg6:=not_op Xg6 nXg6 hK
        replace Xg6:=Xg6.chg hC nXg6
        replace nXg6:=mXg6
        clear mXg6
        replace Zp8:=Zp8.op hC hK
        have mXg79:=not_op Xg79 nXg79 hK
        replace Xg79:=Xg79.chg hC nXg79
        replace nXg79:=mXg79
        clear mXg79
        replace A:=A.op S hK hC
        clear S hK hC
        refine ⟨_,rfl,Xg6,?_⟩
        have lXg6:=Xg6.lt
        have lXg79:=Xg79.lt
        refine za 10 8 [.int .u64 0,.int .u64 0] 42 (pg) ?_
        intro v84 g85 Xg85 hg85 B
        have yZg85:=Nat.le_trans Z.ext.2 hg85
        have yZp8g85:=Nat.le_trans Zp8.ext.2 hg85
        have zg85:=Nat.le_trans A.size hg85
        have nXg85:=A.new hg85
        replace BB:=joinB BB B
        replace A:=A.keep B
        replace Z:=Z.keep B
        replace Xg6:=Xg6.keep B
        replace Zp8:=Zp8.keep B
        replace Xg79:=Xg79.keep B
        clear B
        refine ⟨Xg6,?_⟩
        refine z 12 7 (dp8) ?_
        refine zs 13 Xg85 0 (.agg #[.int .u64 (coin E (sa i)),.int .u64 (seqn E (sa i))]) [.int .u64 (coin E (sa i)),.int .u64 (seqn E (sa i))] [.int .u64 (coin E (sa i)),.int .u64 (seqn E (sa i))] ?_
        intro v86 Y C
        replace BB:=belowC BB C (by omega)
        replace A:=At.cell A Xg85 C zg85 nXg85 (by decide)
        replace Z:=Z.cell C (by omega)
        replace Xg6:=Xg6.chg C (show g6≠g85 by omega)
        replace Zp8:=Zp8.cell C (by omega)
        replace Xg79:=Xg79.chg C (show g79≠g85 by omega)
        clear C Xg85
        have Xg85:=Y
        clear Y
        refine ⟨Xg6,?_⟩
        refine zs 14 Xg79 0 (.agg #[.int .u64 (coin E (sb i)),.int .u64 (seqn E (sb i))]) [.int .u64 (coin E (sb i)),.int .u64 (seqn E (sb i))] [.int .u64 (coin E (sb i)),.int .u64 (seqn E (sb i))] ?_
        intro v87 Y C
        replace BB:=belowC BB C (by omega)
        replace A:=At.cell A Xg79 C zg79 nXg79 (by decide)
        replace Z:=Z.cell C (by omega)
        replace Xg6:=Xg6.chg C (show g6≠g79 by omega)
        replace Zp8:=Zp8.cell C (by omega)
        replace Xg85:=Xg85.chg C (show g85≠g79 by omega)
        clear C Xg79
        have Xg79:=Y
        clear Y
        refine ⟨Xg6,?_⟩
        refine gz_done ?_
        exact ge_join ((dp8,g85,g79):Value × Nat × Nat) ⟨BB,Xg6,Xg85,Xg79,_,_,_,_,_,_,A.sx,by omega,by omega,Z,Zp8,Pp8,ep8,nXg6,nXg85,nXg79⟩ (by kernel_rfl)
       have lXg6:=Xg6.lt
       have lXg79:=Xg79.lt
       refine zaa 10 8 [.int .u64 0,.int .u64 0] 42 (pg) ?_ ?_
       ·intro v88 g89 Xg89 hg89 B
        have yZg89:=Nat.le_trans Z.ext.2 hg89
        have yZp8g89:=Nat.le_trans Zp8.ext.2 hg89
        have zg89:=Nat.le_trans A.size hg89
        have nXg89:=A.new hg89
        replace BB:=joinB BB B
        replace A:=A.keep B
        replace Z:=Z.keep B
        replace Xg6:=Xg6.keep B
        replace Zp8:=Zp8.keep B
        replace Xg79:=Xg79.keep B
        clear B
        refine ⟨Xg6,?_⟩
        refine zc 9 38 14 #[pg g0,.int .u64 (sb i)] (get_any A.sx rb (by omega) (by omega)) ?_
        rintro _ v91 ⟨rfl,K90,S,hK,hC⟩
        replace BB:=belowO BB hC (fun b hb=>Nat.le_trans hwB (A.sx.kb b hb))
        replace Z:=Z.op hC hK
        have mXg6:=not_op Xg6 nXg6 hK
        replace Xg6:=Xg6.chg hC nXg6
        replace nXg6:=mXg6
        clear mXg6
        replace Zp8:=Zp8.op hC hK
        have mXg79:=not_op Xg79 nXg79 hK
        replace Xg79:=Xg79.chg hC nXg79
        replace nXg79:=mXg79
        clear mXg79
        have mXg89:=not_op Xg89 nXg89 hK
        replace Xg89:=Xg89.chg hC nXg89
        replace nXg89:=mXg89
        clear mXg89
        replace A:=A.op S hK hC
        clear S hK hC
        refine ⟨_,rfl,Xg6,?_⟩
        refine z 12 7 (dp8) ?_
        refine zs 13 Xg89 0 (.agg #[.int .u64 (coin E (sa i)),.int .u64 (seqn E (sa i))]) [.int .u64 (coin E (sa i)),.int .u64 (seqn E (sa i))] [.int .u64 (coin E (sa i)),.int .u64 (seqn E (sa i))] ?_
        intro v92 Y C
        replace BB:=belowC BB C (by omega)
        replace A:=At.cell A Xg89 C zg89 nXg89 (by decide)
        replace Z:=Z.cell C (by omega)
        replace Xg6:=Xg6.chg C (show g6≠g89 by omega)
        replace Zp8:=Zp8.cell C (by omega)
        replace Xg79:=Xg79.chg C (show g79≠g89 by omega)
        clear C Xg89
        have Xg89:=Y
        clear Y
        refine ⟨Xg6,?_⟩
        refine zs 14 Xg79 0 (.agg #[.int .u64 (coin E (sb i)),.int .u64 (seqn E (sb i))]) [.int .u64 (coin E (sb i)),.int .u64 (seqn E (sb i))] [.int .u64 (coin E (sb i)),.int .u64 (seqn E (sb i))] ?_
        intro v93 Y C
        replace BB:=belowC BB C (by omega)
        replace A:=At.cell A Xg79 C zg79 nXg79 (by decide)
        replace Z:=Z.cell C (by omega)
        replace Xg6:=Xg6.chg C (show g6≠g79 by omega)
        replace Zp8:=Zp8.cell C (by omega)
        replace Xg89:=Xg89.chg C (show g89≠g79 by omega)
        clear C Xg79
        have Xg79:=Y
        clear Y
        refine ⟨Xg6,?_⟩
        refine gz_done ?_
        exact ge_join ((dp8,g89,g79):Value × Nat × Nat) ⟨BB,Xg6,Xg89,Xg79,_,_,_,_,_,_,A.sx,by omega,by omega,Z,Zp8,Pp8,ep8,nXg6,nXg89,nXg79⟩ (by kernel_rfl)
       exact ga_nil
      have lXg6:=Xg6.lt
      have lXg79:=Xg79.lt
      refine zaa 10 8 [.int .u64 0,.int .u64 0] 42 (pg) ?_ ?_
      ·intro v94 g95 Xg95 hg95 B
       have yZg95:=Nat.le_trans Z.ext.2 hg95
       have yZp8g95:=Nat.le_trans Zp8.ext.2 hg95
       have zg95:=Nat.le_trans A.size hg95
       have nXg95:=A.new hg95
       replace BB:=joinB BB B
       replace A:=A.keep B
       replace Z:=Z.keep B
       replace Xg6:=Xg6.keep B
       replace Zp8:=Zp8.keep B
       replace Xg79:=Xg79.keep B
       clear B
       refine ⟨Xg6,?_⟩
       refine zc 5 34 14 #[pg g0,.int .u64 (sa i)] (get_any A.sx ra (by omega) (by omega)) ?_
       rintro _ v97 ⟨rfl,K96,S,hK,hC⟩
       replace BB:=belowO BB hC (fun b hb=>Nat.le_trans hwB (A.sx.kb b hb))
       replace Z:=Z.op hC hK
       have mXg6:=not_op Xg6 nXg6 hK
       replace Xg6:=Xg6.chg hC nXg6
       replace nXg6:=mXg6
       clear mXg6
       replace Zp8:=Zp8.op hC hK
       have mXg79:=not_op Xg79 nXg79 hK
       replace Xg79:=Xg79.chg hC nXg79
       replace nXg79:=mXg79
       clear mXg79
       have mXg95:=not_op Xg95 nXg95 hK
       replace Xg95:=Xg95.chg hC nXg95
       replace nXg95:=mXg95
       clear mXg95
       replace A:=A.op S hK hC
       clear S hK hC
       refine ⟨_,rfl,Xg6,?_⟩
       refine zc 9 38 14 #[pg g0,.int .u64 (sb i)] (get_any A.sx rb (by omega) (by omega)) ?_
       rintro _ v99 ⟨rfl,K98,S,hK,hC⟩
       replace BB:=belowO BB hC (fun b hb=>Nat.le_trans hwB (A.sx.kb b hb))
       replace Z:=Z.op hC hK
       have mXg6:=not_op Xg6 nXg6 hK
       replace Xg6:=Xg6.chg hC nXg6
       replace nXg6:=mXg6
       clear mXg6
       replace Zp8:=Zp8.op hC hK
       have mXg79:=not_op Xg79 nXg79 hK
       replace Xg79:=Xg79.chg hC nXg79
       replace nXg79:=mXg79
       clear mXg79
       have mXg95:=not_op Xg95 nXg95 hK
       replace Xg95:=Xg95.chg hC nXg95
       replace nXg95:=mXg95
       clear mXg95
       replace A:=A.op S hK hC
       clear S hK hC
       refine ⟨_,rfl,Xg6,?_⟩
       refine z 12 7 (dp8) ?_
       refine zs 13 Xg95 0 (.agg #[.int .u64 (coin E (sa i)),.int .u64 (seqn E (sa i))]) [.int .u64 (coin E (sa i)),.int .u64 (seqn E (sa i))] [.int .u64 (coin E (sa i)),.int .u64 (seqn E (sa i))] ?_
       intro v100 Y C
       replace BB:=belowC BB C (by omega)
       replace A:=At.cell A Xg95 C zg95 nXg95 (by decide)
       replace Z:=Z.cell C (by omega)
       replace Xg6:=Xg6.chg C (show g6≠g95 by omega)
       replace Zp8:=Zp8.cell C (by omega)
       replace Xg79:=Xg79.chg C (show g79≠g95 by omega)
       clear C Xg95
       have Xg95:=Y
       clear Y
       refine ⟨Xg6,?_⟩
       refine zs 14 Xg79 0 (.agg #[.int .u64 (coin E (sb i)),.int .u64 (seqn E (sb i))]) [.int .u64 (coin E (sb i)),.int .u64 (seqn E (sb i))] [.int .u64 (coin E (sb i)),.int .u64 (seqn E (sb i))] ?_
       intro v101 Y C
       replace BB:=belowC BB C (by omega)
       replace A:=At.cell A Xg79 C zg79 nXg79 (by decide)
       replace Z:=Z.cell C (by omega)
       replace Xg6:=Xg6.chg C (show g6≠g79 by omega)
       replace Zp8:=Zp8.cell C (by omega)
       replace Xg95:=Xg95.chg C (show g95≠g79 by omega)
       clear C Xg79
       have Xg79:=Y
       clear Y
       refine ⟨Xg6,?_⟩
       refine gz_done ?_
       exact ge_join ((dp8,g95,g79):Value × Nat × Nat) ⟨BB,Xg6,Xg95,Xg79,_,_,_,_,_,_,A.sx,by omega,by omega,Z,Zp8,Pp8,ep8,nXg6,nXg95,nXg79⟩ (by kernel_rfl)
      exact ga_nil
     exact ga_nil
    have lXg6:=Xg6.lt
    refine zaa 10 8 [.int .u64 0,.int .u64 0] 42 (pg) ?_ ?_
    ·intro v102 g103 Xg103 hg103 B
     have yZg103:=Nat.le_trans Z.ext.2 hg103
     have zg103:=Nat.le_trans A.size hg103
     have nXg103:=A.new hg103
     replace BB:=joinB BB B
     replace A:=A.keep B
     replace Z:=Z.keep B
     replace Xg6:=Xg6.keep B
     clear B
     refine ⟨Xg6,?_⟩
     refine gz_ready [1,11] ?_
     have lXg6:=Xg6.lt
     have lXg103:=Xg103.lt
     refine ga_call 1 (some 30) 17 #[pg g0] (dumpZ A.sx (by omega)) ?_ ?_
     ·rintro _ v105 ⟨dp104,sp104,rfl,Pp104,ep104,Zp104,B⟩
      replace BB:=joinB BB B
      replace A:=A.keep B
      replace Z:=Z.keep B
      replace Xg6:=Xg6.keep B
      replace Xg103:=Xg103.keep B
      clear B
      refine ⟨_,rfl,Xg6,?_⟩
      refine gz_ready [5,11] ?_
      refine ga_call 5 (some 34) 14 #[pg g0,.int .u64 (sa i)] (get_any A.sx ra (by omega) (by omega)) ?_ ?_
      ·rintro _ v107 ⟨rfl,K106,S,hK,hC⟩
       replace BB:=belowO BB hC (fun b hb=>Nat.le_trans hwB (A.sx.kb b hb))
       replace Z:=Z.op hC hK
       have mXg6:=not_op Xg6 nXg6 hK
       replace Xg6:=Xg6.chg hC nXg6
       replace nXg6:=mXg6
       clear mXg6
       have mXg103:=not_op Xg103 nXg103 hK
       replace Xg103:=Xg103.chg hC nXg103
       replace nXg103:=mXg103
       clear mXg103
       replace Zp104:=Zp104.op hC hK
       replace A:=A.op S hK hC
       clear S hK hC
       refine ⟨_,rfl,Xg6,?_⟩
       refine gz_ready [9,11] ?_
       refine ga_call 9 (some 38) 14 #[pg g0,.int .u64 (sb i)] (get_any A.sx rb (by omega) (by omega)) ?_ ?_
       ·rintro _ v109 ⟨rfl,K108,S,hK,hC⟩
        replace BB:=belowO BB hC (fun b hb=>Nat.le_trans hwB (A.sx.kb b hb))
        replace Z:=Z.op hC hK
        have mXg6:=not_op Xg6 nXg6 hK
        replace Xg6:=Xg6.chg hC nXg6
        replace nXg6:=mXg6
        clear mXg6
        have mXg103:=not_op Xg103 nXg103 hK
        replace Xg103:=Xg103.chg hC nXg103
        replace nXg103:=mXg103
        clear mXg103
        replace Zp104:=Zp104.op hC hK
        replace A:=A.op S hK hC
        clear S hK hC
        refine ⟨_,rfl,Xg6,?_⟩
        have lXg6:=Xg6.lt
        have lXg103:=Xg103.lt
        refine za 11 9 [.int .u64 0,.int .u64 0] 42 (pg) ?_
        intro v110 g111 Xg111 hg111 B
        have yZg111:=Nat.le_trans Z.ext.2 hg111
        have yZp104g111:=Nat.le_trans Zp104.ext.2 hg111
        have zg111:=Nat.le_trans A.size hg111
        have nXg111:=A.new hg111
        replace BB:=joinB BB B
        replace A:=A.keep B
        replace Z:=Z.keep B
        replace Xg6:=Xg6.keep B
        replace Xg103:=Xg103.keep B
        replace Zp104:=Zp104.keep B
        clear B
        refine ⟨Xg6,?_⟩
        refine z 12 7 (dp104) ?_
        refine zs 13 Xg103 0 (.agg #[.int .u64 (coin E (sa i)),.int .u64 (seqn E (sa i))]) [.int .u64 (coin E (sa i)),.int .u64 (seqn E (sa i))] [.int .u64 (coin E (sa i)),.int .u64 (seqn E (sa i))] ?_
        intro v112 Y C
        replace BB:=belowC BB C (by omega)
        replace A:=At.cell A Xg103 C zg103 nXg103 (by decide)
        replace Z:=Z.cell C (by omega)
        replace Xg6:=Xg6.chg C (show g6≠g103 by omega)
        replace Zp104:=Zp104.cell C (by omega)
        replace Xg111:=Xg111.chg C (show g111≠g103 by omega)
        clear C Xg103
        have Xg103:=Y
        clear Y
        refine ⟨Xg6,?_⟩
        refine zs 14 Xg111 0 (.agg #[.int .u64 (coin E (sb i)),.int .u64 (seqn E (sb i))]) [.int .u64 (coin E (sb i)),.int .u64 (seqn E (sb i))] [.int .u64 (coin E (sb i)),.int .u64 (seqn E (sb i))] ?_
        intro v113 Y C
        replace BB:=belowC BB C (by omega)
        replace A:=At.cell A Xg111 C zg111 nXg111 (by decide)
        replace Z:=Z.cell C (by omega)
        replace Xg6:=Xg6.chg C (show g6≠g111 by omega)
        replace Xg103:=Xg103.chg C (show g103≠g111 by omega)
        replace Zp104:=Zp104.cell C (by omega)
        clear C Xg111
        have Xg111:=Y
        clear Y
        refine ⟨Xg6,?_⟩
        refine gz_done ?_
        exact ge_join ((dp104,g103,g111):Value × Nat × Nat) ⟨BB,Xg6,Xg103,Xg111,_,_,_,_,_,_,A.sx,by omega,by omega,Z,Zp104,Pp104,ep104,nXg6,nXg103,nXg111⟩ (by kernel_rfl)
       have lXg6:=Xg6.lt
       have lXg103:=Xg103.lt
       refine zaa 11 9 [.int .u64 0,.int .u64 0] 42 (pg) ?_ ?_
       ·intro v114 g115 Xg115 hg115 B
        have yZg115:=Nat.le_trans Z.ext.2 hg115
        have yZp104g115:=Nat.le_trans Zp104.ext.2 hg115
        have zg115:=Nat.le_trans A.size hg115
        have nXg115:=A.new hg115
        replace BB:=joinB BB B
        replace A:=A.keep B
        replace Z:=Z.keep B
        replace Xg6:=Xg6.keep B
        replace Xg103:=Xg103.keep B
        replace Zp104:=Zp104.keep B
        clear B
        refine ⟨Xg6,?_⟩
        refine zc 9 38 14 #[pg g0,.int .u64 (sb i)] (get_any A.sx rb (by omega) (by omega)) ?_
        rintro _ v117 ⟨rfl,K116,S,hK,hC⟩
        replace BB:=belowO BB hC (fun b hb=>Nat.le_trans hwB (A.sx.kb b hb))
        replace Z:=Z.op hC hK
        have mXg6:=not_op Xg6 nXg6 hK
        replace Xg6:=Xg6.chg hC nXg6
        replace nXg6:=mXg6
        clear mXg6
        have mXg103:=not_op Xg103 nXg103 hK
        replace Xg103:=Xg103.chg hC nXg103
        replace nXg103:=mXg103
        clear mXg103
        replace Zp104:=Zp104.op hC hK
        have mXg115:=not_op Xg115 nXg115 hK
        replace Xg115:=Xg115.chg hC nXg115
        replace nXg115:=mXg115
        clear mXg115
        replace A:=A.op S hK hC
        clear S hK hC
        refine ⟨_,rfl,Xg6,?_⟩
        refine z 12 7 (dp104) ?_
        refine zs 13 Xg103 0 (.agg #[.int .u64 (coin E (sa i)),.int .u64 (seqn E (sa i))]) [.int .u64 (coin E (sa i)),.int .u64 (seqn E (sa i))] [.int .u64 (coin E (sa i)),.int .u64 (seqn E (sa i))] ?_
        intro v118 Y C
        replace BB:=belowC BB C (by omega)
        replace A:=At.cell A Xg103 C zg103 nXg103 (by decide)
        replace Z:=Z.cell C (by omega)
        replace Xg6:=Xg6.chg C (show g6≠g103 by omega)
        replace Zp104:=Zp104.cell C (by omega)
        replace Xg115:=Xg115.chg C (show g115≠g103 by omega)
        clear C Xg103
        have Xg103:=Y
        clear Y
        refine ⟨Xg6,?_⟩
        refine zs 14 Xg115 0 (.agg #[.int .u64 (coin E (sb i)),.int .u64 (seqn E (sb i))]) [.int .u64 (coin E (sb i)),.int .u64 (seqn E (sb i))] [.int .u64 (coin E (sb i)),.int .u64 (seqn E (sb i))] ?_
        intro v119 Y C
        replace BB:=belowC BB C (by omega)
        replace A:=At.cell A Xg115 C zg115 nXg115 (by decide)
        replace Z:=Z.cell C (by omega)
        replace Xg6:=Xg6.chg C (show g6≠g115 by omega)
        replace Xg103:=Xg103.chg C (show g103≠g115 by omega)
        replace Zp104:=Zp104.cell C (by omega)
        clear C Xg115
        have Xg115:=Y
        clear Y
        refine ⟨Xg6,?_⟩
        refine gz_done ?_
        exact ge_join ((dp104,g103,g115):Value × Nat × Nat) ⟨BB,Xg6,Xg103,Xg115,_,_,_,_,_,_,A.sx,by omega,by omega,Z,Zp104,Pp104,ep104,nXg6,nXg103,nXg115⟩ (by kernel_rfl)
       exact ga_nil
      have lXg6:=Xg6.lt
      have lXg103:=Xg103.lt
      refine zaa 11 9 [.int .u64 0,.int .u64 0] 42 (pg) ?_ ?_
      ·intro v120 g121 Xg121 hg121 B
       have yZg121:=Nat.le_trans Z.ext.2 hg121
       have yZp104g121:=Nat.le_trans Zp104.ext.2 hg121
       have zg121:=Nat.le_trans A.size hg121
       have nXg121:=A.new hg121
       replace BB:=joinB BB B
       replace A:=A.keep B
       replace Z:=Z.keep B
       replace Xg6:=Xg6.keep B
       replace Xg103:=Xg103.keep B
       replace Zp104:=Zp104.keep B
       clear B
       refine ⟨Xg6,?_⟩
       refine zc 5 34 14 #[pg g0,.int .u64 (sa i)] (get_any A.sx ra (by omega) (by omega)) ?_
       rintro _ v123 ⟨rfl,K122,S,hK,hC⟩
       replace BB:=belowO BB hC (fun b hb=>Nat.le_trans hwB (A.sx.kb b hb))
       replace Z:=Z.op hC hK
       have mXg6:=not_op Xg6 nXg6 hK
       replace Xg6:=Xg6.chg hC nXg6
       replace nXg6:=mXg6
       clear mXg6
       have mXg103:=not_op Xg103 nXg103 hK
       replace Xg103:=Xg103.chg hC nXg103
       replace nXg103:=mXg103
       clear mXg103
       replace Zp104:=Zp104.op hC hK
       have mXg121:=not_op Xg121 nXg121 hK
       replace Xg121:=Xg121.chg hC nXg121
       replace nXg121:=mXg121
       clear mXg121
       replace A:=A.op S hK hC
       clear S hK hC
       refine ⟨_,rfl,Xg6,?_⟩
       refine zc 9 38 14 #[pg g0,.int .u64 (sb i)] (get_any A.sx rb (by omega) (by omega)) ?_
       rintro _ v125 ⟨rfl,K124,S,hK,hC⟩
       replace BB:=belowO BB hC (fun b hb=>Nat.le_trans hwB (A.sx.kb b hb))
       replace Z:=Z.op hC hK
       have mXg6:=not_op Xg6 nXg6 hK
       replace Xg6:=Xg6.chg hC nXg6
       replace nXg6:=mXg6
       clear mXg6
       have mXg103:=not_op Xg103 nXg103 hK
       replace Xg103:=Xg103.chg hC nXg103
       replace nXg103:=mXg103
       clear mXg103
       replace Zp104:=Zp104.op hC hK
       have mXg121:=not_op Xg121 nXg121 hK
       replace Xg121:=Xg121.chg hC nXg121
       replace nXg121:=mXg121
       clear mXg121
       replace A:=A.op S hK hC
       clear S hK hC
       refine ⟨_,rfl,Xg6,?_⟩
       refine z 12 7 (dp104) ?_
       refine zs 13 Xg103 0 (.agg #[.int .u64 (coin E (sa i)),.int .u64 (seqn E (sa i))]) [.int .u64 (coin E (sa i)),.int .u64 (seqn E (sa i))] [.int .u64 (coin E (sa i)),.int .u64 (seqn E (sa i))] ?_
       intro v126 Y C
       replace BB:=belowC BB C (by omega)
       replace A:=At.cell A Xg103 C zg103 nXg103 (by decide)
       replace Z:=Z.cell C (by omega)
       replace Xg6:=Xg6.chg C (show g6≠g103 by omega)
       replace Zp104:=Zp104.cell C (by omega)
       replace Xg121:=Xg121.chg C (show g121≠g103 by omega)
       clear C Xg103
       have Xg103:=Y
       clear Y
       refine ⟨Xg6,?_⟩
       refine zs 14 Xg121 0 (.agg #[.int .u64 (coin E (sb i)),.int .u64 (seqn E (sb i))]) [.int .u64 (coin E (sb i)),.int .u64 (seqn E (sb i))] [.int .u64 (coin E (sb i)),.int .u64 (seqn E (sb i))] ?_
       intro v127 Y C
       replace BB:=belowC BB C (by omega)
       replace A:=At.cell A Xg121 C zg121 nXg121 (by decide)
       replace Z:=Z.cell C (by omega)
       replace Xg6:=Xg6.chg C (show g6≠g121 by omega)
       replace Xg103:=Xg103.chg C (show g103≠g121 by omega)
       replace Zp104:=Zp104.cell C (by omega)
       clear C Xg121
       have Xg121:=Y
       clear Y
       refine ⟨Xg6,?_⟩
       refine gz_done ?_
       exact ge_join ((dp104,g103,g121):Value × Nat × Nat) ⟨BB,Xg6,Xg103,Xg121,_,_,_,_,_,_,A.sx,by omega,by omega,Z,Zp104,Pp104,ep104,nXg6,nXg103,nXg121⟩ (by kernel_rfl)
      exact ga_nil
     have lXg6:=Xg6.lt
     have lXg103:=Xg103.lt
     refine zaa 11 9 [.int .u64 0,.int .u64 0] 42 (pg) ?_ ?_
     ·intro v128 g129 Xg129 hg129 B
      have yZg129:=Nat.le_trans Z.ext.2 hg129
      have zg129:=Nat.le_trans A.size hg129
      have nXg129:=A.new hg129
      replace BB:=joinB BB B
      replace A:=A.keep B
      replace Z:=Z.keep B
      replace Xg6:=Xg6.keep B
      replace Xg103:=Xg103.keep B
      clear B
      refine ⟨Xg6,?_⟩
      have lXg6:=Xg6.lt
      have lXg103:=Xg103.lt
      have lXg129:=Xg129.lt
      refine zc 1 30 17 #[pg g0] (dumpZ A.sx (by omega)) ?_
      rintro _ v131 ⟨dp130,sp130,rfl,Pp130,ep130,Zp130,B⟩
      replace BB:=joinB BB B
      replace A:=A.keep B
      replace Z:=Z.keep B
      replace Xg6:=Xg6.keep B
      replace Xg103:=Xg103.keep B
      replace Xg129:=Xg129.keep B
      clear B
      refine ⟨_,rfl,Xg6,?_⟩
      refine zc 5 34 14 #[pg g0,.int .u64 (sa i)] (get_any A.sx ra (by omega) (by omega)) ?_
      rintro _ v133 ⟨rfl,K132,S,hK,hC⟩
      replace BB:=belowO BB hC (fun b hb=>Nat.le_trans hwB (A.sx.kb b hb))
      replace Z:=Z.op hC hK
      have mXg6:=not_op Xg6 nXg6 hK
      replace Xg6:=Xg6.chg hC nXg6
      replace nXg6:=mXg6
      clear mXg6
      have mXg103:=not_op Xg103 nXg103 hK
      replace Xg103:=Xg103.chg hC nXg103
      replace nXg103:=mXg103
      clear mXg103
      have mXg129:=not_op Xg129 nXg129 hK
      replace Xg129:=Xg129.chg hC nXg129
      replace nXg129:=mXg129
      clear mXg129
      replace Zp130:=Zp130.op hC hK
      replace A:=A.op S hK hC
      clear S hK hC
      refine ⟨_,rfl,Xg6,?_⟩
      refine zc 9 38 14 #[pg g0,.int .u64 (sb i)] (get_any A.sx rb (by omega) (by omega)) ?_
      rintro _ v135 ⟨rfl,K134,S,hK,hC⟩
      replace BB:=belowO BB hC (fun b hb=>Nat.le_trans hwB (A.sx.kb b hb))
      replace Z:=Z.op hC hK
      have mXg6:=not_op Xg6 nXg6 hK
      replace Xg6:=Xg6.chg hC nXg6
      replace nXg6:=mXg6
      clear mXg6
      have mXg103:=not_op Xg103 nXg103 hK
      replace Xg103:=Xg103.chg hC nXg103
      replace nXg103:=mXg103
      clear mXg103
      have mXg129:=not_op Xg129 nXg129 hK
      replace Xg129:=Xg129.chg hC nXg129
      replace nXg129:=mXg129
      clear mXg129
      replace Zp130:=Zp130.op hC hK
      replace A:=A.op S hK hC
      clear S hK hC
      refine ⟨_,rfl,Xg6,?_⟩
      refine z 12 7 (dp130) ?_
      refine zs 13 Xg103 0 (.agg #[.int .u64 (coin E (sa i)),.int .u64 (seqn E (sa i))]) [.int .u64 (coin E (sa i)),.int .u64 (seqn E (sa i))] [.int .u64 (coin E (sa i)),.int .u64 (seqn E (sa i))] ?_
      intro v136 Y C
      replace BB:=belowC BB C (by omega)
      replace A:=At.cell A Xg103 C zg103 nXg103 (by decide)
      replace Z:=Z.cell C (by omega)
      replace Xg6:=Xg6.chg C (show g6≠g103 by omega)
      replace Xg129:=Xg129.chg C (show g129≠g103 by omega)
      replace Zp130:=Zp130.cell C (by omega)
      clear C Xg103
      have Xg103:=Y
      clear Y
      refine ⟨Xg6,?_⟩
      refine zs 14 Xg129 0 (.agg #[.int .u64 (coin E (sb i)),.int .u64 (seqn E (sb i))]) [.int .u64 (coin E (sb i)),.int .u64 (seqn E (sb i))] [.int .u64 (coin E (sb i)),.int .u64 (seqn E (sb i))] ?_
      intro v137 Y C
      replace BB:=belowC BB C (by omega)
      replace A:=At.cell A Xg129 C zg129 nXg129 (by decide)
      replace Z:=Z.cell C (by omega)
      replace Xg6:=Xg6.chg C (show g6≠g129 by omega)
      replace Xg103:=Xg103.chg C (show g103≠g129 by omega)
      replace Zp130:=Zp130.cell C (by omega)
      clear C Xg129
      have Xg129:=Y
      clear Y
      refine ⟨Xg6,?_⟩
      refine gz_done ?_
      exact ge_join ((dp130,g103,g129):Value × Nat × Nat) ⟨BB,Xg6,Xg103,Xg129,_,_,_,_,_,_,A.sx,by omega,by omega,Z,Zp130,Pp130,ep130,nXg6,nXg103,nXg129⟩ (by kernel_rfl)
     exact ga_nil
    have lXg6:=Xg6.lt
    refine zaa 11 9 [.int .u64 0,.int .u64 0] 42 (pg) ?_ ?_
    ·intro v138 g139 Xg139 hg139 B
     have yZg139:=Nat.le_trans Z.ext.2 hg139
     have zg139:=Nat.le_trans A.size hg139
     have nXg139:=A.new hg139
     replace BB:=joinB BB B
     replace A:=A.keep B
     replace Z:=Z.keep B
     replace Xg6:=Xg6.keep B
     clear B
     refine ⟨Xg6,?_⟩
     refine gz_ready [1,10] ?_
     have lXg6:=Xg6.lt
     have lXg139:=Xg139.lt
     refine ga_call 1 (some 30) 17 #[pg g0] (dumpZ A.sx (by omega)) ?_ ?_
     ·rintro _ v141 ⟨dp140,sp140,rfl,Pp140,ep140,Zp140,B⟩
      replace BB:=joinB BB B
      replace A:=A.keep B
      replace Z:=Z.keep B
      replace Xg6:=Xg6.keep B
      replace Xg139:=Xg139.keep B
      clear B
      refine ⟨_,rfl,Xg6,?_⟩
      refine gz_ready [5,10] ?_
      refine ga_call 5 (some 34) 14 #[pg g0,.int .u64 (sa i)] (get_any A.sx ra (by omega) (by omega)) ?_ ?_
      ·rintro _ v143 ⟨rfl,K142,S,hK,hC⟩
       replace BB:=belowO BB hC (fun b hb=>Nat.le_trans hwB (A.sx.kb b hb))
       replace Z:=Z.op hC hK
       have mXg6:=not_op Xg6 nXg6 hK
       replace Xg6:=Xg6.chg hC nXg6
       replace nXg6:=mXg6
       clear mXg6
       have mXg139:=not_op Xg139 nXg139 hK
       replace Xg139:=Xg139.chg hC nXg139
       replace nXg139:=mXg139
       clear mXg139
       replace Zp140:=Zp140.op hC hK
       replace A:=A.op S hK hC
       clear S hK hC
       refine ⟨_,rfl,Xg6,?_⟩
       refine gz_ready [9,10] ?_
       refine ga_call 9 (some 38) 14 #[pg g0,.int .u64 (sb i)] (get_any A.sx rb (by omega) (by omega)) ?_ ?_
       ·rintro _ v145 ⟨rfl,K144,S,hK,hC⟩
        replace BB:=belowO BB hC (fun b hb=>Nat.le_trans hwB (A.sx.kb b hb))
        replace Z:=Z.op hC hK
        have mXg6:=not_op Xg6 nXg6 hK
        replace Xg6:=Xg6.chg hC nXg6
        replace nXg6:=mXg6
        clear mXg6
        have mXg139:=not_op Xg139 nXg139 hK
        replace Xg139:=Xg139.chg hC nXg139
        replace nXg139:=mXg139
        clear mXg139
        replace Zp140:=Zp140.op hC hK
        replace A:=A.op S hK hC
        clear S hK hC
        refine ⟨_,rfl,Xg6,?_⟩
        have lXg6:=Xg6.lt
        have lXg139:=Xg139.lt
        refine za 10 8 [.int .u64 0,.int .u64 0] 42 (pg) ?_
        intro v146 g147 Xg147 hg147 B
        have yZg147:=Nat.le_trans Z.ext.2 hg147
        have yZp140g147:=Nat.le_trans Zp140.ext.2 hg147
        have zg147:=Nat.le_trans A.size hg147
        have nXg147:=A.new hg147
        replace BB:=joinB BB B
        replace A:=A.keep B
        replace Z:=Z.keep B
        replace Xg6:=Xg6.keep B
        replace Xg139:=Xg139.keep B
        replace Zp140:=Zp140.keep B
        clear B
        refine ⟨Xg6,?_⟩
        refine z 12 7 (dp140) ?_
        refine zs 13 Xg147 0 (.agg #[.int .u64 (coin E (sa i)),.int .u64 (seqn E (sa i))]) [.int .u64 (coin E (sa i)),.int .u64 (seqn E (sa i))] [.int .u64 (coin E (sa i)),.int .u64 (seqn E (sa i))] ?_
        intro v148 Y C
        replace BB:=belowC BB C (by omega)
        replace A:=At.cell A Xg147 C zg147 nXg147 (by decide)
        replace Z:=Z.cell C (by omega)
        replace Xg6:=Xg6.chg C (show g6≠g147 by omega)
        replace Xg139:=Xg139.chg C (show g139≠g147 by omega)
        replace Zp140:=Zp140.cell C (by omega)
        clear C Xg147
        have Xg147:=Y
        clear Y
        refine ⟨Xg6,?_⟩
        refine zs 14 Xg139 0 (.agg #[.int .u64 (coin E (sb i)),.int .u64 (seqn E (sb i))]) [.int .u64 (coin E (sb i)),.int .u64 (seqn E (sb i))] [.int .u64 (coin E (sb i)),.int .u64 (seqn E (sb i))] ?_
        intro v149 Y C
        replace BB:=belowC BB C (by omega)
        replace A:=At.cell A Xg139 C zg139 nXg139 (by decide)
        replace Z:=Z.cell C (by omega)
        replace Xg6:=Xg6.chg C (show g6≠g139 by omega)
        replace Zp140:=Zp140.cell C (by omega)
        replace Xg147:=Xg147.chg C (show g147≠g139 by omega)
        clear C Xg139
        have Xg139:=Y
        clear Y
        refine ⟨Xg6,?_⟩
        refine gz_done ?_
        exact ge_join ((dp140,g147,g139):Value × Nat × Nat) ⟨BB,Xg6,Xg147,Xg139,_,_,_,_,_,_,A.sx,by omega,by omega,Z,Zp140,Pp140,ep140,nXg6,nXg147,nXg139⟩ (by kernel_rfl)
       have lXg6:=Xg6.lt
       have lXg139:=Xg139.lt
       refine zaa 10 8 [.int .u64 0,.int .u64 0] 42 (pg) ?_ ?_
       ·intro v150 g151 Xg151 hg151 B
        have yZg151:=Nat.le_trans Z.ext.2 hg151
        have yZp140g151:=Nat.le_trans Zp140.ext.2 hg151
        have zg151:=Nat.le_trans A.size hg151
        have nXg151:=A.new hg151
        replace BB:=joinB BB B
        replace A:=A.keep B
        replace Z:=Z.keep B
        replace Xg6:=Xg6.keep B
        replace Xg139:=Xg139.keep B
        replace Zp140:=Zp140.keep B
        clear B
        refine ⟨Xg6,?_⟩
        refine zc 9 38 14 #[pg g0,.int .u64 (sb i)] (get_any A.sx rb (by omega) (by omega)) ?_
        rintro _ v153 ⟨rfl,K152,S,hK,hC⟩
        replace BB:=belowO BB hC (fun b hb=>Nat.le_trans hwB (A.sx.kb b hb))
        replace Z:=Z.op hC hK
        have mXg6:=not_op Xg6 nXg6 hK
        replace Xg6:=Xg6.chg hC nXg6
        replace nXg6:=mXg6
        clear mXg6
        have mXg139:=not_op Xg139 nXg139 hK
        replace Xg139:=Xg139.chg hC nXg139
        replace nXg139:=mXg139
        clear mXg139
        replace Zp140:=Zp140.op hC hK
        have mXg151:=not_op Xg151 nXg151 hK
        replace Xg151:=Xg151.chg hC nXg151
        replace nXg151:=mXg151
        clear mXg151
        replace A:=A.op S hK hC
        clear S hK hC
        refine ⟨_,rfl,Xg6,?_⟩
        refine z 12 7 (dp140) ?_
        refine zs 13 Xg151 0 (.agg #[.int .u64 (coin E (sa i)),.int .u64 (seqn E (sa i))]) [.int .u64 (coin E (sa i)),.int .u64 (seqn E (sa i))] [.int .u64 (coin E (sa i)),.int .u64 (seqn E (sa i))] ?_
        intro v154 Y C
        replace BB:=belowC BB C (by omega)
        replace A:=At.cell A Xg151 C zg151 nXg151 (by decide)
        replace Z:=Z.cell C (by omega)
        replace Xg6:=Xg6.chg C (show g6≠g151 by omega)
        replace Xg139:=Xg139.chg C (show g139≠g151 by omega)
        replace Zp140:=Zp140.cell C (by omega)
        clear C Xg151
        have Xg151:=Y
        clear Y
        refine ⟨Xg6,?_⟩
        refine zs 14 Xg139 0 (.agg #[.int .u64 (coin E (sb i)),.int .u64 (seqn E (sb i))]) [.int .u64 (coin E (sb i)),.int .u64 (seqn E (sb i))] [.int .u64 (coin E (sb i)),.int .u64 (seqn E (sb i))] ?_
        intro v155 Y C
        replace BB:=belowC BB C (by omega)
        replace A:=At.cell A Xg139 C zg139 nXg139 (by decide)
        replace Z:=Z.cell C (by omega)
        replace Xg6:=Xg6.chg C (show g6≠g139 by omega)
        replace Zp140:=Zp140.cell C (by omega)
        replace Xg151:=Xg151.chg C (show g151≠g139 by omega)
        clear C Xg139
        have Xg139:=Y
        clear Y
        refine ⟨Xg6,?_⟩
        refine gz_done ?_
        exact ge_join ((dp140,g151,g139):Value × Nat × Nat) ⟨BB,Xg6,Xg151,Xg139,_,_,_,_,_,_,A.sx,by omega,by omega,Z,Zp140,Pp140,ep140,nXg6,nXg151,nXg139⟩ (by kernel_rfl)
       exact ga_nil
      have lXg6:=Xg6.lt
      have lXg139:=Xg139.lt
      refine zaa 10 8 [.int .u64 0,.int .u64 0] 42 (pg) ?_ ?_
      ·intro v156 g157 Xg157 hg157 B
       have yZg157:=Nat.le_trans Z.ext.2 hg157
       have yZp140g157:=Nat.le_trans Zp140.ext.2 hg157
       have zg157:=Nat.le_trans A.size hg157
       have nXg157:=A.new hg157
       replace BB:=joinB BB B
       replace A:=A.keep B
       replace Z:=Z.keep B
       replace Xg6:=Xg6.keep B
       replace Xg139:=Xg139.keep B
       replace Zp140:=Zp140.keep B
       clear B
       refine ⟨Xg6,?_⟩
       refine zc 5 34 14 #[pg g0,.int .u64 (sa i)] (get_any A.sx ra (by omega) (by omega)) ?_
       rintro _ v159 ⟨rfl,K158,S,hK,hC⟩
       replace BB:=belowO BB hC (fun b hb=>Nat.le_trans hwB (A.sx.kb b hb))
       replace Z:=Z.op hC hK
       have mXg6:=not_op Xg6 nXg6 hK
       replace Xg6:=Xg6.chg hC nXg6
       replace nXg6:=mXg6
       clear mXg6
       have mXg139:=not_op Xg139 nXg139 hK
       replace Xg139:=Xg139.chg hC nXg139
       replace nXg139:=mXg139
       clear mXg139
       replace Zp140:=Zp140.op hC hK
       have mXg157:=not_op Xg157 nXg157 hK
       replace Xg157:=Xg157.chg hC nXg157
       replace nXg157:=mXg157
       clear mXg157
       replace A:=A.op S hK hC
       clear S hK hC
       refine ⟨_,rfl,Xg6,?_⟩
       refine zc 9 38 14 #[pg g0,.int .u64 (sb i)] (get_any A.sx rb (by omega) (by omega)) ?_
       rintro _ v161 ⟨rfl,K160,S,hK,hC⟩
       replace BB:=belowO BB hC (fun b hb=>Nat.le_trans hwB (A.sx.kb b hb))
       replace Z:=Z.op hC hK
       have mXg6:=not_op Xg6 nXg6 hK
       replace Xg6:=Xg6.chg hC nXg6
       replace nXg6:=mXg6
       clear mXg6
       have mXg139:=not_op Xg139 nXg139 hK
       replace Xg139:=Xg139.chg hC nXg139
       replace nXg139:=mXg139
       clear mXg139
       replace Zp140:=Zp140.op hC hK
       have mXg157:=not_op Xg157 nXg157 hK
       replace Xg157:=Xg157.chg hC nXg157
       replace nXg157:=mXg157
       clear mXg157
       replace A:=A.op S hK hC
       clear S hK hC
       refine ⟨_,rfl,Xg6,?_⟩
       refine z 12 7 (dp140) ?_
       refine zs 13 Xg157 0 (.agg #[.int .u64 (coin E (sa i)),.int .u64 (seqn E (sa i))]) [.int .u64 (coin E (sa i)),.int .u64 (seqn E (sa i))] [.int .u64 (coin E (sa i)),.int .u64 (seqn E (sa i))] ?_
       intro v162 Y C
       replace BB:=belowC BB C (by omega)
       replace A:=At.cell A Xg157 C zg157 nXg157 (by decide)
       replace Z:=Z.cell C (by omega)
       replace Xg6:=Xg6.chg C (show g6≠g157 by omega)
       replace Xg139:=Xg139.chg C (show g139≠g157 by omega)
       replace Zp140:=Zp140.cell C (by omega)
       clear C Xg157
       have Xg157:=Y
       clear Y
       refine ⟨Xg6,?_⟩
       refine zs 14 Xg139 0 (.agg #[.int .u64 (coin E (sb i)),.int .u64 (seqn E (sb i))]) [.int .u64 (coin E (sb i)),.int .u64 (seqn E (sb i))] [.int .u64 (coin E (sb i)),.int .u64 (seqn E (sb i))] ?_
       intro v163 Y C
       replace BB:=belowC BB C (by omega)
       replace A:=At.cell A Xg139 C zg139 nXg139 (by decide)
       replace Z:=Z.cell C (by omega)
       replace Xg6:=Xg6.chg C (show g6≠g139 by omega)
       replace Zp140:=Zp140.cell C (by omega)
       replace Xg157:=Xg157.chg C (show g157≠g139 by omega)
       clear C Xg139
       have Xg139:=Y
       clear Y
       refine ⟨Xg6,?_⟩
       refine gz_done ?_
       exact ge_join ((dp140,g157,g139):Value × Nat × Nat) ⟨BB,Xg6,Xg157,Xg139,_,_,_,_,_,_,A.sx,by omega,by omega,Z,Zp140,Pp140,ep140,nXg6,nXg157,nXg139⟩ (by kernel_rfl)
      exact ga_nil
     have lXg6:=Xg6.lt
     have lXg139:=Xg139.lt
     refine zaa 10 8 [.int .u64 0,.int .u64 0] 42 (pg) ?_ ?_
     ·intro v164 g165 Xg165 hg165 B
      have yZg165:=Nat.le_trans Z.ext.2 hg165
      have zg165:=Nat.le_trans A.size hg165
      have nXg165:=A.new hg165
      replace BB:=joinB BB B
      replace A:=A.keep B
      replace Z:=Z.keep B
      replace Xg6:=Xg6.keep B
      replace Xg139:=Xg139.keep B
      clear B
      refine ⟨Xg6,?_⟩
      have lXg6:=Xg6.lt
      have lXg139:=Xg139.lt
      have lXg165:=Xg165.lt
      refine zc 1 30 17 #[pg g0] (dumpZ A.sx (by omega)) ?_
      rintro _ v167 ⟨dp166,sp166,rfl,Pp166,ep166,Zp166,B⟩
      replace BB:=joinB BB B
      replace A:=A.keep B
      replace Z:=Z.keep B
      replace Xg6:=Xg6.keep B
      replace Xg139:=Xg139.keep B
      replace Xg165:=Xg165.keep B
      clear B
      refine ⟨_,rfl,Xg6,?_⟩
      refine zc 5 34 14 #[pg g0,.int .u64 (sa i)] (get_any A.sx ra (by omega) (by omega)) ?_
      rintro _ v169 ⟨rfl,K168,S,hK,hC⟩
      replace BB:=belowO BB hC (fun b hb=>Nat.le_trans hwB (A.sx.kb b hb))
      replace Z:=Z.op hC hK
      have mXg6:=not_op Xg6 nXg6 hK
      replace Xg6:=Xg6.chg hC nXg6
      replace nXg6:=mXg6
      clear mXg6
      have mXg139:=not_op Xg139 nXg139 hK
      replace Xg139:=Xg139.chg hC nXg139
      replace nXg139:=mXg139
      clear mXg139
      have mXg165:=not_op Xg165 nXg165 hK
      replace Xg165:=Xg165.chg hC nXg165
      replace nXg165:=mXg165
      clear mXg165
      replace Zp166:=Zp166.op hC hK
      replace A:=A.op S hK hC
      clear S hK hC
      refine ⟨_,rfl,Xg6,?_⟩
      refine zc 9 38 14 #[pg g0,.int .u64 (sb i)] (get_any A.sx rb (by omega) (by omega)) ?_
      rintro _ v171 ⟨rfl,K170,S,hK,hC⟩
      replace BB:=belowO BB hC (fun b hb=>Nat.le_trans hwB (A.sx.kb b hb))
      replace Z:=Z.op hC hK
      have mXg6:=not_op Xg6 nXg6 hK
      replace Xg6:=Xg6.chg hC nXg6
      replace nXg6:=mXg6
      clear mXg6
      have mXg139:=not_op Xg139 nXg139 hK
      replace Xg139:=Xg139.chg hC nXg139
      replace nXg139:=mXg139
      clear mXg139
      have mXg165:=not_op Xg165 nXg165 hK
      replace Xg165:=Xg165.chg hC nXg165
      replace nXg165:=mXg165
      clear mXg165
      replace Zp166:=Zp166.op hC hK
      replace A:=A.op S hK hC
      clear S hK hC
      refine ⟨_,rfl,Xg6,?_⟩
      refine z 12 7 (dp166) ?_
      refine zs 13 Xg165 0 (.agg #[.int .u64 (coin E (sa i)),.int .u64 (seqn E (sa i))]) [.int .u64 (coin E (sa i)),.int .u64 (seqn E (sa i))] [.int .u64 (coin E (sa i)),.int .u64 (seqn E (sa i))] ?_
      intro v172 Y C
      replace BB:=belowC BB C (by omega)
      replace A:=At.cell A Xg165 C zg165 nXg165 (by decide)
      replace Z:=Z.cell C (by omega)
      replace Xg6:=Xg6.chg C (show g6≠g165 by omega)
      replace Xg139:=Xg139.chg C (show g139≠g165 by omega)
      replace Zp166:=Zp166.cell C (by omega)
      clear C Xg165
      have Xg165:=Y
      clear Y
      refine ⟨Xg6,?_⟩
      refine zs 14 Xg139 0 (.agg #[.int .u64 (coin E (sb i)),.int .u64 (seqn E (sb i))]) [.int .u64 (coin E (sb i)),.int .u64 (seqn E (sb i))] [.int .u64 (coin E (sb i)),.int .u64 (seqn E (sb i))] ?_
      intro v173 Y C
      replace BB:=belowC BB C (by omega)
      replace A:=At.cell A Xg139 C zg139 nXg139 (by decide)
      replace Z:=Z.cell C (by omega)
      replace Xg6:=Xg6.chg C (show g6≠g139 by omega)
      replace Xg165:=Xg165.chg C (show g165≠g139 by omega)
      replace Zp166:=Zp166.cell C (by omega)
      clear C Xg139
      have Xg139:=Y
      clear Y
      refine ⟨Xg6,?_⟩
      refine gz_done ?_
      exact ge_join ((dp166,g165,g139):Value × Nat × Nat) ⟨BB,Xg6,Xg165,Xg139,_,_,_,_,_,_,A.sx,by omega,by omega,Z,Zp166,Pp166,ep166,nXg6,nXg165,nXg139⟩ (by kernel_rfl)
     exact ga_nil
    exact ga_nil
   clear BB
   clear A
   clear Z
   clear Xg6
   rintro ⟨dv,g8,g9⟩ v174 ⟨BB,X6,X8,X9,K1,n1,N1,es,nD,wD,S,q1,q2,Z,ZD,PD,eD,nX6,nX8,nX9⟩
   dsimp only at X8 X9 PD nX8 nX9
   have A:=S.at
   clear S
   have hwv2:=BB.size
   refine gc_seq ?_
   refine gc_reg ?_
   refine t 10 (.int .i64 0) ?_
   refine gl_nil ?_
   refine ge_then ?_
   refine gc_join (fun (s:Int × Option Addr × Nat × Nat)=>[(0,.slice ao n c),(3,pg g0),(4,.slice s.2.1 s.2.2.1 s.2.2.2),(5,.int .i64 (i:Int)),(7,dv),(10,.int .i64 s.1)]) (fun s w'=>Below w.heap.size w w'/\∃ K' E' n' N' nB wB,Sx Bz w' K' g0 E' [] n' N'/\n'<=nn + 24/\N'<=NN + 10/\Zn K' nB wB w'/\Zn K' nD wD w'/\Rc.NatW wB nB s.2.1 s.2.2.1 s.2.2.2 (accs E').sum/\s.2.2.1<=3 * (i + 1)/\AllA E'/\(s.1≠0->E'=E)) ?_ ?_
   ·refine gc_seq ?_
    refine gc_reg ?_
    refine t 39 (pg g6) ?_
    refine tl 40 (.int .i64 (sw i)) X6 0 ?_
    refine gl_nil ?_
    refine ge_then ?_
    refine gc_block ?_
    refine gc_seq ?_
    refine gc_reg ?_
    by_cases c175:(sw i:Int)=0
    ·refine tq 42 (.bool ((sw i:Int) == 0)) (.bool true) (congrArg Value.bool (beq_iff_eq.2 c175)) ?_
     refine t 41 (.bool true) ?_
     refine gl_nil ?_
     refine ge_then ?_
     refine gc_yes ?_
     refine gc_seq ?_
     refine gc_reg ?_
     refine t 43 (pg g0) ?_
     refine t 44 (pq g6 1) ?_
     refine tl 45 (.int .u64 (sa i)) X6 1 ?_
     refine t 46 (pq g6 3) ?_
     refine tl 47 (.int .u64 (sn i)) X6 3 ?_
     refine tc 48 8 #[pg g0,.int .u64 (sa i),.int .u64 (sn i)] (mint_any A.sx ra rn (by omega) (by omega)) ?_
     rintro _ v179 ⟨rfl,K176,n177,N178,S,qn177,qN178,hK,hC⟩
     refine ⟨_,rfl,?_⟩
     replace BB:=belowO BB hC (fun b hb=>Nat.le_trans hwB (A.sx.kb b hb))
     replace Z:=Z.op hC hK
     replace ZD:=ZD.op hC hK
     have mX6:=not_op X6 nX6 hK
     replace X6:=X6.chg hC nX6
     replace nX6:=mX6
     clear mX6
     have mX8:=not_op X8 nX8 hK
     replace X8:=X8.chg hC nX8
     replace nX8:=mX8
     clear mX8
     have mX9:=not_op X9 nX9 hK
     replace X9:=X9.chg hC nX9
     replace nX9:=mX9
     clear mX9
     replace A:=A.op S hK hC
     clear S hK hC
     refine t 10 (.int .i64 (mintR E (sa i) (sn i))) ?_
     refine gl_nil ?_
     refine ge_then ?_
     refine gc_fr [(0,.slice ao n c),(3,pg g0),(4,.slice a k d),(5,.int .i64 (i:Int)),(6,pg g6),(7,dv),(8,pg g8),(9,pg g9),(10,.int .i64 (mintR E (sa i) (sn i))),(39,pg g6),(40,.int .i64 (sw i)),(41,.bool true),(42,.bool true),(43,pg g0),(44,pq g6 1),(45,.int .u64 (sa i)),(46,pq g6 3),(47,.int .u64 (sn i)),(48,.int .i64 (mintR E (sa i) (sn i)))] (by kernel_rfl) ?_
     refine gc_seq ?_
     refine gc_reg ?_
     refine t 49 (.int .i64 (mintR E (sa i) (sn i))) ?_
     by_cases c180:(mintR E (sa i) (sn i):Int)=0
     ·refine tq 50 (.bool ((mintR E (sa i) (sn i):Int) == 0)) (.bool true) (congrArg Value.bool (beq_iff_eq.2 c180)) ?_
      refine gl_nil ?_
      refine ge_then ?_
      refine gc_yes ?_
      refine gc_reg ?_
      refine t 51 (.slice a k d) ?_
      refine t 52 (pq g6 3) ?_
      refine tl 53 (.int .u64 (sn i)) X6 3 ?_
      refine tc 54 22 #[.int .u64 (sn i)] (wOf rn.1 rn.2) ?_
      rintro _ v181 ⟨aO,kO,dO,rfl,NO,hkO,B⟩
      refine ⟨_,rfl,?_⟩
      replace BB:=joinB BB B
      replace A:=A.keep B
      replace Z:=Z.keep B
      replace ZD:=ZD.keep B
      replace X6:=X6.keep B
      replace X8:=X8.keep B
      replace X9:=X9.keep B
      clear B
      refine tc 55 21 #[.slice a k d,.slice aO kO dO] (wAdd (Z.nat NA).o.a NO.o.a (by omega) (by omega)) ?_
      rintro _ v182 ⟨aP,kP,dP,rfl,NP,hkP,B⟩
      refine ⟨_,rfl,?_⟩
      have ZP:=zn_new B (fun b hb=>A.sx.sa.lt hb)
      replace BB:=joinB BB B
      replace A:=A.keep B
      replace Z:=Z.keep B
      replace ZD:=ZD.keep B
      replace X6:=X6.keep B
      replace X8:=X8.keep B
      replace X9:=X9.keep B
      replace NO:=Rc.NatW.keep NO B
      clear B
      clear NO
      clear Z
      refine t 4 (.slice aP kP dP) ?_
      refine gl_nil ?_
      refine ge_bn ?_
      have NQ:=NP
      have hsum:(accs (mintE E (sa i) (sn i))).sum=((accs E).sum + sn i):=mint_sum okE rn c180
      rw [<- hsum] at NQ
      exact ge_join ((mintR E (sa i) (sn i),aP,kP,dP):Int × Option Addr × Nat × Nat) ⟨BB,_,_,_,_,_,_,A.sx,by omega,by omega,ZP,ZD,NQ,by dsimp only; omega,mint_all hAll,fun h=>mint_no h⟩ (by kernel_rfl)
     ·refine tq 50 (.bool ((mintR E (sa i) (sn i):Int) == 0)) (.bool false) (congrArg Value.bool (beq_eq_false_iff_ne.2 c180)) ?_
      refine gl_nil ?_
      refine ge_then ?_
      refine gc_no ?_
      refine gc_skip ?_
      refine ge_bn ?_
      have NQ:=NA
      have hsum:(accs (mintE E (sa i) (sn i))).sum=(accs E).sum:=by rw [mint_no c180]
      rw [<- hsum] at NQ
      exact ge_join ((mintR E (sa i) (sn i),a,k,d):Int × Option Addr × Nat × Nat) ⟨BB,_,_,_,_,_,_,A.sx,by omega,by omega,Z,ZD,NQ,by dsimp only; omega,mint_all hAll,fun h=>mint_no h⟩ (by kernel_rfl)
    ·refine tq 42 (.bool ((sw i:Int) == 0)) (.bool false) (congrArg Value.bool (beq_eq_false_iff_ne.2 c175)) ?_
     refine t 41 (.bool false) ?_
     refine gl_nil ?_
     refine ge_then ?_
     refine gc_no ?_
     refine gc_join (fun (s:Bool)=>[(0,.slice ao n c),(3,pg g0),(4,.slice a k d),(5,.int .i64 (i:Int)),(6,pg g6),(7,dv),(8,pg g8),(9,pg g9),(10,.int .i64 0),(40,.int .i64 (sw i)),(56,.bool s)]) (fun _ w'=>w'=v174) ?_ ?_
     ·refine gc_seq ?_
      refine gc_reg ?_
      by_cases c183:(sw i:Int)=1
      ·refine tq 57 (.bool ((sw i:Int) == 1)) (.bool true) (congrArg Value.bool (beq_iff_eq.2 c183)) ?_
       refine t 56 (.bool true) ?_
       refine gl_nil ?_
       refine ge_then ?_
       refine gc_yes ?_
       refine gc_skip ?_
       exact ge_join true rfl (by kernel_rfl)
      ·refine tq 57 (.bool ((sw i:Int) == 1)) (.bool false) (congrArg Value.bool (beq_eq_false_iff_ne.2 c183)) ?_
       refine t 56 (.bool false) ?_
       refine gl_nil ?_
       refine ge_then ?_
       refine gc_no ?_
       refine gc_reg ?_
       by_cases c184:(sw i:Int)=2
       ·refine tq 58 (.bool ((sw i:Int) == 2)) (.bool true) (congrArg Value.bool (beq_iff_eq.2 c184)) ?_
        refine t 56 (.bool true) ?_
        refine gl_nil ?_
        exact ge_join true rfl (by kernel_rfl)
       ·refine tq 58 (.bool ((sw i:Int) == 2)) (.bool false) (congrArg Value.bool (beq_eq_false_iff_ne.2 c184)) ?_
        refine t 56 (.bool false) ?_
        refine gl_nil ?_
        exact ge_join false rfl (by kernel_rfl)
     rintro sb_ _ rfl
     rcases Bool.eq_false_or_eq_true (sb_) with b185 | b185
     ·refine gc_yes (hc:=congrArg Value.bool b185) ?_
      refine gc_seq ?_
      refine gc_reg ?_
      refine t 59 (pg g0) ?_
      refine t 60 (pq g6 1) ?_
      refine tl 61 (.int .u64 (sa i)) X6 1 ?_
      refine t 62 (pq g6 2) ?_
      refine tl 63 (.int .u64 (sb i)) X6 2 ?_
      refine t 64 (pq g6 3) ?_
      refine tl 65 (.int .u64 (sn i)) X6 3 ?_
      refine tc 66 10 #[pg g0,.int .u64 (sa i),.int .u64 (sb i),.int .u64 (sn i)] (move_any A.sx ra rb rn (by omega) (by omega)) ?_
      rintro _ v189 ⟨rfl,K186,n187,N188,S,qn187,qN188,hK,hC⟩
      refine ⟨_,rfl,?_⟩
      replace BB:=belowO BB hC (fun b hb=>Nat.le_trans hwB (A.sx.kb b hb))
      replace Z:=Z.op hC hK
      replace ZD:=ZD.op hC hK
      have mX6:=not_op X6 nX6 hK
      replace X6:=X6.chg hC nX6
      replace nX6:=mX6
      clear mX6
      have mX8:=not_op X8 nX8 hK
      replace X8:=X8.chg hC nX8
      replace nX8:=mX8
      clear mX8
      have mX9:=not_op X9 nX9 hK
      replace X9:=X9.chg hC nX9
      replace nX9:=mX9
      clear mX9
      replace A:=A.op S hK hC
      clear S hK hC
      refine t 10 (.int .i64 (moveR E (sa i) (sb i) (sn i))) ?_
      refine gl_nil ?_
      refine ge_then ?_
      refine gc_join (fun (s:Nat × Nat)=>[(0,.slice ao n c),(3,pg g0),(4,.slice a k d),(5,.int .i64 (i:Int)),(6,pg g6),(7,dv),(8,pg g8),(9,pg g9),(10,.int .i64 (moveR E (sa i) (sb i) (sn i))),(11,pg s.1),(12,pg s.2)]) (fun s w'=>Below w.heap.size w w'/\Blk w' g6 [.int .i64 (sw i),.int .u64 (sa i),.int .u64 (sb i),.int .u64 (sn i)] 33/\Blk w' g8 [.int .u64 (coin E (sa i)),.int .u64 (seqn E (sa i))] 42/\Blk w' g9 [.int .u64 (coin E (sb i)),.int .u64 (seqn E (sb i))] 42/\Blk w' s.1 [.int .u64 (coin (moveE E (sa i) (sb i) (sn i)) (sa i)),.int .u64 (seqn (moveE E (sa i) (sb i) (sn i)) (sa i))] 42/\Blk w' s.2 [.int .u64 (coin (moveE E (sa i) (sb i) (sn i)) (sb i)),.int .u64 (seqn (moveE E (sa i) (sb i) (sn i)) (sb i))] 42/\∃ K' n' N',Sx Bz w' K' g0 (moveE E (sa i) (sb i) (sn i)) [] n' N'/\n'<=nn + 14/\N'<=NN + 10/\Zn K' nA wA w'/\Zn K' nD wD w') ?_ ?_
      ·replace BB:=BB.drew
       replace A:=A.drew
       replace Z:=Z.drew
       replace ZD:=ZD.drew
       replace X6:=X6.drew
       replace X8:=X8.drew
       replace X9:=X9.drew
       refine gc_draw (fun w'=>Blk w' g6 [.int .i64 (sw i),.int .u64 (sa i),.int .u64 (sb i),.int .u64 (sn i)] 33) (fun _=>false) X6 ?_
       refine z 0 67 (pg g0) ?_
       refine z 1 68 (pq g6 1) ?_
       refine zl 2 69 (.int .u64 (sa i)) (fun _ h=>h) 1 ?_
       refine z 4 71 (pg g0) ?_
       refine z 5 72 (pq g6 2) ?_
       refine zl 6 73 (.int .u64 (sb i)) (fun _ h=>h) 2 ?_
       refine gz_ready [3,8,9] ?_
       refine ga_call 3 (some 70) 14 #[pg g0,.int .u64 (sa i)] (get_any A.sx ra (by omega) (by omega)) ?_ ?_
       ·rintro _ v191 ⟨rfl,K190,S,hK,hC⟩
        replace BB:=belowO BB hC (fun b hb=>Nat.le_trans hwB (A.sx.kb b hb))
        replace Z:=Z.op hC hK
        replace ZD:=ZD.op hC hK
        have mX6:=not_op X6 nX6 hK
        replace X6:=X6.chg hC nX6
        replace nX6:=mX6
        clear mX6
        have mX8:=not_op X8 nX8 hK
        replace X8:=X8.chg hC nX8
        replace nX8:=mX8
        clear mX8
        have mX9:=not_op X9 nX9 hK
        replace X9:=X9.chg hC nX9
        replace nX9:=mX9
        clear mX9
        replace A:=A.op S hK hC
        clear S hK hC
        refine ⟨_,rfl,X6,?_⟩
        refine gz_ready [7,8,9] ?_
        refine ga_call 7 (some 74) 14 #[pg g0,.int .u64 (sb i)] (get_any A.sx rb (by omega) (by omega)) ?_ ?_
        ·rintro _ v193 ⟨rfl,K192,S,hK,hC⟩
         replace BB:=belowO BB hC (fun b hb=>Nat.le_trans hwB (A.sx.kb b hb))
         replace Z:=Z.op hC hK
         replace ZD:=ZD.op hC hK
         have mX6:=not_op X6 nX6 hK
         replace X6:=X6.chg hC nX6
         replace nX6:=mX6
         clear mX6
         have mX8:=not_op X8 nX8 hK
         replace X8:=X8.chg hC nX8
         replace nX8:=mX8
         clear mX8
         have mX9:=not_op X9 nX9 hK
         replace X9:=X9.chg hC nX9
         replace nX9:=mX9
         clear mX9
         replace A:=A.op S hK hC
         clear S hK hC
         refine ⟨_,rfl,X6,?_⟩
         refine gz_ready [8,9] ?_
         have lX6:=X6.lt
         have lX8:=X8.lt
         have lX9:=X9.lt
         refine zaa 8 11 [.int .u64 0,.int .u64 0] 42 (pg) ?_ ?_
         ·intro v194 g195 Xg195 hg195 B
          have yZg195:=Nat.le_trans Z.ext.2 hg195
          have yZDg195:=Nat.le_trans ZD.ext.2 hg195
          have zg195:=Nat.le_trans A.size hg195
          have nXg195:=A.new hg195
          replace BB:=joinB BB B
          replace A:=A.keep B
          replace Z:=Z.keep B
          replace ZD:=ZD.keep B
          replace X6:=X6.keep B
          replace X8:=X8.keep B
          replace X9:=X9.keep B
          clear B
          refine ⟨X6,?_⟩
          have lX6:=X6.lt
          have lX8:=X8.lt
          have lX9:=X9.lt
          have lXg195:=Xg195.lt
          refine za 9 12 [.int .u64 0,.int .u64 0] 42 (pg) ?_
          intro v196 g197 Xg197 hg197 B
          have yZg197:=Nat.le_trans Z.ext.2 hg197
          have yZDg197:=Nat.le_trans ZD.ext.2 hg197
          have zg197:=Nat.le_trans A.size hg197
          have nXg197:=A.new hg197
          replace BB:=joinB BB B
          replace A:=A.keep B
          replace Z:=Z.keep B
          replace ZD:=ZD.keep B
          replace X6:=X6.keep B
          replace X8:=X8.keep B
          replace X9:=X9.keep B
          replace Xg195:=Xg195.keep B
          clear B
          refine ⟨X6,?_⟩
          refine zs 10 Xg195 0 (.agg #[.int .u64 (coin (moveE E (sa i) (sb i) (sn i)) (sa i)),.int .u64 (seqn (moveE E (sa i) (sb i) (sn i)) (sa i))]) [.int .u64 (coin (moveE E (sa i) (sb i) (sn i)) (sa i)),.int .u64 (seqn (moveE E (sa i) (sb i) (sn i)) (sa i))] [.int .u64 (coin (moveE E (sa i) (sb i) (sn i)) (sa i)),.int .u64 (seqn (moveE E (sa i) (sb i) (sn i)) (sa i))] ?_
          intro v198 Y C
          replace BB:=belowC BB C (by omega)
          replace A:=At.cell A Xg195 C zg195 nXg195 (by decide)
          replace Z:=Z.cell C (by omega)
          replace ZD:=ZD.cell C (by omega)
          replace X6:=X6.chg C (show g6≠g195 by omega)
          replace X8:=X8.chg C (show g8≠g195 by omega)
          replace X9:=X9.chg C (show g9≠g195 by omega)
          replace Xg197:=Xg197.chg C (show g197≠g195 by omega)
          clear C Xg195
          have Xg195:=Y
          clear Y
          refine ⟨X6,?_⟩
          refine zs 11 Xg197 0 (.agg #[.int .u64 (coin (moveE E (sa i) (sb i) (sn i)) (sb i)),.int .u64 (seqn (moveE E (sa i) (sb i) (sn i)) (sb i))]) [.int .u64 (coin (moveE E (sa i) (sb i) (sn i)) (sb i)),.int .u64 (seqn (moveE E (sa i) (sb i) (sn i)) (sb i))] [.int .u64 (coin (moveE E (sa i) (sb i) (sn i)) (sb i)),.int .u64 (seqn (moveE E (sa i) (sb i) (sn i)) (sb i))] ?_
          intro v199 Y C
          replace BB:=belowC BB C (by omega)
          replace A:=At.cell A Xg197 C zg197 nXg197 (by decide)
          replace Z:=Z.cell C (by omega)
          replace ZD:=ZD.cell C (by omega)
          replace X6:=X6.chg C (show g6≠g197 by omega)
          replace X8:=X8.chg C (show g8≠g197 by omega)
          replace X9:=X9.chg C (show g9≠g197 by omega)
          replace Xg195:=Xg195.chg C (show g195≠g197 by omega)
          clear C Xg197
          have Xg197:=Y
          clear Y
          refine ⟨X6,?_⟩
          refine gz_done ?_
          exact ge_join ((g195,g197):Nat × Nat) ⟨BB,X6,X8,X9,Xg195,Xg197,_,_,_,A.sx,by omega,by omega,Z,ZD⟩ (by kernel_rfl)
         have lX6:=X6.lt
         have lX8:=X8.lt
         have lX9:=X9.lt
         refine zaa 9 12 [.int .u64 0,.int .u64 0] 42 (pg) ?_ ?_
         ·intro v200 g201 Xg201 hg201 B
          have yZg201:=Nat.le_trans Z.ext.2 hg201
          have yZDg201:=Nat.le_trans ZD.ext.2 hg201
          have zg201:=Nat.le_trans A.size hg201
          have nXg201:=A.new hg201
          replace BB:=joinB BB B
          replace A:=A.keep B
          replace Z:=Z.keep B
          replace ZD:=ZD.keep B
          replace X6:=X6.keep B
          replace X8:=X8.keep B
          replace X9:=X9.keep B
          clear B
          refine ⟨X6,?_⟩
          have lX6:=X6.lt
          have lX8:=X8.lt
          have lX9:=X9.lt
          have lXg201:=Xg201.lt
          refine za 8 11 [.int .u64 0,.int .u64 0] 42 (pg) ?_
          intro v202 g203 Xg203 hg203 B
          have yZg203:=Nat.le_trans Z.ext.2 hg203
          have yZDg203:=Nat.le_trans ZD.ext.2 hg203
          have zg203:=Nat.le_trans A.size hg203
          have nXg203:=A.new hg203
          replace BB:=joinB BB B
          replace A:=A.keep B
          replace Z:=Z.keep B
          replace ZD:=ZD.keep B
          replace X6:=X6.keep B
          replace X8:=X8.keep B
          replace X9:=X9.keep B
          replace Xg201:=Xg201.keep B
          clear B
          refine ⟨X6,?_⟩
          refine zs 10 Xg203 0 (.agg #[.int .u64 (coin (moveE E (sa i) (sb i) (sn i)) (sa i)),.int .u64 (seqn (moveE E (sa i) (sb i) (sn i)) (sa i))]) [.int .u64 (coin (moveE E (sa i) (sb i) (sn i)) (sa i)),.int .u64 (seqn (moveE E (sa i) (sb i) (sn i)) (sa i))] [.int .u64 (coin (moveE E (sa i) (sb i) (sn i)) (sa i)),.int .u64 (seqn (moveE E (sa i) (sb i) (sn i)) (sa i))] ?_
          intro v204 Y C
          replace BB:=belowC BB C (by omega)
          replace A:=At.cell A Xg203 C zg203 nXg203 (by decide)
          replace Z:=Z.cell C (by omega)
          replace ZD:=ZD.cell C (by omega)
          replace X6:=X6.chg C (show g6≠g203 by omega)
          replace X8:=X8.chg C (show g8≠g203 by omega)
          replace X9:=X9.chg C (show g9≠g203 by omega)
          replace Xg201:=Xg201.chg C (show g201≠g203 by omega)
          clear C Xg203
          have Xg203:=Y
          clear Y
          refine ⟨X6,?_⟩
          refine zs 11 Xg201 0 (.agg #[.int .u64 (coin (moveE E (sa i) (sb i) (sn i)) (sb i)),.int .u64 (seqn (moveE E (sa i) (sb i) (sn i)) (sb i))]) [.int .u64 (coin (moveE E (sa i) (sb i) (sn i)) (sb i)),.int .u64 (seqn (moveE E (sa i) (sb i) (sn i)) (sb i))] [.int .u64 (coin (moveE E (sa i) (sb i) (sn i)) (sb i)),.int .u64 (seqn (moveE E (sa i) (sb i) (sn i)) (sb i))] ?_
          intro v205 Y C
          replace BB:=belowC BB C (by omega)
          replace A:=At.cell A Xg201 C zg201 nXg201 (by decide)
          replace Z:=Z.cell C (by omega)
          replace ZD:=ZD.cell C (by omega)
          replace X6:=X6.chg C (show g6≠g201 by omega)
          replace X8:=X8.chg C (show g8≠g201 by omega)
          replace X9:=X9.chg C (show g9≠g201 by omega)
          replace Xg203:=Xg203.chg C (show g203≠g201 by omega)
          clear C Xg201
          have Xg201:=Y
          clear Y
          refine ⟨X6,?_⟩
          refine gz_done ?_
          exact ge_join ((g203,g201):Nat × Nat) ⟨BB,X6,X8,X9,Xg203,Xg201,_,_,_,A.sx,by omega,by omega,Z,ZD⟩ (by kernel_rfl)
         exact ga_nil
        have lX6:=X6.lt
        have lX8:=X8.lt
        have lX9:=X9.lt
        refine zaa 8 11 [.int .u64 0,.int .u64 0] 42 (pg) ?_ ?_
        ·intro v206 g207 Xg207 hg207 B
         have yZg207:=Nat.le_trans Z.ext.2 hg207
         have yZDg207:=Nat.le_trans ZD.ext.2 hg207
         have zg207:=Nat.le_trans A.size hg207
         have nXg207:=A.new hg207
         replace BB:=joinB BB B
         replace A:=A.keep B
         replace Z:=Z.keep B
         replace ZD:=ZD.keep B
         replace X6:=X6.keep B
         replace X8:=X8.keep B
         replace X9:=X9.keep B
         clear B
         refine ⟨X6,?_⟩
         refine gz_ready [7,9] ?_
         refine ga_call 7 (some 74) 14 #[pg g0,.int .u64 (sb i)] (get_any A.sx rb (by omega) (by omega)) ?_ ?_
         ·rintro _ v209 ⟨rfl,K208,S,hK,hC⟩
          replace BB:=belowO BB hC (fun b hb=>Nat.le_trans hwB (A.sx.kb b hb))
          replace Z:=Z.op hC hK
          replace ZD:=ZD.op hC hK
          have mX6:=not_op X6 nX6 hK
          replace X6:=X6.chg hC nX6
          replace nX6:=mX6
          clear mX6
          have mX8:=not_op X8 nX8 hK
          replace X8:=X8.chg hC nX8
          replace nX8:=mX8
          clear mX8
          have mX9:=not_op X9 nX9 hK
          replace X9:=X9.chg hC nX9
          replace nX9:=mX9
          clear mX9
          have mXg207:=not_op Xg207 nXg207 hK
          replace Xg207:=Xg207.chg hC nXg207
          replace nXg207:=mXg207
          clear mXg207
          replace A:=A.op S hK hC
          clear S hK hC
          refine ⟨_,rfl,X6,?_⟩
          have lX6:=X6.lt
          have lX8:=X8.lt
          have lX9:=X9.lt
          have lXg207:=Xg207.lt
          refine za 9 12 [.int .u64 0,.int .u64 0] 42 (pg) ?_
          intro v210 g211 Xg211 hg211 B
          have yZg211:=Nat.le_trans Z.ext.2 hg211
          have yZDg211:=Nat.le_trans ZD.ext.2 hg211
          have zg211:=Nat.le_trans A.size hg211
          have nXg211:=A.new hg211
          replace BB:=joinB BB B
          replace A:=A.keep B
          replace Z:=Z.keep B
          replace ZD:=ZD.keep B
          replace X6:=X6.keep B
          replace X8:=X8.keep B
          replace X9:=X9.keep B
          replace Xg207:=Xg207.keep B
          clear B
          refine ⟨X6,?_⟩
          refine zs 10 Xg207 0 (.agg #[.int .u64 (coin (moveE E (sa i) (sb i) (sn i)) (sa i)),.int .u64 (seqn (moveE E (sa i) (sb i) (sn i)) (sa i))]) [.int .u64 (coin (moveE E (sa i) (sb i) (sn i)) (sa i)),.int .u64 (seqn (moveE E (sa i) (sb i) (sn i)) (sa i))] [.int .u64 (coin (moveE E (sa i) (sb i) (sn i)) (sa i)),.int .u64 (seqn (moveE E (sa i) (sb i) (sn i)) (sa i))] ?_
          intro v212 Y C
          replace BB:=belowC BB C (by omega)
          replace A:=At.cell A Xg207 C zg207 nXg207 (by decide)
          replace Z:=Z.cell C (by omega)
          replace ZD:=ZD.cell C (by omega)
          replace X6:=X6.chg C (show g6≠g207 by omega)
          replace X8:=X8.chg C (show g8≠g207 by omega)
          replace X9:=X9.chg C (show g9≠g207 by omega)
          replace Xg211:=Xg211.chg C (show g211≠g207 by omega)
          clear C Xg207
          have Xg207:=Y
          clear Y
          refine ⟨X6,?_⟩
          refine zs 11 Xg211 0 (.agg #[.int .u64 (coin (moveE E (sa i) (sb i) (sn i)) (sb i)),.int .u64 (seqn (moveE E (sa i) (sb i) (sn i)) (sb i))]) [.int .u64 (coin (moveE E (sa i) (sb i) (sn i)) (sb i)),.int .u64 (seqn (moveE E (sa i) (sb i) (sn i)) (sb i))] [.int .u64 (coin (moveE E (sa i) (sb i) (sn i)) (sb i)),.int .u64 (seqn (moveE E (sa i) (sb i) (sn i)) (sb i))] ?_
          intro v213 Y C
          replace BB:=belowC BB C (by omega)
          replace A:=At.cell A Xg211 C zg211 nXg211 (by decide)
          replace Z:=Z.cell C (by omega)
          replace ZD:=ZD.cell C (by omega)
          replace X6:=X6.chg C (show g6≠g211 by omega)
          replace X8:=X8.chg C (show g8≠g211 by omega)
          replace X9:=X9.chg C (show g9≠g211 by omega)
          replace Xg207:=Xg207.chg C (show g207≠g211 by omega)
          clear C Xg211
          have Xg211:=Y
          clear Y
          refine ⟨X6,?_⟩
          refine gz_done ?_
          exact ge_join ((g207,g211):Nat × Nat) ⟨BB,X6,X8,X9,Xg207,Xg211,_,_,_,A.sx,by omega,by omega,Z,ZD⟩ (by kernel_rfl)
         have lX6:=X6.lt
         have lX8:=X8.lt
         have lX9:=X9.lt
         have lXg207:=Xg207.lt
         refine zaa 9 12 [.int .u64 0,.int .u64 0] 42 (pg) ?_ ?_
         ·intro v214 g215 Xg215 hg215 B
          have yZg215:=Nat.le_trans Z.ext.2 hg215
          have yZDg215:=Nat.le_trans ZD.ext.2 hg215
          have zg215:=Nat.le_trans A.size hg215
          have nXg215:=A.new hg215
          replace BB:=joinB BB B
          replace A:=A.keep B
          replace Z:=Z.keep B
          replace ZD:=ZD.keep B
          replace X6:=X6.keep B
          replace X8:=X8.keep B
          replace X9:=X9.keep B
          replace Xg207:=Xg207.keep B
          clear B
          refine ⟨X6,?_⟩
          refine zc 7 74 14 #[pg g0,.int .u64 (sb i)] (get_any A.sx rb (by omega) (by omega)) ?_
          rintro _ v217 ⟨rfl,K216,S,hK,hC⟩
          replace BB:=belowO BB hC (fun b hb=>Nat.le_trans hwB (A.sx.kb b hb))
          replace Z:=Z.op hC hK
          replace ZD:=ZD.op hC hK
          have mX6:=not_op X6 nX6 hK
          replace X6:=X6.chg hC nX6
          replace nX6:=mX6
          clear mX6
          have mX8:=not_op X8 nX8 hK
          replace X8:=X8.chg hC nX8
          replace nX8:=mX8
          clear mX8
          have mX9:=not_op X9 nX9 hK
          replace X9:=X9.chg hC nX9
          replace nX9:=mX9
          clear mX9
          have mXg207:=not_op Xg207 nXg207 hK
          replace Xg207:=Xg207.chg hC nXg207
          replace nXg207:=mXg207
          clear mXg207
          have mXg215:=not_op Xg215 nXg215 hK
          replace Xg215:=Xg215.chg hC nXg215
          replace nXg215:=mXg215
          clear mXg215
          replace A:=A.op S hK hC
          clear S hK hC
          refine ⟨_,rfl,X6,?_⟩
          refine zs 10 Xg207 0 (.agg #[.int .u64 (coin (moveE E (sa i) (sb i) (sn i)) (sa i)),.int .u64 (seqn (moveE E (sa i) (sb i) (sn i)) (sa i))]) [.int .u64 (coin (moveE E (sa i) (sb i) (sn i)) (sa i)),.int .u64 (seqn (moveE E (sa i) (sb i) (sn i)) (sa i))] [.int .u64 (coin (moveE E (sa i) (sb i) (sn i)) (sa i)),.int .u64 (seqn (moveE E (sa i) (sb i) (sn i)) (sa i))] ?_
          intro v218 Y C
          replace BB:=belowC BB C (by omega)
          replace A:=At.cell A Xg207 C zg207 nXg207 (by decide)
          replace Z:=Z.cell C (by omega)
          replace ZD:=ZD.cell C (by omega)
          replace X6:=X6.chg C (show g6≠g207 by omega)
          replace X8:=X8.chg C (show g8≠g207 by omega)
          replace X9:=X9.chg C (show g9≠g207 by omega)
          replace Xg215:=Xg215.chg C (show g215≠g207 by omega)
          clear C Xg207
          have Xg207:=Y
          clear Y
          refine ⟨X6,?_⟩
          refine zs 11 Xg215 0 (.agg #[.int .u64 (coin (moveE E (sa i) (sb i) (sn i)) (sb i)),.int .u64 (seqn (moveE E (sa i) (sb i) (sn i)) (sb i))]) [.int .u64 (coin (moveE E (sa i) (sb i) (sn i)) (sb i)),.int .u64 (seqn (moveE E (sa i) (sb i) (sn i)) (sb i))] [.int .u64 (coin (moveE E (sa i) (sb i) (sn i)) (sb i)),.int .u64 (seqn (moveE E (sa i) (sb i) (sn i)) (sb i))] ?_
          intro v219 Y C
          replace BB:=belowC BB C (by omega)
          replace A:=At.cell A Xg215 C zg215 nXg215 (by decide)
          replace Z:=Z.cell C (by omega)
          replace ZD:=ZD.cell C (by omega)
          replace X6:=X6.chg C (show g6≠g215 by omega)
          replace X8:=X8.chg C (show g8≠g215 by omega)
          replace X9:=X9.chg C (show g9≠g215 by omega)
          replace Xg207:=Xg207.chg C (show g207≠g215 by omega)
          clear C Xg215
          have Xg215:=Y
          clear Y
          refine ⟨X6,?_⟩
          refine gz_done ?_
          exact ge_join ((g207,g215):Nat × Nat) ⟨BB,X6,X8,X9,Xg207,Xg215,_,_,_,A.sx,by omega,by omega,Z,ZD⟩ (by kernel_rfl)
         exact ga_nil
        have lX6:=X6.lt
        have lX8:=X8.lt
        have lX9:=X9.lt
        refine zaa 9 12 [.int .u64 0,.int .u64 0] 42 (pg) ?_ ?_
        ·intro v220 g221 Xg221 hg221 B
         have yZg221:=Nat.le_trans Z.ext.2 hg221
         have yZDg221:=Nat.le_trans ZD.ext.2 hg221
         have zg221:=Nat.le_trans A.size hg221
         have nXg221:=A.new hg221
         replace BB:=joinB BB B
         replace A:=A.keep B
         replace Z:=Z.keep B
         replace ZD:=ZD.keep B
         replace X6:=X6.keep B
         replace X8:=X8.keep B
         replace X9:=X9.keep B
         clear B
         refine ⟨X6,?_⟩
         refine gz_ready [7,8] ?_
         refine ga_call 7 (some 74) 14 #[pg g0,.int .u64 (sb i)] (get_any A.sx rb (by omega) (by omega)) ?_ ?_
         ·rintro _ v223 ⟨rfl,K222,S,hK,hC⟩
          replace BB:=belowO BB hC (fun b hb=>Nat.le_trans hwB (A.sx.kb b hb))
          replace Z:=Z.op hC hK
          replace ZD:=ZD.op hC hK
          have mX6:=not_op X6 nX6 hK
          replace X6:=X6.chg hC nX6
          replace nX6:=mX6
          clear mX6
          have mX8:=not_op X8 nX8 hK
          replace X8:=X8.chg hC nX8
          replace nX8:=mX8
          clear mX8
          have mX9:=not_op X9 nX9 hK
          replace X9:=X9.chg hC nX9
          replace nX9:=mX9
          clear mX9
          have mXg221:=not_op Xg221 nXg221 hK
          replace Xg221:=Xg221.chg hC nXg221
          replace nXg221:=mXg221
          clear mXg221
          replace A:=A.op S hK hC
          clear S hK hC
          refine ⟨_,rfl,X6,?_⟩
          have lX6:=X6.lt
          have lX8:=X8.lt
          have lX9:=X9.lt
          have lXg221:=Xg221.lt
          refine za 8 11 [.int .u64 0,.int .u64 0] 42 (pg) ?_
          intro v224 g225 Xg225 hg225 B
          have yZg225:=Nat.le_trans Z.ext.2 hg225
          have yZDg225:=Nat.le_trans ZD.ext.2 hg225
          have zg225:=Nat.le_trans A.size hg225
          have nXg225:=A.new hg225
          replace BB:=joinB BB B
          replace A:=A.keep B
          replace Z:=Z.keep B
          replace ZD:=ZD.keep B
          replace X6:=X6.keep B
          replace X8:=X8.keep B
          replace X9:=X9.keep B
          replace Xg221:=Xg221.keep B
          clear B
          refine ⟨X6,?_⟩
          refine zs 10 Xg225 0 (.agg #[.int .u64 (coin (moveE E (sa i) (sb i) (sn i)) (sa i)),.int .u64 (seqn (moveE E (sa i) (sb i) (sn i)) (sa i))]) [.int .u64 (coin (moveE E (sa i) (sb i) (sn i)) (sa i)),.int .u64 (seqn (moveE E (sa i) (sb i) (sn i)) (sa i))] [.int .u64 (coin (moveE E (sa i) (sb i) (sn i)) (sa i)),.int .u64 (seqn (moveE E (sa i) (sb i) (sn i)) (sa i))] ?_
          intro v226 Y C
          replace BB:=belowC BB C (by omega)
          replace A:=At.cell A Xg225 C zg225 nXg225 (by decide)
          replace Z:=Z.cell C (by omega)
          replace ZD:=ZD.cell C (by omega)
          replace X6:=X6.chg C (show g6≠g225 by omega)
          replace X8:=X8.chg C (show g8≠g225 by omega)
          replace X9:=X9.chg C (show g9≠g225 by omega)
          replace Xg221:=Xg221.chg C (show g221≠g225 by omega)
          clear C Xg225
          have Xg225:=Y
          clear Y
          refine ⟨X6,?_⟩
          refine zs 11 Xg221 0 (.agg #[.int .u64 (coin (moveE E (sa i) (sb i) (sn i)) (sb i)),.int .u64 (seqn (moveE E (sa i) (sb i) (sn i)) (sb i))]) [.int .u64 (coin (moveE E (sa i) (sb i) (sn i)) (sb i)),.int .u64 (seqn (moveE E (sa i) (sb i) (sn i)) (sb i))] [.int .u64 (coin (moveE E (sa i) (sb i) (sn i)) (sb i)),.int .u64 (seqn (moveE E (sa i) (sb i) (sn i)) (sb i))] ?_
          intro v227 Y C
          replace BB:=belowC BB C (by omega)
          replace A:=At.cell A Xg221 C zg221 nXg221 (by decide)
          replace Z:=Z.cell C (by omega)
          replace ZD:=ZD.cell C (by omega)
          replace X6:=X6.chg C (show g6≠g221 by omega)
          replace X8:=X8.chg C (show g8≠g221 by omega)
          replace X9:=X9.chg C (show g9≠g221 by omega)
          replace Xg225:=Xg225.chg C (show g225≠g221 by omega)
          clear C Xg221
          have Xg221:=Y
          clear Y
          refine ⟨X6,?_⟩
          refine gz_done ?_
          exact ge_join ((g225,g221):Nat × Nat) ⟨BB,X6,X8,X9,Xg225,Xg221,_,_,_,A.sx,by omega,by omega,Z,ZD⟩ (by kernel_rfl)
         have lX6:=X6.lt
         have lX8:=X8.lt
         have lX9:=X9.lt
         have lXg221:=Xg221.lt
         refine zaa 8 11 [.int .u64 0,.int .u64 0] 42 (pg) ?_ ?_
         ·intro v228 g229 Xg229 hg229 B
          have yZg229:=Nat.le_trans Z.ext.2 hg229
          have yZDg229:=Nat.le_trans ZD.ext.2 hg229
          have zg229:=Nat.le_trans A.size hg229
          have nXg229:=A.new hg229
          replace BB:=joinB BB B
          replace A:=A.keep B
          replace Z:=Z.keep B
          replace ZD:=ZD.keep B
          replace X6:=X6.keep B
          replace X8:=X8.keep B
          replace X9:=X9.keep B
          replace Xg221:=Xg221.keep B
          clear B
          refine ⟨X6,?_⟩
          refine zc 7 74 14 #[pg g0,.int .u64 (sb i)] (get_any A.sx rb (by omega) (by omega)) ?_
          rintro _ v231 ⟨rfl,K230,S,hK,hC⟩
          replace BB:=belowO BB hC (fun b hb=>Nat.le_trans hwB (A.sx.kb b hb))
          replace Z:=Z.op hC hK
          replace ZD:=ZD.op hC hK
          have mX6:=not_op X6 nX6 hK
          replace X6:=X6.chg hC nX6
          replace nX6:=mX6
          clear mX6
          have mX8:=not_op X8 nX8 hK
          replace X8:=X8.chg hC nX8
          replace nX8:=mX8
          clear mX8
          have mX9:=not_op X9 nX9 hK
          replace X9:=X9.chg hC nX9
          replace nX9:=mX9
          clear mX9
          have mXg221:=not_op Xg221 nXg221 hK
          replace Xg221:=Xg221.chg hC nXg221
          replace nXg221:=mXg221
          clear mXg221
          have mXg229:=not_op Xg229 nXg229 hK
          replace Xg229:=Xg229.chg hC nXg229
          replace nXg229:=mXg229
          clear mXg229
          replace A:=A.op S hK hC
          clear S hK hC
          refine ⟨_,rfl,X6,?_⟩
          refine zs 10 Xg229 0 (.agg #[.int .u64 (coin (moveE E (sa i) (sb i) (sn i)) (sa i)),.int .u64 (seqn (moveE E (sa i) (sb i) (sn i)) (sa i))]) [.int .u64 (coin (moveE E (sa i) (sb i) (sn i)) (sa i)),.int .u64 (seqn (moveE E (sa i) (sb i) (sn i)) (sa i))] [.int .u64 (coin (moveE E (sa i) (sb i) (sn i)) (sa i)),.int .u64 (seqn (moveE E (sa i) (sb i) (sn i)) (sa i))] ?_
          intro v232 Y C
          replace BB:=belowC BB C (by omega)
          replace A:=At.cell A Xg229 C zg229 nXg229 (by decide)
          replace Z:=Z.cell C (by omega)
          replace ZD:=ZD.cell C (by omega)
          replace X6:=X6.chg C (show g6≠g229 by omega)
          replace X8:=X8.chg C (show g8≠g229 by omega)
          replace X9:=X9.chg C (show g9≠g229 by omega)
          replace Xg221:=Xg221.chg C (show g221≠g229 by omega)
          clear C Xg229
          have Xg229:=Y
          clear Y
          refine ⟨X6,?_⟩
          refine zs 11 Xg221 0 (.agg #[.int .u64 (coin (moveE E (sa i) (sb i) (sn i)) (sb i)),.int .u64 (seqn (moveE E (sa i) (sb i) (sn i)) (sb i))]) [.int .u64 (coin (moveE E (sa i) (sb i) (sn i)) (sb i)),.int .u64 (seqn (moveE E (sa i) (sb i) (sn i)) (sb i))] [.int .u64 (coin (moveE E (sa i) (sb i) (sn i)) (sb i)),.int .u64 (seqn (moveE E (sa i) (sb i) (sn i)) (sb i))] ?_
          intro v233 Y C
          replace BB:=belowC BB C (by omega)
          replace A:=At.cell A Xg221 C zg221 nXg221 (by decide)
          replace Z:=Z.cell C (by omega)
          replace ZD:=ZD.cell C (by omega)
          replace X6:=X6.chg C (show g6≠g221 by omega)
          replace X8:=X8.chg C (show g8≠g221 by omega)
          replace X9:=X9.chg C (show g9≠g221 by omega)
          replace Xg229:=Xg229.chg C (show g229≠g221 by omega)
          clear C Xg221
          have Xg221:=Y
          clear Y
          refine ⟨X6,?_⟩
          refine gz_done ?_
          exact ge_join ((g229,g221):Nat × Nat) ⟨BB,X6,X8,X9,Xg229,Xg221,_,_,_,A.sx,by omega,by omega,Z,ZD⟩ (by kernel_rfl)
         exact ga_nil
        exact ga_nil
       have lX6:=X6.lt
       have lX8:=X8.lt
       have lX9:=X9.lt
       refine zaa 8 11 [.int .u64 0,.int .u64 0] 42 (pg) ?_ ?_
       ·intro v234 g235 Xg235 hg235 B
        have yZg235:=Nat.le_trans Z.ext.2 hg235
        have yZDg235:=Nat.le_trans ZD.ext.2 hg235
        have zg235:=Nat.le_trans A.size hg235
        have nXg235:=A.new hg235
        replace BB:=joinB BB B
        replace A:=A.keep B
        replace Z:=Z.keep B
        replace ZD:=ZD.keep B
        replace X6:=X6.keep B
        replace X8:=X8.keep B
        replace X9:=X9.keep B
        clear B
        refine ⟨X6,?_⟩
        refine gz_ready [3,9] ?_
        refine ga_call 3 (some 70) 14 #[pg g0,.int .u64 (sa i)] (get_any A.sx ra (by omega) (by omega)) ?_ ?_
        ·rintro _ v237 ⟨rfl,K236,S,hK,hC⟩
         replace BB:=belowO BB hC (fun b hb=>Nat.le_trans hwB (A.sx.kb b hb))
         replace Z:=Z.op hC hK
         replace ZD:=ZD.op hC hK
         have mX6:=not_op X6 nX6 hK
         replace X6:=X6.chg hC nX6
         replace nX6:=mX6
         clear mX6
         have mX8:=not_op X8 nX8 hK
         replace X8:=X8.chg hC nX8
         replace nX8:=mX8
         clear mX8
         have mX9:=not_op X9 nX9 hK
         replace X9:=X9.chg hC nX9
         replace nX9:=mX9
         clear mX9
         have mXg235:=not_op Xg235 nXg235 hK
         replace Xg235:=Xg235.chg hC nXg235
         replace nXg235:=mXg235
         clear mXg235
         replace A:=A.op S hK hC
         clear S hK hC
         refine ⟨_,rfl,X6,?_⟩
         refine gz_ready [7,9] ?_
         refine ga_call 7 (some 74) 14 #[pg g0,.int .u64 (sb i)] (get_any A.sx rb (by omega) (by omega)) ?_ ?_
         ·rintro _ v239 ⟨rfl,K238,S,hK,hC⟩
          replace BB:=belowO BB hC (fun b hb=>Nat.le_trans hwB (A.sx.kb b hb))
          replace Z:=Z.op hC hK
          replace ZD:=ZD.op hC hK
          have mX6:=not_op X6 nX6 hK
          replace X6:=X6.chg hC nX6
          replace nX6:=mX6
          clear mX6
          have mX8:=not_op X8 nX8 hK
          replace X8:=X8.chg hC nX8
          replace nX8:=mX8
          clear mX8
          have mX9:=not_op X9 nX9 hK
          replace X9:=X9.chg hC nX9
          replace nX9:=mX9
          clear mX9
          have mXg235:=not_op Xg235 nXg235 hK
          replace Xg235:=Xg235.chg hC nXg235
          replace nXg235:=mXg235
          clear mXg235
          replace A:=A.op S hK hC
          clear S hK hC
          refine ⟨_,rfl,X6,?_⟩
          have lX6:=X6.lt
          have lX8:=X8.lt
          have lX9:=X9.lt
          have lXg235:=Xg235.lt
          refine za 9 12 [.int .u64 0,.int .u64 0] 42 (pg) ?_
          intro v240 g241 Xg241 hg241 B
          have yZg241:=Nat.le_trans Z.ext.2 hg241
          have yZDg241:=Nat.le_trans ZD.ext.2 hg241
          have zg241:=Nat.le_trans A.size hg241
          have nXg241:=A.new hg241
          replace BB:=joinB BB B
          replace A:=A.keep B
          replace Z:=Z.keep B
          replace ZD:=ZD.keep B
          replace X6:=X6.keep B
          replace X8:=X8.keep B
          replace X9:=X9.keep B
          replace Xg235:=Xg235.keep B
          clear B
          refine ⟨X6,?_⟩
          refine zs 10 Xg235 0 (.agg #[.int .u64 (coin (moveE E (sa i) (sb i) (sn i)) (sa i)),.int .u64 (seqn (moveE E (sa i) (sb i) (sn i)) (sa i))]) [.int .u64 (coin (moveE E (sa i) (sb i) (sn i)) (sa i)),.int .u64 (seqn (moveE E (sa i) (sb i) (sn i)) (sa i))] [.int .u64 (coin (moveE E (sa i) (sb i) (sn i)) (sa i)),.int .u64 (seqn (moveE E (sa i) (sb i) (sn i)) (sa i))] ?_
          intro v242 Y C
          replace BB:=belowC BB C (by omega)
          replace A:=At.cell A Xg235 C zg235 nXg235 (by decide)
          replace Z:=Z.cell C (by omega)
          replace ZD:=ZD.cell C (by omega)
          replace X6:=X6.chg C (show g6≠g235 by omega)
          replace X8:=X8.chg C (show g8≠g235 by omega)
          replace X9:=X9.chg C (show g9≠g235 by omega)
          replace Xg241:=Xg241.chg C (show g241≠g235 by omega)
          clear C Xg235
          have Xg235:=Y
          clear Y
          refine ⟨X6,?_⟩
          refine zs 11 Xg241 0 (.agg #[.int .u64 (coin (moveE E (sa i) (sb i) (sn i)) (sb i)),.int .u64 (seqn (moveE E (sa i) (sb i) (sn i)) (sb i))]) [.int .u64 (coin (moveE E (sa i) (sb i) (sn i)) (sb i)),.int .u64 (seqn (moveE E (sa i) (sb i) (sn i)) (sb i))] [.int .u64 (coin (moveE E (sa i) (sb i) (sn i)) (sb i)),.int .u64 (seqn (moveE E (sa i) (sb i) (sn i)) (sb i))] ?_
          intro v243 Y C
          replace BB:=belowC BB C (by omega)
          replace A:=At.cell A Xg241 C zg241 nXg241 (by decide)
          replace Z:=Z.cell C (by omega)
          replace ZD:=ZD.cell C (by omega)
          replace X6:=X6.chg C (show g6≠g241 by omega)
          replace X8:=X8.chg C (show g8≠g241 by omega)
          replace X9:=X9.chg C (show g9≠g241 by omega)
          replace Xg235:=Xg235.chg C (show g235≠g241 by omega)
          clear C Xg241
          have Xg241:=Y
          clear Y
          refine ⟨X6,?_⟩
          refine gz_done ?_
          exact ge_join ((g235,g241):Nat × Nat) ⟨BB,X6,X8,X9,Xg235,Xg241,_,_,_,A.sx,by omega,by omega,Z,ZD⟩ (by kernel_rfl)
         have lX6:=X6.lt
         have lX8:=X8.lt
         have lX9:=X9.lt
         have lXg235:=Xg235.lt
         refine zaa 9 12 [.int .u64 0,.int .u64 0] 42 (pg) ?_ ?_
         ·intro v244 g245 Xg245 hg245 B
          have yZg245:=Nat.le_trans Z.ext.2 hg245
          have yZDg245:=Nat.le_trans ZD.ext.2 hg245
          have zg245:=Nat.le_trans A.size hg245
          have nXg245:=A.new hg245
          replace BB:=joinB BB B
          replace A:=A.keep B
          replace Z:=Z.keep B
          replace ZD:=ZD.keep B
          replace X6:=X6.keep B
          replace X8:=X8.keep B
          replace X9:=X9.keep B
          replace Xg235:=Xg235.keep B
          clear B
          refine ⟨X6,?_⟩
          refine zc 7 74 14 #[pg g0,.int .u64 (sb i)] (get_any A.sx rb (by omega) (by omega)) ?_
          rintro _ v247 ⟨rfl,K246,S,hK,hC⟩
          replace BB:=belowO BB hC (fun b hb=>Nat.le_trans hwB (A.sx.kb b hb))
          replace Z:=Z.op hC hK
          replace ZD:=ZD.op hC hK
          have mX6:=not_op X6 nX6 hK
          replace X6:=X6.chg hC nX6
          replace nX6:=mX6
          clear mX6
          have mX8:=not_op X8 nX8 hK
          replace X8:=X8.chg hC nX8
          replace nX8:=mX8
          clear mX8
          have mX9:=not_op X9 nX9 hK
          replace X9:=X9.chg hC nX9
          replace nX9:=mX9
          clear mX9
          have mXg235:=not_op Xg235 nXg235 hK
          replace Xg235:=Xg235.chg hC nXg235
          replace nXg235:=mXg235
          clear mXg235
          have mXg245:=not_op Xg245 nXg245 hK
          replace Xg245:=Xg245.chg hC nXg245
          replace nXg245:=mXg245
          clear mXg245
          replace A:=A.op S hK hC
          clear S hK hC
          refine ⟨_,rfl,X6,?_⟩
          refine zs 10 Xg235 0 (.agg #[.int .u64 (coin (moveE E (sa i) (sb i) (sn i)) (sa i)),.int .u64 (seqn (moveE E (sa i) (sb i) (sn i)) (sa i))]) [.int .u64 (coin (moveE E (sa i) (sb i) (sn i)) (sa i)),.int .u64 (seqn (moveE E (sa i) (sb i) (sn i)) (sa i))] [.int .u64 (coin (moveE E (sa i) (sb i) (sn i)) (sa i)),.int .u64 (seqn (moveE E (sa i) (sb i) (sn i)) (sa i))] ?_
          intro v248 Y C
          replace BB:=belowC BB C (by omega)
          replace A:=At.cell A Xg235 C zg235 nXg235 (by decide)
          replace Z:=Z.cell C (by omega)
          replace ZD:=ZD.cell C (by omega)
          replace X6:=X6.chg C (show g6≠g235 by omega)
          replace X8:=X8.chg C (show g8≠g235 by omega)
          replace X9:=X9.chg C (show g9≠g235 by omega)
          replace Xg245:=Xg245.chg C (show g245≠g235 by omega)
          clear C Xg235
          have Xg235:=Y
          clear Y
          refine ⟨X6,?_⟩
          refine zs 11 Xg245 0 (.agg #[.int .u64 (coin (moveE E (sa i) (sb i) (sn i)) (sb i)),.int .u64 (seqn (moveE E (sa i) (sb i) (sn i)) (sb i))]) [.int .u64 (coin (moveE E (sa i) (sb i) (sn i)) (sb i)),.int .u64 (seqn (moveE E (sa i) (sb i) (sn i)) (sb i))] [.int .u64 (coin (moveE E (sa i) (sb i) (sn i)) (sb i)),.int .u64 (seqn (moveE E (sa i) (sb i) (sn i)) (sb i))] ?_
          intro v249 Y C
          replace BB:=belowC BB C (by omega)
          replace A:=At.cell A Xg245 C zg245 nXg245 (by decide)
          replace Z:=Z.cell C (by omega)
          replace ZD:=ZD.cell C (by omega)
          replace X6:=X6.chg C (show g6≠g245 by omega)
          replace X8:=X8.chg C (show g8≠g245 by omega)
          replace X9:=X9.chg C (show g9≠g245 by omega)
          replace Xg235:=Xg235.chg C (show g235≠g245 by omega)
          clear C Xg245
          have Xg245:=Y
          clear Y
          refine ⟨X6,?_⟩
          refine gz_done ?_
          exact ge_join ((g235,g245):Nat × Nat) ⟨BB,X6,X8,X9,Xg235,Xg245,_,_,_,A.sx,by omega,by omega,Z,ZD⟩ (by kernel_rfl)
         exact ga_nil
        have lX6:=X6.lt
        have lX8:=X8.lt
        have lX9:=X9.lt
        have lXg235:=Xg235.lt
        refine zaa 9 12 [.int .u64 0,.int .u64 0] 42 (pg) ?_ ?_
        ·intro v250 g251 Xg251 hg251 B
         have yZg251:=Nat.le_trans Z.ext.2 hg251
         have yZDg251:=Nat.le_trans ZD.ext.2 hg251
         have zg251:=Nat.le_trans A.size hg251
         have nXg251:=A.new hg251
         replace BB:=joinB BB B
         replace A:=A.keep B
         replace Z:=Z.keep B
         replace ZD:=ZD.keep B
         replace X6:=X6.keep B
         replace X8:=X8.keep B
         replace X9:=X9.keep B
         replace Xg235:=Xg235.keep B
         clear B
         refine ⟨X6,?_⟩
         refine zc 3 70 14 #[pg g0,.int .u64 (sa i)] (get_any A.sx ra (by omega) (by omega)) ?_
         rintro _ v253 ⟨rfl,K252,S,hK,hC⟩
         replace BB:=belowO BB hC (fun b hb=>Nat.le_trans hwB (A.sx.kb b hb))
         replace Z:=Z.op hC hK
         replace ZD:=ZD.op hC hK
         have mX6:=not_op X6 nX6 hK
         replace X6:=X6.chg hC nX6
         replace nX6:=mX6
         clear mX6
         have mX8:=not_op X8 nX8 hK
         replace X8:=X8.chg hC nX8
         replace nX8:=mX8
         clear mX8
         have mX9:=not_op X9 nX9 hK
         replace X9:=X9.chg hC nX9
         replace nX9:=mX9
         clear mX9
         have mXg235:=not_op Xg235 nXg235 hK
         replace Xg235:=Xg235.chg hC nXg235
         replace nXg235:=mXg235
         clear mXg235
         have mXg251:=not_op Xg251 nXg251 hK
         replace Xg251:=Xg251.chg hC nXg251
         replace nXg251:=mXg251
         clear mXg251
         replace A:=A.op S hK hC
         clear S hK hC
         refine ⟨_,rfl,X6,?_⟩
         refine zc 7 74 14 #[pg g0,.int .u64 (sb i)] (get_any A.sx rb (by omega) (by omega)) ?_
         rintro _ v255 ⟨rfl,K254,S,hK,hC⟩
         replace BB:=belowO BB hC (fun b hb=>Nat.le_trans hwB (A.sx.kb b hb))
         replace Z:=Z.op hC hK
         replace ZD:=ZD.op hC hK
         have mX6:=not_op X6 nX6 hK
         replace X6:=X6.chg hC nX6
         replace nX6:=mX6
         clear mX6
         have mX8:=not_op X8 nX8 hK
         replace X8:=X8.chg hC nX8
         replace nX8:=mX8
         clear mX8
         have mX9:=not_op X9 nX9 hK
         replace X9:=X9.chg hC nX9
         replace nX9:=mX9
         clear mX9
         have mXg235:=not_op Xg235 nXg235 hK
         replace Xg235:=Xg235.chg hC nXg235
         replace nXg235:=mXg235
         clear mXg235
         have mXg251:=not_op Xg251 nXg251 hK
         replace Xg251:=Xg251.chg hC nXg251
         replace nXg251:=mXg251
         clear mXg251
         replace A:=A.op S hK hC
         clear S hK hC
         refine ⟨_,rfl,X6,?_⟩
         refine zs 10 Xg235 0 (.agg #[.int .u64 (coin (moveE E (sa i) (sb i) (sn i)) (sa i)),.int .u64 (seqn (moveE E (sa i) (sb i) (sn i)) (sa i))]) [.int .u64 (coin (moveE E (sa i) (sb i) (sn i)) (sa i)),.int .u64 (seqn (moveE E (sa i) (sb i) (sn i)) (sa i))] [.int .u64 (coin (moveE E (sa i) (sb i) (sn i)) (sa i)),.int .u64 (seqn (moveE E (sa i) (sb i) (sn i)) (sa i))] ?_
         intro v256 Y C
         replace BB:=belowC BB C (by omega)
         replace A:=At.cell A Xg235 C zg235 nXg235 (by decide)
         replace Z:=Z.cell C (by omega)
         replace ZD:=ZD.cell C (by omega)
         replace X6:=X6.chg C (show g6≠g235 by omega)
         replace X8:=X8.chg C (show g8≠g235 by omega)
         replace X9:=X9.chg C (show g9≠g235 by omega)
         replace Xg251:=Xg251.chg C (show g251≠g235 by omega)
         clear C Xg235
         have Xg235:=Y
         clear Y
         refine ⟨X6,?_⟩
         refine zs 11 Xg251 0 (.agg #[.int .u64 (coin (moveE E (sa i) (sb i) (sn i)) (sb i)),.int .u64 (seqn (moveE E (sa i) (sb i) (sn i)) (sb i))]) [.int .u64 (coin (moveE E (sa i) (sb i) (sn i)) (sb i)),.int .u64 (seqn (moveE E (sa i) (sb i) (sn i)) (sb i))] [.int .u64 (coin (moveE E (sa i) (sb i) (sn i)) (sb i)),.int .u64 (seqn (moveE E (sa i) (sb i) (sn i)) (sb i))] ?_
         intro v257 Y C
         replace BB:=belowC BB C (by omega)
         replace A:=At.cell A Xg251 C zg251 nXg251 (by decide)
         replace Z:=Z.cell C (by omega)
         replace ZD:=ZD.cell C (by omega)
         replace X6:=X6.chg C (show g6≠g251 by omega)
         replace X8:=X8.chg C (show g8≠g251 by omega)
         replace X9:=X9.chg C (show g9≠g251 by omega)
         replace Xg235:=Xg235.chg C (show g235≠g251 by omega)
         clear C Xg251
         have Xg251:=Y
         clear Y
         refine ⟨X6,?_⟩
         refine gz_done ?_
         exact ge_join ((g235,g251):Nat × Nat) ⟨BB,X6,X8,X9,Xg235,Xg251,_,_,_,A.sx,by omega,by omega,Z,ZD⟩ (by kernel_rfl)
        exact ga_nil
       have lX6:=X6.lt
       have lX8:=X8.lt
       have lX9:=X9.lt
       refine zaa 9 12 [.int .u64 0,.int .u64 0] 42 (pg) ?_ ?_
       ·intro v258 g259 Xg259 hg259 B
        have yZg259:=Nat.le_trans Z.ext.2 hg259
        have yZDg259:=Nat.le_trans ZD.ext.2 hg259
        have zg259:=Nat.le_trans A.size hg259
        have nXg259:=A.new hg259
        replace BB:=joinB BB B
        replace A:=A.keep B
        replace Z:=Z.keep B
        replace ZD:=ZD.keep B
        replace X6:=X6.keep B
        replace X8:=X8.keep B
        replace X9:=X9.keep B
        clear B
        refine ⟨X6,?_⟩
        refine gz_ready [3,8] ?_
        refine ga_call 3 (some 70) 14 #[pg g0,.int .u64 (sa i)] (get_any A.sx ra (by omega) (by omega)) ?_ ?_
        ·rintro _ v261 ⟨rfl,K260,S,hK,hC⟩
         replace BB:=belowO BB hC (fun b hb=>Nat.le_trans hwB (A.sx.kb b hb))
         replace Z:=Z.op hC hK
         replace ZD:=ZD.op hC hK
         have mX6:=not_op X6 nX6 hK
         replace X6:=X6.chg hC nX6
         replace nX6:=mX6
         clear mX6
         have mX8:=not_op X8 nX8 hK
         replace X8:=X8.chg hC nX8
         replace nX8:=mX8
         clear mX8
         have mX9:=not_op X9 nX9 hK
         replace X9:=X9.chg hC nX9
         replace nX9:=mX9
         clear mX9
         have mXg259:=not_op Xg259 nXg259 hK
         replace Xg259:=Xg259.chg hC nXg259
         replace nXg259:=mXg259
         clear mXg259
         replace A:=A.op S hK hC
         clear S hK hC
         refine ⟨_,rfl,X6,?_⟩
         refine gz_ready [7,8] ?_
         refine ga_call 7 (some 74) 14 #[pg g0,.int .u64 (sb i)] (get_any A.sx rb (by omega) (by omega)) ?_ ?_
         ·rintro _ v263 ⟨rfl,K262,S,hK,hC⟩
          replace BB:=belowO BB hC (fun b hb=>Nat.le_trans hwB (A.sx.kb b hb))
          replace Z:=Z.op hC hK
          replace ZD:=ZD.op hC hK
          have mX6:=not_op X6 nX6 hK
          replace X6:=X6.chg hC nX6
          replace nX6:=mX6
          clear mX6
          have mX8:=not_op X8 nX8 hK
          replace X8:=X8.chg hC nX8
          replace nX8:=mX8
          clear mX8
          have mX9:=not_op X9 nX9 hK
          replace X9:=X9.chg hC nX9
          replace nX9:=mX9
          clear mX9
          have mXg259:=not_op Xg259 nXg259 hK
          replace Xg259:=Xg259.chg hC nXg259
          replace nXg259:=mXg259
          clear mXg259
          replace A:=A.op S hK hC
          clear S hK hC
          refine ⟨_,rfl,X6,?_⟩
          have lX6:=X6.lt
          have lX8:=X8.lt
          have lX9:=X9.lt
          have lXg259:=Xg259.lt
          refine za 8 11 [.int .u64 0,.int .u64 0] 42 (pg) ?_
          intro v264 g265 Xg265 hg265 B
          have yZg265:=Nat.le_trans Z.ext.2 hg265
          have yZDg265:=Nat.le_trans ZD.ext.2 hg265
          have zg265:=Nat.le_trans A.size hg265
          have nXg265:=A.new hg265
          replace BB:=joinB BB B
          replace A:=A.keep B
          replace Z:=Z.keep B
          replace ZD:=ZD.keep B
          replace X6:=X6.keep B
          replace X8:=X8.keep B
          replace X9:=X9.keep B
          replace Xg259:=Xg259.keep B
          clear B
          refine ⟨X6,?_⟩
          refine zs 10 Xg265 0 (.agg #[.int .u64 (coin (moveE E (sa i) (sb i) (sn i)) (sa i)),.int .u64 (seqn (moveE E (sa i) (sb i) (sn i)) (sa i))]) [.int .u64 (coin (moveE E (sa i) (sb i) (sn i)) (sa i)),.int .u64 (seqn (moveE E (sa i) (sb i) (sn i)) (sa i))] [.int .u64 (coin (moveE E (sa i) (sb i) (sn i)) (sa i)),.int .u64 (seqn (moveE E (sa i) (sb i) (sn i)) (sa i))] ?_
          intro v266 Y C
          replace BB:=belowC BB C (by omega)
          replace A:=At.cell A Xg265 C zg265 nXg265 (by decide)
          replace Z:=Z.cell C (by omega)
          replace ZD:=ZD.cell C (by omega)
          replace X6:=X6.chg C (show g6≠g265 by omega)
          replace X8:=X8.chg C (show g8≠g265 by omega)
          replace X9:=X9.chg C (show g9≠g265 by omega)
          replace Xg259:=Xg259.chg C (show g259≠g265 by omega)
          clear C Xg265
          have Xg265:=Y
          clear Y
          refine ⟨X6,?_⟩
          refine zs 11 Xg259 0 (.agg #[.int .u64 (coin (moveE E (sa i) (sb i) (sn i)) (sb i)),.int .u64 (seqn (moveE E (sa i) (sb i) (sn i)) (sb i))]) [.int .u64 (coin (moveE E (sa i) (sb i) (sn i)) (sb i)),.int .u64 (seqn (moveE E (sa i) (sb i) (sn i)) (sb i))] [.int .u64 (coin (moveE E (sa i) (sb i) (sn i)) (sb i)),.int .u64 (seqn (moveE E (sa i) (sb i) (sn i)) (sb i))] ?_
          intro v267 Y C
          replace BB:=belowC BB C (by omega)
          replace A:=At.cell A Xg259 C zg259 nXg259 (by decide)
          replace Z:=Z.cell C (by omega)
          replace ZD:=ZD.cell C (by omega)
          replace X6:=X6.chg C (show g6≠g259 by omega)
          replace X8:=X8.chg C (show g8≠g259 by omega)
          replace X9:=X9.chg C (show g9≠g259 by omega)
          replace Xg265:=Xg265.chg C (show g265≠g259 by omega)
          clear C Xg259
          have Xg259:=Y
          clear Y
          refine ⟨X6,?_⟩
          refine gz_done ?_
          exact ge_join ((g265,g259):Nat × Nat) ⟨BB,X6,X8,X9,Xg265,Xg259,_,_,_,A.sx,by omega,by omega,Z,ZD⟩ (by kernel_rfl)
         have lX6:=X6.lt
         have lX8:=X8.lt
         have lX9:=X9.lt
         have lXg259:=Xg259.lt
         refine zaa 8 11 [.int .u64 0,.int .u64 0] 42 (pg) ?_ ?_
         ·intro v268 g269 Xg269 hg269 B
          have yZg269:=Nat.le_trans Z.ext.2 hg269
          have yZDg269:=Nat.le_trans ZD.ext.2 hg269
          have zg269:=Nat.le_trans A.size hg269
          have nXg269:=A.new hg269
          replace BB:=joinB BB B
          replace A:=A.keep B
          replace Z:=Z.keep B
          replace ZD:=ZD.keep B
          replace X6:=X6.keep B
          replace X8:=X8.keep B
          replace X9:=X9.keep B
          replace Xg259:=Xg259.keep B
          clear B
          refine ⟨X6,?_⟩
          refine zc 7 74 14 #[pg g0,.int .u64 (sb i)] (get_any A.sx rb (by omega) (by omega)) ?_
          rintro _ v271 ⟨rfl,K270,S,hK,hC⟩
          replace BB:=belowO BB hC (fun b hb=>Nat.le_trans hwB (A.sx.kb b hb))
          replace Z:=Z.op hC hK
          replace ZD:=ZD.op hC hK
          have mX6:=not_op X6 nX6 hK
          replace X6:=X6.chg hC nX6
          replace nX6:=mX6
          clear mX6
          have mX8:=not_op X8 nX8 hK
          replace X8:=X8.chg hC nX8
          replace nX8:=mX8
          clear mX8
          have mX9:=not_op X9 nX9 hK
          replace X9:=X9.chg hC nX9
          replace nX9:=mX9
          clear mX9
          have mXg259:=not_op Xg259 nXg259 hK
          replace Xg259:=Xg259.chg hC nXg259
          replace nXg259:=mXg259
          clear mXg259
          have mXg269:=not_op Xg269 nXg269 hK
          replace Xg269:=Xg269.chg hC nXg269
          replace nXg269:=mXg269
          clear mXg269
          replace A:=A.op S hK hC
          clear S hK hC
          refine ⟨_,rfl,X6,?_⟩
          refine zs 10 Xg269 0 (.agg #[.int .u64 (coin (moveE E (sa i) (sb i) (sn i)) (sa i)),.int .u64 (seqn (moveE E (sa i) (sb i) (sn i)) (sa i))]) [.int .u64 (coin (moveE E (sa i) (sb i) (sn i)) (sa i)),.int .u64 (seqn (moveE E (sa i) (sb i) (sn i)) (sa i))] [.int .u64 (coin (moveE E (sa i) (sb i) (sn i)) (sa i)),.int .u64 (seqn (moveE E (sa i) (sb i) (sn i)) (sa i))] ?_
          intro v272 Y C
          replace BB:=belowC BB C (by omega)
          replace A:=At.cell A Xg269 C zg269 nXg269 (by decide)
          replace Z:=Z.cell C (by omega)
          replace ZD:=ZD.cell C (by omega)
          replace X6:=X6.chg C (show g6≠g269 by omega)
          replace X8:=X8.chg C (show g8≠g269 by omega)
          replace X9:=X9.chg C (show g9≠g269 by omega)
          replace Xg259:=Xg259.chg C (show g259≠g269 by omega)
          clear C Xg269
          have Xg269:=Y
          clear Y
          refine ⟨X6,?_⟩
          refine zs 11 Xg259 0 (.agg #[.int .u64 (coin (moveE E (sa i) (sb i) (sn i)) (sb i)),.int .u64 (seqn (moveE E (sa i) (sb i) (sn i)) (sb i))]) [.int .u64 (coin (moveE E (sa i) (sb i) (sn i)) (sb i)),.int .u64 (seqn (moveE E (sa i) (sb i) (sn i)) (sb i))] [.int .u64 (coin (moveE E (sa i) (sb i) (sn i)) (sb i)),.int .u64 (seqn (moveE E (sa i) (sb i) (sn i)) (sb i))] ?_
          intro v273 Y C
          replace BB:=belowC BB C (by omega)
          replace A:=At.cell A Xg259 C zg259 nXg259 (by decide)
          replace Z:=Z.cell C (by omega)
          replace ZD:=ZD.cell C (by omega)
          replace X6:=X6.chg C (show g6≠g259 by omega)
          replace X8:=X8.chg C (show g8≠g259 by omega)
          replace X9:=X9.chg C (show g9≠g259 by omega)
          replace Xg269:=Xg269.chg C (show g269≠g259 by omega)
          clear C Xg259
          have Xg259:=Y
          clear Y
          refine ⟨X6,?_⟩
          refine gz_done ?_
          exact ge_join ((g269,g259):Nat × Nat) ⟨BB,X6,X8,X9,Xg269,Xg259,_,_,_,A.sx,by omega,by omega,Z,ZD⟩ (by kernel_rfl)
         exact ga_nil
        have lX6:=X6.lt
        have lX8:=X8.lt
        have lX9:=X9.lt
        have lXg259:=Xg259.lt
        refine zaa 8 11 [.int .u64 0,.int .u64 0] 42 (pg) ?_ ?_
        ·intro v274 g275 Xg275 hg275 B
         have yZg275:=Nat.le_trans Z.ext.2 hg275
         have yZDg275:=Nat.le_trans ZD.ext.2 hg275
         have zg275:=Nat.le_trans A.size hg275
         have nXg275:=A.new hg275
         replace BB:=joinB BB B
         replace A:=A.keep B
         replace Z:=Z.keep B
         replace ZD:=ZD.keep B
         replace X6:=X6.keep B
         replace X8:=X8.keep B
         replace X9:=X9.keep B
         replace Xg259:=Xg259.keep B
         clear B
         refine ⟨X6,?_⟩
         refine zc 3 70 14 #[pg g0,.int .u64 (sa i)] (get_any A.sx ra (by omega) (by omega)) ?_
         rintro _ v277 ⟨rfl,K276,S,hK,hC⟩
         replace BB:=belowO BB hC (fun b hb=>Nat.le_trans hwB (A.sx.kb b hb))
         replace Z:=Z.op hC hK
         replace ZD:=ZD.op hC hK
         have mX6:=not_op X6 nX6 hK
         replace X6:=X6.chg hC nX6
         replace nX6:=mX6
         clear mX6
         have mX8:=not_op X8 nX8 hK
         replace X8:=X8.chg hC nX8
         replace nX8:=mX8
         clear mX8
         have mX9:=not_op X9 nX9 hK
         replace X9:=X9.chg hC nX9
         replace nX9:=mX9
         clear mX9
         have mXg259:=not_op Xg259 nXg259 hK
         replace Xg259:=Xg259.chg hC nXg259
         replace nXg259:=mXg259
         clear mXg259
         have mXg275:=not_op Xg275 nXg275 hK
         replace Xg275:=Xg275.chg hC nXg275
         replace nXg275:=mXg275
         clear mXg275
         replace A:=A.op S hK hC
         clear S hK hC
         refine ⟨_,rfl,X6,?_⟩
         refine zc 7 74 14 #[pg g0,.int .u64 (sb i)] (get_any A.sx rb (by omega) (by omega)) ?_
         rintro _ v279 ⟨rfl,K278,S,hK,hC⟩
         replace BB:=belowO BB hC (fun b hb=>Nat.le_trans hwB (A.sx.kb b hb))
         replace Z:=Z.op hC hK
         replace ZD:=ZD.op hC hK
         have mX6:=not_op X6 nX6 hK
         replace X6:=X6.chg hC nX6
         replace nX6:=mX6
         clear mX6
         have mX8:=not_op X8 nX8 hK
         replace X8:=X8.chg hC nX8
         replace nX8:=mX8
         clear mX8
         have mX9:=not_op X9 nX9 hK
         replace X9:=X9.chg hC nX9
         replace nX9:=mX9
         clear mX9
         have mXg259:=not_op Xg259 nXg259 hK
         replace Xg259:=Xg259.chg hC nXg259
         replace nXg259:=mXg259
         clear mXg259
         have mXg275:=not_op Xg275 nXg275 hK
         replace Xg275:=Xg275.chg hC nXg275
         replace nXg275:=mXg275
         clear mXg275
         replace A:=A.op S hK hC
         clear S hK hC
         refine ⟨_,rfl,X6,?_⟩
         refine zs 10 Xg275 0 (.agg #[.int .u64 (coin (moveE E (sa i) (sb i) (sn i)) (sa i)),.int .u64 (seqn (moveE E (sa i) (sb i) (sn i)) (sa i))]) [.int .u64 (coin (moveE E (sa i) (sb i) (sn i)) (sa i)),.int .u64 (seqn (moveE E (sa i) (sb i) (sn i)) (sa i))] [.int .u64 (coin (moveE E (sa i) (sb i) (sn i)) (sa i)),.int .u64 (seqn (moveE E (sa i) (sb i) (sn i)) (sa i))] ?_
         intro v280 Y C
         replace BB:=belowC BB C (by omega)
         replace A:=At.cell A Xg275 C zg275 nXg275 (by decide)
         replace Z:=Z.cell C (by omega)
         replace ZD:=ZD.cell C (by omega)
         replace X6:=X6.chg C (show g6≠g275 by omega)
         replace X8:=X8.chg C (show g8≠g275 by omega)
         replace X9:=X9.chg C (show g9≠g275 by omega)
         replace Xg259:=Xg259.chg C (show g259≠g275 by omega)
         clear C Xg275
         have Xg275:=Y
         clear Y
         refine ⟨X6,?_⟩
         refine zs 11 Xg259 0 (.agg #[.int .u64 (coin (moveE E (sa i) (sb i) (sn i)) (sb i)),.int .u64 (seqn (moveE E (sa i) (sb i) (sn i)) (sb i))]) [.int .u64 (coin (moveE E (sa i) (sb i) (sn i)) (sb i)),.int .u64 (seqn (moveE E (sa i) (sb i) (sn i)) (sb i))] [.int .u64 (coin (moveE E (sa i) (sb i) (sn i)) (sb i)),.int .u64 (seqn (moveE E (sa i) (sb i) (sn i)) (sb i))] ?_
         intro v281 Y C
         replace BB:=belowC BB C (by omega)
         replace A:=At.cell A Xg259 C zg259 nXg259 (by decide)
         replace Z:=Z.cell C (by omega)
         replace ZD:=ZD.cell C (by omega)
         replace X6:=X6.chg C (show g6≠g259 by omega)
         replace X8:=X8.chg C (show g8≠g259 by omega)
         replace X9:=X9.chg C (show g9≠g259 by omega)
         replace Xg275:=Xg275.chg C (show g275≠g259 by omega)
         clear C Xg259
         have Xg259:=Y
         clear Y
         refine ⟨X6,?_⟩
         refine gz_done ?_
         exact ge_join ((g275,g259):Nat × Nat) ⟨BB,X6,X8,X9,Xg275,Xg259,_,_,_,A.sx,by omega,by omega,Z,ZD⟩ (by kernel_rfl)
        exact ga_nil
       exact ga_nil
      clear BB
      clear A
      clear Z
      clear ZD
      clear X6
      clear X8
      clear X9
      rintro ⟨g11,g12⟩ v282 ⟨BB,X6,X8,X9,X11,X12,K2,n2,N2,S,q3,q4,Z,ZD⟩
      dsimp only at X11 X12
      have A:=S.at
      clear S
      refine gc_seq ?_
      refine gc_seq ?_
      refine gc_reg ?_
      refine t 75 (.int .i64 (moveR E (sa i) (sb i) (sn i))) ?_
      by_cases c283:(moveR E (sa i) (sb i) (sn i):Int)=0
      ·refine tq 76 (.bool ((moveR E (sa i) (sb i) (sn i):Int) == 0)) (.bool true) (congrArg Value.bool (beq_iff_eq.2 c283)) ?_
       refine t 77 (.bool true) ?_
       refine t 78 (pq g6 1) ?_
       refine tl 79 (.int .u64 (sa i)) X6 1 ?_
       refine t 80 (pq g6 2) ?_
       refine tl 81 (.int .u64 (sb i)) X6 2 ?_
       by_cases c284:(sa i:Int)=sb i
       ·refine tq 82 (.bool ((sa i:Int) != sb i)) (.bool false) (congrArg Value.bool (bne_eq_false_iff_eq.2 c284)) ?_
        refine t 83 (.bool false) ?_
        refine t 84 (.bool false) ?_
        refine tn 85 ?_
        refine tn 86 ?_
        refine tn 87 ?_
        refine tn 88 ?_
        refine tn 89 ?_
        refine tn 90 ?_
        refine tn 91 ?_
        refine tn 92 ?_
        refine tn 93 ?_
        refine tn 94 ?_
        refine tn 95 ?_
        refine tn 96 ?_
        refine tn 97 ?_
        refine tn 98 ?_
        refine tn 99 ?_
        refine tn 100 ?_
        refine tn 101 ?_
        refine tn 102 ?_
        refine tn 103 ?_
        refine tn 104 ?_
        refine tn 105 ?_
        refine tn 106 ?_
        refine tn 107 ?_
        refine tn 108 ?_
        refine tn 109 ?_
        refine tn 110 ?_
        refine tn 111 ?_
        refine tn 112 ?_
        refine tn 113 ?_
        refine tn 114 ?_
        refine tn 115 ?_
        refine tn 116 ?_
        refine t 117 (.bool false) ?_
        refine gl_nil ?_
        refine ge_then ?_
        refine gc_fr [(0,.slice ao n c),(3,pg g0),(4,.slice a k d),(5,.int .i64 (i:Int)),(6,pg g6),(7,dv),(8,pg g8),(9,pg g9),(10,.int .i64 (moveR E (sa i) (sb i) (sn i))),(11,pg g11),(12,pg g12),(75,.int .i64 (moveR E (sa i) (sb i) (sn i))),(76,.bool true),(77,.bool true),(78,pq g6 1),(79,.int .u64 (sa i)),(80,pq g6 2),(81,.int .u64 (sb i)),(82,.bool false),(83,.bool false),(84,.bool false),(85,undef),(86,undef),(87,undef),(88,undef),(89,undef),(90,undef),(91,undef),(92,undef),(93,undef),(94,undef),(95,undef),(96,undef),(97,undef),(98,undef),(99,undef),(100,undef),(101,undef),(102,undef),(103,undef),(104,undef),(105,undef),(106,undef),(107,undef),(108,undef),(109,undef),(110,undef),(111,undef),(112,undef),(113,undef),(114,undef),(115,undef),(116,undef),(117,.bool false)] (by kernel_rfl) ?_
        refine gc_no ?_
        refine gc_skip ?_
        refine ge_then ?_
        refine gc_seq ?_
        refine gc_reg ?_
        refine t 118 (.int .i64 (moveR E (sa i) (sb i) (sn i))) ?_
        have t285:¬ ((moveR E (sa i) (sb i) (sn i):Int)=90):=by omega
        refine tq 119 (.bool ((moveR E (sa i) (sb i) (sn i):Int) == 90)) (.bool false) (congrArg Value.bool (beq_eq_false_iff_ne.2 t285)) ?_
        refine t 120 (.bool false) ?_
        refine tn 121 ?_
        refine tn 122 ?_
        refine tn 123 ?_
        refine tn 124 ?_
        refine tn 125 ?_
        refine t 126 (.bool false) ?_
        refine gl_nil ?_
        refine ge_then ?_
        refine gc_no ?_
        refine gc_skip ?_
        refine ge_bn ?_
        have NQ:=NA
        have hsum:(accs (moveE E (sa i) (sb i) (sn i))).sum=(accs E).sum:=move_sum okE ra rb rn
        rw [<- hsum] at NQ
        exact ge_join ((moveR E (sa i) (sb i) (sn i),a,k,d):Int × Option Addr × Nat × Nat) ⟨BB,_,_,_,_,_,_,A.sx,by omega,by omega,Z,ZD,NQ,by dsimp only; omega,move_all hAll,fun h=>move_no h⟩ (by kernel_rfl)
       ·refine tq 82 (.bool ((sa i:Int) != sb i)) (.bool true) (congrArg Value.bool (bne_iff_ne.2 c284)) ?_
        refine t 83 (.bool true) ?_
        refine t 84 (.bool true) ?_
        refine t 85 (pg g11) ?_
        refine tl 86 (.int .u64 (coin (moveE E (sa i) (sb i) (sn i)) (sa i))) X11 0 ?_
        refine t 87 (pq g6 3) ?_
        refine tl 88 (.int .u64 (sn i)) X6 3 ?_
        obtain ⟨mv1,mv2,mv3,mv4,mv5,mv6,mv7⟩:=move_at okE ra rb rn c283 c284
        have cra:=okE.cr (sa i)
        have crb:=okE.cr (sb i)
        unfold U64 at cra crb
        have rn2:=rn
        unfold U64 at rn2
        refine tq 89 (.int .u64 (IntKind.u64.wrap ((coin (moveE E (sa i) (sb i) (sn i)) (sa i)) + (sn i)))) (.int .u64 ((coin (moveE E (sa i) (sb i) (sn i)) (sa i)) + (sn i))) (wu (by omega)) ?_
        refine t 90 (pg g8) ?_
        refine tl 91 (.int .u64 (coin E (sa i))) X8 0 ?_
        have t286:(((coin (moveE E (sa i) (sb i) (sn i)) (sa i)) + (sn i):Int)=coin E (sa i)):=by omega
        refine tq 92 (.bool (((coin (moveE E (sa i) (sb i) (sn i)) (sa i)) + (sn i):Int) != coin E (sa i))) (.bool false) (congrArg Value.bool (bne_eq_false_iff_eq.2 t286)) ?_
        refine t 93 (.bool false) ?_
        refine t 94 (pg g9) ?_
        refine tl 95 (.int .u64 (coin E (sb i))) X9 0 ?_
        refine t 96 (pq g6 3) ?_
        refine tl 97 (.int .u64 (sn i)) X6 3 ?_
        refine tq 98 (.int .u64 (IntKind.u64.wrap ((coin E (sb i)) + (sn i)))) (.int .u64 ((coin E (sb i)) + (sn i))) (wu (by omega)) ?_
        refine t 99 (pg g12) ?_
        refine tl 100 (.int .u64 (coin (moveE E (sa i) (sb i) (sn i)) (sb i))) X12 0 ?_
        have t287:(((coin E (sb i)) + (sn i):Int)=coin (moveE E (sa i) (sb i) (sn i)) (sb i)):=by omega
        refine tq 101 (.bool (((coin E (sb i)) + (sn i):Int) != coin (moveE E (sa i) (sb i) (sn i)) (sb i))) (.bool false) (congrArg Value.bool (bne_eq_false_iff_eq.2 t287)) ?_
        refine t 102 (.bool false) ?_
        refine t 103 (.bool false) ?_
        refine t 104 (pq g11 1) ?_
        refine tl 105 (.int .u64 (seqn (moveE E (sa i) (sb i) (sn i)) (sa i))) X11 1 ?_
        refine t 106 (pq g8 1) ?_
        refine tl 107 (.int .u64 (seqn E (sa i))) X8 1 ?_
        have t288:((seqn (moveE E (sa i) (sb i) (sn i)) (sa i):Int)=seqn E (sa i)):=by omega
        refine tq 108 (.bool ((seqn (moveE E (sa i) (sb i) (sn i)) (sa i):Int) != seqn E (sa i))) (.bool false) (congrArg Value.bool (bne_eq_false_iff_eq.2 t288)) ?_
        refine t 109 (.bool false) ?_
        refine t 110 (.bool false) ?_
        refine t 111 (pq g12 1) ?_
        refine tl 112 (.int .u64 (seqn (moveE E (sa i) (sb i) (sn i)) (sb i))) X12 1 ?_
        refine t 113 (pq g9 1) ?_
        refine tl 114 (.int .u64 (seqn E (sb i))) X9 1 ?_
        have t289:((seqn (moveE E (sa i) (sb i) (sn i)) (sb i):Int)=seqn E (sb i)):=by omega
        refine tq 115 (.bool ((seqn (moveE E (sa i) (sb i) (sn i)) (sb i):Int) != seqn E (sb i))) (.bool false) (congrArg Value.bool (bne_eq_false_iff_eq.2 t289)) ?_
        refine t 116 (.bool false) ?_
        refine t 117 (.bool false) ?_
        refine gl_nil ?_
        refine ge_then ?_
        refine gc_fr [(0,.slice ao n c),(3,pg g0),(4,.slice a k d),(5,.int .i64 (i:Int)),(6,pg g6),(7,dv),(8,pg g8),(9,pg g9),(10,.int .i64 (moveR E (sa i) (sb i) (sn i))),(11,pg g11),(12,pg g12),(75,.int .i64 (moveR E (sa i) (sb i) (sn i))),(76,.bool true),(77,.bool true),(78,pq g6 1),(79,.int .u64 (sa i)),(80,pq g6 2),(81,.int .u64 (sb i)),(82,.bool true),(83,.bool true),(84,.bool true),(85,pg g11),(86,.int .u64 (coin (moveE E (sa i) (sb i) (sn i)) (sa i))),(87,pq g6 3),(88,.int .u64 (sn i)),(89,.int .u64 ((coin (moveE E (sa i) (sb i) (sn i)) (sa i)) + (sn i))),(90,pg g8),(91,.int .u64 (coin E (sa i))),(92,.bool false),(93,.bool false),(94,pg g9),(95,.int .u64 (coin E (sb i))),(96,pq g6 3),(97,.int .u64 (sn i)),(98,.int .u64 ((coin E (sb i)) + (sn i))),(99,pg g12),(100,.int .u64 (coin (moveE E (sa i) (sb i) (sn i)) (sb i))),(101,.bool false),(102,.bool false),(103,.bool false),(104,pq g11 1),(105,.int .u64 (seqn (moveE E (sa i) (sb i) (sn i)) (sa i))),(106,pq g8 1),(107,.int .u64 (seqn E (sa i))),(108,.bool false),(109,.bool false),(110,.bool false),(111,pq g12 1),(112,.int .u64 (seqn (moveE E (sa i) (sb i) (sn i)) (sb i))),(113,pq g9 1),(114,.int .u64 (seqn E (sb i))),(115,.bool false),(116,.bool false),(117,.bool false)] (by kernel_rfl) ?_
        refine gc_no ?_
        refine gc_skip ?_
        refine ge_then ?_
        refine gc_seq ?_
        refine gc_reg ?_
        refine t 118 (.int .i64 (moveR E (sa i) (sb i) (sn i))) ?_
        have t290:¬ ((moveR E (sa i) (sb i) (sn i):Int)=90):=by omega
        refine tq 119 (.bool ((moveR E (sa i) (sb i) (sn i):Int) == 90)) (.bool false) (congrArg Value.bool (beq_eq_false_iff_ne.2 t290)) ?_
        refine t 120 (.bool false) ?_
        refine tn 121 ?_
        refine tn 122 ?_
        refine tn 123 ?_
        refine tn 124 ?_
        refine tn 125 ?_
        refine t 126 (.bool false) ?_
        refine gl_nil ?_
        refine ge_then ?_
        refine gc_no ?_
        refine gc_skip ?_
        refine ge_bn ?_
        have NQ:=NA
        have hsum:(accs (moveE E (sa i) (sb i) (sn i))).sum=(accs E).sum:=move_sum okE ra rb rn
        rw [<- hsum] at NQ
        exact ge_join ((moveR E (sa i) (sb i) (sn i),a,k,d):Int × Option Addr × Nat × Nat) ⟨BB,_,_,_,_,_,_,A.sx,by omega,by omega,Z,ZD,NQ,by dsimp only; omega,move_all hAll,fun h=>move_no h⟩ (by kernel_rfl)
      ·refine tq 76 (.bool ((moveR E (sa i) (sb i) (sn i):Int) == 0)) (.bool false) (congrArg Value.bool (beq_eq_false_iff_ne.2 c283)) ?_
       refine t 77 (.bool false) ?_
       refine tn 78 ?_
       refine tn 79 ?_
       refine tn 80 ?_
       refine tn 81 ?_
       refine tn 82 ?_
       refine t 83 (.bool false) ?_
       refine t 84 (.bool false) ?_
       refine tn 85 ?_
       refine tn 86 ?_
       refine tn 87 ?_
       refine tn 88 ?_
       refine tn 89 ?_
       refine tn 90 ?_
       refine tn 91 ?_
       refine tn 92 ?_
       refine tn 93 ?_
       refine tn 94 ?_
       refine tn 95 ?_
       refine tn 96 ?_
       refine tn 97 ?_
       refine tn 98 ?_
       refine tn 99 ?_
       refine tn 100 ?_
       refine tn 101 ?_
       refine tn 102 ?_
       refine tn 103 ?_
       refine tn 104 ?_
       refine tn 105 ?_
       refine tn 106 ?_
       refine tn 107 ?_
       refine tn 108 ?_
       refine tn 109 ?_
       refine tn 110 ?_
       refine tn 111 ?_
       refine tn 112 ?_
       refine tn 113 ?_
       refine tn 114 ?_
       refine tn 115 ?_
       refine tn 116 ?_
       refine t 117 (.bool false) ?_
       refine gl_nil ?_
       refine ge_then ?_
       refine gc_fr [(0,.slice ao n c),(3,pg g0),(4,.slice a k d),(5,.int .i64 (i:Int)),(6,pg g6),(7,dv),(8,pg g8),(9,pg g9),(10,.int .i64 (moveR E (sa i) (sb i) (sn i))),(11,pg g11),(12,pg g12),(75,.int .i64 (moveR E (sa i) (sb i) (sn i))),(76,.bool false),(77,.bool false),(78,undef),(79,undef),(80,undef),(81,undef),(82,undef),(83,.bool false),(84,.bool false),(85,undef),(86,undef),(87,undef),(88,undef),(89,undef),(90,undef),(91,undef),(92,undef),(93,undef),(94,undef),(95,undef),(96,undef),(97,undef),(98,undef),(99,undef),(100,undef),(101,undef),(102,undef),(103,undef),(104,undef),(105,undef),(106,undef),(107,undef),(108,undef),(109,undef),(110,undef),(111,undef),(112,undef),(113,undef),(114,undef),(115,undef),(116,undef),(117,.bool false)] (by kernel_rfl) ?_
       refine gc_no ?_
       refine gc_skip ?_
       refine ge_then ?_
       refine gc_seq ?_
       refine gc_reg ?_
       refine t 118 (.int .i64 (moveR E (sa i) (sb i) (sn i))) ?_
       by_cases c291:(moveR E (sa i) (sb i) (sn i):Int)=90
       ·refine tq 119 (.bool ((moveR E (sa i) (sb i) (sn i):Int) == 90)) (.bool true) (congrArg Value.bool (beq_iff_eq.2 c291)) ?_
        refine t 120 (.bool true) ?_
        refine t 121 (pg g8) ?_
        refine tl 122 (.int .u64 (coin E (sa i))) X8 0 ?_
        refine t 123 (pq g6 3) ?_
        refine tl 124 (.int .u64 (sn i)) X6 3 ?_
        have t292:¬ ((sn i:Int)<=coin E (sa i)):=by have:=move_90 c291; omega
        refine tq 125 (.bool (decide ((sn i:Int)<=coin E (sa i)))) (.bool false) (congrArg Value.bool (decide_eq_false t292)) ?_
        refine t 126 (.bool false) ?_
        refine gl_nil ?_
        refine ge_then ?_
        refine gc_no ?_
        refine gc_skip ?_
        refine ge_bn ?_
        have NQ:=NA
        have hsum:(accs (moveE E (sa i) (sb i) (sn i))).sum=(accs E).sum:=move_sum okE ra rb rn
        rw [<- hsum] at NQ
        exact ge_join ((moveR E (sa i) (sb i) (sn i),a,k,d):Int × Option Addr × Nat × Nat) ⟨BB,_,_,_,_,_,_,A.sx,by omega,by omega,Z,ZD,NQ,by dsimp only; omega,move_all hAll,fun h=>move_no h⟩ (by kernel_rfl)
       ·refine tq 119 (.bool ((moveR E (sa i) (sb i) (sn i):Int) == 90)) (.bool false) (congrArg Value.bool (beq_eq_false_iff_ne.2 c291)) ?_
        refine t 120 (.bool false) ?_
        refine tn 121 ?_
        refine tn 122 ?_
        refine tn 123 ?_
        refine tn 124 ?_
        refine tn 125 ?_
        refine t 126 (.bool false) ?_
        refine gl_nil ?_
        refine ge_then ?_
        refine gc_no ?_
        refine gc_skip ?_
        refine ge_bn ?_
        have NQ:=NA
        have hsum:(accs (moveE E (sa i) (sb i) (sn i))).sum=(accs E).sum:=move_sum okE ra rb rn
        rw [<- hsum] at NQ
        exact ge_join ((moveR E (sa i) (sb i) (sn i),a,k,d):Int × Option Addr × Nat × Nat) ⟨BB,_,_,_,_,_,_,A.sx,by omega,by omega,Z,ZD,NQ,by dsimp only; omega,move_all hAll,fun h=>move_no h⟩ (by kernel_rfl)
     ·refine gc_no (hc:=congrArg Value.bool b185) ?_
      refine gc_seq ?_
      refine gc_reg ?_
      by_cases c293:(sw i:Int)=3
      ·refine tq 128 (.bool ((sw i:Int) == 3)) (.bool true) (congrArg Value.bool (beq_iff_eq.2 c293)) ?_
       refine t 127 (.bool true) ?_
       refine gl_nil ?_
       refine ge_then ?_
       refine gc_yes ?_
       refine gc_seq ?_
       refine gc_reg ?_
       refine t 129 (pg g0) ?_
       refine t 130 (pq g6 1) ?_
       refine tl 131 (.int .u64 (sa i)) X6 1 ?_
       refine tc 132 12 #[pg g0,.int .u64 (sa i)] (bump_any A.sx ra (by omega) (by omega)) ?_
       rintro _ v297 ⟨rfl,K294,n295,N296,S,qn295,qN296,hK,hC⟩
       refine ⟨_,rfl,?_⟩
       replace BB:=belowO BB hC (fun b hb=>Nat.le_trans hwB (A.sx.kb b hb))
       replace Z:=Z.op hC hK
       replace ZD:=ZD.op hC hK
       have mX6:=not_op X6 nX6 hK
       replace X6:=X6.chg hC nX6
       replace nX6:=mX6
       clear mX6
       have mX8:=not_op X8 nX8 hK
       replace X8:=X8.chg hC nX8
       replace nX8:=mX8
       clear mX8
       have mX9:=not_op X9 nX9 hK
       replace X9:=X9.chg hC nX9
       replace nX9:=mX9
       clear mX9
       replace A:=A.op S hK hC
       clear S hK hC
       obtain ⟨sq,hsq⟩:∃ sq,(seqn E (sa i) + 1) % 18446744073709551616=sq:=⟨_,rfl⟩
       refine t 10 (.int .i64 (bumpR (sa i))) ?_
       refine gl_nil ?_
       refine ge_then ?_
       refine gc_seq ?_
       replace BB:=BB.drew
       replace A:=A.drew
       replace Z:=Z.drew
       replace ZD:=ZD.drew
       replace X6:=X6.drew
       replace X8:=X8.drew
       replace X9:=X9.drew
       refine gc_draw (fun w'=>Blk w' g6 [.int .i64 (sw i),.int .u64 (sa i),.int .u64 (sb i),.int .u64 (sn i)] 33/\Blk w' g8 [.int .u64 (coin E (sa i)),.int .u64 (seqn E (sa i))] 42) (fun _=>false) ⟨X6,X8⟩ ?_
       refine z 0 133 (.int .i64 (bumpR (sa i))) ?_
       by_cases c298:(bumpR (sa i):Int)=0
       ·refine zq 1 134 (.bool ((bumpR (sa i):Int) == 0)) (.bool true) (congrArg Value.bool (beq_iff_eq.2 c298)) ?_
        refine z 2 135 (.bool true) ?_
        refine z 3 136 (pg g0) ?_
        refine z 4 137 (pq g6 1) ?_
        refine zl 5 138 (.int .u64 (sa i)) (fun _ h=>h.1) 1 ?_
        refine z 7 140 (pg g8) ?_
        refine zl 8 141 (.int .u64 (coin E (sa i))) (fun _ h=>h.2) 0 ?_
        refine z 9 142 (pq g8 1) ?_
        refine zl 10 143 (.int .u64 (seqn E (sa i))) (fun _ h=>h.2) 1 ?_
        refine zq 11 144 (.int .u64 (IntKind.u64.wrap (seqn E (sa i) + 1))) (.int .u64 sq) (congrArg (Value.int .u64) ((IntKind.wrap_u64 _).trans hsq)) ?_
        refine zr 12 145 (.agg #[.int .u64 (coin E (sa i)),.int .u64 sq]) (fun _ _=>run_bld) ?_
        refine zc 6 139 14 #[pg g0,.int .u64 (sa i)] (get_any A.sx ra (by omega) (by omega)) ?_
        rintro _ v300 ⟨rfl,K299,S,hK,hC⟩
        replace BB:=belowO BB hC (fun b hb=>Nat.le_trans hwB (A.sx.kb b hb))
        replace Z:=Z.op hC hK
        replace ZD:=ZD.op hC hK
        have mX6:=not_op X6 nX6 hK
        replace X6:=X6.chg hC nX6
        replace nX6:=mX6
        clear mX6
        have mX8:=not_op X8 nX8 hK
        replace X8:=X8.chg hC nX8
        replace nX8:=mX8
        clear mX8
        have mX9:=not_op X9 nX9 hK
        replace X9:=X9.chg hC nX9
        replace nX9:=mX9
        clear mX9
        replace A:=A.op S hK hC
        clear S hK hC
        refine ⟨_,rfl,⟨X6,X8⟩,?_⟩
        refine zr 13 146 (.bool false) (fun _ _=>run_nq (bump_at okE ra c298).1 ((bump_at okE ra c298).2.trans hsq)) ?_
        refine z 14 147 (.bool false) ?_
        refine gz_done ?_
        refine ge_then ?_
        refine gc_fr [(0,.slice ao n c),(3,pg g0),(4,.slice a k d),(5,.int .i64 (i:Int)),(6,pg g6),(7,dv),(8,pg g8),(9,pg g9),(10,.int .i64 (bumpR (sa i))),(40,.int .i64 (sw i)),(56,.bool sb_),(127,.bool true),(128,.bool true),(129,pg g0),(130,pq g6 1),(131,.int .u64 (sa i)),(132,.int .i64 (bumpR (sa i))),(133,.int .i64 (bumpR (sa i))),(134,.bool true),(135,.bool true),(136,pg g0),(137,pq g6 1),(138,.int .u64 (sa i)),(139,.agg #[.int .u64 (coin (bumpE E (sa i)) (sa i)),.int .u64 (seqn (bumpE E (sa i)) (sa i))]),(140,pg g8),(141,.int .u64 (coin E (sa i))),(142,pq g8 1),(143,.int .u64 (seqn E (sa i))),(144,.int .u64 sq),(145,.agg #[.int .u64 (coin E (sa i)),.int .u64 sq]),(146,.bool false),(147,.bool false)] (by kernel_rfl) ?_
        refine gc_no ?_
        refine gc_skip ?_
        refine ge_bn ?_
        have NQ:=NA
        have hsum:(accs (bumpE E (sa i))).sum=(accs E).sum:=bump_sum okE
        rw [<- hsum] at NQ
        exact ge_join ((bumpR (sa i),a,k,d):Int × Option Addr × Nat × Nat) ⟨BB,_,_,_,_,_,_,A.sx,by omega,by omega,Z,ZD,NQ,by dsimp only; omega,bump_all hAll,fun h=>bump_no h⟩ (by kernel_rfl)
       ·refine zq 1 134 (.bool ((bumpR (sa i):Int) == 0)) (.bool false) (congrArg Value.bool (beq_eq_false_iff_ne.2 c298)) ?_
        refine z 2 135 (.bool false) ?_
        refine zn 3 136 ?_
        refine zn 4 137 ?_
        refine zn 5 138 ?_
        refine zn 6 139 ?_
        refine zn 7 140 ?_
        refine zn 8 141 ?_
        refine zn 9 142 ?_
        refine zn 10 143 ?_
        refine zn 11 144 ?_
        refine zn 12 145 ?_
        refine zn 13 146 ?_
        refine z 14 147 (.bool false) ?_
        refine gz_done ?_
        refine ge_then ?_
        refine gc_fr [(0,.slice ao n c),(3,pg g0),(4,.slice a k d),(5,.int .i64 (i:Int)),(6,pg g6),(7,dv),(8,pg g8),(9,pg g9),(10,.int .i64 (bumpR (sa i))),(40,.int .i64 (sw i)),(56,.bool sb_),(127,.bool true),(128,.bool true),(129,pg g0),(130,pq g6 1),(131,.int .u64 (sa i)),(132,.int .i64 (bumpR (sa i))),(133,.int .i64 (bumpR (sa i))),(134,.bool false),(135,.bool false),(136,undef),(137,undef),(138,undef),(139,undef),(140,undef),(141,undef),(142,undef),(143,undef),(144,undef),(145,undef),(146,undef),(147,.bool false)] (by kernel_rfl) ?_
        refine gc_no ?_
        refine gc_skip ?_
        refine ge_bn ?_
        have NQ:=NA
        have hsum:(accs (bumpE E (sa i))).sum=(accs E).sum:=bump_sum okE
        rw [<- hsum] at NQ
        exact ge_join ((bumpR (sa i),a,k,d):Int × Option Addr × Nat × Nat) ⟨BB,_,_,_,_,_,_,A.sx,by omega,by omega,Z,ZD,NQ,by dsimp only; omega,bump_all hAll,fun h=>bump_no h⟩ (by kernel_rfl)
      ·refine tq 128 (.bool ((sw i:Int) == 3)) (.bool false) (congrArg Value.bool (beq_eq_false_iff_ne.2 c293)) ?_
       refine t 127 (.bool false) ?_
       refine gl_nil ?_
       refine ge_then ?_
       refine gc_no ?_
       refine gc_skip ?_
       refine ge_bn ?_
       have NQ:=NA
       have hsum:(accs E).sum=(accs E).sum:=rfl
       rw [<- hsum] at NQ
       exact ge_join ((0,a,k,d):Int × Option Addr × Nat × Nat) ⟨BB,_,_,_,_,_,_,A.sx,by omega,by omega,Z,ZD,NQ,by dsimp only; omega,hAll,fun h=>absurd rfl h⟩ (by kernel_rfl)
   clear BB
   clear A
   clear Z
   clear ZD
   clear X6
   clear X8
   clear X9
   rintro ⟨r,a1,k1,d1⟩ v301 ⟨BB,K3,E1,n3,N3,nB,wB,S,q5,q6,Z,ZD,NA1,hkk1,hAll1,hEE⟩
   dsimp only at NA1 hkk1 hEE
   have A:=S.at
   clear S
   refine gc_seq ?_
   refine gc_reg ?_
   refine t 148 (.int .i64 r) ?_
   by_cases c302:(r:Int)=0
   ·refine tq 149 (.bool ((r:Int) != 0)) (.bool false) (congrArg Value.bool (bne_eq_false_iff_eq.2 c302)) ?_
    refine t 150 (.bool false) ?_
    refine tn 151 ?_
    refine tn 152 ?_
    refine tn 153 ?_
    refine tn 154 ?_
    refine tn 155 ?_
    refine t 156 (.bool false) ?_
    refine t 157 (.bool false) ?_
    refine t 158 (pg g0) ?_
    refine tc 159 19 #[pg g0] (sum_any A.sx (by omega) (by omega)) ?_
    rintro _ v304 ⟨sa303,sa303k,sa303d,rfl,Osa303,hsa303,S,C⟩
    refine ⟨_,rfl,?_⟩
    have hfw:=A.sx.few
    have hC:=C.mono (fun b _ (e:b=g0)=>e▸A.sx.sa.top)
    replace BB:=belowO BB hC (fun b hb=>Nat.le_trans hwB (A.sx.kb b hb))
    replace Z:=Z.sum hC
    replace ZD:=ZD.sum hC
    replace A:=A.op S (fun _ h=>.inl h) hC
    clear S hC C
    refine t 160 (.slice a1 k1 d1) ?_
    refine tc 161 18 #[.slice sa303 sa303k sa303d,.slice a1 k1 d1] (natT Osa303 (Z.nat NA1) (by omega) (by omega) rfl) ?_
    rintro _ v305 ⟨rfl,B⟩
    refine ⟨_,rfl,?_⟩
    replace BB:=joinB BB B
    replace A:=A.keep B
    replace Z:=Z.keep B
    replace ZD:=ZD.keep B
    replace Osa303:=Rc.NatW.keep Osa303 B
    clear B
    clear Osa303
    refine t 162 (.bool false) ?_
    refine t 163 (.bool false) ?_
    refine gl_nil ?_
    refine ge_then ?_
    refine gc_fr [(0,.slice ao n c),(3,pg g0),(4,.slice a1 k1 d1),(5,.int .i64 (i:Int)),(7,dv),(10,.int .i64 r),(148,.int .i64 r),(149,.bool false),(150,.bool false),(151,undef),(152,undef),(153,undef),(154,undef),(155,undef),(156,.bool false),(157,.bool false),(158,pg g0),(159,.slice sa303 sa303k sa303d),(160,.slice a1 k1 d1),(161,.bool true),(162,.bool false),(163,.bool false)] (by kernel_rfl) ?_
    refine gc_no ?_
    refine gc_skip ?_
    refine ge_bn ?_
    refine ge_then ?_
    refine gc_reg ?_
    refine t 23 (.int .i64 (i:Int)) ?_
    refine tq 24 (.int .i64 (IntKind.i64.wrap ((i:Int) + 1))) (.int .i64 ((i:Int) + 1)) (wi (by omega)) ?_
    refine t 5 (.int .i64 ((i:Int) + 1)) ?_
    refine gl_nil ?_
    have NQ:=NA1
    exact ge_round ((i + 1,a1,k1,d1):Nat × Option Addr × Nat × Nat) (by show n - (i + 1) < n - i; omega) ⟨hk_i,BB,_,_,_,_,_,_,A.sx,by dsimp only; omega,by dsimp only; omega,hAll1,Z,NQ,by dsimp only; omega⟩ (by kernel_rfl)
   ·refine tq 149 (.bool ((r:Int) != 0)) (.bool true) (congrArg Value.bool (bne_iff_ne.2 c302)) ?_
    refine t 150 (.bool true) ?_
    refine t 151 (pg g0) ?_
    refine tc 152 17 #[pg g0] (dumpZ A.sx (by omega)) ?_
    rintro _ v307 ⟨dp306,sp306,rfl,Pp306,ep306,Zp306,B⟩
    refine ⟨_,rfl,?_⟩
    replace BB:=joinB BB B
    replace A:=A.keep B
    replace Z:=Z.keep B
    replace ZD:=ZD.keep B
    clear B
    refine t 153 (dv) ?_
    refine tc 154 16 #[dp306,dv] (pairsT A.sx (by omega) (Zp306.prs Pp306) (ZD.prs PD) ep306 eD (hEE c302).symm) ?_
    rintro _ v308 ⟨rfl,B⟩
    refine ⟨_,rfl,?_⟩
    replace BB:=joinB BB B
    replace A:=A.keep B
    replace Z:=Z.keep B
    replace ZD:=ZD.keep B
    replace Zp306:=Zp306.keep B
    clear B
    clear Zp306
    refine t 155 (.bool false) ?_
    refine t 156 (.bool false) ?_
    refine t 157 (.bool false) ?_
    refine t 158 (pg g0) ?_
    refine tc 159 19 #[pg g0] (sum_any A.sx (by omega) (by omega)) ?_
    rintro _ v310 ⟨sa309,sa309k,sa309d,rfl,Osa309,hsa309,S,C⟩
    refine ⟨_,rfl,?_⟩
    have hfw:=A.sx.few
    have hC:=C.mono (fun b _ (e:b=g0)=>e▸A.sx.sa.top)
    replace BB:=belowO BB hC (fun b hb=>Nat.le_trans hwB (A.sx.kb b hb))
    replace Z:=Z.sum hC
    replace ZD:=ZD.sum hC
    replace A:=A.op S (fun _ h=>.inl h) hC
    clear S hC C
    refine t 160 (.slice a1 k1 d1) ?_
    refine tc 161 18 #[.slice sa309 sa309k sa309d,.slice a1 k1 d1] (natT Osa309 (Z.nat NA1) (by omega) (by omega) rfl) ?_
    rintro _ v311 ⟨rfl,B⟩
    refine ⟨_,rfl,?_⟩
    replace BB:=joinB BB B
    replace A:=A.keep B
    replace Z:=Z.keep B
    replace ZD:=ZD.keep B
    replace Osa309:=Rc.NatW.keep Osa309 B
    clear B
    clear Osa309
    refine t 162 (.bool false) ?_
    refine t 163 (.bool false) ?_
    refine gl_nil ?_
    refine ge_then ?_
    refine gc_fr [(0,.slice ao n c),(3,pg g0),(4,.slice a1 k1 d1),(5,.int .i64 (i:Int)),(7,dv),(10,.int .i64 r),(148,.int .i64 r),(149,.bool true),(150,.bool true),(151,pg g0),(152,dp306),(153,dv),(154,.bool true),(155,.bool false),(156,.bool false),(157,.bool false),(158,pg g0),(159,.slice sa309 sa309k sa309d),(160,.slice a1 k1 d1),(161,.bool true),(162,.bool false),(163,.bool false)] (by kernel_rfl) ?_
    refine gc_no ?_
    refine gc_skip ?_
    refine ge_bn ?_
    refine ge_then ?_
    refine gc_reg ?_
    refine t 23 (.int .i64 (i:Int)) ?_
    refine tq 24 (.int .i64 (IntKind.i64.wrap ((i:Int) + 1))) (.int .i64 ((i:Int) + 1)) (wi (by omega)) ?_
    refine t 5 (.int .i64 ((i:Int) + 1)) ?_
    refine gl_nil ?_
    have NQ:=NA1
    exact ge_round ((i + 1,a1,k1,d1):Nat × Option Addr × Nat × Nat) (by show n - (i + 1) < n - i; omega) ⟨hk_i,BB,_,_,_,_,_,_,A.sx,by dsimp only; omega,by dsimp only; omega,hAll1,Z,NQ,by dsimp only; omega⟩ (by kernel_rfl)
  ·refine tq 22 (.bool (decide ((i:Int) < ((n:Nat):Int)))) (.bool false) (congrArg Value.bool (decide_eq_false ci)) ?_
   refine gl_nil ?_
   refine ge_then ?_
   refine gc_no ?_
   refine gc_exit ?_
   refine ge_tx ?_
   refine ge_tx ?_
   refine ge_bx ?_
   refine ge_then ?_
   refine gc_seq ?_
   refine gc_reg ?_
   refine t 2 (.bool true) ?_
   refine gl_nil ?_
   refine ge_then ?_
   refine gc_ret ?_
   refine ge_ret (.bool true) (rs1 2 (by kernel_rfl) (by kernel_rfl)) ?_
   exact ⟨rfl,BB⟩
end Bk
end Go.Proofs.YtfpclhjmfpfhiaaGreat
