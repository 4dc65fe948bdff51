/- gleanlaw11.PowerPlays. -/
import Derived.Test.YtflenlpabmehoaaGreatJap
namespace Go.Proofs.YtflenlpabmehoaaGreat
namespace Pw
open Go.RowKit Go.Lib Pg Lim Gl Kv Bk
set_option maxRecDepth 100000
set_option maxHeartbeats 4000000
set_option linter.unusedVariables false
section
variable {B:Nat} {w:World} {K:Nat->Prop} {g:Nat} {E:Ents} {W:List Ents} {n N:Nat}
theorem len1 {m:Nat} (h:Sx B w K g E W n N):(((pks 10 105 E).map Prod.snd).take m).length<=N:=by
 refine Nat.le_trans (List.length_take_le' _ _) (Nat.le_trans ?_ h.sa.size)
 rw [List.length_map]
 unfold pks
 rw [List.length_map]
 exact List.length_filter_le _ _
theorem len2 (h:Sx B w K g E W n N):((pks 11 98 E).map Prod.fst).length<=N:=by
 refine Nat.le_trans ?_ h.sa.size
 rw [List.length_map]
 unfold pks
 rw [List.length_map]
 exact List.length_filter_le _ _
end
theorem powerPlays_walk {w:World} {ao:Option Addr} {n c pb po_:Nat} {sw sm sv st:Nat->Int} (SS:StpP w ao n pb po_ sw sm sv st):Calls Tryz.prog 3 #[.slice ao n c] w fun e w'=>e=.returned (.bool true)/\Below w.heap.size w w':=by
 have BB:=Below.refl w.heap.size w
 have hfew:=SS.few
 refine gc_enter (n:=115) Tryz.func3 rfl (by kernel_rfl) (by kernel_rfl) ?_
 refine gc_seq ?_
 refine gc_reg ?_
 refine t 2 (.bool false) ?_
 refine gl_nil ?_
 refine ge_then ?_
 refine gc_seq ?_
 refine gc_seq ?_
 refine gc_reg ?_
 refine tc 9 9 #[] (known11) ?_
 rintro _ v1 ⟨rfl,B⟩
 refine ⟨_,rfl,?_⟩
 replace BB:=joinB BB B
 clear B
 refine t 10 (.bool false) ?_
 refine gl_nil ?_
 refine ge_then ?_
 refine gc_no ?_
 refine gc_skip ?_
 refine ge_then ?_
 refine gc_seq ?_
 refine gc_seq ?_
 refine gc_reg ?_
 refine t 11 (.slice ao n c) ?_
 refine t 12 (.int .i64 ((n:Nat):Int)) ?_
 by_cases c2:(300:Int) < ((n:Nat):Int)
 ·refine tq 13 (.bool (decide ((300:Int) < ((n:Nat):Int)))) (.bool true) (congrArg Value.bool (decide_eq_true c2)) ?_
  refine gl_nil ?_
  refine ge_then ?_
  refine gc_yes ?_
  refine gc_seq ?_
  refine gc_reg ?_
  refine t 2 (.bool true) ?_
  refine gl_nil ?_
  refine ge_then ?_
  refine gc_ret ?_
  refine ge_tr ?_
  refine ge_ret (.bool true) (rs1 2 (by kernel_rfl) (by kernel_rfl)) ?_
  exact ⟨rfl,BB⟩
 ·refine tq 13 (.bool (decide ((300:Int) < ((n:Nat):Int)))) (.bool false) (congrArg Value.bool (decide_eq_false c2)) ?_
  refine gl_nil ?_
  refine ge_then ?_
  refine gc_no ?_
  refine gc_skip ?_
  refine ge_then ?_
  refine gc_seq ?_
  refine gc_reg ?_
  obtain ⟨Bz,hBz⟩:∃ Bz,Bz=(v1).heap.size:=⟨_,rfl⟩
  have hwB:w.heap.size<=Bz:=by rw [hBz]; exact BB.size
  refine tc 14 10 #[] (snewP Bz hBz) ?_
  rintro _ v3 ⟨g0,K0,rfl,S0,hK0,B0⟩
  refine ⟨_,rfl,?_⟩
  replace BB:=joinB BB B0
  have A:=S0.at
  clear S0
  refine t 15 (.agg #[.slice none 0 0,.slice none 0 0,.int .i64 0]) ?_
  refine ta 16 [.slice none 0 0,.slice none 0 0,.int .i64 0] 30 (pg) ?_
  intro v4 g5 Xg5 hg5 B
  have zg5:=Nat.le_trans A.size hg5
  have nXg5:=A.new hg5
  replace BB:=joinB BB B
  replace A:=A.keep B
  clear B
  refine t 3 (pg g0) ?_
  refine t 4 (pg g5) ?_
  refine gl_nil ?_
  refine ge_then ?_
  refine gc_fr [(0,.slice ao n c),(2,.bool false),(3,pg g0),(4,pg g5)] (by kernel_rfl) ?_
  refine gc_seq ?_
  refine gc_seq ?_
  refine gc_reg ?_
  refine t 5 (.int .i64 0) ?_
  refine gl_nil ?_
  refine ge_then ?_
  refine gc_block ?_
  obtain ⟨q,hq⟩:∃ q,q=g5:=⟨_,rfl⟩
  have R0:=rx_new (B:=Bz) (hq▸Xg5) (by have:=A.sx.lo; have:=B0.size; omega)
  have dj0:∀ b,K0 b->¬ (b=q):=fun b hb e=>nXg5 (by rw [<- hq,<- e]; exact hb)
  rw [<- hq]
  refine gc_loop (fun s=>n - s) (fun (s:Nat)=>[(0,.slice ao n c),(3,pg g0),(4,pg q),(5,.int .i64 (s:Int))]) (fun s w'=>s<=n/\Below w.heap.size w w'/\∃ K X E nn NN n2,Sx Bz w' K g0 E [] nn NN/\nn<=s * 10000/\NN<=s * 10/\Rx Bz w' X q E n2/\n2<=s * 10000/\(∀ b,K b->¬ X b)/\Po E) (0:Nat) ⟨Nat.zero_le _,BB,_,_,[],0,0,0,A.sx,Nat.zero_le _,Nat.zero_le _,R0,Nat.zero_le _,dj0,po_nil⟩ (by kernel_rfl) ?_
  clear BB
  clear A
  clear Xg5
  clear R0 dj0
  rintro i v6 ⟨hi,BB,K,X,E,nn,NN,n2,S,hnn,hNN,R,hn2,dj,po⟩
  have A:=S.at
  clear S
  have hsz:=A.sx.sa.size
  have hwv:=BB.size
  refine gc_seq ?_
  refine gc_seq ?_
  refine gc_reg ?_
  refine t 17 (.int .i64 (i:Int)) ?_
  refine t 18 (.slice ao n c) ?_
  refine t 19 (.int .i64 ((n:Nat):Int)) ?_
  by_cases ci:(i:Int) < ((n:Nat):Int)
  ·have hk_i:i < n:=by omega
   obtain ⟨rv,rt⟩:=SS.rng i hk_i
   refine tq 20 (.bool (decide ((i:Int) < ((n:Nat):Int)))) (.bool true) (congrArg Value.bool (decide_eq_true ci)) ?_
   refine gl_nil ?_
   refine ge_then ?_
   refine gc_yes ?_
   refine gc_skip ?_
   refine ge_then ?_
   refine gc_seq ?_
   refine gc_block ?_
   refine gc_seq ?_
   refine gc_reg ?_
   refine t 23 (.slice ao n c) ?_
   refine t 24 (.int .i64 (i:Int)) ?_
   refine tr 25 (pq pb (po_ + i * 4)) (run_ixa 4 pb po_ n c i hk_i SS.ptr) ?_
   refine tr 26 (.agg #[.int .i64 (sw i),.int .i64 (sm i),.int .u64 (sv i),.int .u64 (st i)]) (run_lds SS hk_i BB) ?_
   refine ta 6 [.int .i64 0,.int .i64 0,.int .u64 0,.int .u64 0] 33 (pg) ?_
   intro v7 g8 Xg8 hg8 B
   have uXg8:=R.new hg8
   have zg8:=Nat.le_trans A.size hg8
   have nXg8:=A.new hg8
   replace BB:=joinB BB B
   replace A:=A.keep B
   replace R:=R.keep B
   clear B
   refine ts Xg8 0 (.agg #[.int .i64 (sw i),.int .i64 (sm i),.int .u64 (sv i),.int .u64 (st i)]) [.int .i64 (sw i),.int .i64 (sm i),.int .u64 (sv i),.int .u64 (st i)] [.int .i64 (sw i),.int .i64 (sm i),.int .u64 (sv i),.int .u64 (st i)] ?_
   intro v9 Y C
   replace BB:=belowC BB C (by omega)
   replace A:=Bk.At.cell A Xg8 C zg8 nXg8 (by decide)
   replace R:=R.cell Xg8 C uXg8 (by decide)
   clear C Xg8
   have Xg8:=Y
   clear Y
   refine gl_nil ?_
   refine ge_then ?_
   refine gc_join (fun (_:Unit)=>[(0,.slice ao n c),(3,pg g0),(4,pg q),(5,.int .i64 (i:Int)),(6,pg g8)]) (fun _ w'=>Below w.heap.size w w'/\Blk w' g8 [.int .i64 (sw i),.int .i64 (sm i),.int .u64 (sv i),.int .u64 (st i)] 33/\∃ K' X' E' n' N' n2',Sx Bz w' K' g0 E' [] n' N'/\n'<=nn + 20/\N'<=NN + 10/\Rx Bz w' X' q E' n2'/\n2'<=n2 + 20/\(∀ b,K' b->¬ X' b)/\Po E'/\¬ K' g8/\¬ X' g8) ?_ ?_
   ·refine gc_seq ?_
    refine gc_reg ?_
    refine t 27 (pg g8) ?_
    refine tl 28 (.int .i64 (sw i)) Xg8 0 ?_
    refine gl_nil ?_
    refine ge_then ?_
    refine gc_block ?_
    refine gc_join (fun (s:Bool)=>[(0,.slice ao n c),(3,pg g0),(4,pg q),(5,.int .i64 (i:Int)),(6,pg g8),(28,.int .i64 (sw i)),(29,.bool s)]) (fun _ w'=>v9=w') ?_ ?_
    ·refine gc_seq ?_
     refine gc_reg ?_
     by_cases c10:(sw i:Int)=0
     ·refine tq 30 (.bool ((sw i:Int) == 0)) (.bool true) (congrArg Value.bool (beq_iff_eq.2 c10)) ?_
      refine t 29 (.bool true) ?_
      refine gl_nil ?_
      refine ge_then ?_
      refine gc_fr [(0,.slice ao n c),(3,pg g0),(4,pg q),(5,.int .i64 (i:Int)),(6,pg g8),(17,.int .i64 (i:Int)),(18,.slice ao n c),(19,.int .i64 ((n:Nat):Int)),(20,.bool true),(23,.slice ao n c),(24,.int .i64 (i:Int)),(25,pq pb (po_ + i * 4)),(26,.agg #[.int .i64 (sw i),.int .i64 (sm i),.int .u64 (sv i),.int .u64 (st i)]),(27,pg g8),(28,.int .i64 (sw i)),(29,.bool true),(30,.bool true)] (by kernel_rfl) ?_
      refine gc_yes ?_
      refine gc_skip ?_
      exact ge_join true rfl (by kernel_rfl)
     ·refine tq 30 (.bool ((sw i:Int) == 0)) (.bool false) (congrArg Value.bool (beq_eq_false_iff_ne.2 c10)) ?_
      refine t 29 (.bool false) ?_
      refine gl_nil ?_
      refine ge_then ?_
      refine gc_fr [(0,.slice ao n c),(3,pg g0),(4,pg q),(5,.int .i64 (i:Int)),(6,pg g8),(17,.int .i64 (i:Int)),(18,.slice ao n c),(19,.int .i64 ((n:Nat):Int)),(20,.bool true),(23,.slice ao n c),(24,.int .i64 (i:Int)),(25,pq pb (po_ + i * 4)),(26,.agg #[.int .i64 (sw i),.int .i64 (sm i),.int .u64 (sv i),.int .u64 (st i)]),(27,pg g8),(28,.int .i64 (sw i)),(29,.bool false),(30,.bool false)] (by kernel_rfl) ?_
      refine gc_no ?_
      refine gc_reg ?_
      by_cases c11:(sw i:Int)=1
      ·refine tq 31 (.bool ((sw i:Int) == 1)) (.bool true) (congrArg Value.bool (beq_iff_eq.2 c11)) ?_
       refine t 29 (.bool true) ?_
       refine gl_nil ?_
       exact ge_join true rfl (by kernel_rfl)
      ·refine tq 31 (.bool ((sw i:Int) == 1)) (.bool false) (congrArg Value.bool (beq_eq_false_iff_ne.2 c11)) ?_
       refine t 29 (.bool false) ?_
       refine gl_nil ?_
       exact ge_join false rfl (by kernel_rfl)
    rintro sb29 _ rfl
    rcases Bool.eq_false_or_eq_true (sb29) with b12 | b12
    ·refine gc_yes (hc:=congrArg Value.bool b12) ?_
     refine gc_seq ?_
     refine gc_reg ?_
     refine t 32 (pg g0) ?_
     refine t 33 (pq g8 2) ?_
     refine tl 34 (.int .u64 (sv i)) Xg8 2 ?_
     refine t 35 (pq g8 3) ?_
     refine tl 36 (.int .u64 (st i)) Xg8 3 ?_
     refine tc 37 11 #[pg g0,.int .u64 (sv i),.int .u64 (st i)] (put_any A.sx rt (by omega) (by omega)) ?_
     rintro _ v14 ⟨rfl,K13,S,hK,hC⟩
     refine ⟨_,rfl,?_⟩
     replace BB:=belowO BB hC (fun b hb=>Nat.le_trans hwB (A.sx.kb b hb))
     have mXg8:=not_op Xg8 nXg8 hK
     replace Xg8:=Xg8.chg hC nXg8
     replace nXg8:=mXg8
     clear mXg8
     have dj2:=dj_sx R dj hK
     replace R:=R.off hC dj (fun b hb cs=>A.sx.sa.noU hb cs)
     replace dj:=dj2
     clear dj2
     replace A:=A.op S hK hC
     clear S hK hC
     refine gl_nil ?_
     refine ge_then ?_
     refine gc_reg ?_
     refine t 38 (pg q) ?_
     refine t 39 (pq g8 2) ?_
     refine tl 40 (.int .u64 (sv i)) Xg8 2 ?_
     refine t 41 (pq g8 3) ?_
     refine tl 42 (.int .u64 (st i)) Xg8 3 ?_
     refine tc 43 12 #[pg q,.int .u64 (sv i),.int .u64 (st i)] (rput R rt (by omega) (by omega)) ?_
     rintro _ v16 ⟨rfl,X15,S,hK,hC⟩
     refine ⟨_,rfl,?_⟩
     replace BB:=belowO BB hC (fun b hb=>Nat.le_trans hwB (R.rs.xz b hb).1)
     have mXg8:=not_op Xg8 uXg8 hK
     replace Xg8:=Xg8.chg hC uXg8
     replace uXg8:=mXg8
     clear mXg8
     have dj2:=dj_rx A.sx dj hK
     have A2:=(Pw.Sx.besideR A.sx R hC dj).at
     clear A
     have A:=A2
     clear A2
     replace dj:=dj2
     clear dj2
     clear R
     have R:=S
     clear S hK hC
     refine gl_nil ?_
     refine ge_bn ?_
     exact ge_join () ⟨BB,Xg8,_,_,_,_,_,_,A.sx,by omega,by omega,R,by omega,dj,po.put10 rt rv,nXg8,uXg8⟩ (by kernel_rfl)
    ·refine gc_no (hc:=congrArg Value.bool b12) ?_
     refine gc_seq ?_
     refine gc_reg ?_
     by_cases c17:(sw i:Int)=2
     ·refine tq 45 (.bool ((sw i:Int) == 2)) (.bool true) (congrArg Value.bool (beq_iff_eq.2 c17)) ?_
      refine t 44 (.bool true) ?_
      refine gl_nil ?_
      refine ge_then ?_
      refine gc_yes ?_
      refine gc_seq ?_
      refine gc_reg ?_
      refine t 46 (pg g0) ?_
      refine t 47 (pq g8 2) ?_
      refine tl 48 (.int .u64 (sv i)) Xg8 2 ?_
      refine t 49 (pq g8 3) ?_
      refine tl 50 (.int .u64 (st i)) Xg8 3 ?_
      refine tc 51 13 #[pg g0,.int .u64 (sv i),.int .u64 (st i)] (drop_any A.sx rt (by omega) (by omega)) ?_
      rintro _ v19 ⟨rfl,K18,S,hK,hC⟩
      refine ⟨_,rfl,?_⟩
      replace BB:=belowO BB hC (fun b hb=>Nat.le_trans hwB (A.sx.kb b hb))
      have mXg8:=not_op Xg8 nXg8 hK
      replace Xg8:=Xg8.chg hC nXg8
      replace nXg8:=mXg8
      clear mXg8
      have dj2:=dj_sx R dj hK
      replace R:=R.off hC dj (fun b hb cs=>A.sx.sa.noU hb cs)
      replace dj:=dj2
      clear dj2
      replace A:=A.op S hK hC
      clear S hK hC
      refine gl_nil ?_
      refine ge_then ?_
      refine gc_reg ?_
      refine t 52 (pg q) ?_
      refine t 53 (pq g8 2) ?_
      refine tl 54 (.int .u64 (sv i)) Xg8 2 ?_
      refine t 55 (pq g8 3) ?_
      refine tl 56 (.int .u64 (st i)) Xg8 3 ?_
      refine tc 57 14 #[pg q,.int .u64 (sv i),.int .u64 (st i)] (rdrop R rt (by omega) (by omega)) ?_
      rintro _ v21 ⟨rfl,X20,S,hK,hC⟩
      refine ⟨_,rfl,?_⟩
      replace BB:=belowO BB hC (fun b hb=>Nat.le_trans hwB (R.rs.xz b hb).1)
      have mXg8:=not_op Xg8 uXg8 hK
      replace Xg8:=Xg8.chg hC uXg8
      replace uXg8:=mXg8
      clear mXg8
      have dj2:=dj_rx A.sx dj hK
      have A2:=(Pw.Sx.besideR A.sx R hC dj).at
      clear A
      have A:=A2
      clear A2
      replace dj:=dj2
      clear dj2
      clear R
      have R:=S
      clear S hK hC
      refine gl_nil ?_
      refine ge_bn ?_
      exact ge_join () ⟨BB,Xg8,_,_,_,_,_,_,A.sx,by omega,by omega,R,by omega,dj,po.rem _,nXg8,uXg8⟩ (by kernel_rfl)
     ·refine tq 45 (.bool ((sw i:Int) == 2)) (.bool false) (congrArg Value.bool (beq_eq_false_iff_ne.2 c17)) ?_
      refine t 44 (.bool false) ?_
      refine gl_nil ?_
      refine ge_then ?_
      refine gc_no ?_
      refine gc_join (fun (s:Bool)=>[(0,.slice ao n c),(3,pg g0),(4,pg q),(5,.int .i64 (i:Int)),(6,pg g8),(28,.int .i64 (sw i)),(58,.bool s)]) (fun _ w'=>v9=w') ?_ ?_
      ·refine gc_seq ?_
       refine gc_reg ?_
       by_cases c22:(sw i:Int)=3
       ·refine tq 59 (.bool ((sw i:Int) == 3)) (.bool true) (congrArg Value.bool (beq_iff_eq.2 c22)) ?_
        refine t 58 (.bool true) ?_
        refine gl_nil ?_
        refine ge_then ?_
        refine gc_yes ?_
        refine gc_skip ?_
        exact ge_join true rfl (by kernel_rfl)
       ·refine tq 59 (.bool ((sw i:Int) == 3)) (.bool false) (congrArg Value.bool (beq_eq_false_iff_ne.2 c22)) ?_
        refine t 58 (.bool false) ?_
        refine gl_nil ?_
        refine ge_then ?_
        refine gc_no ?_
        refine gc_reg ?_
        by_cases c23:(sw i:Int)=4
        ·refine tq 60 (.bool ((sw i:Int) == 4)) (.bool true) (congrArg Value.bool (beq_iff_eq.2 c23)) ?_
         refine t 58 (.bool true) ?_
         refine gl_nil ?_
         exact ge_join true rfl (by kernel_rfl)
        ·refine tq 60 (.bool ((sw i:Int) == 4)) (.bool false) (congrArg Value.bool (beq_eq_false_iff_ne.2 c23)) ?_
         refine t 58 (.bool false) ?_
         refine gl_nil ?_
         exact ge_join false rfl (by kernel_rfl)
      rintro sb58 _ rfl
      rcases Bool.eq_false_or_eq_true (sb58) with b24 | b24
      ·refine gc_yes (hc:=congrArg Value.bool b24) ?_
       refine gc_seq ?_
       refine gc_reg ?_
       refine t 61 (pg g0) ?_
       refine t 62 (pq g8 2) ?_
       refine tl 63 (.int .u64 (sv i)) Xg8 2 ?_
       refine t 64 (pg g8) ?_
       refine tl 65 (.int .i64 (sw i)) Xg8 0 ?_
       by_cases c25:(sw i:Int)=3
       ·refine tq 66 (.bool ((sw i:Int) == 3)) (.bool true) (congrArg Value.bool (beq_iff_eq.2 c25)) ?_
        refine tc 67 15 #[pg g0,.int .u64 (sv i),.bool true] (bond_on A.sx rv (by omega) (by omega)) ?_
        rintro _ v27 ⟨rfl,K26,S,hK,hC⟩
        refine ⟨_,rfl,?_⟩
        replace BB:=belowO BB hC (fun b hb=>Nat.le_trans hwB (A.sx.kb b hb))
        have mXg8:=not_op Xg8 nXg8 hK
        replace Xg8:=Xg8.chg hC nXg8
        replace nXg8:=mXg8
        clear mXg8
        have dj2:=dj_sx R dj hK
        replace R:=R.off hC dj (fun b hb cs=>A.sx.sa.noU hb cs)
        replace dj:=dj2
        clear dj2
        replace A:=A.op S hK hC
        clear S hK hC
        refine gl_nil ?_
        refine ge_then ?_
        refine gc_reg ?_
        refine t 68 (pg q) ?_
        refine t 69 (pq g8 2) ?_
        refine tl 70 (.int .u64 (sv i)) Xg8 2 ?_
        refine t 71 (pg g8) ?_
        refine tl 72 (.int .i64 (sw i)) Xg8 0 ?_
        refine tq 73 (.bool ((sw i:Int) == 3)) (.bool true) (congrArg Value.bool (beq_iff_eq.2 c25)) ?_
        refine tc 74 16 #[pg q,.int .u64 (sv i),.bool true] (rbond_on R rv (by omega) (by omega)) ?_
        rintro _ v29 ⟨rfl,X28,S,hK,hC⟩
        refine ⟨_,rfl,?_⟩
        replace BB:=belowO BB hC (fun b hb=>Nat.le_trans hwB (R.rs.xz b hb).1)
        have mXg8:=not_op Xg8 uXg8 hK
        replace Xg8:=Xg8.chg hC uXg8
        replace uXg8:=mXg8
        clear mXg8
        have dj2:=dj_rx A.sx dj hK
        have A2:=(Pw.Sx.besideR A.sx R hC dj).at
        clear A
        have A:=A2
        clear A2
        replace dj:=dj2
        clear dj2
        clear R
        have R:=S
        clear S hK hC
        refine gl_nil ?_
        refine ge_bn ?_
        exact ge_join () ⟨BB,Xg8,_,_,_,_,_,_,A.sx,by omega,by omega,R,by omega,dj,po.put11 rv,nXg8,uXg8⟩ (by kernel_rfl)
       ·refine tq 66 (.bool ((sw i:Int) == 3)) (.bool false) (congrArg Value.bool (beq_eq_false_iff_ne.2 c25)) ?_
        refine tc 67 15 #[pg g0,.int .u64 (sv i),.bool false] (bond_off A.sx rv (by omega) (by omega)) ?_
        rintro _ v31 ⟨rfl,K30,S,hK,hC⟩
        refine ⟨_,rfl,?_⟩
        replace BB:=belowO BB hC (fun b hb=>Nat.le_trans hwB (A.sx.kb b hb))
        have mXg8:=not_op Xg8 nXg8 hK
        replace Xg8:=Xg8.chg hC nXg8
        replace nXg8:=mXg8
        clear mXg8
        have dj2:=dj_sx R dj hK
        replace R:=R.off hC dj (fun b hb cs=>A.sx.sa.noU hb cs)
        replace dj:=dj2
        clear dj2
        replace A:=A.op S hK hC
        clear S hK hC
        refine gl_nil ?_
        refine ge_then ?_
        refine gc_reg ?_
        refine t 68 (pg q) ?_
        refine t 69 (pq g8 2) ?_
        refine tl 70 (.int .u64 (sv i)) Xg8 2 ?_
        refine t 71 (pg g8) ?_
        refine tl 72 (.int .i64 (sw i)) Xg8 0 ?_
        refine tq 73 (.bool ((sw i:Int) == 3)) (.bool false) (congrArg Value.bool (beq_eq_false_iff_ne.2 c25)) ?_
        refine tc 74 16 #[pg q,.int .u64 (sv i),.bool false] (rbond_off R rv (by omega) (by omega)) ?_
        rintro _ v33 ⟨rfl,X32,S,hK,hC⟩
        refine ⟨_,rfl,?_⟩
        replace BB:=belowO BB hC (fun b hb=>Nat.le_trans hwB (R.rs.xz b hb).1)
        have mXg8:=not_op Xg8 uXg8 hK
        replace Xg8:=Xg8.chg hC uXg8
        replace uXg8:=mXg8
        clear mXg8
        have dj2:=dj_rx A.sx dj hK
        have A2:=(Pw.Sx.besideR A.sx R hC dj).at
        clear A
        have A:=A2
        clear A2
        replace dj:=dj2
        clear dj2
        clear R
        have R:=S
        clear S hK hC
        refine gl_nil ?_
        refine ge_bn ?_
        exact ge_join () ⟨BB,Xg8,_,_,_,_,_,_,A.sx,by omega,by omega,R,by omega,dj,po.rem _,nXg8,uXg8⟩ (by kernel_rfl)
      ·refine gc_no (hc:=congrArg Value.bool b24) ?_
       refine gc_skip ?_
       refine ge_bn ?_
       exact ge_join () ⟨BB,Xg8,_,_,_,_,_,_,A.sx,by omega,by omega,R,by omega,dj,po,nXg8,uXg8⟩ (by kernel_rfl)
   clear BB
   clear A
   clear R
   clear Xg8
   rintro _ v34 ⟨BB,X6,K1,X1,E1,n1,N1,n21,S,q1,q2,R,q3,dj,po1,nX6,uX6⟩
   have A:=S.at
   clear S
   have hsz1:=A.sx.sa.size
   have hwv1:=BB.size
   refine gc_seq ?_
   refine gc_reg ?_
   refine t 75 (pq g8 1) ?_
   refine tl 76 (.int .i64 (sm i)) X6 1 ?_
   refine t 7 (.int .i64 (sm i)) ?_
   refine gl_nil ?_
   refine ge_then ?_
   refine gc_join (fun (s:Int)=>[(0,.slice ao n c),(3,pg g0),(4,pg q),(5,.int .i64 (i:Int)),(7,.int .i64 s)]) (fun s w'=>v34=w'/\s<=1000) ?_ ?_
   ·refine gc_seq ?_
    refine gc_reg ?_
    refine t 77 (.int .i64 (sm i)) ?_
    by_cases c35:(1000:Int) < sm i
    ·refine tq 78 (.bool (decide ((1000:Int) < sm i))) (.bool true) (congrArg Value.bool (decide_eq_true c35)) ?_
     refine gl_nil ?_
     refine ge_then ?_
     refine gc_yes ?_
     refine gc_reg ?_
     refine t 7 (.int .i64 1000) ?_
     refine gl_nil ?_
     exact ge_join 1000 ⟨rfl,by omega⟩ (by kernel_rfl)
    ·refine tq 78 (.bool (decide ((1000:Int) < sm i))) (.bool false) (congrArg Value.bool (decide_eq_false c35)) ?_
     refine gl_nil ?_
     refine ge_then ?_
     refine gc_no ?_
     refine gc_skip ?_
     exact ge_join (sm i) ⟨rfl,by omega⟩ (by kernel_rfl)
   rintro m _ ⟨rfl,hm⟩
   refine gc_seq ?_
   refine gc_reg ?_
   refine t 79 (pg g0) ?_
   refine tc 80 17 #[pg g0] (ops_x A.sx) ?_
   rintro _ v36 ⟨rfl,hw⟩
   refine ⟨_,rfl,?_⟩
   subst hw
   refine t 8 (.int .i64 (n1:Int)) ?_
   refine gl_nil ?_
   refine ge_then ?_
   refine gc_seq ?_
   refine gc_seq ?_
   refine gc_reg ?_
   refine t 81 (pg g0) ?_
   refine t 82 (.int .i64 m) ?_
   have lq:=R.lt R.rs.xq
   have lg:=A.sx.sa.lt A.sx.sa.top
   refine tc 83 19 #[pg g0,.int .i64 m] (top_y A.sx hm po1 (by omega) (by omega)) ?_
   rintro _ v37 ⟨tv,n5,rfl,UT,S,qn5a,qn5b,C⟩
   refine ⟨_,rfl,?_⟩
   have hC:=C.mono (fun b _ (e:b=g0)=>e▸A.sx.sa.top)
   replace BB:=belowO BB hC (fun b hb=>Nat.le_trans hwB (A.sx.kb b hb))
   have mX6:=not_op X6 nX6 (fun _ h=>.inl h)
   replace X6:=X6.chg hC nX6
   replace nX6:=mX6
   clear mX6
   replace R:=R.off hC dj (fun b hb cs=>A.sx.sa.noU hb cs)
   replace A:=A.op S (fun _ h=>.inl h) hC
   clear S hC C
   refine t 84 (pg q) ?_
   refine t 85 (.int .i64 m) ?_
   have lq:=R.lt R.rs.xq
   have lg:=A.sx.sa.lt A.sx.sa.top
   refine tc 86 20 #[pg q,.int .i64 m] (rtop R po1.k10 (by omega) (by omega)) ?_
   rintro _ v38 ⟨rv_,rfl,UR,Xn6,n6,S,qn6,hK,C⟩
   refine ⟨_,rfl,?_⟩
   have hC:=C.mono (fun b _ (e:b=q)=>e▸R.rs.xq)
   replace UT:=UT.chg C (fun b e=>by have e2:b=q:=e; omega)
   replace BB:=belowO BB hC (fun b hb=>Nat.le_trans hwB (R.rs.xz b hb).1)
   have mX6:=not_op X6 uX6 hK
   replace X6:=X6.chg hC uX6
   replace uX6:=mX6
   clear mX6
   have dj2:=dj_rx A.sx dj hK
   have A2:=(Pw.Sx.besideR A.sx R hC dj).at
   clear A
   have A:=A2
   clear A2
   replace dj:=dj2
   clear dj2
   clear R
   have R:=S
   clear S hK hC
   clear C
   refine tc 87 18 #[tv,rv_] (numbers_ua UT UR (Nat.le_trans (len1 A.sx) (by omega))) ?_
   rintro _ v39 ⟨rfl,B⟩
   refine ⟨_,rfl,?_⟩
   replace BB:=joinB BB B
   replace A:=A.keep B
   replace R:=R.keep B
   replace X6:=X6.keep B
   replace UT:=UT.keep B
   replace UR:=UR.keep B
   clear B
   clear UT
   clear UR
   refine t 88 (.bool false) ?_
   refine t 89 (.bool false) ?_
   refine t 90 (pg g0) ?_
   refine tc 91 17 #[pg g0] (ops_x A.sx) ?_
   rintro _ v40 ⟨rfl,hw⟩
   refine ⟨_,rfl,?_⟩
   subst hw
   refine t 92 (.int .i64 (n1:Int)) ?_
   refine tq 93 (.int .i64 (IntKind.i64.wrap ((n5:Int) - (n1:Int)))) (.int .i64 ((n5:Int) - (n1:Int))) (wi (by first | omega | (split<;>omega))) ?_
   refine t 94 (.int .i64 m) ?_
   refine tr 95 (.int .i64 (if m < 0 then 0 else m)) (run_max0) ?_
   refine tq 96 (.int .i64 (IntKind.i64.wrap ((if m < 0 then 0 else m) + 2))) (.int .i64 ((if m < 0 then 0 else m) + 2)) (wi (by first | omega | (split<;>omega))) ?_
   have t41:¬ (((if m < 0 then 0 else m) + 2:Int) < (n5:Int) - (n1:Int)):=by split<;>omega
   refine tq 97 (.bool (decide (((if m < 0 then 0 else m) + 2:Int) < (n5:Int) - (n1:Int)))) (.bool false) (congrArg Value.bool (decide_eq_false t41)) ?_
   refine t 98 (.bool false) ?_
   refine gl_nil ?_
   refine ge_then ?_
   refine gc_fr [(0,.slice ao n c),(3,pg g0),(4,pg q),(5,.int .i64 (i:Int)),(7,.int .i64 m),(8,.int .i64 (n1:Int)),(79,pg g0),(80,.int .i64 (n1:Int)),(81,pg g0),(82,.int .i64 m),(83,tv),(84,pg q),(85,.int .i64 m),(86,rv_),(87,.bool true),(88,.bool false),(89,.bool false),(90,pg g0),(91,.int .i64 (n5:Int)),(92,.int .i64 (n1:Int)),(93,.int .i64 ((n5:Int) - (n1:Int))),(94,.int .i64 m),(95,.int .i64 (if m < 0 then 0 else m)),(96,.int .i64 ((if m < 0 then 0 else m) + 2)),(97,.bool false),(98,.bool false)] (by kernel_rfl) ?_
   refine gc_no ?_
   refine gc_skip ?_
   refine ge_then ?_
   refine gc_seq ?_
   replace BB:=BB.drew
   replace A:=A.drew
   replace R:=R.keep (Below.refl _ _).drew
   replace X6:=X6.drew
   refine gc_draw (fun _=>True) (fun _=>false) trivial ?_
   refine z 0 99 (pg g0) ?_
   refine z 2 101 (pg q) ?_
   have lq:=R.lt R.rs.xq
   have lg:=A.sx.sa.lt A.sx.sa.top
   refine zc 1 100 21 #[pg g0] (bonded_y A.sx po1 (by omega) (by omega)) ?_
   rintro _ v42 ⟨bv,n7,rfl,UB,S,qn7a,qn7b,C⟩
   have hC:=C.mono (fun b _ (e:b=g0)=>e▸A.sx.sa.top)
   replace BB:=belowO BB hC (fun b hb=>Nat.le_trans hwB (A.sx.kb b hb))
   have mX6:=not_op X6 nX6 (fun _ h=>.inl h)
   replace X6:=X6.chg hC nX6
   replace nX6:=mX6
   clear mX6
   replace R:=R.off hC dj (fun b hb cs=>A.sx.sa.noU hb cs)
   replace A:=A.op S (fun _ h=>.inl h) hC
   clear S hC C
   refine ⟨_,rfl,trivial,?_⟩
   have lq:=R.lt R.rs.xq
   have lg:=A.sx.sa.lt A.sx.sa.top
   refine zc 3 102 22 #[pg q] (rbonded R po1.k11 (by omega) (by omega)) ?_
   rintro _ v43 ⟨qv,rfl,UQ,Xn8,n8,S,qn8,hK,C⟩
   have hC:=C.mono (fun b _ (e:b=q)=>e▸R.rs.xq)
   replace UB:=UB.chg C (fun b e=>by have e2:b=q:=e; omega)
   replace BB:=belowO BB hC (fun b hb=>Nat.le_trans hwB (R.rs.xz b hb).1)
   have mX6:=not_op X6 uX6 hK
   replace X6:=X6.chg hC uX6
   replace uX6:=mX6
   clear mX6
   have dj2:=dj_rx A.sx dj hK
   have A2:=(Pw.Sx.besideR A.sx R hC dj).at
   clear A
   have A:=A2
   clear A2
   replace dj:=dj2
   clear dj2
   clear R
   have R:=S
   clear S hK hC
   clear C
   refine ⟨_,rfl,trivial,?_⟩
   refine zc 4 103 18 #[bv,qv] (numbers_ua UB UQ (Nat.le_trans (len2 A.sx) (by omega))) ?_
   rintro _ v44 ⟨rfl,B⟩
   replace BB:=joinB BB B
   replace A:=A.keep B
   replace R:=R.keep B
   replace X6:=X6.keep B
   replace UB:=UB.keep B
   replace UQ:=UQ.keep B
   clear B
   clear UB
   clear UQ
   refine ⟨_,rfl,trivial,?_⟩
   refine z 5 104 (.bool false) ?_
   refine z 6 105 (.bool false) ?_
   refine z 7 106 (pg g0) ?_
   refine z 9 108 (pg q) ?_
   refine z 10 109 (pg q) ?_
   refine z 11 110 (pg q) ?_
   refine gz_ready [8,12] ?_
   refine ga_call 8 (some 107) 24 #[pg g0] (dumpP A.sx (by omega)) ?_ ?_
   ·rintro _ v45 ⟨dv,es,rfl,PD,eD,ZD,B⟩
    replace BB:=joinB BB B
    replace A:=A.keep B
    replace R:=R.keep B
    replace X6:=X6.keep B
    clear B
    refine ⟨_,rfl,trivial,?_⟩
    obtain ⟨lv,wv,hbq,hl,hw⟩:=R.rs.ex
    obtain ⟨el,PL,eL⟩:=hl.ex
    clear hl hw
    refine zw 12 111 (lv) _ (run_ld1 (off:=0) hbq rfl ⟨_,_,rfl,by kernel_rfl,fun _=>by kernel_rfl⟩) trivial ?_
    refine zc 13 112 23 #[dv,lv] (pairsP A.sx (by omega) (ZD.prs PD) (PL.a (Nat.zero_le _) (fun _ _ _=>Nat.zero_le _)) eD eL) ?_
    rintro _ v46 ⟨rfl,B⟩
    replace BB:=joinB BB B
    replace A:=A.keep B
    replace R:=R.keep B
    replace X6:=X6.keep B
    replace ZD:=ZD.keep B
    replace PL:=PL.keep B
    clear B
    clear ZD
    clear PL
    refine ⟨_,rfl,trivial,?_⟩
    refine z 14 113 (.bool false) ?_
    refine z 15 114 (.bool false) ?_
    refine gz_done ?_
    refine ge_then ?_
    refine gc_fr [(0,.slice ao n c),(3,pg g0),(4,pg q),(5,.int .i64 (i:Int)),(7,.int .i64 m),(8,.int .i64 (n1:Int)),(79,pg g0),(80,.int .i64 (n1:Int)),(81,pg g0),(82,.int .i64 m),(83,tv),(84,pg q),(85,.int .i64 m),(86,rv_),(87,.bool true),(88,.bool false),(89,.bool false),(90,pg g0),(91,.int .i64 (n5:Int)),(92,.int .i64 (n1:Int)),(93,.int .i64 ((n5:Int) - (n1:Int))),(94,.int .i64 m),(95,.int .i64 (if m < 0 then 0 else m)),(96,.int .i64 ((if m < 0 then 0 else m) + 2)),(97,.bool false),(98,.bool false),(99,pg g0),(100,bv),(101,pg q),(102,qv),(103,.bool true),(104,.bool false),(105,.bool false),(106,pg g0),(107,dv),(108,pg q),(109,pg q),(110,pg q),(111,lv),(112,.bool true),(113,.bool false),(114,.bool false)] (by kernel_rfl) ?_
    refine gc_no ?_
    refine gc_skip ?_
    refine ge_bn ?_
    refine ge_then ?_
    refine gc_reg ?_
    refine t 21 (.int .i64 (i:Int)) ?_
    refine tq 22 (.int .i64 (IntKind.i64.wrap ((i:Int) + 1))) (.int .i64 ((i:Int) + 1)) (wi (by first | omega | (split<;>omega))) ?_
    refine t 5 (.int .i64 ((i:Int) + 1)) ?_
    refine gl_nil ?_
    exact ge_round (i + 1) (by show n - (i + 1) < n - i; omega) ⟨hk_i,BB,_,_,_,_,_,_,A.sx,by omega,by omega,R,by omega,dj,po1⟩ (by kernel_rfl)
   obtain ⟨lv,wv,hbq,hl,hw⟩:=R.rs.ex
   obtain ⟨el,PL,eL⟩:=hl.ex
   clear hl hw
   refine ga_val 12 (some 111) (lv) _ (run_ld1 (off:=0) hbq rfl ⟨_,_,rfl,by kernel_rfl,fun _=>by kernel_rfl⟩) trivial ?_ ?_
   ·skip
    refine zc 8 107 24 #[pg g0] (dumpP A.sx (by omega)) ?_
    rintro _ v47 ⟨dv,es,rfl,PD,eD,ZD,B⟩
    replace BB:=joinB BB B
    replace A:=A.keep B
    replace R:=R.keep B
    replace X6:=X6.keep B
    replace PL:=PL.keep B
    clear B
    refine ⟨_,rfl,trivial,?_⟩
    refine zc 13 112 23 #[dv,lv] (pairsP A.sx (by omega) (ZD.prs PD) (PL.a (Nat.zero_le _) (fun _ _ _=>Nat.zero_le _)) eD eL) ?_
    rintro _ v48 ⟨rfl,B⟩
    replace BB:=joinB BB B
    replace A:=A.keep B
    replace R:=R.keep B
    replace X6:=X6.keep B
    replace PL:=PL.keep B
    replace ZD:=ZD.keep B
    clear B
    clear ZD
    clear PL
    refine ⟨_,rfl,trivial,?_⟩
    refine z 14 113 (.bool false) ?_
    refine z 15 114 (.bool false) ?_
    refine gz_done ?_
    refine ge_then ?_
    refine gc_fr [(0,.slice ao n c),(3,pg g0),(4,pg q),(5,.int .i64 (i:Int)),(7,.int .i64 m),(8,.int .i64 (n1:Int)),(79,pg g0),(80,.int .i64 (n1:Int)),(81,pg g0),(82,.int .i64 m),(83,tv),(84,pg q),(85,.int .i64 m),(86,rv_),(87,.bool true),(88,.bool false),(89,.bool false),(90,pg g0),(91,.int .i64 (n5:Int)),(92,.int .i64 (n1:Int)),(93,.int .i64 ((n5:Int) - (n1:Int))),(94,.int .i64 m),(95,.int .i64 (if m < 0 then 0 else m)),(96,.int .i64 ((if m < 0 then 0 else m) + 2)),(97,.bool false),(98,.bool false),(99,pg g0),(100,bv),(101,pg q),(102,qv),(103,.bool true),(104,.bool false),(105,.bool false),(106,pg g0),(107,dv),(108,pg q),(109,pg q),(110,pg q),(111,lv),(112,.bool true),(113,.bool false),(114,.bool false)] (by kernel_rfl) ?_
    refine gc_no ?_
    refine gc_skip ?_
    refine ge_bn ?_
    refine ge_then ?_
    refine gc_reg ?_
    refine t 21 (.int .i64 (i:Int)) ?_
    refine tq 22 (.int .i64 (IntKind.i64.wrap ((i:Int) + 1))) (.int .i64 ((i:Int) + 1)) (wi (by first | omega | (split<;>omega))) ?_
    refine t 5 (.int .i64 ((i:Int) + 1)) ?_
    refine gl_nil ?_
    exact ge_round (i + 1) (by show n - (i + 1) < n - i; omega) ⟨hk_i,BB,_,_,_,_,_,_,A.sx,by omega,by omega,R,by omega,dj,po1⟩ (by kernel_rfl)
   exact ga_nil
  ·refine tq 20 (.bool (decide ((i:Int) < ((n:Nat):Int)))) (.bool false) (congrArg Value.bool (decide_eq_false ci)) ?_
   refine gl_nil ?_
   refine ge_then ?_
   refine gc_no ?_
   refine gc_exit ?_
   refine ge_tx ?_
   refine ge_tx ?_
   refine ge_bx ?_
   refine ge_then ?_
   refine gc_seq ?_
   refine gc_reg ?_
   refine t 2 (.bool true) ?_
   refine gl_nil ?_
   refine ge_then ?_
   refine gc_ret ?_
   refine ge_ret (.bool true) (rs1 2 (by kernel_rfl) (by kernel_rfl)) ?_
   exact ⟨rfl,BB⟩
end Pw
end Go.Proofs.YtflenlpabmehoaaGreat
