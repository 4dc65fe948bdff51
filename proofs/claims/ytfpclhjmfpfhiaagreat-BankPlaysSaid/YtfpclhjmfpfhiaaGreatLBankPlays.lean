/- gleanlaw9.BankPlays. -/
import Derived.Test.YtfpclhjmfpfhiaaGreatJam
namespace Go.Proofs.YtfpclhjmfpfhiaaGreat
namespace Bk
open Go.RowKit Go.Lib Pg Lim Gl Kv
set_option maxRecDepth 100000
set_option maxHeartbeats 4000000
set_option linter.unusedVariables false
section
variable {B:Nat} {w w':World} {K K' X X':Nat->Prop} {g q:Nat} {E E2:Ents} {W:List Ents} {n N n2:Nat}
theorem Rx.new {x:Nat} (h:Rx B w X q E n) (hx:w.heap.size<=x):¬ X x:=fun hk=>by have:=h.lt hk; omega
theorem Rx.cell {x:Nat} {cs:List Value} {t:TypeId} (h:Rx B w X q E n) (Y:Blk w x cs t) (C:Chg (· = x) w w') (hk:¬ X x) (ht:t≠5):Rx B w' X q E n :=
 h.off C (fun b e hb=>hk ((show b=x from e)▸hb)) (fun b e cs' k=>by have e':b=x:=e; subst e'; exact ht (Y.eq k).2)
theorem dj_sx (r:Rx B w X q E2 n2) (dj:∀ b,K b->¬ X b) (hK:∀ b,K' b->K b\/w.heap.size<=b):∀ b,K' b->¬ X b:=fun b hb hx=>(hK b hb).elim (fun h=>dj b h hx) (fun h=>by have:=r.lt hx; omega)
theorem dj_rx (s:Sx B w K g E W n N) (dj:∀ b,K b->¬ X b) (hX:∀ b,X' b->X b\/w.heap.size<=b):∀ b,K b->¬ X' b:=fun b hb hx=>(hX b hx).elim (dj b hb) (fun h=>by have:=s.sa.lt hb; omega)
theorem Sx.besideR (s:Sx B w K g E W n N) (r:Rx B w X q E2 n2) (hC:Chg X w w') (dj:∀ b,K b->¬ X b):Sx B w' K g E W n N :=
 ⟨s.sa.chg hC (fun b hx hk=>dj b hk hx) (fun b hx cs k=>by obtain ⟨_,_,k',ht⟩:=r.kind b hx; exact ht (k'.eq k).2),Nat.le_trans s.lo hC.size,s.kb⟩
theorem rx_new (Y:Blk w q [.slice none 0 0,.slice none 0 0,.int .i64 0] 30) (hB:B<=w.heap.size/\B<=q):Rx B w (· = q) q [] 0 :=
 ⟨⟨⟨_,_,Y,⟨⟨[],Pq.nil _ _ _,rfl⟩,fun b m c e=>by cases e⟩,⟨.inl ⟨rfl,rfl⟩⟩⟩,rfl,fun b e=>by have e':b=q:=e; subst e'; exact ⟨hB.2,Y.lt⟩,List.Pairwise.nil,fun x h=>by simp at h⟩,fun b e=>by have e':b=q:=e; subst e'; exact ⟨_,_,Y,by decide⟩,hB.1⟩
theorem natT2 {n1:Nat} {a a':Option Addr} {k d k' d':Nat} {x:Int} (h:Rc.NatW w n1 a k d x) (h':NatO w a' k' d' x) (hn:k<=4398046511104) (hn':k'<=4398046511104) :
  Calls Tryz.prog 18 #[.slice a k d,.slice a' k' d'] w fun e w'=>e=.returned (.bool true)/\Below w.heap.size w w':=by
 have:=nSame h.o h' hn hn'
 rw [decide_eq_true rfl] at this
 exact this
theorem snewB {w:World} (Bz:Nat) (hb:Bz=w.heap.size):Calls Tryz.prog 7 #[] w fun e w'=>∃ g K,e=.returned (pg g)/\Sx Bz w' K g [] [] 0 0/\(∀ b,K b->Bz<=b)/\Below w.heap.size w w':=by
 subst hb
 exact snewX
end
theorem bankPlays_walk {w:World} {ao:Option Addr} {n c pb po:Nat} {sw sa sb sn:Nat->Int} (SS:StpA w ao n pb po sw sa sb sn):Calls Tryz.prog 3 #[.slice ao n c] w fun e w'=>e=.returned (.bool true)/\Below w.heap.size w w':=by
 have BB:=Below.refl w.heap.size w
 have hfew:=SS.few
 refine gc_enter (n:=105) Tryz.func3 rfl (by kernel_rfl) (by kernel_rfl) ?_
 refine gc_seq ?_
 refine gc_reg ?_
 refine t 2 (.bool false) ?_
 refine gl_nil ?_
 refine ge_then ?_
 refine gc_seq ?_
 refine gc_seq ?_
 refine gc_reg ?_
 refine tc 8 6 #[] (known9) ?_
 rintro _ v1 ⟨rfl,B⟩
 refine ⟨_,rfl,?_⟩
 replace BB:=joinB BB B
 clear B
 refine t 9 (.bool false) ?_
 refine gl_nil ?_
 refine ge_then ?_
 refine gc_no ?_
 refine gc_skip ?_
 refine ge_then ?_
 refine gc_seq ?_
 refine gc_seq ?_
 refine gc_reg ?_
 refine t 10 (.slice ao n c) ?_
 refine t 11 (.int .i64 ((n:Nat):Int)) ?_
 by_cases c2:(300:Int) < ((n:Nat):Int)
 ·refine tq 12 (.bool (decide ((300:Int) < ((n:Nat):Int)))) (.bool true) (congrArg Value.bool (decide_eq_true c2)) ?_
  refine gl_nil ?_
  refine ge_then ?_
  refine gc_yes ?_
  refine gc_seq ?_
  refine gc_reg ?_
  refine t 2 (.bool true) ?_
  refine gl_nil ?_
  refine ge_then ?_
  refine gc_ret ?_
  refine ge_tr ?_
  refine ge_ret (.bool true) (rs1 2 (by kernel_rfl) (by kernel_rfl)) ?_
  exact ⟨rfl,BB⟩
 ·refine tq 12 (.bool (decide ((300:Int) < ((n:Nat):Int)))) (.bool false) (congrArg Value.bool (decide_eq_false c2)) ?_
  refine gl_nil ?_
  refine ge_then ?_
  refine gc_no ?_
  refine gc_skip ?_
  refine ge_then ?_
  refine gc_seq ?_
  refine gc_reg ?_
  have hwB:=BB.size
  obtain ⟨Bz,hBz⟩:∃ Bz,Bz=(v1).heap.size:=⟨_,rfl⟩
  rw [<- hBz] at hwB
  refine tc 13 7 #[] (snewB Bz hBz) ?_
  rintro _ v3 ⟨g0,K0,rfl,S0,hK0,B0⟩
  refine ⟨_,rfl,?_⟩
  replace BB:=joinB BB B0
  have A:=S0.at
  clear S0
  refine t 14 (.agg #[.slice none 0 0,.slice none 0 0,.int .i64 0]) ?_
  refine ta 15 [.slice none 0 0,.slice none 0 0,.int .i64 0] 30 (pg) ?_
  intro v4 g5 Xg5 hg5 B
  have zg5:=Nat.le_trans A.size hg5
  have nXg5:=A.new hg5
  replace BB:=joinB BB B
  replace A:=A.keep B
  clear B
  refine t 3 (pg g0) ?_
  refine t 4 (pg g5) ?_
  refine gl_nil ?_
  refine ge_then ?_
  refine gc_fr [(0,.slice ao n c),(2,.bool false),(3,pg g0),(4,pg g5)] (by kernel_rfl) ?_
  refine gc_seq ?_
  refine gc_seq ?_
  refine gc_reg ?_
  refine t 5 (.int .i64 0) ?_
  refine gl_nil ?_
  refine ge_then ?_
  refine gc_block ?_
  obtain ⟨q,hq⟩:∃ q,q=g5:=⟨_,rfl⟩
  have R0:=rx_new (B:=Bz) (hq▸Xg5) (by have:=A.sx.lo; have:=B0.size; omega)
  have dj0:∀ b,K0 b->¬ (b=q):=fun b hb e=>nXg5 (by rw [<- hq,<- e]; exact hb)
  rw [<- hq]
  refine gc_loop (fun s=>n - s) (fun (s:Nat)=>[(0,.slice ao n c),(3,pg g0),(4,pg q),(5,.int .i64 (s:Int))]) (fun s w'=>s<=n/\Below w.heap.size w w'/\∃ K X E nn NN n2,Sx Bz w' K g0 E [] nn NN/\nn<=s * 10000/\NN<=s * 10/\Rx Bz w' X q E n2/\n2<=s * 10000/\(∀ b,K b->¬ X b)/\Can E) (0:Nat) ⟨Nat.zero_le _,BB,_,_,[],0,0,0,A.sx,Nat.zero_le _,Nat.zero_le _,R0,Nat.zero_le _,dj0,can_nil⟩ (by kernel_rfl) ?_
  clear BB
  clear A
  clear Xg5
  clear R0 dj0
  rintro i v6 ⟨hi,BB,K,X,E,nn,NN,n2,S,hnn,hNN,R,hn2,dj,cE⟩
  have A:=S.at
  clear S
  have hsz:=A.sx.sa.size
  have hwv:=BB.size
  refine gc_seq ?_
  refine gc_seq ?_
  refine gc_reg ?_
  refine t 16 (.int .i64 (i:Int)) ?_
  refine t 17 (.slice ao n c) ?_
  refine t 18 (.int .i64 ((n:Nat):Int)) ?_
  by_cases ci:(i:Int) < ((n:Nat):Int)
  ·have hk_i:i < n:=by omega
   obtain ⟨ra,rb,rn⟩:=SS.rng i hk_i
   refine tq 19 (.bool (decide ((i:Int) < ((n:Nat):Int)))) (.bool true) (congrArg Value.bool (decide_eq_true ci)) ?_
   refine gl_nil ?_
   refine ge_then ?_
   refine gc_yes ?_
   refine gc_skip ?_
   refine ge_then ?_
   refine gc_seq ?_
   refine gc_block ?_
   refine gc_seq ?_
   refine gc_reg ?_
   refine t 22 (.slice ao n c) ?_
   refine t 23 (.int .i64 (i:Int)) ?_
   refine tr 24 (pq pb (po + i * 4)) (run_ixa 4 pb po n c i hk_i SS.ptr) ?_
   refine tr 25 (.agg #[.int .i64 (sw i),.int .u64 (sa i),.int .u64 (sb i),.int .u64 (sn i)]) (run_lds SS hk_i BB) ?_
   refine ta 6 [.int .i64 0,.int .u64 0,.int .u64 0,.int .u64 0] 33 (pg) ?_
   intro v7 g8 Xg8 hg8 B
   have uXg8:=R.new hg8
   have zg8:=Nat.le_trans A.size hg8
   have nXg8:=A.new hg8
   replace BB:=joinB BB B
   replace A:=A.keep B
   replace R:=R.keep B
   clear B
   refine ts Xg8 0 (.agg #[.int .i64 (sw i),.int .u64 (sa i),.int .u64 (sb i),.int .u64 (sn i)]) [.int .i64 (sw i),.int .u64 (sa i),.int .u64 (sb i),.int .u64 (sn i)] [.int .i64 (sw i),.int .u64 (sa i),.int .u64 (sb i),.int .u64 (sn i)] ?_
   intro v9 Y C
   replace BB:=belowC BB C (by omega)
   replace A:=At.cell A Xg8 C zg8 nXg8 (by decide)
   replace R:=R.cell Xg8 C uXg8 (by decide)
   clear C Xg8
   have Xg8:=Y
   clear Y
   refine gl_nil ?_
   refine ge_then ?_
   refine gc_seq ?_
   refine gc_reg ?_
   refine t 7 (.bool true) ?_
   refine gl_nil ?_
   refine ge_then ?_
   refine gc_join (fun (_:Unit)=>[(0,.slice ao n c),(3,pg g0),(4,pg q),(5,.int .i64 (i:Int)),(6,pg g8),(7,.bool true)]) (fun _ w'=>Below w.heap.size w w'/\Blk w' g8 [.int .i64 (sw i),.int .u64 (sa i),.int .u64 (sb i),.int .u64 (sn i)] 33/\∃ K' X' E' n' N' n2',Sx Bz w' K' g0 E' [] n' N'/\n'<=nn + 20/\N'<=NN + 10/\Rx Bz w' X' q E' n2'/\n2'<=n2 + 20/\(∀ b,K' b->¬ X' b)/\Can E'/\¬ K' g8/\¬ X' g8) ?_ ?_
   ·refine gc_seq ?_
    refine gc_reg ?_
    refine t 26 (pg g8) ?_
    refine tl 27 (.int .i64 (sw i)) Xg8 0 ?_
    refine gl_nil ?_
    refine ge_then ?_
    refine gc_fr [(0,.slice ao n c),(3,pg g0),(4,pg q),(5,.int .i64 (i:Int)),(6,pg g8),(7,.bool true),(16,.int .i64 (i:Int)),(17,.slice ao n c),(18,.int .i64 ((n:Nat):Int)),(19,.bool true),(22,.slice ao n c),(23,.int .i64 (i:Int)),(24,pq pb (po + i * 4)),(25,.agg #[.int .i64 (sw i),.int .u64 (sa i),.int .u64 (sb i),.int .u64 (sn i)]),(26,pg g8),(27,.int .i64 (sw i))] (by kernel_rfl) ?_
    refine gc_block ?_
    refine gc_seq ?_
    refine gc_reg ?_
    by_cases c10:(sw i:Int)=0
    ·refine tq 29 (.bool ((sw i:Int) == 0)) (.bool true) (congrArg Value.bool (beq_iff_eq.2 c10)) ?_
     refine t 28 (.bool true) ?_
     refine gl_nil ?_
     refine ge_then ?_
     refine gc_yes ?_
     replace BB:=BB.drew
     replace A:=A.drew
     replace R:=R.keep (Below.refl _ _).drew
     replace Xg8:=Xg8.drew
     refine gc_draw (fun w'=>Blk w' g8 [.int .i64 (sw i),.int .u64 (sa i),.int .u64 (sb i),.int .u64 (sn i)] 33) (fun _=>false) Xg8 ?_
     refine z 0 30 (pg g0) ?_
     refine z 1 31 (pq g8 1) ?_
     refine zl 2 32 (.int .u64 (sa i)) (fun _ h=>h) 1 ?_
     refine z 3 33 (pq g8 3) ?_
     refine zl 4 34 (.int .u64 (sn i)) (fun _ h=>h) 3 ?_
     refine z 6 36 (pg q) ?_
     refine z 7 37 (pq g8 1) ?_
     refine zl 8 38 (.int .u64 (sa i)) (fun _ h=>h) 1 ?_
     refine z 9 39 (pq g8 3) ?_
     refine zl 10 40 (.int .u64 (sn i)) (fun _ h=>h) 3 ?_
     refine zc 5 35 8 #[pg g0,.int .u64 (sa i),.int .u64 (sn i)] (mint_any A.sx ra rn (by omega) (by omega)) ?_
     rintro _ v14 ⟨rfl,K11,n12,N13,S,qn12,qN13,hK,hC⟩
     replace BB:=belowO BB hC (fun b hb=>Nat.le_trans hwB (A.sx.kb b hb))
     have mXg8:=not_op Xg8 nXg8 hK
     replace Xg8:=Xg8.chg hC nXg8
     replace nXg8:=mXg8
     clear mXg8
     have dj2:=dj_sx R dj hK
     replace R:=R.off hC dj (fun b hb cs=>A.sx.sa.noU hb cs)
     replace dj:=dj2
     clear dj2
     replace A:=A.op S hK hC
     clear S hK hC
     refine ⟨_,rfl,Xg8,?_⟩
     refine zc 11 41 9 #[pg q,.int .u64 (sa i),.int .u64 (sn i)] (mint9 R cE ra rn (by omega) (by omega)) ?_
     rintro _ v17 ⟨rfl,X15,n16,S,qn16,hK,hC⟩
     replace BB:=belowO BB hC (fun b hb=>Nat.le_trans hwB (R.rs.xz b hb).1)
     have mXg8:=not_op Xg8 uXg8 hK
     replace Xg8:=Xg8.chg hC uXg8
     replace uXg8:=mXg8
     clear mXg8
     have dj2:=dj_rx A.sx dj hK
     have A2:=(A.sx.besideR R hC dj).at
     clear A
     have A:=A2
     clear A2
     replace dj:=dj2
     clear dj2
     clear R
     have R:=S
     clear S hK hC
     refine ⟨_,rfl,Xg8,?_⟩
     refine zq 12 42 (.bool ((mintR E (sa i) (sn i):Int) == mintR E (sa i) (sn i))) (.bool true) (congrArg Value.bool (beq_self_eq_true _)) ?_
     refine z 13 7 (.bool true) ?_
     refine gz_done ?_
     refine ge_bn ?_
     have okN:=A.sx.ok (mint_all cE.ok.all)
     exact ge_join () ⟨BB,Xg8,_,_,_,_,_,_,A.sx,by omega,by omega,R,by omega,dj,can_mint cE okN ra rn,nXg8,uXg8⟩ (by kernel_rfl)
    ·refine tq 29 (.bool ((sw i:Int) == 0)) (.bool false) (congrArg Value.bool (beq_eq_false_iff_ne.2 c10)) ?_
     refine t 28 (.bool false) ?_
     refine gl_nil ?_
     refine ge_then ?_
     refine gc_no ?_
     refine gc_join (fun (s:Bool)=>[(0,.slice ao n c),(3,pg g0),(4,pg q),(5,.int .i64 (i:Int)),(6,pg g8),(7,.bool true),(27,.int .i64 (sw i)),(43,.bool s)]) (fun _ w'=>w'=v9) ?_ ?_
     ·refine gc_seq ?_
      refine gc_reg ?_
      by_cases c18:(sw i:Int)=1
      ·refine tq 44 (.bool ((sw i:Int) == 1)) (.bool true) (congrArg Value.bool (beq_iff_eq.2 c18)) ?_
       refine t 43 (.bool true) ?_
       refine gl_nil ?_
       refine ge_then ?_
       refine gc_yes ?_
       refine gc_skip ?_
       exact ge_join true rfl (by kernel_rfl)
      ·refine tq 44 (.bool ((sw i:Int) == 1)) (.bool false) (congrArg Value.bool (beq_eq_false_iff_ne.2 c18)) ?_
       refine t 43 (.bool false) ?_
       refine gl_nil ?_
       refine ge_then ?_
       refine gc_no ?_
       refine gc_reg ?_
       by_cases c19:(sw i:Int)=2
       ·refine tq 45 (.bool ((sw i:Int) == 2)) (.bool true) (congrArg Value.bool (beq_iff_eq.2 c19)) ?_
        refine t 43 (.bool true) ?_
        refine gl_nil ?_
        exact ge_join true rfl (by kernel_rfl)
       ·refine tq 45 (.bool ((sw i:Int) == 2)) (.bool false) (congrArg Value.bool (beq_eq_false_iff_ne.2 c19)) ?_
        refine t 43 (.bool false) ?_
        refine gl_nil ?_
        exact ge_join false rfl (by kernel_rfl)
     rintro sb_ _ rfl
     rcases Bool.eq_false_or_eq_true (sb_) with b20 | b20
     ·refine gc_yes (hc:=congrArg Value.bool b20) ?_
      replace BB:=BB.drew
      replace A:=A.drew
      replace R:=R.keep (Below.refl _ _).drew
      replace Xg8:=Xg8.drew
      refine gc_draw (fun w'=>Blk w' g8 [.int .i64 (sw i),.int .u64 (sa i),.int .u64 (sb i),.int .u64 (sn i)] 33) (fun _=>false) Xg8 ?_
      refine z 0 46 (pg g0) ?_
      refine z 1 47 (pq g8 1) ?_
      refine zl 2 48 (.int .u64 (sa i)) (fun _ h=>h) 1 ?_
      refine z 3 49 (pq g8 2) ?_
      refine zl 4 50 (.int .u64 (sb i)) (fun _ h=>h) 2 ?_
      refine z 5 51 (pq g8 3) ?_
      refine zl 6 52 (.int .u64 (sn i)) (fun _ h=>h) 3 ?_
      refine z 8 54 (pg q) ?_
      refine z 9 55 (pq g8 1) ?_
      refine zl 10 56 (.int .u64 (sa i)) (fun _ h=>h) 1 ?_
      refine z 11 57 (pq g8 2) ?_
      refine zl 12 58 (.int .u64 (sb i)) (fun _ h=>h) 2 ?_
      refine z 13 59 (pq g8 3) ?_
      refine zl 14 60 (.int .u64 (sn i)) (fun _ h=>h) 3 ?_
      refine zc 7 53 10 #[pg g0,.int .u64 (sa i),.int .u64 (sb i),.int .u64 (sn i)] (move_any A.sx ra rb rn (by omega) (by omega)) ?_
      rintro _ v24 ⟨rfl,K21,n22,N23,S,qn22,qN23,hK,hC⟩
      replace BB:=belowO BB hC (fun b hb=>Nat.le_trans hwB (A.sx.kb b hb))
      have mXg8:=not_op Xg8 nXg8 hK
      replace Xg8:=Xg8.chg hC nXg8
      replace nXg8:=mXg8
      clear mXg8
      have dj2:=dj_sx R dj hK
      replace R:=R.off hC dj (fun b hb cs=>A.sx.sa.noU hb cs)
      replace dj:=dj2
      clear dj2
      replace A:=A.op S hK hC
      clear S hK hC
      refine ⟨_,rfl,Xg8,?_⟩
      refine zc 15 61 11 #[pg q,.int .u64 (sa i),.int .u64 (sb i),.int .u64 (sn i)] (move9 R cE ra rb rn (by omega) (by omega)) ?_
      rintro _ v27 ⟨rfl,X25,n26,S,qn26,hK,hC⟩
      replace BB:=belowO BB hC (fun b hb=>Nat.le_trans hwB (R.rs.xz b hb).1)
      have mXg8:=not_op Xg8 uXg8 hK
      replace Xg8:=Xg8.chg hC uXg8
      replace uXg8:=mXg8
      clear mXg8
      have dj2:=dj_rx A.sx dj hK
      have A2:=(A.sx.besideR R hC dj).at
      clear A
      have A:=A2
      clear A2
      replace dj:=dj2
      clear dj2
      clear R
      have R:=S
      clear S hK hC
      refine ⟨_,rfl,Xg8,?_⟩
      refine zq 16 62 (.bool ((moveR E (sa i) (sb i) (sn i):Int) == moveR E (sa i) (sb i) (sn i))) (.bool true) (congrArg Value.bool (beq_self_eq_true _)) ?_
      refine z 17 7 (.bool true) ?_
      refine gz_done ?_
      refine ge_bn ?_
      have okN:=A.sx.ok (move_all cE.ok.all)
      exact ge_join () ⟨BB,Xg8,_,_,_,_,_,_,A.sx,by omega,by omega,R,by omega,dj,can_move cE okN ra rb rn,nXg8,uXg8⟩ (by kernel_rfl)
     ·refine gc_no (hc:=congrArg Value.bool b20) ?_
      refine gc_seq ?_
      refine gc_reg ?_
      by_cases c28:(sw i:Int)=3
      ·refine tq 64 (.bool ((sw i:Int) == 3)) (.bool true) (congrArg Value.bool (beq_iff_eq.2 c28)) ?_
       refine t 63 (.bool true) ?_
       refine gl_nil ?_
       refine ge_then ?_
       refine gc_yes ?_
       replace BB:=BB.drew
       replace A:=A.drew
       replace R:=R.keep (Below.refl _ _).drew
       replace Xg8:=Xg8.drew
       refine gc_draw (fun w'=>Blk w' g8 [.int .i64 (sw i),.int .u64 (sa i),.int .u64 (sb i),.int .u64 (sn i)] 33) (fun _=>false) Xg8 ?_
       refine z 0 65 (pg g0) ?_
       refine z 1 66 (pq g8 1) ?_
       refine zl 2 67 (.int .u64 (sa i)) (fun _ h=>h) 1 ?_
       refine z 4 69 (pg q) ?_
       refine z 5 70 (pq g8 1) ?_
       refine zl 6 71 (.int .u64 (sa i)) (fun _ h=>h) 1 ?_
       refine zc 3 68 12 #[pg g0,.int .u64 (sa i)] (bump_any A.sx ra (by omega) (by omega)) ?_
       rintro _ v32 ⟨rfl,K29,n30,N31,S,qn30,qN31,hK,hC⟩
       replace BB:=belowO BB hC (fun b hb=>Nat.le_trans hwB (A.sx.kb b hb))
       have mXg8:=not_op Xg8 nXg8 hK
       replace Xg8:=Xg8.chg hC nXg8
       replace nXg8:=mXg8
       clear mXg8
       have dj2:=dj_sx R dj hK
       replace R:=R.off hC dj (fun b hb cs=>A.sx.sa.noU hb cs)
       replace dj:=dj2
       clear dj2
       replace A:=A.op S hK hC
       clear S hK hC
       refine ⟨_,rfl,Xg8,?_⟩
       refine zc 7 72 13 #[pg q,.int .u64 (sa i)] (bump9 R cE ra (by omega) (by omega)) ?_
       rintro _ v35 ⟨rfl,X33,n34,S,qn34,hK,hC⟩
       replace BB:=belowO BB hC (fun b hb=>Nat.le_trans hwB (R.rs.xz b hb).1)
       have mXg8:=not_op Xg8 uXg8 hK
       replace Xg8:=Xg8.chg hC uXg8
       replace uXg8:=mXg8
       clear mXg8
       have dj2:=dj_rx A.sx dj hK
       have A2:=(A.sx.besideR R hC dj).at
       clear A
       have A:=A2
       clear A2
       replace dj:=dj2
       clear dj2
       clear R
       have R:=S
       clear S hK hC
       refine ⟨_,rfl,Xg8,?_⟩
       refine zq 8 73 (.bool ((bumpR (sa i):Int) == bumpR (sa i))) (.bool true) (congrArg Value.bool (beq_self_eq_true _)) ?_
       refine z 9 7 (.bool true) ?_
       refine gz_done ?_
       refine ge_bn ?_
       have okN:=A.sx.ok (bump_all cE.ok.all)
       exact ge_join () ⟨BB,Xg8,_,_,_,_,_,_,A.sx,by omega,by omega,R,by omega,dj,can_bump cE okN ra,nXg8,uXg8⟩ (by kernel_rfl)
      ·refine tq 64 (.bool ((sw i:Int) == 3)) (.bool false) (congrArg Value.bool (beq_eq_false_iff_ne.2 c28)) ?_
       refine t 63 (.bool false) ?_
       refine gl_nil ?_
       refine ge_then ?_
       refine gc_no ?_
       refine gc_skip ?_
       refine ge_bn ?_
       exact ge_join () ⟨BB,Xg8,_,_,_,_,_,_,A.sx,by omega,by omega,R,by omega,dj,cE,nXg8,uXg8⟩ (by kernel_rfl)
   clear BB
   clear A
   clear R
   clear Xg8
   rintro _ v36 ⟨BB,X6,K1,X1,E1,n1,N1,n21,S,q1,q2,R,q3,dj,cE1,nX6,uX6⟩
   have A:=S.at
   clear S
   have hsz1:=A.sx.sa.size
   have hwv1:=BB.size
   refine gc_seq ?_
   replace BB:=BB.drew
   replace A:=A.drew
   replace R:=R.keep (Below.refl _ _).drew
   replace X6:=X6.drew
   refine gc_draw (fun w'=>Blk w' g8 [.int .i64 (sw i),.int .u64 (sa i),.int .u64 (sb i),.int .u64 (sn i)] 33) (fun _=>false) X6 ?_
   refine z 0 74 (.bool true) ?_
   refine z 1 75 (.bool false) ?_
   refine z 2 76 (.bool false) ?_
   refine z 3 77 (pg g0) ?_
   refine z 4 78 (pq g8 1) ?_
   refine zl 5 79 (.int .u64 (sa i)) (fun _ h=>h) 1 ?_
   refine z 7 81 (pg q) ?_
   refine z 8 82 (pq g8 1) ?_
   refine zl 9 83 (.int .u64 (sa i)) (fun _ h=>h) 1 ?_
   refine zc 6 80 14 #[pg g0,.int .u64 (sa i)] (get_any A.sx ra (by omega) (by omega)) ?_
   rintro _ v38 ⟨rfl,K37,S,hK,hC⟩
   replace BB:=belowO BB hC (fun b hb=>Nat.le_trans hwB (A.sx.kb b hb))
   have mX6:=not_op X6 nX6 hK
   replace X6:=X6.chg hC nX6
   replace nX6:=mX6
   clear mX6
   have dj2:=dj_sx R dj hK
   replace R:=R.off hC dj (fun b hb cs=>A.sx.sa.noU hb cs)
   replace dj:=dj2
   clear dj2
   replace A:=A.op S hK hC
   clear S hK hC
   refine ⟨_,rfl,X6,?_⟩
   refine zc 10 84 15 #[pg q,.int .u64 (sa i)] (get9 R ra (by omega) (by omega)) ?_
   rintro _ v40 ⟨rfl,X39,S,hK,hC⟩
   replace BB:=belowO BB hC (fun b hb=>Nat.le_trans hwB (R.rs.xz b hb).1)
   have mX6:=not_op X6 uX6 hK
   replace X6:=X6.chg hC uX6
   replace uX6:=mX6
   clear mX6
   have dj2:=dj_rx A.sx dj hK
   have A2:=(A.sx.besideR R hC dj).at
   clear A
   have A:=A2
   clear A2
   replace dj:=dj2
   clear dj2
   clear R
   have R:=S
   clear S hK hC
   refine ⟨_,rfl,X6,?_⟩
   refine zr 11 85 (.bool false) (fun _ _=>run_nq (show coin E1 (sa i)=coin E1 (sa i) from rfl) (show seqn E1 (sa i)=seqn E1 (sa i) from rfl)) ?_
   refine z 12 86 (.bool false) ?_
   refine z 13 87 (.bool false) ?_
   refine z 14 88 (pg g0) ?_
   refine z 16 90 (pg q) ?_
   refine z 17 91 (pg q) ?_
   refine z 18 92 (pg q) ?_
   refine gz_ready [15,19] ?_
   refine ga_call 15 (some 89) 17 #[pg g0] (dumpZ A.sx (by omega)) ?_ ?_
   ·rintro _ v41 ⟨dv,es,rfl,PD,eD,ZD,B⟩
    replace BB:=joinB BB B
    replace A:=A.keep B
    replace R:=R.keep B
    replace X6:=X6.keep B
    clear B
    refine ⟨_,rfl,X6,?_⟩
    obtain ⟨lv,wv,hbq,hl,hw⟩:=R.rs.ex
    obtain ⟨el,PL,eL⟩:=hl.ex
    clear hl hw
    refine zw 19 93 (lv) _ (run_ld1 (off:=0) hbq rfl ⟨_,_,rfl,by kernel_rfl,fun _=>by kernel_rfl⟩) X6 ?_
    refine zc 20 94 16 #[dv,lv] (pairsT A.sx (by omega) (ZD.prs PD) (PL.a (Nat.zero_le _) (fun _ _ _=>Nat.zero_le _)) eD eL rfl) ?_
    rintro _ v42 ⟨rfl,B⟩
    replace BB:=joinB BB B
    replace A:=A.keep B
    replace R:=R.keep B
    replace X6:=X6.keep B
    replace ZD:=ZD.keep B
    replace PL:=PL.keep B
    clear B
    clear ZD
    clear PL
    refine ⟨_,rfl,X6,?_⟩
    refine z 21 95 (.bool false) ?_
    refine z 22 96 (.bool false) ?_
    refine z 23 97 (.bool false) ?_
    refine z 24 98 (pg g0) ?_
    refine z 26 100 (pg q) ?_
    have lq:=R.lt R.rs.xq
    refine zc 25 99 19 #[pg g0] (sum_any A.sx (by omega) (by omega)) ?_
    rintro _ v43 ⟨sm,smk,smd,rfl,O,hO,S,C⟩
    have hfw:=A.sx.few
    have hC:=C.mono (fun b _ (e:b=g0)=>e▸A.sx.sa.top)
    replace BB:=belowO BB hC (fun b hb=>Nat.le_trans hwB (A.sx.kb b hb))
    replace X6:=X6.chg hC nX6
    replace R:=R.off hC dj (fun b hb cs=>A.sx.sa.noU hb cs)
    replace A:=A.op S (fun _ h=>.inl h) hC
    clear S hC C
    refine ⟨_,rfl,X6,?_⟩
    refine zc 27 101 20 #[pg q] (sum9 R (by omega) (by omega)) ?_
    rintro _ v44 ⟨sr,srk,srd,rfl,NS,hNS,X9,n9,S,q9,hK,C⟩
    have hC:=C.mono (fun b _ (e:b=q)=>e▸R.rs.xq)
    replace O:=Rc.NatW.off O C.size (fun b h1 h2=>C.same b h2 (fun e=>by have e2:b=q:=e; omega))
    replace BB:=belowO BB hC (fun b hb=>Nat.le_trans hwB (R.rs.xz b hb).1)
    have mX6:=not_op X6 uX6 hK
    replace X6:=X6.chg hC uX6
    replace uX6:=mX6
    clear mX6
    have dj2:=dj_rx A.sx dj hK
    have A2:=(A.sx.besideR R hC dj).at
    clear A
    have A:=A2
    clear A2
    replace dj:=dj2
    clear dj2
    clear R
    have R:=S
    clear S hK hC
    clear C
    refine ⟨_,rfl,X6,?_⟩
    refine zc 28 102 18 #[.slice sm smk smd,.slice sr srk srd] (natT2 O NS (by omega) (by omega)) ?_
    rintro _ v45 ⟨rfl,B⟩
    replace BB:=joinB BB B
    replace A:=A.keep B
    replace R:=R.keep B
    replace X6:=X6.keep B
    replace O:=Rc.NatW.keep O B
    replace NS:=NS.keep B
    clear B
    clear O
    clear NS
    refine ⟨_,rfl,X6,?_⟩
    refine z 29 103 (.bool false) ?_
    refine z 30 104 (.bool false) ?_
    refine gz_done ?_
    refine ge_then ?_
    refine gc_fr [(0,.slice ao n c),(3,pg g0),(4,pg q),(5,.int .i64 (i:Int)),(6,pg g8),(7,.bool true),(74,.bool true),(75,.bool false),(76,.bool false),(77,pg g0),(78,pq g8 1),(79,.int .u64 (sa i)),(80,.agg #[.int .u64 (coin E1 (sa i)),.int .u64 (seqn E1 (sa i))]),(81,pg q),(82,pq g8 1),(83,.int .u64 (sa i)),(84,.agg #[.int .u64 (coin E1 (sa i)),.int .u64 (seqn E1 (sa i))]),(85,.bool false),(86,.bool false),(87,.bool false),(88,pg g0),(89,dv),(90,pg q),(91,pg q),(92,pg q),(93,lv),(94,.bool true),(95,.bool false),(96,.bool false),(97,.bool false),(98,pg g0),(99,.slice sm smk smd),(100,pg q),(101,.slice sr srk srd),(102,.bool true),(103,.bool false),(104,.bool false)] (by kernel_rfl) ?_
    refine gc_no ?_
    refine gc_skip ?_
    refine ge_bn ?_
    refine ge_then ?_
    refine gc_reg ?_
    refine t 20 (.int .i64 (i:Int)) ?_
    refine tq 21 (.int .i64 (IntKind.i64.wrap ((i:Int) + 1))) (.int .i64 ((i:Int) + 1)) (wi (by omega)) ?_
    refine t 5 (.int .i64 ((i:Int) + 1)) ?_
    refine gl_nil ?_
    exact ge_round (i + 1) (by show n - (i + 1) < n - i; omega) ⟨hk_i,BB,_,_,_,_,_,_,A.sx,by omega,by omega,R,by omega,dj,cE1⟩ (by kernel_rfl)
   obtain ⟨lv,wv,hbq,hl,hw⟩:=R.rs.ex
   obtain ⟨el,PL,eL⟩:=hl.ex
   clear hl hw
   refine ga_val 19 (some 93) (lv) _ (run_ld1 (off:=0) hbq rfl ⟨_,_,rfl,by kernel_rfl,fun _=>by kernel_rfl⟩) X6 ?_ ?_
   ·skip
    refine zc 15 89 17 #[pg g0] (dumpZ A.sx (by omega)) ?_
    rintro _ v46 ⟨dv,es,rfl,PD,eD,ZD,B⟩
    replace BB:=joinB BB B
    replace A:=A.keep B
    replace R:=R.keep B
    replace X6:=X6.keep B
    replace PL:=PL.keep B
    clear B
    refine ⟨_,rfl,X6,?_⟩
    refine zc 20 94 16 #[dv,lv] (pairsT A.sx (by omega) (ZD.prs PD) (PL.a (Nat.zero_le _) (fun _ _ _=>Nat.zero_le _)) eD eL rfl) ?_
    rintro _ v47 ⟨rfl,B⟩
    replace BB:=joinB BB B
    replace A:=A.keep B
    replace R:=R.keep B
    replace X6:=X6.keep B
    replace PL:=PL.keep B
    replace ZD:=ZD.keep B
    clear B
    clear ZD
    clear PL
    refine ⟨_,rfl,X6,?_⟩
    refine z 21 95 (.bool false) ?_
    refine z 22 96 (.bool false) ?_
    refine z 23 97 (.bool false) ?_
    refine z 24 98 (pg g0) ?_
    refine z 26 100 (pg q) ?_
    have lq:=R.lt R.rs.xq
    refine zc 25 99 19 #[pg g0] (sum_any A.sx (by omega) (by omega)) ?_
    rintro _ v48 ⟨sm,smk,smd,rfl,O,hO,S,C⟩
    have hfw:=A.sx.few
    have hC:=C.mono (fun b _ (e:b=g0)=>e▸A.sx.sa.top)
    replace BB:=belowO BB hC (fun b hb=>Nat.le_trans hwB (A.sx.kb b hb))
    replace X6:=X6.chg hC nX6
    replace R:=R.off hC dj (fun b hb cs=>A.sx.sa.noU hb cs)
    replace A:=A.op S (fun _ h=>.inl h) hC
    clear S hC C
    refine ⟨_,rfl,X6,?_⟩
    refine zc 27 101 20 #[pg q] (sum9 R (by omega) (by omega)) ?_
    rintro _ v49 ⟨sr,srk,srd,rfl,NS,hNS,X9,n9,S,q9,hK,C⟩
    have hC:=C.mono (fun b _ (e:b=q)=>e▸R.rs.xq)
    replace O:=Rc.NatW.off O C.size (fun b h1 h2=>C.same b h2 (fun e=>by have e2:b=q:=e; omega))
    replace BB:=belowO BB hC (fun b hb=>Nat.le_trans hwB (R.rs.xz b hb).1)
    have mX6:=not_op X6 uX6 hK
    replace X6:=X6.chg hC uX6
    replace uX6:=mX6
    clear mX6
    have dj2:=dj_rx A.sx dj hK
    have A2:=(A.sx.besideR R hC dj).at
    clear A
    have A:=A2
    clear A2
    replace dj:=dj2
    clear dj2
    clear R
    have R:=S
    clear S hK hC
    clear C
    refine ⟨_,rfl,X6,?_⟩
    refine zc 28 102 18 #[.slice sm smk smd,.slice sr srk srd] (natT2 O NS (by omega) (by omega)) ?_
    rintro _ v50 ⟨rfl,B⟩
    replace BB:=joinB BB B
    replace A:=A.keep B
    replace R:=R.keep B
    replace X6:=X6.keep B
    replace O:=Rc.NatW.keep O B
    replace NS:=NS.keep B
    clear B
    clear O
    clear NS
    refine ⟨_,rfl,X6,?_⟩
    refine z 29 103 (.bool false) ?_
    refine z 30 104 (.bool false) ?_
    refine gz_done ?_
    refine ge_then ?_
    refine gc_fr [(0,.slice ao n c),(3,pg g0),(4,pg q),(5,.int .i64 (i:Int)),(6,pg g8),(7,.bool true),(74,.bool true),(75,.bool false),(76,.bool false),(77,pg g0),(78,pq g8 1),(79,.int .u64 (sa i)),(80,.agg #[.int .u64 (coin E1 (sa i)),.int .u64 (seqn E1 (sa i))]),(81,pg q),(82,pq g8 1),(83,.int .u64 (sa i)),(84,.agg #[.int .u64 (coin E1 (sa i)),.int .u64 (seqn E1 (sa i))]),(85,.bool false),(86,.bool false),(87,.bool false),(88,pg g0),(89,dv),(90,pg q),(91,pg q),(92,pg q),(93,lv),(94,.bool true),(95,.bool false),(96,.bool false),(97,.bool false),(98,pg g0),(99,.slice sm smk smd),(100,pg q),(101,.slice sr srk srd),(102,.bool true),(103,.bool false),(104,.bool false)] (by kernel_rfl) ?_
    refine gc_no ?_
    refine gc_skip ?_
    refine ge_bn ?_
    refine ge_then ?_
    refine gc_reg ?_
    refine t 20 (.int .i64 (i:Int)) ?_
    refine tq 21 (.int .i64 (IntKind.i64.wrap ((i:Int) + 1))) (.int .i64 ((i:Int) + 1)) (wi (by omega)) ?_
    refine t 5 (.int .i64 ((i:Int) + 1)) ?_
    refine gl_nil ?_
    exact ge_round (i + 1) (by show n - (i + 1) < n - i; omega) ⟨hk_i,BB,_,_,_,_,_,_,A.sx,by omega,by omega,R,by omega,dj,cE1⟩ (by kernel_rfl)
   exact ga_nil
  ·refine tq 19 (.bool (decide ((i:Int) < ((n:Nat):Int)))) (.bool false) (congrArg Value.bool (decide_eq_false ci)) ?_
   refine gl_nil ?_
   refine ge_then ?_
   refine gc_no ?_
   refine gc_exit ?_
   refine ge_tx ?_
   refine ge_tx ?_
   refine ge_bx ?_
   refine ge_then ?_
   refine gc_seq ?_
   refine gc_reg ?_
   refine t 2 (.bool true) ?_
   refine gl_nil ?_
   refine ge_then ?_
   refine gc_ret ?_
   refine ge_ret (.bool true) (rs1 2 (by kernel_rfl) (by kernel_rfl)) ?_
   exact ⟨rfl,BB⟩
end Bk
end Go.Proofs.YtfpclhjmfpfhiaaGreat
