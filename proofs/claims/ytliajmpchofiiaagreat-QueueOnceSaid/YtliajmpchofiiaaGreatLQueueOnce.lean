/- gleanlaw12.QueueOnce. -/
import Derived.Test.YtliajmpchofiiaaGreatJay
import Derived.Test.YtliajmpchofiiaaGreatJat
set_option maxRecDepth 100000
set_option maxHeartbeats 8000000
namespace Go.Proofs.YtliajmpchofiiaaGreat
namespace Qu
open Go.RowKit Go.Lib Pg Lim Gl Kv Bk Pw
section
variable {ρ:Operand->Value}{w:World}{x:Int}{ao:Option Addr}{st:Nat->Sq}
attribute [local go_sem] Oper.semAt_some
set_option linter.unusedVariables false
set_option linter.unusedSimpArgs false
theorem xG{o:Oper}(hx:Uq x)(ho:∃ p T,o.op=.binOp .shr 27 p (.const (.int .u64 1)) T/\ρ p=.int .u64 x/\ρ (.const (.int .u64 1))=.int .u64 1:=by exact⟨_,_,rfl,by kernel_rfl,by kernel_rfl⟩):(execOp ρ o).run Tryz.prog w=.ok (.value (.int .u64 (x / 2))) w:=by
 obtain⟨p,T,h,h1,h2⟩:=ho;simp only[execOp,h,h1,h2];go_simp
theorem lH{n c pb po_:Nat}(hx:Uq x)(SS:gL w ao n pb po_ st):Calls Tryz.prog 5 #[.int .u64 x,.slice ao n c] w fun e w'=>e=.returned (.bool true)/\Below w.heap.size w w':=by
 have BB:=Below.refl w.heap.size w;have hfew:=SS.few;refine aG (n:=154) Tryz.func5 rfl (by kernel_rfl) (by kernel_rfl) ?_
 obtain⟨n0,hn0⟩:∃ m,x / 2=m:=⟨_,rfl⟩
 have hx1:=hx.1;have hx2:=hx.2
 have hun:Uq n0:=⟨by omega,by omega⟩
 refine af (ah (t 4 (.bool false) ?_));refine ag (ab (af (af (ah (tc 15 11 #[] (sm) ?_)))));rintro _ v1 ⟨rfl,B⟩;refine⟨_,rfl,?_⟩;replace BB:=ai BB B;clear B;refine t 16 (.bool false) ?_
 refine ag (ab (bM ?_));refine aK (ab (af (ah (t 17 (.int .u64 x) ?_))));refine tr 18 (.int .u64 n0) (by rw[<- hn0]; exact xG hx) ?_
 refine t 0 (.int .u64 n0) ?_
 refine ag (ab (af (af (ah (t 19 (.slice ao n c) ?_)))));refine tc 20 12 #[.slice ao n c] (mr (SS.keep BB)) ?_
 rintro _ v2 ⟨lb,rfl,hlb,B⟩;refine⟨_,rfl,?_⟩;replace BB:=ai BB B;clear B
 cases lb
 ·skip;refine t 21 (.bool true) ?_
  refine ag (ab (bu ?_));refine af (ah (t 4 (.bool true) ?_));refine ag (ab (aE [(0,.int .u64 n0),(1,.slice ao n c),(4,.bool true)] (by kernel_rfl) ?_));refine aI (fL (aH (.bool true) (rs1 4 (by kernel_rfl) (by kernel_rfl)) ?_));exact⟨rfl,BB⟩
 ·obtain⟨h150,h30⟩:=hlb rfl;refine t 21 (.bool false) ?_
  refine ag (ab (bM ?_));refine aK (ab (af (ah (t 22 (.int .u64 n0) ?_))));refine tc 23 14 #[.int .u64 n0] (je (x:=n0)) ?_
  rintro _ v3 ⟨Bz,g0,K0,rfl,S0,hwB0,hK0,B0⟩;refine⟨_,rfl,?_⟩;have hwB:=Nat.le_trans BB.size hwB0;replace BB:=ai BB B0;clear B0;have A:=S0.at
  clear S0;refine t 5 (pg g0) ?_
  refine ag (ab (aE [(0,.int .u64 n0),(1,.slice ao n c),(4,.bool false),(5,pg g0)] (by kernel_rfl) ?_));refine af (ah (t 6 (.slice none 0 0) ?_));refine ag (ab (af (af (ah (t 7 (.int .i64 0) ?_)))));refine ag (ab (aS (fJ (fun s=>n - s.1) (fun(s:Nat × Option Addr × Nat)=>[(0,.int .u64 n0),(1,.slice ao n c),(5,pg g0),(6,.slice s.2.1 s.1 s.2.2),(7,.int .i64 (s.1:Int))]) (fun s w'=>s.1<=n/\Below w.heap.size w w'/\∃ K E nn NN bz,Sx Bz w' K g0 E [] nn NN/\nn<=1 + s.1 * 10000/\NN<=2 + s.1 * 20/\Qs E (n0 + (s.1:Int)) (qes n0 st s.1)/\dC (chn E)=3/\EK w' K w.heap.size bz s.2.1 s.1 s.2.2 (ids n0 st s.1)) ((0,none,0):Nat × Option Addr × Nat) ⟨Nat.zero_le _,BB,_,bgE n0,1,2,0,A.sx,by omega,by omega,vp hun,bg_hgt hun,EK.nil _ _ _⟩ (by kernel_rfl) ?_)));clear BB;clear A;rintro⟨i,a,d⟩ v4 ⟨hi,BB,K,E,nn,NN,bz,S,hnn,hNN,Q,h3,U⟩;dsimp only at hi hnn hNN Q U;have A:=S.at
  clear S;refine af (af (ah (t 24 (.int .i64 (i:Int)) ?_)));refine t 25 (.slice ao n c) ?_
  refine t 26 (.int .i64 ((n:Nat):Int)) ?_
  by_cases ci:(i:Int) < ((n:Nat):Int)
  ·have hk_i:i < n:=by omega
   have rr:=SS.rng i hk_i;refine tq 27 (.bool (decide ((i:Int) < ((n:Nat):Int)))) (.bool true) (congrArg Value.bool (decide_eq_true ci)) ?_
   refine ag (ab (bu ?_));refine aK (ab (af (aS (af (ah (t 30 (.slice ao n c) ?_))))));refine t 31 (.int .i64 (i:Int)) ?_
   refine tr 32 (pq pb (po_ + i * 16)) (dE 16 pb po_ n c i hk_i SS.ptr) ?_
   refine tr 33 (.agg #[.int .i64 (st i).w,.int .i64 (st i).k,.int .u64 (st i).n,.int .u64 (st i).u0,.int .u64 (st i).u1,.int .u64 (st i).u2,.int .u64 (st i).u3,.int .u64 (st i).u4,.int .u64 (st i).u5,.int .u64 (st i).m0,.int .u64 (st i).m1,.int .u64 (st i).m2,.int .u64 (st i).m3,.int .u64 (st i).m4,.int .u64 (st i).m5,.slice (Sq.a (st i)) (Sq.l (st i)) (Sq.c (st i))]) (run_lS SS hk_i BB) ?_
   have lU:=U.lt;refine ta 8 [.int .i64 0,.int .i64 0,.int .u64 0,.int .u64 0,.int .u64 0,.int .u64 0,.int .u64 0,.int .u64 0,.int .u64 0,.int .u64 0,.int .u64 0,.int .u64 0,.int .u64 0,.int .u64 0,.int .u64 0,.slice none 0 0] 53 (pg) ?_
   intro v5 g6 Xg6 hg6 B;have yg6:=Nat.le_trans BB.size hg6;have zg6:=Nat.le_trans A.size hg6;have nXg6:=A.new hg6;replace BB:=ai BB B;replace A:=A.keep B;replace U:=U.keep B;clear B;refine ts Xg6 0 (.agg #[.int .i64 (st i).w,.int .i64 (st i).k,.int .u64 (st i).n,.int .u64 (st i).u0,.int .u64 (st i).u1,.int .u64 (st i).u2,.int .u64 (st i).u3,.int .u64 (st i).u4,.int .u64 (st i).u5,.int .u64 (st i).m0,.int .u64 (st i).m1,.int .u64 (st i).m2,.int .u64 (st i).m3,.int .u64 (st i).m4,.int .u64 (st i).m5,.slice (Sq.a (st i)) (Sq.l (st i)) (Sq.c (st i))]) [.int .i64 (st i).w,.int .i64 (st i).k,.int .u64 (st i).n,.int .u64 (st i).u0,.int .u64 (st i).u1,.int .u64 (st i).u2,.int .u64 (st i).u3,.int .u64 (st i).u4,.int .u64 (st i).u5,.int .u64 (st i).m0,.int .u64 (st i).m1,.int .u64 (st i).m2,.int .u64 (st i).m3,.int .u64 (st i).m4,.int .u64 (st i).m5,.slice (Sq.a (st i)) (Sq.l (st i)) (Sq.c (st i))] [.int .i64 (st i).w,.int .i64 (st i).k,.int .u64 (st i).n,.int .u64 (st i).u0,.int .u64 (st i).u1,.int .u64 (st i).u2,.int .u64 (st i).u3,.int .u64 (st i).u4,.int .u64 (st i).u5,.int .u64 (st i).m0,.int .u64 (st i).m1,.int .u64 (st i).m2,.int .u64 (st i).m3,.int .u64 (st i).m4,.int .u64 (st i).m5,.slice (Sq.a (st i)) (Sq.l (st i)) (Sq.c (st i))] ?_
   intro v7 Y C;replace BB:=cZ BB C (by omega);replace A:=Bk.At.cell A Xg6 C zg6 nXg6 (by decide);replace U:=U.cell C (show i=0\/bz≠g6 by omega);clear C Xg6;have Xg6:=Y;clear Y;refine ag (ab (af (ah (t 34 (.int .u64 n0) ?_))));refine t 35 (.int .i64 (i:Int)) ?_
   refine tr 36 (.int .u64 (i:Int)) (iq (i:Int) ⟨by omega,by omega⟩) ?_
   refine tq 37 (.int .u64 (IntKind.u64.wrap (n0 + (i:Int)))) (.int .u64 (n0 + (i:Int))) (wu (by omega)) ?_
   refine tr 38 (.agg #[.int .u64 (n0 + (i:Int)),.int .i64 12]) (er) ?_
   have lU:=U.lt;have lXg6:=Xg6.lt;refine ta 9 [.int .u64 0,.int .i64 0] 64 (pg) ?_
   intro v8 g9 Xg9 hg9 B;have yg9:=Nat.le_trans BB.size hg9;have zg9:=Nat.le_trans A.size hg9;have nXg9:=A.new hg9;replace BB:=ai BB B;replace A:=A.keep B;replace U:=U.keep B;replace Xg6:=Xg6.keep B;clear B;refine ts Xg9 0 (.agg #[.int .u64 (n0 + (i:Int)),.int .i64 12]) [.int .u64 (n0 + (i:Int)),.int .i64 12] [.int .u64 (n0 + (i:Int)),.int .i64 12] ?_
   intro v10 Y C;replace BB:=cZ BB C (by omega);replace A:=Bk.At.cell A Xg9 C zg9 nXg9 (by decide);replace U:=U.cell C (show i=0\/bz≠g9 by omega);replace Xg6:=Xg6.chg C (show g6≠g9 by omega);clear C Xg9;have Xg9:=Y;clear Y;refine ag (ab (aE [(0,.int .u64 n0),(1,.slice ao n c),(5,pg g0),(6,.slice a i d),(7,.int .i64 (i:Int)),(8,pg g6),(9,pg g9),(24,.int .i64 (i:Int)),(25,.slice ao n c),(26,.int .i64 ((n:Nat):Int)),(27,.bool true),(30,.slice ao n c),(31,.int .i64 (i:Int)),(32,pq pb (po_ + i * 16)),(33,.agg #[.int .i64 (st i).w,.int .i64 (st i).k,.int .u64 (st i).n,.int .u64 (st i).u0,.int .u64 (st i).u1,.int .u64 (st i).u2,.int .u64 (st i).u3,.int .u64 (st i).u4,.int .u64 (st i).u5,.int .u64 (st i).m0,.int .u64 (st i).m1,.int .u64 (st i).m2,.int .u64 (st i).m3,.int .u64 (st i).m4,.int .u64 (st i).m5,.slice (Sq.a (st i)) (Sq.l (st i)) (Sq.c (st i))]),(34,.int .u64 n0),(35,.int .i64 (i:Int)),(36,.int .u64 (i:Int)),(37,.int .u64 (n0 + (i:Int))),(38,.agg #[.int .u64 (n0 + (i:Int)),.int .i64 12])] (by kernel_rfl) ?_));refine af ?_
   replace BB:=BB.drew;replace A:=A.drew;replace U:=U.drew;replace Xg6:=Xg6.drew;replace Xg9:=Xg9.drew;refine bW (fun w'=>Blk w' g6 [.int .i64 (st i).w,.int .i64 (st i).k,.int .u64 (st i).n,.int .u64 (st i).u0,.int .u64 (st i).u1,.int .u64 (st i).u2,.int .u64 (st i).u3,.int .u64 (st i).u4,.int .u64 (st i).u5,.int .u64 (st i).m0,.int .u64 (st i).m1,.int .u64 (st i).m2,.int .u64 (st i).m3,.int .u64 (st i).m4,.int .u64 (st i).m5,.slice (Sq.a (st i)) (Sq.l (st i)) (Sq.c (st i))] 53/\Below w.heap.size w w') (fun _=>false) ⟨Xg6,BB⟩ ?_
   refine z 0 39 (pq g6 3) ?_
   refine z 1 40 (pq g6 4) ?_
   refine zl 2 41 (.int .u64 (st i).u1) (fun _ h=>h.1) 4 ?_
   refine z 3 42 (pq g6 3) ?_
   refine z 4 43 (pq g6 6) ?_
   refine zl 5 44 (.int .u64 (st i).u3) (fun _ h=>h.1) 6 ?_
   refine z 6 45 (pq g6 3) ?_
   refine z 7 46 (pq g6 3) ?_
   refine zl 8 47 (.int .u64 (st i).u0) (fun _ h=>h.1) 3 ?_
   refine z 9 10 (.int .u64 (st i).u1) ?_
   refine z 10 11 (.int .u64 (st i).u3) ?_
   refine z 11 12 (.int .u64 (st i).u0) ?_
   refine bg (ab (aE [(0,.int .u64 n0),(1,.slice ao n c),(5,pg g0),(6,.slice a i d),(7,.int .i64 (i:Int)),(8,pg g6),(9,pg g9),(10,.int .u64 (st i).u1),(11,.int .u64 (st i).u3),(12,.int .u64 (st i).u0),(24,.int .i64 (i:Int)),(25,.slice ao n c),(26,.int .i64 ((n:Nat):Int)),(27,.bool true),(30,.slice ao n c),(31,.int .i64 (i:Int)),(32,pq pb (po_ + i * 16)),(33,.agg #[.int .i64 (st i).w,.int .i64 (st i).k,.int .u64 (st i).n,.int .u64 (st i).u0,.int .u64 (st i).u1,.int .u64 (st i).u2,.int .u64 (st i).u3,.int .u64 (st i).u4,.int .u64 (st i).u5,.int .u64 (st i).m0,.int .u64 (st i).m1,.int .u64 (st i).m2,.int .u64 (st i).m3,.int .u64 (st i).m4,.int .u64 (st i).m5,.slice (Sq.a (st i)) (Sq.l (st i)) (Sq.c (st i))]),(34,.int .u64 n0),(35,.int .i64 (i:Int)),(36,.int .u64 (i:Int)),(37,.int .u64 (n0 + (i:Int))),(38,.agg #[.int .u64 (n0 + (i:Int)),.int .i64 12]),(39,pq g6 3),(40,pq g6 4),(41,.int .u64 (st i).u1),(42,pq g6 3),(43,pq g6 6),(44,.int .u64 (st i).u3),(45,pq g6 3),(46,pq g6 3),(47,.int .u64 (st i).u0)] (by kernel_rfl) ?_));refine af (ah (t 13 (.int .u64 0) ?_));refine ag (ab ?_)
   have hze:i=0\/bz≠g9:=by omega
   refine sv (fun(s:Int × Int × Int × Int)=>[(0,.int .u64 n0),(1,.slice ao n c),(5,pg g0),(6,.slice a i d),(7,.int .i64 (i:Int)),(9,pg g9),(10,.int .u64 s.1),(11,.int .u64 s.2.1),(12,.int .u64 s.2.2.1),(13,.int .u64 (n0 + (i:Int)))]) (fun s w'=>Below w.heap.size w w'/\∃ K E nn NN,Sx Bz w' K g0 E [] nn NN/\nn<=1 + i * 10000 + 50/\NN<=2 + (i + 1) * 20/\Qs E (n0 + ((i + 1:Nat):Int)) (qes n0 st (i + 1))/\dC (chn E)=3/\EK w' K w.heap.size bz a i d (ids n0 st i)/\Blk w' g9 [.int .u64 (n0 + (i:Int)),.int .i64 s.2.2.2] 64/\¬ K g9/\(⟨n0 + (i:Int),s.2.2.2,s.2.2.1,s.1,s.2.1⟩:Qe)∈qes n0 st (i + 1)/\ids n0 st (i + 1)=ids n0 st i ++ [(n0 + (i:Int),s.2.2.2)]) ?_ ?_
   ·refine af ?_
    refine ah (t 48 (pg g6) ?_);refine tl 49 (.int .i64 (st i).w) Xg6 0 ?_
    refine tr 50 (.int .i64 (Int.tmod ((st i).w) 2)) (pS) ?_
    by_cases c11:(Int.tmod ((st i).w) 2:Int)=0
    ·refine tq 51 (.bool ((Int.tmod ((st i).w) 2:Int) == 0)) (.bool true) (congrArg Value.bool (beq_iff_eq.2 c11)) ?_
     refine ag (ab (bu ?_));refine ah (t 52 (pg g0) ?_);refine t 53 (pq g6 3) ?_
     refine tlr 54 [.int .u64 (st i).u0,.int .u64 (st i).u1,.int .u64 (st i).u2,.int .u64 (st i).u3,.int .u64 (st i).u4,.int .u64 (st i).u5] Xg6 3 ?_
     refine tc 55 18 #[pg g0,.agg #[.int .u64 (st i).u0,.int .u64 (st i).u1,.int .u64 (st i).u2,.int .u64 (st i).u3,.int .u64 (st i).u4,.int .u64 (st i).u5]] (SxE.cast (hH A.sx rr.u0 rr.u1 rr.u3 (by omega) (by omega)) rfl (congrArg (Value.int .u64) Q.next)) ?_
     rintro _ v13 ⟨rfl,K12,S,hK,hC⟩;refine⟨_,rfl,?_⟩;replace BB:=aD BB hC (fun b hb=>Nat.le_trans hwB (A.sx.kb b hb));replace nXg6:=opX Xg6 nXg6 hK hC;replace Xg6:=nXg6.1;replace nXg6:=nXg6.2;replace nXg9:=opX Xg9 nXg9 hK hC;replace Xg9:=nXg9.1;replace nXg9:=nXg9.2;replace U:=U.op hK hC;replace A:=A.op S hK hC;clear S hK hC;refine t 13 (.int .u64 (n0 + (i:Int))) ?_
     refine ag ?_
     exact jY (((st i).u1,(st i).u3,(st i).u0,12):Int × Int × Int × Int) ⟨BB,_,_,_,_,A.sx,by omega,by omega,Q.Bd c11 (by omega) (by omega) rr,hgtU Q h3 (by omega) (by omega) rr _,U,Xg9,nXg9,(memU c11).1,(memU c11).2⟩ (by kernel_rfl)
    ·refine tq 51 (.bool ((Int.tmod ((st i).w) 2:Int) == 0)) (.bool false) (congrArg Value.bool (beq_eq_false_iff_ne.2 c11)) ?_
     refine ag (ab (bM ?_));refine af (ah (t 56 (pq g9 1) ?_));refine ts Xg9 1 (.int .i64 13) [.int .i64 13] [.int .u64 (n0 + (i:Int)),.int .i64 13] ?_
     intro v14 Y C;replace BB:=cZ BB C (by omega);replace A:=Bk.At.cell A Xg9 C zg9 nXg9 (by decide);replace U:=U.cell C (show i=0\/bz≠g9 by omega);replace Xg6:=Xg6.chg C (show g6≠g9 by omega);clear C Xg9;have Xg9:=Y;clear Y;refine ag (ab (af ?_));replace BB:=BB.drew;replace A:=A.drew;replace U:=U.drew;replace Xg6:=Xg6.drew;replace Xg9:=Xg9.drew;refine bW (fun w'=>Blk w' g6 [.int .i64 (st i).w,.int .i64 (st i).k,.int .u64 (st i).n,.int .u64 (st i).u0,.int .u64 (st i).u1,.int .u64 (st i).u2,.int .u64 (st i).u3,.int .u64 (st i).u4,.int .u64 (st i).u5,.int .u64 (st i).m0,.int .u64 (st i).m1,.int .u64 (st i).m2,.int .u64 (st i).m3,.int .u64 (st i).m4,.int .u64 (st i).m5,.slice (Sq.a (st i)) (Sq.l (st i)) (Sq.c (st i))] 53/\Below w.heap.size w w') (fun _=>false) ⟨Xg6,BB⟩ ?_
     refine z 0 57 (pq g6 9) ?_
     refine z 1 58 (pq g6 10) ?_
     refine zl 2 59 (.int .u64 (st i).m1) (fun _ h=>h.1) 10 ?_
     refine z 3 60 (pq g6 9) ?_
     refine z 4 61 (pq g6 13) ?_
     refine zl 5 62 (.int .u64 (st i).m4) (fun _ h=>h.1) 13 ?_
     refine z 6 63 (pq g6 9) ?_
     refine z 7 64 (pq g6 9) ?_
     refine zl 8 65 (.int .u64 (st i).m0) (fun _ h=>h.1) 9 ?_
     refine z 9 10 (.int .u64 (st i).m1) ?_
     refine z 10 11 (.int .u64 (st i).m4) ?_
     refine z 11 12 (.int .u64 (st i).m0) ?_
     refine bg (ab (aE [(0,.int .u64 n0),(1,.slice ao n c),(5,pg g0),(6,.slice a i d),(7,.int .i64 (i:Int)),(8,pg g6),(9,pg g9),(10,.int .u64 (st i).m1),(11,.int .u64 (st i).m4),(12,.int .u64 (st i).m0),(13,.int .u64 0),(24,.int .i64 (i:Int)),(25,.slice ao n c),(26,.int .i64 ((n:Nat):Int)),(27,.bool true),(30,.slice ao n c),(31,.int .i64 (i:Int)),(32,pq pb (po_ + i * 16)),(33,.agg #[.int .i64 (st i).w,.int .i64 (st i).k,.int .u64 (st i).n,.int .u64 (st i).u0,.int .u64 (st i).u1,.int .u64 (st i).u2,.int .u64 (st i).u3,.int .u64 (st i).u4,.int .u64 (st i).u5,.int .u64 (st i).m0,.int .u64 (st i).m1,.int .u64 (st i).m2,.int .u64 (st i).m3,.int .u64 (st i).m4,.int .u64 (st i).m5,.slice (Sq.a (st i)) (Sq.l (st i)) (Sq.c (st i))]),(34,.int .u64 n0),(35,.int .i64 (i:Int)),(36,.int .u64 (i:Int)),(37,.int .u64 (n0 + (i:Int))),(38,.agg #[.int .u64 (n0 + (i:Int)),.int .i64 12]),(39,pq g6 3),(40,pq g6 4),(41,.int .u64 (st i).u1),(42,pq g6 3),(43,pq g6 6),(44,.int .u64 (st i).u3),(45,pq g6 3),(46,pq g6 3),(47,.int .u64 (st i).u0),(48,pg g6),(49,.int .i64 (st i).w),(50,.int .i64 (Int.tmod ((st i).w) 2)),(51,.bool false),(56,pq g9 1),(57,pq g6 9),(58,pq g6 10),(59,.int .u64 (st i).m1),(60,pq g6 9),(61,pq g6 13),(62,.int .u64 (st i).m4),(63,pq g6 9),(64,pq g6 9),(65,.int .u64 (st i).m0)] (by kernel_rfl) ?_));refine ah (t 66 (pg g0) ?_);refine t 67 (pq g6 9) ?_
     refine tlr 68 [.int .u64 (st i).m0,.int .u64 (st i).m1,.int .u64 (st i).m2,.int .u64 (st i).m3,.int .u64 (st i).m4,.int .u64 (st i).m5,.slice (Sq.a (st i)) (Sq.l (st i)) (Sq.c (st i))] Xg6 9 ?_
     refine tc 69 20 #[pg g0,.agg #[.int .u64 (st i).m0,.int .u64 (st i).m1,.int .u64 (st i).m2,.int .u64 (st i).m3,.int .u64 (st i).m4,.int .u64 (st i).m5,.slice (Sq.a (st i)) (Sq.l (st i)) (Sq.c (st i))]] (SxE.cast (kT A.sx rr.m0 rr.m1 rr.m4 (SS.nk hk_i BB (fun b hb=>Nat.le_trans hwB (A.sx.kb b hb))) (Nat.le_trans (h30 i hk_i) (by decide)) (by omega) (by omega)) rfl (congrArg (Value.int .u64) Q.next)) ?_
     rintro _ v16 ⟨rfl,K15,S,hK,hC⟩;refine⟨_,rfl,?_⟩;replace BB:=aD BB hC (fun b hb=>Nat.le_trans hwB (A.sx.kb b hb));replace nXg6:=opX Xg6 nXg6 hK hC;replace Xg6:=nXg6.1;replace nXg6:=nXg6.2;replace nXg9:=opX Xg9 nXg9 hK hC;replace Xg9:=nXg9.1;replace nXg9:=nXg9.2;replace U:=U.op hK hC;replace A:=A.op S hK hC;clear S hK hC;refine t 13 (.int .u64 (n0 + (i:Int))) ?_
     refine ag ?_
     exact jY (((st i).m1,(st i).m4,(st i).m0,13):Int × Int × Int × Int) ⟨BB,_,_,_,_,A.sx,by omega,by omega,Q.Bm c11 (by omega) (by omega) rr,hgtM Q h3 (by omega) (by omega) rr _,U,Xg9,nXg9,(memM c11).1,(memM c11).2⟩ (by kernel_rfl)
   clear Q h3;clear BB;clear A;clear U;clear Xg6;clear Xg9;rintro⟨xv,xd,xl,xk⟩ v17 ⟨BB,K,E,nn,NN,S,hnn,hNN,Q,h3,U,Xg9,nXg9,hme,hid5⟩;dsimp only at Xg9 hme hid5;have A:=S.at
   clear S;obtain⟨ee,hee⟩:∃ e:Qe,e=⟨n0 + (i:Int),xk,xl,xv,xd⟩:=⟨_,rfl⟩
   rw[<- hee] at hme
   have hnx:n0 + ((i + 1:Nat):Int)<=18446744073709551616:=by omega
   have hgo:=Q.dD ee hme;have hcp:=Q.cntP (by rw[eU]; omega) hme;subst hee;obtain⟨-,-,hul,huv,hud⟩:=hgo;obtain⟨m,hm,hm0⟩:=hcp;dsimp only at hul huv hud hm;refine af (ah (t 70 (.slice a i d) ?_));refine tlr 71 [.int .u64 (n0 + (i:Int)),.int .i64 xk] Xg9 0 ?_
   have lU:=U.lt;have lXg9:=Xg9.lt;refine ta 72 [.int .u64 (n0 + (i:Int)),.int .i64 xk] 64 (sg 1) ?_
   intro v18 g19 Xg19 hg19 B;have yg19:=Nat.le_trans BB.size hg19;have zg19:=Nat.le_trans A.size hg19;have nXg19:=A.new hg19;replace BB:=ai BB B;replace A:=A.keep B;replace U:=U.keep B;replace Xg9:=Xg9.keep B;clear B;have lXe:=Xg9.lt;obtain⟨z5,a5,c5,w5,hr5,U5,C5⟩:=app_ek (p:=(n0 + (i:Int),xk)) (q:=⟨g19,0,none⟩) 70 U BB.size (fun b hb=>A.sx.sa.lt hb) (by omega) (Xg19.cell (i:=0) rfl) (Xg19.cell (i:=1) rfl);refine tw 73 (.slice a5 (i + 1) c5) _ (yJ hr5) ?_
   replace BB:=aD BB C5 (fun b hb=>by obtain⟨rfl,h0⟩:=hb; exact U.low.resolve_left h0);have A2:=(Sx.ek A.sx U C5).at
   clear A;have A:=A2;clear A2;replace Xg9:=Xg9.chg C5 (fun hb=>hze.elim hb.2 (fun h=>h hb.1.symm));clear U;have U:=U5;rw[<- hid5] at U;clear U5 C5;clear Xg19;refine t 6 (.slice a5 (i + 1) c5) ?_
   refine ag (ab (af ?_));replace BB:=BB.drew;replace A:=A.drew;replace U:=U.drew;replace Xg9:=Xg9.drew;refine bW (fun w'=>Blk w' g9 [.int .u64 (n0 + (i:Int)),.int .i64 xk] 64/\Below w.heap.size w w') (fun _=>false) ⟨Xg9,BB⟩ ?_
   refine z 0 74 (.int .u64 (n0 + (i:Int))) ?_
   refine z 1 75 (pg g9) ?_
   refine zl 2 76 (.int .u64 (n0 + (i:Int))) (fun _ h=>h.1) 0 ?_
   refine zq 3 77 (.bool ((n0 + (i:Int):Int) != n0 + (i:Int))) (.bool false) (congrArg Value.bool (bne_self_eq_false _)) ?_
   refine z 4 78 (.bool false) ?_
   refine z 5 79 (pg g0) ?_
   refine z 6 80 (.int .u64 xd) ?_
   refine zlr 8 82 [.int .u64 (n0 + (i:Int)),.int .i64 xk] (fun _ h=>h.1) 0 ?_
   have lgnd21:=A.sx.sa.lt A.sx.sa.top;refine zc 7 81 32 #[pg g0,.int .u64 xd] (gl A.sx hud Q.keys (by omega) (by omega)) ?_
   rintro _ v22 ⟨dv20,nd21,rfl,UD,S,qnd21a,qnd21b,qnd21c,C⟩;have hC:=C.mono (fun b _ (e:b=g0)=>e▸A.sx.sa.top);replace BB:=aD BB hC (fun b hb=>Nat.le_trans hwB (A.sx.kb b hb));replace nXg9:=opX Xg9 nXg9 (fun _ h=>.inl h) hC;replace Xg9:=nXg9.1;replace nXg9:=nXg9.2;replace U:=U.op (fun _ h=>.inl h) hC;replace A:=A.op S (fun _ h=>.inl h) hC;clear S hC C;refine⟨_,rfl,⟨Xg9,BB⟩,?_⟩;refine zc 9 83 31 #[dv20,.agg #[.int .u64 (n0 + (i:Int)),.int .i64 xk]] (oZ true UD (Nat.le_trans qnd21c (by omega)) (Q.dueY hnx hme)) ?_
   rintro _ v23 ⟨rfl,B⟩;replace BB:=ai BB B;replace A:=A.keep B;replace U:=U.keep B;replace Xg9:=Xg9.keep B;replace UD:=UD.keep B;clear B;clear UD;refine⟨_,rfl,⟨Xg9,BB⟩,?_⟩;refine z 10 84 (.bool false) ?_
   refine z 11 85 (.bool false) ?_
   refine z 12 86 (.bool false) ?_
   refine z 13 87 (.int .u64 xd) ?_
   by_cases c24:(0:Int) < xd
   ·refine zq 14 88 (.bool (decide ((0:Int) < xd))) (.bool true) (congrArg Value.bool (decide_eq_true c24)) ?_
    refine z 15 89 (.bool true) ?_
    refine z 16 90 (pg g0) ?_
    refine z 17 91 (.int .u64 xd) ?_
    refine zq 18 92 (.int .u64 (IntKind.u64.wrap (xd - 1))) (.int .u64 (xd - 1)) (wu (by omega)) ?_
    refine zlr 20 94 [.int .u64 (n0 + (i:Int)),.int .i64 xk] (fun _ h=>h.1) 0 ?_
    have lgnd26:=A.sx.sa.lt A.sx.sa.top;refine zc 19 93 32 #[pg g0,.int .u64 (xd - 1)] (gl A.sx ⟨by have:=hud.1; omega,by have:=hud.2; omega⟩ Q.keys (by omega) (by omega)) ?_
    rintro _ v27 ⟨dv25,nd26,rfl,UE,S,qnd26a,qnd26b,qnd26c,C⟩;have hC:=C.mono (fun b _ (e:b=g0)=>e▸A.sx.sa.top);replace BB:=aD BB hC (fun b hb=>Nat.le_trans hwB (A.sx.kb b hb));replace nXg9:=opX Xg9 nXg9 (fun _ h=>.inl h) hC;replace Xg9:=nXg9.1;replace nXg9:=nXg9.2;replace U:=U.op (fun _ h=>.inl h) hC;replace A:=A.op S (fun _ h=>.inl h) hC;clear S hC C;refine⟨_,rfl,⟨Xg9,BB⟩,?_⟩;refine zc 21 95 31 #[dv25,.agg #[.int .u64 (n0 + (i:Int)),.int .i64 xk]] (oZ false UE (Nat.le_trans qnd26c (by omega)) (Q.dueN hnx hme (by show 0 < xd; omega))) ?_
    rintro _ v28 ⟨rfl,B⟩;replace BB:=ai BB B;replace A:=A.keep B;replace U:=U.keep B;replace Xg9:=Xg9.keep B;replace UE:=UE.keep B;clear B;clear UE;refine⟨_,rfl,⟨Xg9,BB⟩,?_⟩;refine z 22 96 (.bool false) ?_
    refine z 23 97 (.bool false) ?_
    refine z 24 98 (.bool false) ?_
    refine z 25 99 (pg g0) ?_
    refine z 26 100 (.int .u64 xv) ?_
    refine zlr 28 102 [.int .u64 (n0 + (i:Int)),.int .i64 xk] (fun _ h=>h.1) 0 ?_
    have lgnd30:=A.sx.sa.lt A.sx.sa.top;refine zc 27 101 33 #[pg g0,.int .u64 xv] (eY A.sx huv Q.keys (by omega) (by omega)) ?_
    rintro _ v31 ⟨dv29,nd30,rfl,UF,S,qnd30a,qnd30b,qnd30c,C⟩;have hC:=C.mono (fun b _ (e:b=g0)=>e▸A.sx.sa.top);replace BB:=aD BB hC (fun b hb=>Nat.le_trans hwB (A.sx.kb b hb));replace nXg9:=opX Xg9 nXg9 (fun _ h=>.inl h) hC;replace Xg9:=nXg9.1;replace nXg9:=nXg9.2;replace U:=U.op (fun _ h=>.inl h) hC;replace A:=A.op S (fun _ h=>.inl h) hC;clear S hC C;refine⟨_,rfl,⟨Xg9,BB⟩,?_⟩;refine zc 29 103 31 #[dv29,.agg #[.int .u64 (n0 + (i:Int)),.int .i64 xk]] (oZ true UF (Nat.le_trans qnd30c (by omega)) (Q.frmY hnx hme)) ?_
    rintro _ v32 ⟨rfl,B⟩;replace BB:=ai BB B;replace A:=A.keep B;replace U:=U.keep B;replace Xg9:=Xg9.keep B;replace UF:=UF.keep B;clear B;clear UF;refine⟨_,rfl,⟨Xg9,BB⟩,?_⟩;refine z 30 104 (.bool false) ?_
    refine z 31 105 (.bool false) ?_
    refine z 32 106 (.bool false) ?_
    refine z 33 107 (pg g0) ?_
    refine z 34 108 (.int .u64 xl) ?_
    refine z 35 109 (.int .u64 xv) ?_
    refine zc 36 110 34 #[pg g0,.int .u64 xl,.int .u64 xv] (SxE.cast (bU A.sx hul (by omega) (by omega)) rfl (congrArg (Value.int .u64) hm)) ?_
    rintro _ v34 ⟨rfl,K33,S,hK,hC⟩;replace BB:=aD BB hC (fun b hb=>Nat.le_trans hwB (A.sx.kb b hb));replace nXg9:=opX Xg9 nXg9 hK hC;replace Xg9:=nXg9.1;replace nXg9:=nXg9.2;replace U:=U.op hK hC;replace A:=A.op S hK hC;clear S hK hC;refine⟨_,rfl,⟨Xg9,BB⟩,?_⟩
    have t35:¬ ((m:Int)=0):=by omega
    refine zq 37 111 (.bool ((m:Int) == 0)) (.bool false) (congrArg Value.bool (beq_eq_false_iff_ne.2 t35)) ?_
    refine z 38 112 (.bool false) ?_
    refine bg (ab (aE [(0,.int .u64 n0),(1,.slice ao n c),(5,pg g0),(6,.slice a5 (i + 1) c5),(7,.int .i64 (i:Int)),(9,pg g9),(10,.int .u64 xv),(11,.int .u64 xd),(12,.int .u64 xl),(13,.int .u64 (n0 + (i:Int))),(70,.slice a i d),(71,.agg #[.int .u64 (n0 + (i:Int)),.int .i64 xk]),(72,sg 1 g19),(73,.slice a5 (i + 1) c5),(74,.int .u64 (n0 + (i:Int))),(75,pg g9),(76,.int .u64 (n0 + (i:Int))),(77,.bool false),(78,.bool false),(79,pg g0),(80,.int .u64 xd),(81,dv20),(82,.agg #[.int .u64 (n0 + (i:Int)),.int .i64 xk]),(83,.bool true),(84,.bool false),(85,.bool false),(86,.bool false),(87,.int .u64 xd),(88,.bool true),(89,.bool true),(90,pg g0),(91,.int .u64 xd),(92,.int .u64 (xd - 1)),(93,dv25),(94,.agg #[.int .u64 (n0 + (i:Int)),.int .i64 xk]),(95,.bool false),(96,.bool false),(97,.bool false),(98,.bool false),(99,pg g0),(100,.int .u64 xv),(101,dv29),(102,.agg #[.int .u64 (n0 + (i:Int)),.int .i64 xk]),(103,.bool true),(104,.bool false),(105,.bool false),(106,.bool false),(107,pg g0),(108,.int .u64 xl),(109,.int .u64 xv),(110,.int .u64 (m:Int)),(111,.bool false),(112,.bool false)] (by kernel_rfl) ?_));refine bM ?_
    refine aK (dw (ab (ah (t 28 (.int .i64 (i:Int)) ?_))));refine tq 29 (.int .i64 (IntKind.i64.wrap ((i:Int) + 1))) (.int .i64 ((i:Int) + 1)) (wi (by omega)) ?_
    refine t 7 (.int .i64 ((i:Int) + 1)) ?_
    refine ag ?_
    exact cU ((i + 1,a5,c5):Nat × Option Addr × Nat) (by show n - (i + 1) < n - i; omega) ⟨hk_i,BB,_,_,_,_,_,A.sx,by show _<=1 + (i + 1) * 10000; omega,by show _<=2 + (i + 1) * 20; omega,Q,h3,U⟩ (by kernel_rfl)
   ·refine zq 14 88 (.bool (decide ((0:Int) < xd))) (.bool false) (congrArg Value.bool (decide_eq_false c24)) ?_
    refine z 15 89 (.bool false) ?_
    refine zn 16 90 ?_
    refine zn 17 91 ?_
    refine zn 18 92 ?_
    refine zn 19 93 ?_
    refine zn 20 94 ?_
    refine zn 21 95 ?_
    refine z 22 96 (.bool false) ?_
    refine z 23 97 (.bool false) ?_
    refine z 24 98 (.bool false) ?_
    refine z 25 99 (pg g0) ?_
    refine z 26 100 (.int .u64 xv) ?_
    refine zlr 28 102 [.int .u64 (n0 + (i:Int)),.int .i64 xk] (fun _ h=>h.1) 0 ?_
    have lgnd37:=A.sx.sa.lt A.sx.sa.top;refine zc 27 101 33 #[pg g0,.int .u64 xv] (eY A.sx huv Q.keys (by omega) (by omega)) ?_
    rintro _ v38 ⟨dv36,nd37,rfl,UF,S,qnd37a,qnd37b,qnd37c,C⟩;have hC:=C.mono (fun b _ (e:b=g0)=>e▸A.sx.sa.top);replace BB:=aD BB hC (fun b hb=>Nat.le_trans hwB (A.sx.kb b hb));replace nXg9:=opX Xg9 nXg9 (fun _ h=>.inl h) hC;replace Xg9:=nXg9.1;replace nXg9:=nXg9.2;replace U:=U.op (fun _ h=>.inl h) hC;replace A:=A.op S (fun _ h=>.inl h) hC;clear S hC C;refine⟨_,rfl,⟨Xg9,BB⟩,?_⟩;refine zc 29 103 31 #[dv36,.agg #[.int .u64 (n0 + (i:Int)),.int .i64 xk]] (oZ true UF (Nat.le_trans qnd37c (by omega)) (Q.frmY hnx hme)) ?_
    rintro _ v39 ⟨rfl,B⟩;replace BB:=ai BB B;replace A:=A.keep B;replace U:=U.keep B;replace Xg9:=Xg9.keep B;replace UF:=UF.keep B;clear B;clear UF;refine⟨_,rfl,⟨Xg9,BB⟩,?_⟩;refine z 30 104 (.bool false) ?_
    refine z 31 105 (.bool false) ?_
    refine z 32 106 (.bool false) ?_
    refine z 33 107 (pg g0) ?_
    refine z 34 108 (.int .u64 xl) ?_
    refine z 35 109 (.int .u64 xv) ?_
    refine zc 36 110 34 #[pg g0,.int .u64 xl,.int .u64 xv] (SxE.cast (bU A.sx hul (by omega) (by omega)) rfl (congrArg (Value.int .u64) hm)) ?_
    rintro _ v41 ⟨rfl,K40,S,hK,hC⟩;replace BB:=aD BB hC (fun b hb=>Nat.le_trans hwB (A.sx.kb b hb));replace nXg9:=opX Xg9 nXg9 hK hC;replace Xg9:=nXg9.1;replace nXg9:=nXg9.2;replace U:=U.op hK hC;replace A:=A.op S hK hC;clear S hK hC;refine⟨_,rfl,⟨Xg9,BB⟩,?_⟩
    have t42:¬ ((m:Int)=0):=by omega
    refine zq 37 111 (.bool ((m:Int) == 0)) (.bool false) (congrArg Value.bool (beq_eq_false_iff_ne.2 t42)) ?_
    refine z 38 112 (.bool false) ?_
    refine bg (ab (aE [(0,.int .u64 n0),(1,.slice ao n c),(5,pg g0),(6,.slice a5 (i + 1) c5),(7,.int .i64 (i:Int)),(9,pg g9),(10,.int .u64 xv),(11,.int .u64 xd),(12,.int .u64 xl),(13,.int .u64 (n0 + (i:Int))),(70,.slice a i d),(71,.agg #[.int .u64 (n0 + (i:Int)),.int .i64 xk]),(72,sg 1 g19),(73,.slice a5 (i + 1) c5),(74,.int .u64 (n0 + (i:Int))),(75,pg g9),(76,.int .u64 (n0 + (i:Int))),(77,.bool false),(78,.bool false),(79,pg g0),(80,.int .u64 xd),(81,dv20),(82,.agg #[.int .u64 (n0 + (i:Int)),.int .i64 xk]),(83,.bool true),(84,.bool false),(85,.bool false),(86,.bool false),(87,.int .u64 xd),(88,.bool false),(89,.bool false),(90,undef),(91,undef),(92,undef),(93,undef),(94,undef),(95,undef),(96,.bool false),(97,.bool false),(98,.bool false),(99,pg g0),(100,.int .u64 xv),(101,dv36),(102,.agg #[.int .u64 (n0 + (i:Int)),.int .i64 xk]),(103,.bool true),(104,.bool false),(105,.bool false),(106,.bool false),(107,pg g0),(108,.int .u64 xl),(109,.int .u64 xv),(110,.int .u64 (m:Int)),(111,.bool false),(112,.bool false)] (by kernel_rfl) ?_));refine bM ?_
    refine aK (dw (ab (ah (t 28 (.int .i64 (i:Int)) ?_))));refine tq 29 (.int .i64 (IntKind.i64.wrap ((i:Int) + 1))) (.int .i64 ((i:Int) + 1)) (wi (by omega)) ?_
    refine t 7 (.int .i64 ((i:Int) + 1)) ?_
    refine ag ?_
    exact cU ((i + 1,a5,c5):Nat × Option Addr × Nat) (by show n - (i + 1) < n - i; omega) ⟨hk_i,BB,_,_,_,_,_,A.sx,by show _<=1 + (i + 1) * 10000; omega,by show _<=2 + (i + 1) * 20; omega,Q,h3,U⟩ (by kernel_rfl)
  ·have hin:i=n:=by omega
   refine tq 27 (.bool (decide ((i:Int) < ((n:Nat):Int)))) (.bool false) (congrArg Value.bool (decide_eq_false ci)) ?_
   refine ag (ab (bM ?_));refine cX (cL (cL (fi (ab (af (af (ah (t 113 (pg g0) ?_))))))));have lgng:=A.sx.sa.lt A.sx.sa.top;refine tc 114 32 #[pg g0,.int .u64 18446744073709551615] (gl A.sx (by decide) Q.keys (by omega) (by omega)) ?_
   rintro _ v43 ⟨gv,ng,rfl,UG,S,qnga,qngb,qngc,C⟩;refine⟨_,rfl,?_⟩;have hC:=C.mono (fun b _ (e:b=g0)=>e▸A.sx.sa.top);replace BB:=aD BB hC (fun b hb=>Nat.le_trans hwB (A.sx.kb b hb));replace U:=U.op (fun _ h=>.inl h) hC;replace A:=A.op S (fun _ h=>.inl h) hC;clear S hC C;obtain⟨da,dc,rfl⟩:=UG.shape
   have hdl:(upto E (p14 18446744073709551615)).length=n:=by rw[Q.xO (by omega),eU,hin]
   rw[hdl] at UG ⊢;refine t 115 (.int .i64 ((n:Nat):Int)) ?_
   refine t 116 (.slice ao n c) ?_
   refine t 117 (.int .i64 ((n:Nat):Int)) ?_
   refine tq 118 (.bool (((n:Nat):Int) != ((n:Nat):Int))) (.bool false) (congrArg Value.bool (bne_self_eq_false _)) ?_
   refine ag (ab (bM ?_));refine aK (ab (af (af (ah (t 119 (.slice a i d) ?_)))));refine t 120 (.int .i64 ((i:Nat):Int)) ?_
   refine tq 121 (.int .i64 (IntKind.i64.wrap (((i:Nat):Int) - 1))) (.int .i64 (((i:Nat):Int) - 1)) (wi (by omega)) ?_
   refine t 14 (.int .i64 (((i:Nat):Int) - 1)) ?_
   refine ag (ab (aE [(5,pg g0),(6,.slice a i d),(14,.int .i64 (((i:Nat):Int) - 1))] (by kernel_rfl) ?_));refine aS ?_
   rw[hin] at Q U hnn hNN ⊢
   have hnx:n0 + (n:Int)<=18446744073709551616:=by omega
   have hptr:=U.ptr;refine fJ (fun k=>k) (fun(k:Nat)=>[(5,pg g0),(6,.slice a n d),(14,.int .i64 ((k:Int) - 1))]) (fun k w'=>k<=n/\Below w.heap.size w w'/\∃ K E nn NN,Sx Bz w' K g0 E [] nn NN/\nn<=3000000 + (n - k) * 10000/\NN<=3002 + (n - k) * 20/\Qs E (n0 + (n:Int)) (qes n0 st k)/\dC (chn E)=3/\EK w' K w.heap.size bz a n d (ids n0 st n)) n ⟨Nat.le_refl _,BB,_,_,_,_,A.sx,by omega,by omega,Q,h3,U⟩ (by kernel_rfl) ?_
   clear Q h3;clear BB;clear A;clear U;clear UG;rintro k v44 ⟨hk,BB,K,E,n9,N9,S,hn9,hN9,Q,h3,U⟩;have A:=S.at
   clear S;refine af (af (ah (t 122 (.int .i64 ((k:Int) - 1)) ?_)));by_cases ck:(0:Int)<=(k:Int) - 1
   ·obtain⟨j,hj⟩:∃ j,k=j + 1:=⟨k - 1,by omega⟩
    have hk_j:j < n:=by omega
    obtain⟨ej,hej⟩:∃ e,qe n0 (st j) j=e:=⟨_,rfl⟩
    rw[hj] at Q;obtain⟨d0,d1,d2,d3,d4,d5,d6⟩:=dropL Q h3 hnx (by omega) hej;refine tq 123 (.bool (decide ((0:Int)<=(k:Int) - 1))) (.bool true) (congrArg Value.bool (decide_eq_true ck)) ?_
    refine ag (ab (bu ?_));refine aK (ab (af (aS (af ?_))));replace BB:=BB.drew;replace A:=A.drew;replace U:=U.drew;refine bW (fun w'=>(w'.cell? ⟨bz,0 + j * 2,none⟩=some (.int .u64 ej.id)/\w'.cell? ⟨bz,0 + j * 2 + 1,none⟩=some (.int .i64 ej.k))) (fun _=>false) (U.tw hk_j hej) ?_
    refine z 0 126 (pg g0) ?_
    refine z 1 127 (.slice a n d) ?_
    refine zq 2 128 (.int .i64 ((k:Int) - 1)) (.int .i64 (j:Int)) (congrArg (Value.int .i64) (by omega)) ?_
    refine zr 3 129 (pq bz (0 + j * 2)) (fun _ h=>dE 2 bz 0 n d j hk_j hptr) ?_
    refine zr 4 130 (.agg #[.int .u64 ej.id,.int .i64 ej.k]) (fun _ h=>gp h.1 h.2) ?_
    refine zc 5 131 26 #[pg g0,.agg #[.int .u64 ej.id,.int .i64 ej.k]] (SxF.cast (bQ A.sx d0 (by omega) (by omega)) rfl (congrArg Value.bool d1)) ?_
    rintro _ v49 ⟨rfl,K45,n46,N47,S,qn46,qN47,hK,hC⟩;replace BB:=aD BB hC (fun b hb=>Nat.le_trans hwB (A.sx.kb b hb));replace U:=U.op hK hC;replace A:=A.op S hK hC;clear S hK hC;refine⟨_,rfl,(U.tw hk_j hej),?_⟩;refine z 6 132 (.bool false) ?_
    refine z 7 133 (.bool false) ?_
    refine z 8 134 (pg g0) ?_
    refine z 9 135 (.slice a n d) ?_
    refine zq 10 136 (.int .i64 ((k:Int) - 1)) (.int .i64 (j:Int)) (congrArg (Value.int .i64) (by omega)) ?_
    refine zr 11 137 (pq bz (0 + j * 2)) (fun _ h=>dE 2 bz 0 n d j hk_j hptr) ?_
    refine zr 12 138 (.agg #[.int .u64 ej.id,.int .i64 ej.k]) (fun _ h=>gp h.1 h.2) ?_
    refine zc 13 139 26 #[pg g0,.agg #[.int .u64 ej.id,.int .i64 ej.k]] (SxF.cast (bQ A.sx d0 (by omega) (by omega)) d4 (congrArg Value.bool d5)) ?_
    rintro _ v54 ⟨rfl,K50,n51,N52,S,qn51,qN52,hK,hC⟩;replace BB:=aD BB hC (fun b hb=>Nat.le_trans hwB (A.sx.kb b hb));replace U:=U.op hK hC;replace A:=A.op S hK hC;clear S hK hC;refine⟨_,rfl,(U.tw hk_j hej),?_⟩;refine z 14 140 (.bool false) ?_
    refine z 15 141 (.bool false) ?_
    refine z 16 142 (pg g0) ?_
    refine z 18 144 (.slice a n d) ?_
    refine zq 19 145 (.int .i64 ((k:Int) - 1)) (.int .i64 (j:Int)) (congrArg (Value.int .i64) (by omega)) ?_
    refine zr 20 146 (pq bz (0 + j * 2)) (fun _ h=>dE 2 bz 0 n d j hk_j hptr) ?_
    refine zr 21 147 (.agg #[.int .u64 ej.id,.int .i64 ej.k]) (fun _ h=>gp h.1 h.2) ?_
    have lgnh:=A.sx.sa.lt A.sx.sa.top;refine zc 17 143 32 #[pg g0,.int .u64 18446744073709551615] (gl A.sx (by decide) d2.keys (by omega) (by omega)) ?_
    rintro _ v55 ⟨hv,nh,rfl,UH,S,qnha,qnhb,qnhc,C⟩;have hC:=C.mono (fun b _ (e:b=g0)=>e▸A.sx.sa.top);replace BB:=aD BB hC (fun b hb=>Nat.le_trans hwB (A.sx.kb b hb));replace U:=U.op (fun _ h=>.inl h) hC;replace A:=A.op S (fun _ h=>.inl h) hC;clear S hC C;refine⟨_,rfl,(U.tw hk_j hej),?_⟩;refine zc 22 148 31 #[hv,.agg #[.int .u64 ej.id,.int .i64 ej.k]] (oZ false UH (Nat.le_trans qnhc (by omega)) d6) ?_
    rintro _ v56 ⟨rfl,B⟩;replace BB:=ai BB B;replace A:=A.keep B;replace U:=U.keep B;replace UH:=UH.keep B;clear B;clear UH;refine⟨_,rfl,(U.tw hk_j hej),?_⟩;refine z 23 149 (.bool false) ?_
    refine bg (ab (aE [(5,pg g0),(6,.slice a n d),(14,.int .i64 ((k:Int) - 1)),(122,.int .i64 ((k:Int) - 1)),(123,.bool true),(126,pg g0),(127,.slice a n d),(128,.int .i64 (j:Int)),(129,pq bz (0 + j * 2)),(130,.agg #[.int .u64 ej.id,.int .i64 ej.k]),(131,.bool true),(132,.bool false),(133,.bool false),(134,pg g0),(135,.slice a n d),(136,.int .i64 (j:Int)),(137,pq bz (0 + j * 2)),(138,.agg #[.int .u64 ej.id,.int .i64 ej.k]),(139,.bool false),(140,.bool false),(141,.bool false),(142,pg g0),(143,hv),(144,.slice a n d),(145,.int .i64 (j:Int)),(146,pq bz (0 + j * 2)),(147,.agg #[.int .u64 ej.id,.int .i64 ej.k]),(148,.bool false),(149,.bool false)] (by kernel_rfl) ?_));refine bM ?_
    refine aK (dw (ab (ah (t 124 (.int .i64 ((k:Int) - 1)) ?_))));refine tq 125 (.int .i64 (IntKind.i64.wrap ((k:Int) - 1 - 1))) (.int .i64 (((j:Nat):Int) - 1)) (congrArg (Value.int .i64) (by rw[IntKind.wrap_i64]; omega)) ?_
    refine t 14 (.int .i64 (((j:Nat):Int) - 1)) ?_
    refine ag ?_
    exact cU j (by omega) ⟨by omega,BB,_,_,_,_,A.sx,by omega,by omega,d2,d3,U⟩ (by kernel_rfl)
   ·have hk0:k=0:=by omega
    rw[hk0] at Q;refine tq 123 (.bool (decide ((0:Int)<=(k:Int) - 1))) (.bool false) (congrArg Value.bool (decide_eq_false ck)) ?_
    refine ag (ab (bM ?_));refine cX (cL (cL (fi (ab (af (ah (t 150 (pg g0) ?_)))))));refine tc 151 30 #[pg g0] (dumpP A.sx (by omega)) ?_
    rintro _ v57 ⟨dv,es,rfl,PD,eD,ZD,B⟩;refine⟨_,rfl,?_⟩
    have hE1:es.length=1:=by rw[<- List.length_map (f:=En.kl2),eD]; exact Q.lone h3
    obtain⟨sa,sc,rfl⟩:=PD.shape;rw[hE1];clear PD ZD;replace BB:=ai BB B;replace A:=A.keep B;replace U:=U.keep B;clear B;refine t 152 (.int .i64 1) ?_
    refine t 153 (.bool true) ?_
    refine t 4 (.bool true) ?_
    refine ag (ab (aI (aH (.bool true) (rs1 4 (by kernel_rfl) (by kernel_rfl)) ?_)));exact⟨rfl,BB⟩
end
end Qu
end Go.Proofs.YtliajmpchofiiaaGreat
