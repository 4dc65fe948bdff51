/- gleanlaw13.F1Exact. -/
import Derived.Test.YthfepflplbahkaaGreatDoorJaz
set_option maxRecDepth 100000
set_option maxHeartbeats 8000000
namespace Go.Proofs.YthfepflplbahkaaGreatDoor
namespace Fo
open Go.RowKit Go.Lib Pg Lim Gl Kv Bk Pw
attribute [local go_sem] Oper.semAt_some
set_option linter.unusedVariables false
set_option linter.unusedSimpArgs false
structure ExS where
 K:Nat->Prop
 E:aE
 R:Int->Int
 n:Nat
 N:Nat
 b0:Option Addr
 k0:Nat
 d0:Nat
 y0:Nat
 b2:Option Addr
 k2:Nat
 d2:Nat
 y2:Nat
 b3:Option Addr
 k3:Nat
 d3:Nat
 y3:Nat
 b4:Option Addr
 k4:Nat
 d4:Nat
 y4:Nat
 bc:Option Addr
 kc:Nat
 dc:Nat
 i:Nat
theorem pR {w:World} {tok xD:Int} {aD ao:Option Addr} {nD cD cnt V pb po:Nat} {aa:Nat->Option Addr} {ns cc:Nat->Nat} {xs:Nat->Int} (htok:0<=tok/\tok < 18446744073709551616) (hD:aT w aD nD cD xD) (DA:DK w ao cnt pb po aa ns cc xs):Calls Tryz.prog 4 #[.int .u64 tok,.agg #[.slice aD nD cD],.slice ao cnt V] w fun e w'=>e=.returned (.bool true)/\Below w.heap.size w w':=by
 obtain⟨nn,hnn⟩:∃ nn:Int,nn=1 + tok % 1000000000000000000:=⟨_,rfl⟩
 have hn1:1<=nn/\nn<=1000000000000000000:=by omega
 obtain⟨zD,hzD⟩:=xu hD;have hfew:=DA.few.1;have hx0:=hD.mL;have BB:=Below.refl w.heap.size w;refine aO (n:=136) Tryz.func4 rfl (by kernel_rfl) (by kernel_rfl) ?_
 refine ax (aA (ta 4 [.slice aD nD cD] 32 (pg) ?_));intro v1 g2 Xg2 hg2 B;have yg2:=Nat.le_trans BB.size hg2;replace BB:=aj BB B;clear B;refine t 6 (.bool false) ?_
 refine ay (ah (ax (ax (aA (tc 19 8 #[] (Bn) ?_)))));rintro _ v3 ⟨rfl,B⟩;refine⟨_,rfl,?_⟩;replace BB:=aj BB B;replace Xg2:=Xg2.keep B;clear B;refine t 20 (.bool false) ?_
 refine ay (ah (dV ?_));refine bW (ah (ax (ax (aA (t 21 (.slice ao cnt V) ?_)))));refine t 22 (.int .i64 ((cnt:Nat):Int)) ?_
 by_cases c4:(40:Int) < ((cnt:Nat):Int)
 ·refine tq 23 (.bool (decide ((40:Int) < ((cnt:Nat):Int)))) (.bool true) (congrArg Value.bool (decide_eq_true c4)) ?_
  refine t 24 (.bool true) ?_
  refine tn 25 ?_
  refine tn 26 ?_
  refine tn 27 ?_
  refine tn 28 ?_
  refine t 29 (.bool true) ?_
  refine ay (ah (aY [(0,.int .u64 tok),(2,.slice ao cnt V),(4,pg g2),(6,.bool false),(29,.bool true)] (by kernel_rfl) ?_));refine eU ?_
  refine ax (aA (t 6 (.bool true) ?_));refine ay (ah (aV (iJ (aX (.bool true) (rs1 6 (by kernel_rfl) (by kernel_rfl)) ?_))));exact⟨rfl,BB⟩
 ·refine tq 23 (.bool (decide ((40:Int) < ((cnt:Nat):Int)))) (.bool false) (congrArg Value.bool (decide_eq_false c4)) ?_
  refine t 24 (.bool false) ?_
  refine t 25 (pg g2) ?_
  refine tl 26 (.slice aD nD cD) Xg2 0 ?_
  refine t 27 (.int .i64 ((nD:Nat):Int)) ?_
  by_cases c5:(3:Int) < ((nD:Nat):Int)
  ·refine tq 28 (.bool (decide ((3:Int) < ((nD:Nat):Int)))) (.bool true) (congrArg Value.bool (decide_eq_true c5)) ?_
   refine t 29 (.bool true) ?_
   refine ay (ah (aY [(0,.int .u64 tok),(2,.slice ao cnt V),(4,pg g2),(6,.bool false),(29,.bool true)] (by kernel_rfl) ?_));refine eU ?_
   refine ax (aA (t 6 (.bool true) ?_));refine ay (ah (aV (iJ (aX (.bool true) (rs1 6 (by kernel_rfl) (by kernel_rfl)) ?_))));exact⟨rfl,BB⟩
  ·refine tq 28 (.bool (decide ((3:Int) < ((nD:Nat):Int)))) (.bool false) (congrArg Value.bool (decide_eq_false c5)) ?_
   refine t 29 (.bool false) ?_
   refine ay (ah (aY [(0,.int .u64 tok),(2,.slice ao cnt V),(4,pg g2),(6,.bool false),(29,.bool false)] (by kernel_rfl) ?_));refine dV ?_
   refine bW (ah (ax (aA (t 30 (.int .u64 tok) ?_))));refine tr 31 (.int .u64 (tok % 1000000000000000000)) (yG tok 1000000000000000000 htok ⟨by decide,by decide⟩) ?_
   refine tq 32 (.int .u64 (IntKind.u64.wrap (1 + tok % 1000000000000000000))) (.int .u64 nn) (congrArg (Value.int .u64) (by rw[IntKind.wrap_u64]; omega)) ?_
   refine t 7 (.int .u64 nn) ?_
   refine ay (ah (ax (aA ?_)));obtain⟨Bz,hBz⟩:∃ Bz,Bz=(v3).heap.size:=⟨_,rfl⟩
   have hwB:w.heap.size<=Bz:=by rw[hBz]; exact BB.size
   have lXg2:=Xg2.lt;refine tc 33 16 #[] (DP Bz hBz) ?_
   rintro _ v6 ⟨g0,K0,rfl,S0,hK0,B0⟩;refine⟨_,rfl,?_⟩;replace BB:=aj BB B0;replace Xg2:=Xg2.keep B0;clear B0;have U:=DU BB (B:=Bz) hwB S0;clear BB S0;replace U:=un_one U Xg2 (fun q=>by have h1:=hK0 _ q; have h2:=lXg2; omega) yg2 rfl;clear Xg2;refine t 8 (pg g0) ?_
   refine ay (ah (ax (aA (t 34 (pg g0) ?_))));refine t 35 (.int .u64 nn) ?_
   refine t 36 (.int .u64 nn) ?_
   refine tc 37 18 #[.int .u64 nn] (eOf (y:=nn) ⟨by omega,by omega⟩) ?_
   rintro _ v8 ⟨aq7,nq7,cq7,zq7,rfl,M,h,mq7,B⟩;refine⟨_,rfl,?_⟩;replace U:=U.num M h B;clear M h B;refine t 38 (.agg #[.int .u64 0,.int .u64 nn,.slice aq7 nq7 cq7,.bool false,.int .u64 0,.bool false,.int .u64 0,.slice none 0 0,.slice none 0 0,.slice none 0 0]) ?_
   refine tc 39 17 #[pg g0,.int .u64 16,.agg #[.int .u64 0,.int .u64 nn,.slice aq7 nq7 cq7,.bool false,.int .u64 0,.bool false,.int .u64 0,.slice none 0 0,.slice none 0 0,.slice none 0 0]] (nP U.sx (id:=16) ⟨by decide,by decide⟩ (U.nq 0 rfl).nk (by omega) (dm _ _).nk (by omega) (dm _ _).nk (by omega) (dm _ _).nk (by omega) (by omega) (by omega)) ?_
   rintro _ v15 ⟨aq9,nq9,cq9,zq9,aq10,nq10,cq10,zq10,aq11,nq11,cq11,zq11,K12,n13,N14,rfl,S,qn13,qN14,hK,hC,Q0,mq9,h0,Q1,mq10,h1,Q2,mq11,h2⟩;refine⟨_,rfl,?_⟩;have L:=U.lt;replace U:=(((U.op S hK hC).add L Q0 h0).add L Q1 h1).add L Q2 h2;clear L S hK hC Q0 h0 Q1 h1 Q2 h2;refine ta 9 [.int .u64 0,.int .u64 0,.slice none 0 0,.bool false,.int .u64 0,.bool false,.int .u64 0,.slice none 0 0,.slice none 0 0,.slice none 0 0] 39 (pg) ?_
   intro v16 g17 Xg17 hg17 B;replace U:=U.new Xg17 hg17 B;clear Xg17 hg17 B;refine ts (U.bk 0 rfl) 0 (.agg #[.int .u64 0,.int .u64 nn,.slice aq9 nq9 cq9,.bool false,.int .u64 0,.bool false,.int .u64 1,.slice none 0 0,.slice aq10 nq10 cq10,.slice aq11 nq11 cq11]) [.int .u64 0,.int .u64 nn,.slice aq9 nq9 cq9,.bool false,.int .u64 0,.bool false,.int .u64 1,.slice none 0 0,.slice aq10 nq10 cq10,.slice aq11 nq11 cq11] [.int .u64 0,.int .u64 nn,.slice aq9 nq9 cq9,.bool false,.int .u64 0,.bool false,.int .u64 1,.slice none 0 0,.slice aq10 nq10 cq10,.slice aq11 nq11 cq11] ?_
   intro v18 Y C;replace U:=U.put 0 rfl C Y (by decide);clear Y C;refine ay (ah (aY [(2,.slice ao cnt V),(4,pg g2),(6,.bool false),(7,.int .u64 nn),(8,pg g0),(9,pg g17)] (by kernel_rfl) ?_));refine ax (aA (t 40 (pg g0) ?_));refine tlr 41 [.int .u64 0,.int .u64 nn,.slice aq9 nq9 cq9,.bool false,.int .u64 0,.bool false,.int .u64 1,.slice none 0 0,.slice aq10 nq10 cq10,.slice aq11 nq11 cq11] (U.bk 0 rfl) 0 ?_
   refine tlr 42 [.slice aD nD cD] (U.bk 1 rfl) 0 ?_
   refine t 43 (.agg #[.slice aD nD cD,.int .u64 0,.slice none 0 0]) ?_
   have F1:=(zZ (id:=16) (by decide)).hold (by decide);refine tc 44 19 #[pg g0,.int .u64 16,.agg #[.int .u64 0,.int .u64 nn,.slice aq9 nq9 cq9,.bool false,.int .u64 0,.bool false,.int .u64 1,.slice none 0 0,.slice aq10 nq10 cq10,.slice aq11 nq11 cq11],.agg #[.slice aD nD cD,.int .u64 0,.slice none 0 0]] (HoE.cast (E':=dx (dx [] 16 0) 16 0) (p:=0) (xs:=xD) (jB U.sx (id:=16) ⟨by decide,by decide⟩ ⟨by omega,by omega⟩ (U.nq 2 rfl).nk (by omega) (dm _ _).nk (by omega) (U.nq 1 rfl).nk (by omega) (U.nq 0 rfl).nk (by omega) (U.raw hzD) (by omega) (dm _ _).nk (by omega) (by omega) (by omega)) (by decide) rfl (Int.mul_ediv_cancel _ (by unfold U36; omega))) ?_
   rintro _ v24 ⟨ad,ab,ac,zq19,u,v,r,zq20,K21,n22,N23,rfl,S,qn22,qN23,hK,hC,Q0,mq19,h0,Q1,mq20,h1⟩;refine⟨_,rfl,?_⟩;have L:=U.lt;replace U:=((U.op S hK hC).add L Q0 h0).add L Q1 h1;clear L S hK hC Q0 h0 Q1 h1;refine ta 10 [.slice none 0 0,.int .u64 0,.slice none 0 0] 54 (pg) ?_
   intro v25 J Xg26 hg26 B;replace U:=U.new Xg26 hg26 B;clear Xg26 hg26 B;refine ts (U.bk 0 rfl) 0 (.agg #[.slice ad ab ac,.int .u64 0,.slice u v r]) [.slice ad ab ac,.int .u64 0,.slice u v r] [.slice ad ab ac,.int .u64 0,.slice u v r] ?_
   intro v27 Y C;replace U:=U.put 0 rfl C Y (by decide);clear Y C;refine ay (ah (ax (aA (t 46 (pg g0) ?_))));refine tlr 47 [.int .u64 0,.int .u64 nn,.slice aq9 nq9 cq9,.bool false,.int .u64 0,.bool false,.int .u64 1,.slice none 0 0,.slice aq10 nq10 cq10,.slice aq11 nq11 cq11] (U.bk 1 rfl) 0 ?_
   refine tlr 48 [.slice ad ab ac,.int .u64 0,.slice u v r] (U.bk 0 rfl) 0 ?_
   refine tc 49 20 #[pg g0,.int .u64 16,.agg #[.int .u64 0,.int .u64 nn,.slice aq9 nq9 cq9,.bool false,.int .u64 0,.bool false,.int .u64 1,.slice none 0 0,.slice aq10 nq10 cq10,.slice aq11 nq11 cq11],.agg #[.slice ad ab ac,.int .u64 0,.slice u v r]] (qu.cast (c':=0) (V':=0) (qx U.sx F1 (U.nq 0 rfl) (by omega) (by simp) (by decide) (by decide) (by omega) (by omega)) rfl (by rw[uN,vg (Int.le_refl _)]; simp)) ?_
   rintro _ v29 ⟨aq28,nq28,cq28,zq28,rfl,S,C,Q,mq28,h⟩;refine⟨_,rfl,?_⟩;have L:=U.lt;replace U:=(U.ask S C).add L Q h;clear L S C Q h;refine t 45 (.tuple #[.agg #[.slice aq28 nq28 cq28],.int .i64 0]) ?_
   refine t 50 (.agg #[.slice aq28 nq28 cq28]) ?_
   refine t 51 (.int .i64 0) ?_
   refine ta 11 [.slice none 0 0] 32 (pg) ?_
   intro v30 g31 Xg31 hg31 B;replace U:=U.new Xg31 hg31 B;clear Xg31 hg31 B;refine ts (U.bk 0 rfl) 0 (.agg #[.slice aq28 nq28 cq28]) [.slice aq28 nq28 cq28] [.slice aq28 nq28 cq28] ?_
   intro v32 Y C;replace U:=U.put 0 rfl C Y (by decide);clear Y C;refine t 12 (.int .i64 0) ?_
   refine ay (ah (aY [(2,.slice ao cnt V),(6,.bool false),(7,.int .u64 nn),(8,pg g0),(9,pg g17),(10,pg J),(11,pg g31),(12,.int .i64 0)] (by kernel_rfl) ?_));refine ax (ax (aA (tlr 52 [.slice aq28 nq28 cq28] (U.bk 0 rfl) 0 ?_)));refine tc 53 21 #[.agg #[.slice aq28 nq28 cq28]] (dZ (b:=true) (U.nq 0 rfl).nat (by omega) rfl) ?_
   rintro _ v33 ⟨rfl,B⟩;refine⟨_,rfl,?_⟩;replace U:=U.keep B;clear B;refine t 54 (.bool false) ?_
   refine t 55 (.bool false) ?_
   refine t 56 (.int .i64 0) ?_
   refine t 57 (.bool false) ?_
   refine t 58 (.bool false) ?_
   refine ay (ah (dV ?_));refine bW (ah (ax (aA (t 13 (.slice none 0 0) ?_))));refine ay (ah (ax (ax (aA (t 14 (.int .i64 0) ?_)))));refine ay (ah (gU ?_));replace U:=U.nil;refine vh (fun(s:ExS)=>cnt - s.i) (fun(s:ExS)=>[(2,.slice ao cnt V),(7,.int .u64 nn),(8,pg g0),(9,pg g17),(10,pg J),(11,pg g31),(13,.slice s.b4 s.k4 s.d4),(14,.int .i64 (s.i:Int))]) (fun(s:ExS) w'=>(s.i<=cnt/\s.n<=200 + 100 * s.i/\s.N<=200 + 100 * s.i/\s.k0<=100 + s.i/\s.k2<=10 + s.i/\s.k3<=10 + s.i/\s.k4<=10 + 10 * s.i)/\Un w Bz g0 w' s.K s.E s.n s.N [(g17,[.int .u64 0,.int .u64 nn,.slice s.b0 s.k0 s.d0,.bool false,.int .u64 0,.bool false,.int .u64 ((s.i:Int) + 1),.slice none 0 0,.slice s.b2 s.k2 s.d2,.slice s.b3 s.k3 s.d3],39),(J,[.slice ad ab ac,.int .u64 0,.slice u v r],54),(g31,[.slice s.bc s.kc s.dc],32)] [(s.y0,s.b0,s.k0,s.d0,nn * U36),(s.y2,s.b2,s.k2,s.d2,0),(s.y3,s.b3,s.k3,s.d3,0),(s.y4,s.b4,s.k4,s.d4,sT xs s.i),(zq20,u,v,r,xD)]/\Fs s.E 16 (s.i:Int) s.R [0] []/\s.R 0=0/\s.R (s.i:Int)=sQ nn xs s.i/\(∀ j,j < s.i->0<=xs j/\xs j<=18446744073709551616 ^ 4)) (⟨_,dx (dx [] 16 0) 16 0,fun _=>0,_,_,aq9,nq9,cq9,zq9,aq10,nq10,cq10,zq10,aq11,nq11,cq11,zq11,none,0,0,0,aq28,nq28,cq28,0⟩:ExS) ⟨⟨Nat.zero_le _,by (try dsimp only); omega,by (try dsimp only); omega,by (try dsimp only); omega,by (try dsimp only); omega,by (try dsimp only); omega,by (try dsimp only); omega⟩,U.sel [2,1,0] [6,5,4,0,2],F1,rfl,rfl,fun _ h=>absurd h (Nat.not_lt_zero _)⟩ (by kernel_rfl) ?_
   clear U;rintro⟨K,E,R,n9,N9,b0,k0,d0,y0,b2,k2,d2,y2,b3,k3,d3,y3,b4,k4,d4,y4,bc,kc,dc,i⟩ v34 ⟨⟨hi,hn9,hN9,hk0,hk2,hk3,hk4⟩,U,FQ,r0,rl,hsm⟩;dsimp only at *;refine ax (ax (aA (t 59 (.int .i64 (i:Int)) ?_)));refine t 60 (.slice ao cnt V) ?_
   refine t 61 (.int .i64 ((cnt:Nat):Int)) ?_
   by_cases ci:(i:Int) < ((cnt:Nat):Int)
   ·have hk_i:i < cnt:=by omega
    obtain⟨zi,hzi⟩:=xu (DA.nat i hk_i);refine tq 62 (.bool (decide ((i:Int) < ((cnt:Nat):Int)))) (.bool true) (congrArg Value.bool (decide_eq_true ci)) ?_
    refine ay (ah (eU ?_));refine bW (ah (ax (gU (ax (ax (aA (t 65 (.slice ao cnt V) ?_)))))));refine t 66 (.int .i64 (i:Int)) ?_
    refine tr 67 (pq pb (po + i * 1)) (qm 1 pb po cnt V i hk_i DA.ptr) ?_
    refine t 68 (pq pb (po + i * 1)) ?_
    refine tr 69 (.slice (aa i) (ns i) (cc i)) (vp (xW U.bb (DA.cell i hk_i))) ?_
    refine t 70 (.int .i64 ((ns i:Nat):Int)) ?_
    by_cases cs:(4:Int) < ((ns i:Nat):Int)
    ·refine tq 71 (.bool (decide ((4:Int) < ((ns i:Nat):Int)))) (.bool true) (congrArg Value.bool (decide_eq_true cs)) ?_
     refine ay (ah (eU ?_));refine ax (aA (t 6 (.bool true) ?_));refine ay (ah (aY [(2,.slice ao cnt V),(6,.bool true),(7,.int .u64 nn),(8,pg g0),(9,pg g17),(10,pg J),(11,pg g31),(13,.slice b4 k4 d4),(14,.int .i64 (i:Int)),(59,.int .i64 (i:Int)),(60,.slice ao cnt V),(61,.int .i64 ((cnt:Nat):Int)),(62,.bool true),(65,.slice ao cnt V),(66,.int .i64 (i:Int)),(67,pq pb (po + i * 1)),(68,pq pb (po + i * 1)),(69,.slice (aa i) (ns i) (cc i)),(70,.int .i64 ((ns i:Nat):Int)),(71,.bool true)] (by kernel_rfl) ?_));refine aV (iJ (D5 (iJ (iJ (D5 (iJ (aX (.bool true) (rs1 6 (by kernel_rfl) (by kernel_rfl)) ?_)))))));exact⟨rfl,U.bb⟩
    ·have hs4:ns i<=4:=by omega
     have hxi:0<=xs i/\xs i<=18446744073709551616 ^ 4:=⟨(DA.nat i hk_i).mL,Int.le_of_lt (Int.lt_of_lt_of_le (aT.ltF (DA.nat i hk_i)) (BI hs4))⟩
     have hsm':∀ j,j < i + 1->0<=xs j/\xs j<=18446744073709551616 ^ 4:=fun j hj=>by
      rcases Nat.lt_or_ge j i with q | q
      ·exact hsm j q
      ·obtain rfl:j=i:=by omega
       exact hxi
     have bd1:=DJ (n:=nn) (by omega) hsm' (i + 1) (Nat.le_refl _);have hdiv:=zu (n:=nn) (by omega) hxi.1
     have sqi:sQ nn xs (i + 1)=sQ nn xs i + xs i / nn:=rfl
     have hlim:R (i:Int) + xs i / nn < LIM:=by
      rw[rl,<- sqi]
      have h9:((i + 1:Nat):Int) * 18446744073709551616 ^ 4<=1000000 * 18446744073709551616 ^ 4:=Int.mul_le_mul_of_nonneg_right (by omega) (by decide);exact Ds (Int.le_trans bd1.2.2.2.1 (Int.le_trans bd1.2.2.2.2 h9))
     have r0':upd R ((i:Int) + 1) (R (i:Int) + xs i / nn) 0=0:=by unfold upd; rw[if_neg (by omega)]; exact r0
     have rl':upd R ((i:Int) + 1) (R (i:Int) + xs i / nn) ((i:Int) + 1)=sQ nn xs (i + 1):=by unfold upd; rw[if_pos rfl,rl,sqi]
     refine tq 71 (.bool (decide ((4:Int) < ((ns i:Nat):Int)))) (.bool false) (congrArg Value.bool (decide_eq_false cs)) ?_
     refine ay (ah (dV ?_));refine bW (ah (ax (aA (t 72 (.slice ao cnt V) ?_))));refine t 73 (.int .i64 (i:Int)) ?_
     refine tr 74 (pq pb (po + i * 1)) (qm 1 pb po cnt V i hk_i DA.ptr) ?_
     refine tr 75 (.agg #[.slice (aa i) (ns i) (cc i)]) (CI (xW U.bb (DA.cell i hk_i))) ?_
     refine t 76 (pq g17 7) ?_
     refine ts (U.bk 0 rfl) 7 (.agg #[.slice (aa i) (ns i) (cc i)]) [.slice (aa i) (ns i) (cc i)] [.int .u64 0,.int .u64 nn,.slice b0 k0 d0,.bool false,.int .u64 0,.bool false,.int .u64 ((i:Int) + 1),.slice (aa i) (ns i) (cc i),.slice b2 k2 d2,.slice b3 k3 d3] ?_
     intro v35 Y C;replace U:=U.put 0 rfl C Y (by decide);clear Y C;refine ay (ah (aY [(2,.slice ao cnt V),(7,.int .u64 nn),(8,pg g0),(9,pg g17),(10,pg J),(11,pg g31),(13,.slice b4 k4 d4),(14,.int .i64 (i:Int)),(59,.int .i64 (i:Int)),(60,.slice ao cnt V),(61,.int .i64 ((cnt:Nat):Int)),(62,.bool true),(65,.slice ao cnt V),(66,.int .i64 (i:Int)),(67,pq pb (po + i * 1)),(68,pq pb (po + i * 1)),(69,.slice (aa i) (ns i) (cc i)),(70,.int .i64 ((ns i:Nat):Int)),(71,.bool false),(72,.slice ao cnt V),(73,.int .i64 (i:Int)),(74,pq pb (po + i * 1)),(75,.agg #[.slice (aa i) (ns i) (cc i)]),(76,pq g17 7)] (by kernel_rfl) ?_));refine ax (aA (t 78 (pg g0) ?_));refine tlr 79 [.int .u64 0,.int .u64 nn,.slice b0 k0 d0,.bool false,.int .u64 0,.bool false,.int .u64 ((i:Int) + 1),.slice (aa i) (ns i) (cc i),.slice b2 k2 d2,.slice b3 k3 d3] (U.bk 0 rfl) 0 ?_
     have F2:=FQ.close (tk:=nn) (cur:=xs i) (by omega) hdiv.1 hlim;refine tc 80 22 #[pg g0,.int .u64 16,.agg #[.int .u64 0,.int .u64 nn,.slice b0 k0 d0,.bool false,.int .u64 0,.bool false,.int .u64 ((i:Int) + 1),.slice (aa i) (ns i) (cc i),.slice b2 k2 d2,.slice b3 k3 d3]] (ClE.cast (E':=eW E 16 ((i:Int) + 1) nn (xs i)) (pq:=(i:Int) + 1 + 1) (iz U.sx (id:=16) ⟨by decide,by decide⟩ ⟨by omega,by omega⟩ (U.nq 0 rfl).nk (by omega) (U.raw hzi) (by omega) (U.nq 1 rfl).nk (by omega) (U.nq 2 rfl).nk (by omega) (by omega) (by omega)) (by omega) rfl) ?_
     rintro _ v43 ⟨c,a,f,zq36,aq37,nq37,cq37,zq37,o,k,d,zq38,g,m,l,zq39,K40,n41,N42,rfl,S,qn41,qN42,hK,hC,Q0,mq36,h0,Q1,mq37,h1,Q2,mq38,h2,Q3,mq39,h3⟩;refine⟨_,rfl,?_⟩;have L:=U.lt;replace U:=((((U.op S hK hC).add L Q0 h0).add L Q1 h1).add L Q2 h2).add L Q3 h3;clear L S hK hC Q0 h0 Q1 h1 Q2 h2 Q3 h3;replace U:=U.val 2 rfl (if_neg (show ¬ nn=0 by omega));replace U:=U.val 1 rfl (if_neg (show ¬ nn=0 by omega));refine t 77 (.tuple #[.agg #[.int .u64 0,.int .u64 nn,.slice c a f,.bool false,.int .u64 0,.bool false,.int .u64 ((i:Int) + 1 + 1),.slice none 0 0,.slice o k d,.slice g m l],.agg #[.slice aq37 nq37 cq37]]) ?_
     refine t 81 (.agg #[.int .u64 0,.int .u64 nn,.slice c a f,.bool false,.int .u64 0,.bool false,.int .u64 ((i:Int) + 1 + 1),.slice none 0 0,.slice o k d,.slice g m l]) ?_
     refine t 82 (.agg #[.slice aq37 nq37 cq37]) ?_
     refine ts (U.bk 0 rfl) 0 (.agg #[.int .u64 0,.int .u64 nn,.slice c a f,.bool false,.int .u64 0,.bool false,.int .u64 ((i:Int) + 1 + 1),.slice none 0 0,.slice o k d,.slice g m l]) [.int .u64 0,.int .u64 nn,.slice c a f,.bool false,.int .u64 0,.bool false,.int .u64 ((i:Int) + 1 + 1),.slice none 0 0,.slice o k d,.slice g m l] [.int .u64 0,.int .u64 nn,.slice c a f,.bool false,.int .u64 0,.bool false,.int .u64 ((i:Int) + 1 + 1),.slice none 0 0,.slice o k d,.slice g m l] ?_
     intro v44 Y C;replace U:=U.put 0 rfl C Y (by decide);clear Y C;refine ay (ah (ax (aA (t 83 (.slice b4 k4 d4) ?_))));refine t 84 (.slice ao cnt V) ?_
     refine t 85 (.int .i64 (i:Int)) ?_
     refine tr 86 (pq pb (po + i * 1)) (qm 1 pb po cnt V i hk_i DA.ptr) ?_
     refine t 87 (pq pb (po + i * 1)) ?_
     refine tr 88 (.slice (aa i) (ns i) (cc i)) (vp (xW U.bb (DA.cell i hk_i))) ?_
     refine tc 89 23 #[.slice b4 k4 d4,.slice (aa i) (ns i) (cc i)] (uG (U.nq 7 rfl).nat (U.raw hzi).nat (by omega) (by omega)) ?_
     rintro _ v46 ⟨T,P,O,zq45,rfl,M,h,mq45,B⟩;refine⟨_,rfl,?_⟩;replace U:=U.num M h B;clear M h B;refine t 13 (.slice T P O) ?_
     refine ay (ah (aY [(2,.slice ao cnt V),(7,.int .u64 nn),(8,pg g0),(9,pg g17),(10,pg J),(11,pg g31),(13,.slice T P O),(14,.int .i64 (i:Int)),(59,.int .i64 (i:Int)),(60,.slice ao cnt V),(61,.int .i64 ((cnt:Nat):Int)),(62,.bool true),(65,.slice ao cnt V),(66,.int .i64 (i:Int)),(67,pq pb (po + i * 1)),(68,pq pb (po + i * 1)),(69,.slice (aa i) (ns i) (cc i)),(70,.int .i64 ((ns i:Nat):Int)),(71,.bool false),(72,.slice ao cnt V),(73,.int .i64 (i:Int)),(74,pq pb (po + i * 1)),(75,.agg #[.slice (aa i) (ns i) (cc i)]),(76,pq g17 7),(77,.tuple #[.agg #[.int .u64 0,.int .u64 nn,.slice c a f,.bool false,.int .u64 0,.bool false,.int .u64 ((i:Int) + 1 + 1),.slice none 0 0,.slice o k d,.slice g m l],.agg #[.slice aq37 nq37 cq37]]),(78,pg g0),(79,.agg #[.int .u64 0,.int .u64 nn,.slice b0 k0 d0,.bool false,.int .u64 0,.bool false,.int .u64 ((i:Int) + 1),.slice (aa i) (ns i) (cc i),.slice b2 k2 d2,.slice b3 k3 d3]),(80,.tuple #[.agg #[.int .u64 0,.int .u64 nn,.slice c a f,.bool false,.int .u64 0,.bool false,.int .u64 ((i:Int) + 1 + 1),.slice none 0 0,.slice o k d,.slice g m l],.agg #[.slice aq37 nq37 cq37]]),(81,.agg #[.int .u64 0,.int .u64 nn,.slice c a f,.bool false,.int .u64 0,.bool false,.int .u64 ((i:Int) + 1 + 1),.slice none 0 0,.slice o k d,.slice g m l]),(83,.slice b4 k4 d4),(84,.slice ao cnt V),(85,.int .i64 (i:Int)),(86,pq pb (po + i * 1)),(87,pq pb (po + i * 1)),(88,.slice (aa i) (ns i) (cc i)),(89,.slice T P O)] (by kernel_rfl) ?_));refine ax (aA (t 91 (pg g0) ?_));refine tlr 92 [.int .u64 0,.int .u64 nn,.slice c a f,.bool false,.int .u64 0,.bool false,.int .u64 ((i:Int) + 1 + 1),.slice none 0 0,.slice o k d,.slice g m l] (U.bk 0 rfl) 0 ?_
     refine tlr 93 [.slice ad ab ac,.int .u64 0,.slice u v r] (U.bk 1 rfl) 0 ?_
     obtain⟨cl,hcl⟩:∃ cl,cl=xD * sQ nn xs (i + 1) / U36:=⟨_,rfl⟩
     refine tc 94 20 #[pg g0,.int .u64 16,.agg #[.int .u64 0,.int .u64 nn,.slice c a f,.bool false,.int .u64 0,.bool false,.int .u64 ((i:Int) + 1 + 1),.slice none 0 0,.slice o k d,.slice g m l],.agg #[.slice ad ab ac,.int .u64 0,.slice u v r]] (qu.cast (c':=0) (V':=cl) (qx U.sx F2 (U.nq 9 rfl) (by omega) (by simp) (by omega) (by decide) (by omega) (by omega)) rfl (by rw[uN,vg (by rw[r0',rl']; exact bd1.1.1),r0',rl',Int.sub_zero,hcl])) ?_
     rintro _ v48 ⟨F,A,D,zq47,rfl,S,C,Q,mq47,h⟩;refine⟨_,rfl,?_⟩;have L:=U.lt;replace U:=(U.ask S C).add L Q h;clear L S C Q h;refine t 90 (.tuple #[.agg #[.slice F A D],.int .i64 0]) ?_
     refine t 95 (.agg #[.slice F A D]) ?_
     refine t 96 (.int .i64 0) ?_
     refine ts (U.bk 2 rfl) 0 (.agg #[.slice F A D]) [.slice F A D] [.slice F A D] ?_
     intro v49 Y C;replace U:=U.put 2 rfl C Y (by decide);clear Y C;refine ay (ah (ax (aA (t 97 (pq J 2) ?_))));refine t 98 (pq J 2) ?_
     refine tl 99 (.slice u v r) (U.bk 1 rfl) 2 ?_
     refine t 100 (.slice T P O) ?_
     refine tc 101 24 #[.slice u v r,.slice T P O] (oG (U.nq 10 rfl).nat (U.nq 1 rfl).nat (by omega) (by omega)) ?_
     rintro _ v51 ⟨X,W,Z,zq50,rfl,M,h,mq50,B⟩;refine⟨_,rfl,?_⟩;replace U:=U.num M h B;clear M h B;refine t 15 (.slice X W Z) ?_
     refine ay (ah (aY [(2,.slice ao cnt V),(7,.int .u64 nn),(8,pg g0),(9,pg g17),(10,pg J),(11,pg g31),(13,.slice T P O),(14,.int .i64 (i:Int)),(15,.slice X W Z),(59,.int .i64 (i:Int)),(60,.slice ao cnt V),(61,.int .i64 ((cnt:Nat):Int)),(62,.bool true),(65,.slice ao cnt V),(66,.int .i64 (i:Int)),(67,pq pb (po + i * 1)),(68,pq pb (po + i * 1)),(69,.slice (aa i) (ns i) (cc i)),(70,.int .i64 ((ns i:Nat):Int)),(71,.bool false),(72,.slice ao cnt V),(73,.int .i64 (i:Int)),(74,pq pb (po + i * 1)),(75,.agg #[.slice (aa i) (ns i) (cc i)]),(76,pq g17 7),(77,.tuple #[.agg #[.int .u64 0,.int .u64 nn,.slice c a f,.bool false,.int .u64 0,.bool false,.int .u64 ((i:Int) + 1 + 1),.slice none 0 0,.slice o k d,.slice g m l],.agg #[.slice aq37 nq37 cq37]]),(78,pg g0),(79,.agg #[.int .u64 0,.int .u64 nn,.slice b0 k0 d0,.bool false,.int .u64 0,.bool false,.int .u64 ((i:Int) + 1),.slice (aa i) (ns i) (cc i),.slice b2 k2 d2,.slice b3 k3 d3]),(80,.tuple #[.agg #[.int .u64 0,.int .u64 nn,.slice c a f,.bool false,.int .u64 0,.bool false,.int .u64 ((i:Int) + 1 + 1),.slice none 0 0,.slice o k d,.slice g m l],.agg #[.slice aq37 nq37 cq37]]),(81,.agg #[.int .u64 0,.int .u64 nn,.slice c a f,.bool false,.int .u64 0,.bool false,.int .u64 ((i:Int) + 1 + 1),.slice none 0 0,.slice o k d,.slice g m l]),(83,.slice b4 k4 d4),(84,.slice ao cnt V),(85,.int .i64 (i:Int)),(86,pq pb (po + i * 1)),(87,pq pb (po + i * 1)),(88,.slice (aa i) (ns i) (cc i)),(89,.slice T P O),(90,.tuple #[.agg #[.slice F A D],.int .i64 0]),(91,pg g0),(92,.agg #[.int .u64 0,.int .u64 nn,.slice c a f,.bool false,.int .u64 0,.bool false,.int .u64 ((i:Int) + 1 + 1),.slice none 0 0,.slice o k d,.slice g m l]),(93,.agg #[.slice ad ab ac,.int .u64 0,.slice u v r]),(94,.tuple #[.agg #[.slice F A D],.int .i64 0]),(95,.agg #[.slice F A D]),(97,pq J 2),(98,pq J 2),(99,.slice u v r),(100,.slice T P O),(101,.slice X W Z)] (by kernel_rfl) ?_));refine ax (aA (tc 102 18 #[.int .u64 1] (eOf (y:=1) ⟨by omega,by omega⟩) ?_));rintro _ v53 ⟨H,G,I,zq52,rfl,M,h,mq52,B⟩;refine⟨_,rfl,?_⟩;replace U:=U.num M h B;clear M h B;refine t 103 (.slice H G I) ?_
     refine t 16 (.slice H G I) ?_
     refine ay (ah (ax ?_));replace U:=U.drew;refine cy (fun w'=>Blk w' g31 [.slice F A D] 32) (fun _=>false) (U.bk 2 rfl) ?_
     refine z 0 104 (pg g31) ?_
     refine zl 1 105 (.slice F A D) (fun _ h=>h) 0 ?_
     refine z 2 106 (.int .u64 nn) ?_
     refine z 5 109 (.slice H G I) ?_
     refine zc 3 107 25 #[.int .u64 nn] (wP (x:=nn) (by omega) (by omega)) ?_
     rintro _ v55 ⟨aq54,nq54,cq54,zq54,rfl,M,h,mq54,B⟩;replace U:=U.num M h B;clear M h B;refine⟨_,rfl,(U.bk 2 rfl),?_⟩;refine zc 4 108 24 #[.slice F A D,.slice aq54 nq54 cq54] (oG (U.nq 3 rfl).nat (U.nq 0 rfl).nat (by omega) (by omega)) ?_
     rintro _ v57 ⟨aq56,nq56,cq56,zq56,rfl,M,h,mq56,B⟩;replace U:=U.num M h B;clear M h B;refine⟨_,rfl,(U.bk 2 rfl),?_⟩;refine zc 6 110 24 #[.slice aq56 nq56 cq56,.slice H G I] (oG (U.nq 0 rfl).nat (U.nq 2 rfl).nat (by omega) (by omega)) ?_
     rintro _ v59 ⟨af,ae,ag,zq58,rfl,M,h,mq58,B⟩;replace U:=U.num M h B;clear M h B;refine⟨_,rfl,(U.bk 2 rfl),?_⟩;refine z 7 17 (.slice af ae ag) ?_
     refine bC (ah (ax ?_));replace U:=U.drew;refine cy (fun w'=>Blk w' J [.slice ad ab ac,.int .u64 0,.slice u v r] 54) (fun _=>false) (U.bk 1 rfl) ?_
     refine z 0 111 (pq J 2) ?_
     refine z 1 112 (pq J 2) ?_
     refine zl 2 113 (.slice u v r) (fun _ h=>h) 2 ?_
     refine z 3 114 (.int .i64 (i:Int)) ?_
     refine zq 4 115 (.int .i64 (IntKind.i64.wrap ((i:Int) + 1))) (.int .i64 ((i:Int) + 1)) (wi (by omega)) ?_
     refine zr 5 116 (.int .u64 ((i:Int) + 1)) (fun _ _=>run_cv ((i:Int) + 1) ⟨by omega,by omega⟩) ?_
     refine z 8 119 (.slice H G I) ?_
     refine z 10 121 (.int .u64 nn) ?_
     refine zc 6 117 25 #[.int .u64 ((i:Int) + 1)] (wP (x:=(i:Int) + 1) (by omega) (by omega)) ?_
     rintro _ v61 ⟨aq60,nq60,cq60,zq60,rfl,M,h,mq60,B⟩;replace U:=U.num M h B;clear M h B;refine⟨_,rfl,(U.bk 1 rfl),?_⟩;refine zc 7 118 24 #[.slice u v r,.slice aq60 nq60 cq60] (oG (U.nq 16 rfl).nat (U.nq 0 rfl).nat (by omega) (by omega)) ?_
     rintro _ v63 ⟨aq62,nq62,cq62,zq62,rfl,M,h,mq62,B⟩;replace U:=U.num M h B;clear M h B;refine⟨_,rfl,(U.bk 1 rfl),?_⟩;refine zc 9 120 23 #[.slice aq62 nq62 cq62,.slice H G I] (uG (U.nq 0 rfl).nat (U.nq 5 rfl).nat (by omega) (by omega)) ?_
     rintro _ v65 ⟨aq64,nq64,cq64,zq64,rfl,M,h,mq64,B⟩;replace U:=U.num M h B;clear M h B;refine⟨_,rfl,(U.bk 1 rfl),?_⟩;refine zc 11 122 25 #[.int .u64 nn] (wP (x:=nn) (by omega) (by omega)) ?_
     rintro _ v67 ⟨aq66,nq66,cq66,zq66,rfl,M,h,mq66,B⟩;replace U:=U.num M h B;clear M h B;refine⟨_,rfl,(U.bk 1 rfl),?_⟩;refine zc 12 123 24 #[.slice aq64 nq64 cq64,.slice aq66 nq66 cq66] (oG (U.nq 1 rfl).nat (U.nq 0 rfl).nat (by omega) (by omega)) ?_
     rintro _ v69 ⟨aq68,nq68,cq68,zq68,rfl,M,h,mq68,B⟩;replace U:=U.num M h B;clear M h B;refine⟨_,rfl,(U.bk 1 rfl),?_⟩;refine z 13 18 (.slice aq68 nq68 cq68) ?_
     refine bC (ah (aY [(2,.slice ao cnt V),(7,.int .u64 nn),(8,pg g0),(9,pg g17),(10,pg J),(11,pg g31),(13,.slice T P O),(14,.int .i64 (i:Int)),(15,.slice X W Z),(16,.slice H G I),(17,.slice af ae ag),(18,.slice aq68 nq68 cq68),(59,.int .i64 (i:Int)),(60,.slice ao cnt V),(61,.int .i64 ((cnt:Nat):Int)),(62,.bool true),(65,.slice ao cnt V),(66,.int .i64 (i:Int)),(67,pq pb (po + i * 1)),(68,pq pb (po + i * 1)),(69,.slice (aa i) (ns i) (cc i)),(70,.int .i64 ((ns i:Nat):Int)),(71,.bool false),(72,.slice ao cnt V),(73,.int .i64 (i:Int)),(74,pq pb (po + i * 1)),(75,.agg #[.slice (aa i) (ns i) (cc i)]),(76,pq g17 7),(77,.tuple #[.agg #[.int .u64 0,.int .u64 nn,.slice c a f,.bool false,.int .u64 0,.bool false,.int .u64 ((i:Int) + 1 + 1),.slice none 0 0,.slice o k d,.slice g m l],.agg #[.slice aq37 nq37 cq37]]),(78,pg g0),(79,.agg #[.int .u64 0,.int .u64 nn,.slice b0 k0 d0,.bool false,.int .u64 0,.bool false,.int .u64 ((i:Int) + 1),.slice (aa i) (ns i) (cc i),.slice b2 k2 d2,.slice b3 k3 d3]),(80,.tuple #[.agg #[.int .u64 0,.int .u64 nn,.slice c a f,.bool false,.int .u64 0,.bool false,.int .u64 ((i:Int) + 1 + 1),.slice none 0 0,.slice o k d,.slice g m l],.agg #[.slice aq37 nq37 cq37]]),(81,.agg #[.int .u64 0,.int .u64 nn,.slice c a f,.bool false,.int .u64 0,.bool false,.int .u64 ((i:Int) + 1 + 1),.slice none 0 0,.slice o k d,.slice g m l]),(83,.slice b4 k4 d4),(84,.slice ao cnt V),(85,.int .i64 (i:Int)),(86,pq pb (po + i * 1)),(87,pq pb (po + i * 1)),(88,.slice (aa i) (ns i) (cc i)),(89,.slice T P O),(90,.tuple #[.agg #[.slice F A D],.int .i64 0]),(91,pg g0),(92,.agg #[.int .u64 0,.int .u64 nn,.slice c a f,.bool false,.int .u64 0,.bool false,.int .u64 ((i:Int) + 1 + 1),.slice none 0 0,.slice o k d,.slice g m l]),(93,.agg #[.slice ad ab ac,.int .u64 0,.slice u v r]),(94,.tuple #[.agg #[.slice F A D],.int .i64 0]),(95,.agg #[.slice F A D]),(97,pq J 2),(98,pq J 2),(99,.slice u v r),(100,.slice T P O),(101,.slice X W Z),(102,.agg #[.slice H G I]),(103,.slice H G I),(104,pg g31),(105,.slice F A D),(106,.int .u64 nn),(107,.slice aq54 nq54 cq54),(108,.slice aq56 nq56 cq56),(109,.slice H G I),(110,.slice af ae ag),(111,pq J 2),(112,pq J 2),(113,.slice u v r),(114,.int .i64 (i:Int)),(115,.int .i64 ((i:Int) + 1)),(116,.int .u64 ((i:Int) + 1)),(117,.slice aq60 nq60 cq60),(118,.slice aq62 nq62 cq62),(119,.slice H G I),(120,.slice aq64 nq64 cq64),(121,.int .u64 nn),(122,.slice aq66 nq66 cq66),(123,.slice aq68 nq68 cq68)] (by kernel_rfl) ?_));refine ax (aA (t 124 (.slice af ae ag) ?_));refine t 125 (.slice X W Z) ?_
     have hle:(cl * nn) * (1 * U36)<=xD * ((sT xs i) + (xs i)):=by rw[hcl,Int.one_mul]; exact ex_lo hx0 (by omega) bd1.2.1
     refine tc 126 26 #[.slice af ae ag,.slice X W Z] (cmpLe (U.nq 5 rfl).nat (U.nq 9 rfl).nat (by omega) (by omega) hle) ?_
     rintro _ v70 ⟨r1,rfl,hr1,B⟩;refine⟨_,rfl,?_⟩;replace U:=U.keep B;clear B
     have t71:¬ ((0:Int) < r1):=by omega
     refine tq 127 (.bool (decide ((0:Int) < r1))) (.bool false) (congrArg Value.bool (decide_eq_false t71)) ?_
     refine t 128 (.bool false) ?_
     refine t 129 (.slice af ae ag) ?_
     refine t 130 (.slice aq68 nq68 cq68) ?_
     refine tc 131 23 #[.slice af ae ag,.slice aq68 nq68 cq68] (uG (U.nq 5 rfl).nat (U.nq 0 rfl).nat (by omega) (by omega)) ?_
     rintro _ v73 ⟨aq72,nq72,cq72,zq72,rfl,M,h,mq72,B⟩;refine⟨_,rfl,?_⟩;replace U:=U.num M h B;clear M h B;refine t 132 (.slice X W Z) ?_
     have hlt:xD * ((sT xs i) + (xs i)) < ((cl * nn) * (1 * U36)) + (((xD * ((i:Int) + 1)) + (1 * U36)) * nn):=by rw[hcl,Int.one_mul]; exact ex_hi hx0 (by omega) (by omega) bd1.2.2.1
     refine tc 133 26 #[.slice aq72 nq72 cq72,.slice X W Z] (cmpGt (U.nq 0 rfl).nat (U.nq 10 rfl).nat (by omega) (by omega) hlt) ?_
     rintro _ v74 ⟨rfl,B⟩;refine⟨_,rfl,?_⟩;replace U:=U.keep B;clear B;refine t 134 (.bool false) ?_
     refine t 135 (.bool false) ?_
     refine ay (ah (aY [(2,.slice ao cnt V),(7,.int .u64 nn),(8,pg g0),(9,pg g17),(10,pg J),(11,pg g31),(13,.slice T P O),(14,.int .i64 (i:Int)),(15,.slice X W Z),(16,.slice H G I),(17,.slice af ae ag),(18,.slice aq68 nq68 cq68),(59,.int .i64 (i:Int)),(60,.slice ao cnt V),(61,.int .i64 ((cnt:Nat):Int)),(62,.bool true),(65,.slice ao cnt V),(66,.int .i64 (i:Int)),(67,pq pb (po + i * 1)),(68,pq pb (po + i * 1)),(69,.slice (aa i) (ns i) (cc i)),(70,.int .i64 ((ns i:Nat):Int)),(71,.bool false),(72,.slice ao cnt V),(73,.int .i64 (i:Int)),(74,pq pb (po + i * 1)),(75,.agg #[.slice (aa i) (ns i) (cc i)]),(76,pq g17 7),(77,.tuple #[.agg #[.int .u64 0,.int .u64 nn,.slice c a f,.bool false,.int .u64 0,.bool false,.int .u64 ((i:Int) + 1 + 1),.slice none 0 0,.slice o k d,.slice g m l],.agg #[.slice aq37 nq37 cq37]]),(78,pg g0),(79,.agg #[.int .u64 0,.int .u64 nn,.slice b0 k0 d0,.bool false,.int .u64 0,.bool false,.int .u64 ((i:Int) + 1),.slice (aa i) (ns i) (cc i),.slice b2 k2 d2,.slice b3 k3 d3]),(80,.tuple #[.agg #[.int .u64 0,.int .u64 nn,.slice c a f,.bool false,.int .u64 0,.bool false,.int .u64 ((i:Int) + 1 + 1),.slice none 0 0,.slice o k d,.slice g m l],.agg #[.slice aq37 nq37 cq37]]),(81,.agg #[.int .u64 0,.int .u64 nn,.slice c a f,.bool false,.int .u64 0,.bool false,.int .u64 ((i:Int) + 1 + 1),.slice none 0 0,.slice o k d,.slice g m l]),(83,.slice b4 k4 d4),(84,.slice ao cnt V),(85,.int .i64 (i:Int)),(86,pq pb (po + i * 1)),(87,pq pb (po + i * 1)),(88,.slice (aa i) (ns i) (cc i)),(89,.slice T P O),(90,.tuple #[.agg #[.slice F A D],.int .i64 0]),(91,pg g0),(92,.agg #[.int .u64 0,.int .u64 nn,.slice c a f,.bool false,.int .u64 0,.bool false,.int .u64 ((i:Int) + 1 + 1),.slice none 0 0,.slice o k d,.slice g m l]),(93,.agg #[.slice ad ab ac,.int .u64 0,.slice u v r]),(94,.tuple #[.agg #[.slice F A D],.int .i64 0]),(95,.agg #[.slice F A D]),(97,pq J 2),(98,pq J 2),(99,.slice u v r),(100,.slice T P O),(101,.slice X W Z),(102,.agg #[.slice H G I]),(103,.slice H G I),(104,pg g31),(105,.slice F A D),(106,.int .u64 nn),(107,.slice aq54 nq54 cq54),(108,.slice aq56 nq56 cq56),(109,.slice H G I),(110,.slice af ae ag),(111,pq J 2),(112,pq J 2),(113,.slice u v r),(114,.int .i64 (i:Int)),(115,.int .i64 ((i:Int) + 1)),(116,.int .u64 ((i:Int) + 1)),(117,.slice aq60 nq60 cq60),(118,.slice aq62 nq62 cq62),(119,.slice H G I),(120,.slice aq64 nq64 cq64),(121,.int .u64 nn),(122,.slice aq66 nq66 cq66),(123,.slice aq68 nq68 cq68),(124,.slice af ae ag),(125,.slice X W Z),(126,.int .i64 r1),(127,.bool false),(128,.bool false),(129,.slice af ae ag),(130,.slice aq68 nq68 cq68),(131,.slice aq72 nq72 cq72),(132,.slice X W Z),(133,.int .i64 1),(134,.bool false),(135,.bool false)] (by kernel_rfl) ?_));refine dV ?_
     refine bW (xN (ah (aA (t 63 (.int .i64 (i:Int)) ?_))));refine tq 64 (.int .i64 (IntKind.i64.wrap ((i:Int) + 1))) (.int .i64 ((i:Int) + 1)) (wi (by omega)) ?_
     refine t 14 (.int .i64 ((i:Int) + 1)) ?_
     refine ay ?_
     exact ra (⟨_,eW E 16 ((i:Int) + 1) nn (xs i),upd R ((i:Int) + 1) (R (i:Int) + xs i / nn),_,_,c,a,f,zq36,o,k,d,zq38,g,m,l,zq39,T,P,O,zq45,F,A,D,(i + 1)⟩:ExS) (by show cnt - (i + 1) < cnt - i; omega) ⟨⟨hk_i,by (try dsimp only); omega,by (try dsimp only); omega,by (try dsimp only); omega,by (try dsimp only); omega,by (try dsimp only); omega,by (try dsimp only); omega⟩,U.sel [0,1,2] [16,14,13,12,21],F2,r0',rl',hsm'⟩ (by kernel_rfl)
   ·refine tq 62 (.bool (decide ((i:Int) < ((cnt:Nat):Int)))) (.bool false) (congrArg Value.bool (decide_eq_false ci)) ?_
    refine ay (ah (dV ?_));refine vx (uF (uF (DV (ah (ax (aA (t 6 (.bool true) ?_)))))));refine ay (ah (aV (aX (.bool true) (rs1 6 (by kernel_rfl) (by kernel_rfl)) ?_)));exact⟨rfl,U.bb⟩
end Fo
namespace f1Exact
open Go.RowKit Go.Lib Lim Fo
theorem walk (y0:Int) (a1:Option Addr) (d a:Nat) (z1:List Int) (a2:Option Addr) (f c:Nat) (w:World) (g:(Lit.int .u64 y0).wf=true) (w1:mh w a1 d a z1) (i:mn w a2 f c) :
  Calls Tryz.prog 4 #[.int .u64 y0,.agg #[.slice a1 d a],.slice a2 f c] w fun e w'=>e=.returned (.bool true)/\Below w.heap.size w w':=by
 obtain⟨b,o,k,ns,cc,xs,j⟩:=i.open;obtain⟨x,h,_⟩:=CN w1;exact pR (u64r g) h j
end f1Exact
end Go.Proofs.YthfepflplbahkaaGreatDoor
