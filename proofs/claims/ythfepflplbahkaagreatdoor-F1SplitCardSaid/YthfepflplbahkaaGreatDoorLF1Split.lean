/- gleanlaw13.F1Split. -/
import Derived.Test.YthfepflplbahkaaGreatDoorJaz
set_option maxRecDepth 100000
set_option maxHeartbeats 8000000
namespace Go.Proofs.YthfepflplbahkaaGreatDoor
namespace Fo
open Go.RowKit Go.Lib Pg Lim Gl Kv Bk Pw
attribute [local go_sem] Oper.semAt_some
set_option linter.unusedVariables false
set_option linter.unusedSimpArgs false
section
variable {w:World}{ao ao2:Option Addr}{aa aa2:Nat->Option Addr}{xs ys:Nat->Int}
theorem pQ{tok part:Int}{cnt cp pb po:Nat}{ns cc:Nat->Nat}{a I pb2 po2:Nat}{ns2 cc2:Nat->Nat}(htok:0<=tok/\tok < 18446744073709551616)(hpart:0<=part/\part < 18446744073709551616)(DA:gQ w ao cnt pb po aa ns cc xs)(DB:gQ w ao2 a pb2 po2 aa2 ns2 cc2 ys):Calls Tryz.prog 6 #[.int .u64 tok,.int .u64 part,.slice ao cnt cp,.slice ao2 a I] w fun e w'=>e=.returned (.bool true)/\Below w.heap.size w w':=by
 obtain⟨nn,hnn⟩:∃ nn:Int,nn=1 + tok % 1000000000000000000:=⟨_,rfl⟩
 have hn1:1<=nn/\nn<=1000000000000000000:=by omega
 obtain⟨pp,hpp⟩:∃ pp:Int,pp=1 + part % 97:=⟨_,rfl⟩
 have hp1:1<=pp/\pp<=97:=by omega
 obtain⟨zv,hzv⟩:∃ zv:Int,zv=nn * U36 * pp / 100:=⟨_,rfl⟩
 have hz0:0<=zv:=by rw[hzv]; exact Int.ediv_nonneg (Int.mul_nonneg (Int.mul_nonneg (by omega) (by decide)) (by omega)) (by decide)
 obtain⟨S1,hS1⟩:∃ S1,S1=sQ nn xs cnt:=⟨_,rfl⟩
 obtain⟨S2,hS2⟩:∃ S2,S2=sQ nn ys a:=⟨_,rfl⟩
 have BB:=Below.refl w.heap.size w;refine aM (n:=115) Tryz.func6 rfl (by kernel_rfl) (by kernel_rfl) ?_
 refine ax (aA (t 8 (.bool false) ?_));refine ay (ah (ax (ax (aA (tc 23 8 #[] (Ds) ?_)))));rintro _ v1 ⟨rfl,B⟩;refine⟨_,rfl,?_⟩;replace BB:=aj BB B;clear B;refine t 24 (.bool false) ?_
 refine ay (ah (dR ?_));refine bX (ah (ax (ax (aA (t 25 (.slice ao cnt cp) ?_)))));refine tc 26 29 #[.slice ao cnt cp] (oE (DA.keep BB)) ?_
 rintro _ v3 ⟨b2,rfl,hb2,B⟩;refine⟨_,rfl,?_⟩;replace BB:=aj BB B;clear B
 cases b2
 ·skip;refine t 27 (.bool true) ?_
  refine t 28 (.bool true) ?_
  refine tn 29 ?_
  refine tn 30 ?_
  refine tn 31 ?_
  refine t 32 (.bool true) ?_
  refine ay (ah (aT [(0,.int .u64 tok),(1,.int .u64 part),(2,.slice ao cnt cp),(3,.slice ao2 a I),(8,.bool false),(32,.bool true)] (by kernel_rfl) ?_));refine eA ?_
  refine ax (aA (t 8 (.bool true) ?_));refine ay (ah (aP (jI (aQ (.bool true) (rs1 8 (by kernel_rfl) (by kernel_rfl)) ?_))));exact⟨rfl,BB⟩
 ·have hs1:=hb2 rfl;refine t 27 (.bool false) ?_
  refine t 28 (.bool false) ?_
  refine t 29 (.slice ao2 a I) ?_
  refine tc 30 29 #[.slice ao2 a I] (oE (DB.keep BB)) ?_
  rintro _ v5 ⟨b4,rfl,hb4,B⟩;refine⟨_,rfl,?_⟩;replace BB:=aj BB B;clear B
  cases b4
  ·skip;refine t 31 (.bool true) ?_
   refine t 32 (.bool true) ?_
   refine ay (ah (aT [(0,.int .u64 tok),(1,.int .u64 part),(2,.slice ao cnt cp),(3,.slice ao2 a I),(8,.bool false),(32,.bool true)] (by kernel_rfl) ?_));refine eA ?_
   refine ax (aA (t 8 (.bool true) ?_));refine ay (ah (aP (jI (aQ (.bool true) (rs1 8 (by kernel_rfl) (by kernel_rfl)) ?_))));exact⟨rfl,BB⟩
  ·have hs2:=hb4 rfl;refine t 31 (.bool false) ?_
   refine t 32 (.bool false) ?_
   refine ay (ah (aT [(0,.int .u64 tok),(1,.int .u64 part),(2,.slice ao cnt cp),(3,.slice ao2 a I),(8,.bool false),(32,.bool false)] (by kernel_rfl) ?_));refine dR ?_
   refine bX (ah (ax (aA (t 33 (.int .u64 tok) ?_))));refine tr 34 (.int .u64 (tok % 1000000000000000000)) (qV tok 1000000000000000000 htok ⟨by decide,by decide⟩) ?_
   refine tq 35 (.int .u64 (IntKind.u64.wrap (1 + tok % 1000000000000000000))) (.int .u64 nn) (congrArg (Value.int .u64) (by rw[IntKind.wrap_u64]; omega)) ?_
   refine t 9 (.int .u64 nn) ?_
   refine ay (ah (ax (aA ?_)));obtain⟨Bz,hBz⟩:∃ Bz,Bz=(v5).heap.size:=⟨_,rfl⟩
   have hwB:w.heap.size<=Bz:=by rw[hBz]; exact BB.size
   refine tc 36 16 #[] (DP Bz hBz) ?_
   rintro _ v6 ⟨g0,K0,rfl,S0,hK0,B0⟩;refine⟨_,rfl,?_⟩;replace BB:=aj BB B0;clear B0;have U:=DQ BB (B:=Bz) hwB S0;clear BB S0;refine t 10 (pg g0) ?_
   refine ay (ah (ax (aA (t 37 (pg g0) ?_))));refine t 38 (.int .u64 nn) ?_
   refine t 39 (.int .u64 nn) ?_
   refine tc 40 18 #[.int .u64 nn] (eOf (y:=nn) ⟨by omega,by omega⟩) ?_
   rintro _ v8 ⟨aq7,nq7,cq7,zq7,rfl,M,h,mq7,B⟩;refine⟨_,rfl,?_⟩;replace U:=U.num M h B;clear M h B;refine t 41 (.agg #[.int .u64 0,.int .u64 nn,.slice aq7 nq7 cq7,.bool false,.int .u64 0,.bool false,.int .u64 0,.slice none 0 0,.slice none 0 0,.slice none 0 0]) ?_
   have F0:=AU (id:=16) (by decide);refine tc 42 17 #[pg g0,.int .u64 16,.agg #[.int .u64 0,.int .u64 nn,.slice aq7 nq7 cq7,.bool false,.int .u64 0,.bool false,.int .u64 0,.slice none 0 0,.slice none 0 0,.slice none 0 0]] (oG U.sx (id:=16) ⟨by decide,by decide⟩ (U.nq 0 rfl).nk (by omega) (cJ _ _).nk (by omega) (cJ _ _).nk (by omega) (cJ _ _).nk (by omega) (by omega) (by omega)) ?_
   rintro _ v15 ⟨ai,W,ac,zq9,v,u,E,zq10,o,l,q,zq11,K12,n13,N14,rfl,S,qn13,qN14,T,hC,Q0,mq9,h0,Q1,mq10,h1,Q2,mq11,h2⟩;refine⟨_,rfl,?_⟩;have L:=U.lt;replace U:=(((U.op S T hC).add L Q0 h0).add L Q1 h1).add L Q2 h2;clear L S T hC Q0 h0 Q1 h1 Q2 h2;refine ta 11 [.int .u64 0,.int .u64 0,.slice none 0 0,.bool false,.int .u64 0,.bool false,.int .u64 0,.slice none 0 0,.slice none 0 0,.slice none 0 0] 39 (pg) ?_
   intro v16 g17 Xg17 hg17 B;replace U:=U.new Xg17 hg17 B;clear Xg17 hg17 B;refine ts (U.bk 0 rfl) 0 (.agg #[.int .u64 0,.int .u64 nn,.slice ai W ac,.bool false,.int .u64 0,.bool false,.int .u64 (0 + 1),.slice none 0 0,.slice v u E,.slice o l q]) [.int .u64 0,.int .u64 nn,.slice ai W ac,.bool false,.int .u64 0,.bool false,.int .u64 (0 + 1),.slice none 0 0,.slice v u E,.slice o l q] [.int .u64 0,.int .u64 nn,.slice ai W ac,.bool false,.int .u64 0,.bool false,.int .u64 (0 + 1),.slice none 0 0,.slice v u E,.slice o l q] ?_
   intro v18 Y C;replace U:=U.put 0 rfl C Y (by decide);clear Y C;refine ay (ah (aT [(1,.int .u64 part),(2,.slice ao cnt cp),(3,.slice ao2 a I),(8,.bool false),(9,.int .u64 nn),(10,pg g0),(11,pg g17)] (by kernel_rfl) ?_));refine ax (aA (t 44 (.int .u64 nn) ?_));refine tc 45 18 #[.int .u64 nn] (eOf (y:=nn) ⟨by omega,by omega⟩) ?_
   rintro _ v20 ⟨aq19,nq19,cq19,zq19,rfl,M,h,mq19,B⟩;refine⟨_,rfl,?_⟩;replace U:=U.num M h B;clear M h B;refine t 46 (.int .u64 part) ?_
   refine tr 47 (.int .u64 (part % 97)) (qV part 97 hpart ⟨by decide,by decide⟩) ?_
   refine tq 48 (.int .u64 (IntKind.u64.wrap (1 + part % 97))) (.int .u64 pp) (congrArg (Value.int .u64) (by rw[IntKind.wrap_u64]; omega)) ?_
   refine tc 49 31 #[.agg #[.slice aq19 nq19 cq19],.int .u64 pp] (eTimes (U.nq 0 rfl).nat (by omega) ⟨by omega,by omega⟩) ?_
   rintro _ v22 ⟨aq21,nq21,cq21,zq21,rfl,M,h,mq21,B⟩;refine⟨_,rfl,?_⟩;replace U:=U.num M h B;clear M h B;refine tc 50 30 #[.agg #[.slice aq21 nq21 cq21],.int .u64 100] (Ea (y:=100) (U.nq 0 rfl).nat (by omega) ⟨by decide,by decide⟩) ?_
   rintro _ v24 ⟨b,d,c,zq23,rfl,M,h,mq23,B⟩;refine⟨_,rfl,?_⟩;replace U:=U.num M h B;clear M h B;replace U:=U.val 0 rfl hzv.symm;refine t 43 (.tuple #[.agg #[.slice b d c],.int .i64 (dvZ 100)]) ?_
   refine t 51 (.agg #[.slice b d c]) ?_
   refine t 52 (.int .i64 (dvZ 100)) ?_
   refine ta 12 [.slice none 0 0] 32 (pg) ?_
   intro v25 g26 Xg26 hg26 B;replace U:=U.new Xg26 hg26 B;clear Xg26 hg26 B;refine ts (U.bk 0 rfl) 0 (.agg #[.slice b d c]) [.slice b d c] [.slice b d c] ?_
   intro v27 Y C;replace U:=U.put 0 rfl C Y (by decide);clear Y C;refine t 13 (.int .i64 (dvZ 100)) ?_
   refine ay (ah (aT [(2,.slice ao cnt cp),(3,.slice ao2 a I),(8,.bool false),(10,pg g0),(11,pg g17),(12,pg g26)] (by kernel_rfl) ?_));refine ax (aA (t 53 (pg g0) ?_));refine tlr 54 [.int .u64 0,.int .u64 nn,.slice ai W ac,.bool false,.int .u64 0,.bool false,.int .u64 (0 + 1),.slice none 0 0,.slice v u E,.slice o l q] (U.bk 1 rfl) 0 ?_
   refine tlr 55 [.slice b d c] (U.bk 0 rfl) 0 ?_
   refine t 56 (.agg #[.slice b d c,.int .u64 0,.slice none 0 0]) ?_
   have F28:=F0.hold (by simp; try omega);refine tc 57 19 #[pg g0,.int .u64 16,.agg #[.int .u64 0,.int .u64 nn,.slice ai W ac,.bool false,.int .u64 0,.bool false,.int .u64 (0 + 1),.slice none 0 0,.slice v u E,.slice o l q],.agg #[.slice b d c,.int .u64 0,.slice none 0 0]] (HoE.cast (E':=(di (di [] 16 0) 16 0)) (p:=0) (xs:=zv) (fY U.sx (id:=16) ⟨by decide,by decide⟩ ⟨by omega,by omega⟩ (U.nq 5 rfl).nk (by omega) (cJ _ _).nk (by omega) (U.nq 4 rfl).nk (by omega) (U.nq 3 rfl).nk (by omega) (U.nq 0 rfl).nk (by omega) (cJ _ _).nk (by omega) (by omega) (by omega)) (by omega) rfl (Int.mul_ediv_cancel _ (by unfold U36; omega))) ?_
   rintro _ v34 ⟨aq,ar,aB,zq29,az,av,ap,zq30,K31,n32,N33,rfl,S,qn32,qN33,T,hC,Q0,mq29,h0,Q1,mq30,h1⟩;refine⟨_,rfl,?_⟩;have L:=U.lt;replace U:=((U.op S T hC).add L Q0 h0).add L Q1 h1;clear L S T hC Q0 h0 Q1 h1;refine ta 14 [.slice none 0 0,.int .u64 0,.slice none 0 0] 54 (pg) ?_
   intro v35 g36 Xg36 hg36 B;replace U:=U.new Xg36 hg36 B;clear Xg36 hg36 B;refine ts (U.bk 0 rfl) 0 (.agg #[.slice aq ar aB,.int .u64 0,.slice az av ap]) [.slice aq ar aB,.int .u64 0,.slice az av ap] [.slice aq ar aB,.int .u64 0,.slice az av ap] ?_
   intro v37 Y C;replace U:=U.put 0 rfl C Y (by decide);clear Y C;refine ay (ah (ax (aA (t 58 (pg g0) ?_))));refine tlr 59 [.int .u64 0,.int .u64 nn,.slice ai W ac,.bool false,.int .u64 0,.bool false,.int .u64 (0 + 1),.slice none 0 0,.slice v u E,.slice o l q] (U.bk 2 rfl) 0 ?_
   refine tlr 60 [.slice b d c] (U.bk 1 rfl) 0 ?_
   refine t 61 (.agg #[.slice b d c,.int .u64 0,.slice none 0 0]) ?_
   have F38:=F28.hold (by simp; try omega);refine tc 62 19 #[pg g0,.int .u64 16,.agg #[.int .u64 0,.int .u64 nn,.slice ai W ac,.bool false,.int .u64 0,.bool false,.int .u64 (0 + 1),.slice none 0 0,.slice v u E,.slice o l q],.agg #[.slice b d c,.int .u64 0,.slice none 0 0]] (HoE.cast (E':=(di (di (di [] 16 0) 16 0) 16 0)) (p:=0) (xs:=zv) (fY U.sx (id:=16) ⟨by decide,by decide⟩ ⟨by omega,by omega⟩ (U.nq 7 rfl).nk (by omega) (cJ _ _).nk (by omega) (U.nq 6 rfl).nk (by omega) (U.nq 5 rfl).nk (by omega) (U.nq 2 rfl).nk (by omega) (cJ _ _).nk (by omega) (by omega) (by omega)) (by omega) rfl (Int.mul_ediv_cancel _ (by unfold U36; omega))) ?_
   rintro _ v44 ⟨A,r,D,zq39,s,m,j,zq40,K41,n42,N43,rfl,S,qn42,qN43,T,hC,Q0,mq39,h0,Q1,mq40,h1⟩;refine⟨_,rfl,?_⟩;have L:=U.lt;replace U:=((U.op S T hC).add L Q0 h0).add L Q1 h1;clear L S T hC Q0 h0 Q1 h1;refine ta 15 [.slice none 0 0,.int .u64 0,.slice none 0 0] 54 (pg) ?_
   intro v45 g46 Xg46 hg46 B;replace U:=U.new Xg46 hg46 B;clear Xg46 hg46 B;refine ts (U.bk 0 rfl) 0 (.agg #[.slice A r D,.int .u64 0,.slice s m j]) [.slice A r D,.int .u64 0,.slice s m j] [.slice A r D,.int .u64 0,.slice s m j] ?_
   intro v47 Y C;replace U:=U.put 0 rfl C Y (by decide);clear Y C;refine ay (ah (aT [(2,.slice ao cnt cp),(3,.slice ao2 a I),(8,.bool false),(10,pg g0),(11,pg g17),(14,pg g36),(15,pg g46)] (by kernel_rfl) ?_));refine ax (aA (t 63 (pg g0) ?_));refine tlr 64 [.int .u64 0,.int .u64 nn,.slice ai W ac,.bool false,.int .u64 0,.bool false,.int .u64 (0 + 1),.slice none 0 0,.slice v u E,.slice o l q] (U.bk 3 rfl) 0 ?_
   refine t 65 (.slice ao cnt cp) ?_
   obtain⟨pbu,zzu,Du⟩:=DA.k hs1 U.bb U.out (U.nk 0 rfl);have hsmu:=DA.sm hs1;have fewu:=hs1.1;have L:=U.lt;have e0:=U.en 9 rfl;have e1:=U.en0;have e2:=U.en 8 rfl;have e3:=U.en 7 rfl;refine tc 66 32 #[pg g0,.agg #[.int .u64 0,.int .u64 nn,.slice ai W ac,.bool false,.int .u64 0,.bool false,.int .u64 (0 + 1),.slice none 0 0,.slice v u E,.slice o l q],.slice ao cnt cp] (uJ (la:=0) U.sx F38 ⟨by omega,by omega⟩ (U.nq 9 rfl) (by omega) (cJ _ _) (by omega) (U.nq 8 rfl) (by omega) (U.nq 7 rfl) (by omega) Du hsmu (by omega) (by show (0:Int)<=_; decide) (by omega) (by omega)) ?_
   rintro _ v51 ⟨ad,X,ag,zu0,Z,am,af,zu1,ab,al,V,zu2,ak,ae,an,zu3,K48,n49,N50,Eu,Ru,rfl,S,qn49,qN50,T,hC,⟨Q0,mu0,f0⟩,⟨Q1,mu1,f1⟩,⟨Q2,mu2,f2⟩,⟨Q3,mu3,f3⟩,Fu,hsu,rlu⟩;refine⟨_,rfl,?_⟩;replace U:=((((U.op S T hC).qU L e0 Q0 f0).qU L e1 Q1 f1).qU L e2 Q2 f2).qU L e3 Q3 f3;clear L S T hC e0 Q0 f0 e1 Q1 f1 e2 Q2 f2 e3 Q3 f3;have sb1:=uz (n:=nn) (by omega) hsmu cnt (Nat.le_refl _);rw[<- hS1] at rlu sb1
   have z1:Ru 0=0:=hsu 0 (Int.le_refl _)
   have b9:(cnt:Int) * 18446744073709551616 ^ 4<=20 * 18446744073709551616 ^ 4:=Int.mul_le_mul_of_nonneg_right (by omega) (by decide)
   have hR1:Ru (0 + (cnt:Int))<=400000 * 18446744073709551616 ^ 4:=by omega
   refine ts (U.bk 3 rfl) 0 (.agg #[.int .u64 0,.int .u64 nn,.slice ad X ag,.bool false,.int .u64 0,.bool false,.int .u64 (0 + (cnt:Int) + 1),.slice Z am af,.slice ab al V,.slice ak ae an]) [.int .u64 0,.int .u64 nn,.slice ad X ag,.bool false,.int .u64 0,.bool false,.int .u64 (0 + (cnt:Int) + 1),.slice Z am af,.slice ab al V,.slice ak ae an] [.int .u64 0,.int .u64 nn,.slice ad X ag,.bool false,.int .u64 0,.bool false,.int .u64 (0 + (cnt:Int) + 1),.slice Z am af,.slice ab al V,.slice ak ae an] ?_
   intro v52 Y C;replace U:=U.put 3 rfl C Y (by decide);clear Y C;refine ay (ah (ax (aA (t 68 (pg g0) ?_))));refine tlr 69 [.int .u64 0,.int .u64 nn,.slice ad X ag,.bool false,.int .u64 0,.bool false,.int .u64 (0 + (cnt:Int) + 1),.slice Z am af,.slice ab al V,.slice ak ae an] (U.bk 3 rfl) 0 ?_
   refine tlr 70 [.slice A r D,.int .u64 0,.slice s m j] (U.bk 0 rfl) 0 ?_
   refine tc 71 20 #[pg g0,.int .u64 16,.agg #[.int .u64 0,.int .u64 nn,.slice ad X ag,.bool false,.int .u64 0,.bool false,.int .u64 (0 + (cnt:Int) + 1),.slice Z am af,.slice ab al V,.slice ak ae an],.agg #[.slice A r D,.int .u64 0,.slice s m j]] (nD.cast (c':=0) (V':=(zv * S1 / U36)) (l4 (la:=0 + (cnt:Int)) U.sx Fu (U.nq 4 rfl) (by omega) (by simp) (by omega) (by simp) (by omega) (by omega)) (rfl) (by rw[p9,p6 (by omega),rlu,z1]; congr 2; omega)) ?_
   rintro _ v54 ⟨K,J,P,zq53,rfl,S,C,Q,mq53,h⟩;refine⟨_,rfl,?_⟩;have L:=U.lt;replace U:=(U.ask S C).add L Q h;clear L S C Q h;refine t 67 (.tuple #[.agg #[.slice K J P],.int .i64 0]) ?_
   refine t 72 (.agg #[.slice K J P]) ?_
   refine t 73 (.int .i64 0) ?_
   refine ta 16 [.slice none 0 0] 32 (pg) ?_
   intro v55 g56 Xg56 hg56 B;replace U:=U.new Xg56 hg56 B;clear Xg56 hg56 B;refine ts (U.bk 0 rfl) 0 (.agg #[.slice K J P]) [.slice K J P] [.slice K J P] ?_
   intro v57 Y C;replace U:=U.put 0 rfl C Y (by decide);clear Y C;refine t 17 (.int .i64 0) ?_
   refine ay (ah (aT [(3,.slice ao2 a I),(8,.bool false),(10,pg g0),(11,pg g17),(14,pg g36),(15,pg g46),(16,pg g56)] (by kernel_rfl) ?_));refine ax (aA (t 74 (pg g0) ?_));refine tlr 75 [.slice A r D,.int .u64 0,.slice s m j] (U.bk 1 rfl) 0 ?_
   have F58:Fs (letE Eu 16 0) 16 (0 + (cnt:Int)) Ru [0] []:=by simpa using Fu.free (p:=0) (by simp)
   refine tc 76 33 #[pg g0,.int .u64 16,.agg #[.slice A r D,.int .u64 0,.slice s m j]] (ri U.sx (id:=16) ⟨by decide,by decide⟩ (U.nq 6 rfl).nk (by omega) (U.nq 5 rfl).nk (by omega) (by omega) (by omega)) ?_
   rintro _ v62 ⟨rfl,K59,n60,N61,S,qn60,qN61,T,hC⟩;refine⟨_,rfl,?_⟩;replace U:=U.op S T hC;clear S T hC;refine ay (ah (ax (aA (t 77 (pg g0) ?_))));refine tlr 78 [.int .u64 0,.int .u64 nn,.slice ad X ag,.bool false,.int .u64 0,.bool false,.int .u64 (0 + (cnt:Int) + 1),.slice Z am af,.slice ab al V,.slice ak ae an] (U.bk 4 rfl) 0 ?_
   refine tlr 79 [.slice A r D,.int .u64 0,.slice s m j] (U.bk 1 rfl) 0 ?_
   have F63:=F58.hold (by simp; try omega);refine tc 80 19 #[pg g0,.int .u64 16,.agg #[.int .u64 0,.int .u64 nn,.slice ad X ag,.bool false,.int .u64 0,.bool false,.int .u64 (0 + (cnt:Int) + 1),.slice Z am af,.slice ab al V,.slice ak ae an],.agg #[.slice A r D,.int .u64 0,.slice s m j]] (HoE.cast (E':=(di (letE Eu 16 0) 16 (0 + (cnt:Int)))) (p:=0 + (cnt:Int)) (xs:=zv) (fY U.sx (id:=16) ⟨by decide,by decide⟩ ⟨by omega,by omega⟩ (U.nq 4 rfl).nk (by omega) (U.nq 3 rfl).nk (by omega) (U.nq 2 rfl).nk (by omega) (U.nq 1 rfl).nk (by omega) (U.nq 6 rfl).nk (by omega) (U.nq 5 rfl).nk (by omega) (by omega) (by omega)) (by omega) rfl (Int.mul_ediv_cancel _ (by unfold U36; omega))) ?_
   rintro _ v69 ⟨aw,nq64,cq64,zq64,au,nq65,cq65,zq65,K66,n67,N68,rfl,S,qn67,qN68,T,hC,Q0,mq64,h0,Q1,mq65,h1⟩;refine⟨_,rfl,?_⟩;have L:=U.lt;replace U:=((U.op S T hC).add L Q0 h0).add L Q1 h1;clear L S T hC Q0 h0 Q1 h1;refine ts (U.bk 1 rfl) 0 (.agg #[.slice aw nq64 cq64,.int .u64 (0 + (cnt:Int)),.slice au nq65 cq65]) [.slice aw nq64 cq64,.int .u64 (0 + (cnt:Int)),.slice au nq65 cq65] [.slice aw nq64 cq64,.int .u64 (0 + (cnt:Int)),.slice au nq65 cq65] ?_
   intro v70 Y C;replace U:=U.put 1 rfl C Y (by decide);clear Y C;refine ay (ah (ax (aA (t 81 (pg g0) ?_))));refine tlr 82 [.int .u64 0,.int .u64 nn,.slice ad X ag,.bool false,.int .u64 0,.bool false,.int .u64 (0 + (cnt:Int) + 1),.slice Z am af,.slice ab al V,.slice ak ae an] (U.bk 4 rfl) 0 ?_
   refine t 83 (.slice ao2 a I) ?_
   obtain⟨pbr,zzr,Dr⟩:=DB.k hs2 U.bb U.out (U.nk 0 rfl);have hsmr:=DB.sm hs2;have fewr:=hs2.1;have L:=U.lt;have e0:=U.en 6 rfl;have e1:=U.en 5 rfl;have e2:=U.en 4 rfl;have e3:=U.en 3 rfl;refine tc 84 32 #[pg g0,.agg #[.int .u64 0,.int .u64 nn,.slice ad X ag,.bool false,.int .u64 0,.bool false,.int .u64 (0 + (cnt:Int) + 1),.slice Z am af,.slice ab al V,.slice ak ae an],.slice ao2 a I] (uJ (la:=0 + (cnt:Int)) U.sx F63 ⟨by omega,by omega⟩ (U.nq 6 rfl) (by omega) (U.nq 5 rfl) (by omega) (U.nq 4 rfl) (by omega) (U.nq 3 rfl) (by omega) Dr hsmr (by omega) hR1 (by omega) (by omega)) ?_
   rintro _ v74 ⟨ar0,nr0,cr0,zr0,ar1,nr1,cr1,zr1,ar2,nr2,cr2,zr2,ar3,nr3,cr3,zr3,K71,n72,N73,Er,Rr,rfl,S,qn72,qN73,T,hC,⟨Q0,mr0,f0⟩,⟨Q1,mr1,f1⟩,⟨Q2,mr2,f2⟩,⟨Q3,mr3,f3⟩,Fr,hsr,rlr⟩;refine⟨_,rfl,?_⟩;replace U:=((((U.op S T hC).qU L e0 Q0 f0).qU L e1 Q1 f1).qU L e2 Q2 f2).qU L e3 Q3 f3;clear L S T hC e0 Q0 f0 e1 Q1 f1 e2 Q2 f2 e3 Q3 f3;have sb2:=uz (n:=nn) (by omega) hsmr a (Nat.le_refl _);rw[<- hS2] at rlr sb2
   have y0:Rr 0=0:=(hsr 0 (by omega)).trans z1
   have y1:Rr (0 + (cnt:Int))=S1:=(hsr _ (Int.le_refl _)).trans (by omega)
   have y2:Rr (0 + (cnt:Int) + (a:Int))=S1 + S2:=by omega
   refine ts (U.bk 4 rfl) 0 (.agg #[.int .u64 0,.int .u64 nn,.slice ar0 nr0 cr0,.bool false,.int .u64 0,.bool false,.int .u64 (0 + (cnt:Int) + (a:Int) + 1),.slice ar1 nr1 cr1,.slice ar2 nr2 cr2,.slice ar3 nr3 cr3]) [.int .u64 0,.int .u64 nn,.slice ar0 nr0 cr0,.bool false,.int .u64 0,.bool false,.int .u64 (0 + (cnt:Int) + (a:Int) + 1),.slice ar1 nr1 cr1,.slice ar2 nr2 cr2,.slice ar3 nr3 cr3] [.int .u64 0,.int .u64 nn,.slice ar0 nr0 cr0,.bool false,.int .u64 0,.bool false,.int .u64 (0 + (cnt:Int) + (a:Int) + 1),.slice ar1 nr1 cr1,.slice ar2 nr2 cr2,.slice ar3 nr3 cr3] ?_
   intro v75 Y C;replace U:=U.put 4 rfl C Y (by decide);clear Y C;refine ay (ah (ax (aA (t 86 (pg g0) ?_))));refine tlr 87 [.int .u64 0,.int .u64 nn,.slice ar0 nr0 cr0,.bool false,.int .u64 0,.bool false,.int .u64 (0 + (cnt:Int) + (a:Int) + 1),.slice ar1 nr1 cr1,.slice ar2 nr2 cr2,.slice ar3 nr3 cr3] (U.bk 4 rfl) 0 ?_
   refine tlr 88 [.slice aw nq64 cq64,.int .u64 (0 + (cnt:Int)),.slice au nq65 cq65] (U.bk 1 rfl) 0 ?_
   refine tc 89 20 #[pg g0,.int .u64 16,.agg #[.int .u64 0,.int .u64 nn,.slice ar0 nr0 cr0,.bool false,.int .u64 0,.bool false,.int .u64 (0 + (cnt:Int) + (a:Int) + 1),.slice ar1 nr1 cr1,.slice ar2 nr2 cr2,.slice ar3 nr3 cr3],.agg #[.slice aw nq64 cq64,.int .u64 (0 + (cnt:Int)),.slice au nq65 cq65]] (nD.cast (c':=0) (V':=(zv * S2 / U36)) (l4 (la:=0 + (cnt:Int) + (a:Int)) U.sx Fr (U.nq 4 rfl) (by omega) (by simp) (by omega) (by simp) (by omega) (by omega)) (rfl) (by rw[p9,p6 (by omega),y1,y2]; congr 2; omega)) ?_
   rintro _ v77 ⟨O,R,N,zq76,rfl,S,C,Q,mq76,h⟩;refine⟨_,rfl,?_⟩;have L:=U.lt;replace U:=(U.ask S C).add L Q h;clear L S C Q h;refine t 85 (.tuple #[.agg #[.slice O R N],.int .i64 0]) ?_
   refine t 90 (.agg #[.slice O R N]) ?_
   refine t 91 (.int .i64 0) ?_
   refine ta 18 [.slice none 0 0] 32 (pg) ?_
   intro v78 g79 Xg79 hg79 B;replace U:=U.new Xg79 hg79 B;clear Xg79 hg79 B;refine ts (U.bk 0 rfl) 0 (.agg #[.slice O R N]) [.slice O R N] [.slice O R N] ?_
   intro v80 Y C;replace U:=U.put 0 rfl C Y (by decide);clear Y C;refine t 19 (.int .i64 0) ?_
   refine ay (ah (aT [(8,.bool false),(10,pg g0),(11,pg g17),(14,pg g36),(16,pg g56),(18,pg g79)] (by kernel_rfl) ?_));refine ax (aA (t 93 (pg g0) ?_));refine tlr 94 [.int .u64 0,.int .u64 nn,.slice ar0 nr0 cr0,.bool false,.int .u64 0,.bool false,.int .u64 (0 + (cnt:Int) + (a:Int) + 1),.slice ar1 nr1 cr1,.slice ar2 nr2 cr2,.slice ar3 nr3 cr3] (U.bk 5 rfl) 0 ?_
   refine tlr 95 [.slice aq ar aB,.int .u64 0,.slice az av ap] (U.bk 3 rfl) 0 ?_
   refine tc 96 20 #[pg g0,.int .u64 16,.agg #[.int .u64 0,.int .u64 nn,.slice ar0 nr0 cr0,.bool false,.int .u64 0,.bool false,.int .u64 (0 + (cnt:Int) + (a:Int) + 1),.slice ar1 nr1 cr1,.slice ar2 nr2 cr2,.slice ar3 nr3 cr3],.agg #[.slice aq ar aB,.int .u64 0,.slice az av ap]] (nD.cast (c':=0) (V':=(zv * (S1 + S2) / U36)) (l4 (la:=0 + (cnt:Int) + (a:Int)) U.sx Fr (U.nq 14 rfl) (by omega) (by simp) (by omega) (by simp) (by omega) (by omega)) (rfl) (by rw[p9,p6 (by omega),y0,y2]; congr 2; omega)) ?_
   rintro _ v82 ⟨g,i,f,zq81,rfl,S,C,Q,mq81,h⟩;refine⟨_,rfl,?_⟩;have L:=U.lt;replace U:=(U.ask S C).add L Q h;clear L S C Q h;refine t 92 (.tuple #[.agg #[.slice g i f],.int .i64 0]) ?_
   refine t 97 (.agg #[.slice g i f]) ?_
   refine t 98 (.int .i64 0) ?_
   refine ta 20 [.slice none 0 0] 32 (pg) ?_
   intro v83 g84 Xg84 hg84 B;replace U:=U.new Xg84 hg84 B;clear Xg84 hg84 B;refine ts (U.bk 0 rfl) 0 (.agg #[.slice g i f]) [.slice g i f] [.slice g i f] ?_
   intro v85 Y C;replace U:=U.put 0 rfl C Y (by decide);clear Y C;refine t 21 (.int .i64 0) ?_
   refine ay (ah (ax (aA (tlr 99 [.slice K J P] (U.bk 2 rfl) 0 ?_))));refine tlr 100 [.slice O R N] (U.bk 1 rfl) 0 ?_
   refine tc 101 27 #[.agg #[.slice K J P],.agg #[.slice O R N]] (y8 (U.nq 8 rfl).nat (by omega) (U.nq 1 rfl).nat (by omega)) ?_
   rintro _ v87 ⟨F,H,G,zq86,rfl,M,h,mq86,B⟩;refine⟨_,rfl,?_⟩;replace U:=U.num M h B;clear M h B;refine ta 22 [.slice none 0 0] 32 (pg) ?_
   intro v88 g89 Xg89 hg89 B;replace U:=U.new Xg89 hg89 B;clear Xg89 hg89 B;refine ts (U.bk 0 rfl) 0 (.agg #[.slice F H G]) [.slice F H G] [.slice F H G] ?_
   intro v90 Y C;replace U:=U.put 0 rfl C Y (by decide);clear Y C;refine ay (ah (aT [(8,.bool false),(20,pg g84),(22,pg g89)] (by kernel_rfl) ?_));refine ax ?_
   replace U:=U.drew;refine cj (fun w'=>Blk w' g89 [.slice F H G] 32/\Blk w' g84 [.slice g i f] 32) (fun _=>false) ⟨(U.bk 0 rfl),(U.bk 1 rfl)⟩ ?_
   refine zlr 0 102 [.slice F H G] (fun _ h=>h.1) 0 ?_
   refine zlr 1 103 [.slice g i f] (fun _ h=>h.2) 0 ?_
   have hc91:(zv * S1 / U36) + (zv * S2 / U36)<=(zv * (S1 + S2) / U36):=by exact sp_lo _ _ _
   refine zc 2 104 28 #[.agg #[.slice F H G],.agg #[.slice g i f]] (yz (U.nq 0 rfl).nat (U.nq 1 rfl).nat (by omega) (by omega) hc91) ?_
   rintro _ v93 ⟨r92,rfl,hr92,B⟩;replace U:=U.keep B;clear B;refine⟨_,rfl,⟨(U.bk 0 rfl),(U.bk 1 rfl)⟩,?_⟩
   have t94:(r92:Int)<=0:=by omega
   refine zq 3 105 (.bool (decide ((r92:Int)<=0))) (.bool true) (congrArg Value.bool (decide_eq_true t94)) ?_
   refine z 4 106 (.bool true) ?_
   refine zlr 5 107 [.slice g i f] (fun _ h=>h.2) 0 ?_
   refine zlr 6 108 [.slice F H G] (fun _ h=>h.1) 0 ?_
   refine zc 7 109 25 #[.int .u64 1] (AH (x:=1) (by omega) (by omega)) ?_
   rintro _ v96 ⟨aq95,nq95,cq95,zq95,rfl,M,h,mq95,B⟩;replace U:=U.num M h B;clear M h B;refine⟨_,rfl,⟨(U.bk 0 rfl),(U.bk 1 rfl)⟩,?_⟩;refine zr 8 110 (.agg #[.slice aq95 nq95 cq95]) (by intro _ _; kernel_rfl) ?_
   refine zc 9 111 27 #[.agg #[.slice F H G],.agg #[.slice aq95 nq95 cq95]] (y8 (U.nq 1 rfl).nat (by omega) (U.nq 0 rfl).nat (by omega)) ?_
   rintro _ v98 ⟨aq97,nq97,cq97,zq97,rfl,M,h,mq97,B⟩;replace U:=U.num M h B;clear M h B;refine⟨_,rfl,⟨(U.bk 0 rfl),(U.bk 1 rfl)⟩,?_⟩
   have hc99:(zv * (S1 + S2) / U36)<=((zv * S1 / U36) + (zv * S2 / U36)) + 1:=by exact sp_hi _ _ _
   refine zc 10 112 28 #[.agg #[.slice g i f],.agg #[.slice aq97 nq97 cq97]] (yz (U.nq 3 rfl).nat (U.nq 0 rfl).nat (by omega) (by omega) hc99) ?_
   rintro _ v101 ⟨r100,rfl,hr100,B⟩;replace U:=U.keep B;clear B;refine⟨_,rfl,⟨(U.bk 0 rfl),(U.bk 1 rfl)⟩,?_⟩
   have t102:(r100:Int)<=0:=by omega
   refine zq 11 113 (.bool (decide ((r100:Int)<=0))) (.bool true) (congrArg Value.bool (decide_eq_true t102)) ?_
   refine z 12 114 (.bool true) ?_
   refine z 13 8 (.bool true) ?_
   refine bB (ah (aT [(8,.bool true)] (by kernel_rfl) ?_));refine aP (aQ (.bool true) (rs1 8 (by kernel_rfl) (by kernel_rfl)) ?_);exact⟨rfl,U.bb⟩
end
end Fo
namespace f1Split
open Go.RowKit Go.Lib Lim Fo
theorem walk (y0 y1:Int) (a2:Option Addr) (f a:Nat) (a3:Option Addr) (c d:Nat) (w:World) (g:(Lit.int .u64 y0).wf=true) (h:(Lit.int .u64 y1).wf=true) (n:iW w a2 f a) (m:iW w a3 c d) :
  Calls Tryz.prog 6 #[.int .u64 y0,.int .u64 y1,.slice a2 f a,.slice a3 c d] w fun e w'=>e=.returned (.bool true)/\Below w.heap.size w w':=by
 obtain⟨b,o,s,ns,cc,xs,q⟩:=n.open;obtain⟨b2,r,p,k,i,j,l⟩:=m.open;exact pQ (u64r g) (u64r h) q l
end f1Split
end Go.Proofs.YthfepflplbahkaaGreatDoor
