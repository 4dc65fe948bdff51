/- gleanlaw13.F1Alike. -/
import Derived.Test.YthfepflplbahkaaGreatDoorJaz
set_option maxRecDepth 100000
set_option maxHeartbeats 8000000
namespace Go.Proofs.YthfepflplbahkaaGreatDoor
namespace Fo
open Go.RowKit Go.Lib Pg Lim Gl Kv Bk Pw
attribute [local go_sem] Oper.semAt_some
set_option linter.unusedVariables false
set_option linter.unusedSimpArgs false
theorem al_cm{R:Int->Int}{C:List (Int × Int × Int)}{la l2 S T F nn x fr:Int}(hR:R l2=S+T)(hla:R la=S)(hD:C=[]\/(C=[(la,nn,0)]/\fr < la/\T=0))(hf:R fr=F)(h1:F<=S)(h2:0<=T):cmV R (aft C fr) fr l2 x=x * (S+T - F) / U36:=by
 rcases hD with rfl | ⟨rfl,h3,h4⟩
 · rw[Ci,De (by omega),hR,hf]
 · rw[CD h3,cmV_cut (by omega),hla,hf,h4,Int.add_zero]
structure JT where
  (K:Nat->Prop)(E:aD)(R:Int->Int)(C:List (Int × Int × Int))(n N:Nat)(tk la:Int)(b0:Option Addr)(k0 d0 y0:Nat)(b1:Option Addr)(k1 d1 y1:Nat)(b2:Option Addr)(k2 d2 y2:Nat)(b3:Option Addr)(k3 d3 y3:Nat)
section
variable {w:World}{ao ao2:Option Addr}{aa aa2:Nat->Option Addr}{xs ys:Nat->Int}
theorem pz{tok part:Int}{ct:Bool}{cnt cp pb po:Nat}{ns cc:Nat->Nat}{c cp2 pb2 po2:Nat}{ns2 cc2:Nat->Nat}(htok:0<=tok/\tok < 18446744073709551616)(hpart:0<=part/\part < 18446744073709551616)(DA:gM w ao cnt pb po aa ns cc xs)(DB:gM w ao2 c pb2 po2 aa2 ns2 cc2 ys):Calls Tryz.prog 7 #[.int .u64 tok,.int .u64 part,.slice ao cnt cp,.slice ao2 c cp2,.bool ct] w fun e w'=>e=.returned (.bool true)/\Below w.heap.size w w':=by
 obtain⟨nn,hnn⟩:∃ nn:Int,nn=1+tok % 1000000000000000000:=⟨_,rfl⟩
 have hn1:1<=nn/\nn<=1000000000000000000:=by omega
 obtain⟨pp,hpp⟩:∃ pp:Int,pp=1+part % 30:=⟨_,rfl⟩
 have hp1:1<=pp/\pp<=30:=by omega
 obtain⟨zv,hzv⟩:∃ zv:Int,zv=nn * U36 * pp / 100:=⟨_,rfl⟩
 have hz0:0<=zv:=by rw[hzv];exact Int.ediv_nonneg (Int.mul_nonneg (Int.mul_nonneg (by omega) (by decide)) (by omega)) (by decide)
 obtain⟨S1,hS1⟩:∃ S1,S1=sQ nn xs cnt:=⟨_,rfl⟩
 obtain⟨S2,hS2⟩:∃ S2,S2=sQ nn ys c:=⟨_,rfl⟩
 have BB:=Below.refl w.heap.size w;refine aM (n:=169) Tryz.func7 rfl (by kernel_rfl) (by kernel_rfl) ?_
 refine aj (aA (t 10 (.bool false) ?_));refine ay (ah (aj (aj (aA (tc 30 8 #[] (Cj) ?_)))));rintro _ v1 ⟨rfl,B⟩;refine⟨_,rfl,?_⟩;replace BB:=ax BB B;clear B;refine t 31 (.bool false) ?_
 refine ay (ah (dA ?_));refine bT (ah (aj (aj (aA (t 32 (.slice ao cnt cp) ?_)))));refine tc 33 29 #[.slice ao cnt cp] (oF (DA.keep BB)) ?_
 rintro _ v3 ⟨b2,rfl,hb2,B⟩;refine⟨_,rfl,?_⟩;replace BB:=ax BB B;clear B
 cases b2
 ·skip;refine t 34 (.bool true) ?_
  refine t 35 (.bool true) ?_
  refine tn 36 ?_
  refine tn 37 ?_
  refine tn 38 ?_
  refine t 39 (.bool true) ?_
  refine ay (ah (aT [(0,.int .u64 tok),(1,.int .u64 part),(2,.slice ao cnt cp),(3,.slice ao2 c cp2),(4,.bool ct),(10,.bool false),(39,.bool true)] (by kernel_rfl) ?_));refine et ?_
  refine aj (aA (t 10 (.bool true) ?_));refine ay (ah (aO (jJ (aQ (.bool true) (rs1 10 (by kernel_rfl) (by kernel_rfl)) ?_))));exact⟨rfl,BB⟩
 ·have hs1:=hb2 rfl;refine t 34 (.bool false) ?_
  refine t 35 (.bool false) ?_
  refine t 36 (.slice ao2 c cp2) ?_
  refine tc 37 29 #[.slice ao2 c cp2] (oF (DB.keep BB)) ?_
  rintro _ v5 ⟨b4,rfl,hb4,B⟩;refine⟨_,rfl,?_⟩;replace BB:=ax BB B;clear B
  cases b4
  ·skip;refine t 38 (.bool true) ?_
   refine t 39 (.bool true) ?_
   refine ay (ah (aT [(0,.int .u64 tok),(1,.int .u64 part),(2,.slice ao cnt cp),(3,.slice ao2 c cp2),(4,.bool ct),(10,.bool false),(39,.bool true)] (by kernel_rfl) ?_));refine et ?_
   refine aj (aA (t 10 (.bool true) ?_));refine ay (ah (aO (jJ (aQ (.bool true) (rs1 10 (by kernel_rfl) (by kernel_rfl)) ?_))));exact⟨rfl,BB⟩
  ·have hs2:=hb4 rfl;refine t 38 (.bool false) ?_
   refine t 39 (.bool false) ?_
   refine ay (ah (aT [(0,.int .u64 tok),(1,.int .u64 part),(2,.slice ao cnt cp),(3,.slice ao2 c cp2),(4,.bool ct),(10,.bool false),(39,.bool false)] (by kernel_rfl) ?_));refine dA ?_
   refine bT (ah (aj (aA (t 40 (.int .u64 tok) ?_))));refine tr 41 (.int .u64 (tok % 1000000000000000000)) (qZ tok 1000000000000000000 htok ⟨by decide,by decide⟩) ?_
   refine tq 42 (.int .u64 (IntKind.u64.wrap (1+tok % 1000000000000000000))) (.int .u64 nn) (congrArg (Value.int .u64) (by rw[IntKind.wrap_u64];omega)) ?_
   refine t 11 (.int .u64 nn) ?_
   refine ay (ah (aj (aA ?_)));obtain⟨Bz,hBz⟩:∃ Bz,Bz=(v5).heap.size:=⟨_,rfl⟩
   have hwB:w.heap.size<=Bz:=by rw[hBz];exact BB.size
   refine tc 43 16 #[] (DZ Bz hBz) ?_
   rintro _ v6 ⟨g0,K0,rfl,S0,hK0,B0⟩;refine⟨_,rfl,?_⟩;replace BB:=ax BB B0;clear B0;have U:=Ek BB (B:=Bz) hwB S0;clear BB S0;refine t 12 (pg g0) ?_
   refine ay (ah (aj (aA (t 44 (pg g0) ?_))));refine t 45 (.int .u64 nn) ?_
   refine t 46 (.int .u64 nn) ?_
   refine tc 47 18 #[.int .u64 nn] (eOf (y:=nn) ⟨by omega,by omega⟩) ?_
   rintro _ v8 ⟨aq7,nq7,cq7,zq7,rfl,M,h,mq7,B⟩;refine⟨_,rfl,?_⟩;replace U:=U.num M h B;clear M h B;refine t 48 (.agg #[.int .u64 0,.int .u64 nn,.slice aq7 nq7 cq7,.bool false,.int .u64 0,.bool false,.int .u64 0,.slice none 0 0,.slice none 0 0,.slice none 0 0]) ?_
   have F0:=AD (id:=16) (by decide);refine tc 49 17 #[pg g0,.int .u64 16,.agg #[.int .u64 0,.int .u64 nn,.slice aq7 nq7 cq7,.bool false,.int .u64 0,.bool false,.int .u64 0,.slice none 0 0,.slice none 0 0,.slice none 0 0]] (oM U.sx (id:=16) ⟨by decide,by decide⟩ (U.nq 0 rfl).nk (by omega) (bQ _ _).nk (by omega) (bQ _ _).nk (by omega) (bQ _ _).nk (by omega) (by omega) (by omega)) ?_
   rintro _ v15 ⟨ag,ae,ad,zq9,x,A,D,zq10,F,H,G,zq11,K12,n13,N14,rfl,S,qn13,qN14,hK,hC,Q0,mq9,h0,Q1,mq10,h1,Q2,mq11,h2⟩;refine⟨_,rfl,?_⟩;have L:=U.lt;replace U:=(((U.op S hK hC).add L Q0 h0).add L Q1 h1).add L Q2 h2;clear L S hK hC Q0 h0 Q1 h1 Q2 h2;refine ta 13 [.int .u64 0,.int .u64 0,.slice none 0 0,.bool false,.int .u64 0,.bool false,.int .u64 0,.slice none 0 0,.slice none 0 0,.slice none 0 0] 39 (pg) ?_
   intro v16 g17 Xg17 hg17 B;replace U:=U.new Xg17 hg17 B;clear Xg17 hg17 B;refine ts (U.bk 0 rfl) 0 (.agg #[.int .u64 0,.int .u64 nn,.slice ag ae ad,.bool false,.int .u64 0,.bool false,.int .u64 (0+1),.slice none 0 0,.slice x A D,.slice F H G]) [.int .u64 0,.int .u64 nn,.slice ag ae ad,.bool false,.int .u64 0,.bool false,.int .u64 (0+1),.slice none 0 0,.slice x A D,.slice F H G] [.int .u64 0,.int .u64 nn,.slice ag ae ad,.bool false,.int .u64 0,.bool false,.int .u64 (0+1),.slice none 0 0,.slice x A D,.slice F H G] ?_
   intro v18 Y C;replace U:=U.put 0 rfl C Y (by decide);clear Y C;refine ay (ah (aT [(1,.int .u64 part),(2,.slice ao cnt cp),(3,.slice ao2 c cp2),(4,.bool ct),(10,.bool false),(11,.int .u64 nn),(12,pg g0),(13,pg g17)] (by kernel_rfl) ?_));refine aj (aA (t 51 (.int .u64 nn) ?_));refine tc 52 18 #[.int .u64 nn] (eOf (y:=nn) ⟨by omega,by omega⟩) ?_
   rintro _ v20 ⟨aq19,nq19,cq19,zq19,rfl,M,h,mq19,B⟩;refine⟨_,rfl,?_⟩;replace U:=U.num M h B;clear M h B;refine t 53 (.int .u64 part) ?_
   refine tr 54 (.int .u64 (part % 30)) (qZ part 30 hpart ⟨by decide,by decide⟩) ?_
   refine tq 55 (.int .u64 (IntKind.u64.wrap (1+part % 30))) (.int .u64 pp) (congrArg (Value.int .u64) (by rw[IntKind.wrap_u64];omega)) ?_
   refine tc 56 31 #[.agg #[.slice aq19 nq19 cq19],.int .u64 pp] (eTimes (U.nq 0 rfl).nat (by omega) ⟨by omega,by omega⟩) ?_
   rintro _ v22 ⟨aq21,nq21,cq21,zq21,rfl,M,h,mq21,B⟩;refine⟨_,rfl,?_⟩;replace U:=U.num M h B;clear M h B;refine tc 57 30 #[.agg #[.slice aq21 nq21 cq21],.int .u64 100] (DW (y:=100) (U.nq 0 rfl).nat (by omega) ⟨by decide,by decide⟩) ?_
   rintro _ v24 ⟨j,i,l,zq23,rfl,M,h,mq23,B⟩;refine⟨_,rfl,?_⟩;replace U:=U.num M h B;clear M h B;replace U:=U.val 0 rfl hzv.symm;refine t 50 (.tuple #[.agg #[.slice j i l],.int .i64 (dvZ 100)]) ?_
   refine t 58 (.agg #[.slice j i l]) ?_
   refine t 59 (.int .i64 (dvZ 100)) ?_
   refine ta 14 [.slice none 0 0] 32 (pg) ?_
   intro v25 g26 Xg26 hg26 B;replace U:=U.new Xg26 hg26 B;clear Xg26 hg26 B;refine ts (U.bk 0 rfl) 0 (.agg #[.slice j i l]) [.slice j i l] [.slice j i l] ?_
   intro v27 Y C;replace U:=U.put 0 rfl C Y (by decide);clear Y C;refine t 15 (.int .i64 (dvZ 100)) ?_
   refine ay (ah (aT [(2,.slice ao cnt cp),(3,.slice ao2 c cp2),(4,.bool ct),(10,.bool false),(12,pg g0),(13,pg g17),(14,pg g26)] (by kernel_rfl) ?_));refine aj (aA (t 60 (pg g0) ?_));refine tlr 61 [.int .u64 0,.int .u64 nn,.slice ag ae ad,.bool false,.int .u64 0,.bool false,.int .u64 (0+1),.slice none 0 0,.slice x A D,.slice F H G] (U.bk 1 rfl) 0 ?_
   refine tlr 62 [.slice j i l] (U.bk 0 rfl) 0 ?_
   refine t 63 (.agg #[.slice j i l,.int .u64 0,.slice none 0 0]) ?_
   have F28:=F0.hold (by simp;try omega);refine tc 64 19 #[pg g0,.int .u64 16,.agg #[.int .u64 0,.int .u64 nn,.slice ag ae ad,.bool false,.int .u64 0,.bool false,.int .u64 (0+1),.slice none 0 0,.slice x A D,.slice F H G],.agg #[.slice j i l,.int .u64 0,.slice none 0 0]] (HoE.cast (E':=(aZ (aZ [] 16 0) 16 0)) (p:=0) (xs:=zv) (ef U.sx (id:=16) ⟨by decide,by decide⟩ ⟨by omega,by omega⟩ (U.nq 5 rfl).nk (by omega) (bQ _ _).nk (by omega) (U.nq 4 rfl).nk (by omega) (U.nq 3 rfl).nk (by omega) (U.nq 0 rfl).nk (by omega) (bQ _ _).nk (by omega) (by omega) (by omega)) (by omega) rfl (Int.mul_ediv_cancel _ (by unfold U36;omega))) ?_
   rintro _ v34 ⟨W,ab,V,zq29,ac,Z,X,zq30,K31,n32,N33,rfl,S,qn32,qN33,hK,hC,Q0,mq29,h0,Q1,mq30,h1⟩;refine⟨_,rfl,?_⟩;have L:=U.lt;replace U:=((U.op S hK hC).add L Q0 h0).add L Q1 h1;clear L S hK hC Q0 h0 Q1 h1;refine ta 16 [.slice none 0 0,.int .u64 0,.slice none 0 0] 54 (pg) ?_
   intro v35 g36 Xg36 hg36 B;replace U:=U.new Xg36 hg36 B;clear Xg36 hg36 B;refine ts (U.bk 0 rfl) 0 (.agg #[.slice W ab V,.int .u64 0,.slice ac Z X]) [.slice W ab V,.int .u64 0,.slice ac Z X] [.slice W ab V,.int .u64 0,.slice ac Z X] ?_
   intro v37 Y C;replace U:=U.put 0 rfl C Y (by decide);clear Y C;refine ay (ah (aj (aA (t 65 (pg g0) ?_))));refine tlr 66 [.int .u64 0,.int .u64 nn,.slice ag ae ad,.bool false,.int .u64 0,.bool false,.int .u64 (0+1),.slice none 0 0,.slice x A D,.slice F H G] (U.bk 2 rfl) 0 ?_
   refine tlr 67 [.slice j i l] (U.bk 1 rfl) 0 ?_
   refine t 68 (.agg #[.slice j i l,.int .u64 0,.slice none 0 0]) ?_
   have F38:=F28.hold (by simp;try omega);refine tc 69 19 #[pg g0,.int .u64 16,.agg #[.int .u64 0,.int .u64 nn,.slice ag ae ad,.bool false,.int .u64 0,.bool false,.int .u64 (0+1),.slice none 0 0,.slice x A D,.slice F H G],.agg #[.slice j i l,.int .u64 0,.slice none 0 0]] (HoE.cast (E':=(aZ (aZ (aZ [] 16 0) 16 0) 16 0)) (p:=0) (xs:=zv) (ef U.sx (id:=16) ⟨by decide,by decide⟩ ⟨by omega,by omega⟩ (U.nq 7 rfl).nk (by omega) (bQ _ _).nk (by omega) (U.nq 6 rfl).nk (by omega) (U.nq 5 rfl).nk (by omega) (U.nq 2 rfl).nk (by omega) (bQ _ _).nk (by omega) (by omega) (by omega)) (by omega) rfl (Int.mul_ediv_cancel _ (by unfold U36;omega))) ?_
   rintro _ v44 ⟨aq39,nq39,cq39,zq39,aq40,nq40,cq40,zq40,K41,n42,N43,rfl,S,qn42,qN43,hK,hC,Q0,mq39,h0,Q1,mq40,h1⟩;refine⟨_,rfl,?_⟩;have L:=U.lt;replace U:=((U.op S hK hC).add L Q0 h0).add L Q1 h1;clear L S hK hC Q0 h0 Q1 h1;refine ta 17 [.slice none 0 0,.int .u64 0,.slice none 0 0] 54 (pg) ?_
   intro v45 g46 Xg46 hg46 B;replace U:=U.new Xg46 hg46 B;clear Xg46 hg46 B;refine ts (U.bk 0 rfl) 0 (.agg #[.slice aq39 nq39 cq39,.int .u64 0,.slice aq40 nq40 cq40]) [.slice aq39 nq39 cq39,.int .u64 0,.slice aq40 nq40 cq40] [.slice aq39 nq39 cq39,.int .u64 0,.slice aq40 nq40 cq40] ?_
   intro v47 Y C;replace U:=U.put 0 rfl C Y (by decide);clear Y C;refine ay (ah (aT [(2,.slice ao cnt cp),(3,.slice ao2 c cp2),(4,.bool ct),(10,.bool false),(12,pg g0),(13,pg g17),(14,pg g26),(16,pg g36),(17,pg g46)] (by kernel_rfl) ?_));refine jt (fun(s:JD)=>[(2,.slice ao cnt cp),(3,.slice ao2 c cp2),(4,.bool ct),(12,pg g0),(13,pg g17),(14,pg g26),(16,pg g36),(17,pg g46),(18,pg s.gd)]) (fun s w'=>Un w Bz g0 w' s.K (aZ (aZ (aZ (aZ [] 16 0) 16 0) 16 0) 16 0) s.n s.N ((s.gd,[.slice s.a0 s.k0 s.c0,.int .u64 0,.slice s.a1 s.k1 s.c1],54) :: [(g46,[.slice aq39 nq39 cq39,.int .u64 0,.slice aq40 nq40 cq40],54),(g36,[.slice W ab V,.int .u64 0,.slice ac Z X],54),(g26,[.slice j i l],32),(g17,[.int .u64 0,.int .u64 nn,.slice ag ae ad,.bool false,.int .u64 0,.bool false,.int .u64 (0+1),.slice none 0 0,.slice x A D,.slice F H G],39)]) ((s.z0,s.a0,s.k0,s.c0,zv+zv) :: (s.z1,s.a1,s.k1,s.c1,zv+zv) :: [(zq40,aq40,nq40,cq40,zv),(zq39,aq39,nq39,cq39,zv),(zq30,ac,Z,X,zv),(zq29,W,ab,V,zv),(zq23,j,i,l,zv),(zq11,F,H,G,0),(zq10,x,A,D,0),(zq9,ag,ae,ad,nn * U36)])/\s.n<=300/\s.N<=300/\s.k0<=1000/\s.k1<=1000) ?_ ?_
   ·replace U:=U.drew;refine bX (fun w'=>Blk w' g17 [.int .u64 0,.int .u64 nn,.slice ag ae ad,.bool false,.int .u64 0,.bool false,.int .u64 (0+1),.slice none 0 0,.slice x A D,.slice F H G] 39/\Blk w' g26 [.slice j i l] 32) (fun _=>false) ⟨(U.bk 3 rfl),(U.bk 2 rfl)⟩ ?_
    refine z 0 70 (pg g0) ?_
    refine zlr 1 71 [.int .u64 0,.int .u64 nn,.slice ag ae ad,.bool false,.int .u64 0,.bool false,.int .u64 (0+1),.slice none 0 0,.slice x A D,.slice F H G] (fun _ h=>h.1) 0 ?_
    refine zlr 2 72 [.slice j i l] (fun _ h=>h.2) 0 ?_
    refine zlr 3 73 [.slice j i l] (fun _ h=>h.2) 0 ?_
    refine cn [4,7] ?_
    refine dz 4 (some 74) 27 #[.agg #[.slice j i l],.agg #[.slice j i l]] (sC (U.nq 4 rfl).nat (by omega) (U.nq 4 rfl).nat (by omega)) ?_ ?_
    ·rintro _ v49 ⟨aq48,nq48,cq48,zq48,rfl,M,h,mq48,B⟩;replace U:=U.num M h B;clear M h B;refine⟨_,rfl,⟨(U.bk 3 rfl),(U.bk 2 rfl)⟩,?_⟩;refine zr 5 75 (.agg #[.slice aq48 nq48 cq48,.int .u64 0,.slice none 0 0]) (by intro _ _;kernel_rfl) ?_
     refine cn [6,7] ?_
     have F50:=F38.hold (by simp;try omega);refine dz 6 (some 76) 19 #[pg g0,.int .u64 16,.agg #[.int .u64 0,.int .u64 nn,.slice ag ae ad,.bool false,.int .u64 0,.bool false,.int .u64 (0+1),.slice none 0 0,.slice x A D,.slice F H G],.agg #[.slice aq48 nq48 cq48,.int .u64 0,.slice none 0 0]] (HoE.cast (E':=(aZ (aZ (aZ (aZ [] 16 0) 16 0) 16 0) 16 0)) (p:=0) (xs:=zv+zv) (ef U.sx (id:=16) ⟨by decide,by decide⟩ ⟨by omega,by omega⟩ (U.nq 10 rfl).nk (by omega) (bQ _ _).nk (by omega) (U.nq 9 rfl).nk (by omega) (U.nq 8 rfl).nk (by omega) (U.nq 0 rfl).nk (by omega) (bQ _ _).nk (by omega) (by omega) (by omega)) (by omega) rfl (Int.mul_ediv_cancel _ (by unfold U36;omega))) ?_ ?_
     ·rintro _ v56 ⟨aq51,nq51,cq51,zq51,aq52,nq52,cq52,zq52,K53,n54,N55,rfl,S,qn54,qN55,hK,hC,Q0,mq51,h0,Q1,mq52,h1⟩;have L:=U.lt;replace U:=((U.op S hK hC).add L Q0 h0).add L Q1 h1;clear L S hK hC Q0 h0 Q1 h1;refine⟨_,rfl,⟨(U.bk 3 rfl),(U.bk 2 rfl)⟩,?_⟩;refine za 7 18 [.slice none 0 0,.int .u64 0,.slice none 0 0] 54 (pg) ?_
      intro v57 g58 Xg58 hg58 B;replace U:=U.new Xg58 hg58 B;clear Xg58 hg58 B;refine⟨⟨(U.bk 4 rfl),(U.bk 3 rfl)⟩,?_⟩;refine zs 8 (U.bk 0 rfl) 0 (.agg #[.slice aq51 nq51 cq51,.int .u64 0,.slice aq52 nq52 cq52]) [.slice aq51 nq51 cq51,.int .u64 0,.slice aq52 nq52 cq52] [.slice aq51 nq51 cq51,.int .u64 0,.slice aq52 nq52 cq52] ?_
      intro v59 Y C;replace U:=U.put 0 rfl C Y (by decide);clear Y C;refine⟨⟨(U.bk 4 rfl),(U.bk 3 rfl)⟩,?_⟩;refine bh ?_
      exact cM (⟨_,_,_,g58,aq51,nq51,cq51,zq51,aq52,nq52,cq52,zq52⟩:JD) ⟨U.sel [0,1,2,3,4] [1,0,3,4,5,6,7,10,11,12],by (try dsimp only);omega,by (try dsimp only);omega,by (try dsimp only);omega,by (try dsimp only);omega⟩ (by kernel_rfl)
     refine zaa 7 18 [.slice none 0 0,.int .u64 0,.slice none 0 0] 54 (pg) ?_ ?_
     ·intro v60 g61 Xg61 hg61 B;replace U:=U.new Xg61 hg61 B;clear Xg61 hg61 B;refine⟨⟨(U.bk 4 rfl),(U.bk 3 rfl)⟩,?_⟩;have F62:=F38.hold (by simp;try omega);refine zc 6 76 19 #[pg g0,.int .u64 16,.agg #[.int .u64 0,.int .u64 nn,.slice ag ae ad,.bool false,.int .u64 0,.bool false,.int .u64 (0+1),.slice none 0 0,.slice x A D,.slice F H G],.agg #[.slice aq48 nq48 cq48,.int .u64 0,.slice none 0 0]] (HoE.cast (E':=(aZ (aZ (aZ (aZ [] 16 0) 16 0) 16 0) 16 0)) (p:=0) (xs:=zv+zv) (ef U.sx (id:=16) ⟨by decide,by decide⟩ ⟨by omega,by omega⟩ (U.nq 10 rfl).nk (by omega) (bQ _ _).nk (by omega) (U.nq 9 rfl).nk (by omega) (U.nq 8 rfl).nk (by omega) (U.nq 0 rfl).nk (by omega) (bQ _ _).nk (by omega) (by omega) (by omega)) (by omega) rfl (Int.mul_ediv_cancel _ (by unfold U36;omega))) ?_
      rintro _ v68 ⟨aq63,nq63,cq63,zq63,aq64,nq64,cq64,zq64,K65,n66,N67,rfl,S,qn66,qN67,hK,hC,Q0,mq63,h0,Q1,mq64,h1⟩;have L:=U.lt;replace U:=((U.op S hK hC).add L Q0 h0).add L Q1 h1;clear L S hK hC Q0 h0 Q1 h1;refine⟨_,rfl,⟨(U.bk 4 rfl),(U.bk 3 rfl)⟩,?_⟩;refine zs 8 (U.bk 0 rfl) 0 (.agg #[.slice aq63 nq63 cq63,.int .u64 0,.slice aq64 nq64 cq64]) [.slice aq63 nq63 cq63,.int .u64 0,.slice aq64 nq64 cq64] [.slice aq63 nq63 cq63,.int .u64 0,.slice aq64 nq64 cq64] ?_
      intro v69 Y C;replace U:=U.put 0 rfl C Y (by decide);clear Y C;refine⟨⟨(U.bk 4 rfl),(U.bk 3 rfl)⟩,?_⟩;refine bh ?_
      exact cM (⟨_,_,_,g61,aq63,nq63,cq63,zq63,aq64,nq64,cq64,zq64⟩:JD) ⟨U.sel [0,1,2,3,4] [1,0,3,4,5,6,7,10,11,12],by (try dsimp only);omega,by (try dsimp only);omega,by (try dsimp only);omega,by (try dsimp only);omega⟩ (by kernel_rfl)
     exact dJ
    refine zaa 7 18 [.slice none 0 0,.int .u64 0,.slice none 0 0] 54 (pg) ?_ ?_
    ·intro v70 g71 Xg71 hg71 B;replace U:=U.new Xg71 hg71 B;clear Xg71 hg71 B;refine⟨⟨(U.bk 4 rfl),(U.bk 3 rfl)⟩,?_⟩;refine zc 4 74 27 #[.agg #[.slice j i l],.agg #[.slice j i l]] (sC (U.nq 4 rfl).nat (by omega) (U.nq 4 rfl).nat (by omega)) ?_
     rintro _ v73 ⟨aq72,nq72,cq72,zq72,rfl,M,h,mq72,B⟩;replace U:=U.num M h B;clear M h B;refine⟨_,rfl,⟨(U.bk 4 rfl),(U.bk 3 rfl)⟩,?_⟩;refine zr 5 75 (.agg #[.slice aq72 nq72 cq72,.int .u64 0,.slice none 0 0]) (by intro _ _;kernel_rfl) ?_
     have F74:=F38.hold (by simp;try omega);refine zc 6 76 19 #[pg g0,.int .u64 16,.agg #[.int .u64 0,.int .u64 nn,.slice ag ae ad,.bool false,.int .u64 0,.bool false,.int .u64 (0+1),.slice none 0 0,.slice x A D,.slice F H G],.agg #[.slice aq72 nq72 cq72,.int .u64 0,.slice none 0 0]] (HoE.cast (E':=(aZ (aZ (aZ (aZ [] 16 0) 16 0) 16 0) 16 0)) (p:=0) (xs:=zv+zv) (ef U.sx (id:=16) ⟨by decide,by decide⟩ ⟨by omega,by omega⟩ (U.nq 10 rfl).nk (by omega) (bQ _ _).nk (by omega) (U.nq 9 rfl).nk (by omega) (U.nq 8 rfl).nk (by omega) (U.nq 0 rfl).nk (by omega) (bQ _ _).nk (by omega) (by omega) (by omega)) (by omega) rfl (Int.mul_ediv_cancel _ (by unfold U36;omega))) ?_
     rintro _ v80 ⟨aq75,nq75,cq75,zq75,aq76,nq76,cq76,zq76,K77,n78,N79,rfl,S,qn78,qN79,hK,hC,Q0,mq75,h0,Q1,mq76,h1⟩;have L:=U.lt;replace U:=((U.op S hK hC).add L Q0 h0).add L Q1 h1;clear L S hK hC Q0 h0 Q1 h1;refine⟨_,rfl,⟨(U.bk 4 rfl),(U.bk 3 rfl)⟩,?_⟩;refine zs 8 (U.bk 0 rfl) 0 (.agg #[.slice aq75 nq75 cq75,.int .u64 0,.slice aq76 nq76 cq76]) [.slice aq75 nq75 cq75,.int .u64 0,.slice aq76 nq76 cq76] [.slice aq75 nq75 cq75,.int .u64 0,.slice aq76 nq76 cq76] ?_
     intro v81 Y C;replace U:=U.put 0 rfl C Y (by decide);clear Y C;refine⟨⟨(U.bk 4 rfl),(U.bk 3 rfl)⟩,?_⟩;refine bh ?_
     exact cM (⟨_,_,_,g71,aq75,nq75,cq75,zq75,aq76,nq76,cq76,zq76⟩:JD) ⟨U.sel [0,1,2,3,4] [1,0,3,4,5,6,7,10,11,12],by (try dsimp only);omega,by (try dsimp only);omega,by (try dsimp only);omega,by (try dsimp only);omega⟩ (by kernel_rfl)
    exact dJ
   clear U;rintro⟨KJc,nJc,NJc,gdc,a0c,k0c,c0c,z0c,a1c,k1c,c1c,z1c⟩ v82 ⟨U,qnJc,qNJc,mk0c,mk1c⟩;dsimp only at *;have Fdc:=F38.hold (by simp;try omega);refine aj (aA (t 77 (pg g0) ?_));refine tlr 78 [.int .u64 0,.int .u64 nn,.slice ag ae ad,.bool false,.int .u64 0,.bool false,.int .u64 (0+1),.slice none 0 0,.slice x A D,.slice F H G] (U.bk 4 rfl) 0 ?_
   refine t 79 (.slice ao cnt cp) ?_
   obtain⟨pbu,zzu,Du⟩:=DA.k hs1 U.bb U.out (U.nk 0 rfl);have hsmu:=DA.sm hs1;have fewu:=hs1.1;have L:=U.lt;have e0:=U.en 9 rfl;have e1:=U.en0;have e2:=U.en 8 rfl;have e3:=U.en 7 rfl;refine tc 80 32 #[pg g0,.agg #[.int .u64 0,.int .u64 nn,.slice ag ae ad,.bool false,.int .u64 0,.bool false,.int .u64 (0+1),.slice none 0 0,.slice x A D,.slice F H G],.slice ao cnt cp] (u6 (la:=0) U.sx Fdc ⟨by omega,by omega⟩ (U.nq 9 rfl) (by omega) (bQ _ _) (by omega) (U.nq 8 rfl) (by omega) (U.nq 7 rfl) (by omega) Du hsmu (by omega) (by show (0:Int)<=_;decide) (by omega) (by omega)) ?_
   rintro _ v86 ⟨au0,nu0,cu0,zu0,au1,nu1,cu1,zu1,au2,nu2,cu2,zu2,au3,nu3,cu3,zu3,K83,n84,N85,Eu,Ru,rfl,S,qn84,qN85,hK,hC,⟨Q0,mu0,f0⟩,⟨Q1,mu1,f1⟩,⟨Q2,mu2,f2⟩,⟨Q3,mu3,f3⟩,Fu,hsu,rlu⟩;refine⟨_,rfl,?_⟩;replace U:=((((U.op S hK hC).rZ L e0 Q0 f0).rZ L e1 Q1 f1).rZ L e2 Q2 f2).rZ L e3 Q3 f3;clear L S hK hC e0 Q0 f0 e1 Q1 f1 e2 Q2 f2 e3 Q3 f3;have sb1:=vf (n:=nn) (by omega) hsmu cnt (Nat.le_refl _);rw[<- hS1] at rlu sb1
   have z1:Ru 0=0:=hsu 0 (Int.le_refl _)
   have b9:(cnt:Int) * 18446744073709551616 ^ 4<=20 * 18446744073709551616 ^ 4:=Int.mul_le_mul_of_nonneg_right (by omega) (by decide)
   have hR1:Ru (0+(cnt:Int))<=400000 * 18446744073709551616 ^ 4:=by omega
   refine ts (U.bk 4 rfl) 0 (.agg #[.int .u64 0,.int .u64 nn,.slice au0 nu0 cu0,.bool false,.int .u64 0,.bool false,.int .u64 (0+(cnt:Int)+1),.slice au1 nu1 cu1,.slice au2 nu2 cu2,.slice au3 nu3 cu3]) [.int .u64 0,.int .u64 nn,.slice au0 nu0 cu0,.bool false,.int .u64 0,.bool false,.int .u64 (0+(cnt:Int)+1),.slice au1 nu1 cu1,.slice au2 nu2 cu2,.slice au3 nu3 cu3] [.int .u64 0,.int .u64 nn,.slice au0 nu0 cu0,.bool false,.int .u64 0,.bool false,.int .u64 (0+(cnt:Int)+1),.slice au1 nu1 cu1,.slice au2 nu2 cu2,.slice au3 nu3 cu3] ?_
   intro v87 Y C;replace U:=U.put 4 rfl C Y (by decide);clear Y C;refine ay (ah (aj (aA (t 81 (pg g0) ?_))));refine tlr 82 [.int .u64 0,.int .u64 nn,.slice au0 nu0 cu0,.bool false,.int .u64 0,.bool false,.int .u64 (0+(cnt:Int)+1),.slice au1 nu1 cu1,.slice au2 nu2 cu2,.slice au3 nu3 cu3] (U.bk 4 rfl) 0 ?_
   refine tlr 83 [.slice j i l] (U.bk 3 rfl) 0 ?_
   refine t 84 (.agg #[.slice j i l,.int .u64 0,.slice none 0 0]) ?_
   have F88:=Fu.hold (by simp;try omega);refine tc 85 19 #[pg g0,.int .u64 16,.agg #[.int .u64 0,.int .u64 nn,.slice au0 nu0 cu0,.bool false,.int .u64 0,.bool false,.int .u64 (0+(cnt:Int)+1),.slice au1 nu1 cu1,.slice au2 nu2 cu2,.slice au3 nu3 cu3],.agg #[.slice j i l,.int .u64 0,.slice none 0 0]] (HoE.cast (E':=(aZ Eu 16 (0+(cnt:Int)))) (p:=0+(cnt:Int)) (xs:=zv) (ef U.sx (id:=16) ⟨by decide,by decide⟩ ⟨by omega,by omega⟩ (U.nq 3 rfl).nk (by omega) (U.nq 2 rfl).nk (by omega) (U.nq 1 rfl).nk (by omega) (U.nq 0 rfl).nk (by omega) (U.nq 10 rfl).nk (by omega) (bQ _ _).nk (by omega) (by omega) (by omega)) (by omega) rfl (Int.mul_ediv_cancel _ (by unfold U36;omega))) ?_
   rintro _ v94 ⟨aq89,nq89,cq89,zq89,aq90,nq90,cq90,zq90,K91,n92,N93,rfl,S,qn92,qN93,hK,hC,Q0,mq89,h0,Q1,mq90,h1⟩;refine⟨_,rfl,?_⟩;have L:=U.lt;replace U:=((U.op S hK hC).add L Q0 h0).add L Q1 h1;clear L S hK hC Q0 h0 Q1 h1;refine ta 19 [.slice none 0 0,.int .u64 0,.slice none 0 0] 54 (pg) ?_
   intro v95 g96 Xg96 hg96 B;replace U:=U.new Xg96 hg96 B;clear Xg96 hg96 B;refine ts (U.bk 0 rfl) 0 (.agg #[.slice aq89 nq89 cq89,.int .u64 (0+(cnt:Int)),.slice aq90 nq90 cq90]) [.slice aq89 nq89 cq89,.int .u64 (0+(cnt:Int)),.slice aq90 nq90 cq90] [.slice aq89 nq89 cq89,.int .u64 (0+(cnt:Int)),.slice aq90 nq90 cq90] ?_
   intro v97 Y C;replace U:=U.put 0 rfl C Y (by decide);clear Y C;refine ay (ah (aj (aA (t 87 (pg g0) ?_))));refine tlr 88 [.int .u64 0,.int .u64 nn,.slice au0 nu0 cu0,.bool false,.int .u64 0,.bool false,.int .u64 (0+(cnt:Int)+1),.slice au1 nu1 cu1,.slice au2 nu2 cu2,.slice au3 nu3 cu3] (U.bk 5 rfl) 0 ?_
   refine tlr 89 [.slice W ab V,.int .u64 0,.slice ac Z X] (U.bk 3 rfl) 0 ?_
   refine tc 90 20 #[pg g0,.int .u64 16,.agg #[.int .u64 0,.int .u64 nn,.slice au0 nu0 cu0,.bool false,.int .u64 0,.bool false,.int .u64 (0+(cnt:Int)+1),.slice au1 nu1 cu1,.slice au2 nu2 cu2,.slice au3 nu3 cu3],.agg #[.slice W ab V,.int .u64 0,.slice ac Z X]] (lh.cast (c':=0) (V':=(zv * S1 / U36)) (ij (la:=0+(cnt:Int)) U.sx F88 (U.nq 10 rfl) (by omega) (by simp) (by omega) (by simp) (by omega) (by omega)) (rfl) (by rw[Ci,De (by omega),rlu,z1];congr 2;omega)) ?_
   rintro _ v99 ⟨aq98,nq98,cq98,zq98,rfl,S,C,Q,mq98,h⟩;refine⟨_,rfl,?_⟩;have L:=U.lt;replace U:=(U.ask S C).add L Q h;clear L S C Q h;refine t 86 (.tuple #[.agg #[.slice aq98 nq98 cq98],.int .i64 0]) ?_
   refine t 91 (.agg #[.slice aq98 nq98 cq98]) ?_
   refine t 92 (.int .i64 0) ?_
   refine ta 20 [.slice none 0 0] 32 (pg) ?_
   intro v100 g101 Xg101 hg101 B;replace U:=U.new Xg101 hg101 B;clear Xg101 hg101 B;refine ts (U.bk 0 rfl) 0 (.agg #[.slice aq98 nq98 cq98]) [.slice aq98 nq98 cq98] [.slice aq98 nq98 cq98] ?_
   intro v102 Y C;replace U:=U.put 0 rfl C Y (by decide);clear Y C;refine t 21 (.int .i64 0) ?_
   refine ay (ah (aT [(3,.slice ao2 c cp2),(4,.bool ct),(12,pg g0),(13,pg g17),(16,pg g36),(17,pg g46),(18,pg gdc),(19,pg g96),(20,pg g101)] (by kernel_rfl) ?_));refine jt (fun(s:JT)=>[(3,.slice ao2 c cp2),(4,.bool ct),(12,pg g0),(13,pg g17),(16,pg g36),(17,pg g46),(18,pg gdc),(19,pg g96),(20,pg g101)]) (fun(s:JT) w'=>Un w Bz g0 w' s.K s.E s.n s.N [(g17,[.int .u64 0,.int .u64 s.tk,.slice s.b0 s.k0 s.d0,.bool false,.int .u64 0,.bool false,.int .u64 (s.la+1),.slice s.b1 s.k1 s.d1,.slice s.b2 s.k2 s.d2,.slice s.b3 s.k3 s.d3],39),(g101,[.slice aq98 nq98 cq98],32),(g96,[.slice aq89 nq89 cq89,.int .u64 (0+(cnt:Int)),.slice aq90 nq90 cq90],54),(gdc,[.slice a0c k0c c0c,.int .u64 0,.slice a1c k1c c1c],54),(g46,[.slice aq39 nq39 cq39,.int .u64 0,.slice aq40 nq40 cq40],54),(g36,[.slice W ab V,.int .u64 0,.slice ac Z X],54),(g26,[.slice j i l],32)] [(s.y0,s.b0,s.k0,s.d0,nn * U36),(s.y1,s.b1,s.k1,s.d1,0),(s.y2,s.b2,s.k2,s.d2,0),(s.y3,s.b3,s.k3,s.d3,0),(zq98,aq98,nq98,cq98,(zv * S1 / U36)),(zq90,aq90,nq90,cq90,zv),(zq89,aq89,nq89,cq89,zv),(z0c,a0c,k0c,c0c,zv+zv),(z1c,a1c,k1c,c1c,zv+zv),(zq40,aq40,nq40,cq40,zv),(zq39,aq39,nq39,cq39,zv),(zq30,ac,Z,X,zv),(zq29,W,ab,V,zv),(zq23,j,i,l,zv)]/\(s.n<=2000/\s.N<=2000/\s.k0<=1000/\s.k1<=1000/\s.k2<=1000/\s.k3<=1000)/\Fs s.E 16 s.la s.R ((0+(cnt:Int)) :: [0,0,0]) s.C/\(0<=s.tk/\s.tk<=1000000000000000000/\0<=s.la/\s.la<=30/\0+(cnt:Int)<=s.la)/\(s.R s.la=S1/\s.R 0=0/\s.R (0+(cnt:Int))=S1)/\((ct=false/\s.C=[])\/(ct=true/\s.C=[(s.la,nn,0)]/\s.la=0+(cnt:Int)+1/\s.tk=0))) ?_ ?_
   ·refine aj ?_
    refine aA (t 93 (.bool ct) ?_);refine ay (ah ?_);rcases Bool.eq_false_or_eq_true (ct) with b103 | b103
    ·refine et (hc:=congrArg Value.bool b103) ?_
     refine aj (aA (t 95 (pg g0) ?_));refine tlr 96 [.int .u64 0,.int .u64 nn,.slice au0 nu0 cu0,.bool false,.int .u64 0,.bool false,.int .u64 (0+(cnt:Int)+1),.slice au1 nu1 cu1,.slice au2 nu2 cu2,.slice au3 nu3 cu3] (U.bk 6 rfl) 0 ?_
     have hlim:Ru (0+(cnt:Int))+0 / nn < LIM:=by rw[Int.zero_ediv];exact uX (by omega)
     have Fk:=F88.close (tk:=nn) (cur:=0) (by omega) (by rw[Int.zero_ediv];exact Int.le_refl _) hlim;refine tc 97 22 #[pg g0,.int .u64 16,.agg #[.int .u64 0,.int .u64 nn,.slice au0 nu0 cu0,.bool false,.int .u64 0,.bool false,.int .u64 (0+(cnt:Int)+1),.slice au1 nu1 cu1,.slice au2 nu2 cu2,.slice au3 nu3 cu3]] (ClE.cast (E':=(dQ (aZ Eu 16 (0+(cnt:Int))) 16 (0+(cnt:Int)+1) nn 0)) (pq:=0+(cnt:Int)+1+1) (ga U.sx (id:=16) ⟨by decide,by decide⟩ ⟨by omega,by omega⟩ (U.nq 6 rfl).nk (by omega) (U.nq 5 rfl).nk (by omega) (U.nq 4 rfl).nk (by omega) (U.nq 3 rfl).nk (by omega) (by omega) (by omega)) (by omega) rfl) ?_
     rintro _ v111 ⟨aq104,nq104,cq104,zq104,aq105,nq105,cq105,zq105,aq106,nq106,cq106,zq106,aq107,nq107,cq107,zq107,K108,n109,N110,rfl,S,qn109,qN110,hK,hC,Q0,mq104,h0,Q1,mq105,h1,Q2,mq106,h2,Q3,mq107,h3⟩;refine⟨_,rfl,?_⟩;have L:=U.lt;replace U:=((((U.op S hK hC).add L Q0 h0).add L Q1 h1).add L Q2 h2).add L Q3 h3;clear L S hK hC Q0 h0 Q1 h1 Q2 h2 Q3 h3;replace U:=U.val 1 rfl (zo (Int.le_refl 0));refine t 94 (.tuple #[.agg #[.int .u64 0,.int .u64 nn,.slice aq104 nq104 cq104,.bool false,.int .u64 0,.bool false,.int .u64 (0+(cnt:Int)+1+1),.slice none 0 0,.slice aq106 nq106 cq106,.slice aq107 nq107 cq107],.agg #[.slice aq105 nq105 cq105]]) ?_
     refine t 98 (.agg #[.int .u64 0,.int .u64 nn,.slice aq104 nq104 cq104,.bool false,.int .u64 0,.bool false,.int .u64 (0+(cnt:Int)+1+1),.slice none 0 0,.slice aq106 nq106 cq106,.slice aq107 nq107 cq107]) ?_
     refine t 99 (.agg #[.slice aq105 nq105 cq105]) ?_
     refine ts (U.bk 6 rfl) 0 (.agg #[.int .u64 0,.int .u64 nn,.slice aq104 nq104 cq104,.bool false,.int .u64 0,.bool false,.int .u64 (0+(cnt:Int)+1+1),.slice none 0 0,.slice aq106 nq106 cq106,.slice aq107 nq107 cq107]) [.int .u64 0,.int .u64 nn,.slice aq104 nq104 cq104,.bool false,.int .u64 0,.bool false,.int .u64 (0+(cnt:Int)+1+1),.slice none 0 0,.slice aq106 nq106 cq106,.slice aq107 nq107 cq107] [.int .u64 0,.int .u64 nn,.slice aq104 nq104 cq104,.bool false,.int .u64 0,.bool false,.int .u64 (0+(cnt:Int)+1+1),.slice none 0 0,.slice aq106 nq106 cq106,.slice aq107 nq107 cq107] ?_
     intro v112 Y C;replace U:=U.put 6 rfl C Y (by decide);clear Y C;refine ay (ah (aA (t 100 (pg g0) ?_)));refine tlr 101 [.int .u64 0,.int .u64 nn,.slice aq104 nq104 cq104,.bool false,.int .u64 0,.bool false,.int .u64 (0+(cnt:Int)+1+1),.slice none 0 0,.slice aq106 nq106 cq106,.slice aq107 nq107 cq107] (U.bk 6 rfl) 0 ?_
     have Fc:Fs (nP (dQ (aZ Eu 16 (0+(cnt:Int))) 16 (0+(cnt:Int)+1) nn 0) 16 (0+(cnt:Int)+1) nn 0) 16 (0+(cnt:Int)+1) (upd Ru (0+(cnt:Int)+1) (Ru (0+(cnt:Int))+0 / nn)) _ [(0+(cnt:Int)+1,nn,0)]:=Fk.cut (b:=nn) (a:=0) ⟨by omega,by omega⟩ (by decide) (fun _ h=>by cases h) (by simp)
     have k1:(upd Ru (0+(cnt:Int)+1) (Ru (0+(cnt:Int))+0 / nn)) (0+(cnt:Int)+1)=S1:=by unfold upd;rw[if_pos rfl,Int.zero_ediv];omega
     have k0:(upd Ru (0+(cnt:Int)+1) (Ru (0+(cnt:Int))+0 / nn)) 0=0:=by unfold upd;rw[if_neg (by omega)];exact z1
     have k2:(upd Ru (0+(cnt:Int)+1) (Ru (0+(cnt:Int))+0 / nn)) (0+(cnt:Int))=S1:=by unfold upd;rw[if_neg (by omega)];omega
     refine tc 102 34 #[pg g0,.int .u64 16,.agg #[.int .u64 0,.int .u64 nn,.slice aq104 nq104 cq104,.bool false,.int .u64 0,.bool false,.int .u64 (0+(cnt:Int)+1+1),.slice none 0 0,.slice aq106 nq106 cq106,.slice aq107 nq107 cq107],.int .u64 0] (CuE.cast (E':=(nP (dQ (aZ Eu 16 (0+(cnt:Int))) 16 (0+(cnt:Int)+1) nn 0) 16 (0+(cnt:Int)+1) nn 0)) (p:=0+(cnt:Int)+1) (uP (af:=0) U.sx (id:=16) ⟨by decide,by decide⟩ (U.nq 3 rfl).nk (by omega) (bQ _ _).nk (by omega) (U.nq 1 rfl).nk (by omega) (U.nq 0 rfl).nk (by omega) (by omega) (by omega)) (by omega) rfl) ?_
     rintro _ v120 ⟨aq113,nq113,cq113,zq113,aq114,nq114,cq114,zq114,aq115,nq115,cq115,zq115,aq116,nq116,cq116,zq116,K117,n118,N119,rfl,S,qn118,qN119,hK,hC,Q0,mq113,h0,Q1,mq114,h1,Q2,mq115,h2,Q3,mq116,h3⟩;refine⟨_,rfl,?_⟩;have L:=U.lt;replace U:=((((U.op S hK hC).add L Q0 h0).add L Q1 h1).add L Q2 h2).add L Q3 h3;clear L S hK hC Q0 h0 Q1 h1 Q2 h2 Q3 h3;refine ts (U.bk 6 rfl) 0 (.agg #[.int .u64 0,.int .u64 0,.slice aq113 nq113 cq113,.bool false,.int .u64 0,.bool false,.int .u64 (0+(cnt:Int)+1+1),.slice aq114 nq114 cq114,.slice aq115 nq115 cq115,.slice aq116 nq116 cq116]) [.int .u64 0,.int .u64 0,.slice aq113 nq113 cq113,.bool false,.int .u64 0,.bool false,.int .u64 (0+(cnt:Int)+1+1),.slice aq114 nq114 cq114,.slice aq115 nq115 cq115,.slice aq116 nq116 cq116] [.int .u64 0,.int .u64 0,.slice aq113 nq113 cq113,.bool false,.int .u64 0,.bool false,.int .u64 (0+(cnt:Int)+1+1),.slice aq114 nq114 cq114,.slice aq115 nq115 cq115,.slice aq116 nq116 cq116] ?_
     intro v121 Y C;replace U:=U.put 6 rfl C Y (by decide);clear Y C;refine ay ?_
     exact cM (⟨_,(nP (dQ (aZ Eu 16 (0+(cnt:Int))) 16 (0+(cnt:Int)+1) nn 0) 16 (0+(cnt:Int)+1) nn 0),(upd Ru (0+(cnt:Int)+1) (Ru (0+(cnt:Int))+0 / nn)),[(0+(cnt:Int)+1,nn,0)],_,_,0,0+(cnt:Int)+1,aq113,nq113,cq113,zq113,aq114,nq114,cq114,zq114,aq115,nq115,cq115,zq115,aq116,nq116,cq116,zq116⟩:JT) ⟨U.sel [6,0,1,2,3,4,5] [3,2,1,0,8,9,10,15,16,17,18,19,20,21],⟨by (try dsimp only);omega,by (try dsimp only);omega,by (try dsimp only);omega,by (try dsimp only);omega,by (try dsimp only);omega,by (try dsimp only);omega⟩,Fc,⟨by (try dsimp only);omega,by (try dsimp only);omega,by (try dsimp only);omega,by (try dsimp only);omega,by (try dsimp only);omega⟩,⟨k1,k0,k2⟩,.inr ⟨b103,rfl,rfl,rfl⟩⟩ (by kernel_rfl)
    ·refine dA (hc:=congrArg Value.bool b103) ?_
     refine bT ?_
     exact cM (⟨_,(aZ Eu 16 (0+(cnt:Int))),Ru,[],_,_,nn,0+(cnt:Int),au0,nu0,cu0,zu0,au1,nu1,cu1,zu1,au2,nu2,cu2,zu2,au3,nu3,cu3,zu3⟩:JT) ⟨U.sel [6,0,1,2,3,4,5] [6,5,4,3,0,1,2,7,8,9,10,11,12,13],⟨by (try dsimp only);omega,by (try dsimp only);omega,by (try dsimp only);omega,by (try dsimp only);omega,by (try dsimp only);omega,by (try dsimp only);omega⟩,F88,⟨by (try dsimp only);omega,by (try dsimp only);omega,by (try dsimp only);omega,by (try dsimp only);omega,by (try dsimp only);omega⟩,⟨by (try dsimp only);omega,z1,by (try dsimp only);omega⟩,.inl ⟨b103,rfl⟩⟩ (by kernel_rfl)
   clear U;rintro⟨K9,E9,R9,C9,n9,N9,tk9,P,b0,k0,d0,y0,b1,k1,d1,y1,b2,k2,d2,y2,b3,k3,d3,y3⟩ v122 ⟨U,⟨hn9,hN9,hk0,hk1,hk2,hk3⟩,F9,⟨ht1,ht2,hl1,hl2,hl3⟩,⟨rS,r0,rm⟩,hD⟩;dsimp only at *
   have hR9:R9 P<=400000 * 18446744073709551616 ^ 4:=by omega
   refine aj (aA (t 103 (pg g0) ?_));refine tlr 104 [.int .u64 0,.int .u64 tk9,.slice b0 k0 d0,.bool false,.int .u64 0,.bool false,.int .u64 (P+1),.slice b1 k1 d1,.slice b2 k2 d2,.slice b3 k3 d3] (U.bk 0 rfl) 0 ?_
   refine t 105 (.slice ao2 c cp2) ?_
   obtain⟨pbr,zzr,Dr⟩:=DB.k hs2 U.bb U.out (U.nk 0 rfl);have hsmr:=DB.sm hs2;have fewr:=hs2.1;have L:=U.lt;have e0:=U.en 0 rfl;have e1:=U.en 1 rfl;have e2:=U.en 2 rfl;have e3:=U.en 3 rfl;refine tc 106 32 #[pg g0,.agg #[.int .u64 0,.int .u64 tk9,.slice b0 k0 d0,.bool false,.int .u64 0,.bool false,.int .u64 (P+1),.slice b1 k1 d1,.slice b2 k2 d2,.slice b3 k3 d3],.slice ao2 c cp2] (u6 (la:=P) U.sx F9 ⟨by omega,by omega⟩ (U.nq 0 rfl) (by omega) (U.nq 1 rfl) (by omega) (U.nq 2 rfl) (by omega) (U.nq 3 rfl) (by omega) Dr hsmr (by omega) hR9 (by omega) (by omega)) ?_
   rintro _ v126 ⟨ar0,nr0,cr0,zr0,ar1,nr1,cr1,zr1,ar2,nr2,cr2,zr2,ar3,nr3,cr3,zr3,K123,n124,N125,Er,Rr,rfl,S,qn124,qN125,hK,hC,⟨Q0,mr0,f0⟩,⟨Q1,mr1,f1⟩,⟨Q2,mr2,f2⟩,⟨Q3,mr3,f3⟩,Fr,hsr,rlr⟩;refine⟨_,rfl,?_⟩;replace U:=((((U.op S hK hC).rZ L e0 Q0 f0).rZ L e1 Q1 f1).rZ L e2 Q2 f2).rZ L e3 Q3 f3;clear L S hK hC e0 Q0 f0 e1 Q1 f1 e2 Q2 f2 e3 Q3 f3;have sb2:=vf (n:=tk9) (by omega) hsmr c (Nat.le_refl _);obtain⟨T,hT⟩:∃ T,T=sQ tk9 ys c:=⟨_,rfl⟩
   rw[<- hT] at rlr sb2
   have y0:Rr 0=0:=(hsr 0 (by omega)).trans r0
   have y1:Rr (0+(cnt:Int))=S1:=(hsr _ (by omega)).trans rm
   have yl:Rr P=S1:=(hsr _ (Int.le_refl _)).trans rS;rw[rS] at rlr
   have hT0:ct=true->T=0:=fun e=>by
    rcases hD with h | h
    ·rw[h.1] at e;cases e
    ·rw[hT,h.2.2.2,uO]
   have hE:∀ fr,fr<=0 + (cnt:Int)->C9=[]\/(C9=[(P,nn,0)]/\fr < P/\T=0):=fun fr hf=>by
    rcases hD with h | h
    ·exact .inl h.2
    ·exact .inr ⟨h.2.1,by omega,hT0 h.1⟩
   have hk1:ct=true->(aft C9 0).length=1:=fun e=>by
    rcases hD with h | h
    ·rw[h.1] at e;cases e
    ·rw[h.2.1,CD (by omega)];rfl
   have hC9:C9.length<=1000:=by
    rcases hD with h | h
    ·rw[h.2];simp
    ·rw[h.2.1];simp
   have ha0:(aft C9 0).length<=1000:=Nat.le_trans (List.length_filter_le _ _) hC9
   have ha1:(aft C9 (0+(cnt:Int))).length<=1000:=Nat.le_trans (List.length_filter_le _ _) hC9;refine ts (U.bk 0 rfl) 0 (.agg #[.int .u64 0,.int .u64 tk9,.slice ar0 nr0 cr0,.bool false,.int .u64 0,.bool false,.int .u64 (P+(c:Int)+1),.slice ar1 nr1 cr1,.slice ar2 nr2 cr2,.slice ar3 nr3 cr3]) [.int .u64 0,.int .u64 tk9,.slice ar0 nr0 cr0,.bool false,.int .u64 0,.bool false,.int .u64 (P+(c:Int)+1),.slice ar1 nr1 cr1,.slice ar2 nr2 cr2,.slice ar3 nr3 cr3] [.int .u64 0,.int .u64 tk9,.slice ar0 nr0 cr0,.bool false,.int .u64 0,.bool false,.int .u64 (P+(c:Int)+1),.slice ar1 nr1 cr1,.slice ar2 nr2 cr2,.slice ar3 nr3 cr3] ?_
   intro v127 Y C;replace U:=U.put 0 rfl C Y (by decide);clear Y C;refine ay (ah (aj (aA (t 108 (pg g0) ?_))));refine tlr 109 [.int .u64 0,.int .u64 tk9,.slice ar0 nr0 cr0,.bool false,.int .u64 0,.bool false,.int .u64 (P+(c:Int)+1),.slice ar1 nr1 cr1,.slice ar2 nr2 cr2,.slice ar3 nr3 cr3] (U.bk 0 rfl) 0 ?_
   refine tlr 110 [.slice W ab V,.int .u64 0,.slice ac Z X] (U.bk 5 rfl) 0 ?_
   refine tc 111 20 #[pg g0,.int .u64 16,.agg #[.int .u64 0,.int .u64 tk9,.slice ar0 nr0 cr0,.bool false,.int .u64 0,.bool false,.int .u64 (P+(c:Int)+1),.slice ar1 nr1 cr1,.slice ar2 nr2 cr2,.slice ar3 nr3 cr3],.agg #[.slice W ab V,.int .u64 0,.slice ac Z X]] (lh.cast (c':=(aft C9 0).length) (V':=(zv * (S1+T) / U36)) (ij (la:=P+(c:Int)) U.sx Fr (U.nq 15 rfl) (by omega) (by simp) (by omega) hC9 (by omega) (by omega)) rfl (by rw[al_cm rlr yl (hE _ (by omega)) y0 (by omega) sb2.1];congr 2;omega)) ?_
   rintro _ v129 ⟨g,d,f,zq128,rfl,S,C,Q,mq128,h⟩;refine⟨_,rfl,?_⟩;have L:=U.lt;replace U:=(U.ask S C).add L Q h;clear L S C Q h;refine t 107 (.tuple #[.agg #[.slice g d f],.int .i64 (((aft C9 0).length:Nat):Int)]) ?_
   refine t 112 (.agg #[.slice g d f]) ?_
   refine t 113 (.int .i64 (((aft C9 0).length:Nat):Int)) ?_
   refine ta 22 [.slice none 0 0] 32 (pg) ?_
   intro v130 g131 Xg131 hg131 B;replace U:=U.new Xg131 hg131 B;clear Xg131 hg131 B;refine ts (U.bk 0 rfl) 0 (.agg #[.slice g d f]) [.slice g d f] [.slice g d f] ?_
   intro v132 Y C;replace U:=U.put 0 rfl C Y (by decide);clear Y C;refine t 23 (.int .i64 (((aft C9 0).length:Nat):Int)) ?_
   refine ay (ah (aT [(4,.bool ct),(12,pg g0),(13,pg g17),(17,pg g46),(18,pg gdc),(19,pg g96),(20,pg g101),(22,pg g131)] (by kernel_rfl) ?_));refine aj (aA (t 115 (pg g0) ?_));refine tlr 116 [.int .u64 0,.int .u64 tk9,.slice ar0 nr0 cr0,.bool false,.int .u64 0,.bool false,.int .u64 (P+(c:Int)+1),.slice ar1 nr1 cr1,.slice ar2 nr2 cr2,.slice ar3 nr3 cr3] (U.bk 1 rfl) 0 ?_
   refine tlr 117 [.slice aq39 nq39 cq39,.int .u64 0,.slice aq40 nq40 cq40] (U.bk 5 rfl) 0 ?_
   refine tc 118 20 #[pg g0,.int .u64 16,.agg #[.int .u64 0,.int .u64 tk9,.slice ar0 nr0 cr0,.bool false,.int .u64 0,.bool false,.int .u64 (P+(c:Int)+1),.slice ar1 nr1 cr1,.slice ar2 nr2 cr2,.slice ar3 nr3 cr3],.agg #[.slice aq39 nq39 cq39,.int .u64 0,.slice aq40 nq40 cq40]] (lh.cast (c':=(aft C9 0).length) (V':=(zv * (S1+T) / U36)) (ij (la:=P+(c:Int)) U.sx Fr (U.nq 14 rfl) (by omega) (by simp) (by omega) hC9 (by omega) (by omega)) rfl (by rw[al_cm rlr yl (hE _ (by omega)) y0 (by omega) sb2.1];congr 2;omega)) ?_
   rintro _ v134 ⟨m,o,q,zq133,rfl,S,C,Q,mq133,h⟩;refine⟨_,rfl,?_⟩;have L:=U.lt;replace U:=(U.ask S C).add L Q h;clear L S C Q h;refine t 114 (.tuple #[.agg #[.slice m o q],.int .i64 (((aft C9 0).length:Nat):Int)]) ?_
   refine t 119 (.agg #[.slice m o q]) ?_
   refine t 120 (.int .i64 (((aft C9 0).length:Nat):Int)) ?_
   refine ta 24 [.slice none 0 0] 32 (pg) ?_
   intro v135 g136 Xg136 hg136 B;replace U:=U.new Xg136 hg136 B;clear Xg136 hg136 B;refine ts (U.bk 0 rfl) 0 (.agg #[.slice m o q]) [.slice m o q] [.slice m o q] ?_
   intro v137 Y C;replace U:=U.put 0 rfl C Y (by decide);clear Y C;refine t 25 (.int .i64 (((aft C9 0).length:Nat):Int)) ?_
   refine ay (ah (aj (aA (t 122 (pg g0) ?_))));refine tlr 123 [.int .u64 0,.int .u64 tk9,.slice ar0 nr0 cr0,.bool false,.int .u64 0,.bool false,.int .u64 (P+(c:Int)+1),.slice ar1 nr1 cr1,.slice ar2 nr2 cr2,.slice ar3 nr3 cr3] (U.bk 2 rfl) 0 ?_
   refine tlr 124 [.slice a0c k0c c0c,.int .u64 0,.slice a1c k1c c1c] (U.bk 5 rfl) 0 ?_
   refine tc 125 20 #[pg g0,.int .u64 16,.agg #[.int .u64 0,.int .u64 tk9,.slice ar0 nr0 cr0,.bool false,.int .u64 0,.bool false,.int .u64 (P+(c:Int)+1),.slice ar1 nr1 cr1,.slice ar2 nr2 cr2,.slice ar3 nr3 cr3],.agg #[.slice a0c k0c c0c,.int .u64 0,.slice a1c k1c c1c]] (lh.cast (c':=(aft C9 0).length) (V':=((zv+zv) * (S1+T) / U36)) (ij (la:=P+(c:Int)) U.sx Fr (U.nq 14 rfl) (by omega) (by simp) (by omega) hC9 (by omega) (by omega)) rfl (by rw[al_cm rlr yl (hE _ (by omega)) y0 (by omega) sb2.1];congr 2;omega)) ?_
   rintro _ v139 ⟨I,O,J,zq138,rfl,S,C,Q,mq138,h⟩;refine⟨_,rfl,?_⟩;have L:=U.lt;replace U:=(U.ask S C).add L Q h;clear L S C Q h;refine t 121 (.tuple #[.agg #[.slice I O J],.int .i64 (((aft C9 0).length:Nat):Int)]) ?_
   refine t 126 (.agg #[.slice I O J]) ?_
   refine t 127 (.int .i64 (((aft C9 0).length:Nat):Int)) ?_
   refine ta 26 [.slice none 0 0] 32 (pg) ?_
   intro v140 g141 Xg141 hg141 B;replace U:=U.new Xg141 hg141 B;clear Xg141 hg141 B;refine ts (U.bk 0 rfl) 0 (.agg #[.slice I O J]) [.slice I O J] [.slice I O J] ?_
   intro v142 Y C;replace U:=U.put 0 rfl C Y (by decide);clear Y C;refine t 27 (.int .i64 (((aft C9 0).length:Nat):Int)) ?_
   refine ay (ah (aT [(4,.bool ct),(12,pg g0),(13,pg g17),(19,pg g96),(20,pg g101),(22,pg g131),(24,pg g136),(25,.int .i64 (((aft C9 0).length:Nat):Int)),(26,pg g141)] (by kernel_rfl) ?_));refine aj (aA (t 129 (pg g0) ?_));refine tlr 130 [.int .u64 0,.int .u64 tk9,.slice ar0 nr0 cr0,.bool false,.int .u64 0,.bool false,.int .u64 (P+(c:Int)+1),.slice ar1 nr1 cr1,.slice ar2 nr2 cr2,.slice ar3 nr3 cr3] (U.bk 3 rfl) 0 ?_
   refine tlr 131 [.slice aq89 nq89 cq89,.int .u64 (0+(cnt:Int)),.slice aq90 nq90 cq90] (U.bk 5 rfl) 0 ?_
   refine tc 132 20 #[pg g0,.int .u64 16,.agg #[.int .u64 0,.int .u64 tk9,.slice ar0 nr0 cr0,.bool false,.int .u64 0,.bool false,.int .u64 (P+(c:Int)+1),.slice ar1 nr1 cr1,.slice ar2 nr2 cr2,.slice ar3 nr3 cr3],.agg #[.slice aq89 nq89 cq89,.int .u64 (0+(cnt:Int)),.slice aq90 nq90 cq90]] (lh.cast (c':=(aft C9 (0+(cnt:Int))).length) (V':=(zv * T / U36)) (ij (la:=P+(c:Int)) U.sx Fr (U.nq 12 rfl) (by omega) (by simp) (by omega) hC9 (by omega) (by omega)) rfl (by rw[al_cm rlr yl (hE _ (by omega)) y1 (by omega) sb2.1];congr 2;omega)) ?_
   rintro _ v144 ⟨v,u,r,zq143,rfl,S,C,Q,mq143,h⟩;refine⟨_,rfl,?_⟩;have L:=U.lt;replace U:=(U.ask S C).add L Q h;clear L S C Q h;refine t 128 (.tuple #[.agg #[.slice v u r],.int .i64 (((aft C9 (0+(cnt:Int))).length:Nat):Int)]) ?_
   refine t 133 (.agg #[.slice v u r]) ?_
   refine t 134 (.int .i64 (((aft C9 (0+(cnt:Int))).length:Nat):Int)) ?_
   refine ta 28 [.slice none 0 0] 32 (pg) ?_
   intro v145 g146 Xg146 hg146 B;replace U:=U.new Xg146 hg146 B;clear Xg146 hg146 B;refine ts (U.bk 0 rfl) 0 (.agg #[.slice v u r]) [.slice v u r] [.slice v u r] ?_
   intro v147 Y C;replace U:=U.put 0 rfl C Y (by decide);clear Y C;refine t 29 (.int .i64 (((aft C9 (0+(cnt:Int))).length:Nat):Int)) ?_
   refine ay (ah (aj (aj (aA ?_))));by_cases cct:ct=true
   ·have h0T:=hT0 cct;have hk9:=hk1 cct;refine tq 135 (.bool ct) (.bool true) (congrArg Value.bool cct) ?_
    refine t 136 (.bool true) ?_
    refine tlr 137 [.slice g d f] (U.bk 3 rfl) 0 ?_
    refine tlr 138 [.slice aq98 nq98 cq98] (U.bk 5 rfl) 0 ?_
    have hc148:(zv * (S1+T) / U36)=(zv * S1 / U36):=by rw[h0T,Int.add_zero]
    refine tc 139 28 #[.agg #[.slice g d f],.agg #[.slice aq98 nq98 cq98]] (s7 (U.nq 3 rfl).nat (U.nq 12 rfl).nat (by omega) (by omega) hc148) ?_
    rintro _ v150 ⟨rfl,B⟩;refine⟨_,rfl,?_⟩;replace U:=U.keep B;clear B;refine t 140 (.bool false) ?_
    refine t 141 (.bool false) ?_
    refine tlr 142 [.slice v u r] (U.bk 0 rfl) 0 ?_
    refine tc 143 21 #[.agg #[.slice v u r]] (dZ (b:=true) (U.nq 0 rfl).nat (by omega) (by rw[h0T,Int.mul_zero,Int.zero_ediv];rfl)) ?_
    rintro _ v151 ⟨rfl,B⟩;refine⟨_,rfl,?_⟩;replace U:=U.keep B;clear B;refine t 144 (.bool false) ?_
    refine t 145 (.bool false) ?_
    refine t 146 (.bool false) ?_
    refine t 147 (.int .i64 (((aft C9 0).length:Nat):Int)) ?_
    have t152:(((aft C9 0).length:Nat):Int)=1:=by omega
    refine tq 148 (.bool ((((aft C9 0).length:Nat):Int) != 1)) (.bool false) (congrArg Value.bool (bne_eq_false_iff_eq.2 t152)) ?_
    refine t 149 (.bool false) ?_
    refine t 150 (.bool false) ?_
    refine ay (ah (aT [(22,pg g131),(24,pg g136),(26,pg g141),(28,pg g146),(150,.bool false)] (by kernel_rfl) ?_));refine dA ?_
    refine bT (ah (aj ?_));replace U:=U.drew;refine bX (fun w'=>Blk w' g131 [.slice g d f] 32/\Blk w' g136 [.slice m o q] 32/\Blk w' g141 [.slice I O J] 32/\Blk w' g146 [.slice v u r] 32) (fun _=>false) ⟨(U.bk 3 rfl),(U.bk 2 rfl),(U.bk 1 rfl),(U.bk 0 rfl)⟩ ?_
    refine zlr 0 151 [.slice g d f] (fun _ h=>h.1) 0 ?_
    refine zlr 1 152 [.slice m o q] (fun _ h=>h.2.1) 0 ?_
    have hc153:(zv * (S1+T) / U36)=(zv * (S1+T) / U36):=by rfl
    refine zc 2 153 28 #[.agg #[.slice g d f],.agg #[.slice m o q]] (s7 (U.nq 3 rfl).nat (U.nq 2 rfl).nat (by omega) (by omega) hc153) ?_
    rintro _ v155 ⟨rfl,B⟩;replace U:=U.keep B;clear B;refine⟨_,rfl,⟨(U.bk 3 rfl),(U.bk 2 rfl),(U.bk 1 rfl),(U.bk 0 rfl)⟩,?_⟩;refine z 3 154 (.bool true) ?_
    refine z 4 155 (.bool true) ?_
    refine zlr 5 156 [.slice I O J] (fun _ h=>h.2.2.1) 0 ?_
    refine zlr 6 157 [.slice g d f] (fun _ h=>h.1) 0 ?_
    refine zlr 7 158 [.slice m o q] (fun _ h=>h.2.1) 0 ?_
    refine zc 8 159 27 #[.agg #[.slice g d f],.agg #[.slice m o q]] (sC (U.nq 3 rfl).nat (by omega) (U.nq 2 rfl).nat (by omega)) ?_
    rintro _ v157 ⟨aq156,nq156,cq156,zq156,rfl,M,h,mq156,B⟩;replace U:=U.num M h B;clear M h B;refine⟨_,rfl,⟨(U.bk 3 rfl),(U.bk 2 rfl),(U.bk 1 rfl),(U.bk 0 rfl)⟩,?_⟩
    have hc158:(zv * (S1+T) / U36)+(zv * (S1+T) / U36)<=((zv+zv) * (S1+T) / U36):=by exact Ee _ _
    refine zc 9 160 28 #[.agg #[.slice I O J],.agg #[.slice aq156 nq156 cq156]] (zO (U.nq 2 rfl).nat (U.nq 0 rfl).nat (by omega) (by omega) hc158) ?_
    rintro _ v160 ⟨r159,rfl,hr159,B⟩;replace U:=U.keep B;clear B;refine⟨_,rfl,⟨(U.bk 3 rfl),(U.bk 2 rfl),(U.bk 1 rfl),(U.bk 0 rfl)⟩,?_⟩
    have t161:(0:Int)<=r159:=by omega
    refine zq 10 161 (.bool (decide ((0:Int)<=r159))) (.bool true) (congrArg Value.bool (decide_eq_true t161)) ?_
    refine z 11 162 (.bool true) ?_
    refine z 12 163 (.bool true) ?_
    refine zlr 13 164 [.slice v u r] (fun _ h=>h.2.2.2) 0 ?_
    refine zlr 14 165 [.slice g d f] (fun _ h=>h.1) 0 ?_
    have hc162:(zv * T / U36)<=(zv * (S1+T) / U36):=by exact Eb hz0 sb1.1
    refine zc 15 166 28 #[.agg #[.slice v u r],.agg #[.slice g d f]] (xz (U.nq 1 rfl).nat (U.nq 4 rfl).nat (by omega) (by omega) hc162) ?_
    rintro _ v164 ⟨r163,rfl,hr163,B⟩;replace U:=U.keep B;clear B;refine⟨_,rfl,⟨(U.bk 3 rfl),(U.bk 2 rfl),(U.bk 1 rfl),(U.bk 0 rfl)⟩,?_⟩
    have t165:(r163:Int)<=0:=by omega
    refine zq 16 167 (.bool (decide ((r163:Int)<=0))) (.bool true) (congrArg Value.bool (decide_eq_true t165)) ?_
    refine z 17 168 (.bool true) ?_
    refine z 18 10 (.bool true) ?_
    refine bh (ah (aT [(10,.bool true)] (by kernel_rfl) ?_));refine aO (aQ (.bool true) (rs1 10 (by kernel_rfl) (by kernel_rfl)) ?_);exact⟨rfl,U.bb⟩
   ·refine tq 135 (.bool ct) (.bool false) (congrArg Value.bool (by simpa using cct)) ?_
    refine t 136 (.bool false) ?_
    refine tn 137 ?_
    refine tn 138 ?_
    refine tn 139 ?_
    refine tn 140 ?_
    refine tn 141 ?_
    refine tn 142 ?_
    refine tn 143 ?_
    refine tn 144 ?_
    refine tn 145 ?_
    refine tn 146 ?_
    refine tn 147 ?_
    refine tn 148 ?_
    refine tn 149 ?_
    refine t 150 (.bool false) ?_
    refine ay (ah (aT [(22,pg g131),(24,pg g136),(26,pg g141),(28,pg g146),(150,.bool false)] (by kernel_rfl) ?_));refine dA ?_
    refine bT (ah (aj ?_));replace U:=U.drew;refine bX (fun w'=>Blk w' g131 [.slice g d f] 32/\Blk w' g136 [.slice m o q] 32/\Blk w' g141 [.slice I O J] 32/\Blk w' g146 [.slice v u r] 32) (fun _=>false) ⟨(U.bk 3 rfl),(U.bk 2 rfl),(U.bk 1 rfl),(U.bk 0 rfl)⟩ ?_
    refine zlr 0 151 [.slice g d f] (fun _ h=>h.1) 0 ?_
    refine zlr 1 152 [.slice m o q] (fun _ h=>h.2.1) 0 ?_
    have hc166:(zv * (S1+T) / U36)=(zv * (S1+T) / U36):=by rfl
    refine zc 2 153 28 #[.agg #[.slice g d f],.agg #[.slice m o q]] (s7 (U.nq 3 rfl).nat (U.nq 2 rfl).nat (by omega) (by omega) hc166) ?_
    rintro _ v168 ⟨rfl,B⟩;replace U:=U.keep B;clear B;refine⟨_,rfl,⟨(U.bk 3 rfl),(U.bk 2 rfl),(U.bk 1 rfl),(U.bk 0 rfl)⟩,?_⟩;refine z 3 154 (.bool true) ?_
    refine z 4 155 (.bool true) ?_
    refine zlr 5 156 [.slice I O J] (fun _ h=>h.2.2.1) 0 ?_
    refine zlr 6 157 [.slice g d f] (fun _ h=>h.1) 0 ?_
    refine zlr 7 158 [.slice m o q] (fun _ h=>h.2.1) 0 ?_
    refine zc 8 159 27 #[.agg #[.slice g d f],.agg #[.slice m o q]] (sC (U.nq 3 rfl).nat (by omega) (U.nq 2 rfl).nat (by omega)) ?_
    rintro _ v170 ⟨aq169,nq169,cq169,zq169,rfl,M,h,mq169,B⟩;replace U:=U.num M h B;clear M h B;refine⟨_,rfl,⟨(U.bk 3 rfl),(U.bk 2 rfl),(U.bk 1 rfl),(U.bk 0 rfl)⟩,?_⟩
    have hc171:(zv * (S1+T) / U36)+(zv * (S1+T) / U36)<=((zv+zv) * (S1+T) / U36):=by exact Ee _ _
    refine zc 9 160 28 #[.agg #[.slice I O J],.agg #[.slice aq169 nq169 cq169]] (zO (U.nq 2 rfl).nat (U.nq 0 rfl).nat (by omega) (by omega) hc171) ?_
    rintro _ v173 ⟨r172,rfl,hr172,B⟩;replace U:=U.keep B;clear B;refine⟨_,rfl,⟨(U.bk 3 rfl),(U.bk 2 rfl),(U.bk 1 rfl),(U.bk 0 rfl)⟩,?_⟩
    have t174:(0:Int)<=r172:=by omega
    refine zq 10 161 (.bool (decide ((0:Int)<=r172))) (.bool true) (congrArg Value.bool (decide_eq_true t174)) ?_
    refine z 11 162 (.bool true) ?_
    refine z 12 163 (.bool true) ?_
    refine zlr 13 164 [.slice v u r] (fun _ h=>h.2.2.2) 0 ?_
    refine zlr 14 165 [.slice g d f] (fun _ h=>h.1) 0 ?_
    have hc175:(zv * T / U36)<=(zv * (S1+T) / U36):=by exact Eb hz0 sb1.1
    refine zc 15 166 28 #[.agg #[.slice v u r],.agg #[.slice g d f]] (xz (U.nq 1 rfl).nat (U.nq 4 rfl).nat (by omega) (by omega) hc175) ?_
    rintro _ v177 ⟨r176,rfl,hr176,B⟩;replace U:=U.keep B;clear B;refine⟨_,rfl,⟨(U.bk 3 rfl),(U.bk 2 rfl),(U.bk 1 rfl),(U.bk 0 rfl)⟩,?_⟩
    have t178:(r176:Int)<=0:=by omega
    refine zq 16 167 (.bool (decide ((r176:Int)<=0))) (.bool true) (congrArg Value.bool (decide_eq_true t178)) ?_
    refine z 17 168 (.bool true) ?_
    refine z 18 10 (.bool true) ?_
    refine bh (ah (aT [(10,.bool true)] (by kernel_rfl) ?_));refine aO (aQ (.bool true) (rs1 10 (by kernel_rfl) (by kernel_rfl)) ?_);exact⟨rfl,U.bb⟩
end
end Fo
namespace f1Alike
open Go.RowKit Go.Lib Lim Fo
theorem walk (y0 y1:Int) (a2:Option Addr) (f a:Nat) (a3:Option Addr) (d c:Nat) (i:Bool) (w:World) (h:(Lit.int .u64 y0).wf=true) (g:(Lit.int .u64 y1).wf=true) (n:iR w a2 f a) (m:iR w a3 d c) :
  Calls Tryz.prog 7 #[.int .u64 y0,.int .u64 y1,.slice a2 f a,.slice a3 d c,.bool i] w fun e w'=>e=.returned (.bool true)/\Below w.heap.size w w':=by
 obtain⟨b,o,s,ns,cc,xs,j⟩:=n.open;obtain⟨b2,t,k,p,r,l,q⟩:=m.open;exact pz (u64r h) (u64r g) j q
end f1Alike
end Go.Proofs.YthfepflplbahkaaGreatDoor
