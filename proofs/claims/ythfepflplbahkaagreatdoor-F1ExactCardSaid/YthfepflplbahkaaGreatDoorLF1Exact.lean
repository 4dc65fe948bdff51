/- gleanlaw13.F1Exact. -/
import Derived.Test.YthfepflplbahkaaGreatDoorJaH
set_option maxRecDepth 100000
set_option maxHeartbeats 8000000
namespace Go.Proofs.YthfepflplbahkaaGreatDoor
namespace Fo
open Go.RowKit Go.Lib Pg Lim Gl Kv Bk Pw
attribute [local go_sem] Oper.semAt_some
set_option linter.unusedVariables false
set_option linter.unusedSimpArgs false
structure ExS where
 K:Nat->Prop
 E:aI
 R:Int->Int
 n:Nat
 N:Nat
 b0:Option Addr
 k0:Nat
 d0:Nat
 y0:Nat
 b2:Option Addr
 k2:Nat
 d2:Nat
 y2:Nat
 b3:Option Addr
 k3:Nat
 d3:Nat
 y3:Nat
 b4:Option Addr
 k4:Nat
 d4:Nat
 y4:Nat
 bc:Option Addr
 kc:Nat
 dc:Nat
 i:Nat
theorem o6 {w:World} {tok xD:Int} {aD ao:Option Addr} {nD cD cnt cp pb po:Nat} {aa:Nat->Option Addr} {ns cc:Nat->Nat} {xs:Nat->Int} (htok:0<=tok/\tok < 18446744073709551616) (hD:aX w aD nD cD xD) (DA:DF w ao cnt pb po aa ns cc xs):Calls Tryz.prog 4 #[.int .u64 tok,.agg #[.slice aD nD cD],.slice ao cnt cp] w fun e w'=>e=.returned (.bool true)/\Below w.heap.size w w':=by
 obtain⟨nn,hnn⟩:∃ nn:Int,nn=1 + tok % 1000000000000000000:=⟨_,rfl⟩
 have hn1:1<=nn/\nn<=1000000000000000000:=by omega
 obtain⟨zD,hzD⟩:=AH hD;have hfew:=DA.few.1;have hx0:=hD.mh;have BB:=Below.refl w.heap.size w;refine aT (n:=136) Tryz.func4 rfl (by kernel_rfl) (by kernel_rfl) ?_
 refine ax (aA (ta 4 [.slice aD nD cD] 32 (pg) ?_));intro v1 g2 Xg2 hg2 B;have yg2:=Nat.le_trans BB.size hg2;replace BB:=ah BB B;clear B;refine t 6 (.bool false) ?_
 refine ay (ai (ax (ax (aA (tc 19 8 #[] (Ds) ?_)))));rintro _ v3 ⟨rfl,B⟩;refine⟨_,rfl,?_⟩;replace BB:=ah BB B;replace Xg2:=Xg2.keep B;clear B;refine t 20 (.bool false) ?_
 refine ay (ai (eR ?_));refine dh (ai (ax (ax (aA (t 21 (.slice ao cnt cp) ?_)))));refine t 22 (.int .i64 ((cnt:Nat):Int)) ?_
 by_cases c4:(40:Int) < ((cnt:Nat):Int)
 ·refine tq 23 (.bool (decide ((40:Int) < ((cnt:Nat):Int)))) (.bool true) (congrArg Value.bool (decide_eq_true c4)) ?_
  refine t 24 (.bool true) ?_
  refine tn 25 ?_
  refine tn 26 ?_
  refine tn 27 ?_
  refine tn 28 ?_
  refine t 29 (.bool true) ?_
  refine ay (ai (bB [(0,.int .u64 tok),(2,.slice ao cnt cp),(4,pg g2),(6,.bool false),(29,.bool true)] (by kernel_rfl) ?_));refine fN ?_
  refine ax (aA (t 6 (.bool true) ?_));refine ay (ai (aZ (iP (bh (.bool true) (rs1 6 (by kernel_rfl) (by kernel_rfl)) ?_))));exact⟨rfl,BB⟩
 ·refine tq 23 (.bool (decide ((40:Int) < ((cnt:Nat):Int)))) (.bool false) (congrArg Value.bool (decide_eq_false c4)) ?_
  refine t 24 (.bool false) ?_
  refine t 25 (pg g2) ?_
  refine tl 26 (.slice aD nD cD) Xg2 0 ?_
  refine t 27 (.int .i64 ((nD:Nat):Int)) ?_
  by_cases c5:(3:Int) < ((nD:Nat):Int)
  ·refine tq 28 (.bool (decide ((3:Int) < ((nD:Nat):Int)))) (.bool true) (congrArg Value.bool (decide_eq_true c5)) ?_
   refine t 29 (.bool true) ?_
   refine ay (ai (bB [(0,.int .u64 tok),(2,.slice ao cnt cp),(4,pg g2),(6,.bool false),(29,.bool true)] (by kernel_rfl) ?_));refine fN ?_
   refine ax (aA (t 6 (.bool true) ?_));refine ay (ai (aZ (iP (bh (.bool true) (rs1 6 (by kernel_rfl) (by kernel_rfl)) ?_))));exact⟨rfl,BB⟩
  ·refine tq 28 (.bool (decide ((3:Int) < ((nD:Nat):Int)))) (.bool false) (congrArg Value.bool (decide_eq_false c5)) ?_
   refine t 29 (.bool false) ?_
   refine ay (ai (bB [(0,.int .u64 tok),(2,.slice ao cnt cp),(4,pg g2),(6,.bool false),(29,.bool false)] (by kernel_rfl) ?_));refine eR ?_
   refine dh (ai (ax (aA (t 30 (.int .u64 tok) ?_))));refine tr 31 (.int .u64 (tok % 1000000000000000000)) (AO tok 1000000000000000000 htok ⟨by decide,by decide⟩) ?_
   refine tq 32 (.int .u64 (IntKind.u64.wrap (1 + tok % 1000000000000000000))) (.int .u64 nn) (congrArg (Value.int .u64) (by rw[IntKind.wrap_u64]; omega)) ?_
   refine t 7 (.int .u64 nn) ?_
   refine ay (ai (ax (aA ?_)));obtain⟨Bz,hBz⟩:∃ Bz,Bz=(v3).heap.size:=⟨_,rfl⟩
   have hwB:w.heap.size<=Bz:=by rw[hBz]; exact BB.size
   refine tc 33 16 #[] (DC Bz hBz) ?_
   rintro _ v6 ⟨g0,K0,rfl,S0,hK0,B0⟩;refine⟨_,rfl,?_⟩
   have nXg2:¬ K0 g2:=fun q=>by have h1:=hK0 _ q; have h2:=Xg2.lt; omega
   replace BB:=ah BB B0;replace Xg2:=Xg2.keep B0;clear B0
   have A:Al Bz _ K0 g0 [] [] 0 0:=⟨S0⟩
   clear S0 hK0;refine t 8 (pg g0) ?_
   refine ay (ai (ax (aA (t 34 (pg g0) ?_))));refine t 35 (.int .u64 nn) ?_
   refine t 36 (.int .u64 nn) ?_
   refine tc 37 18 #[.int .u64 nn] (eOf (y:=nn) ⟨by omega,by omega⟩) ?_
   rintro _ v8 ⟨aq7,nq7,cq7,zq7,rfl,Mq7,hq7,mq7,B⟩;refine⟨_,rfl,?_⟩
   have eQq7g2:Ap _ _ _:=ne2 hq7 Xg2.lt;have Qq7:=bZ A.sx Mq7 hq7;clear Mq7 hq7;replace BB:=ah BB B;replace Xg2:=Xg2.keep B;replace A:=A.keep B;clear B;refine t 38 (.agg #[.int .u64 0,.int .u64 nn,.slice aq7 nq7 cq7,.bool false,.int .u64 0,.bool false,.int .u64 0,.slice none 0 0,.slice none 0 0,.slice none 0 0]) ?_
   refine tc 39 17 #[pg g0,.int .u64 16,.agg #[.int .u64 0,.int .u64 nn,.slice aq7 nq7 cq7,.bool false,.int .u64 0,.bool false,.int .u64 0,.slice none 0 0,.slice none 0 0,.slice none 0 0]] (nY A.sx (id:=16) ⟨by decide,by decide⟩ Qq7.nk (by omega) (dv _ _).nk (by omega) (dv _ _).nk (by omega) (dv _ _).nk (by omega) (by omega) (by omega)) ?_
   rintro _ v15 ⟨aq9,nq9,cq9,zq9,aq10,nq10,cq10,zq10,aq11,nq11,cq11,zq11,K12,n13,N14,rfl,S,qn13,qN14,hK,hC,Qq9,mq9,hq9,Qq10,mq10,hq10,Qq11,mq11,hq11⟩;refine⟨_,rfl,?_⟩
   have eQq9g2:Ap _ _ _:=ne2 hq9 Xg2.lt
   have eQq10g2:Ap _ _ _:=ne2 hq10 Xg2.lt
   have eQq11g2:Ap _ _ _:=ne2 hq11 Xg2.lt;clear hq9 hq10 hq11;replace BB:=dw BB hC (fun b hb=>Nat.le_trans hwB (A.sx.kb b hb));have mXg2:=aU Xg2 nXg2 hK;replace Xg2:=Xg2.chg hC nXg2;replace nXg2:=mXg2;clear mXg2;replace Qq7:=Qq7.op hK hC;replace A:Al _ _ _ _ _ _ _ _:=⟨S⟩
   clear S hK hC;have lXg2:=Xg2.lt;refine ta 9 [.int .u64 0,.int .u64 0,.slice none 0 0,.bool false,.int .u64 0,.bool false,.int .u64 0,.slice none 0 0,.slice none 0 0,.slice none 0 0] 39 (pg) ?_
   intro v16 g17 Xg17 hg17 B;have yg17:=Nat.le_trans BB.size hg17;have nXg17:=A.new hg17
   have eQq7g17:Ap _ _ _:=ne1 Qq7.lt hg17
   have eQq9g17:Ap _ _ _:=ne1 Qq9.lt hg17
   have eQq10g17:Ap _ _ _:=ne1 Qq10.lt hg17
   have eQq11g17:Ap _ _ _:=ne1 Qq11.lt hg17;replace BB:=ah BB B;replace Xg2:=Xg2.keep B;replace A:=A.keep B;replace Qq7:=Qq7.keep B;replace Qq9:=Qq9.keep B;replace Qq10:=Qq10.keep B;replace Qq11:=Qq11.keep B;clear B;refine ts Xg17 0 (.agg #[.int .u64 0,.int .u64 nn,.slice aq9 nq9 cq9,.bool false,.int .u64 0,.bool false,.int .u64 1,.slice none 0 0,.slice aq10 nq10 cq10,.slice aq11 nq11 cq11]) [.int .u64 0,.int .u64 nn,.slice aq9 nq9 cq9,.bool false,.int .u64 0,.bool false,.int .u64 1,.slice none 0 0,.slice aq10 nq10 cq10,.slice aq11 nq11 cq11] [.int .u64 0,.int .u64 nn,.slice aq9 nq9 cq9,.bool false,.int .u64 0,.bool false,.int .u64 1,.slice none 0 0,.slice aq10 nq10 cq10,.slice aq11 nq11 cq11] ?_
   intro v18 Y C;replace BB:=aP BB C yg17;replace Xg2:=Xg2.chg C (show g2≠g17 by omega);replace A:=A.cell Xg17 C nXg17 (by decide);replace Qq7:=Qq7.cell C eQq7g17;replace Qq9:=Qq9.cell C eQq9g17;replace Qq10:=Qq10.cell C eQq10g17;replace Qq11:=Qq11.cell C eQq11g17;clear C Xg17;have Xg17:=Y;clear Y;refine ay (ai ?_);clear Qq7;refine bB [(2,.slice ao cnt cp),(4,pg g2),(6,.bool false),(7,.int .u64 nn),(8,pg g0),(9,pg g17)] (by kernel_rfl) ?_
   refine ax (aA (t 40 (pg g0) ?_));refine tlr 41 [.int .u64 0,.int .u64 nn,.slice aq9 nq9 cq9,.bool false,.int .u64 0,.bool false,.int .u64 1,.slice none 0 0,.slice aq10 nq10 cq10,.slice aq11 nq11 cq11] Xg17 0 ?_
   refine tlr 42 [.slice aD nD cD] Xg2 0 ?_
   refine t 43 (.agg #[.slice aD nD cD,.int .u64 0,.slice none 0 0]) ?_
   have F1:=(x8 (id:=16) (by decide)).hold (by decide);refine tc 44 19 #[pg g0,.int .u64 16,.agg #[.int .u64 0,.int .u64 nn,.slice aq9 nq9 cq9,.bool false,.int .u64 0,.bool false,.int .u64 1,.slice none 0 0,.slice aq10 nq10 cq10,.slice aq11 nq11 cq11],.agg #[.slice aD nD cD,.int .u64 0,.slice none 0 0]] (HoE.cast (E':=dE (dE [] 16 0) 16 0) (p:=0) (xs:=xD) (jA A.sx (id:=16) ⟨by decide,by decide⟩ ⟨by omega,by omega⟩ Qq9.nk (by omega) (dv _ _).nk (by omega) Qq10.nk (by omega) Qq11.nk (by omega) (xu hzD BB (fun b hb=>Nat.le_trans hwB (A.sx.kb b hb))) (by omega) (dv _ _).nk (by omega) (by omega) (by omega)) (by decide) rfl (Int.mul_ediv_cancel _ (by unfold U36; omega))) ?_
   rintro _ v24 ⟨aq19,nq19,cq19,zq19,aq20,nq20,cq20,zq20,K21,n22,N23,rfl,S,qn22,qN23,hK,hC,Qq19,mq19,hq19,Qq20,mq20,hq20⟩;refine⟨_,rfl,?_⟩
   have eQq19g2:Ap _ _ _:=ne2 hq19 Xg2.lt
   have eQq19g17:Ap _ _ _:=ne2 hq19 Xg17.lt
   have eQq20g2:Ap _ _ _:=ne2 hq20 Xg2.lt
   have eQq20g17:Ap _ _ _:=ne2 hq20 Xg17.lt;clear hq19 hq20;replace BB:=dw BB hC (fun b hb=>Nat.le_trans hwB (A.sx.kb b hb));have mXg2:=aU Xg2 nXg2 hK;replace Xg2:=Xg2.chg hC nXg2;replace nXg2:=mXg2;clear mXg2;replace Qq9:=Qq9.op hK hC;replace Qq10:=Qq10.op hK hC;replace Qq11:=Qq11.op hK hC;have mXg17:=aU Xg17 nXg17 hK;replace Xg17:=Xg17.chg hC nXg17;replace nXg17:=mXg17;clear mXg17;replace A:Al _ _ _ _ _ _ _ _:=⟨S⟩
   clear S hK hC;have lXg2:=Xg2.lt;have lXg17:=Xg17.lt;refine ta 10 [.slice none 0 0,.int .u64 0,.slice none 0 0] 54 (pg) ?_
   intro v25 g26 Xg26 hg26 B;have yg26:=Nat.le_trans BB.size hg26;have nXg26:=A.new hg26
   have eQq9g26:Ap _ _ _:=ne1 Qq9.lt hg26
   have eQq10g26:Ap _ _ _:=ne1 Qq10.lt hg26
   have eQq11g26:Ap _ _ _:=ne1 Qq11.lt hg26
   have eQq19g26:Ap _ _ _:=ne1 Qq19.lt hg26
   have eQq20g26:Ap _ _ _:=ne1 Qq20.lt hg26;replace BB:=ah BB B;replace Xg2:=Xg2.keep B;replace A:=A.keep B;replace Qq9:=Qq9.keep B;replace Qq10:=Qq10.keep B;replace Qq11:=Qq11.keep B;replace Xg17:=Xg17.keep B;replace Qq19:=Qq19.keep B;replace Qq20:=Qq20.keep B;clear B;refine ts Xg26 0 (.agg #[.slice aq19 nq19 cq19,.int .u64 0,.slice aq20 nq20 cq20]) [.slice aq19 nq19 cq19,.int .u64 0,.slice aq20 nq20 cq20] [.slice aq19 nq19 cq19,.int .u64 0,.slice aq20 nq20 cq20] ?_
   intro v27 Y C;replace BB:=aP BB C yg26;replace Xg2:=Xg2.chg C (show g2≠g26 by omega);replace A:=A.cell Xg26 C nXg26 (by decide);replace Qq9:=Qq9.cell C eQq9g26;replace Qq10:=Qq10.cell C eQq10g26;replace Qq11:=Qq11.cell C eQq11g26;replace Xg17:=Xg17.chg C (show g17≠g26 by omega);replace Qq19:=Qq19.cell C eQq19g26;replace Qq20:=Qq20.cell C eQq20g26;clear C Xg26;have Xg26:=Y;clear Y;refine ay (ai ?_);clear Xg2;refine ax (aA (t 46 (pg g0) ?_));refine tlr 47 [.int .u64 0,.int .u64 nn,.slice aq9 nq9 cq9,.bool false,.int .u64 0,.bool false,.int .u64 1,.slice none 0 0,.slice aq10 nq10 cq10,.slice aq11 nq11 cq11] Xg17 0 ?_
   refine tlr 48 [.slice aq19 nq19 cq19,.int .u64 0,.slice aq20 nq20 cq20] Xg26 0 ?_
   refine tc 49 20 #[pg g0,.int .u64 16,.agg #[.int .u64 0,.int .u64 nn,.slice aq9 nq9 cq9,.bool false,.int .u64 0,.bool false,.int .u64 1,.slice none 0 0,.slice aq10 nq10 cq10,.slice aq11 nq11 cq11],.agg #[.slice aq19 nq19 cq19,.int .u64 0,.slice aq20 nq20 cq20]] (oU.cast (c':=0) (V':=0) (qJ A.sx F1 Qq20 (by omega) (by simp) (by decide) (by decide) (by omega) (by omega)) rfl (by rw[vm,ua (Int.le_refl _)]; simp)) ?_
   rintro _ v29 ⟨aq28,nq28,cq28,zq28,rfl,S,C,Qq28,mq28,hq28⟩;refine⟨_,rfl,?_⟩
   have eQq28g17:Ap _ _ _:=ne2 hq28 Xg17.lt
   have eQq28g26:Ap _ _ _:=ne2 hq28 Xg26.lt;clear hq28;have hC:=C.mono (fun b _ (e:b=g0)=>e▸A.sx.sa.top);replace BB:=dw BB hC (fun b hb=>Nat.le_trans hwB (A.sx.kb b hb));replace Qq9:=Qq9.op (fun _ h=>.inl h) hC;replace Qq10:=Qq10.op (fun _ h=>.inl h) hC;replace Qq11:=Qq11.op (fun _ h=>.inl h) hC;have mXg17:=aU Xg17 nXg17 (fun _ h=>.inl h);replace Xg17:=Xg17.chg hC nXg17;replace nXg17:=mXg17;clear mXg17;replace Qq19:=Qq19.op (fun _ h=>.inl h) hC;replace Qq20:=Qq20.op (fun _ h=>.inl h) hC;have mXg26:=aU Xg26 nXg26 (fun _ h=>.inl h);replace Xg26:=Xg26.chg hC nXg26;replace nXg26:=mXg26;clear mXg26;replace A:Al _ _ _ _ _ _ _ _:=⟨S⟩
   clear S hC C;refine t 45 (.tuple #[.agg #[.slice aq28 nq28 cq28],.int .i64 0]) ?_
   refine t 50 (.agg #[.slice aq28 nq28 cq28]) ?_
   refine t 51 (.int .i64 0) ?_
   have lXg17:=Xg17.lt;have lXg26:=Xg26.lt;refine ta 11 [.slice none 0 0] 32 (pg) ?_
   intro v30 g31 Xg31 hg31 B;have yg31:=Nat.le_trans BB.size hg31;have nXg31:=A.new hg31
   have eQq9g31:Ap _ _ _:=ne1 Qq9.lt hg31
   have eQq10g31:Ap _ _ _:=ne1 Qq10.lt hg31
   have eQq11g31:Ap _ _ _:=ne1 Qq11.lt hg31
   have eQq19g31:Ap _ _ _:=ne1 Qq19.lt hg31
   have eQq20g31:Ap _ _ _:=ne1 Qq20.lt hg31
   have eQq28g31:Ap _ _ _:=ne1 Qq28.lt hg31;replace BB:=ah BB B;replace A:=A.keep B;replace Qq9:=Qq9.keep B;replace Qq10:=Qq10.keep B;replace Qq11:=Qq11.keep B;replace Xg17:=Xg17.keep B;replace Qq19:=Qq19.keep B;replace Qq20:=Qq20.keep B;replace Xg26:=Xg26.keep B;replace Qq28:=Qq28.keep B;clear B;refine ts Xg31 0 (.agg #[.slice aq28 nq28 cq28]) [.slice aq28 nq28 cq28] [.slice aq28 nq28 cq28] ?_
   intro v32 Y C;replace BB:=aP BB C yg31;replace A:=A.cell Xg31 C nXg31 (by decide);replace Qq9:=Qq9.cell C eQq9g31;replace Qq10:=Qq10.cell C eQq10g31;replace Qq11:=Qq11.cell C eQq11g31;replace Xg17:=Xg17.chg C (show g17≠g31 by omega);replace Qq19:=Qq19.cell C eQq19g31;replace Qq20:=Qq20.cell C eQq20g31;replace Xg26:=Xg26.chg C (show g26≠g31 by omega);replace Qq28:=Qq28.cell C eQq28g31;clear C Xg31;have Xg31:=Y;clear Y;refine t 12 (.int .i64 0) ?_
   refine ay (ai (bB [(2,.slice ao cnt cp),(6,.bool false),(7,.int .u64 nn),(8,pg g0),(9,pg g17),(10,pg g26),(11,pg g31),(12,.int .i64 0)] (by kernel_rfl) ?_));refine ax (ax (aA (tlr 52 [.slice aq28 nq28 cq28] Xg31 0 ?_)));refine tc 53 21 #[.agg #[.slice aq28 nq28 cq28]] (dZ (b:=true) Qq28.nat (by omega) rfl) ?_
   rintro _ v33 ⟨rfl,B⟩;refine⟨_,rfl,?_⟩;replace BB:=ah BB B;replace A:=A.keep B;replace Qq9:=Qq9.keep B;replace Qq10:=Qq10.keep B;replace Qq11:=Qq11.keep B;replace Xg17:=Xg17.keep B;replace Qq19:=Qq19.keep B;replace Qq20:=Qq20.keep B;replace Xg26:=Xg26.keep B;replace Qq28:=Qq28.keep B;replace Xg31:=Xg31.keep B;clear B;refine t 54 (.bool false) ?_
   refine t 55 (.bool false) ?_
   refine t 56 (.int .i64 0) ?_
   refine t 57 (.bool false) ?_
   refine t 58 (.bool false) ?_
   refine ay (ai (eR ?_));refine dh (ai (ax (aA (t 13 (.slice none 0 0) ?_))));refine ay (ai (ax (ax (aA (t 14 (.int .i64 0) ?_)))));refine ay (ai (gQ (uj (fun(s:ExS)=>cnt - s.i) (fun(s:ExS)=>[(2,.slice ao cnt cp),(7,.int .u64 nn),(8,pg g0),(9,pg g17),(10,pg g26),(11,pg g31),(13,.slice s.b4 s.k4 s.d4),(14,.int .i64 (s.i:Int))]) (fun(s:ExS) w'=>(s.i<=cnt/\s.n<=200 + 100 * s.i/\s.N<=200 + 100 * s.i/\s.k0<=100 + s.i/\s.k2<=10 + s.i/\s.k3<=10 + s.i/\s.k4<=10 + 10 * s.i)/\Below w.heap.size w w'/\Sx Bz w' s.K g0 s.E [] s.n s.N/\(Blk w' g17 [.int .u64 0,.int .u64 nn,.slice s.b0 s.k0 s.d0,.bool false,.int .u64 0,.bool false,.int .u64 ((s.i:Int) + 1),.slice none 0 0,.slice s.b2 s.k2 s.d2,.slice s.b3 s.k3 s.d3] 39/\¬ s.K g17)/\(Blk w' g26 [.slice aq19 nq19 cq19,.int .u64 0,.slice aq20 nq20 cq20] 54/\¬ s.K g26)/\(Blk w' g31 [.slice s.bc s.kc s.dc] 32/\¬ s.K g31)/\(Nq w' s.K s.y0 s.b0 s.k0 s.d0 (nn * U36)/\Ap s.k0 s.y0 g17/\Ap s.k0 s.y0 g31)/\(Nq w' s.K s.y2 s.b2 s.k2 s.d2 (0)/\Ap s.k2 s.y2 g17/\Ap s.k2 s.y2 g31)/\(Nq w' s.K s.y3 s.b3 s.k3 s.d3 (0)/\Ap s.k3 s.y3 g17/\Ap s.k3 s.y3 g31)/\(Nq w' s.K s.y4 s.b4 s.k4 s.d4 (sT xs s.i)/\Ap s.k4 s.y4 g17/\Ap s.k4 s.y4 g31)/\Nq w' s.K zq20 aq20 nq20 cq20 xD/\Fs s.E 16 (s.i:Int) s.R [0] []/\s.R 0=0/\s.R (s.i:Int)=sQ nn xs s.i/\(∀ j,j < s.i->0<=xs j/\xs j<=18446744073709551616 ^ 4)) (⟨_,dE (dE [] 16 0) 16 0,fun _=>0,_,_,aq9,nq9,cq9,zq9,aq10,nq10,cq10,zq10,aq11,nq11,cq11,zq11,none,0,0,0,aq28,nq28,cq28,0⟩:ExS) ⟨⟨Nat.zero_le _,by (try dsimp only); omega,by (try dsimp only); omega,by (try dsimp only); omega,by (try dsimp only); omega,by (try dsimp only); omega,by (try dsimp only); omega⟩,BB,A.sx,⟨Xg17,nXg17⟩,⟨Xg26,nXg26⟩,⟨Xg31,nXg31⟩,⟨Qq9,eQq9g17,eQq9g31⟩,⟨Qq10,eQq10g17,eQq10g31⟩,⟨Qq11,eQq11g17,eQq11g31⟩,⟨dv _ _,.inl rfl,.inl rfl⟩,Qq20,F1,rfl,rfl,fun _ h=>absurd h (Nat.not_lt_zero _)⟩ (by kernel_rfl) ?_)));clear BB;clear A;clear Qq9;clear Qq10;clear Qq11;clear Xg17;clear Qq19;clear Qq20;clear Xg26;clear Qq28;clear Xg31;rintro⟨K,E,R,n9,N9,b0,k0,d0,y0,b2,k2,d2,y2,b3,k3,d3,y3,b4,k4,d4,y4,bc,kc,dc,i⟩ v34 ⟨⟨hi,hn9,hN9,hk0,hk2,hk3,hk4⟩,BB,S9,⟨Xg17,nXg17'⟩,⟨Xg26,nXg26'⟩,⟨Xg31,nXg31'⟩,⟨QS,eQSg17,eQSg31⟩,⟨QO,eQOg17,eQOg31⟩,⟨QC,eQCg17,eQCg31⟩,⟨QT,eQTg17,eQTg31⟩,Qq20,FS,r0,rl,hsm⟩;dsimp only at *;clear nXg17 nXg26 nXg31;have nXg17:=nXg17';have nXg26:=nXg26';have nXg31:=nXg31';clear nXg17' nXg26' nXg31'
   have A:Al _ _ _ _ _ _ _ _:=⟨S9⟩
   clear S9;refine ax (ax (aA (t 59 (.int .i64 (i:Int)) ?_)));refine t 60 (.slice ao cnt cp) ?_
   refine t 61 (.int .i64 ((cnt:Nat):Int)) ?_
   by_cases ci:(i:Int) < ((cnt:Nat):Int)
   ·have hk_i:i < cnt:=by omega
    obtain⟨zi,hzi⟩:=AH (DA.nat i hk_i);have QA:=(xu hzi BB (fun b hb=>Nat.le_trans hwB (A.sx.kb b hb)))
    have eQAg17:Ap _ _ _:=ne1 hzi.lt yg17
    have eQAg31:Ap _ _ _:=ne1 hzi.lt yg31;refine tq 62 (.bool (decide ((i:Int) < ((cnt:Nat):Int)))) (.bool true) (congrArg Value.bool (decide_eq_true ci)) ?_
    refine ay (ai (fN ?_));refine dh (ai (ax (gQ (ax (ax (aA (t 65 (.slice ao cnt cp) ?_)))))));refine t 66 (.int .i64 (i:Int)) ?_
    refine tr 67 (pq pb (po + i * 1)) (oM 1 pb po cnt cp i hk_i DA.ptr) ?_
    refine t 68 (pq pb (po + i * 1)) ?_
    refine tr 69 (.slice (aa i) (ns i) (cc i)) (uI (yu BB (DA.cell i hk_i))) ?_
    refine t 70 (.int .i64 ((ns i:Nat):Int)) ?_
    by_cases cs:(4:Int) < ((ns i:Nat):Int)
    ·refine tq 71 (.bool (decide ((4:Int) < ((ns i:Nat):Int)))) (.bool true) (congrArg Value.bool (decide_eq_true cs)) ?_
     refine ay (ai (fN ?_));refine ax (aA (t 6 (.bool true) ?_));refine ay (ai (bB [(2,.slice ao cnt cp),(6,.bool true),(7,.int .u64 nn),(8,pg g0),(9,pg g17),(10,pg g26),(11,pg g31),(13,.slice b4 k4 d4),(14,.int .i64 (i:Int)),(59,.int .i64 (i:Int)),(60,.slice ao cnt cp),(61,.int .i64 ((cnt:Nat):Int)),(62,.bool true),(65,.slice ao cnt cp),(66,.int .i64 (i:Int)),(67,pq pb (po + i * 1)),(68,pq pb (po + i * 1)),(69,.slice (aa i) (ns i) (cc i)),(70,.int .i64 ((ns i:Nat):Int)),(71,.bool true)] (by kernel_rfl) ?_));refine aZ (iP (DR (iP (iP (DR (iP (bh (.bool true) (rs1 6 (by kernel_rfl) (by kernel_rfl)) ?_)))))));exact⟨rfl,BB⟩
    ·have hs4:ns i<=4:=by omega
     have hxi:0<=xs i/\xs i<=18446744073709551616 ^ 4:=⟨(DA.nat i hk_i).mh,Int.le_of_lt (Int.lt_of_lt_of_le (aX.ltF (DA.nat i hk_i)) (Dk hs4))⟩
     have hsm':∀ j,j < i + 1->0<=xs j/\xs j<=18446744073709551616 ^ 4:=fun j hj=>by
      rcases Nat.lt_or_ge j i with q | q
      ·exact hsm j q
      ·obtain rfl:j=i:=by omega
       exact hxi
     have bd1:=DH (n:=nn) (by omega) hsm' (i + 1) (Nat.le_refl _);have hdiv:=z8 (n:=nn) (by omega) hxi.1
     have sqi:sQ nn xs (i + 1)=sQ nn xs i + xs i / nn:=rfl
     have hlim:R (i:Int) + xs i / nn < LIM:=by
      rw[rl,<- sqi]
      have h9:((i + 1:Nat):Int) * 18446744073709551616 ^ 4<=1000000 * 18446744073709551616 ^ 4:=Int.mul_le_mul_of_nonneg_right (by omega) (by decide);exact A8 (Int.le_trans bd1.2.2.2.1 (Int.le_trans bd1.2.2.2.2 h9))
     have r0':upd R ((i:Int) + 1) (R (i:Int) + xs i / nn) 0=0:=by unfold upd; rw[if_neg (by omega)]; exact r0
     have rl':upd R ((i:Int) + 1) (R (i:Int) + xs i / nn) ((i:Int) + 1)=sQ nn xs (i + 1):=by unfold upd; rw[if_pos rfl,rl,sqi]
     refine tq 71 (.bool (decide ((4:Int) < ((ns i:Nat):Int)))) (.bool false) (congrArg Value.bool (decide_eq_false cs)) ?_
     refine ay (ai (eR ?_));refine dh (ai (ax (aA (t 72 (.slice ao cnt cp) ?_))));refine t 73 (.int .i64 (i:Int)) ?_
     refine tr 74 (pq pb (po + i * 1)) (oM 1 pb po cnt cp i hk_i DA.ptr) ?_
     refine tr 75 (.agg #[.slice (aa i) (ns i) (cc i)]) (Bx (yu BB (DA.cell i hk_i))) ?_
     refine t 76 (pq g17 7) ?_
     refine ts Xg17 7 (.agg #[.slice (aa i) (ns i) (cc i)]) [.slice (aa i) (ns i) (cc i)] [.int .u64 0,.int .u64 nn,.slice b0 k0 d0,.bool false,.int .u64 0,.bool false,.int .u64 ((i:Int) + 1),.slice (aa i) (ns i) (cc i),.slice b2 k2 d2,.slice b3 k3 d3] ?_
     intro v35 Y C;replace BB:=aP BB C yg17;replace A:=A.cell Xg17 C nXg17 (by decide);replace Xg26:=Xg26.chg C (show g26≠g17 by omega);replace Xg31:=Xg31.chg C (show g31≠g17 by omega);replace QS:=QS.cell C eQSg17;replace QO:=QO.cell C eQOg17;replace QC:=QC.cell C eQCg17;replace QT:=QT.cell C eQTg17;replace Qq20:=Qq20.cell C eQq20g17;replace QA:=QA.cell C eQAg17;clear C Xg17;have Xg17:=Y;clear Y;refine ay (ai (bB [(2,.slice ao cnt cp),(7,.int .u64 nn),(8,pg g0),(9,pg g17),(10,pg g26),(11,pg g31),(13,.slice b4 k4 d4),(14,.int .i64 (i:Int)),(59,.int .i64 (i:Int)),(60,.slice ao cnt cp),(61,.int .i64 ((cnt:Nat):Int)),(62,.bool true),(65,.slice ao cnt cp),(66,.int .i64 (i:Int)),(67,pq pb (po + i * 1)),(68,pq pb (po + i * 1)),(69,.slice (aa i) (ns i) (cc i)),(70,.int .i64 ((ns i:Nat):Int)),(71,.bool false),(72,.slice ao cnt cp),(73,.int .i64 (i:Int)),(74,pq pb (po + i * 1)),(75,.agg #[.slice (aa i) (ns i) (cc i)]),(76,pq g17 7)] (by kernel_rfl) ?_));refine ax (aA (t 78 (pg g0) ?_));refine tlr 79 [.int .u64 0,.int .u64 nn,.slice b0 k0 d0,.bool false,.int .u64 0,.bool false,.int .u64 ((i:Int) + 1),.slice (aa i) (ns i) (cc i),.slice b2 k2 d2,.slice b3 k3 d3] Xg17 0 ?_
     have F2:=FS.close (tk:=nn) (cur:=xs i) (by omega) hdiv.1 hlim;refine tc 80 22 #[pg g0,.int .u64 16,.agg #[.int .u64 0,.int .u64 nn,.slice b0 k0 d0,.bool false,.int .u64 0,.bool false,.int .u64 ((i:Int) + 1),.slice (aa i) (ns i) (cc i),.slice b2 k2 d2,.slice b3 k3 d3]] (ClE.cast (E':=fg E 16 ((i:Int) + 1) nn (xs i)) (pq:=(i:Int) + 1 + 1) (im A.sx (id:=16) ⟨by decide,by decide⟩ ⟨by omega,by omega⟩ QS.nk (by omega) QA (by omega) QO.nk (by omega) QC.nk (by omega) (by omega) (by omega)) (by omega) rfl) ?_
     rintro _ v43 ⟨aq36,nq36,cq36,zq36,aq37,nq37,cq37,zq37,aq38,nq38,cq38,zq38,aq39,nq39,cq39,zq39,K40,n41,N42,rfl,S,qn41,qN42,hK,hC,Qq36,mq36,hq36,Qq37,mq37,hq37,Qq38,mq38,hq38,Qq39,mq39,hq39⟩;refine⟨_,rfl,?_⟩
     have eQq36g17:Ap _ _ _:=ne2 hq36 Xg17.lt
     have eQq36g26:Ap _ _ _:=ne2 hq36 Xg26.lt
     have eQq36g31:Ap _ _ _:=ne2 hq36 Xg31.lt
     have eQq37g17:Ap _ _ _:=ne2 hq37 Xg17.lt
     have eQq37g26:Ap _ _ _:=ne2 hq37 Xg26.lt
     have eQq37g31:Ap _ _ _:=ne2 hq37 Xg31.lt
     have eQq38g17:Ap _ _ _:=ne2 hq38 Xg17.lt
     have eQq38g26:Ap _ _ _:=ne2 hq38 Xg26.lt
     have eQq38g31:Ap _ _ _:=ne2 hq38 Xg31.lt
     have eQq39g17:Ap _ _ _:=ne2 hq39 Xg17.lt
     have eQq39g26:Ap _ _ _:=ne2 hq39 Xg26.lt
     have eQq39g31:Ap _ _ _:=ne2 hq39 Xg31.lt;clear hq36 hq37 hq38 hq39;replace BB:=dw BB hC (fun b hb=>Nat.le_trans hwB (A.sx.kb b hb));have mXg17:=aU Xg17 nXg17 hK;replace Xg17:=Xg17.chg hC nXg17;replace nXg17:=mXg17;clear mXg17;have mXg26:=aU Xg26 nXg26 hK;replace Xg26:=Xg26.chg hC nXg26;replace nXg26:=mXg26;clear mXg26;have mXg31:=aU Xg31 nXg31 hK;replace Xg31:=Xg31.chg hC nXg31;replace nXg31:=mXg31;clear mXg31;replace QS:=QS.op hK hC;replace QO:=QO.op hK hC;replace QC:=QC.op hK hC;replace QT:=QT.op hK hC;replace Qq20:=Qq20.op hK hC;replace QA:=QA.op hK hC;replace A:Al _ _ _ _ _ _ _ _:=⟨S⟩
     clear S hK hC;replace Qq37:=Qq37.eqv (if_neg (show ¬ nn=0 by omega));replace Qq38:=Qq38.eqv (if_neg (show ¬ nn=0 by omega));refine t 77 (.tuple #[.agg #[.int .u64 0,.int .u64 nn,.slice aq36 nq36 cq36,.bool false,.int .u64 0,.bool false,.int .u64 ((i:Int) + 1 + 1),.slice none 0 0,.slice aq38 nq38 cq38,.slice aq39 nq39 cq39],.agg #[.slice aq37 nq37 cq37]]) ?_
     refine t 81 (.agg #[.int .u64 0,.int .u64 nn,.slice aq36 nq36 cq36,.bool false,.int .u64 0,.bool false,.int .u64 ((i:Int) + 1 + 1),.slice none 0 0,.slice aq38 nq38 cq38,.slice aq39 nq39 cq39]) ?_
     refine t 82 (.agg #[.slice aq37 nq37 cq37]) ?_
     refine ts Xg17 0 (.agg #[.int .u64 0,.int .u64 nn,.slice aq36 nq36 cq36,.bool false,.int .u64 0,.bool false,.int .u64 ((i:Int) + 1 + 1),.slice none 0 0,.slice aq38 nq38 cq38,.slice aq39 nq39 cq39]) [.int .u64 0,.int .u64 nn,.slice aq36 nq36 cq36,.bool false,.int .u64 0,.bool false,.int .u64 ((i:Int) + 1 + 1),.slice none 0 0,.slice aq38 nq38 cq38,.slice aq39 nq39 cq39] [.int .u64 0,.int .u64 nn,.slice aq36 nq36 cq36,.bool false,.int .u64 0,.bool false,.int .u64 ((i:Int) + 1 + 1),.slice none 0 0,.slice aq38 nq38 cq38,.slice aq39 nq39 cq39] ?_
     intro v44 Y C;replace BB:=aP BB C yg17;replace A:=A.cell Xg17 C nXg17 (by decide);replace Xg26:=Xg26.chg C (show g26≠g17 by omega);replace Xg31:=Xg31.chg C (show g31≠g17 by omega);replace QS:=QS.cell C eQSg17;replace QO:=QO.cell C eQOg17;replace QC:=QC.cell C eQCg17;replace QT:=QT.cell C eQTg17;replace Qq20:=Qq20.cell C eQq20g17;replace QA:=QA.cell C eQAg17;replace Qq36:=Qq36.cell C eQq36g17;replace Qq37:=Qq37.cell C eQq37g17;replace Qq38:=Qq38.cell C eQq38g17;replace Qq39:=Qq39.cell C eQq39g17;clear C Xg17;have Xg17:=Y;clear Y;refine ay (ai (ax (aA (t 83 (.slice b4 k4 d4) ?_))));refine t 84 (.slice ao cnt cp) ?_
     refine t 85 (.int .i64 (i:Int)) ?_
     refine tr 86 (pq pb (po + i * 1)) (oM 1 pb po cnt cp i hk_i DA.ptr) ?_
     refine t 87 (pq pb (po + i * 1)) ?_
     refine tr 88 (.slice (aa i) (ns i) (cc i)) (uI (yu BB (DA.cell i hk_i))) ?_
     refine tc 89 23 #[.slice b4 k4 d4,.slice (aa i) (ns i) (cc i)] (uU QT.nat QA.nat (by omega) (by omega)) ?_
     rintro _ v46 ⟨aq45,nq45,cq45,zq45,rfl,Mq45,hq45,mq45,B⟩;refine⟨_,rfl,?_⟩
     have eQq45g17:Ap _ _ _:=ne2 hq45 Xg17.lt
     have eQq45g26:Ap _ _ _:=ne2 hq45 Xg26.lt
     have eQq45g31:Ap _ _ _:=ne2 hq45 Xg31.lt;have Qq45:=bZ A.sx Mq45 hq45;clear Mq45 hq45;replace BB:=ah BB B;replace A:=A.keep B;replace Xg17:=Xg17.keep B;replace Xg26:=Xg26.keep B;replace Xg31:=Xg31.keep B;replace QS:=QS.keep B;replace QO:=QO.keep B;replace QC:=QC.keep B;replace QT:=QT.keep B;replace Qq20:=Qq20.keep B;replace QA:=QA.keep B;replace Qq36:=Qq36.keep B;replace Qq37:=Qq37.keep B;replace Qq38:=Qq38.keep B;replace Qq39:=Qq39.keep B;clear B;refine t 13 (.slice aq45 nq45 cq45) ?_
     refine ay (ai (bB [(2,.slice ao cnt cp),(7,.int .u64 nn),(8,pg g0),(9,pg g17),(10,pg g26),(11,pg g31),(13,.slice aq45 nq45 cq45),(14,.int .i64 (i:Int)),(59,.int .i64 (i:Int)),(60,.slice ao cnt cp),(61,.int .i64 ((cnt:Nat):Int)),(62,.bool true),(65,.slice ao cnt cp),(66,.int .i64 (i:Int)),(67,pq pb (po + i * 1)),(68,pq pb (po + i * 1)),(69,.slice (aa i) (ns i) (cc i)),(70,.int .i64 ((ns i:Nat):Int)),(71,.bool false),(72,.slice ao cnt cp),(73,.int .i64 (i:Int)),(74,pq pb (po + i * 1)),(75,.agg #[.slice (aa i) (ns i) (cc i)]),(76,pq g17 7),(77,.tuple #[.agg #[.int .u64 0,.int .u64 nn,.slice aq36 nq36 cq36,.bool false,.int .u64 0,.bool false,.int .u64 ((i:Int) + 1 + 1),.slice none 0 0,.slice aq38 nq38 cq38,.slice aq39 nq39 cq39],.agg #[.slice aq37 nq37 cq37]]),(78,pg g0),(79,.agg #[.int .u64 0,.int .u64 nn,.slice b0 k0 d0,.bool false,.int .u64 0,.bool false,.int .u64 ((i:Int) + 1),.slice (aa i) (ns i) (cc i),.slice b2 k2 d2,.slice b3 k3 d3]),(80,.tuple #[.agg #[.int .u64 0,.int .u64 nn,.slice aq36 nq36 cq36,.bool false,.int .u64 0,.bool false,.int .u64 ((i:Int) + 1 + 1),.slice none 0 0,.slice aq38 nq38 cq38,.slice aq39 nq39 cq39],.agg #[.slice aq37 nq37 cq37]]),(81,.agg #[.int .u64 0,.int .u64 nn,.slice aq36 nq36 cq36,.bool false,.int .u64 0,.bool false,.int .u64 ((i:Int) + 1 + 1),.slice none 0 0,.slice aq38 nq38 cq38,.slice aq39 nq39 cq39]),(83,.slice b4 k4 d4),(84,.slice ao cnt cp),(85,.int .i64 (i:Int)),(86,pq pb (po + i * 1)),(87,pq pb (po + i * 1)),(88,.slice (aa i) (ns i) (cc i)),(89,.slice aq45 nq45 cq45)] (by kernel_rfl) ?_));refine ax (aA (t 91 (pg g0) ?_));refine tlr 92 [.int .u64 0,.int .u64 nn,.slice aq36 nq36 cq36,.bool false,.int .u64 0,.bool false,.int .u64 ((i:Int) + 1 + 1),.slice none 0 0,.slice aq38 nq38 cq38,.slice aq39 nq39 cq39] Xg17 0 ?_
     refine tlr 93 [.slice aq19 nq19 cq19,.int .u64 0,.slice aq20 nq20 cq20] Xg26 0 ?_
     obtain⟨cl,hcl⟩:∃ cl,cl=xD * sQ nn xs (i + 1) / U36:=⟨_,rfl⟩
     refine tc 94 20 #[pg g0,.int .u64 16,.agg #[.int .u64 0,.int .u64 nn,.slice aq36 nq36 cq36,.bool false,.int .u64 0,.bool false,.int .u64 ((i:Int) + 1 + 1),.slice none 0 0,.slice aq38 nq38 cq38,.slice aq39 nq39 cq39],.agg #[.slice aq19 nq19 cq19,.int .u64 0,.slice aq20 nq20 cq20]] (oU.cast (c':=0) (V':=cl) (qJ A.sx F2 Qq20 (by omega) (by simp) (by omega) (by decide) (by omega) (by omega)) rfl (by rw[vm,ua (by rw[r0',rl']; exact bd1.1.1),r0',rl',Int.sub_zero,hcl])) ?_
     rintro _ v48 ⟨aq47,nq47,cq47,zq47,rfl,S,C,Qq47,mq47,hq47⟩;refine⟨_,rfl,?_⟩
     have eQq47g17:Ap _ _ _:=ne2 hq47 Xg17.lt
     have eQq47g26:Ap _ _ _:=ne2 hq47 Xg26.lt
     have eQq47g31:Ap _ _ _:=ne2 hq47 Xg31.lt;clear hq47;have hC:=C.mono (fun b _ (e:b=g0)=>e▸A.sx.sa.top);replace BB:=dw BB hC (fun b hb=>Nat.le_trans hwB (A.sx.kb b hb));have mXg17:=aU Xg17 nXg17 (fun _ h=>.inl h);replace Xg17:=Xg17.chg hC nXg17;replace nXg17:=mXg17;clear mXg17;have mXg26:=aU Xg26 nXg26 (fun _ h=>.inl h);replace Xg26:=Xg26.chg hC nXg26;replace nXg26:=mXg26;clear mXg26;have mXg31:=aU Xg31 nXg31 (fun _ h=>.inl h);replace Xg31:=Xg31.chg hC nXg31;replace nXg31:=mXg31;clear mXg31;replace QS:=QS.op (fun _ h=>.inl h) hC;replace QO:=QO.op (fun _ h=>.inl h) hC;replace QC:=QC.op (fun _ h=>.inl h) hC;replace QT:=QT.op (fun _ h=>.inl h) hC;replace Qq20:=Qq20.op (fun _ h=>.inl h) hC;replace QA:=QA.op (fun _ h=>.inl h) hC;replace Qq36:=Qq36.op (fun _ h=>.inl h) hC;replace Qq37:=Qq37.op (fun _ h=>.inl h) hC;replace Qq38:=Qq38.op (fun _ h=>.inl h) hC;replace Qq39:=Qq39.op (fun _ h=>.inl h) hC;replace Qq45:=Qq45.op (fun _ h=>.inl h) hC;replace A:Al _ _ _ _ _ _ _ _:=⟨S⟩
     clear S hC C;refine t 90 (.tuple #[.agg #[.slice aq47 nq47 cq47],.int .i64 0]) ?_
     refine t 95 (.agg #[.slice aq47 nq47 cq47]) ?_
     refine t 96 (.int .i64 0) ?_
     refine ts Xg31 0 (.agg #[.slice aq47 nq47 cq47]) [.slice aq47 nq47 cq47] [.slice aq47 nq47 cq47] ?_
     intro v49 Y C;replace BB:=aP BB C yg31;replace A:=A.cell Xg31 C nXg31 (by decide);replace Xg17:=Xg17.chg C (show g17≠g31 by omega);replace Xg26:=Xg26.chg C (show g26≠g31 by omega);replace QS:=QS.cell C eQSg31;replace QO:=QO.cell C eQOg31;replace QC:=QC.cell C eQCg31;replace QT:=QT.cell C eQTg31;replace Qq20:=Qq20.cell C eQq20g31;replace QA:=QA.cell C eQAg31;replace Qq36:=Qq36.cell C eQq36g31;replace Qq37:=Qq37.cell C eQq37g31;replace Qq38:=Qq38.cell C eQq38g31;replace Qq39:=Qq39.cell C eQq39g31;replace Qq45:=Qq45.cell C eQq45g31;replace Qq47:=Qq47.cell C eQq47g31;clear C Xg31;have Xg31:=Y;clear Y;refine ay (ai (ax (aA (t 97 (pq g26 2) ?_))));refine t 98 (pq g26 2) ?_
     refine tl 99 (.slice aq20 nq20 cq20) Xg26 2 ?_
     refine t 100 (.slice aq45 nq45 cq45) ?_
     refine tc 101 24 #[.slice aq20 nq20 cq20,.slice aq45 nq45 cq45] (oI Qq20.nat Qq45.nat (by omega) (by omega)) ?_
     rintro _ v51 ⟨aq50,nq50,cq50,zq50,rfl,Mq50,hq50,mq50,B⟩;refine⟨_,rfl,?_⟩
     have eQq50g17:Ap _ _ _:=ne2 hq50 Xg17.lt
     have eQq50g26:Ap _ _ _:=ne2 hq50 Xg26.lt
     have eQq50g31:Ap _ _ _:=ne2 hq50 Xg31.lt;have Qq50:=bZ A.sx Mq50 hq50;clear Mq50 hq50;replace BB:=ah BB B;replace A:=A.keep B;replace Xg17:=Xg17.keep B;replace Xg26:=Xg26.keep B;replace Xg31:=Xg31.keep B;replace QS:=QS.keep B;replace QO:=QO.keep B;replace QC:=QC.keep B;replace QT:=QT.keep B;replace Qq20:=Qq20.keep B;replace QA:=QA.keep B;replace Qq36:=Qq36.keep B;replace Qq37:=Qq37.keep B;replace Qq38:=Qq38.keep B;replace Qq39:=Qq39.keep B;replace Qq45:=Qq45.keep B;replace Qq47:=Qq47.keep B;clear B;refine t 15 (.slice aq50 nq50 cq50) ?_
     refine ay (ai (bB [(2,.slice ao cnt cp),(7,.int .u64 nn),(8,pg g0),(9,pg g17),(10,pg g26),(11,pg g31),(13,.slice aq45 nq45 cq45),(14,.int .i64 (i:Int)),(15,.slice aq50 nq50 cq50),(59,.int .i64 (i:Int)),(60,.slice ao cnt cp),(61,.int .i64 ((cnt:Nat):Int)),(62,.bool true),(65,.slice ao cnt cp),(66,.int .i64 (i:Int)),(67,pq pb (po + i * 1)),(68,pq pb (po + i * 1)),(69,.slice (aa i) (ns i) (cc i)),(70,.int .i64 ((ns i:Nat):Int)),(71,.bool false),(72,.slice ao cnt cp),(73,.int .i64 (i:Int)),(74,pq pb (po + i * 1)),(75,.agg #[.slice (aa i) (ns i) (cc i)]),(76,pq g17 7),(77,.tuple #[.agg #[.int .u64 0,.int .u64 nn,.slice aq36 nq36 cq36,.bool false,.int .u64 0,.bool false,.int .u64 ((i:Int) + 1 + 1),.slice none 0 0,.slice aq38 nq38 cq38,.slice aq39 nq39 cq39],.agg #[.slice aq37 nq37 cq37]]),(78,pg g0),(79,.agg #[.int .u64 0,.int .u64 nn,.slice b0 k0 d0,.bool false,.int .u64 0,.bool false,.int .u64 ((i:Int) + 1),.slice (aa i) (ns i) (cc i),.slice b2 k2 d2,.slice b3 k3 d3]),(80,.tuple #[.agg #[.int .u64 0,.int .u64 nn,.slice aq36 nq36 cq36,.bool false,.int .u64 0,.bool false,.int .u64 ((i:Int) + 1 + 1),.slice none 0 0,.slice aq38 nq38 cq38,.slice aq39 nq39 cq39],.agg #[.slice aq37 nq37 cq37]]),(81,.agg #[.int .u64 0,.int .u64 nn,.slice aq36 nq36 cq36,.bool false,.int .u64 0,.bool false,.int .u64 ((i:Int) + 1 + 1),.slice none 0 0,.slice aq38 nq38 cq38,.slice aq39 nq39 cq39]),(83,.slice b4 k4 d4),(84,.slice ao cnt cp),(85,.int .i64 (i:Int)),(86,pq pb (po + i * 1)),(87,pq pb (po + i * 1)),(88,.slice (aa i) (ns i) (cc i)),(89,.slice aq45 nq45 cq45),(90,.tuple #[.agg #[.slice aq47 nq47 cq47],.int .i64 0]),(91,pg g0),(92,.agg #[.int .u64 0,.int .u64 nn,.slice aq36 nq36 cq36,.bool false,.int .u64 0,.bool false,.int .u64 ((i:Int) + 1 + 1),.slice none 0 0,.slice aq38 nq38 cq38,.slice aq39 nq39 cq39]),(93,.agg #[.slice aq19 nq19 cq19,.int .u64 0,.slice aq20 nq20 cq20]),(94,.tuple #[.agg #[.slice aq47 nq47 cq47],.int .i64 0]),(95,.agg #[.slice aq47 nq47 cq47]),(97,pq g26 2),(98,pq g26 2),(99,.slice aq20 nq20 cq20),(100,.slice aq45 nq45 cq45),(101,.slice aq50 nq50 cq50)] (by kernel_rfl) ?_));refine ax (aA (tc 102 18 #[.int .u64 1] (eOf (y:=1) ⟨by omega,by omega⟩) ?_));rintro _ v53 ⟨aq52,nq52,cq52,zq52,rfl,Mq52,hq52,mq52,B⟩;refine⟨_,rfl,?_⟩
     have eQq52g17:Ap _ _ _:=ne2 hq52 Xg17.lt
     have eQq52g26:Ap _ _ _:=ne2 hq52 Xg26.lt
     have eQq52g31:Ap _ _ _:=ne2 hq52 Xg31.lt;have Qq52:=bZ A.sx Mq52 hq52;clear Mq52 hq52;replace BB:=ah BB B;replace A:=A.keep B;replace Xg17:=Xg17.keep B;replace Xg26:=Xg26.keep B;replace Xg31:=Xg31.keep B;replace QS:=QS.keep B;replace QO:=QO.keep B;replace QC:=QC.keep B;replace QT:=QT.keep B;replace Qq20:=Qq20.keep B;replace QA:=QA.keep B;replace Qq36:=Qq36.keep B;replace Qq37:=Qq37.keep B;replace Qq38:=Qq38.keep B;replace Qq39:=Qq39.keep B;replace Qq45:=Qq45.keep B;replace Qq47:=Qq47.keep B;replace Qq50:=Qq50.keep B;clear B;refine t 103 (.slice aq52 nq52 cq52) ?_
     refine t 16 (.slice aq52 nq52 cq52) ?_
     refine ay (ai (ax ?_));replace BB:=BB.drew;replace A:=A.drew;replace Xg17:=Xg17.drew;replace Xg26:=Xg26.drew;replace Xg31:=Xg31.drew;replace QS:=QS.drew;replace QO:=QO.drew;replace QC:=QC.drew;replace QT:=QT.drew;replace Qq20:=Qq20.drew;replace QA:=QA.drew;replace Qq36:=Qq36.drew;replace Qq37:=Qq37.drew;replace Qq38:=Qq38.drew;replace Qq39:=Qq39.drew;replace Qq45:=Qq45.drew;replace Qq47:=Qq47.drew;replace Qq50:=Qq50.drew;replace Qq52:=Qq52.drew;refine cU (fun w'=>Blk w' g31 [.slice aq47 nq47 cq47] 32) (fun _=>false) Xg31 ?_
     refine z 0 104 (pg g31) ?_
     refine zl 1 105 (.slice aq47 nq47 cq47) (fun _ h=>h) 0 ?_
     refine z 2 106 (.int .u64 nn) ?_
     refine z 5 109 (.slice aq52 nq52 cq52) ?_
     refine zc 3 107 25 #[.int .u64 nn] (vP (x:=nn) (by omega) (by omega)) ?_
     rintro _ v55 ⟨aq54,nq54,cq54,zq54,rfl,Mq54,hq54,mq54,B⟩
     have eQq54g17:Ap _ _ _:=ne2 hq54 Xg17.lt
     have eQq54g26:Ap _ _ _:=ne2 hq54 Xg26.lt
     have eQq54g31:Ap _ _ _:=ne2 hq54 Xg31.lt;have Qq54:=bZ A.sx Mq54 hq54;clear Mq54 hq54;replace BB:=ah BB B;replace A:=A.keep B;replace Xg17:=Xg17.keep B;replace Xg26:=Xg26.keep B;replace Xg31:=Xg31.keep B;replace QS:=QS.keep B;replace QO:=QO.keep B;replace QC:=QC.keep B;replace QT:=QT.keep B;replace Qq20:=Qq20.keep B;replace QA:=QA.keep B;replace Qq36:=Qq36.keep B;replace Qq37:=Qq37.keep B;replace Qq38:=Qq38.keep B;replace Qq39:=Qq39.keep B;replace Qq45:=Qq45.keep B;replace Qq47:=Qq47.keep B;replace Qq50:=Qq50.keep B;replace Qq52:=Qq52.keep B;clear B;refine⟨_,rfl,Xg31,?_⟩;refine zc 4 108 24 #[.slice aq47 nq47 cq47,.slice aq54 nq54 cq54] (oI Qq47.nat Qq54.nat (by omega) (by omega)) ?_
     rintro _ v57 ⟨aq56,nq56,cq56,zq56,rfl,Mq56,hq56,mq56,B⟩
     have eQq56g17:Ap _ _ _:=ne2 hq56 Xg17.lt
     have eQq56g26:Ap _ _ _:=ne2 hq56 Xg26.lt
     have eQq56g31:Ap _ _ _:=ne2 hq56 Xg31.lt;have Qq56:=bZ A.sx Mq56 hq56;clear Mq56 hq56;replace BB:=ah BB B;replace A:=A.keep B;replace Xg17:=Xg17.keep B;replace Xg26:=Xg26.keep B;replace Xg31:=Xg31.keep B;replace QS:=QS.keep B;replace QO:=QO.keep B;replace QC:=QC.keep B;replace QT:=QT.keep B;replace Qq20:=Qq20.keep B;replace QA:=QA.keep B;replace Qq36:=Qq36.keep B;replace Qq37:=Qq37.keep B;replace Qq38:=Qq38.keep B;replace Qq39:=Qq39.keep B;replace Qq45:=Qq45.keep B;replace Qq47:=Qq47.keep B;replace Qq50:=Qq50.keep B;replace Qq52:=Qq52.keep B;replace Qq54:=Qq54.keep B;clear B;refine⟨_,rfl,Xg31,?_⟩;refine zc 6 110 24 #[.slice aq56 nq56 cq56,.slice aq52 nq52 cq52] (oI Qq56.nat Qq52.nat (by omega) (by omega)) ?_
     rintro _ v59 ⟨aq58,nq58,cq58,zq58,rfl,Mq58,hq58,mq58,B⟩
     have eQq58g17:Ap _ _ _:=ne2 hq58 Xg17.lt
     have eQq58g26:Ap _ _ _:=ne2 hq58 Xg26.lt
     have eQq58g31:Ap _ _ _:=ne2 hq58 Xg31.lt;have Qq58:=bZ A.sx Mq58 hq58;clear Mq58 hq58;replace BB:=ah BB B;replace A:=A.keep B;replace Xg17:=Xg17.keep B;replace Xg26:=Xg26.keep B;replace Xg31:=Xg31.keep B;replace QS:=QS.keep B;replace QO:=QO.keep B;replace QC:=QC.keep B;replace QT:=QT.keep B;replace Qq20:=Qq20.keep B;replace QA:=QA.keep B;replace Qq36:=Qq36.keep B;replace Qq37:=Qq37.keep B;replace Qq38:=Qq38.keep B;replace Qq39:=Qq39.keep B;replace Qq45:=Qq45.keep B;replace Qq47:=Qq47.keep B;replace Qq50:=Qq50.keep B;replace Qq52:=Qq52.keep B;replace Qq54:=Qq54.keep B;replace Qq56:=Qq56.keep B;clear B;refine⟨_,rfl,Xg31,?_⟩;refine z 7 17 (.slice aq58 nq58 cq58) ?_
     refine bM (ai (ax ?_));replace BB:=BB.drew;replace A:=A.drew;replace Xg17:=Xg17.drew;replace Xg26:=Xg26.drew;replace Xg31:=Xg31.drew;replace QS:=QS.drew;replace QO:=QO.drew;replace QC:=QC.drew;replace QT:=QT.drew;replace Qq20:=Qq20.drew;replace QA:=QA.drew;replace Qq36:=Qq36.drew;replace Qq37:=Qq37.drew;replace Qq38:=Qq38.drew;replace Qq39:=Qq39.drew;replace Qq45:=Qq45.drew;replace Qq47:=Qq47.drew;replace Qq50:=Qq50.drew;replace Qq52:=Qq52.drew;replace Qq54:=Qq54.drew;replace Qq56:=Qq56.drew;replace Qq58:=Qq58.drew;refine cU (fun w'=>Blk w' g26 [.slice aq19 nq19 cq19,.int .u64 0,.slice aq20 nq20 cq20] 54) (fun _=>false) Xg26 ?_
     refine z 0 111 (pq g26 2) ?_
     refine z 1 112 (pq g26 2) ?_
     refine zl 2 113 (.slice aq20 nq20 cq20) (fun _ h=>h) 2 ?_
     refine z 3 114 (.int .i64 (i:Int)) ?_
     refine zq 4 115 (.int .i64 (IntKind.i64.wrap ((i:Int) + 1))) (.int .i64 ((i:Int) + 1)) (wi (by omega)) ?_
     refine zr 5 116 (.int .u64 ((i:Int) + 1)) (fun _ _=>run_cv ((i:Int) + 1) ⟨by omega,by omega⟩) ?_
     refine z 8 119 (.slice aq52 nq52 cq52) ?_
     refine z 10 121 (.int .u64 nn) ?_
     refine zc 6 117 25 #[.int .u64 ((i:Int) + 1)] (vP (x:=(i:Int) + 1) (by omega) (by omega)) ?_
     rintro _ v61 ⟨aq60,nq60,cq60,zq60,rfl,Mq60,hq60,mq60,B⟩
     have eQq60g17:Ap _ _ _:=ne2 hq60 Xg17.lt
     have eQq60g26:Ap _ _ _:=ne2 hq60 Xg26.lt
     have eQq60g31:Ap _ _ _:=ne2 hq60 Xg31.lt;have Qq60:=bZ A.sx Mq60 hq60;clear Mq60 hq60;replace BB:=ah BB B;replace A:=A.keep B;replace Xg17:=Xg17.keep B;replace Xg26:=Xg26.keep B;replace Xg31:=Xg31.keep B;replace QS:=QS.keep B;replace QO:=QO.keep B;replace QC:=QC.keep B;replace QT:=QT.keep B;replace Qq20:=Qq20.keep B;replace QA:=QA.keep B;replace Qq36:=Qq36.keep B;replace Qq37:=Qq37.keep B;replace Qq38:=Qq38.keep B;replace Qq39:=Qq39.keep B;replace Qq45:=Qq45.keep B;replace Qq47:=Qq47.keep B;replace Qq50:=Qq50.keep B;replace Qq52:=Qq52.keep B;replace Qq54:=Qq54.keep B;replace Qq56:=Qq56.keep B;replace Qq58:=Qq58.keep B;clear B;refine⟨_,rfl,Xg26,?_⟩;refine zc 7 118 24 #[.slice aq20 nq20 cq20,.slice aq60 nq60 cq60] (oI Qq20.nat Qq60.nat (by omega) (by omega)) ?_
     rintro _ v63 ⟨aq62,nq62,cq62,zq62,rfl,Mq62,hq62,mq62,B⟩
     have eQq62g17:Ap _ _ _:=ne2 hq62 Xg17.lt
     have eQq62g26:Ap _ _ _:=ne2 hq62 Xg26.lt
     have eQq62g31:Ap _ _ _:=ne2 hq62 Xg31.lt;have Qq62:=bZ A.sx Mq62 hq62;clear Mq62 hq62;replace BB:=ah BB B;replace A:=A.keep B;replace Xg17:=Xg17.keep B;replace Xg26:=Xg26.keep B;replace Xg31:=Xg31.keep B;replace QS:=QS.keep B;replace QO:=QO.keep B;replace QC:=QC.keep B;replace QT:=QT.keep B;replace Qq20:=Qq20.keep B;replace QA:=QA.keep B;replace Qq36:=Qq36.keep B;replace Qq37:=Qq37.keep B;replace Qq38:=Qq38.keep B;replace Qq39:=Qq39.keep B;replace Qq45:=Qq45.keep B;replace Qq47:=Qq47.keep B;replace Qq50:=Qq50.keep B;replace Qq52:=Qq52.keep B;replace Qq54:=Qq54.keep B;replace Qq56:=Qq56.keep B;replace Qq58:=Qq58.keep B;replace Qq60:=Qq60.keep B;clear B;refine⟨_,rfl,Xg26,?_⟩;refine zc 9 120 23 #[.slice aq62 nq62 cq62,.slice aq52 nq52 cq52] (uU Qq62.nat Qq52.nat (by omega) (by omega)) ?_
     rintro _ v65 ⟨aq64,nq64,cq64,zq64,rfl,Mq64,hq64,mq64,B⟩
     have eQq64g17:Ap _ _ _:=ne2 hq64 Xg17.lt
     have eQq64g26:Ap _ _ _:=ne2 hq64 Xg26.lt
     have eQq64g31:Ap _ _ _:=ne2 hq64 Xg31.lt;have Qq64:=bZ A.sx Mq64 hq64;clear Mq64 hq64;replace BB:=ah BB B;replace A:=A.keep B;replace Xg17:=Xg17.keep B;replace Xg26:=Xg26.keep B;replace Xg31:=Xg31.keep B;replace QS:=QS.keep B;replace QO:=QO.keep B;replace QC:=QC.keep B;replace QT:=QT.keep B;replace Qq20:=Qq20.keep B;replace QA:=QA.keep B;replace Qq36:=Qq36.keep B;replace Qq37:=Qq37.keep B;replace Qq38:=Qq38.keep B;replace Qq39:=Qq39.keep B;replace Qq45:=Qq45.keep B;replace Qq47:=Qq47.keep B;replace Qq50:=Qq50.keep B;replace Qq52:=Qq52.keep B;replace Qq54:=Qq54.keep B;replace Qq56:=Qq56.keep B;replace Qq58:=Qq58.keep B;replace Qq60:=Qq60.keep B;replace Qq62:=Qq62.keep B;clear B;refine⟨_,rfl,Xg26,?_⟩;refine zc 11 122 25 #[.int .u64 nn] (vP (x:=nn) (by omega) (by omega)) ?_
     rintro _ v67 ⟨aq66,nq66,cq66,zq66,rfl,Mq66,hq66,mq66,B⟩
     have eQq66g17:Ap _ _ _:=ne2 hq66 Xg17.lt
     have eQq66g26:Ap _ _ _:=ne2 hq66 Xg26.lt
     have eQq66g31:Ap _ _ _:=ne2 hq66 Xg31.lt;have Qq66:=bZ A.sx Mq66 hq66;clear Mq66 hq66;replace BB:=ah BB B;replace A:=A.keep B;replace Xg17:=Xg17.keep B;replace Xg26:=Xg26.keep B;replace Xg31:=Xg31.keep B;replace QS:=QS.keep B;replace QO:=QO.keep B;replace QC:=QC.keep B;replace QT:=QT.keep B;replace Qq20:=Qq20.keep B;replace QA:=QA.keep B;replace Qq36:=Qq36.keep B;replace Qq37:=Qq37.keep B;replace Qq38:=Qq38.keep B;replace Qq39:=Qq39.keep B;replace Qq45:=Qq45.keep B;replace Qq47:=Qq47.keep B;replace Qq50:=Qq50.keep B;replace Qq52:=Qq52.keep B;replace Qq54:=Qq54.keep B;replace Qq56:=Qq56.keep B;replace Qq58:=Qq58.keep B;replace Qq60:=Qq60.keep B;replace Qq62:=Qq62.keep B;replace Qq64:=Qq64.keep B;clear B;refine⟨_,rfl,Xg26,?_⟩;refine zc 12 123 24 #[.slice aq64 nq64 cq64,.slice aq66 nq66 cq66] (oI Qq64.nat Qq66.nat (by omega) (by omega)) ?_
     rintro _ v69 ⟨aq68,nq68,cq68,zq68,rfl,Mq68,hq68,mq68,B⟩
     have eQq68g17:Ap _ _ _:=ne2 hq68 Xg17.lt
     have eQq68g26:Ap _ _ _:=ne2 hq68 Xg26.lt
     have eQq68g31:Ap _ _ _:=ne2 hq68 Xg31.lt;have Qq68:=bZ A.sx Mq68 hq68;clear Mq68 hq68;replace BB:=ah BB B;replace A:=A.keep B;replace Xg17:=Xg17.keep B;replace Xg26:=Xg26.keep B;replace Xg31:=Xg31.keep B;replace QS:=QS.keep B;replace QO:=QO.keep B;replace QC:=QC.keep B;replace QT:=QT.keep B;replace Qq20:=Qq20.keep B;replace QA:=QA.keep B;replace Qq36:=Qq36.keep B;replace Qq37:=Qq37.keep B;replace Qq38:=Qq38.keep B;replace Qq39:=Qq39.keep B;replace Qq45:=Qq45.keep B;replace Qq47:=Qq47.keep B;replace Qq50:=Qq50.keep B;replace Qq52:=Qq52.keep B;replace Qq54:=Qq54.keep B;replace Qq56:=Qq56.keep B;replace Qq58:=Qq58.keep B;replace Qq60:=Qq60.keep B;replace Qq62:=Qq62.keep B;replace Qq64:=Qq64.keep B;replace Qq66:=Qq66.keep B;clear B;refine⟨_,rfl,Xg26,?_⟩;refine z 13 18 (.slice aq68 nq68 cq68) ?_
     refine bM (ai (bB [(2,.slice ao cnt cp),(7,.int .u64 nn),(8,pg g0),(9,pg g17),(10,pg g26),(11,pg g31),(13,.slice aq45 nq45 cq45),(14,.int .i64 (i:Int)),(15,.slice aq50 nq50 cq50),(16,.slice aq52 nq52 cq52),(17,.slice aq58 nq58 cq58),(18,.slice aq68 nq68 cq68),(59,.int .i64 (i:Int)),(60,.slice ao cnt cp),(61,.int .i64 ((cnt:Nat):Int)),(62,.bool true),(65,.slice ao cnt cp),(66,.int .i64 (i:Int)),(67,pq pb (po + i * 1)),(68,pq pb (po + i * 1)),(69,.slice (aa i) (ns i) (cc i)),(70,.int .i64 ((ns i:Nat):Int)),(71,.bool false),(72,.slice ao cnt cp),(73,.int .i64 (i:Int)),(74,pq pb (po + i * 1)),(75,.agg #[.slice (aa i) (ns i) (cc i)]),(76,pq g17 7),(77,.tuple #[.agg #[.int .u64 0,.int .u64 nn,.slice aq36 nq36 cq36,.bool false,.int .u64 0,.bool false,.int .u64 ((i:Int) + 1 + 1),.slice none 0 0,.slice aq38 nq38 cq38,.slice aq39 nq39 cq39],.agg #[.slice aq37 nq37 cq37]]),(78,pg g0),(79,.agg #[.int .u64 0,.int .u64 nn,.slice b0 k0 d0,.bool false,.int .u64 0,.bool false,.int .u64 ((i:Int) + 1),.slice (aa i) (ns i) (cc i),.slice b2 k2 d2,.slice b3 k3 d3]),(80,.tuple #[.agg #[.int .u64 0,.int .u64 nn,.slice aq36 nq36 cq36,.bool false,.int .u64 0,.bool false,.int .u64 ((i:Int) + 1 + 1),.slice none 0 0,.slice aq38 nq38 cq38,.slice aq39 nq39 cq39],.agg #[.slice aq37 nq37 cq37]]),(81,.agg #[.int .u64 0,.int .u64 nn,.slice aq36 nq36 cq36,.bool false,.int .u64 0,.bool false,.int .u64 ((i:Int) + 1 + 1),.slice none 0 0,.slice aq38 nq38 cq38,.slice aq39 nq39 cq39]),(83,.slice b4 k4 d4),(84,.slice ao cnt cp),(85,.int .i64 (i:Int)),(86,pq pb (po + i * 1)),(87,pq pb (po + i * 1)),(88,.slice (aa i) (ns i) (cc i)),(89,.slice aq45 nq45 cq45),(90,.tuple #[.agg #[.slice aq47 nq47 cq47],.int .i64 0]),(91,pg g0),(92,.agg #[.int .u64 0,.int .u64 nn,.slice aq36 nq36 cq36,.bool false,.int .u64 0,.bool false,.int .u64 ((i:Int) + 1 + 1),.slice none 0 0,.slice aq38 nq38 cq38,.slice aq39 nq39 cq39]),(93,.agg #[.slice aq19 nq19 cq19,.int .u64 0,.slice aq20 nq20 cq20]),(94,.tuple #[.agg #[.slice aq47 nq47 cq47],.int .i64 0]),(95,.agg #[.slice aq47 nq47 cq47]),(97,pq g26 2),(98,pq g26 2),(99,.slice aq20 nq20 cq20),(100,.slice aq45 nq45 cq45),(101,.slice aq50 nq50 cq50),(102,.agg #[.slice aq52 nq52 cq52]),(103,.slice aq52 nq52 cq52),(104,pg g31),(105,.slice aq47 nq47 cq47),(106,.int .u64 nn),(107,.slice aq54 nq54 cq54),(108,.slice aq56 nq56 cq56),(109,.slice aq52 nq52 cq52),(110,.slice aq58 nq58 cq58),(111,pq g26 2),(112,pq g26 2),(113,.slice aq20 nq20 cq20),(114,.int .i64 (i:Int)),(115,.int .i64 ((i:Int) + 1)),(116,.int .u64 ((i:Int) + 1)),(117,.slice aq60 nq60 cq60),(118,.slice aq62 nq62 cq62),(119,.slice aq52 nq52 cq52),(120,.slice aq64 nq64 cq64),(121,.int .u64 nn),(122,.slice aq66 nq66 cq66),(123,.slice aq68 nq68 cq68)] (by kernel_rfl) ?_));refine ax (aA (t 124 (.slice aq58 nq58 cq58) ?_));refine t 125 (.slice aq50 nq50 cq50) ?_
     have hle:(cl * nn) * (1 * U36)<=xD * ((sT xs i) + (xs i)):=by rw[hcl,Int.one_mul]; exact ex_lo hx0 (by omega) bd1.2.1
     refine tc 126 26 #[.slice aq58 nq58 cq58,.slice aq50 nq50 cq50] (cmpLe Qq58.nat Qq50.nat (by omega) (by omega) hle) ?_
     rintro _ v70 ⟨r1,rfl,hr1,B⟩;refine⟨_,rfl,?_⟩;replace BB:=ah BB B;replace A:=A.keep B;replace Xg17:=Xg17.keep B;replace Xg26:=Xg26.keep B;replace Xg31:=Xg31.keep B;replace QS:=QS.keep B;replace QO:=QO.keep B;replace QC:=QC.keep B;replace QT:=QT.keep B;replace Qq20:=Qq20.keep B;replace QA:=QA.keep B;replace Qq36:=Qq36.keep B;replace Qq37:=Qq37.keep B;replace Qq38:=Qq38.keep B;replace Qq39:=Qq39.keep B;replace Qq45:=Qq45.keep B;replace Qq47:=Qq47.keep B;replace Qq50:=Qq50.keep B;replace Qq52:=Qq52.keep B;replace Qq54:=Qq54.keep B;replace Qq56:=Qq56.keep B;replace Qq58:=Qq58.keep B;replace Qq60:=Qq60.keep B;replace Qq62:=Qq62.keep B;replace Qq64:=Qq64.keep B;replace Qq66:=Qq66.keep B;replace Qq68:=Qq68.keep B;clear B
     have t71:¬ ((0:Int) < r1):=by omega
     refine tq 127 (.bool (decide ((0:Int) < r1))) (.bool false) (congrArg Value.bool (decide_eq_false t71)) ?_
     refine t 128 (.bool false) ?_
     refine t 129 (.slice aq58 nq58 cq58) ?_
     refine t 130 (.slice aq68 nq68 cq68) ?_
     refine tc 131 23 #[.slice aq58 nq58 cq58,.slice aq68 nq68 cq68] (uU Qq58.nat Qq68.nat (by omega) (by omega)) ?_
     rintro _ v73 ⟨aq72,nq72,cq72,zq72,rfl,Mq72,hq72,mq72,B⟩;refine⟨_,rfl,?_⟩
     have eQq72g17:Ap _ _ _:=ne2 hq72 Xg17.lt
     have eQq72g26:Ap _ _ _:=ne2 hq72 Xg26.lt
     have eQq72g31:Ap _ _ _:=ne2 hq72 Xg31.lt;have Qq72:=bZ A.sx Mq72 hq72;clear Mq72 hq72;replace BB:=ah BB B;replace A:=A.keep B;replace Xg17:=Xg17.keep B;replace Xg26:=Xg26.keep B;replace Xg31:=Xg31.keep B;replace QS:=QS.keep B;replace QO:=QO.keep B;replace QC:=QC.keep B;replace QT:=QT.keep B;replace Qq20:=Qq20.keep B;replace QA:=QA.keep B;replace Qq36:=Qq36.keep B;replace Qq37:=Qq37.keep B;replace Qq38:=Qq38.keep B;replace Qq39:=Qq39.keep B;replace Qq45:=Qq45.keep B;replace Qq47:=Qq47.keep B;replace Qq50:=Qq50.keep B;replace Qq52:=Qq52.keep B;replace Qq54:=Qq54.keep B;replace Qq56:=Qq56.keep B;replace Qq58:=Qq58.keep B;replace Qq60:=Qq60.keep B;replace Qq62:=Qq62.keep B;replace Qq64:=Qq64.keep B;replace Qq66:=Qq66.keep B;replace Qq68:=Qq68.keep B;clear B;refine t 132 (.slice aq50 nq50 cq50) ?_
     have hlt:xD * ((sT xs i) + (xs i)) < ((cl * nn) * (1 * U36)) + (((xD * ((i:Int) + 1)) + (1 * U36)) * nn):=by rw[hcl,Int.one_mul]; exact ex_hi hx0 (by omega) (by omega) bd1.2.2.1
     refine tc 133 26 #[.slice aq72 nq72 cq72,.slice aq50 nq50 cq50] (cmpGt Qq72.nat Qq50.nat (by omega) (by omega) hlt) ?_
     rintro _ v74 ⟨rfl,B⟩;refine⟨_,rfl,?_⟩;replace BB:=ah BB B;replace A:=A.keep B;replace Xg17:=Xg17.keep B;replace Xg26:=Xg26.keep B;replace Xg31:=Xg31.keep B;replace QS:=QS.keep B;replace QO:=QO.keep B;replace QC:=QC.keep B;replace QT:=QT.keep B;replace Qq20:=Qq20.keep B;replace QA:=QA.keep B;replace Qq36:=Qq36.keep B;replace Qq37:=Qq37.keep B;replace Qq38:=Qq38.keep B;replace Qq39:=Qq39.keep B;replace Qq45:=Qq45.keep B;replace Qq47:=Qq47.keep B;replace Qq50:=Qq50.keep B;replace Qq52:=Qq52.keep B;replace Qq54:=Qq54.keep B;replace Qq56:=Qq56.keep B;replace Qq58:=Qq58.keep B;replace Qq60:=Qq60.keep B;replace Qq62:=Qq62.keep B;replace Qq64:=Qq64.keep B;replace Qq66:=Qq66.keep B;replace Qq68:=Qq68.keep B;replace Qq72:=Qq72.keep B;clear B;refine t 134 (.bool false) ?_
     refine t 135 (.bool false) ?_
     refine ay (ai (bB [(2,.slice ao cnt cp),(7,.int .u64 nn),(8,pg g0),(9,pg g17),(10,pg g26),(11,pg g31),(13,.slice aq45 nq45 cq45),(14,.int .i64 (i:Int)),(15,.slice aq50 nq50 cq50),(16,.slice aq52 nq52 cq52),(17,.slice aq58 nq58 cq58),(18,.slice aq68 nq68 cq68),(59,.int .i64 (i:Int)),(60,.slice ao cnt cp),(61,.int .i64 ((cnt:Nat):Int)),(62,.bool true),(65,.slice ao cnt cp),(66,.int .i64 (i:Int)),(67,pq pb (po + i * 1)),(68,pq pb (po + i * 1)),(69,.slice (aa i) (ns i) (cc i)),(70,.int .i64 ((ns i:Nat):Int)),(71,.bool false),(72,.slice ao cnt cp),(73,.int .i64 (i:Int)),(74,pq pb (po + i * 1)),(75,.agg #[.slice (aa i) (ns i) (cc i)]),(76,pq g17 7),(77,.tuple #[.agg #[.int .u64 0,.int .u64 nn,.slice aq36 nq36 cq36,.bool false,.int .u64 0,.bool false,.int .u64 ((i:Int) + 1 + 1),.slice none 0 0,.slice aq38 nq38 cq38,.slice aq39 nq39 cq39],.agg #[.slice aq37 nq37 cq37]]),(78,pg g0),(79,.agg #[.int .u64 0,.int .u64 nn,.slice b0 k0 d0,.bool false,.int .u64 0,.bool false,.int .u64 ((i:Int) + 1),.slice (aa i) (ns i) (cc i),.slice b2 k2 d2,.slice b3 k3 d3]),(80,.tuple #[.agg #[.int .u64 0,.int .u64 nn,.slice aq36 nq36 cq36,.bool false,.int .u64 0,.bool false,.int .u64 ((i:Int) + 1 + 1),.slice none 0 0,.slice aq38 nq38 cq38,.slice aq39 nq39 cq39],.agg #[.slice aq37 nq37 cq37]]),(81,.agg #[.int .u64 0,.int .u64 nn,.slice aq36 nq36 cq36,.bool false,.int .u64 0,.bool false,.int .u64 ((i:Int) + 1 + 1),.slice none 0 0,.slice aq38 nq38 cq38,.slice aq39 nq39 cq39]),(83,.slice b4 k4 d4),(84,.slice ao cnt cp),(85,.int .i64 (i:Int)),(86,pq pb (po + i * 1)),(87,pq pb (po + i * 1)),(88,.slice (aa i) (ns i) (cc i)),(89,.slice aq45 nq45 cq45),(90,.tuple #[.agg #[.slice aq47 nq47 cq47],.int .i64 0]),(91,pg g0),(92,.agg #[.int .u64 0,.int .u64 nn,.slice aq36 nq36 cq36,.bool false,.int .u64 0,.bool false,.int .u64 ((i:Int) + 1 + 1),.slice none 0 0,.slice aq38 nq38 cq38,.slice aq39 nq39 cq39]),(93,.agg #[.slice aq19 nq19 cq19,.int .u64 0,.slice aq20 nq20 cq20]),(94,.tuple #[.agg #[.slice aq47 nq47 cq47],.int .i64 0]),(95,.agg #[.slice aq47 nq47 cq47]),(97,pq g26 2),(98,pq g26 2),(99,.slice aq20 nq20 cq20),(100,.slice aq45 nq45 cq45),(101,.slice aq50 nq50 cq50),(102,.agg #[.slice aq52 nq52 cq52]),(103,.slice aq52 nq52 cq52),(104,pg g31),(105,.slice aq47 nq47 cq47),(106,.int .u64 nn),(107,.slice aq54 nq54 cq54),(108,.slice aq56 nq56 cq56),(109,.slice aq52 nq52 cq52),(110,.slice aq58 nq58 cq58),(111,pq g26 2),(112,pq g26 2),(113,.slice aq20 nq20 cq20),(114,.int .i64 (i:Int)),(115,.int .i64 ((i:Int) + 1)),(116,.int .u64 ((i:Int) + 1)),(117,.slice aq60 nq60 cq60),(118,.slice aq62 nq62 cq62),(119,.slice aq52 nq52 cq52),(120,.slice aq64 nq64 cq64),(121,.int .u64 nn),(122,.slice aq66 nq66 cq66),(123,.slice aq68 nq68 cq68),(124,.slice aq58 nq58 cq58),(125,.slice aq50 nq50 cq50),(126,.int .i64 r1),(127,.bool false),(128,.bool false),(129,.slice aq58 nq58 cq58),(130,.slice aq68 nq68 cq68),(131,.slice aq72 nq72 cq72),(132,.slice aq50 nq50 cq50),(133,.int .i64 1),(134,.bool false),(135,.bool false)] (by kernel_rfl) ?_));refine eR ?_
     refine dh (yj (ai (aA (t 63 (.int .i64 (i:Int)) ?_))));refine tq 64 (.int .i64 (IntKind.i64.wrap ((i:Int) + 1))) (.int .i64 ((i:Int) + 1)) (wi (by omega)) ?_
     refine t 14 (.int .i64 ((i:Int) + 1)) ?_
     refine ay ?_
     exact ry (⟨_,fg E 16 ((i:Int) + 1) nn (xs i),upd R ((i:Int) + 1) (R (i:Int) + xs i / nn),_,_,aq36,nq36,cq36,zq36,aq38,nq38,cq38,zq38,aq39,nq39,cq39,zq39,aq45,nq45,cq45,zq45,aq47,nq47,cq47,(i + 1)⟩:ExS) (by show cnt - (i + 1) < cnt - i; omega) ⟨⟨hk_i,by (try dsimp only); omega,by (try dsimp only); omega,by (try dsimp only); omega,by (try dsimp only); omega,by (try dsimp only); omega,by (try dsimp only); omega⟩,BB,A.sx,⟨Xg17,nXg17⟩,⟨Xg26,nXg26⟩,⟨Xg31,nXg31⟩,⟨Qq36,eQq36g17,eQq36g31⟩,⟨Qq38,eQq38g17,eQq38g31⟩,⟨Qq39,eQq39g17,eQq39g31⟩,⟨Qq45,eQq45g17,eQq45g31⟩,Qq20,F2,r0',rl',hsm'⟩ (by kernel_rfl)
   ·refine tq 62 (.bool (decide ((i:Int) < ((cnt:Nat):Int)))) (.bool false) (congrArg Value.bool (decide_eq_false ci)) ?_
    refine ay (ai (eR ?_));refine uw (uD (uD (DE (ai ?_))));clear QT;refine ax (aA (t 6 (.bool true) ?_));refine ay (ai (aZ (bh (.bool true) (rs1 6 (by kernel_rfl) (by kernel_rfl)) ?_)));exact⟨rfl,BB⟩
end Fo
namespace f1Exact
open Go.RowKit Go.Lib Lim Fo
theorem walk (y0:Int) (a1:Option Addr) (len1 cap1:Nat) (z1:List Int) (a2:Option Addr) (len2 cap2:Nat) (w:World) (wy0:(Lit.int .u64 y0).wf=true) (w1:mr w a1 len1 cap1 z1) (w2:mX w a2 len2 cap2) :
  Calls Tryz.prog 4 #[.int .u64 y0,.agg #[.slice a1 len1 cap1],.slice a2 len2 cap2] w fun e w'=>e=.returned (.bool true)/\Below w.heap.size w w':=by
 obtain⟨b,o,aa,ns,cc,xs,DA⟩:=w2.open;obtain⟨x,h,_⟩:=Dl w1;exact o6 (u64r wy0) h DA
end f1Exact
end Go.Proofs.YthfepflplbahkaaGreatDoor
