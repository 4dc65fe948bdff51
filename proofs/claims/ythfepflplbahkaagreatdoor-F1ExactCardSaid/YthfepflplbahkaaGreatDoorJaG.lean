/- Several texts, joined: FoR. -/
import Derived.Test.YthfepflplbahkaaGreatDoorJaF
set_option maxRecDepth 100000
set_option maxHeartbeats 8000000
namespace Go.Proofs.YthfepflplbahkaaGreatDoor
namespace Fo
open Go.RowKit Go.Lib Pg Lim Gl Kv Bk Pw
attribute [local go_sem] Oper.semAt_some
set_option linter.unusedVariables false
set_option linter.unusedSimpArgs false
def kE1:aI:=dE [] 16 0
def kE2:aI:=dE kE1 16 0
def kE3:aI:=fg kE2 16 1 4 (10 * U36)
def kE4:aI:=fg kE3 16 2 4 0
def kE5:aI:=BE kE4 16 2 4 2
def kE6:aI:=fg kE5 16 3 2 (10 * U36)
def kE7:aI:=letE kE6 16 0
def kE8:aI:=nE (nE kE7 7 16) 8 16
theorem kq2:dE kE1 16 0=kE2:=rfl
theorem kq3:fg kE2 16 1 4 (10 * U36)=kE3:=rfl
theorem kq4:fg kE3 16 2 4 0=kE4:=rfl
theorem kq5:BE kE4 16 2 4 2=kE5:=rfl
theorem kq6:fg kE5 16 3 2 (10 * U36)=kE6:=rfl
theorem kq7:letE kE6 16 0=kE7:=rfl
theorem kq8:nE (nE kE7 7 16) 8 16=kE8:=rfl
structure J5 where
 K:Nat->Prop
 n:Nat
 N:Nat
 gd:Nat
 a0:Option Addr
 k0:Nat
 c0:Nat
 z0:Nat
 a1:Option Addr
 k1:Nat
 c1:Nat
 z1:Nat
theorem Ds {w:World}:Calls Tryz.prog 8 #[] w fun e w'=>e=.returned (.bool true)/\Below w.heap.size w w':=by
 have BB:=Below.refl w.heap.size w;refine aT (n:=137) Tryz.func8 rfl (by kernel_rfl) (by kernel_rfl) ?_
 refine ax (aA (t 0 (.bool false) ?_));refine ay (ai (ax (aA ?_)));obtain⟨Bz,hBz⟩:∃ Bz,Bz=(w).heap.size:=⟨_,rfl⟩
 have hwB:w.heap.size<=Bz:=by rw[hBz]; exact BB.size
 refine tc 13 16 #[] (DC Bz hBz) ?_
 rintro _ v1 ⟨g0,K0,rfl,S0,hK0,B0⟩;refine⟨_,rfl,?_⟩;replace BB:=ah BB B0;clear B0
 have A:Al Bz _ K0 g0 [] [] 0 0:=⟨S0⟩
 clear S0 hK0;refine t 1 (pg g0) ?_
 refine ay (ai (ax (ax (aA (t 14 (pg g0) ?_)))));refine t 15 (.bool false) ?_
 refine ay (ai (eR ?_));refine dh (ai (ax (aA (t 16 (pg g0) ?_))));refine tc 17 18 #[.int .u64 4] (eOf (y:=4) ⟨by decide,by decide⟩) ?_
 rintro _ v3 ⟨aq2,nq2,cq2,zq2,rfl,Mq2,hq2,mq2,B⟩;refine⟨_,rfl,?_⟩;have Qq2:=bZ A.sx Mq2 hq2;clear Mq2 hq2;replace BB:=ah BB B;replace A:=A.keep B;clear B;refine t 18 (.agg #[.int .u64 0,.int .u64 4,.slice aq2 nq2 cq2,.bool false,.int .u64 0,.bool false,.int .u64 0,.slice none 0 0,.slice none 0 0,.slice none 0 0]) ?_
 refine tc 19 17 #[pg g0,.int .u64 16,.agg #[.int .u64 0,.int .u64 4,.slice aq2 nq2 cq2,.bool false,.int .u64 0,.bool false,.int .u64 0,.slice none 0 0,.slice none 0 0,.slice none 0 0]] (nY A.sx (id:=16) ⟨by decide,by decide⟩ Qq2.nk (by omega) (dv _ _).nk (by omega) (dv _ _).nk (by omega) (dv _ _).nk (by omega) (by omega) (by omega)) ?_
 rintro _ v10 ⟨aq4,nq4,cq4,zq4,aq5,nq5,cq5,zq5,aq6,nq6,cq6,zq6,K7,n8,N9,rfl,S,qn8,qN9,hK,hC,Qq4,mq4,hq4,Qq5,mq5,hq5,Qq6,mq6,hq6⟩;refine⟨_,rfl,?_⟩;clear hq4 hq5 hq6;replace BB:=dw BB hC (fun b hb=>Nat.le_trans hwB (A.sx.kb b hb));replace Qq2:=Qq2.op hK hC;replace A:Al _ _ _ _ _ _ _ _:=⟨S⟩
 clear S hK hC;refine ta 2 [.int .u64 0,.int .u64 0,.slice none 0 0,.bool false,.int .u64 0,.bool false,.int .u64 0,.slice none 0 0,.slice none 0 0,.slice none 0 0] 39 (pg) ?_
 intro v11 g12 Xg12 hg12 B;have yg12:=Nat.le_trans BB.size hg12;have nXg12:=A.new hg12
 have eQq2g12:Ap _ _ _:=ne1 Qq2.lt hg12
 have eQq4g12:Ap _ _ _:=ne1 Qq4.lt hg12
 have eQq5g12:Ap _ _ _:=ne1 Qq5.lt hg12
 have eQq6g12:Ap _ _ _:=ne1 Qq6.lt hg12;replace BB:=ah BB B;replace A:=A.keep B;replace Qq2:=Qq2.keep B;replace Qq4:=Qq4.keep B;replace Qq5:=Qq5.keep B;replace Qq6:=Qq6.keep B;clear B;refine ts Xg12 0 (.agg #[.int .u64 0,.int .u64 4,.slice aq4 nq4 cq4,.bool false,.int .u64 0,.bool false,.int .u64 1,.slice none 0 0,.slice aq5 nq5 cq5,.slice aq6 nq6 cq6]) [.int .u64 0,.int .u64 4,.slice aq4 nq4 cq4,.bool false,.int .u64 0,.bool false,.int .u64 1,.slice none 0 0,.slice aq5 nq5 cq5,.slice aq6 nq6 cq6] [.int .u64 0,.int .u64 4,.slice aq4 nq4 cq4,.bool false,.int .u64 0,.bool false,.int .u64 1,.slice none 0 0,.slice aq5 nq5 cq5,.slice aq6 nq6 cq6] ?_
 intro v13 Y C;replace BB:=aP BB C yg12;replace A:=A.cell Xg12 C nXg12 (by decide);replace Qq2:=Qq2.cell C eQq2g12;replace Qq4:=Qq4.cell C eQq4g12;replace Qq5:=Qq5.cell C eQq5g12;replace Qq6:=Qq6.cell C eQq6g12;clear C Xg12;have Xg12:=Y;clear Y;refine ay (ai ?_);clear Qq2;refine uG (fun(s:J5)=>[(1,pg g0),(2,pg g12),(3,pg s.gd)]) (fun s w'=>Below w.heap.size w w'/\Sx Bz w' s.K g0 kE2 [] s.n s.N/\(s.n<=60/\s.N<=60)/\(Blk w' g12 [.int .u64 0,.int .u64 4,.slice aq4 nq4 cq4,.bool false,.int .u64 0,.bool false,.int .u64 1,.slice none 0 0,.slice aq5 nq5 cq5,.slice aq6 nq6 cq6] 39/\¬ s.K g12)/\(Blk w' s.gd [.slice s.a0 s.k0 s.c0,.int .u64 0,.slice s.a1 s.k1 s.c1] 54/\¬ s.K s.gd)/\(w.heap.size<=s.gd/\g12≠s.gd/\s.k0<=100/\s.k1<=200)/\(Nq w' s.K zq4 aq4 nq4 cq4 (4 * U36)/\Ap nq4 zq4 s.gd)/\(Nq w' s.K zq5 aq5 nq5 cq5 (0)/\Ap nq5 zq5 s.gd)/\(Nq w' s.K zq6 aq6 nq6 cq6 (0)/\Ap nq6 zq6 s.gd)/\(Nq w' s.K s.z0 s.a0 s.k0 s.c0 (1 * U36)/\Ap s.k0 s.z0 g12/\Ap s.k0 s.z0 s.gd)/\(Nq w' s.K s.z1 s.a1 s.k1 s.c1 U36/\Ap s.k1 s.z1 g12/\Ap s.k1 s.z1 s.gd)) ?_ ?_
 ·replace BB:=BB.drew;replace A:=A.drew;replace Qq4:=Qq4.drew;replace Qq5:=Qq5.drew;replace Qq6:=Qq6.drew;replace Xg12:=Xg12.drew;refine cU (fun w'=>Blk w' g12 [.int .u64 0,.int .u64 4,.slice aq4 nq4 cq4,.bool false,.int .u64 0,.bool false,.int .u64 1,.slice none 0 0,.slice aq5 nq5 cq5,.slice aq6 nq6 cq6] 39) (fun _=>false) Xg12 ?_
  refine z 0 20 (pg g0) ?_
  refine zlr 1 21 [.int .u64 0,.int .u64 4,.slice aq4 nq4 cq4,.bool false,.int .u64 0,.bool false,.int .u64 1,.slice none 0 0,.slice aq5 nq5 cq5,.slice aq6 nq6 cq6] (fun _ h=>h) 0 ?_
  refine cQ [2,5] ?_
  refine ed 2 (some 22) 18 #[.int .u64 1] (eOf (y:=1) ⟨by decide,by decide⟩) ?_ ?_
  ·rintro _ v15 ⟨aq14,nq14,cq14,zq14,rfl,Mq14,hq14,mq14,B⟩
   have eQq14g12:Ap _ _ _:=ne2 hq14 Xg12.lt;have Qq14:=bZ A.sx Mq14 hq14;clear Mq14 hq14;replace BB:=ah BB B;replace A:=A.keep B;replace Qq4:=Qq4.keep B;replace Qq5:=Qq5.keep B;replace Qq6:=Qq6.keep B;replace Xg12:=Xg12.keep B;clear B;refine⟨_,rfl,Xg12,?_⟩;refine zr 3 23 (.agg #[.slice aq14 nq14 cq14,.int .u64 0,.slice none 0 0]) (by intro _ _; kernel_rfl) ?_
   refine cQ [4,5] ?_
   refine ed 4 (some 24) 19 #[pg g0,.int .u64 16,.agg #[.int .u64 0,.int .u64 4,.slice aq4 nq4 cq4,.bool false,.int .u64 0,.bool false,.int .u64 1,.slice none 0 0,.slice aq5 nq5 cq5,.slice aq6 nq6 cq6],.agg #[.slice aq14 nq14 cq14,.int .u64 0,.slice none 0 0]] (HoE.cast (E':=kE2) (p:=0) (xs:=U36) (jA (E:=kE1) A.sx (id:=16) ⟨by decide,by decide⟩ ⟨by decide,by decide⟩ Qq4.nk (by omega) (dv _ _).nk (by omega) Qq5.nk (by omega) Qq6.nk (by omega) Qq14.nk (by omega) (dv _ _).nk (by omega) (by omega) (by omega)) (by decide) kq2 (by decide +kernel)) ?_ ?_
   ·rintro _ v21 ⟨aq16,nq16,cq16,zq16,aq17,nq17,cq17,zq17,K18,n19,N20,rfl,S,qn19,qN20,hK,hC,Qq16,mq16,hq16,Qq17,mq17,hq17⟩
    have eQq16g12:Ap _ _ _:=ne2 hq16 Xg12.lt
    have eQq17g12:Ap _ _ _:=ne2 hq17 Xg12.lt;clear hq16 hq17;replace BB:=dw BB hC (fun b hb=>Nat.le_trans hwB (A.sx.kb b hb));replace Qq4:=Qq4.op hK hC;replace Qq5:=Qq5.op hK hC;replace Qq6:=Qq6.op hK hC;have mXg12:=aU Xg12 nXg12 hK;replace Xg12:=Xg12.chg hC nXg12;replace nXg12:=mXg12;clear mXg12;replace Qq14:=Qq14.op hK hC;replace A:Al _ _ _ _ _ _ _ _:=⟨S⟩
    clear S hK hC;refine⟨_,rfl,Xg12,?_⟩;have lXg12:=Xg12.lt;refine za 5 3 [.slice none 0 0,.int .u64 0,.slice none 0 0] 54 (pg) ?_
    intro v22 g23 Xg23 hg23 B;have yg23:=Nat.le_trans BB.size hg23;have nXg23:=A.new hg23
    have eQq4g23:Ap _ _ _:=ne1 Qq4.lt hg23
    have eQq5g23:Ap _ _ _:=ne1 Qq5.lt hg23
    have eQq6g23:Ap _ _ _:=ne1 Qq6.lt hg23
    have eQq14g23:Ap _ _ _:=ne1 Qq14.lt hg23
    have eQq16g23:Ap _ _ _:=ne1 Qq16.lt hg23
    have eQq17g23:Ap _ _ _:=ne1 Qq17.lt hg23;replace BB:=ah BB B;replace A:=A.keep B;replace Qq4:=Qq4.keep B;replace Qq5:=Qq5.keep B;replace Qq6:=Qq6.keep B;replace Xg12:=Xg12.keep B;replace Qq14:=Qq14.keep B;replace Qq16:=Qq16.keep B;replace Qq17:=Qq17.keep B;clear B;refine⟨Xg12,?_⟩;refine zs 6 Xg23 0 (.agg #[.slice aq16 nq16 cq16,.int .u64 0,.slice aq17 nq17 cq17]) [.slice aq16 nq16 cq16,.int .u64 0,.slice aq17 nq17 cq17] [.slice aq16 nq16 cq16,.int .u64 0,.slice aq17 nq17 cq17] ?_
    intro v24 Y C;replace BB:=aP BB C yg23;replace A:=A.cell Xg23 C nXg23 (by decide);replace Qq4:=Qq4.cell C eQq4g23;replace Qq5:=Qq5.cell C eQq5g23;replace Qq6:=Qq6.cell C eQq6g23;replace Xg12:=Xg12.chg C (show g12≠g23 by omega);replace Qq14:=Qq14.cell C eQq14g23;replace Qq16:=Qq16.cell C eQq16g23;replace Qq17:=Qq17.cell C eQq17g23;clear C Xg23;have Xg23:=Y;clear Y;refine⟨Xg12,?_⟩;refine bM ?_
    exact fo (⟨_,_,_,g23,aq16,nq16,cq16,zq16,aq17,nq17,cq17,zq17⟩:J5) ⟨BB,A.sx,⟨by (try dsimp only); omega,by (try dsimp only); omega⟩,⟨Xg12,nXg12⟩,⟨Xg23,nXg23⟩,⟨yg23,by (try dsimp only); omega,by (try dsimp only); omega,by (try dsimp only); omega⟩,⟨Qq4,eQq4g23⟩,⟨Qq5,eQq5g23⟩,⟨Qq6,eQq6g23⟩,⟨Qq16,eQq16g12,eQq16g23⟩,⟨Qq17,eQq17g12,eQq17g23⟩⟩ (by kernel_rfl)
   have lXg12:=Xg12.lt;refine zaa 5 3 [.slice none 0 0,.int .u64 0,.slice none 0 0] 54 (pg) ?_ ?_
   ·intro v25 g26 Xg26 hg26 B;have yg26:=Nat.le_trans BB.size hg26;have nXg26:=A.new hg26
    have eQq4g26:Ap _ _ _:=ne1 Qq4.lt hg26
    have eQq5g26:Ap _ _ _:=ne1 Qq5.lt hg26
    have eQq6g26:Ap _ _ _:=ne1 Qq6.lt hg26
    have eQq14g26:Ap _ _ _:=ne1 Qq14.lt hg26;replace BB:=ah BB B;replace A:=A.keep B;replace Qq4:=Qq4.keep B;replace Qq5:=Qq5.keep B;replace Qq6:=Qq6.keep B;replace Xg12:=Xg12.keep B;replace Qq14:=Qq14.keep B;clear B;refine⟨Xg12,?_⟩;refine zc 4 24 19 #[pg g0,.int .u64 16,.agg #[.int .u64 0,.int .u64 4,.slice aq4 nq4 cq4,.bool false,.int .u64 0,.bool false,.int .u64 1,.slice none 0 0,.slice aq5 nq5 cq5,.slice aq6 nq6 cq6],.agg #[.slice aq14 nq14 cq14,.int .u64 0,.slice none 0 0]] (HoE.cast (E':=kE2) (p:=0) (xs:=U36) (jA (E:=kE1) A.sx (id:=16) ⟨by decide,by decide⟩ ⟨by decide,by decide⟩ Qq4.nk (by omega) (dv _ _).nk (by omega) Qq5.nk (by omega) Qq6.nk (by omega) Qq14.nk (by omega) (dv _ _).nk (by omega) (by omega) (by omega)) (by decide) kq2 (by decide +kernel)) ?_
    rintro _ v32 ⟨aq27,nq27,cq27,zq27,aq28,nq28,cq28,zq28,K29,n30,N31,rfl,S,qn30,qN31,hK,hC,Qq27,mq27,hq27,Qq28,mq28,hq28⟩
    have eQq27g12:Ap _ _ _:=ne2 hq27 Xg12.lt
    have eQq27g26:Ap _ _ _:=ne2 hq27 Xg26.lt
    have eQq28g12:Ap _ _ _:=ne2 hq28 Xg12.lt
    have eQq28g26:Ap _ _ _:=ne2 hq28 Xg26.lt;clear hq27 hq28;replace BB:=dw BB hC (fun b hb=>Nat.le_trans hwB (A.sx.kb b hb));replace Qq4:=Qq4.op hK hC;replace Qq5:=Qq5.op hK hC;replace Qq6:=Qq6.op hK hC;have mXg12:=aU Xg12 nXg12 hK;replace Xg12:=Xg12.chg hC nXg12;replace nXg12:=mXg12;clear mXg12;replace Qq14:=Qq14.op hK hC;have mXg26:=aU Xg26 nXg26 hK;replace Xg26:=Xg26.chg hC nXg26;replace nXg26:=mXg26;clear mXg26;replace A:Al _ _ _ _ _ _ _ _:=⟨S⟩
    clear S hK hC;refine⟨_,rfl,Xg12,?_⟩;refine zs 6 Xg26 0 (.agg #[.slice aq27 nq27 cq27,.int .u64 0,.slice aq28 nq28 cq28]) [.slice aq27 nq27 cq27,.int .u64 0,.slice aq28 nq28 cq28] [.slice aq27 nq27 cq27,.int .u64 0,.slice aq28 nq28 cq28] ?_
    intro v33 Y C;replace BB:=aP BB C yg26;replace A:=A.cell Xg26 C nXg26 (by decide);replace Qq4:=Qq4.cell C eQq4g26;replace Qq5:=Qq5.cell C eQq5g26;replace Qq6:=Qq6.cell C eQq6g26;replace Xg12:=Xg12.chg C (show g12≠g26 by omega);replace Qq14:=Qq14.cell C eQq14g26;replace Qq27:=Qq27.cell C eQq27g26;replace Qq28:=Qq28.cell C eQq28g26;clear C Xg26;have Xg26:=Y;clear Y;refine⟨Xg12,?_⟩;refine bM ?_
    exact fo (⟨_,_,_,g26,aq27,nq27,cq27,zq27,aq28,nq28,cq28,zq28⟩:J5) ⟨BB,A.sx,⟨by (try dsimp only); omega,by (try dsimp only); omega⟩,⟨Xg12,nXg12⟩,⟨Xg26,nXg26⟩,⟨yg26,by (try dsimp only); omega,by (try dsimp only); omega,by (try dsimp only); omega⟩,⟨Qq4,eQq4g26⟩,⟨Qq5,eQq5g26⟩,⟨Qq6,eQq6g26⟩,⟨Qq27,eQq27g12,eQq27g26⟩,⟨Qq28,eQq28g12,eQq28g26⟩⟩ (by kernel_rfl)
   exact eh
  have lXg12:=Xg12.lt;refine zaa 5 3 [.slice none 0 0,.int .u64 0,.slice none 0 0] 54 (pg) ?_ ?_
  ·intro v34 g35 Xg35 hg35 B;have yg35:=Nat.le_trans BB.size hg35;have nXg35:=A.new hg35
   have eQq4g35:Ap _ _ _:=ne1 Qq4.lt hg35
   have eQq5g35:Ap _ _ _:=ne1 Qq5.lt hg35
   have eQq6g35:Ap _ _ _:=ne1 Qq6.lt hg35;replace BB:=ah BB B;replace A:=A.keep B;replace Qq4:=Qq4.keep B;replace Qq5:=Qq5.keep B;replace Qq6:=Qq6.keep B;replace Xg12:=Xg12.keep B;clear B;refine⟨Xg12,?_⟩;refine zc 2 22 18 #[.int .u64 1] (eOf (y:=1) ⟨by decide,by decide⟩) ?_
   rintro _ v37 ⟨aq36,nq36,cq36,zq36,rfl,Mq36,hq36,mq36,B⟩
   have eQq36g12:Ap _ _ _:=ne2 hq36 Xg12.lt
   have eQq36g35:Ap _ _ _:=ne2 hq36 Xg35.lt;have Qq36:=bZ A.sx Mq36 hq36;clear Mq36 hq36;replace BB:=ah BB B;replace A:=A.keep B;replace Qq4:=Qq4.keep B;replace Qq5:=Qq5.keep B;replace Qq6:=Qq6.keep B;replace Xg12:=Xg12.keep B;replace Xg35:=Xg35.keep B;clear B;refine⟨_,rfl,Xg12,?_⟩;refine zr 3 23 (.agg #[.slice aq36 nq36 cq36,.int .u64 0,.slice none 0 0]) (by intro _ _; kernel_rfl) ?_
   refine zc 4 24 19 #[pg g0,.int .u64 16,.agg #[.int .u64 0,.int .u64 4,.slice aq4 nq4 cq4,.bool false,.int .u64 0,.bool false,.int .u64 1,.slice none 0 0,.slice aq5 nq5 cq5,.slice aq6 nq6 cq6],.agg #[.slice aq36 nq36 cq36,.int .u64 0,.slice none 0 0]] (HoE.cast (E':=kE2) (p:=0) (xs:=U36) (jA (E:=kE1) A.sx (id:=16) ⟨by decide,by decide⟩ ⟨by decide,by decide⟩ Qq4.nk (by omega) (dv _ _).nk (by omega) Qq5.nk (by omega) Qq6.nk (by omega) Qq36.nk (by omega) (dv _ _).nk (by omega) (by omega) (by omega)) (by decide) kq2 (by decide +kernel)) ?_
   rintro _ v43 ⟨aq38,nq38,cq38,zq38,aq39,nq39,cq39,zq39,K40,n41,N42,rfl,S,qn41,qN42,hK,hC,Qq38,mq38,hq38,Qq39,mq39,hq39⟩
   have eQq38g12:Ap _ _ _:=ne2 hq38 Xg12.lt
   have eQq38g35:Ap _ _ _:=ne2 hq38 Xg35.lt
   have eQq39g12:Ap _ _ _:=ne2 hq39 Xg12.lt
   have eQq39g35:Ap _ _ _:=ne2 hq39 Xg35.lt;clear hq38 hq39;replace BB:=dw BB hC (fun b hb=>Nat.le_trans hwB (A.sx.kb b hb));replace Qq4:=Qq4.op hK hC;replace Qq5:=Qq5.op hK hC;replace Qq6:=Qq6.op hK hC;have mXg12:=aU Xg12 nXg12 hK;replace Xg12:=Xg12.chg hC nXg12;replace nXg12:=mXg12;clear mXg12;have mXg35:=aU Xg35 nXg35 hK;replace Xg35:=Xg35.chg hC nXg35;replace nXg35:=mXg35;clear mXg35;replace Qq36:=Qq36.op hK hC;replace A:Al _ _ _ _ _ _ _ _:=⟨S⟩
   clear S hK hC;refine⟨_,rfl,Xg12,?_⟩;refine zs 6 Xg35 0 (.agg #[.slice aq38 nq38 cq38,.int .u64 0,.slice aq39 nq39 cq39]) [.slice aq38 nq38 cq38,.int .u64 0,.slice aq39 nq39 cq39] [.slice aq38 nq38 cq38,.int .u64 0,.slice aq39 nq39 cq39] ?_
   intro v44 Y C;replace BB:=aP BB C yg35;replace A:=A.cell Xg35 C nXg35 (by decide);replace Qq4:=Qq4.cell C eQq4g35;replace Qq5:=Qq5.cell C eQq5g35;replace Qq6:=Qq6.cell C eQq6g35;replace Xg12:=Xg12.chg C (show g12≠g35 by omega);replace Qq36:=Qq36.cell C eQq36g35;replace Qq38:=Qq38.cell C eQq38g35;replace Qq39:=Qq39.cell C eQq39g35;clear C Xg35;have Xg35:=Y;clear Y;refine⟨Xg12,?_⟩;refine bM ?_
   exact fo (⟨_,_,_,g35,aq38,nq38,cq38,zq38,aq39,nq39,cq39,zq39⟩:J5) ⟨BB,A.sx,⟨by (try dsimp only); omega,by (try dsimp only); omega⟩,⟨Xg12,nXg12⟩,⟨Xg35,nXg35⟩,⟨yg35,by (try dsimp only); omega,by (try dsimp only); omega,by (try dsimp only); omega⟩,⟨Qq4,eQq4g35⟩,⟨Qq5,eQq5g35⟩,⟨Qq6,eQq6g35⟩,⟨Qq38,eQq38g12,eQq38g35⟩,⟨Qq39,eQq39g12,eQq39g35⟩⟩ (by kernel_rfl)
  exact eh
 clear BB;clear A;clear Qq4;clear Qq5;clear Qq6;clear Xg12;rintro⟨KJ,nJ,NJ,gd,a0,k0,c0,z0,a1,k1,c1,z1⟩ v45 ⟨BB,SJ,⟨qnJ,qNJ⟩,⟨Xg12,nXg12_⟩,⟨Xgd,nXgd⟩,⟨ygd,dvd,mk0,mk1⟩,⟨Qq4,eQq4gd⟩,⟨Qq5,eQq5gd⟩,⟨Qq6,eQq6gd⟩,⟨Qd0,eQd0g12,eQd0gd⟩,⟨Qd1,eQd1g12,eQd1gd⟩⟩;dsimp only at *;clear nXg12;have nXg12:=nXg12_;clear nXg12_
 have A:Al _ _ _ _ _ _ _ _:=⟨SJ⟩
 clear SJ;refine ax (aA (tc 25 18 #[.int .u64 10] (eOf (y:=10) ⟨by decide,by decide⟩) ?_));rintro _ v47 ⟨aq46,nq46,cq46,zq46,rfl,Mq46,hq46,mq46,B⟩;refine⟨_,rfl,?_⟩
 have eQq46g12:Ap _ _ _:=ne2 hq46 Xg12.lt
 have eQq46gd:Ap _ _ _:=ne2 hq46 Xgd.lt;have Qq46:=bZ A.sx Mq46 hq46;clear Mq46 hq46;replace BB:=ah BB B;replace A:=A.keep B;replace Xg12:=Xg12.keep B;replace Xgd:=Xgd.keep B;replace Qq4:=Qq4.keep B;replace Qq5:=Qq5.keep B;replace Qq6:=Qq6.keep B;replace Qd0:=Qd0.keep B;replace Qd1:=Qd1.keep B;clear B;refine t 26 (pq g12 7) ?_
 refine ts Xg12 7 (.agg #[.slice aq46 nq46 cq46]) [.slice aq46 nq46 cq46] [.int .u64 0,.int .u64 4,.slice aq4 nq4 cq4,.bool false,.int .u64 0,.bool false,.int .u64 1,.slice aq46 nq46 cq46,.slice aq5 nq5 cq5,.slice aq6 nq6 cq6] ?_
 intro v48 Y C;replace BB:=aP BB C yg12;replace A:=A.cell Xg12 C nXg12 (by decide);replace Xgd:=Xgd.chg C (show gd≠g12 by omega);replace Qq4:=Qq4.cell C eQq4g12;replace Qq5:=Qq5.cell C eQq5g12;replace Qq6:=Qq6.cell C eQq6g12;replace Qd0:=Qd0.cell C eQd0g12;replace Qd1:=Qd1.cell C eQd1g12;replace Qq46:=Qq46.cell C eQq46g12;clear C Xg12;have Xg12:=Y;clear Y;refine ay (ai (ax (aA (t 28 (pg g0) ?_))));refine tlr 29 [.int .u64 0,.int .u64 4,.slice aq4 nq4 cq4,.bool false,.int .u64 0,.bool false,.int .u64 1,.slice aq46 nq46 cq46,.slice aq5 nq5 cq5,.slice aq6 nq6 cq6] Xg12 0 ?_
 refine tc 30 22 #[pg g0,.int .u64 16,.agg #[.int .u64 0,.int .u64 4,.slice aq4 nq4 cq4,.bool false,.int .u64 0,.bool false,.int .u64 1,.slice aq46 nq46 cq46,.slice aq5 nq5 cq5,.slice aq6 nq6 cq6]] (ClE.cast (E':=kE3) (pq:=2) (im (E:=kE2) A.sx (id:=16) ⟨by decide,by decide⟩ ⟨by decide,by decide⟩ Qq4.nk (by omega) Qq46.nk (by omega) Qq5.nk (by omega) Qq6.nk (by omega) (by omega) (by omega)) (by decide) kq3) ?_
 rintro _ v56 ⟨aq49,nq49,cq49,zq49,aq50,nq50,cq50,zq50,aq51,nq51,cq51,zq51,aq52,nq52,cq52,zq52,K53,n54,N55,rfl,S,qn54,qN55,hK,hC,Qq49,mq49,hq49,Qq50,mq50,hq50,Qq51,mq51,hq51,Qq52,mq52,hq52⟩;refine⟨_,rfl,?_⟩
 have eQq49g12:Ap _ _ _:=ne2 hq49 Xg12.lt
 have eQq49gd:Ap _ _ _:=ne2 hq49 Xgd.lt
 have eQq50g12:Ap _ _ _:=ne2 hq50 Xg12.lt
 have eQq50gd:Ap _ _ _:=ne2 hq50 Xgd.lt
 have eQq51g12:Ap _ _ _:=ne2 hq51 Xg12.lt
 have eQq51gd:Ap _ _ _:=ne2 hq51 Xgd.lt
 have eQq52g12:Ap _ _ _:=ne2 hq52 Xg12.lt
 have eQq52gd:Ap _ _ _:=ne2 hq52 Xgd.lt;clear hq49 hq50 hq51 hq52;replace BB:=dw BB hC (fun b hb=>Nat.le_trans hwB (A.sx.kb b hb));have mXg12:=aU Xg12 nXg12 hK;replace Xg12:=Xg12.chg hC nXg12;replace nXg12:=mXg12;clear mXg12;have mXgd:=aU Xgd nXgd hK;replace Xgd:=Xgd.chg hC nXgd;replace nXgd:=mXgd;clear mXgd;replace Qq4:=Qq4.op hK hC;replace Qq5:=Qq5.op hK hC;replace Qq6:=Qq6.op hK hC;replace Qd0:=Qd0.op hK hC;replace Qd1:=Qd1.op hK hC;replace Qq46:=Qq46.op hK hC;replace A:Al _ _ _ _ _ _ _ _:=⟨S⟩
 clear S hK hC;refine t 27 (.tuple #[.agg #[.int .u64 0,.int .u64 4,.slice aq49 nq49 cq49,.bool false,.int .u64 0,.bool false,.int .u64 2,.slice none 0 0,.slice aq51 nq51 cq51,.slice aq52 nq52 cq52],.agg #[.slice aq50 nq50 cq50]]) ?_
 refine t 31 (.agg #[.int .u64 0,.int .u64 4,.slice aq49 nq49 cq49,.bool false,.int .u64 0,.bool false,.int .u64 2,.slice none 0 0,.slice aq51 nq51 cq51,.slice aq52 nq52 cq52]) ?_
 refine t 32 (.agg #[.slice aq50 nq50 cq50]) ?_
 have lXg12:=Xg12.lt;have lXgd:=Xgd.lt;refine ta 4 [.slice none 0 0] 32 (pg) ?_
 intro v57 g58 Xg58 hg58 B;have yg58:=Nat.le_trans BB.size hg58;have nXg58:=A.new hg58
 have eQq4g58:Ap _ _ _:=ne1 Qq4.lt hg58
 have eQq5g58:Ap _ _ _:=ne1 Qq5.lt hg58
 have eQq6g58:Ap _ _ _:=ne1 Qq6.lt hg58
 have eQd0g58:Ap _ _ _:=ne1 Qd0.lt hg58
 have eQd1g58:Ap _ _ _:=ne1 Qd1.lt hg58
 have eQq46g58:Ap _ _ _:=ne1 Qq46.lt hg58
 have eQq49g58:Ap _ _ _:=ne1 Qq49.lt hg58
 have eQq50g58:Ap _ _ _:=ne1 Qq50.lt hg58
 have eQq51g58:Ap _ _ _:=ne1 Qq51.lt hg58
 have eQq52g58:Ap _ _ _:=ne1 Qq52.lt hg58;replace BB:=ah BB B;replace A:=A.keep B;replace Xg12:=Xg12.keep B;replace Xgd:=Xgd.keep B;replace Qq4:=Qq4.keep B;replace Qq5:=Qq5.keep B;replace Qq6:=Qq6.keep B;replace Qd0:=Qd0.keep B;replace Qd1:=Qd1.keep B;replace Qq46:=Qq46.keep B;replace Qq49:=Qq49.keep B;replace Qq50:=Qq50.keep B;replace Qq51:=Qq51.keep B;replace Qq52:=Qq52.keep B;clear B;refine ts Xg12 0 (.agg #[.int .u64 0,.int .u64 4,.slice aq49 nq49 cq49,.bool false,.int .u64 0,.bool false,.int .u64 2,.slice none 0 0,.slice aq51 nq51 cq51,.slice aq52 nq52 cq52]) [.int .u64 0,.int .u64 4,.slice aq49 nq49 cq49,.bool false,.int .u64 0,.bool false,.int .u64 2,.slice none 0 0,.slice aq51 nq51 cq51,.slice aq52 nq52 cq52] [.int .u64 0,.int .u64 4,.slice aq49 nq49 cq49,.bool false,.int .u64 0,.bool false,.int .u64 2,.slice none 0 0,.slice aq51 nq51 cq51,.slice aq52 nq52 cq52] ?_
 intro v59 Y C;replace BB:=aP BB C yg12;replace A:=A.cell Xg12 C nXg12 (by decide);replace Xgd:=Xgd.chg C (show gd≠g12 by omega);replace Qq4:=Qq4.cell C eQq4g12;replace Qq5:=Qq5.cell C eQq5g12;replace Qq6:=Qq6.cell C eQq6g12;replace Qd0:=Qd0.cell C eQd0g12;replace Qd1:=Qd1.cell C eQd1g12;replace Qq46:=Qq46.cell C eQq46g12;replace Qq49:=Qq49.cell C eQq49g12;replace Qq50:=Qq50.cell C eQq50g12;replace Qq51:=Qq51.cell C eQq51g12;replace Qq52:=Qq52.cell C eQq52g12;replace Xg58:=Xg58.chg C (show g58≠g12 by omega);clear C Xg12;have Xg12:=Y;clear Y;refine ts Xg58 0 (.agg #[.slice aq50 nq50 cq50]) [.slice aq50 nq50 cq50] [.slice aq50 nq50 cq50] ?_
 intro v60 Y C;replace BB:=aP BB C yg58;replace A:=A.cell Xg58 C nXg58 (by decide);replace Xg12:=Xg12.chg C (show g12≠g58 by omega);replace Xgd:=Xgd.chg C (show gd≠g58 by omega);replace Qq4:=Qq4.cell C eQq4g58;replace Qq5:=Qq5.cell C eQq5g58;replace Qq6:=Qq6.cell C eQq6g58;replace Qd0:=Qd0.cell C eQd0g58;replace Qd1:=Qd1.cell C eQd1g58;replace Qq46:=Qq46.cell C eQq46g58;replace Qq49:=Qq49.cell C eQq49g58;replace Qq50:=Qq50.cell C eQq50g58;replace Qq51:=Qq51.cell C eQq51g58;replace Qq52:=Qq52.cell C eQq52g58;clear C Xg58;have Xg58:=Y;clear Y;refine ay (ai ?_);clear Qq4;clear Qq5;clear Qq6;clear Qq46;refine ax (aA (t 34 (pg g0) ?_));refine tlr 35 [.int .u64 0,.int .u64 4,.slice aq49 nq49 cq49,.bool false,.int .u64 0,.bool false,.int .u64 2,.slice none 0 0,.slice aq51 nq51 cq51,.slice aq52 nq52 cq52] Xg12 0 ?_
 refine tlr 36 [.slice a0 k0 c0,.int .u64 0,.slice a1 k1 c1] Xgd 0 ?_
 refine tc 37 20 #[pg g0,.int .u64 16,.agg #[.int .u64 0,.int .u64 4,.slice aq49 nq49 cq49,.bool false,.int .u64 0,.bool false,.int .u64 2,.slice none 0 0,.slice aq51 nq51 cq51,.slice aq52 nq52 cq52],.agg #[.slice a0 k0 c0,.int .u64 0,.slice a1 k1 c1]] (oU.cast (c':=0) (V':=(25 * 10 ^ 35)) (kG (x0:=0) (z0:=0) (x1:=0) (z1:=0) (x2:=0) (z2:=0) (x3:=0) (z3:=0) (x4:=0) (z4:=0) (E:=kE3) A.sx (id:=16) ⟨by decide,by decide⟩ Qd1 (by omega) (by decide +kernel) (by omega) (by decide +kernel) (by omega) (by omega)) (by decide +kernel) (by decide +kernel)) ?_
 rintro _ v62 ⟨aq61,nq61,cq61,zq61,rfl,S,C,Qq61,mq61,hq61⟩;refine⟨_,rfl,?_⟩
 have eQq61g12:Ap _ _ _:=ne2 hq61 Xg12.lt
 have eQq61gd:Ap _ _ _:=ne2 hq61 Xgd.lt
 have eQq61g58:Ap _ _ _:=ne2 hq61 Xg58.lt;clear hq61;have hC:=C.mono (fun b _ (e:b=g0)=>e▸A.sx.sa.top);replace BB:=dw BB hC (fun b hb=>Nat.le_trans hwB (A.sx.kb b hb));have mXg12:=aU Xg12 nXg12 (fun _ h=>.inl h);replace Xg12:=Xg12.chg hC nXg12;replace nXg12:=mXg12;clear mXg12;have mXgd:=aU Xgd nXgd (fun _ h=>.inl h);replace Xgd:=Xgd.chg hC nXgd;replace nXgd:=mXgd;clear mXgd;replace Qd0:=Qd0.op (fun _ h=>.inl h) hC;replace Qd1:=Qd1.op (fun _ h=>.inl h) hC;replace Qq49:=Qq49.op (fun _ h=>.inl h) hC;replace Qq50:=Qq50.op (fun _ h=>.inl h) hC;replace Qq51:=Qq51.op (fun _ h=>.inl h) hC;replace Qq52:=Qq52.op (fun _ h=>.inl h) hC;have mXg58:=aU Xg58 nXg58 (fun _ h=>.inl h);replace Xg58:=Xg58.chg hC nXg58;replace nXg58:=mXg58;clear mXg58;replace A:Al _ _ _ _ _ _ _ _:=⟨S⟩
 clear S hC C;refine t 33 (.tuple #[.agg #[.slice aq61 nq61 cq61],.int .i64 0]) ?_
 refine t 38 (.agg #[.slice aq61 nq61 cq61]) ?_
 refine t 39 (.int .i64 0) ?_
 have lXg12:=Xg12.lt;have lXgd:=Xgd.lt;have lXg58:=Xg58.lt;refine ta 5 [.slice none 0 0] 32 (pg) ?_
 intro v63 g64 Xg64 hg64 B;have yg64:=Nat.le_trans BB.size hg64;have nXg64:=A.new hg64
 have eQd0g64:Ap _ _ _:=ne1 Qd0.lt hg64
 have eQd1g64:Ap _ _ _:=ne1 Qd1.lt hg64
 have eQq49g64:Ap _ _ _:=ne1 Qq49.lt hg64
 have eQq50g64:Ap _ _ _:=ne1 Qq50.lt hg64
 have eQq51g64:Ap _ _ _:=ne1 Qq51.lt hg64
 have eQq52g64:Ap _ _ _:=ne1 Qq52.lt hg64
 have eQq61g64:Ap _ _ _:=ne1 Qq61.lt hg64;replace BB:=ah BB B;replace A:=A.keep B;replace Xg12:=Xg12.keep B;replace Xgd:=Xgd.keep B;replace Qd0:=Qd0.keep B;replace Qd1:=Qd1.keep B;replace Qq49:=Qq49.keep B;replace Qq50:=Qq50.keep B;replace Qq51:=Qq51.keep B;replace Qq52:=Qq52.keep B;replace Xg58:=Xg58.keep B;replace Qq61:=Qq61.keep B;clear B;refine ts Xg64 0 (.agg #[.slice aq61 nq61 cq61]) [.slice aq61 nq61 cq61] [.slice aq61 nq61 cq61] ?_
 intro v65 Y C;replace BB:=aP BB C yg64;replace A:=A.cell Xg64 C nXg64 (by decide);replace Xg12:=Xg12.chg C (show g12≠g64 by omega);replace Xgd:=Xgd.chg C (show gd≠g64 by omega);replace Qd0:=Qd0.cell C eQd0g64;replace Qd1:=Qd1.cell C eQd1g64;replace Qq49:=Qq49.cell C eQq49g64;replace Qq50:=Qq50.cell C eQq50g64;replace Qq51:=Qq51.cell C eQq51g64;replace Qq52:=Qq52.cell C eQq52g64;replace Xg58:=Xg58.chg C (show g58≠g64 by omega);replace Qq61:=Qq61.cell C eQq61g64;clear C Xg64;have Xg64:=Y;clear Y;refine t 6 (.int .i64 0) ?_
 refine ay (ai (bB [(1,pg g0),(2,pg g12),(3,pg gd),(4,pg g58),(5,pg g64),(6,.int .i64 0)] (by kernel_rfl) ?_));refine ax (ax (aA (t 40 (pq g12 6) ?_)));refine tl 41 (.int .u64 2) Xg12 6 ?_
 refine t 42 (.bool false) ?_
 refine t 43 (.bool false) ?_
 refine t 44 (pq gd 1) ?_
 refine tl 45 (.int .u64 0) Xgd 1 ?_
 refine t 46 (.bool false) ?_
 refine t 47 (.bool false) ?_
 refine t 48 (.bool false) ?_
 refine t 49 (pq gd 2) ?_
 refine tlr 50 [.slice a1 k1 c1] Xgd 2 ?_
 refine tc 51 35 #[.agg #[.slice a1 k1 c1]] (yk Qd1.nat (by omega) (gG (by decide +kernel))) ?_
 rintro _ v67 ⟨St66,rfl,Dt66,hSt66,B⟩;refine⟨_,rfl,?_⟩;obtain rfl:=mI Dt66 [49] [49] (by decide) (by decide +kernel) (by decide) (.inl rfl) (by decide +kernel);clear Dt66 hSt66;replace BB:=ah BB B;replace A:=A.keep B;replace Xg12:=Xg12.keep B;replace Xgd:=Xgd.keep B;replace Qd0:=Qd0.keep B;replace Qd1:=Qd1.keep B;replace Qq49:=Qq49.keep B;replace Qq50:=Qq50.keep B;replace Qq51:=Qq51.keep B;replace Qq52:=Qq52.keep B;replace Xg58:=Xg58.keep B;replace Qq61:=Qq61.keep B;replace Xg64:=Xg64.keep B;clear B;refine t 52 (.bool false) ?_
 refine t 53 (.bool false) ?_
 refine t 54 (.bool false) ?_
 refine tlr 55 [.slice aq50 nq50 cq50] Xg58 0 ?_
 refine tc 56 21 #[.agg #[.slice aq50 nq50 cq50]] (dZ (b:=true) Qq50.nat (by omega) (by decide +kernel)) ?_
 rintro _ v68 ⟨rfl,B⟩;refine⟨_,rfl,?_⟩;replace BB:=ah BB B;replace A:=A.keep B;replace Xg12:=Xg12.keep B;replace Xgd:=Xgd.keep B;replace Qd0:=Qd0.keep B;replace Qd1:=Qd1.keep B;replace Qq49:=Qq49.keep B;replace Qq50:=Qq50.keep B;replace Qq51:=Qq51.keep B;replace Qq52:=Qq52.keep B;replace Xg58:=Xg58.keep B;replace Qq61:=Qq61.keep B;replace Xg64:=Xg64.keep B;clear B;refine t 57 (.bool false) ?_
 refine t 58 (.bool false) ?_
 refine t 59 (.bool false) ?_
 refine tlr 60 [.slice aq61 nq61 cq61] Xg64 0 ?_
 refine tc 61 35 #[.agg #[.slice aq61 nq61 cq61]] (yk Qq61.nat (by omega) (gG (by decide +kernel))) ?_
 rintro _ v70 ⟨St69,rfl,Dt69,hSt69,B⟩;refine⟨_,rfl,?_⟩;obtain rfl:=mI Dt69 [50,46,53] [50] (by decide) (by decide +kernel) (by decide) (.inl rfl) (by decide +kernel);clear Dt69 hSt69;replace BB:=ah BB B;replace A:=A.keep B;replace Xg12:=Xg12.keep B;replace Xgd:=Xgd.keep B;replace Qd0:=Qd0.keep B;replace Qd1:=Qd1.keep B;replace Qq49:=Qq49.keep B;replace Qq50:=Qq50.keep B;replace Qq51:=Qq51.keep B;replace Qq52:=Qq52.keep B;replace Xg58:=Xg58.keep B;replace Qq61:=Qq61.keep B;replace Xg64:=Xg64.keep B;clear B;refine t 62 (.bool false) ?_
 refine t 63 (.bool false) ?_
 refine t 64 (.bool false) ?_
 refine t 65 (.int .i64 0) ?_
 refine t 66 (.bool false) ?_
 refine t 67 (.bool false) ?_
 refine ay (ai ?_);clear Xg58;clear Xg64;clear Qq50;clear Qq61;refine bB [(1,pg g0),(2,pg g12),(3,pg gd),(67,.bool false)] (by kernel_rfl) ?_
 refine eR ?_
 refine dh (ai (ax (aA (t 69 (pg g0) ?_))));refine tlr 70 [.int .u64 0,.int .u64 4,.slice aq49 nq49 cq49,.bool false,.int .u64 0,.bool false,.int .u64 2,.slice none 0 0,.slice aq51 nq51 cq51,.slice aq52 nq52 cq52] Xg12 0 ?_
 refine tc 71 22 #[pg g0,.int .u64 16,.agg #[.int .u64 0,.int .u64 4,.slice aq49 nq49 cq49,.bool false,.int .u64 0,.bool false,.int .u64 2,.slice none 0 0,.slice aq51 nq51 cq51,.slice aq52 nq52 cq52]] (ClE.cast (E':=kE4) (pq:=3) (im (E:=kE3) A.sx (id:=16) ⟨by decide,by decide⟩ ⟨by decide,by decide⟩ Qq49.nk (by omega) (dv _ _).nk (by omega) Qq51.nk (by omega) Qq52.nk (by omega) (by omega) (by omega)) (by decide) kq4) ?_
 rintro _ v78 ⟨aq71,nq71,cq71,zq71,aq72,nq72,cq72,zq72,aq73,nq73,cq73,zq73,aq74,nq74,cq74,zq74,K75,n76,N77,rfl,S,qn76,qN77,hK,hC,Qq71,mq71,hq71,Qq72,mq72,hq72,Qq73,mq73,hq73,Qq74,mq74,hq74⟩;refine⟨_,rfl,?_⟩
 have eQq71g12:Ap _ _ _:=ne2 hq71 Xg12.lt
 have eQq71gd:Ap _ _ _:=ne2 hq71 Xgd.lt
 have eQq72g12:Ap _ _ _:=ne2 hq72 Xg12.lt
 have eQq72gd:Ap _ _ _:=ne2 hq72 Xgd.lt
 have eQq73g12:Ap _ _ _:=ne2 hq73 Xg12.lt
 have eQq73gd:Ap _ _ _:=ne2 hq73 Xgd.lt
 have eQq74g12:Ap _ _ _:=ne2 hq74 Xg12.lt
 have eQq74gd:Ap _ _ _:=ne2 hq74 Xgd.lt;clear hq71 hq72 hq73 hq74;replace BB:=dw BB hC (fun b hb=>Nat.le_trans hwB (A.sx.kb b hb));have mXg12:=aU Xg12 nXg12 hK;replace Xg12:=Xg12.chg hC nXg12;replace nXg12:=mXg12;clear mXg12;have mXgd:=aU Xgd nXgd hK;replace Xgd:=Xgd.chg hC nXgd;replace nXgd:=mXgd;clear mXgd;replace Qd0:=Qd0.op hK hC;replace Qd1:=Qd1.op hK hC;replace Qq49:=Qq49.op hK hC;replace Qq51:=Qq51.op hK hC;replace Qq52:=Qq52.op hK hC;replace A:Al _ _ _ _ _ _ _ _:=⟨S⟩
 clear S hK hC;refine t 68 (.tuple #[.agg #[.int .u64 0,.int .u64 4,.slice aq71 nq71 cq71,.bool false,.int .u64 0,.bool false,.int .u64 3,.slice none 0 0,.slice aq73 nq73 cq73,.slice aq74 nq74 cq74],.agg #[.slice aq72 nq72 cq72]]) ?_
 refine t 72 (.agg #[.int .u64 0,.int .u64 4,.slice aq71 nq71 cq71,.bool false,.int .u64 0,.bool false,.int .u64 3,.slice none 0 0,.slice aq73 nq73 cq73,.slice aq74 nq74 cq74]) ?_
 refine t 73 (.agg #[.slice aq72 nq72 cq72]) ?_
 refine ts Xg12 0 (.agg #[.int .u64 0,.int .u64 4,.slice aq71 nq71 cq71,.bool false,.int .u64 0,.bool false,.int .u64 3,.slice none 0 0,.slice aq73 nq73 cq73,.slice aq74 nq74 cq74]) [.int .u64 0,.int .u64 4,.slice aq71 nq71 cq71,.bool false,.int .u64 0,.bool false,.int .u64 3,.slice none 0 0,.slice aq73 nq73 cq73,.slice aq74 nq74 cq74] [.int .u64 0,.int .u64 4,.slice aq71 nq71 cq71,.bool false,.int .u64 0,.bool false,.int .u64 3,.slice none 0 0,.slice aq73 nq73 cq73,.slice aq74 nq74 cq74] ?_
 intro v79 Y C;replace BB:=aP BB C yg12;replace A:=A.cell Xg12 C nXg12 (by decide);replace Xgd:=Xgd.chg C (show gd≠g12 by omega);replace Qd0:=Qd0.cell C eQd0g12;replace Qd1:=Qd1.cell C eQd1g12;replace Qq49:=Qq49.cell C eQq49g12;replace Qq51:=Qq51.cell C eQq51g12;replace Qq52:=Qq52.cell C eQq52g12;replace Qq71:=Qq71.cell C eQq71g12;replace Qq72:=Qq72.cell C eQq72g12;replace Qq73:=Qq73.cell C eQq73g12;replace Qq74:=Qq74.cell C eQq74g12;clear C Xg12;have Xg12:=Y;clear Y;refine ay (ai ?_);clear Qq49;clear Qq51;clear Qq52;clear Qq72;refine ax (aA (t 74 (pg g0) ?_));refine tlr 75 [.int .u64 0,.int .u64 4,.slice aq71 nq71 cq71,.bool false,.int .u64 0,.bool false,.int .u64 3,.slice none 0 0,.slice aq73 nq73 cq73,.slice aq74 nq74 cq74] Xg12 0 ?_
 refine tc 76 34 #[pg g0,.int .u64 16,.agg #[.int .u64 0,.int .u64 4,.slice aq71 nq71 cq71,.bool false,.int .u64 0,.bool false,.int .u64 3,.slice none 0 0,.slice aq73 nq73 cq73,.slice aq74 nq74 cq74],.int .u64 2] (CuE.cast (E':=kE5) (p:=2) (Cp (E:=kE4) (af:=2) A.sx (id:=16) ⟨by decide,by decide⟩ Qq71.nk (by omega) (dv _ _).nk (by omega) Qq73.nk (by omega) Qq74.nk (by omega) (by omega) (by omega)) (by decide) kq5) ?_
 rintro _ v87 ⟨aq80,nq80,cq80,zq80,aq81,nq81,cq81,zq81,aq82,nq82,cq82,zq82,aq83,nq83,cq83,zq83,K84,n85,N86,rfl,S,qn85,qN86,hK,hC,Qq80,mq80,hq80,Qq81,mq81,hq81,Qq82,mq82,hq82,Qq83,mq83,hq83⟩;refine⟨_,rfl,?_⟩
 have eQq80g12:Ap _ _ _:=ne2 hq80 Xg12.lt
 have eQq80gd:Ap _ _ _:=ne2 hq80 Xgd.lt
 have eQq81g12:Ap _ _ _:=ne2 hq81 Xg12.lt
 have eQq81gd:Ap _ _ _:=ne2 hq81 Xgd.lt
 have eQq82g12:Ap _ _ _:=ne2 hq82 Xg12.lt
 have eQq82gd:Ap _ _ _:=ne2 hq82 Xgd.lt
 have eQq83g12:Ap _ _ _:=ne2 hq83 Xg12.lt
 have eQq83gd:Ap _ _ _:=ne2 hq83 Xgd.lt;clear hq80 hq81 hq82 hq83;replace BB:=dw BB hC (fun b hb=>Nat.le_trans hwB (A.sx.kb b hb));have mXg12:=aU Xg12 nXg12 hK;replace Xg12:=Xg12.chg hC nXg12;replace nXg12:=mXg12;clear mXg12;have mXgd:=aU Xgd nXgd hK;replace Xgd:=Xgd.chg hC nXgd;replace nXgd:=mXgd;clear mXgd;replace Qd0:=Qd0.op hK hC;replace Qd1:=Qd1.op hK hC;replace Qq71:=Qq71.op hK hC;replace Qq73:=Qq73.op hK hC;replace Qq74:=Qq74.op hK hC;replace A:Al _ _ _ _ _ _ _ _:=⟨S⟩
 clear S hK hC;refine ts Xg12 0 (.agg #[.int .u64 0,.int .u64 2,.slice aq80 nq80 cq80,.bool false,.int .u64 0,.bool false,.int .u64 3,.slice aq81 nq81 cq81,.slice aq82 nq82 cq82,.slice aq83 nq83 cq83]) [.int .u64 0,.int .u64 2,.slice aq80 nq80 cq80,.bool false,.int .u64 0,.bool false,.int .u64 3,.slice aq81 nq81 cq81,.slice aq82 nq82 cq82,.slice aq83 nq83 cq83] [.int .u64 0,.int .u64 2,.slice aq80 nq80 cq80,.bool false,.int .u64 0,.bool false,.int .u64 3,.slice aq81 nq81 cq81,.slice aq82 nq82 cq82,.slice aq83 nq83 cq83] ?_
 intro v88 Y C;replace BB:=aP BB C yg12;replace A:=A.cell Xg12 C nXg12 (by decide);replace Xgd:=Xgd.chg C (show gd≠g12 by omega);replace Qd0:=Qd0.cell C eQd0g12;replace Qd1:=Qd1.cell C eQd1g12;replace Qq71:=Qq71.cell C eQq71g12;replace Qq73:=Qq73.cell C eQq73g12;replace Qq74:=Qq74.cell C eQq74g12;replace Qq80:=Qq80.cell C eQq80g12;replace Qq81:=Qq81.cell C eQq81g12;replace Qq82:=Qq82.cell C eQq82g12;replace Qq83:=Qq83.cell C eQq83g12;clear C Xg12;have Xg12:=Y;clear Y;refine ay (ai ?_);clear Qq71;clear Qq73;clear Qq74;refine ax (aA (tc 77 18 #[.int .u64 10] (eOf (y:=10) ⟨by decide,by decide⟩) ?_));rintro _ v90 ⟨aq89,nq89,cq89,zq89,rfl,Mq89,hq89,mq89,B⟩;refine⟨_,rfl,?_⟩
 have eQq89g12:Ap _ _ _:=ne2 hq89 Xg12.lt
 have eQq89gd:Ap _ _ _:=ne2 hq89 Xgd.lt;have Qq89:=bZ A.sx Mq89 hq89;clear Mq89 hq89;replace BB:=ah BB B;replace A:=A.keep B;replace Xg12:=Xg12.keep B;replace Xgd:=Xgd.keep B;replace Qd0:=Qd0.keep B;replace Qd1:=Qd1.keep B;replace Qq80:=Qq80.keep B;replace Qq81:=Qq81.keep B;replace Qq82:=Qq82.keep B;replace Qq83:=Qq83.keep B;clear B;refine t 78 (pq g12 7) ?_
 refine ts Xg12 7 (.agg #[.slice aq89 nq89 cq89]) [.slice aq89 nq89 cq89] [.int .u64 0,.int .u64 2,.slice aq80 nq80 cq80,.bool false,.int .u64 0,.bool false,.int .u64 3,.slice aq89 nq89 cq89,.slice aq82 nq82 cq82,.slice aq83 nq83 cq83] ?_
 intro v91 Y C;replace BB:=aP BB C yg12;replace A:=A.cell Xg12 C nXg12 (by decide);replace Xgd:=Xgd.chg C (show gd≠g12 by omega);replace Qd0:=Qd0.cell C eQd0g12;replace Qd1:=Qd1.cell C eQd1g12;replace Qq80:=Qq80.cell C eQq80g12;replace Qq81:=Qq81.cell C eQq81g12;replace Qq82:=Qq82.cell C eQq82g12;replace Qq83:=Qq83.cell C eQq83g12;replace Qq89:=Qq89.cell C eQq89g12;clear C Xg12;have Xg12:=Y;clear Y;refine ay (ai ?_);clear Qq81;refine ax (aA (t 80 (pg g0) ?_));refine tlr 81 [.int .u64 0,.int .u64 2,.slice aq80 nq80 cq80,.bool false,.int .u64 0,.bool false,.int .u64 3,.slice aq89 nq89 cq89,.slice aq82 nq82 cq82,.slice aq83 nq83 cq83] Xg12 0 ?_
 refine tc 82 22 #[pg g0,.int .u64 16,.agg #[.int .u64 0,.int .u64 2,.slice aq80 nq80 cq80,.bool false,.int .u64 0,.bool false,.int .u64 3,.slice aq89 nq89 cq89,.slice aq82 nq82 cq82,.slice aq83 nq83 cq83]] (ClE.cast (E':=kE6) (pq:=4) (im (E:=kE5) A.sx (id:=16) ⟨by decide,by decide⟩ ⟨by decide,by decide⟩ Qq80.nk (by omega) Qq89.nk (by omega) Qq82.nk (by omega) Qq83.nk (by omega) (by omega) (by omega)) (by decide) kq6) ?_
 rintro _ v99 ⟨aq92,nq92,cq92,zq92,aq93,nq93,cq93,zq93,aq94,nq94,cq94,zq94,aq95,nq95,cq95,zq95,K96,n97,N98,rfl,S,qn97,qN98,hK,hC,Qq92,mq92,hq92,Qq93,mq93,hq93,Qq94,mq94,hq94,Qq95,mq95,hq95⟩;refine⟨_,rfl,?_⟩
 have eQq92g12:Ap _ _ _:=ne2 hq92 Xg12.lt
 have eQq92gd:Ap _ _ _:=ne2 hq92 Xgd.lt
 have eQq93g12:Ap _ _ _:=ne2 hq93 Xg12.lt
 have eQq93gd:Ap _ _ _:=ne2 hq93 Xgd.lt
 have eQq94g12:Ap _ _ _:=ne2 hq94 Xg12.lt
 have eQq94gd:Ap _ _ _:=ne2 hq94 Xgd.lt
 have eQq95g12:Ap _ _ _:=ne2 hq95 Xg12.lt
 have eQq95gd:Ap _ _ _:=ne2 hq95 Xgd.lt;clear hq92 hq93 hq94 hq95;replace BB:=dw BB hC (fun b hb=>Nat.le_trans hwB (A.sx.kb b hb));have mXg12:=aU Xg12 nXg12 hK;replace Xg12:=Xg12.chg hC nXg12;replace nXg12:=mXg12;clear mXg12;have mXgd:=aU Xgd nXgd hK;replace Xgd:=Xgd.chg hC nXgd;replace nXgd:=mXgd;clear mXgd;replace Qd0:=Qd0.op hK hC;replace Qd1:=Qd1.op hK hC;replace Qq80:=Qq80.op hK hC;replace Qq82:=Qq82.op hK hC;replace Qq83:=Qq83.op hK hC;replace Qq89:=Qq89.op hK hC;replace A:Al _ _ _ _ _ _ _ _:=⟨S⟩
 clear S hK hC;refine t 79 (.tuple #[.agg #[.int .u64 0,.int .u64 2,.slice aq92 nq92 cq92,.bool false,.int .u64 0,.bool false,.int .u64 4,.slice none 0 0,.slice aq94 nq94 cq94,.slice aq95 nq95 cq95],.agg #[.slice aq93 nq93 cq93]]) ?_
 refine t 83 (.agg #[.int .u64 0,.int .u64 2,.slice aq92 nq92 cq92,.bool false,.int .u64 0,.bool false,.int .u64 4,.slice none 0 0,.slice aq94 nq94 cq94,.slice aq95 nq95 cq95]) ?_
 refine t 84 (.agg #[.slice aq93 nq93 cq93]) ?_
 refine ts Xg12 0 (.agg #[.int .u64 0,.int .u64 2,.slice aq92 nq92 cq92,.bool false,.int .u64 0,.bool false,.int .u64 4,.slice none 0 0,.slice aq94 nq94 cq94,.slice aq95 nq95 cq95]) [.int .u64 0,.int .u64 2,.slice aq92 nq92 cq92,.bool false,.int .u64 0,.bool false,.int .u64 4,.slice none 0 0,.slice aq94 nq94 cq94,.slice aq95 nq95 cq95] [.int .u64 0,.int .u64 2,.slice aq92 nq92 cq92,.bool false,.int .u64 0,.bool false,.int .u64 4,.slice none 0 0,.slice aq94 nq94 cq94,.slice aq95 nq95 cq95] ?_
 intro v100 Y C;replace BB:=aP BB C yg12;replace A:=A.cell Xg12 C nXg12 (by decide);replace Xgd:=Xgd.chg C (show gd≠g12 by omega);replace Qd0:=Qd0.cell C eQd0g12;replace Qd1:=Qd1.cell C eQd1g12;replace Qq80:=Qq80.cell C eQq80g12;replace Qq82:=Qq82.cell C eQq82g12;replace Qq83:=Qq83.cell C eQq83g12;replace Qq89:=Qq89.cell C eQq89g12;replace Qq92:=Qq92.cell C eQq92g12;replace Qq93:=Qq93.cell C eQq93g12;replace Qq94:=Qq94.cell C eQq94g12;replace Qq95:=Qq95.cell C eQq95g12;clear C Xg12;have Xg12:=Y;clear Y;refine ay (ai ?_);clear Qq80;clear Qq82;clear Qq83;clear Qq89;clear Qq93;refine bB [(1,pg g0),(2,pg g12),(3,pg gd)] (by kernel_rfl) ?_
 refine ax (aA (t 86 (pg g0) ?_));refine tlr 87 [.int .u64 0,.int .u64 2,.slice aq92 nq92 cq92,.bool false,.int .u64 0,.bool false,.int .u64 4,.slice none 0 0,.slice aq94 nq94 cq94,.slice aq95 nq95 cq95] Xg12 0 ?_
 refine tlr 88 [.slice a0 k0 c0,.int .u64 0,.slice a1 k1 c1] Xgd 0 ?_
 refine tc 89 20 #[pg g0,.int .u64 16,.agg #[.int .u64 0,.int .u64 2,.slice aq92 nq92 cq92,.bool false,.int .u64 0,.bool false,.int .u64 4,.slice none 0 0,.slice aq94 nq94 cq94,.slice aq95 nq95 cq95],.agg #[.slice a0 k0 c0,.int .u64 0,.slice a1 k1 c1]] (oU.cast (c':=1) (V':=(5 * 10 ^ 36)) (kG (x0:=0) (z0:=0) (x1:=0) (z1:=0) (x2:=0) (z2:=0) (x3:=0) (z3:=0) (x4:=0) (z4:=0) (E:=kE6) A.sx (id:=16) ⟨by decide,by decide⟩ Qd1 (by omega) (by decide +kernel) (by omega) (by decide +kernel) (by omega) (by omega)) (by decide +kernel) (by decide +kernel)) ?_
 rintro _ v102 ⟨aq101,nq101,cq101,zq101,rfl,S,C,Qq101,mq101,hq101⟩;refine⟨_,rfl,?_⟩
 have eQq101g12:Ap _ _ _:=ne2 hq101 Xg12.lt
 have eQq101gd:Ap _ _ _:=ne2 hq101 Xgd.lt;clear hq101;have hC:=C.mono (fun b _ (e:b=g0)=>e▸A.sx.sa.top);replace BB:=dw BB hC (fun b hb=>Nat.le_trans hwB (A.sx.kb b hb));have mXg12:=aU Xg12 nXg12 (fun _ h=>.inl h);replace Xg12:=Xg12.chg hC nXg12;replace nXg12:=mXg12;clear mXg12;have mXgd:=aU Xgd nXgd (fun _ h=>.inl h);replace Xgd:=Xgd.chg hC nXgd;replace nXgd:=mXgd;clear mXgd;replace Qd0:=Qd0.op (fun _ h=>.inl h) hC;replace Qd1:=Qd1.op (fun _ h=>.inl h) hC;replace Qq92:=Qq92.op (fun _ h=>.inl h) hC;replace Qq94:=Qq94.op (fun _ h=>.inl h) hC;replace Qq95:=Qq95.op (fun _ h=>.inl h) hC;replace A:Al _ _ _ _ _ _ _ _:=⟨S⟩
 clear S hC C;refine t 85 (.tuple #[.agg #[.slice aq101 nq101 cq101],.int .i64 1]) ?_
 refine t 90 (.agg #[.slice aq101 nq101 cq101]) ?_
 refine t 91 (.int .i64 1) ?_
 have lXg12:=Xg12.lt;have lXgd:=Xgd.lt;refine ta 7 [.slice none 0 0] 32 (pg) ?_
 intro v103 g104 Xg104 hg104 B;have yg104:=Nat.le_trans BB.size hg104;have nXg104:=A.new hg104
 have eQd0g104:Ap _ _ _:=ne1 Qd0.lt hg104
 have eQd1g104:Ap _ _ _:=ne1 Qd1.lt hg104
 have eQq92g104:Ap _ _ _:=ne1 Qq92.lt hg104
 have eQq94g104:Ap _ _ _:=ne1 Qq94.lt hg104
 have eQq95g104:Ap _ _ _:=ne1 Qq95.lt hg104
 have eQq101g104:Ap _ _ _:=ne1 Qq101.lt hg104;replace BB:=ah BB B;replace A:=A.keep B;replace Xg12:=Xg12.keep B;replace Xgd:=Xgd.keep B;replace Qd0:=Qd0.keep B;replace Qd1:=Qd1.keep B;replace Qq92:=Qq92.keep B;replace Qq94:=Qq94.keep B;replace Qq95:=Qq95.keep B;replace Qq101:=Qq101.keep B;clear B;refine ts Xg104 0 (.agg #[.slice aq101 nq101 cq101]) [.slice aq101 nq101 cq101] [.slice aq101 nq101 cq101] ?_
 intro v105 Y C;replace BB:=aP BB C yg104;replace A:=A.cell Xg104 C nXg104 (by decide);replace Xg12:=Xg12.chg C (show g12≠g104 by omega);replace Xgd:=Xgd.chg C (show gd≠g104 by omega);replace Qd0:=Qd0.cell C eQd0g104;replace Qd1:=Qd1.cell C eQd1g104;replace Qq92:=Qq92.cell C eQq92g104;replace Qq94:=Qq94.cell C eQq94g104;replace Qq95:=Qq95.cell C eQq95g104;replace Qq101:=Qq101.cell C eQq101g104;clear C Xg104;have Xg104:=Y;clear Y;refine t 8 (.int .i64 1) ?_
 refine ay (ai (ax (aA (t 93 (pg g0) ?_))));refine tc 94 12 #[pg g0,.int .u64 16] (uN (E:=kE6) (a:=3) (b:=1) A.sx (id:=16) ⟨by decide,by decide⟩ (by omega) (by omega) (by decide +kernel) (by decide +kernel)) ?_
 rintro _ v108 ⟨K106,n107,rfl,S,qn107,hK,hC⟩;refine⟨_,rfl,?_⟩;replace BB:=dw BB hC (fun b hb=>Nat.le_trans hwB (A.sx.kb b hb));have mXg12:=aU Xg12 nXg12 hK;replace Xg12:=Xg12.chg hC nXg12;replace nXg12:=mXg12;clear mXg12;have mXgd:=aU Xgd nXgd hK;replace Xgd:=Xgd.chg hC nXgd;replace nXgd:=mXgd;clear mXgd;replace Qd0:=Qd0.op hK hC;replace Qd1:=Qd1.op hK hC;replace Qq92:=Qq92.op hK hC;replace Qq94:=Qq94.op hK hC;replace Qq95:=Qq95.op hK hC;replace Qq101:=Qq101.op hK hC;have mXg104:=aU Xg104 nXg104 hK;replace Xg104:=Xg104.chg hC nXg104;replace nXg104:=mXg104;clear mXg104;replace A:Al _ _ _ _ _ _ _ _:=⟨S⟩
 clear S hK hC;refine t 92 (.tuple #[.int .i64 3,.int .i64 1]) ?_
 refine t 95 (.int .i64 3) ?_
 refine t 96 (.int .i64 1) ?_
 refine t 9 (.int .i64 3) ?_
 refine t 10 (.int .i64 1) ?_
 refine ay (ai (bB [(1,pg g0),(2,pg g12),(3,pg gd),(7,pg g104),(8,.int .i64 1),(9,.int .i64 3),(10,.int .i64 1)] (by kernel_rfl) ?_));refine ax (aA (t 97 (pg g0) ?_));refine tlr 98 [.slice a0 k0 c0,.int .u64 0,.slice a1 k1 c1] Xgd 0 ?_
 refine tc 99 33 #[pg g0,.int .u64 16,.agg #[.slice a0 k0 c0,.int .u64 0,.slice a1 k1 c1]] (SxF.castE (E':=kE7) (Av (E:=kE6) A.sx (id:=16) ⟨by decide,by decide⟩ Qd0.nk (by omega) Qd1.nk (by omega) (by omega) (by omega)) kq7) ?_
 rintro _ v112 ⟨rfl,K109,n110,N111,S,qn110,qN111,hK,hC⟩;refine⟨_,rfl,?_⟩;replace BB:=dw BB hC (fun b hb=>Nat.le_trans hwB (A.sx.kb b hb));have mXg12:=aU Xg12 nXg12 hK;replace Xg12:=Xg12.chg hC nXg12;replace nXg12:=mXg12;clear mXg12;have mXgd:=aU Xgd nXgd hK;replace Xgd:=Xgd.chg hC nXgd;replace nXgd:=mXgd;clear mXgd;replace Qd0:=Qd0.op hK hC;replace Qd1:=Qd1.op hK hC;replace Qq92:=Qq92.op hK hC;replace Qq94:=Qq94.op hK hC;replace Qq95:=Qq95.op hK hC;replace Qq101:=Qq101.op hK hC;have mXg104:=aU Xg104 nXg104 hK;replace Xg104:=Xg104.chg hC nXg104;replace nXg104:=mXg104;clear mXg104;replace A:Al _ _ _ _ _ _ _ _:=⟨S⟩
 clear S hK hC;refine ay (ai ?_);clear Xgd;clear Qd0;clear Qd1;refine ax (aA (t 101 (pg g0) ?_));refine tc 102 12 #[pg g0,.int .u64 16] (uN (E:=kE7) (a:=2) (b:=1) A.sx (id:=16) ⟨by decide,by decide⟩ (by omega) (by omega) (by decide +kernel) (by decide +kernel)) ?_
 rintro _ v115 ⟨K113,n114,rfl,S,qn114,hK,hC⟩;refine⟨_,rfl,?_⟩;replace BB:=dw BB hC (fun b hb=>Nat.le_trans hwB (A.sx.kb b hb));have mXg12:=aU Xg12 nXg12 hK;replace Xg12:=Xg12.chg hC nXg12;replace nXg12:=mXg12;clear mXg12;replace Qq92:=Qq92.op hK hC;replace Qq94:=Qq94.op hK hC;replace Qq95:=Qq95.op hK hC;replace Qq101:=Qq101.op hK hC;have mXg104:=aU Xg104 nXg104 hK;replace Xg104:=Xg104.chg hC nXg104;replace nXg104:=mXg104;clear mXg104;replace A:Al _ _ _ _ _ _ _ _:=⟨S⟩
 clear S hK hC;refine t 100 (.tuple #[.int .i64 2,.int .i64 1]) ?_
 refine t 103 (.int .i64 2) ?_
 refine t 104 (.int .i64 1) ?_
 refine t 11 (.int .i64 2) ?_
 refine t 12 (.int .i64 1) ?_
 refine ay (ai (ax (aA (t 105 (pg g0) ?_))));refine tc 106 14 #[pg g0,.int .u64 16] (gone_v (E':=kE8) (E:=kE7) A.sx (id:=16) ⟨by decide,by decide⟩ (by omega) (by omega) kq8) ?_
 rintro _ v122 ⟨K116,n117,N118,rfl,S,qn117,qN118,hK,hC⟩;refine⟨_,rfl,?_⟩;replace BB:=dw BB hC (fun b hb=>Nat.le_trans hwB (A.sx.kb b hb));have mXg12:=aU Xg12 nXg12 hK;replace Xg12:=Xg12.chg hC nXg12;replace nXg12:=mXg12;clear mXg12;replace Qq92:=Qq92.op hK hC;replace Qq94:=Qq94.op hK hC;replace Qq95:=Qq95.op hK hC;replace Qq101:=Qq101.op hK hC;have mXg104:=aU Xg104 nXg104 hK;replace Xg104:=Xg104.chg hC nXg104;replace nXg104:=mXg104;clear mXg104;replace A:Al _ _ _ _ _ _ _ _:=⟨S⟩
 clear S hK hC;refine ay (ai (bB [(1,pg g0),(2,pg g12),(7,pg g104),(8,.int .i64 1),(9,.int .i64 3),(10,.int .i64 1),(11,.int .i64 2)] (by kernel_rfl) ?_));refine ax (aA (t 107 (pq g12 1) ?_));refine tl 108 (.int .u64 2) Xg12 1 ?_
 refine t 109 (.bool true) ?_
 refine t 110 (.bool true) ?_
 refine tlr 111 [.slice aq101 nq101 cq101] Xg104 0 ?_
 refine tc 112 35 #[.agg #[.slice aq101 nq101 cq101]] (yk Qq101.nat (by omega) (gG (by decide +kernel))) ?_
 rintro _ v124 ⟨St123,rfl,Dt123,hSt123,B⟩;refine⟨_,rfl,?_⟩;obtain rfl:=mI Dt123 [53] [53] (by decide) (by decide +kernel) (by decide) (.inl rfl) (by decide +kernel);clear Dt123 hSt123;replace BB:=ah BB B;replace A:=A.keep B;replace Xg12:=Xg12.keep B;replace Qq92:=Qq92.keep B;replace Qq94:=Qq94.keep B;replace Qq95:=Qq95.keep B;replace Qq101:=Qq101.keep B;replace Xg104:=Xg104.keep B;clear B;refine t 113 (.bool true) ?_
 refine t 114 (.bool true) ?_
 refine t 115 (.bool true) ?_
 refine t 116 (.int .i64 1) ?_
 refine t 117 (.bool true) ?_
 refine t 118 (.bool true) ?_
 refine t 119 (.bool true) ?_
 refine t 120 (.int .i64 3) ?_
 refine t 121 (.bool true) ?_
 refine t 122 (.bool true) ?_
 refine t 123 (.bool true) ?_
 refine t 124 (.int .i64 1) ?_
 refine t 125 (.bool true) ?_
 refine t 126 (.bool true) ?_
 refine t 127 (.bool true) ?_
 refine t 128 (.int .i64 2) ?_
 refine t 129 (.bool true) ?_
 refine t 130 (.bool true) ?_
 refine t 131 (.bool true) ?_
 refine t 132 (pg g0) ?_
 refine tc 133 15 #[pg g0] (dumpF (E:=kE8) (m:=0) A.sx (by omega) (by decide +kernel)) ?_
 rintro _ v125 ⟨da,dc,rfl,B⟩;refine⟨_,rfl,?_⟩;replace BB:=ah BB B;replace A:=A.keep B;replace Xg12:=Xg12.keep B;replace Qq92:=Qq92.keep B;replace Qq94:=Qq94.keep B;replace Qq95:=Qq95.keep B;replace Qq101:=Qq101.keep B;replace Xg104:=Xg104.keep B;clear B;refine t 134 (.int .i64 0) ?_
 refine t 135 (.bool true) ?_
 refine t 136 (.bool true) ?_
 refine t 0 (.bool true) ?_
 refine ay (ai ?_);clear Xg12;clear Xg104;clear Qq92;clear Qq94;clear Qq95;clear Qq101;refine bB [(0,.bool true)] (by kernel_rfl) ?_
 refine aZ (bh (.bool true) (rs1 0 (by kernel_rfl) (by kernel_rfl)) ?_);exact⟨rfl,BB⟩
end Fo
end Go.Proofs.YthfepflplbahkaaGreatDoor
