import Derived.Test.YtpoifdokmjhclaaGreatJgM
set_option maxRecDepth 100000
set_option maxHeartbeats 8000000
namespace Go.Proofs.YtpoifdokmjhclaaGreat
namespace Gn
open Go.RowKit Go.Lib Pg Lim Gl Mg
attribute [local go_sem] Oper.semAt_some
set_option linter.unusedVariables false
set_option linter.unusedSimpArgs false
section
variable {B m gl k n b c:Nat}{w:World}{F:Nat->Prop}{ao:Option Addr}{A l:List Int}
structure Ls(B:Nat)(w:World)(ao:Option Addr)(m gl k:Nat)(A:List Int)(T:TypeId):Prop where
 ex:(ao=none/\m=0/\A=[])\/(ao=some ⟨gl,0,none⟩/\B<=gl/\Blk w gl (A.map (Value.int .u64)) T/\A.length=m * k)
theorem Ls.chg{w':World}{T:TypeId}(h:Ls B w ao m gl k A T)(c:Chg F w w')(hF:∀ b,F b->b < B):Ls B w' ao m gl k A T:=⟨h.ex.imp id fun q=>⟨q.1,q.2.1,q.2.2.1.chg c (fun e=>by have:=hF _ e;have:=q.2.1;omega),q.2.2.2⟩⟩
theorem Ls.low{B':Nat}{T:TypeId}(h:Ls B w ao m gl k A T)(hB:B'<=B):Ls B' w ao m gl k A T:=⟨h.ex.imp id fun q=>⟨q.1,Nat.le_trans hB q.2.1,q.2.2⟩⟩
theorem Ls.len{T:TypeId}(h:Ls B w ao m gl k A T):A.length=m * k:=h.ex.elim (fun q=>by rw[q.2.1,q.2.2];simp) (fun q=>q.2.2.2)
theorem Ls.nl{T:TypeId}(h:Ls B w ao m gl k A T)(hr:∀ x∈A,In8 x):Nl w ao m k gl 0 A:=by
 refine⟨h.len,fun hm=>?_,fun i hi=>?_,hr⟩
 ·rcases h.ex with q | q
  ·have:=q.2.1;omega
  ·exact q.1
 ·rcases h.ex with q | q
  ·rw[q.2.1] at hi;omega
  ·have a:=h.len;have:=q.2.2.1.cell (i:=0+i) (v:=.int .u64 (nth A i)) (by rw[Nat.zero_add,List.getElem?_map,List.getElem?_eq_getElem (by omega),Option.map_some,cL (by omega)]);exact this
def zG:Ge:=⟨[0,0,0,0,0,0,0,0,0,0],[],[]⟩
structure GeV(B:Nat)(w:World)(v:Value)(g:Ge):Prop where
 ex:∃ p0 p1 p2 p3 p4 p5 p6 p7 p8 p9 a1 m1 g1 a2 m2 g2,v=.agg #[.int .u64 p0,.int .u64 p1,.int .u64 p2,.int .u64 p3,.int .u64 p4,.int .u64 p5,.int .u64 p6,.int .u64 p7,.int .u64 p8,.int .u64 p9,.slice a1 m1 m1,.slice a2 m2 m2]/\g.p=[p0,p1,p2,p3,p4,p5,p6,p7,p8,p9]/\Ls B w a1 m1 g1 2 g.a 43/\Ls B w a2 m2 g2 3 g.v 45
theorem d_mk{v n m:Int}{P V:List Int}{s1 s2 s3 s4:St}(e1:rU 4 (0,l)=(v,s1))(e2:rN 10 s1=(P,s2))(e3:rL 256 2 s2=((n,A),s3))(e4:rL 64 3 s3=((m,V),s4)):gD l=⟨P,A,V⟩/\sV l=s4/\gB l=(((false || (v != 1196183089)) || !decide (n<=256)) || !decide (m<=64)):=by
 have c:sH l=s1:=by unfold sH;rw[e1]
 have a:sP l=s2:=by unfold sP;rw[c,e2]
 have b:sA l=s3:=by unfold sA;rw[a,e3]
 have d:sV l=s4:=by unfold sV;rw[b,e4]
 refine⟨by unfold gD;rw[c,a,b,e2,e3,e4],d,?_⟩;unfold gB bad;rw[e1,a,b,e3,e4];by_cases hv:v=mk0
 ·subst hv;simp[mk0]
 ·have:(v != 1196183089)=true:=by simpa[mk0] using hv
  simp[this,hv]
theorem eD_big(h:65536 < l.length):eD l=211:=by unfold eD;rw[if_pos h]
theorem Cn(h:¬ 65536 < l.length){b:Bool}(hb:(decide (cM (sV l).1 (sV l).2=0) && !gB l)=b):eD l=if b then 0 else 210:=by
 unfold eD;rw[if_neg h];subst hb;by_cases a:cM (sV l).1 (sV l).2=0<;>cases h2:gB l<;>simp[a]
theorem AN(A:ByA w b ao n c l)(hn:n<=1000000000):Calls Tryz.prog 17 #[.slice ao n c] w fun e w'=>∃ r q br,e=.returned (pg r)/\(w.heap.size<=r/\w.heap.size<=q/\r≠q)/\Blk w' r [pg q,.bool false] 108/\RdA w' q br ((0:Int),l).1 ((0:Int),l).2/\Below w.heap.size w w':=by
 have a:=Below.refl w.heap.size w;refine af (n:=7) Tryz.func17 rfl ?_
 refine sr<|tz 1<|nx<|tz 1<|tc 4 44 #[.slice ao n c] (kB A (by omega)) ?_
 rintro _ v1 ⟨q,br,rfl,⟨hq,-,-⟩,d,B⟩;refine⟨_,rfl,?_⟩;replace a:=ae a B;clear B
 have f:RdA _ q br ((0:Int),l).1 ((0:Int),l).2:=d;clear d;have i:=f.lt;refine tz 1<|ta 6 [pg q,.bool false] 108 (pg) ?_
 intro v2 r X j B;have h:=Nat.le_trans a.size j
 have g:r≠q:=by omega
 replace a:=ae a B;replace f:=f.keep B;clear B;refine tz 1<|nr<|ah (pg r) (rs1 2) ?_
 exact⟨r,q,br,rfl,⟨h,hq,g⟩,X,f,a⟩
theorem gJ(A:ByA w b ao n c l)(hn:n<=1000000000):Calls Tryz.prog 8 #[.slice ao n c] w fun e w'=>∃ v,e=.returned (.tuple #[v,.int .i64 (eD l)])/\GeV w.heap.size w' v (if eD l=0 then gD l else zG)/\Below w.heap.size w w':=by
 have f:=Below.refl w.heap.size w
 have hl:l.length=n:=by
  obtain⟨o,h1,_⟩:=A.ex;exact h1
 refine af (n:=32) Tryz.func8 rfl ?_
 refine sr<|ta 2 [iU 0,iU 0,iU 0,iU 0,iU 0,iU 0,iU 0,iU 0,iU 0,iU 0,zS,zS] 28 (pg) ?_
 intro v1 x a hg2 B;have zg2:=Nat.le_trans f.size hg2;replace f:=ae f B;refine tz 1<|nt<|ag<|sr<|tz 2 ?_
 by_cases c3:(65536:Int) < ((n:Nat):Int)
 ·refine tq 8 (.bool (decide ((65536:Int) < ((n:Nat):Int)))) (bT) (congrArg Value.bool (decide_eq_true c3))<|nt<|aJ<|sr<|tz 1<|tsw a [iU 0,iU 0,iU 0,iU 0,iU 0,iU 0,iU 0,iU 0,iU 0,iU 0,zS,zS] ?_
  intro v4 Y C;replace f:=aM f C (by omega);have a:=Y;refine tz 1<|nr<|bN<|ah (.tuple #[.agg #[iU 0,iU 0,iU 0,iU 0,iU 0,iU 0,iU 0,iU 0,iU 0,iU 0,zS,zS],iI 211]) (dX (T:=28) 2 3 (lr a 0)) ?_
  have E:=eD_big (l:=l) (by omega);rw[E];exact⟨_,rfl,by rw[if_neg (by decide)];exact⟨⟨0,0,0,0,0,0,0,0,0,0,none,0,0,none,0,0,rfl,rfl,⟨.inl ⟨rfl,rfl,rfl⟩⟩,⟨.inl ⟨rfl,rfl,rfl⟩⟩⟩⟩,f⟩
 ·refine tq 8 (.bool (decide ((65536:Int) < ((n:Nat):Int)))) (bF) (congrArg Value.bool (decide_eq_false c3))<|nt<|nk<|sr<|tz 1 ?_
  have k:=a.lt;have sB:=f.size;refine tc 11 17 #[.slice ao n c] (AN (A.keep f) (by omega)) ?_
  rintro _ v5 ⟨r,q,br,rfl,⟨hr,hq,G⟩,X,i,B⟩;refine⟨_,rfl,?_⟩;replace f:=ae f B;replace a:=a.keep B;have y:=i.lt;have lXr:=X.lt;have hr0:=Nat.le_trans sB hr;have hq0:=Nat.le_trans sB hq;refine tz 1<|nx<|tz 1 ?_
  have k:=a.lt;have y:=i.lt;have lX:=X.lt;refine tc 13 18 #[pg r] (yT (s:=((0:Int),l)) X i G) ?_
  rintro _ v6 ⟨v,s1,E1,rfl,K,D,C⟩;refine⟨_,rfl,?_⟩;replace f:=vBl f C (by omega) (by omega);replace a:=bV a C (by omega);clear X i;have X:=K;have i:=D;clear K D;refine nx<|tz 1 ?_
  have k:=a.lt;have y:=i.lt;have lX:=X.lt;refine tc 15 19 #[pg r] (EB (s:=s1) X i G) ?_
  rintro _ v7 ⟨P,W,N,V,Q,S,Z,R,O,M,s2,E2,rfl,D,U⟩;refine⟨_,rfl,?_⟩;replace f:=But.below U f (by omega) (Nat.le_refl _);replace a:=But.blk U a (show x≠q by omega);replace X:=But.blk U X (show r≠q by omega);clear U;clear i;have i:=D;clear D;refine tz 1 ?_
  have k:=a.lt;have y:=i.lt;have lX:=X.lt;refine ta 5 [iU 0,iU 0,iU 0,iU 0,iU 0,iU 0,iU 0,iU 0,iU 0,iU 0,zS,zS] 28 (pg) ?_
  intro v8 z d hg9 B;have zg9:=Nat.le_trans f.size hg9;replace f:=ae f B;replace a:=a.keep B;replace i:=i.keep B;replace X:=X.keep B;refine tsw d [iU P,iU W,iU N,iU V,iU Q,iU S,iU Z,iU R,iU O,iU M,zS,zS] ?_
  intro v10 Y C;replace f:=aM f C (by omega);replace a:=a.chg C (show x≠z by omega);replace i:=RdA.gq i d (by first | rfl | exact dW _ _ _) (by omega) (cF C);replace X:=X.chg C (show r≠z by omega);have d:=Y;refine nx<|tz 3 ?_
  have k:=a.lt;have y:=i.lt;have lX:=X.lt;have L:=d.lt;refine tc 20 20 #[pg r,.int .u32 256,.func (.func 21) #[pg r] #[]] (readP (s:=s2) X i G) ?_
  rintro _ v11 ⟨m,g,aa,I,A1,s3,F1,rfl,K,D,C,p⟩;refine⟨_,rfl,?_⟩;replace f:=vBl f C (by omega) (by omega);replace a:=bV a C (by omega);replace d:=bV d C (by omega);clear X i;have X:=K;have i:=D;clear K D;replace p:Ls v10.heap.size _ m g aa 2 A1 43:=⟨p⟩
  have sD1:=f.size;refine tz 1<|ts d 10 (.slice m g g) [.slice m g g] [iU P,iU W,iU N,iU V,iU Q,iU S,iU Z,iU R,iU O,iU M,.slice m g g,zS] ?_
  intro v12 Y C;replace f:=aM f C (by omega);replace a:=a.chg C (show x≠z by omega);replace i:=RdA.gq i d (by first | rfl | exact dW _ _ _) (by omega) (cF C);replace X:=X.chg C (show r≠z by omega);replace p:=p.chg C (fun b h=>by have h:b=z:=h;omega);have d:=Y;refine nt<|ay [(2,pg x),(3,iI 0),(4,pg r),(5,pg z)]<|sr<|tz 3 ?_
  have k:=a.lt;have y:=i.lt;have lX:=X.lt;have L:=d.lt;refine tc 25 22 #[pg r,.int .u32 64,.func (.func 23) #[pg r] #[]] (readF (s:=s3) X i G) ?_
  rintro _ v13 ⟨u,j,lg2,J,A2,s4,F2,rfl,K,D,C,H⟩;refine⟨_,rfl,?_⟩;replace f:=vBl f C (by omega) (by omega);replace a:=bV a C (by omega);replace d:=bV d C (by omega);replace p:=p.chg C (fun b h=>by rcases h with h | h<;>omega);clear X i;have X:=K;have i:=D;clear K D;replace H:Ls v12.heap.size _ u j lg2 3 A2 45:=⟨H⟩
  have sD2:=f.size;refine tz 1<|ts d 11 (.slice u j j) [.slice u j j] [iU P,iU W,iU N,iU V,iU Q,iU S,iU Z,iU R,iU O,iU M,.slice m g g,.slice u j j] ?_
  intro v14 Y C;replace f:=aM f C (by omega);replace a:=a.chg C (show x≠z by omega);replace i:=RdA.gq i d (by first | rfl | exact dW _ _ _) (by omega) (cF C);replace X:=X.chg C (show r≠z by omega);replace p:=p.chg C (fun b h=>by have h:b=z:=h;omega);replace H:=H.chg C (fun b h=>by have h:b=z:=h;omega);have d:=Y;refine nt<|ag<|sr<|tz 1 ?_
  have k:=a.lt;have y:=i.lt;have lX:=X.lt;have L:=d.lt;refine tc 28 24 #[pg r] (wR (s:=s4) X i G) ?_
  rintro _ v15 ⟨rfl,D,U⟩;refine⟨_,rfl,?_⟩;replace f:=But.below U f (by omega) (Nat.le_refl _);replace a:=But.blk U a (show x≠q by omega);replace X:=But.blk U X (show r≠q by omega);replace d:=But.blk U d (show z≠q by omega);replace p:=p.chg (chgU U) (fun b h=>by have h:b=q:=h;omega);replace H:=H.chg (chgU U) (fun b h=>by have h:b=q:=h;omega);clear U;clear i D;refine t 29 (.bool (!(decide (cM s4.1 s4.2=0) && !(((false || (v != 1196183089)) || !decide (I<=256)) || !decide (J<=64)))))<|nt ?_
  rcases Bool.eq_false_or_eq_true (!(decide (cM s4.1 s4.2=0) && !(((false || (v != 1196183089)) || !decide (I<=256)) || !decide (J<=64)))) with F | F
  ·refine aJ (hc:=congrArg Value.bool F)<|sr<|tz 1<|tsw a [iU 0,iU 0,iU 0,iU 0,iU 0,iU 0,iU 0,iU 0,iU 0,iU 0,zS,zS] ?_
   intro v17 Y C;replace f:=aM f C (by omega);replace X:=X.chg C (show r≠x by omega);replace d:=d.chg C (show z≠x by omega);replace p:=p.chg C (fun b h=>by have h:b=x:=h;omega);replace H:=H.chg C (fun b h=>by have h:b=x:=h;omega);have a:=Y;refine t 3 (iI 210)<|nr<|bN<|ah (.tuple #[.agg #[iU 0,iU 0,iU 0,iU 0,iU 0,iU 0,iU 0,iU 0,iU 0,iU 0,zS,zS],iI 210]) (dX (T:=28) 2 3 (lr a 0)) ?_
   obtain⟨z1,z2,z3⟩:=d_mk E1 E2 F1 F2;have E:=Cn (l:=l) (by omega) (b:=false) (by rw[z2,z3];revert F;cases (decide (cM s4.1 s4.2=0) && !(((false || (v != 1196183089)) || !decide (I<=256)) || !decide (J<=64)))<;>simp);rw[E];exact⟨_,rfl,by rw[if_neg (by decide)];exact⟨⟨0,0,0,0,0,0,0,0,0,0,none,0,0,none,0,0,rfl,rfl,⟨.inl ⟨rfl,rfl,rfl⟩⟩,⟨.inl ⟨rfl,rfl,rfl⟩⟩⟩⟩,f⟩
  ·refine aY (hc:=congrArg Value.bool F)<|aU<|ai<|sr<|tlr 31 [iU P,iU W,iU N,iU V,iU Q,iU S,iU Z,iU R,iU O,iU M,.slice m g g,.slice u j j] d 0<|tsw a [iU P,iU W,iU N,iU V,iU Q,iU S,iU Z,iU R,iU O,iU M,.slice m g g,.slice u j j] ?_
   intro v18 Y C;replace f:=aM f C (by omega);replace X:=X.chg C (show r≠x by omega);replace d:=d.chg C (show z≠x by omega);replace p:=p.chg C (fun b h=>by have h:b=x:=h;omega);replace H:=H.chg C (fun b h=>by have h:b=x:=h;omega);have a:=Y;refine tz 1<|nt ?_
   clear d;refine bh<|ah (.tuple #[.agg #[iU P,iU W,iU N,iU V,iU Q,iU S,iU Z,iU R,iU O,iU M,.slice m g g,.slice u j j],iI 0]) (dX (T:=28) 2 3 (lr a 0)) ?_
   obtain⟨z1,z2,z3⟩:=d_mk E1 E2 F1 F2;have E:=Cn (l:=l) (by omega) (b:=true) (by rw[z2,z3];revert F;cases (decide (cM s4.1 s4.2=0) && !(((false || (v != 1196183089)) || !decide (I<=256)) || !decide (J<=64)))<;>simp);rw[E];exact⟨_,rfl,by rw[if_pos rfl,z1];exact⟨⟨_,_,_,_,_,_,_,_,_,_,_,_,aa,_,_,lg2,rfl,rfl,p.low (by omega),H.low (by omega)⟩⟩,f⟩
end
end Gn
end Go.Proofs.YtpoifdokmjhclaaGreat
