import Derived.Test.YtpoifdokmjhclaaGreatJgu
import Derived.Test.YtpoifdokmjhclaaGreatJgk
set_option maxRecDepth 100000
set_option maxHeartbeats 8000000
namespace Go.Proofs.YtpoifdokmjhclaaGreat
namespace Fo
open Go.RowKit Go.Lib Pg Lim Gl
set_option linter.unusedVariables false
structure Nf (w:World) (z:Nat) (ao:Option Addr) (n c:Nat) (x:Int):Prop where
 lt:n=0\/z < w.heap.size
 to:∀ w':World,(n≠0->w'.heap[z]?=w.heap[z]?)->iT w' ao n c x
section
variable {w w':World} {z n c:Nat} {ao:Option Addr} {x y:Int}
theorem Nf.o (h:Nf w z ao n c x):iT w ao n c x:=h.to w (fun _=>rfl)
theorem Nf.nat (h:Nf w z ao n c x):aT w ao n c x:=h.o.a
theorem Nf.keep (h:Nf w z ao n c x) (hb:Below w.heap.size w w'):Nf w' z ao n c x :=
 ⟨h.lt.imp_right fun h=>Nat.lt_of_lt_of_le h hb.size,fun b a=>h.to b fun hn=>(a hn).trans (hb.block z (h.lt.resolve_left hn))⟩
theorem Nf.drew (h:Nf w z ao n c x):Nf w.drew z ao n c x:=h.keep (Below.refl _ _).drew
theorem Nf.cell {g:Nat} (h:Nf w z ao n c x) (hc:Chg (·=g) w w') (a:n=0\/z≠g):Nf w' z ao n c x :=
 ⟨h.lt.imp_right fun h=>Nat.lt_of_lt_of_le h hc.size,fun d b=>h.to d fun hn=>(b hn).trans (hc.same z (h.lt.resolve_left hn) (a.resolve_left hn))⟩
theorem Nf.eqv (h:Nf w z ao n c x) (e:x=y):Nf w z ao n c y:=e▸h
theorem iZ (w:World) (z:Nat):Nf w z none 0 0 0:=⟨.inl rfl,fun w2 _=>⟨0,0,[],rfl,Nat.le_refl _,jB,⟨.inl rfl,fun i hi=>by simp at hi⟩⟩⟩
theorem oA {B T:Nat} (h:sk w B T ao n c x):∃ z,Nf w z ao n c x/\(n=0\/B<=z):=by
 obtain⟨b,o,l,d,f,g,a,k,j⟩:=h.ex;refine⟨b,⟨?_,fun m hw=>⟨b,o,l,d,f,g,⟨a.loc,fun i hi=>?_⟩⟩⟩,?_⟩
 ·rcases a.lt with e | e
  ·exact .inl (by rw[<- d,e];rfl)
  ·exact .inr e
 ·rw[World.cell?_of_block (w:=w) (hw (by omega))];exact a.cell i hi
 ·rcases j with e | e
  ·exact .inl (by rw[<- d,e];rfl)
  ·exact .inr e.1
end
structure NsE (w:World) (P:Nat->Prop) (V:Int) (e:Ending) (w':World):Prop where
 ex:∃ a k d z,e=.returned (.slice a k d)/\Nf w' z a k d V/\(k=0\/w.heap.size<=z)/\P k/\Below w.heap.size w w'
structure NuE (er:Int) (w:World) (P:Nat->Prop) (V:Int) (e:Ending) (w':World):Prop where
 ex:∃ a k d z,e=.returned (.tuple #[.slice a k d,.int .i64 er])/\Nf w' z a k d V/\(k=0\/w.heap.size<=z)/\P k/\Below w.heap.size w w'
structure NdE (w:World) (P:Nat->Prop) (V:Int) (e:Ending) (w':World):Prop where
 ex:∃ a k d z,e=.returned (.agg #[.slice a k d])/\Nf w' z a k d V/\(k=0\/w.heap.size<=z)/\P k/\Below w.heap.size w w'
structure NtE (er:Int) (w:World) (P:Nat->Prop) (V:Int) (e:Ending) (w':World):Prop where
 ex:∃ a k d z,e=.returned (.tuple #[.agg #[.slice a k d],.int .i64 er])/\Nf w' z a k d V/\(k=0\/w.heap.size<=z)/\P k/\Below w.heap.size w w'
section
variable {w:World} {a0 a1 a2:Option Addr} {n0 c0 n1 c1 n2 c2:Nat} {x0 x1 x2:Int}
theorem nfAdd (h:aT w a0 n0 c0 x0) (c:aT w a1 n1 c1 x1) (hn:n0<=1099511627776) (b:n1<=1099511627776):Calls Tryz.prog 229 #[.slice a0 n0 c0,.slice a1 n1 c1] w (NsE w (· <= n0+n1+1) (x0+x1)):=by
 refine(fAdd h c (by omega) (by omega)).mono ?_
 rintro e g ⟨a,k,d,rfl,N,hk,B⟩;obtain⟨z,M,f⟩:=oA N;exact⟨a,k,d,z,rfl,M,f,hk,B⟩
theorem nfMul (h:aT w a0 n0 c0 x0) (c:aT w a1 n1 c1 x1) (hn:n0<=274877906944) (b:n1<=274877906944):Calls Tryz.prog 267 #[.slice a0 n0 c0,.slice a1 n1 c1] w (NsE w (· <= n0+n1) (x0 * x1)):=by
 refine(fMul h c (by omega) (by omega)).mono ?_
 rintro e g ⟨a,k,d,rfl,N,hk,B⟩;obtain⟨z,M,f⟩:=oA N;exact⟨a,k,d,z,rfl,M,f,hk,B⟩
theorem nfSub (h:aT w a0 n0 c0 x0) (c:aT w a1 n1 c1 x1) (hn:n0<=274877906944) (b:n1<=274877906944):Calls Tryz.prog 361 #[.slice a0 n0 c0,.slice a1 n1 c1] w (NuE (qp x0 x1) w (· <= n0) (rQ x0 x1)):=by
 refine(fSub h c (by omega) (by omega)).mono ?_
 rintro e g ⟨a,k,d,rfl,N,hk,B⟩;obtain⟨z,M,f⟩:=oA N;exact⟨a,k,d,z,rfl,M,f,hk,B⟩
theorem nfOf {x:Int} (f:0<=x) (h1:x < 18446744073709551616):Calls Tryz.prog 224 #[.int .u64 x] w (NsE w (· <= 1) x):=by
 refine(mF x w f h1).mono ?_
 rintro e i ⟨v,r,rfl,b,d,hlen,g⟩;obtain⟨a,c,rfl,N⟩:=ku b d;obtain⟨z,M,h⟩:=oA N;exact⟨a,_,c,z,rfl,M,h,hlen,g⟩
structure MdE (w:World) (n:Nat) (V R:Int) (er:Int) (e:Ending) (w':World):Prop where
 ex:∃ a k d z a' k' d' z',e=.returned (.tuple #[.slice a k d,.slice a' k' d',.int .i64 er])/\Nf w' z a k d V/\Nf w' z' a' k' d' R/\(k=0\/w.heap.size<=z)/\(k'=0\/w.heap.size<=z')/\k<=n/\k'<=n+n/\Below w.heap.size w w'
theorem BG (h:aT w a0 n0 c0 x0) (m:aT w a1 n1 c1 x1) (g:aT w a2 n2 c2 x2) (hn:n0<=274877906944) (b:n1<=274877906944) (c:n2<=274877906944):Calls Tryz.prog 321 #[.slice a0 n0 c0,.slice a1 n1 c1,.slice a2 n2 c2] w (MdE w (n0+n1+n2) (x0 * x1 / x2) (C8 (x0 * x1) x2) (nN x2)):=by
 refine(De h m g hn b c).mono ?_
 rintro e s ⟨a,k,d,n,o,r,rfl,N,q,hk,l,B⟩;obtain⟨z,M,p⟩:=oA N;obtain⟨j,i,f⟩:=oA q;exact⟨a,k,d,z,n,o,r,j,rfl,M,i,p,f,by omega,by omega,B⟩
end
section
variable {w:World}{a0 a1 a2:Option Addr}{n0 c0 n1 c1 g n2 c2:Nat}{x0 x1 y x2:Int}
theorem tX(s:aT w a0 n0 c0 x0)(k0:n0<=1000000000000)(h1:aT w a1 n1 c1 x1)(k1:n1<=1000000000000):Calls Tryz.prog 185 #[.agg #[.slice a0 n0 c0],.agg #[.slice a1 n1 c1]] w (NdE w (· <= n0+n1+1) (x0+x1)):=by
 have d:=Below.refl w.heap.size w;refine af (n:=11) Tryz.func185 rfl ?_
 refine sr<|ta 2 [.slice a0 n0 c0] 55 (pg) ?_
 intro v1 u a v B;replace d:=ae d B;clear B;have e:=a.lt;refine ta 3 [.slice a1 n1 c1] 55 (pg) ?_
 intro z o b t B;replace d:=ae d B;replace a:=a.keep B;clear B;have e:=a.lt;have i:=b.lt;refine ta 4 [.slice none 0 0] 55 (pg) ?_
 intro A l c p B;replace d:=ae d B;replace a:=a.keep B;replace b:=b.keep B;clear B;refine nx<|tz 1<|tl 6 (.slice a0 n0 c0) a 0<|tz 1<|tl 8 (.slice a1 n1 c1) b 0 ?_
 have e:=a.lt;have i:=b.lt;have m:=c.lt;refine tc 9 229 #[.slice a0 n0 c0,.slice a1 n1 c1] (nfAdd (s.keep d) (h1.keep d) (by omega) (by omega)) ?_
 rintro _ y ⟨j,f,h,k,rfl,g,r,q,B⟩;refine⟨_,rfl,?_⟩;replace d:=ae d B;replace a:=a.keep B;replace b:=b.keep B;replace c:=c.keep B;clear B;refine tz 1<|tsw c [.slice j f h] ?_
 intro x Y C;replace d:=aM d C (by omega);replace a:=a.chg C (show u≠l by omega);replace b:=b.chg C (show o≠l by omega);replace g:=g.cell C (show f=0\/k≠l by omega);clear C c;have c:=Y;clear Y;refine nr<|ah (.agg #[.slice j f h]) (rsc (T:=55) 4 (lr c 0)) ?_
 exact⟨_,_,_,_,rfl,g,by omega,by omega,d⟩
theorem eOfNat(o:aT w a0 n0 c0 x0)(k0:n0<=100000000000):Calls Tryz.prog 223 #[.slice a0 n0 c0] w (NdE w (· <= n0+38) (x0 * U36)):=by
 have c:=Below.refl w.heap.size w;refine af (n:=7) Tryz.func223 rfl ?_
 refine sr<|ta 2 [.slice none 0 0] 55 (pg) ?_
 intro v1 p b q B;replace c:=ae c B;clear B;refine nx<|tz 1 ?_
 have g:=b.lt;refine tc 4 268 #[] (dUnit) ?_
 rintro _ v4 ⟨m,l,j,rfl,d,s,B⟩;refine⟨_,rfl,?_⟩;replace c:=ae c B;replace b:=b.keep B;clear B;have g:=b.lt;refine tc 5 267 #[.slice a0 n0 c0,.slice m l j] (nfMul (o.keep c) d.a (by omega) (by omega)) ?_
 rintro _ v6 ⟨i,e,h,k,rfl,f,r,t,B⟩;refine⟨_,rfl,?_⟩;replace c:=ae c B;replace b:=b.keep B;replace d:=d.keep B;clear B;refine tz 1<|tsw b [.slice i e h] ?_
 intro u Y C;replace c:=aM c C (by omega);clear d;replace f:=f.cell C (show e=0\/k≠p by omega);clear C b;have b:=Y;clear Y;refine nr<|ah (.agg #[.slice i e h]) (rsc (T:=55) 2 (lr b 0)) ?_
 exact⟨_,_,_,_,rfl,f,by omega,by omega,c⟩
theorem eOf(hy:0<=y/\y < 18446744073709551616):Calls Tryz.prog 182 #[.int .u64 y] w (NdE w (· <= 40) (y * U36)):=by
 have c:=Below.refl w.heap.size w;refine af (n:=6) Tryz.func182 rfl ?_
 refine sr<|ta 2 [.slice none 0 0] 55 (pg) ?_
 intro v1 o a p B;replace c:=ae c B;clear B;refine nx<|tz 1 ?_
 have f:=a.lt;refine tc 4 224 #[.int .u64 y] (nfOf (x:=y) hy.1 hy.2) ?_
 rintro _ v4 ⟨m,h,j,k,rfl,b,s,r,B⟩;refine⟨_,rfl,?_⟩;replace c:=ae c B;replace a:=a.keep B;clear B;have f:=a.lt;refine tc 5 223 #[.slice m h j] (eOfNat b.nat (by omega)) ?_
 rintro _ v6 ⟨i,d,g,l,rfl,e,q,t,B⟩;refine⟨_,rfl,?_⟩;replace c:=ae c B;replace a:=a.keep B;replace b:=b.keep B;clear B;refine tsw a [.slice i d g] ?_
 intro u Y C;replace c:=aM c C (by omega);replace b:=b.cell C (show h=0\/k≠o by omega);replace e:=e.cell C (show d=0\/l≠o by omega);clear C a;have a:=Y;clear Y;refine nr<|ah (.agg #[.slice i d g]) (rsc (T:=55) 2 (lr a 0)) ?_
 exact⟨_,_,_,_,rfl,e,by omega,by omega,c⟩
def sbE(x y:Int):Int:=if y<=x then 0 else 20
theorem eSub(u:aT w a0 n0 c0 x0)(k0:n0<=100000000000)(h1:aT w a1 n1 c1 x1)(k1:n1<=100000000000):Calls Tryz.prog 336 #[.agg #[.slice a0 n0 c0],.agg #[.slice a1 n1 c1]] w (NtE (sbE x0 x1) w (· <= n0) (rQ x0 x1)):=by
 have d:=Below.refl w.heap.size w;refine af (n:=21) Tryz.func336 rfl ?_
 refine sr<|ta 2 [.slice a0 n0 c0] 55 (pg) ?_
 intro v1 p a x B;replace d:=ae d B;have g:=a.lt;refine ta 3 [.slice a1 n1 c1] 55 (pg) ?_
 intro z m b v B;replace d:=ae d B;replace a:=a.keep B;have g:=a.lt;have l:=b.lt;refine ta 4 [zS] 55 (pg) ?_
 intro A i c q B;replace d:=ae d B;replace a:=a.keep B;replace b:=b.keep B;refine tz 1<|nx<|tz 1<|tl 10 (.slice a0 n0 c0) a 0<|tz 1<|tl 12 (.slice a1 n1 c1) b 0 ?_
 have g:=a.lt;have l:=b.lt;have o:=c.lt;refine tc 13 361 #[.slice a0 n0 c0,.slice a1 n1 c1] (nfSub (u.keep d) (h1.keep d) (by omega) (by omega)) ?_
 rintro _ y ⟨j,e,h,k,rfl,f,t,r,B⟩;refine⟨_,rfl,?_⟩;replace d:=ae d B;replace a:=a.keep B;replace b:=b.keep B;replace c:=c.keep B;refine tz 5<|nt<|ay [(4,pg i),(5,iI 0),(6,.slice j e h),(7,iI (qp x0 x1))]<|ag<|sr<|tz 1 ?_
 by_cases cs:x1<=x0
 ·have t9:(qp x0 x1:Int)=0:=if_pos cs;refine tq 17 (.bool ((qp x0 x1:Int) != 0)) (bF) (congrArg Value.bool (bne_eq_false_iff_eq.2 t9))<|nt<|nk<|sr<|tz 2<|tsw c [.slice j e h] ?_
  intro v10 Y C;replace d:=aM d C (by omega);replace a:=a.chg C (show p≠i by omega);replace b:=b.chg C (show m≠i by omega);replace f:=f.cell C (show e=0\/k≠i by omega);have c:=Y;refine tz 1<|nr<|ah (.tuple #[.agg #[.slice j e h],iI 0]) (dX (T:=55) 4 5 (lr c 0)) ?_
  rw[show sbE x0 x1=0 from if_pos cs];exact⟨_,_,_,_,rfl,f,by omega,by omega,d⟩
 ·have t11:¬ (qp x0 x1:Int)=0:=by unfold qp; rw[if_neg cs]; decide
  refine tq 17 (.bool ((qp x0 x1:Int) != 0)) (bT) (congrArg Value.bool (bne_iff_ne.2 t11))<|nt<|aJ<|sr<|tz 1<|tsw c [zS] ?_
  intro s Y C;replace d:=aM d C (by omega);replace a:=a.chg C (show p≠i by omega);replace b:=b.chg C (show m≠i by omega);replace f:=f.cell C (show e=0\/k≠i by omega);have c:=Y;refine tz 1<|nr<|bN<|ah (.tuple #[.agg #[zS],iI 20]) (dX (T:=55) 4 5 (lr c 0)) ?_
  rw[show sbE x0 x1=20 from if_neg cs,show rQ x0 x1=0 from if_neg cs];exact⟨_,_,_,0,rfl,iZ _ 0,.inl rfl,by omega,d⟩
theorem Af:Calls Tryz.prog 270 #[.bool false] w fun e w'=>∃ g,e=.returned (.func (.func 322) #[] #[pg g])/\Blk w' g [.bool false] 4/\w.heap.size<=g/\Below w.heap.size w w':=by
 have a:=Below.refl w.heap.size w;refine af (n:=4) Tryz.func270 rfl ?_
 refine sr<|ta 1 [.bool false] 4 (pg) ?_
 intro v1 d b c B;replace a:=ae a B;clear B;refine tz 1<|nx<|tz 2<|nr<|ah (.func (.func 322) #[] #[pg d]) (rs1 2) ?_
 exact⟨_,rfl,b,c,a⟩
theorem Bj{z0:Nat}(c:Nf w z0 a0 n0 c0 x0)(b:Blk w g [.bool false] 4):Calls Tryz.prog 322 #[.slice a0 n0 c0,.slice a1 n1 c1,pg g] w fun e w'=>e=.returned (.agg #[.slice a0 n0 c0])/\Nf w' z0 a0 n0 c0 x0/\Below w.heap.size w w':=by
 have i:=b.lt;have f:=c.lt;have d:=Below.refl w.heap.size w;refine af (n:=17) Tryz.func322 rfl ?_
 refine sr ?_
 have i:=b.lt;have f:=c.lt;refine ta 5 [.slice none 0 0] 55 (pg) ?_
 intro v1 h a j B;replace d:=ae d B;replace b:=b.keep B;replace c:=c.keep B;clear B;refine nt<|ag<|sr<|tl 6 (.bool false) b 0<|tz 1<|tn 8<|tn 9<|tn 10<|tz 1<|nt<|nk<|sr<|tz 2<|tsw a [.slice a0 n0 c0] ?_
 intro k Y C;replace d:=aM d C (by omega);replace b:=b.chg C (show g≠h by omega);replace c:=c.cell C (show n0=0\/z0≠h by omega);clear C a;have a:=Y;clear Y;refine nt<|ay [(5,pg h)]<|bh<|ah (.agg #[.slice a0 n0 c0]) (rsc (T:=55) 5 (lr a 0)) ?_
 exact⟨rfl,c,d⟩
def dvZ(y:Int):Int:=if y=0 then 21 else 0
theorem vF(x:aT w a0 n0 c0 x0)(k0:n0<=100000000000)(h1:aT w a1 n1 c1 x1)(k1:n1<=100000000000)(u:aT w a2 n2 c2 x2)(k2:n2<=100000000000)(c:Blk w g [.bool false] 4):Calls Tryz.prog 269 #[.slice a0 n0 c0,.slice a1 n1 c1,.slice a2 n2 c2,.func (.func 322) #[] #[pg g]] w (NtE (dvZ x2) w (· <= n0+n1+n2) (x0 * x1 / x2)):=by
 have k:=c.lt;have d:=Below.refl w.heap.size w;refine af (n:=28) Tryz.func269 rfl ?_
 refine sr ?_
 have k:=c.lt;refine ta 8 [zS] 55 (pg) ?_
 intro v1 l a y B;replace d:=ae d B;replace c:=c.keep B;refine tz 1<|nx<|tz 3 ?_
 have k:=c.lt;have q:=a.lt;refine tc 17 321 #[.slice a0 n0 c0,.slice a1 n1 c1,.slice a2 n2 c2] (BG (x.keep d) (h1.keep d) (u.keep d) (by omega) (by omega) (by omega)) ?_
 rintro _ v4 ⟨i,e,h,r,s,j,p,o,rfl,b,f,v,A,z,D,B⟩;refine⟨_,rfl,?_⟩;replace d:=ae d B;replace c:=c.keep B;replace a:=a.keep B;refine tz 7<|nt<|ay [(3,.func (.func 322) #[] #[pg g]),(8,pg l),(9,iI 0),(10,.slice i e h),(11,.slice s j p),(12,iI (nN x2))]<|ag<|sr<|tz 1 ?_
 by_cases t:x2=0
 ·have t5:¬ (nN x2:Int)=0:=by unfold nN; rw[if_pos t]; decide
  refine tq 22 (.bool ((nN x2:Int) != 0)) (bT) (congrArg Value.bool (bne_iff_ne.2 t5))<|nt<|aJ<|sr<|tz 1<|tsw a [zS] ?_
  intro v6 Y C;replace d:=aM d C (by omega);replace c:=c.chg C (show g≠l by omega);replace b:=b.cell C (show e=0\/r≠l by omega);replace f:=f.cell C (show j=0\/o≠l by omega);have a:=Y;refine tz 1<|nr<|bN<|ah (.tuple #[.agg #[zS],iI 21]) (dX (T:=55) 8 9 (lr a 0)) ?_
  subst t;rw[show dvZ 0=21 from if_pos rfl,Int.ediv_zero];exact⟨_,_,_,0,rfl,iZ _ 0,.inl rfl,by omega,d⟩
 ·have t7:(nN x2:Int)=0:=if_neg t;refine tq 22 (.bool ((nN x2:Int) != 0)) (bF) (congrArg Value.bool (bne_eq_false_iff_eq.2 t7))<|nt<|nk<|sr<|tz 3 ?_
  have k:=c.lt;have q:=a.lt;refine tc 27 322 #[.slice i e h,.slice s j p,pg g] (Bj b c) ?_
  rintro _ F ⟨rfl,m,B⟩;refine⟨_,rfl,?_⟩;clear b;have b:=m;clear m;replace d:=ae d B;replace c:=c.keep B;replace a:=a.keep B;replace f:=f.keep B;refine tsw a [.slice i e h] ?_
  intro E Y C;replace d:=aM d C (by omega);replace c:=c.chg C (show g≠l by omega);replace b:=b.cell C (show e=0\/r≠l by omega);replace f:=f.cell C (show j=0\/o≠l by omega);have a:=Y;refine tz 1<|nr<|ah (.tuple #[.agg #[.slice i e h],iI 0]) (dX (T:=55) 8 9 (lr a 0)) ?_
  rw[show dvZ x2=0 from if_neg t];exact⟨_,_,_,_,rfl,b,by omega,by omega,d⟩
theorem DM(I:aT w a0 n0 c0 x0)(k0:n0<=100000000000)(h1:aT w a1 n1 c1 x1)(k1:n1<=100000000000)(D:aT w a2 n2 c2 x2)(k2:n2<=100000000000):Calls Tryz.prog 225 #[.agg #[.slice a0 n0 c0],.agg #[.slice a1 n1 c1],.agg #[.slice a2 n2 c2]] w (NtE (dvZ x2) w (· <= n0+n1+n2) (x0 * x1 / x2)):=by
 have e:=Below.refl w.heap.size w;refine af (n:=18) Tryz.func225 rfl ?_
 refine sr<|ta 3 [.slice a0 n0 c0] 55 (pg) ?_
 intro v1 x a K B;replace e:=ae e B;have i:=a.lt;refine ta 4 [.slice a1 n1 c1] 55 (pg) ?_
 intro N t b J B;replace e:=ae e B;replace a:=a.keep B;have i:=a.lt;have m:=b.lt;refine ta 5 [.slice a2 n2 c2] 55 (pg) ?_
 intro O u c F B;replace e:=ae e B;replace a:=a.keep B;replace b:=b.keep B;have i:=a.lt;have m:=b.lt;have o:=c.lt;refine ta 6 [zS] 55 (pg) ?_
 intro M q d E B;replace e:=ae e B;replace a:=a.keep B;replace b:=b.keep B;replace c:=c.keep B;refine tz 1<|nt<|ag ?_
 replace e:=e.drew;replace a:=a.drew;replace b:=b.drew;replace c:=c.drew;replace d:=d.drew;refine dS (fun v=>Blk v x [.slice a0 n0 c0] 55/\Blk v t [.slice a1 n1 c1] 55/\Blk v u [.slice a2 n2 c2] 55) (fun _=>false) ⟨a,b,c⟩ ?_
 refine z 0 8 (pg x)<|zl 1 9 (.slice a0 n0 c0) (fun _ h=>h.1) 0<|z 2 10 (pg t)<|zl 3 11 (.slice a1 n1 c1) (fun _ h=>h.2.1) 0<|z 4 12 (pg u)<|zl 5 13 (.slice a2 n2 c2) (fun _ h=>h.2.2) 0 ?_
 have i:=a.lt;have m:=b.lt;have o:=c.lt;have r:=d.lt;refine zc 6 14 270 #[bF] (Af) ?_
 rintro _ L ⟨g,rfl,p,P,B⟩;replace e:=ae e B;replace a:=a.keep B;replace b:=b.keep B;replace c:=c.keep B;replace d:=d.keep B;refine⟨_,rfl,⟨a,b,c⟩,?_⟩;have i:=a.lt;have m:=b.lt;have o:=c.lt;have r:=d.lt;have G:=p.lt;refine zc 7 15 269 #[.slice a0 n0 c0,.slice a1 n1 c1,.slice a2 n2 c2,.func (.func 322) #[] #[pg g]] (vF (I.keep e) (by omega) (h1.keep e) (by omega) (D.keep e) (by omega) p) ?_
 rintro _ v11 ⟨l,f,k,s,rfl,j,A,y,B⟩;replace e:=ae e B;replace a:=a.keep B;replace b:=b.keep B;replace c:=c.keep B;replace d:=d.keep B;replace p:=p.keep B;refine⟨_,rfl,⟨a,b,c⟩,z 8 16 (.agg #[.slice l f k])<|z 9 17 (iI (dvZ x2))<|zsw 10 d [.slice l f k] ?_⟩;intro H Y C;replace e:=aM e C (by omega);replace a:=a.chg C (show x≠q by omega);replace b:=b.chg C (show t≠q by omega);replace c:=c.chg C (show u≠q by omega);replace p:=p.chg C (show g≠q by omega);replace j:=j.cell C (show f=0\/s≠q by omega);have d:=Y;refine⟨⟨a,b,c⟩,z 11 7 (iI (dvZ x2))<|aP<|ai<|ay [(6,pg q),(7,iI (dvZ x2))]<|bh<|ah (.tuple #[.agg #[.slice l f k],iI (dvZ x2)]) (dX (T:=55) 6 7 (lr d 0)) ?_⟩;exact⟨_,_,_,_,rfl,j,by omega,by omega,e⟩
theorem eOver(M:aT w a0 n0 c0 x0)(k0:n0<=100000000000)(hy:0<=y/\y < 18446744073709551616):Calls Tryz.prog 283 #[.agg #[.slice a0 n0 c0],.int .u64 y] w (NtE (dvZ y) w (· <= n0+2) (x0 / y)):=by
 have d:=Below.refl w.heap.size w;refine af (n:=15) Tryz.func283 rfl ?_
 refine sr<|ta 2 [.slice a0 n0 c0] 55 (pg) ?_
 intro v1 F a O B;replace d:=ae d B;have i:=a.lt;refine ta 4 [zS] 55 (pg) ?_
 intro U o b N B;replace d:=ae d B;replace a:=a.keep B;refine tz 1<|nt<|ag ?_
 replace d:=d.drew;replace a:=a.drew;replace b:=b.drew;refine gd1 a ?_
 refine z 0 6 (pg F)<|zl 1 7 (.slice a0 n0 c0) (fun _ h=>h) 0<|z 3 9 (iU y) ?_
 have i:=a.lt;have m:=b.lt;refine zc 2 8 224 #[iU 1] (nfOf (x:=1) (by decide) (by decide)) ?_
 rintro _ v6 ⟨A,r,D,t,rfl,c,P,Q,B⟩;replace d:=ae d B;replace a:=a.keep B;replace b:=b.keep B;refine⟨_,rfl,a,?_⟩;have i:=a.lt;have m:=b.lt;refine zc 4 10 224 #[iU y] (nfOf (x:=y) hy.1 hy.2) ?_
 rintro _ S ⟨E,q,v,u,rfl,e,L,I,B⟩;replace d:=ae d B;replace a:=a.keep B;replace b:=b.keep B;replace c:=c.keep B;refine⟨_,rfl,a,?_⟩;have i:=a.lt;have m:=b.lt;refine zc 5 11 270 #[bF] (Af) ?_
 rintro _ R ⟨g,rfl,p,V,B⟩;replace d:=ae d B;replace a:=a.keep B;replace b:=b.keep B;replace c:=c.keep B;replace e:=e.keep B;refine⟨_,rfl,a,?_⟩;have i:=a.lt;have m:=b.lt;have J:=p.lt;refine zc 6 12 269 #[.slice a0 n0 c0,.slice A r D,.slice E q v,.func (.func 322) #[] #[pg g]] (vF (M.keep d) (by omega) c.nat (by omega) e.nat (by omega) p) ?_
 rintro _ v11 ⟨l,f,k,s,rfl,j,H,G,B⟩;replace d:=ae d B;replace a:=a.keep B;replace b:=b.keep B;replace c:=c.keep B;replace e:=e.keep B;replace p:=p.keep B;refine⟨_,rfl,a,z 7 13 (.agg #[.slice l f k])<|z 8 14 (iI (dvZ y))<|zsw 9 b [.slice l f k] ?_⟩;intro K Y C;replace d:=aM d C (by omega);replace a:=a.chg C (show F≠o by omega);replace c:=c.cell C (show r=0\/t≠o by omega);replace e:=e.cell C (show q=0\/u≠o by omega);replace p:=p.chg C (show g≠o by omega);replace j:=j.cell C (show f=0\/s≠o by omega);have b:=Y;refine⟨a,z 10 5 (iI (dvZ y))<|aP<|ai<|ay [(4,pg o),(5,iI (dvZ y))]<|bh<|ah (.tuple #[.agg #[.slice l f k],iI (dvZ y)]) (dX (T:=55) 4 5 (lr b 0)) ?_⟩;exact⟨_,_,_,_,rfl,j.eqv (by rw[Int.mul_one]),by omega,by omega,d⟩
end
end Fo
end Go.Proofs.YtpoifdokmjhclaaGreat
