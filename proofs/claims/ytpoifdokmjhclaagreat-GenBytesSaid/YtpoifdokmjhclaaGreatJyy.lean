import Derived.Test.YtpoifdokmjhclaaGreatJyx
set_option maxRecDepth 100000
set_option maxHeartbeats 8000000
namespace Go.Proofs.YtpoifdokmjhclaaGreat
namespace Fo
open Go.RowKit Go.Lib Pg Lim Gl
set_option linter.unusedVariables false
structure Nf (w:World) (z:Nat) (ao:Option Addr) (n c:Nat) (x:Int):Prop where
 lt:n=0\/z < w.heap.size
 to:∀ w':World,(n≠0->w'.heap[z]?=w.heap[z]?)->jf w' ao n c x
section
variable {w w':World} {z n c:Nat} {ao:Option Addr} {x y:Int}
theorem Nf.o (h:Nf w z ao n c x):jf w ao n c x:=h.to w (λ_=>rfl)
theorem Nf.nat (h:Nf w z ao n c x):aW w ao n c x:=h.o.a
theorem Nf.keep (h:Nf w z ao n c x) (hb:BW w w'):Nf w' z ao n c x :=
 ⟨h.lt.imp_right λh=>Nat.lt_of_lt_of_le h hb.size,λw2 h2=>h.to w2 λhn=>(h2 hn).trans (hb.block z (h.lt.resolve_left hn))⟩
theorem Nf.drew (h:Nf w z ao n c x):Nf w.drew z ao n c x:=h.keep (Below.refl _ _).drew
theorem Nf.cell {g:Nat} (h:Nf w z ao n c x) (hc:Chg (·=g) w w') (a:n=0\/z≠g):Nf w' z ao n c x :=
 ⟨h.lt.imp_right λh=>Nat.lt_of_lt_of_le h hc.size,λd b=>h.to d λhn=>(b hn).trans (hc.same z (h.lt.resolve_left hn) (a.resolve_left hn))⟩
theorem Nf.eqv (h:Nf w z ao n c x) (e:x=y):Nf w z ao n c y:=e▸h
theorem jm (w:World) (z:Nat):Nf w z none 0 0 0:=⟨.inl rfl,λw2 _=>⟨0,0,[],rfl,Nat.le_refl _,jP,⟨.inl rfl,λi hi=>by simp at hi⟩⟩⟩
theorem oZ {B T:Nat} (h:tH w B T ao n c x):∃ z,Nf w z ao n c x/\(n=0\/B<=z):=by
 obtain⟨b,o,l,d,f,g,a,k,j⟩:=h.ex;refine⟨b,⟨?_,λm hw=>⟨b,o,l,d,f,g,⟨a.loc,λi hi=>?_⟩⟩⟩,?_⟩
 ·rcases a.lt with e | e
  ·exact .inl (by rw[<- d,e];rfl)
  exact .inr e
 ·rw[World.cell?_of_block (w:=w) (hw (by omega))];exact a.cell i hi
 rcases j with e | e
 ·exact .inl (by rw[<- d,e];rfl)
 exact .inr e.1
end
structure NsE (w:World) (P:Nat->Prop) (V:Int) (e:Ending) (w':World):Prop where
 ex:∃ a k d z,e=.returned (.slice a k d)/\Nf w' z a k d V/\(k=0\/w.heap.size<=z)/\P k/\BW w w'
structure NuE (er:Int) (w:World) (P:Nat->Prop) (V:Int) (e:Ending) (w':World):Prop where
 ex:∃ a k d z,e=.returned (.tuple #[.slice a k d,.int .i64 er])/\Nf w' z a k d V/\(k=0\/w.heap.size<=z)/\P k/\BW w w'
structure NdE (w:World) (P:Nat->Prop) (V:Int) (e:Ending) (w':World):Prop where
 ex:∃ a k d z,e=.returned (.agg #[.slice a k d])/\Nf w' z a k d V/\(k=0\/w.heap.size<=z)/\P k/\BW w w'
structure NtE (er:Int) (w:World) (P:Nat->Prop) (V:Int) (e:Ending) (w':World):Prop where
 ex:∃ a k d z,e=.returned (.tuple #[.agg #[.slice a k d],.int .i64 er])/\Nf w' z a k d V/\(k=0\/w.heap.size<=z)/\P k/\BW w w'
section
variable {w:World} {a0 a1 a2:Option Addr} {n0 c0 n1 c1 n2 c2:Nat} {x0 x1 x2:Int}
theorem nfAdd (h:aW w a0 n0 c0 x0) (c:aW w a1 n1 c1 x1) (hn:n0<=1099511627776) (b:n1<=1099511627776):CP 229 #[.slice a0 n0 c0,.slice a1 n1 c1] w (NsE w (· <= n0+n1+1) (x0+x1)):=by
 refine(fAdd h c (by omega) (by omega)).mono ?_
 rintro e g ⟨a,k,d,rfl,N,hk,B⟩;obtain⟨z,M,f⟩:=oZ N;exact⟨a,k,d,z,rfl,M,f,hk,B⟩
theorem nfMul (h:aW w a0 n0 c0 x0) (c:aW w a1 n1 c1 x1) (hn:n0<=274877906944) (b:n1<=274877906944):CP 267 #[.slice a0 n0 c0,.slice a1 n1 c1] w (NsE w (· <= n0+n1) (x0 * x1)):=by
 refine(fMul h c (by omega) (by omega)).mono ?_
 rintro e g ⟨a,k,d,rfl,N,hk,B⟩;obtain⟨z,M,f⟩:=oZ N;exact⟨a,k,d,z,rfl,M,f,hk,B⟩
theorem nfSub (h:aW w a0 n0 c0 x0) (c:aW w a1 n1 c1 x1) (hn:n0<=274877906944) (b:n1<=274877906944):CP 361 #[.slice a0 n0 c0,.slice a1 n1 c1] w (NuE (qP x0 x1) w (· <= n0) (sL x0 x1)):=by
 refine(fSub h c (by omega) (by omega)).mono ?_
 rintro e g ⟨a,k,d,rfl,N,hk,B⟩;obtain⟨z,M,f⟩:=oZ N;exact⟨a,k,d,z,rfl,M,f,hk,B⟩
theorem nfOf {x:Int} (h0:0<=x) (h1:x < 18446744073709551616):CP 224 #[.int .u64 x] w (NsE w (· <= 1) x):=by
 refine(np x w h0 h1).mono ?_
 rintro e h ⟨v,r,rfl,b,d,hlen,f⟩;obtain⟨a,c,rfl,N⟩:=kQ b d;obtain⟨z,M,g⟩:=oZ N;exact⟨a,_,c,z,rfl,M,g,hlen,f⟩
structure MdE (w:World) (n:Nat) (V R:Int) (er:Int) (e:Ending) (w':World):Prop where
 ex:∃ a k d z a' k' d' z',e=.returned (.tuple #[.slice a k d,.slice a' k' d',.int .i64 er])/\Nf w' z a k d V/\Nf w' z' a' k' d' R/\(k=0\/w.heap.size<=z)/\(k'=0\/w.heap.size<=z')/\k<=n/\k'<=n+n/\BW w w'
theorem CB (h:aW w a0 n0 c0 x0) (m:aW w a1 n1 c1 x1) (g:aW w a2 n2 c2 x2) (hn:n0<=274877906944) (b:n1<=274877906944) (c:n2<=274877906944):CP 321 #[.slice a0 n0 c0,.slice a1 n1 c1,.slice a2 n2 c2] w (MdE w (n0+n1+n2) (x0 * x1 / x2) (D5 (x0 * x1) x2) (oy x2)):=by
 refine(Ee h m g hn b c).mono ?_
 rintro e s ⟨a,k,d,n,o,r,rfl,N,q,hk,l,B⟩;obtain⟨z,M,p⟩:=oZ N;obtain⟨j,i,f⟩:=oZ q;exact⟨a,k,d,z,n,o,r,j,rfl,M,i,p,f,by omega,by omega,B⟩
end
section
variable {w:World}{a0 a1 a2:Option Addr}{n0 c0 n1 c1 g n2 c2:Nat}{x0 x1 y x2:Int}
theorem uM(h0:aW w a0 n0 c0 x0)(h1:aW w a1 n1 c1 x1)(k0:n0<=1000000000000:=by omega)(k1:n1<=1000000000000:=by omega):CP 185 #[.agg #[.slice a0 n0 c0],.agg #[.slice a1 n1 c1]] w (NdE w (· <= n0+n1+1) (x0+x1)):=by
 have c:=Below.refl w.heap.size w;refine af (n:=11) Tryz.func185 rfl ?_
 refine sr<|ta 2 [.slice a0 n0 c0] 55 (pg) ?_
 intro v1 y a s B;have c:=ae c B;have e:=a.lt;refine ta 3 [.slice a1 n1 c1] 55 (pg) ?_
 intro x u b r B;have c:=ae c B;have a:=a.keep B;have e:=a.lt;have i:=b.lt;refine ta 4 [.slice none 0 0] 55 (pg) ?_
 intro z p d m B;have c:=ae c B;have a:=a.keep B;have b:=b.keep B;refine nx<|tz 1<|tl 6 (.slice a0 n0 c0) a 0<|tz 1<|tl 8 (.slice a1 n1 c1) b 0 ?_
 have e:=a.lt;have i:=b.lt;have l:=d.lt;refine tc 9 229 #[.slice a0 n0 c0,.slice a1 n1 c1] (nfAdd (h0.keep c) (h1.keep c) (by omega) (by omega)) ?_
 rintro _ v ⟨j,f,h,k,rfl,g,q,o,B⟩;have c:=ae c B;have a:=a.keep B;have b:=b.keep B;have d:=d.keep B;refine⟨_,rfl,tz 1<|tsw d [.slice j f h] ?_⟩;intro t Y C;have c:=aF c C;have a:=a.chg C (by omega);have b:=b.chg C (by omega);have g:=g.cell C (show f=0\/k≠p by omega);have d:=Y;refine nr<|ah (.agg #[.slice j f h]) (rsc (T:=55) 4 (lr d 0)) ?_
 exact⟨_,_,_,_,rfl,g,by omega,by omega,c⟩
theorem eOfNat(h0:aW w a0 n0 c0 x0)(k0:n0<=100000000000):CP 223 #[.slice a0 n0 c0] w (NdE w (· <= n0+38) (x0 * U36)):=by
 have c:=Below.refl w.heap.size w;refine af (n:=7) Tryz.func223 rfl ?_
 refine sr<|ta 2 [.slice none 0 0] 55 (pg) ?_
 intro v1 o b p B;have c:=ae c B;refine nx<|tz 1 ?_
 have g:=b.lt;refine tc 4 268 #[] (dUnit) ?_
 rintro _ v4 ⟨m,l,j,rfl,d,r,B⟩;have c:=ae c B;have b:=b.keep B;have g:=b.lt;refine⟨_,rfl,tc 5 267 #[.slice a0 n0 c0,.slice m l j] (nfMul (h0.keep c) d.a (by omega) (by omega)) ?_⟩;rintro _ v6 ⟨i,e,h,k,rfl,f,q,s,B⟩;have c:=ae c B;have b:=b.keep B;have d:=d.keep B;refine⟨_,rfl,tz 1<|tsw b [.slice i e h] ?_⟩;intro t Y C;have c:=aF c C;have f:=f.cell C (show e=0\/k≠o by omega);have b:=Y;refine nr<|ah (.agg #[.slice i e h]) (rsc (T:=55) 2 (lr b 0)) ?_
 exact⟨_,_,_,_,rfl,f,by omega,by omega,c⟩
theorem eOf(hy:0<=y/\y < 18446744073709551616):CP 182 #[iU y] w (NdE w (· <= 40) (y * U36)):=by
 have c:=Below.refl w.heap.size w;refine af (n:=6) Tryz.func182 rfl ?_
 refine sr<|ta 2 [.slice none 0 0] 55 (pg) ?_
 intro v1 o a p B;have c:=ae c B;refine nx<|tz 1 ?_
 have f:=a.lt;refine tc 4 224 #[.int .u64 y] (nfOf (x:=y) hy.1 hy.2) ?_
 rintro _ v4 ⟨m,h,j,k,rfl,b,t,r,B⟩;have c:=ae c B;have a:=a.keep B;have f:=a.lt;refine⟨_,rfl,tc 5 223 #[.slice m h j] (eOfNat b.nat (by omega)) ?_⟩;rintro _ v6 ⟨i,d,g,l,rfl,e,q,s,B⟩;have c:=ae c B;have a:=a.keep B;have b:=b.keep B;refine⟨_,rfl,tsw a [.slice i d g] ?_⟩;intro u Y C;have c:=aF c C;have b:=b.cell C (show h=0\/k≠o by omega);have e:=e.cell C (show d=0\/l≠o by omega);have a:=Y;refine nr<|ah (.agg #[.slice i d g]) (rsc (T:=55) 2 (lr a 0)) ?_
 exact⟨_,_,_,_,rfl,e,by omega,by omega,c⟩
def sbE(x y:Int):Int:=if y<=x then 0 else 20
theorem eSub(h0:aW w a0 n0 c0 x0)(k0:n0<=100000000000)(h1:aW w a1 n1 c1 x1)(k1:n1<=100000000000):CP 336 #[.agg #[.slice a0 n0 c0],.agg #[.slice a1 n1 c1]] w (NtE (sbE x0 x1) w (· <= n0) (sL x0 x1)):=by
 have d:=Below.refl w.heap.size w;refine af (n:=21) Tryz.func336 rfl ?_
 refine sr<|ta 2 [.slice a0 n0 c0] 55 (pg) ?_
 intro v1 y a t B;have d:=ae d B;have g:=a.lt;refine ta 3 [.slice a1 n1 c1] 55 (pg) ?_
 intro x u b s B;have d:=ae d B;have a:=a.keep B;have g:=a.lt;have k:=b.lt;refine ta 4 [zS] 55 (pg) ?_
 intro z l c o B;have d:=ae d B;have a:=a.keep B;have b:=b.keep B;refine tz 1<|nx<|tz 1<|tl 10 (.slice a0 n0 c0) a 0<|tz 1<|tl 12 (.slice a1 n1 c1) b 0 ?_
 have g:=a.lt;have k:=b.lt;have m:=c.lt;refine tc 13 361 #[.slice a0 n0 c0,.slice a1 n1 c1] (nfSub (h0.keep d) (h1.keep d) (by omega) (by omega)) ?_
 rintro _ v ⟨i,e,h,j,rfl,f,r,p,B⟩;have d:=ae d B;have a:=a.keep B;have b:=b.keep B;have c:=c.keep B;refine⟨_,rfl,tz 5<|nt<|aA [(4,pg l),(5,iI 0),(6,.slice i e h),(7,iI (qP x0 x1))]<|ag<|sr<|tz 1 ?_⟩;by_cases cs:x1<=x0
 ·have t9:(qP x0 x1:Int)=0:=if_pos cs;refine tq 17 (.bool ((qP x0 x1:Int) != 0)) (bF) (congrArg Value.bool (bne_eq_false_iff_eq.2 t9))<|nt<|nk<|sr<|tz 2<|tsw c [.slice i e h] ?_
  intro v10 Y C;have d:=aF d C;have a:=a.chg C (by omega);have b:=b.chg C (by omega);have f:=f.cell C (show e=0\/j≠l by omega);have c:=Y;refine tz 1<|nr<|ah (.tuple #[.agg #[.slice i e h],iI 0]) (dk (T:=55) 4 5 (lr c 0)) ?_
  rw[show sbE x0 x1=0 from if_pos cs];exact⟨_,_,_,_,rfl,f,by omega,by omega,d⟩
 have t11:¬ (qP x0 x1:Int)=0:=by unfold qP; rw[if_neg cs]; decide
 refine tq 17 (.bool ((qP x0 x1:Int) != 0)) (bT) (congrArg Value.bool (bne_iff_ne.2 t11))<|nt<|aL<|sr<|tz 1<|tsw c [zS] ?_
 intro q Y C;have d:=aF d C;have a:=a.chg C (by omega);have b:=b.chg C (by omega);have f:=f.cell C (show e=0\/j≠l by omega);have c:=Y;refine tz 1<|nr<|bE<|ah (.tuple #[.agg #[zS],iI 20]) (dk (T:=55) 4 5 (lr c 0)) ?_
 rw[show sbE x0 x1=20 from if_neg cs,show sL x0 x1=0 from if_neg cs];exact⟨_,_,_,0,rfl,jm _ 0,.inl rfl,by omega,d⟩
theorem Ba:CP 270 #[bF] w λe w'=>∃ g,e=.returned (.func (.func 322) #[] #[pg g])/\Blk w' g [bF] 4/\w.heap.size<=g/\BW w w':=by
 have a:=Below.refl w.heap.size w;refine af (n:=4) Tryz.func270 rfl ?_
 refine sr<|ta 1 [.bool false] 4 (pg) ?_
 intro v1 d b c B;have a:=ae a B;refine tz 1<|nx<|tz 2<|nr<|ah (.func (.func 322) #[] #[pg d]) (rs1 2) ?_
 exact⟨_,rfl,b,c,a⟩
theorem Ck{z0:Nat}(c:Nf w z0 a0 n0 c0 x0)(a:Blk w g [bF] 4):CP 322 #[.slice a0 n0 c0,.slice a1 n1 c1,pg g] w λe w'=>e=.returned (.agg #[.slice a0 n0 c0])/\Nf w' z0 a0 n0 c0 x0/\BW w w':=by
 have h:=a.lt;have f:=c.lt;have d:=Below.refl w.heap.size w;refine af (n:=17) Tryz.func322 rfl ?_
 refine sr ?_
 have h:=a.lt;have f:=c.lt;refine ta 5 [.slice none 0 0] 55 (pg) ?_
 intro v1 i b j B;have d:=ae d B;have a:=a.keep B;have c:=c.keep B;refine nt<|ag<|sr<|tl 6 (.bool false) a 0<|tz 1<|tn 8<|tn 9<|tn 10<|tz 1<|nt<|nk<|sr<|tz 2<|tsw b [.slice a0 n0 c0] ?_
 intro k Y C;have d:=aF d C;have a:=a.chg C (by omega);have c:=c.cell C (show n0=0\/z0≠i by omega);have b:=Y;refine nt<|aA [(5,pg i)]<|bB<|ah (.agg #[.slice a0 n0 c0]) (rsc (T:=55) 5 (lr b 0)) ?_
 exact⟨rfl,c,d⟩
def dvZ(y:Int):Int:=if y=0 then 21 else 0
theorem wF(h0:aW w a0 n0 c0 x0)(h1:aW w a1 n1 c1 x1)(u:aW w a2 n2 c2 x2)(c:Blk w g [bF] 4)(k0:n0<=100000000000:=by omega)(k1:n1<=100000000000:=by omega)(k2:n2<=100000000000:=by omega):CP 269 #[.slice a0 n0 c0,.slice a1 n1 c1,.slice a2 n2 c2,.func (.func 322) #[] #[pg g]] w (NtE (dvZ x2) w (· <= n0+n1+n2) (x0 * x1 / x2)):=by
 have k:=c.lt;have d:=Below.refl w.heap.size w;refine af (n:=28) Tryz.func269 rfl ?_
 refine sr ?_
 have k:=c.lt;refine ta 8 [zS] 55 (pg) ?_
 intro v1 o a x B;have d:=ae d B;have c:=c.keep B;refine tz 1<|nx<|tz 3 ?_
 have k:=c.lt;have p:=a.lt;refine tc 17 321 #[.slice a0 n0 c0,.slice a1 n1 c1,.slice a2 n2 c2] (CB (h0.keep d) (h1.keep d) (u.keep d) (by omega) (by omega) (by omega)) ?_
 rintro _ v4 ⟨i,e,h,q,r,j,m,l,rfl,b,f,v,z,y,A,B⟩;have d:=ae d B;have c:=c.keep B;have a:=a.keep B;refine⟨_,rfl,tz 7<|nt<|aA [(3,.func (.func 322) #[] #[pg g]),(8,pg o),(9,iI 0),(10,.slice i e h),(11,.slice r j m),(12,iI (oy x2))]<|ag<|sr<|tz 1 ?_⟩;by_cases s:x2=0
 ·have t5:¬ (oy x2:Int)=0:=by unfold oy; rw[if_pos s]; decide
  refine tq 22 (.bool ((oy x2:Int) != 0)) (bT) (congrArg Value.bool (bne_iff_ne.2 t5))<|nt<|aL<|sr<|tz 1<|tsw a [zS] ?_
  intro v6 Y C;have d:=aF d C;have c:=c.chg C (by omega);have b:=b.cell C (show e=0\/q≠o by omega);have f:=f.cell C (show j=0\/l≠o by omega);have a:=Y;refine tz 1<|nr<|bE<|ah (.tuple #[.agg #[zS],iI 21]) (dk (T:=55) 8 9 (lr a 0)) ?_
  subst s;rw[show dvZ 0=21 from if_pos rfl,Int.ediv_zero];exact⟨_,_,_,0,rfl,jm _ 0,.inl rfl,by omega,d⟩
 have t7:(oy x2:Int)=0:=if_neg s;refine tq 22 (.bool ((oy x2:Int) != 0)) (bF) (congrArg Value.bool (bne_eq_false_iff_eq.2 t7))<|nt<|nk<|sr<|tz 3 ?_
 have k:=c.lt;have p:=a.lt;refine tc 27 322 #[.slice i e h,.slice r j m,pg g] (Ck b c) ?_
 rintro _ E ⟨rfl,t,B⟩;have b:=t;have d:=ae d B;have c:=c.keep B;have a:=a.keep B;have f:=f.keep B;refine⟨_,rfl,tsw a [.slice i e h] ?_⟩;intro D Y C;have d:=aF d C;have c:=c.chg C (by omega);have b:=b.cell C (show e=0\/q≠o by omega);have f:=f.cell C (show j=0\/l≠o by omega);have a:=Y;refine tz 1<|nr<|ah (.tuple #[.agg #[.slice i e h],iI 0]) (dk (T:=55) 8 9 (lr a 0)) ?_
 rw[show dvZ x2=0 from if_neg s];exact⟨_,_,_,_,rfl,b,by omega,by omega,d⟩
theorem EP(h0:aW w a0 n0 c0 x0)(k0:n0<=100000000000)(h1:aW w a1 n1 c1 x1)(k1:n1<=100000000000)(D:aW w a2 n2 c2 x2)(k2:n2<=100000000000):CP 225 #[.agg #[.slice a0 n0 c0],.agg #[.slice a1 n1 c1],.agg #[.slice a2 n2 c2]] w (NtE (dvZ x2) w (· <= n0+n1+n2) (x0 * x1 / x2)):=by
 have e:=Below.refl w.heap.size w;refine af (n:=18) Tryz.func225 rfl ?_
 refine sr<|ta 3 [.slice a0 n0 c0] 55 (pg) ?_
 intro v1 v a J B;have e:=ae e B;have i:=a.lt;refine ta 4 [.slice a1 n1 c1] 55 (pg) ?_
 intro M t b I B;have e:=ae e B;have a:=a.keep B;have i:=a.lt;have m:=b.lt;refine ta 5 [.slice a2 n2 c2] 55 (pg) ?_
 intro N u c F B;have e:=ae e B;have a:=a.keep B;have b:=b.keep B;have i:=a.lt;have m:=b.lt;have o:=c.lt;refine ta 6 [zS] 55 (pg) ?_
 intro L y d E B;have e:=ae e B;have a:=a.keep B;have b:=b.keep B;have c:=c.keep B;refine tz 1<|nt<|ag ?_
 have e:=e.drew;have a:=a.drew;have b:=b.drew;have c:=c.drew;have d:=d.drew;refine dx (λs=>Blk s v [.slice a0 n0 c0] 55/\Blk s t [.slice a1 n1 c1] 55/\Blk s u [.slice a2 n2 c2] 55) (λ_=>false) ⟨a,b,c⟩ ?_
 refine z 0 8 (pg v)<|zl 1 9 (.slice a0 n0 c0) (λ_ h=>h.1) 0<|z 2 10 (pg t)<|zl 3 11 (.slice a1 n1 c1) (λ_ h=>h.2.1) 0<|z 4 12 (pg u)<|zl 5 13 (.slice a2 n2 c2) (λ_ h=>h.2.2) 0 ?_
 have i:=a.lt;have m:=b.lt;have o:=c.lt;have q:=d.lt;refine zc 6 14 270 #[bF] (Ba) ?_
 rintro _ K ⟨g,rfl,p,O,B⟩;have e:=ae e B;have a:=a.keep B;have b:=b.keep B;have c:=c.keep B;have d:=d.keep B;refine⟨_,rfl,⟨a,b,c⟩,?_⟩;have i:=a.lt;have m:=b.lt;have o:=c.lt;have q:=d.lt;have G:=p.lt;refine zc 7 15 269 #[.slice a0 n0 c0,.slice a1 n1 c1,.slice a2 n2 c2,.func (.func 322) #[] #[pg g]] (wF (h0.keep e) (h1.keep e) (D.keep e) p) ?_
 rintro _ v11 ⟨l,f,k,r,rfl,j,A,x,B⟩;have e:=ae e B;have a:=a.keep B;have b:=b.keep B;have c:=c.keep B;have d:=d.keep B;have p:=p.keep B;refine⟨_,rfl,⟨a,b,c⟩,z 8 16 (.agg #[.slice l f k])<|z 9 17 (iI (dvZ x2))<|zsw 10 d [.slice l f k] ?_⟩;intro H Y C;have e:=aF e C;have a:=a.chg C (by omega);have b:=b.chg C (by omega);have c:=c.chg C (by omega);have p:=p.chg C (by omega);have j:=j.cell C (show f=0\/r≠y by omega);have d:=Y;refine⟨⟨a,b,c⟩,z 11 7 (iI (dvZ x2))<|aS<|aj<|aA [(6,pg y),(7,iI (dvZ x2))]<|bB<|ah (.tuple #[.agg #[.slice l f k],iI (dvZ x2)]) (dk (T:=55) 6 7 (lr d 0)) ?_⟩;exact⟨_,_,_,_,rfl,j,by omega,by omega,e⟩
theorem eOver(h0:aW w a0 n0 c0 x0)(k0:n0<=100000000000)(hy:0<=y/\y < 18446744073709551616):CP 283 #[.agg #[.slice a0 n0 c0],iU y] w (NtE (dvZ y) w (· <= n0+2) (x0 / y)):=by
 have d:=Below.refl w.heap.size w;refine af (n:=15) Tryz.func283 rfl ?_
 refine sr<|ta 2 [.slice a0 n0 c0] 55 (pg) ?_
 intro v1 M a N B;have d:=ae d B;have i:=a.lt;refine ta 4 [zS] 55 (pg) ?_
 intro S s b L B;have d:=ae d B;have a:=a.keep B;refine tz 1<|nt<|ag ?_
 have d:=d.drew;have a:=a.drew;have b:=b.drew;refine gd1 a ?_
 refine z 0 6 (pg M)<|zl 1 7 (.slice a0 n0 c0) (λ_ h=>h) 0<|z 3 9 (iU y) ?_
 have i:=a.lt;have m:=b.lt;refine zc 2 8 224 #[iU 1] (nfOf (x:=1) (by decide) (by decide)) ?_
 rintro _ v6 ⟨A,q,D,t,rfl,c,O,P,B⟩;have d:=ae d B;have a:=a.keep B;have b:=b.keep B;refine⟨_,rfl,a,?_⟩;have i:=a.lt;have m:=b.lt;refine zc 4 10 224 #[iU y] (nfOf (x:=y) hy.1 hy.2) ?_
 rintro _ R ⟨E,p,v,u,rfl,e,K,H,B⟩;have d:=ae d B;have a:=a.keep B;have b:=b.keep B;have c:=c.keep B;refine⟨_,rfl,a,?_⟩;have i:=a.lt;have m:=b.lt;refine zc 5 11 270 #[bF] (Ba) ?_
 rintro _ Q ⟨g,rfl,o,U,B⟩;have d:=ae d B;have a:=a.keep B;have b:=b.keep B;have c:=c.keep B;have e:=e.keep B;refine⟨_,rfl,a,?_⟩;have i:=a.lt;have m:=b.lt;have I:=o.lt;refine zc 6 12 269 #[.slice a0 n0 c0,.slice A q D,.slice E p v,.func (.func 322) #[] #[pg g]] (wF (h0.keep d) c.nat e.nat o) ?_
 rintro _ v11 ⟨l,f,k,r,rfl,j,G,F,B⟩;have d:=ae d B;have a:=a.keep B;have b:=b.keep B;have c:=c.keep B;have e:=e.keep B;have o:=o.keep B;refine⟨_,rfl,a,z 7 13 (.agg #[.slice l f k])<|z 8 14 (iI (dvZ y))<|zsw 9 b [.slice l f k] ?_⟩;intro J Y C;have d:=aF d C;have a:=a.chg C (by omega);have c:=c.cell C (show q=0\/t≠s by omega);have e:=e.cell C (show p=0\/u≠s by omega);have o:=o.chg C (by omega);have j:=j.cell C (show f=0\/r≠s by omega);have b:=Y;refine⟨a,z 10 5 (iI (dvZ y))<|aS<|aj<|aA [(4,pg s),(5,iI (dvZ y))]<|bB<|ah (.tuple #[.agg #[.slice l f k],iI (dvZ y)]) (dk (T:=55) 4 5 (lr b 0)) ?_⟩;exact⟨_,_,_,_,rfl,j.eqv (by rw[Int.mul_one]),by omega,by omega,d⟩
end
end Fo
end Go.Proofs.YtpoifdokmjhclaaGreat
