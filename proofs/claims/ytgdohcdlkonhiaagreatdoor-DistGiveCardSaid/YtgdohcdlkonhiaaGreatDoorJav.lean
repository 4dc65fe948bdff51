import Derived.Test.YtgdohcdlkonhiaaGreatDoorJau
import Derived.Test.YtgdohcdlkonhiaaGreatDoorJak
set_option maxRecDepth 100000
set_option maxHeartbeats 8000000
namespace Go.Proofs.YtgdohcdlkonhiaaGreatDoor
namespace Fo
open Go.RowKit Go.Lib Pg Lim Gl
set_option linter.unusedVariables false
structure Nf (w:World) (z:Nat) (ao:Option Addr) (n c:Nat) (x:Int):Prop where
 lt:n=0\/z < w.heap.size
 to:∀ w':World,(n≠0->w'.heap[z]?=w.heap[z]?)->ed w' ao n c x
section
variable {w w':World} {z n c:Nat} {ao:Option Addr} {x y:Int}
theorem Nf.o (h:Nf w z ao n c x):ed w ao n c x:=h.to w (fun _=>rfl)
theorem Nf.nat (h:Nf w z ao n c x):aI w ao n c x:=h.o.a
theorem Nf.keep (h:Nf w z ao n c x) (hb:Below w.heap.size w w'):Nf w' z ao n c x :=
 ⟨h.lt.imp_right fun h=>Nat.lt_of_lt_of_le h hb.size,fun b a=>h.to b fun hn=>(a hn).trans (hb.block z (h.lt.resolve_left hn))⟩
theorem Nf.drew (h:Nf w z ao n c x):Nf w.drew z ao n c x:=h.keep (Below.refl _ _).drew
theorem Nf.cell {g:Nat} (h:Nf w z ao n c x) (hc:Chg (·=g) w w') (a:n=0\/z≠g):Nf w' z ao n c x :=
 ⟨h.lt.imp_right fun h=>Nat.lt_of_lt_of_le h hc.size,fun d b=>h.to d fun hn=>(b hn).trans (hc.same z (h.lt.resolve_left hn) (a.resolve_left hn))⟩
theorem Nf.eqv (h:Nf w z ao n c x) (e:x=y):Nf w z ao n c y:=e▸h
theorem gK (w:World) (z:Nat):Nf w z none 0 0 0:=⟨.inl rfl,fun w2 _=>⟨0,0,[],rfl,Nat.le_refl _,jL,⟨.inl rfl,fun i hi=>by simp at hi⟩⟩⟩
theorem lH {B T:Nat} (h:om w B T ao n c x):∃ z,Nf w z ao n c x/\(n=0\/B<=z):=by
 obtain⟨b,o,l,d,f,g,a,k,j⟩:=h.ex;refine⟨b,⟨?_,fun m hw=>⟨b,o,l,d,f,g,⟨a.loc,fun i hi=>?_⟩⟩⟩,?_⟩
 ·rcases a.lt with e | e
  ·exact .inl (by rw[<- d,e];rfl)
  ·exact .inr e
 ·rw[World.cell?_of_block (w:=w) (hw (by omega))];exact a.cell i hi
 ·rcases j with e | e
  ·exact .inl (by rw[<- d,e];rfl)
  ·exact .inr e.1
end
structure NsE (w:World) (P:Nat->Prop) (V:Int) (e:Ending) (w':World):Prop where
 ex:∃ a k d z,e=.returned (.slice a k d)/\Nf w' z a k d V/\(k=0\/w.heap.size<=z)/\P k/\Below w.heap.size w w'
structure NuE (er:Int) (w:World) (P:Nat->Prop) (V:Int) (e:Ending) (w':World):Prop where
 ex:∃ a k d z,e=.returned (.tuple #[.slice a k d,.int .i64 er])/\Nf w' z a k d V/\(k=0\/w.heap.size<=z)/\P k/\Below w.heap.size w w'
structure NdE (w:World) (P:Nat->Prop) (V:Int) (e:Ending) (w':World):Prop where
 ex:∃ a k d z,e=.returned (.agg #[.slice a k d])/\Nf w' z a k d V/\(k=0\/w.heap.size<=z)/\P k/\Below w.heap.size w w'
structure NtE (er:Int) (w:World) (P:Nat->Prop) (V:Int) (e:Ending) (w':World):Prop where
 ex:∃ a k d z,e=.returned (.tuple #[.agg #[.slice a k d],.int .i64 er])/\Nf w' z a k d V/\(k=0\/w.heap.size<=z)/\P k/\Below w.heap.size w w'
section
variable {w:World} {a0 a1 a2:Option Addr} {n0 c0 n1 c1 n2 c2:Nat} {x0 x1 x2:Int}
theorem vc (h:aI w a0 n0 c0 x0) (c:aI w a1 n1 c1 x1) (hn:n0<=1099511627776) (b:n1<=1099511627776):Calls Tryz.prog 12 #[.slice a0 n0 c0,.slice a1 n1 c1] w (NsE w (· <= n0+n1+1) (x0+x1)):=by
 refine(fAdd h c (by omega) (by omega)).mono ?_
 rintro e g ⟨a,k,d,rfl,N,hk,B⟩;obtain⟨z,M,f⟩:=lH N;exact⟨a,k,d,z,rfl,M,f,hk,B⟩
theorem vh (h:aI w a0 n0 c0 x0) (c:aI w a1 n1 c1 x1) (hn:n0<=274877906944) (b:n1<=274877906944):Calls Tryz.prog 10 #[.slice a0 n0 c0,.slice a1 n1 c1] w (NsE w (· <= n0+n1) (x0 * x1)):=by
 refine(fMul h c (by omega) (by omega)).mono ?_
 rintro e g ⟨a,k,d,rfl,N,hk,B⟩;obtain⟨z,M,f⟩:=lH N;exact⟨a,k,d,z,rfl,M,f,hk,B⟩
theorem nfSub (h:aI w a0 n0 c0 x0) (c:aI w a1 n1 c1 x1) (hn:n0<=274877906944) (b:n1<=274877906944):Calls Tryz.prog 36 #[.slice a0 n0 c0,.slice a1 n1 c1] w (NuE (kW x0 x1) w (· <= n0) (ff x0 x1)):=by
 refine(fSub h c (by omega) (by omega)).mono ?_
 rintro e g ⟨a,k,d,rfl,N,hk,B⟩;obtain⟨z,M,f⟩:=lH N;exact⟨a,k,d,z,rfl,M,f,hk,B⟩
theorem mW {x:Int} (f:0<=x) (h1:x < 18446744073709551616):Calls Tryz.prog 9 #[.int .u64 x] w (NsE w (· <= 1) x):=by
 refine(pY x w f h1).mono ?_
 rintro e i ⟨v,r,rfl,b,d,hlen,g⟩;obtain⟨a,c,rfl,N⟩:=ig b d;obtain⟨z,M,h⟩:=lH N;exact⟨a,_,c,z,rfl,M,h,hlen,g⟩
structure MdE (w:World) (n:Nat) (V R:Int) (er:Int) (e:Ending) (w':World):Prop where
 ex:∃ a k d z a' k' d' z',e=.returned (.tuple #[.slice a k d,.slice a' k' d',.int .i64 er])/\Nf w' z a k d V/\Nf w' z' a' k' d' R/\(k=0\/w.heap.size<=z)/\(k'=0\/w.heap.size<=z')/\k<=n/\k'<=n+n/\Below w.heap.size w w'
theorem Ay (h:aI w a0 n0 c0 x0) (m:aI w a1 n1 c1 x1) (g:aI w a2 n2 c2 x2) (hn:n0<=274877906944) (b:n1<=274877906944) (c:n2<=274877906944):Calls Tryz.prog 223 #[.slice a0 n0 c0,.slice a1 n1 c1,.slice a2 n2 c2] w (MdE w (n0+n1+n2) (x0 * x1 / x2) (rp (x0 * x1) x2) (fx x2)):=by
 refine(Ca h m g hn b c).mono ?_
 rintro e s ⟨a,k,d,n,o,r,rfl,N,q,hk,l,B⟩;obtain⟨z,M,p⟩:=lH N;obtain⟨j,i,f⟩:=lH q;exact⟨a,k,d,z,n,o,r,j,rfl,M,i,p,f,by omega,by omega,B⟩
theorem D7 (h:aI w a0 n0 c0 x0) (m:aI w a1 n1 c1 x1) (hn:n0<=274877906944) (c:n1<=274877906944):Calls Tryz.prog 128 #[.slice a0 n0 c0,.slice a1 n1 c1] w (MdE w (n0+n1) (x0 / x1) (rp x0 x1) (fx x1)):=by
 refine(fDiv h m (by omega) (by omega)).mono ?_
 rintro e q ⟨a,k,d,n,o,g,rfl,N,f,hk,l,B⟩;obtain⟨z,M,p⟩:=lH N;obtain⟨j,i,b⟩:=lH f;exact⟨a,k,d,z,n,o,g,j,rfl,M,i,p,b,by omega,by omega,B⟩
end
section
variable {w:World}{a0 a1 a2:Option Addr}{n0 c0 n1 c1 g n2 c2:Nat}{x0 x1 y x2:Int}
theorem kP(q:aI w a0 n0 c0 x0)(k0:n0<=1000000000000)(h1:aI w a1 n1 c1 x1)(k1:n1<=1000000000000):Calls Tryz.prog 8 #[.agg #[.slice a0 n0 c0],.agg #[.slice a1 n1 c1]] w (NdE w (· <= n0+n1+1) (x0+x1)):=by
 have d:=Below.refl w.heap.size w;refine ax (n:=11) Tryz.func8 rfl ?_
 refine ae (ah (ta 2 [.slice a0 n0 c0] 26 (pg) ?_));intro v1 g2 a s B;replace d:=aj d B;have h:=a.lt;refine ta 3 [.slice a1 n1 c1] 26 (pg) ?_
 intro v3 g4 b r B;replace d:=aj d B;replace a:=a.keep B;have h:=a.lt;have j:=b.lt;refine ta 4 [.slice none 0 0] 26 (pg) ?_
 intro v5 g6 e m B;replace d:=aj d B;replace a:=a.keep B;replace b:=b.keep B;refine af (aa (ae (ah (t 5 (pg g2) (tl 6 (.slice a0 n0 c0) a 0 (t 7 (pg g4) (tl 8 (.slice a1 n1 c1) b 0 ?_)))))));have h:=a.lt;have j:=b.lt;have l:=e.lt;refine tc 9 12 #[.slice a0 n0 c0,.slice a1 n1 c1] (vc (q.keep d) (h1.keep d) (by omega) (by omega)) ?_
 rintro _ u ⟨g,c,f,k,rfl,i,p,o,B⟩;refine⟨_,rfl,?_⟩;replace d:=aj d B;replace a:=a.keep B;replace b:=b.keep B;replace e:=e.keep B;refine t 10 (.agg #[.slice g c f]) (ts e 0 (.agg #[.slice g c f]) [.slice g c f] [.slice g c f] ?_);intro v9 Y C;replace d:=aL d C (by omega);replace a:=a.chg C (show g2≠g6 by omega);replace b:=b.chg C (show g4≠g6 by omega);replace i:=i.cell C (show c=0\/k≠g6 by omega);have e:=Y;refine af (aa (ay (aA (.agg #[.slice g c f]) (rsc (T:=26) 4 (lr e 0)) ?_)));exact⟨_,_,_,_,rfl,i,by omega,by omega,d⟩
theorem eTimes(u:aI w a0 n0 c0 x0)(k0:n0<=100000000000)(hy:0<=y/\y < 18446744073709551616):Calls Tryz.prog 156 #[.agg #[.slice a0 n0 c0],.int .u64 y] w (NdE w (· <= n0+1) (x0 * y)):=by
 have c:=Below.refl w.heap.size w;refine ax (n:=11) Tryz.func156 rfl ?_
 refine ae (ah (ta 2 [.slice a0 n0 c0] 26 (pg) ?_));intro v1 g2 a A B;replace c:=aj c B;have i:=a.lt;refine ta 4 [.slice none 0 0] 26 (pg) ?_
 intro v3 g4 b v B;replace c:=aj c B;replace a:=a.keep B;refine af (aa (ae ?_));replace c:=c.drew;replace a:=a.drew;replace b:=b.drew;refine aO (fun s=>Blk s g2 [.slice a0 n0 c0] 26) (fun _=>false) a ?_
 refine z 0 5 (pg g2) (zl 1 6 (.slice a0 n0 c0) (fun _ h=>h) 0 (z 2 7 (iU y) ?_));have i:=a.lt;have k:=b.lt;refine zc 3 8 9 #[iU y] (mW (x:=y) hy.1 hy.2) ?_
 rintro _ v6 ⟨p,l,q,m,rfl,e,D,E,B⟩;replace c:=aj c B;replace a:=a.keep B;replace b:=b.keep B;refine⟨_,rfl,a,?_⟩;have i:=a.lt;have k:=b.lt;refine zc 4 9 10 #[.slice a0 n0 c0,.slice p l q] (vh (u.keep c) e.nat (by omega) (by omega)) ?_
 rintro _ F ⟨g,d,f,o,rfl,j,t,r,B⟩;replace c:=aj c B;replace a:=a.keep B;replace b:=b.keep B;replace e:=e.keep B;refine⟨_,rfl,a,?_⟩;refine zr 5 10 (.agg #[.slice g d f]) (by intro _ _;kernel_rfl) (zs 6 b 0 (.agg #[.slice g d f]) [.slice g d f] [.slice g d f] ?_);intro v9 Y C;replace c:=aL c C (by omega);replace a:=a.chg C (show g2≠g4 by omega);replace e:=e.cell C (show l=0\/m≠g4 by omega);replace j:=j.cell C (show d=0\/o≠g4 by omega);have b:=Y;refine⟨a,?_⟩;refine aG (aa (ay (aA (.agg #[.slice g d f]) (rsc (T:=26) 4 (lr b 0)) ?_)));exact⟨_,_,_,_,rfl,j,by omega,by omega,c⟩
theorem Ak(o:aI w a0 n0 c0 x0)(k0:n0<=100000000000):Calls Tryz.prog 58 #[.slice a0 n0 c0] w (NdE w (· <= n0+38) (x0 * U36)):=by
 have f:=Below.refl w.heap.size w;refine ax (n:=7) Tryz.func58 rfl ?_
 refine ae (ah (ta 2 [.slice none 0 0] 26 (pg) ?_));intro v1 g2 b p B;replace f:=aj f B;refine af (aa (ae (ah (t 3 (.slice a0 n0 c0) ?_))));have i:=b.lt;refine tc 4 116 #[] (mV) ?_
 rintro _ v4 ⟨m,l,j,rfl,g,r,B⟩;refine⟨_,rfl,?_⟩;replace f:=aj f B;replace b:=b.keep B;have i:=b.lt;refine tc 5 10 #[.slice a0 n0 c0,.slice m l j] (vh (o.keep f) g.a (by omega) (by omega)) ?_
 rintro _ v6 ⟨d,c,e,k,rfl,h,q,s,B⟩;refine⟨_,rfl,?_⟩;replace f:=aj f B;replace b:=b.keep B;replace g:=g.keep B;refine t 6 (.agg #[.slice d c e]) (ts b 0 (.agg #[.slice d c e]) [.slice d c e] [.slice d c e] ?_);intro u Y C;replace f:=aL f C (by omega);clear g;replace h:=h.cell C (show c=0\/k≠g2 by omega);have b:=Y;refine af (aa (ay (aA (.agg #[.slice d c e]) (rsc (T:=26) 2 (lr b 0)) ?_)));exact⟨_,_,_,_,rfl,h,by omega,by omega,f⟩
theorem eOf(hy:0<=y/\y < 18446744073709551616):Calls Tryz.prog 19 #[.int .u64 y] w (NdE w (· <= 40) (y * U36)):=by
 have d:=Below.refl w.heap.size w;refine ax (n:=6) Tryz.func19 rfl ?_
 refine ae (ah (ta 2 [.slice none 0 0] 26 (pg) ?_));intro v1 g2 a p B;replace d:=aj d B;refine af (aa (ae (ah (t 3 (iU y) ?_))));have i:=a.lt;refine tc 4 9 #[iU y] (mW (x:=y) hy.1 hy.2) ?_
 rintro _ v4 ⟨m,h,j,l,rfl,b,o,r,B⟩;refine⟨_,rfl,?_⟩;replace d:=aj d B;replace a:=a.keep B;have i:=a.lt;refine tc 5 58 #[.slice m h j] (Ak b.nat (by omega)) ?_
 rintro _ v6 ⟨e,c,f,k,rfl,g,q,s,B⟩;refine⟨_,rfl,?_⟩;replace d:=aj d B;replace a:=a.keep B;replace b:=b.keep B;refine ts a 0 (.agg #[.slice e c f]) [.slice e c f] [.slice e c f] ?_
 intro u Y C;replace d:=aL d C (by omega);replace b:=b.cell C (show h=0\/l≠g2 by omega);replace g:=g.cell C (show c=0\/k≠g2 by omega);have a:=Y;refine af (aa (ay (aA (.agg #[.slice e c f]) (rsc (T:=26) 2 (lr a 0)) ?_)));exact⟨_,_,_,_,rfl,g,by omega,by omega,d⟩
def sbE(x y:Int):Int:=if y<=x then 0 else 20
theorem sX(q:aI w a0 n0 c0 x0)(k0:n0<=100000000000)(h1:aI w a1 n1 c1 x1)(k1:n1<=100000000000):Calls Tryz.prog 6 #[.agg #[.slice a0 n0 c0],.agg #[.slice a1 n1 c1]] w (NtE (sbE x0 x1) w (· <= n0) (ff x0 x1)):=by
 have g:=Below.refl w.heap.size w;refine ax (n:=21) Tryz.func6 rfl ?_
 refine ae (ah (ta 2 [.slice a0 n0 c0] 26 (pg) ?_));intro v1 g2 a s B;replace g:=aj g B;have i:=a.lt;refine ta 3 [.slice a1 n1 c1] 26 (pg) ?_
 intro v3 g4 c r B;replace g:=aj g B;replace a:=a.keep B;have i:=a.lt;have k:=c.lt;refine ta 4 [.slice none 0 0] 26 (pg) ?_
 intro v5 g6 f m B;replace g:=aj g B;replace a:=a.keep B;replace c:=c.keep B;refine t 5 (iI 0) (af (aa (ae (ah (t 9 (pg g2) (tl 10 (.slice a0 n0 c0) a 0 (t 11 (pg g4) (tl 12 (.slice a1 n1 c1) c 0 ?_))))))));have i:=a.lt;have k:=c.lt;have l:=f.lt;refine tc 13 36 #[.slice a0 n0 c0,.slice a1 n1 c1] (nfSub (q.keep g) (h1.keep g) (by omega) (by omega)) ?_
 rintro _ u ⟨e,b,d,j,rfl,h,p,o,B⟩;refine⟨_,rfl,?_⟩;replace g:=aj g B;replace a:=a.keep B;replace c:=c.keep B;replace f:=f.keep B;refine t 8 (.tuple #[.slice e b d,iI (kW x0 x1)]) (t 14 (.slice e b d) (t 15 (iI (kW x0 x1)) (t 6 (.slice e b d) (t 7 (iI (kW x0 x1)) (af (aa (aD [(4,pg g6),(5,iI 0),(6,.slice e b d),(7,iI (kW x0 x1))] (ae (ae (ah (t 16 (iI (kW x0 x1)) ?_)))))))))));by_cases cs:x1<=x0
 ·have t9:(kW x0 x1:Int)=0:=if_pos cs;refine tq 17 (.bool ((kW x0 x1:Int) != 0)) (bF) (congrArg Value.bool (bne_eq_false_iff_eq.2 t9)) (af (aa (aZ (aM (aa (ae (ah (t 19 (.slice e b d) (t 20 (.agg #[.slice e b d]) (ts f 0 (.agg #[.slice e b d]) [.slice e b d] [.slice e b d] ?_))))))))));intro v10 Y C;replace g:=aL g C (by omega);replace a:=a.chg C (show g2≠g6 by omega);replace c:=c.chg C (show g4≠g6 by omega);replace h:=h.cell C (show b=0\/j≠g6 by omega);have f:=Y;refine t 5 (iI 0) (af (aa (ay (aA (.tuple #[.agg #[.slice e b d],iI 0]) (dP (T:=26) 4 5 (lr f 0)) ?_))));rw[show sbE x0 x1=0 from if_pos cs];exact⟨_,_,_,_,rfl,h,by omega,by omega,g⟩
 ·have t11:¬ (kW x0 x1:Int)=0:=by unfold kW; rw[if_neg cs]; decide
  refine tq 17 (.bool ((kW x0 x1:Int) != 0)) (bT) (congrArg Value.bool (bne_iff_ne.2 t11)) (af (aa (bJ (ae (ah (t 18 (.agg #[.slice none 0 0]) (ts f 0 (.agg #[.slice none 0 0]) [.slice none 0 0] [.slice none 0 0] ?_)))))));intro v12 Y C;replace g:=aL g C (by omega);replace a:=a.chg C (show g2≠g6 by omega);replace c:=c.chg C (show g4≠g6 by omega);replace h:=h.cell C (show b=0\/j≠g6 by omega);have f:=Y;refine t 5 (iI 20) (af (aa (ay (dD (aA (.tuple #[.agg #[.slice none 0 0],iI 20]) (dP (T:=26) 4 5 (lr f 0)) ?_)))));rw[show sbE x0 x1=20 from if_neg cs,show ff x0 x1=0 from if_neg cs];exact⟨_,_,_,0,rfl,gK _ 0,.inl rfl,by omega,g⟩
theorem mQ:Calls Tryz.prog 155 #[.bool false] w fun e w'=>∃ g,e=.returned (.func (.func 224) #[] #[pg g])/\Blk w' g [.bool false] 4/\w.heap.size<=g/\Below w.heap.size w w':=by
 have a:=Below.refl w.heap.size w;refine ax (n:=4) Tryz.func155 rfl ?_
 refine ae (ah (ta 1 [bF] 4 (pg) ?_));intro v1 g2 b c B;replace a:=aj a B;refine t 2 (.nilFunc) (af (aa (ae (ah (t 3 (.func (.func 224) #[] #[pg g2]) (t 2 (.func (.func 224) #[] #[pg g2]) (af (aa (ay (aA (.func (.func 224) #[] #[pg g2]) (rs1 2) ?_))))))))));exact⟨_,rfl,b,c,a⟩
theorem Ae{z0:Nat}(c:Nf w z0 a0 n0 c0 x0)(a:Blk w g [.bool false] 4):Calls Tryz.prog 224 #[.slice a0 n0 c0,.slice a1 n1 c1,pg g] w fun e w'=>e=.returned (.agg #[.slice a0 n0 c0])/\Nf w' z0 a0 n0 c0 x0/\Below w.heap.size w w':=by
 have h:=a.lt;have f:=c.lt;have d:=Below.refl w.heap.size w;refine ax (n:=17) Tryz.func224 rfl ?_
 refine ae (ah ?_);have h:=a.lt;have f:=c.lt;refine ta 5 [.slice none 0 0] 26 (pg) ?_
 intro v1 g2 b i B;replace d:=aj d B;replace a:=a.keep B;replace c:=c.keep B;refine af (aa (ae (ae (ah (tl 6 (bF) a 0 (t 7 (bF) (tn 8 (tn 9 (tn 10 (t 11 (bF) (af (aa (aZ (aM (aa (ae (ah (t 15 (.slice a0 n0 c0) (t 16 (.agg #[.slice a0 n0 c0]) (ts b 0 (.agg #[.slice a0 n0 c0]) [.slice a0 n0 c0] [.slice a0 n0 c0] ?_))))))))))))))))))));intro v3 Y C;replace d:=aL d C (by omega);replace a:=a.chg C (show g≠g2 by omega);replace c:=c.cell C (show n0=0\/z0≠g2 by omega);have b:=Y;refine af (aa (aD [(5,pg g2)] (ay (aA (.agg #[.slice a0 n0 c0]) (rsc (T:=26) 5 (lr b 0)) ?_))));exact⟨rfl,c,d⟩
def dvZ(y:Int):Int:=if y=0 then 21 else 0
theorem iO(x:aI w a0 n0 c0 x0)(k0:n0<=100000000000)(h1:aI w a1 n1 c1 x1)(k1:n1<=100000000000)(u:aI w a2 n2 c2 x2)(k2:n2<=100000000000)(h:Blk w g [.bool false] 4):Calls Tryz.prog 154 #[.slice a0 n0 c0,.slice a1 n1 c1,.slice a2 n2 c2,.func (.func 224) #[] #[pg g]] w (NtE (dvZ x2) w (· <= n0+n1+n2) (x0 * x1 / x2)):=by
 have m:=h.lt;have i:=Below.refl w.heap.size w;refine ax (n:=28) Tryz.func154 rfl ?_
 refine ae (ah ?_);have m:=h.lt;refine ta 8 [.slice none 0 0] 26 (pg) ?_
 intro v1 g2 b y B;replace i:=aj i B;replace h:=h.keep B;refine t 9 (iI 0) (af (aa (ae (ah (t 14 (.slice a0 n0 c0) (t 15 (.slice a1 n1 c1) (t 16 (.slice a2 n2 c2) ?_)))))));have m:=h.lt;have q:=b.lt;refine tc 17 223 #[.slice a0 n0 c0,.slice a1 n1 c1,.slice a2 n2 c2] (Ay (x.keep i) (h1.keep i) (u.keep i) (by omega) (by omega) (by omega)) ?_
 rintro _ v4 ⟨d,a,c,r,k,f,j,p,rfl,e,l,v,A,z,D,B⟩;refine⟨_,rfl,?_⟩;replace i:=aj i B;replace h:=h.keep B;replace b:=b.keep B;refine t 13 (.tuple #[.slice d a c,.slice k f j,iI (fx x2)]) (t 18 (.slice d a c) (t 19 (.slice k f j) (t 20 (iI (fx x2)) (t 10 (.slice d a c) (t 11 (.slice k f j) (t 12 (iI (fx x2)) (af (aa (aD [(3,.func (.func 224) #[] #[pg g]),(8,pg g2),(9,iI 0),(10,.slice d a c),(11,.slice k f j),(12,iI (fx x2))] (ae (ae (ah (t 21 (iI (fx x2)) ?_)))))))))))));by_cases s:x2=0
 ·have t5:¬ (fx x2:Int)=0:=by unfold fx; rw[if_pos s]; decide
  refine tq 22 (.bool ((fx x2:Int) != 0)) (bT) (congrArg Value.bool (bne_iff_ne.2 t5)) (af (aa (bJ (ae (ah (t 23 (.agg #[.slice none 0 0]) (ts b 0 (.agg #[.slice none 0 0]) [.slice none 0 0] [.slice none 0 0] ?_)))))));intro v6 Y C;replace i:=aL i C (by omega);replace h:=h.chg C (show g≠g2 by omega);replace e:=e.cell C (show a=0\/r≠g2 by omega);replace l:=l.cell C (show f=0\/p≠g2 by omega);have b:=Y;refine t 9 (iI 21) (af (aa (ay (dD (aA (.tuple #[.agg #[.slice none 0 0],iI 21]) (dP (T:=26) 8 9 (lr b 0)) ?_)))));subst s;rw[show dvZ 0=21 from if_pos rfl,Int.ediv_zero];exact⟨_,_,_,0,rfl,gK _ 0,.inl rfl,by omega,i⟩
 ·have t7:(fx x2:Int)=0:=if_neg s;refine tq 22 (.bool ((fx x2:Int) != 0)) (bF) (congrArg Value.bool (bne_eq_false_iff_eq.2 t7)) (af (aa (aZ (aM (aa (ae (ah (t 24 (.func (.func 224) #[] #[pg g]) (t 25 (.slice d a c) (t 26 (.slice k f j) ?_))))))))));have m:=h.lt;have q:=b.lt;refine tc 27 224 #[.slice d a c,.slice k f j,pg g] (Ae e h) ?_
  rintro _ E ⟨rfl,o,B⟩;refine⟨_,rfl,?_⟩;clear e;have e:=o;clear o;replace i:=aj i B;replace h:=h.keep B;replace b:=b.keep B;replace l:=l.keep B;refine ts b 0 (.agg #[.slice d a c]) [.slice d a c] [.slice d a c] ?_
  intro v9 Y C;replace i:=aL i C (by omega);replace h:=h.chg C (show g≠g2 by omega);replace e:=e.cell C (show a=0\/r≠g2 by omega);replace l:=l.cell C (show f=0\/p≠g2 by omega);have b:=Y;refine t 9 (iI 0) (af (aa (ay (aA (.tuple #[.agg #[.slice d a c],iI 0]) (dP (T:=26) 8 9 (lr b 0)) ?_))));rw[show dvZ x2=0 from if_neg s];exact⟨_,_,_,_,rfl,e,by omega,by omega,i⟩
theorem lW(E:aI w a0 n0 c0 x0)(k0:n0<=100000000000)(h1:aI w a1 n1 c1 x1)(k1:n1<=100000000000)(x:aI w a2 n2 c2 x2)(k2:n2<=100000000000):Calls Tryz.prog 126 #[.agg #[.slice a0 n0 c0],.agg #[.slice a1 n1 c1],.agg #[.slice a2 n2 c2]] w (NtE (dvZ x2) w (· <= n0+n1+n2) (x0 * x1 / x2)):=by
 have e:=Below.refl w.heap.size w;refine ax (n:=18) Tryz.func126 rfl ?_
 refine ae (ah (ta 3 [.slice a0 n0 c0] 26 (pg) ?_));intro v1 g2 a G B;replace e:=aj e B;have k:=a.lt;refine ta 4 [.slice a1 n1 c1] 26 (pg) ?_
 intro v3 g4 b F B;replace e:=aj e B;replace a:=a.keep B;have k:=a.lt;have m:=b.lt;refine ta 5 [.slice a2 n2 c2] 26 (pg) ?_
 intro v5 g6 c A B;replace e:=aj e B;replace a:=a.keep B;replace b:=b.keep B;have k:=a.lt;have m:=b.lt;have o:=c.lt;refine ta 6 [.slice none 0 0] 26 (pg) ?_
 intro H g8 d y B;replace e:=aj e B;replace a:=a.keep B;replace b:=b.keep B;replace c:=c.keep B;refine t 7 (iI 0) (af (aa (ae ?_)));replace e:=e.drew;replace a:=a.drew;replace b:=b.drew;replace c:=c.drew;replace d:=d.drew;refine aO (fun s=>Blk s g2 [.slice a0 n0 c0] 26/\Blk s g4 [.slice a1 n1 c1] 26/\Blk s g6 [.slice a2 n2 c2] 26) (fun _=>false) ⟨a,b,c⟩ ?_
 refine z 0 8 (pg g2) (zl 1 9 (.slice a0 n0 c0) (fun _ h=>h.1) 0 (z 2 10 (pg g4) (zl 3 11 (.slice a1 n1 c1) (fun _ h=>h.2.1) 0 (z 4 12 (pg g6) (zl 5 13 (.slice a2 n2 c2) (fun _ h=>h.2.2) 0 ?_)))));have k:=a.lt;have m:=b.lt;have o:=c.lt;have q:=d.lt;refine zc 6 14 155 #[bF] (mQ) ?_
 rintro _ v9 ⟨g,rfl,p,I,B⟩;replace e:=aj e B;replace a:=a.keep B;replace b:=b.keep B;replace c:=c.keep B;replace d:=d.keep B;refine⟨_,rfl,⟨a,b,c⟩,?_⟩;have k:=a.lt;have m:=b.lt;have o:=c.lt;have q:=d.lt;have D:=p.lt;refine zc 7 15 154 #[.slice a0 n0 c0,.slice a1 n1 c1,.slice a2 n2 c2,.func (.func 224) #[] #[pg g]] (iO (E.keep e) (by omega) (h1.keep e) (by omega) (x.keep e) (by omega) p) ?_
 rintro _ v11 ⟨j,f,i,r,rfl,l,v,u,B⟩;replace e:=aj e B;replace a:=a.keep B;replace b:=b.keep B;replace c:=c.keep B;replace d:=d.keep B;replace p:=p.keep B;refine⟨_,rfl,⟨a,b,c⟩,?_⟩;refine z 8 16 (.agg #[.slice j f i]) (z 9 17 (iI (dvZ x2)) (zs 10 d 0 (.agg #[.slice j f i]) [.slice j f i] [.slice j f i] ?_));intro v12 Y C;replace e:=aL e C (by omega);replace a:=a.chg C (show g2≠g8 by omega);replace b:=b.chg C (show g4≠g8 by omega);replace c:=c.chg C (show g6≠g8 by omega);replace p:=p.chg C (show g≠g8 by omega);replace l:=l.cell C (show f=0\/r≠g8 by omega);have d:=Y;refine⟨⟨a,b,c⟩,?_⟩;refine z 11 7 (iI (dvZ x2)) (aG (aa (aD [(6,pg g8),(7,iI (dvZ x2))] (ay (aA (.tuple #[.agg #[.slice j f i],iI (dvZ x2)]) (dP (T:=26) 6 7 (lr d 0)) ?_)))));exact⟨_,_,_,_,rfl,l,by omega,by omega,e⟩
theorem eOver(L:aI w a0 n0 c0 x0)(k0:n0<=100000000000)(hy:0<=y/\y < 18446744073709551616):Calls Tryz.prog 212 #[.agg #[.slice a0 n0 c0],.int .u64 y] w (NtE (dvZ y) w (· <= n0+2) (x0 / y)):=by
 have e:=Below.refl w.heap.size w;refine ax (n:=15) Tryz.func212 rfl ?_
 refine ae (ah (ta 2 [.slice a0 n0 c0] 26 (pg) ?_));intro v1 g2 a N B;replace e:=aj e B;have k:=a.lt;refine ta 4 [.slice none 0 0] 26 (pg) ?_
 intro v3 g4 b M B;replace e:=aj e B;replace a:=a.keep B;refine t 5 (iI 0) (af (aa (ae ?_)));replace e:=e.drew;replace a:=a.drew;replace b:=b.drew;refine aO (fun J=>Blk J g2 [.slice a0 n0 c0] 26) (fun _=>false) a ?_
 refine z 0 6 (pg g2) (zl 1 7 (.slice a0 n0 c0) (fun _ h=>h) 0 (z 3 9 (iU y) ?_));have k:=a.lt;have m:=b.lt;refine zc 2 8 9 #[iU 1] (mW (x:=1) (by decide) (by decide)) ?_
 rintro _ v6 ⟨A,q,D,s,rfl,d,O,P,B⟩;replace e:=aj e B;replace a:=a.keep B;replace b:=b.keep B;refine⟨_,rfl,a,?_⟩;have k:=a.lt;have m:=b.lt;refine zc 4 10 9 #[iU y] (mW (x:=y) hy.1 hy.2) ?_
 rintro _ Q ⟨E,p,v,u,rfl,j,K,H,B⟩;replace e:=aj e B;replace a:=a.keep B;replace b:=b.keep B;replace d:=d.keep B;refine⟨_,rfl,a,?_⟩;have k:=a.lt;have m:=b.lt;refine zc 5 11 155 #[bF] (mQ) ?_
 rintro _ v9 ⟨g,rfl,o,R,B⟩;replace e:=aj e B;replace a:=a.keep B;replace b:=b.keep B;replace d:=d.keep B;replace j:=j.keep B;refine⟨_,rfl,a,?_⟩;have k:=a.lt;have m:=b.lt;have I:=o.lt;refine zc 6 12 154 #[.slice a0 n0 c0,.slice A q D,.slice E p v,.func (.func 224) #[] #[pg g]] (iO (L.keep e) (by omega) d.nat (by omega) j.nat (by omega) o) ?_
 rintro _ v11 ⟨i,c,f,r,rfl,l,G,F,B⟩;replace e:=aj e B;replace a:=a.keep B;replace b:=b.keep B;replace d:=d.keep B;replace j:=j.keep B;replace o:=o.keep B;refine⟨_,rfl,a,?_⟩;refine z 7 13 (.agg #[.slice i c f]) (z 8 14 (iI (dvZ y)) (zs 9 b 0 (.agg #[.slice i c f]) [.slice i c f] [.slice i c f] ?_));intro v12 Y C;replace e:=aL e C (by omega);replace a:=a.chg C (show g2≠g4 by omega);replace d:=d.cell C (show q=0\/s≠g4 by omega);replace j:=j.cell C (show p=0\/u≠g4 by omega);replace o:=o.chg C (show g≠g4 by omega);replace l:=l.cell C (show c=0\/r≠g4 by omega);have b:=Y;refine⟨a,?_⟩;refine z 10 5 (iI (dvZ y)) (aG (aa (aD [(4,pg g4),(5,iI (dvZ y))] (ay (aA (.tuple #[.agg #[.slice i c f],iI (dvZ y)]) (dP (T:=26) 4 5 (lr b 0)) ?_)))));exact⟨_,_,_,_,rfl,l.eqv (by rw[Int.mul_one]),by omega,by omega,e⟩
theorem eMul(h0:aI w a0 n0 c0 x0)(k0:n0<=100000000000)(h1:aI w a1 n1 c1 x1)(k1:n1<=100000000000):Calls Tryz.prog 86 #[.agg #[.slice a0 n0 c0],.agg #[.slice a1 n1 c1]] w (NdE w (· <= n0+n1+38) (x0 * x1 / U36)):=by
 have e:=Below.refl w.heap.size w;refine ax (n:=18) Tryz.func86 rfl ?_
 refine ae (ah (ta 2 [.slice a0 n0 c0] 26 (pg) ?_));intro v1 g2 b hg2 B;replace e:=aj e B;have j:=b.lt;refine ta 3 [.slice a1 n1 c1] 26 (pg) ?_
 intro v3 g4 c hg4 B;replace e:=aj e B;replace b:=b.keep B;have j:=b.lt;have k:=c.lt;refine ta 4 [.slice none 0 0] 26 (pg) ?_
 intro v5 g6 d hg6 B;replace e:=aj e B;replace b:=b.keep B;replace c:=c.keep B;refine af (aa (ae ?_));replace e:=e.drew;replace b:=b.drew;replace c:=c.drew;replace d:=d.drew;refine aO (fun w'=>Blk w' g2 [.slice a0 n0 c0] 26/\Blk w' g4 [.slice a1 n1 c1] 26) (fun _=>false) ⟨b,c⟩ ?_
 refine z 0 8 (pg g2) (zl 1 9 (.slice a0 n0 c0) (fun _ h=>h.1) 0 (z 2 10 (pg g4) (zl 3 11 (.slice a1 n1 c1) (fun _ h=>h.2) 0 (bA [4,10] ?_))));have j:=b.lt;have k:=c.lt;have m:=d.lt;refine cj 4 (some 12) 116 #[] (mV) ?_ ?_
 ·rintro _ v8 ⟨X,V,U,rfl,f,mq7,B⟩;replace e:=aj e B;replace b:=b.keep B;replace c:=c.keep B;replace d:=d.keep B;refine⟨_,rfl,⟨b,c⟩,?_⟩;refine bA [5,10] ?_
  have j:=b.lt;have k:=c.lt;have m:=d.lt;refine cj 5 (some 13) 155 #[bF] (mQ) ?_ ?_
  ·rintro _ v9 ⟨g,rfl,l,hg,B⟩;replace e:=aj e B;replace b:=b.keep B;replace c:=c.keep B;replace d:=d.keep B;replace f:=f.keep B;refine⟨_,rfl,⟨b,c⟩,?_⟩;refine bA [6,10] ?_
   have j:=b.lt;have k:=c.lt;have m:=d.lt;have N:=l.lt;refine cj 6 (some 14) 154 #[.slice a0 n0 c0,.slice a1 n1 c1,.slice X V U,.func (.func 224) #[] #[pg g]] (iO (h0.keep e) (by omega) (h1.keep e) (by omega) f.a (by omega) l) ?_ ?_
   ·rintro _ v11 ⟨D,o,y,R,rfl,F,hq10,mq10,B⟩;replace e:=aj e B;replace b:=b.keep B;replace c:=c.keep B;replace d:=d.keep B;replace f:=f.keep B;replace l:=l.keep B;refine⟨_,rfl,⟨b,c⟩,?_⟩;refine z 7 7 (.tuple #[.agg #[.slice D o y],iI (dvZ U36)]) (z 8 15 (.agg #[.slice D o y]) (z 9 16 (iI (dvZ U36)) ?_));have j:=b.lt;have k:=c.lt;have m:=d.lt;have N:=l.lt;have lNq10:=F.lt;refine za 10 5 [.slice none 0 0] 26 (pg) ?_
    intro v12 g13 K hg13 B;replace e:=aj e B;replace b:=b.keep B;replace c:=c.keep B;replace d:=d.keep B;replace f:=f.keep B;replace l:=l.keep B;replace F:=F.keep B;refine⟨⟨b,c⟩,?_⟩;refine zs 11 K 0 (.agg #[.slice D o y]) [.slice D o y] [.slice D o y] ?_
    intro v14 Y C;replace e:=aL e C (by omega);replace b:=b.chg C (show g2≠g13 by omega);replace c:=c.chg C (show g4≠g13 by omega);replace d:=d.chg C (show g6≠g13 by omega);clear f;replace l:=l.chg C (show g≠g13 by omega);replace F:=F.cell C (show o=0\/R≠g13 by omega);have K:=Y;refine⟨⟨b,c⟩,?_⟩;refine z 12 6 (iI (dvZ U36)) (aG (aa (aD [(4,pg g6),(5,pg g13)] (ae (ah (tlr 17 [.slice D o y] K 0 (ts d 0 (.agg #[.slice D o y]) [.slice D o y] [.slice D o y] ?_)))))));intro v15 Y C;replace e:=aL e C (by omega);replace b:=b.chg C (show g2≠g6 by omega);replace c:=c.chg C (show g4≠g6 by omega);replace l:=l.chg C (show g≠g6 by omega);replace F:=F.cell C (show o=0\/R≠g6 by omega);replace K:=K.chg C (show g13≠g6 by omega);have d:=Y;refine af (aa (ay (aA (.agg #[.slice D o y]) (rsc (T:=26) 4 (lr d 0)) ?_)));exact⟨_,_,_,_,rfl,F,by omega,by omega,e⟩
   have j:=b.lt;have k:=c.lt;have m:=d.lt;have N:=l.lt;refine zaa 10 5 [.slice none 0 0] 26 (pg) ?_ ?_
   ·intro v16 g17 G hg17 B;replace e:=aj e B;replace b:=b.keep B;replace c:=c.keep B;replace d:=d.keep B;replace f:=f.keep B;replace l:=l.keep B;refine⟨⟨b,c⟩,?_⟩;have j:=b.lt;have k:=c.lt;have m:=d.lt;have N:=l.lt;have lXg17:=G.lt;refine zc 6 14 154 #[.slice a0 n0 c0,.slice a1 n1 c1,.slice X V U,.func (.func 224) #[] #[pg g]] (iO (h0.keep e) (by omega) (h1.keep e) (by omega) f.a (by omega) l) ?_
    rintro _ v19 ⟨t,q,u,S,rfl,I,hq18,mq18,B⟩;replace e:=aj e B;replace b:=b.keep B;replace c:=c.keep B;replace d:=d.keep B;replace f:=f.keep B;replace l:=l.keep B;replace G:=G.keep B;refine⟨_,rfl,⟨b,c⟩,?_⟩;refine z 7 7 (.tuple #[.agg #[.slice t q u],iI (dvZ U36)]) (z 8 15 (.agg #[.slice t q u]) (z 9 16 (iI (dvZ U36)) (zs 11 G 0 (.agg #[.slice t q u]) [.slice t q u] [.slice t q u] ?_)));intro v20 Y C;replace e:=aL e C (by omega);replace b:=b.chg C (show g2≠g17 by omega);replace c:=c.chg C (show g4≠g17 by omega);replace d:=d.chg C (show g6≠g17 by omega);clear f;replace l:=l.chg C (show g≠g17 by omega);replace I:=I.cell C (show q=0\/S≠g17 by omega);have G:=Y;refine⟨⟨b,c⟩,?_⟩;refine z 12 6 (iI (dvZ U36)) (aG (aa (aD [(4,pg g6),(5,pg g17)] (ae (ah (tlr 17 [.slice t q u] G 0 (ts d 0 (.agg #[.slice t q u]) [.slice t q u] [.slice t q u] ?_)))))));intro v21 Y C;replace e:=aL e C (by omega);replace b:=b.chg C (show g2≠g6 by omega);replace c:=c.chg C (show g4≠g6 by omega);replace l:=l.chg C (show g≠g6 by omega);replace G:=G.chg C (show g17≠g6 by omega);replace I:=I.cell C (show q=0\/S≠g6 by omega);have d:=Y;refine af (aa (ay (aA (.agg #[.slice t q u]) (rsc (T:=26) 4 (lr d 0)) ?_)));exact⟨_,_,_,_,rfl,I,by omega,by omega,e⟩
   exact cJ
  have j:=b.lt;have k:=c.lt;have m:=d.lt;refine zaa 10 5 [.slice none 0 0] 26 (pg) ?_ ?_
  ·intro v22 g23 s hg23 B;replace e:=aj e B;replace b:=b.keep B;replace c:=c.keep B;replace d:=d.keep B;replace f:=f.keep B;refine⟨⟨b,c⟩,?_⟩;have j:=b.lt;have k:=c.lt;have m:=d.lt;have W:=s.lt;refine zc 5 13 155 #[bF] (mQ) ?_
   rintro _ v24 ⟨g,rfl,l,hg,B⟩;replace e:=aj e B;replace b:=b.keep B;replace c:=c.keep B;replace d:=d.keep B;replace f:=f.keep B;replace s:=s.keep B;refine⟨_,rfl,⟨b,c⟩,?_⟩;have j:=b.lt;have k:=c.lt;have m:=d.lt;have W:=s.lt;have N:=l.lt;refine zc 6 14 154 #[.slice a0 n0 c0,.slice a1 n1 c1,.slice X V U,.func (.func 224) #[] #[pg g]] (iO (h0.keep e) (by omega) (h1.keep e) (by omega) f.a (by omega) l) ?_
   rintro _ v26 ⟨v,r,A,P,rfl,J,hq25,mq25,B⟩;replace e:=aj e B;replace b:=b.keep B;replace c:=c.keep B;replace d:=d.keep B;replace f:=f.keep B;replace s:=s.keep B;replace l:=l.keep B;refine⟨_,rfl,⟨b,c⟩,?_⟩;refine z 7 7 (.tuple #[.agg #[.slice v r A],iI (dvZ U36)]) (z 8 15 (.agg #[.slice v r A]) (z 9 16 (iI (dvZ U36)) (zs 11 s 0 (.agg #[.slice v r A]) [.slice v r A] [.slice v r A] ?_)));intro v27 Y C;replace e:=aL e C (by omega);replace b:=b.chg C (show g2≠g23 by omega);replace c:=c.chg C (show g4≠g23 by omega);replace d:=d.chg C (show g6≠g23 by omega);clear f;replace l:=l.chg C (show g≠g23 by omega);replace J:=J.cell C (show r=0\/P≠g23 by omega);have s:=Y;refine⟨⟨b,c⟩,?_⟩;refine z 12 6 (iI (dvZ U36)) (aG (aa (aD [(4,pg g6),(5,pg g23)] (ae (ah (tlr 17 [.slice v r A] s 0 (ts d 0 (.agg #[.slice v r A]) [.slice v r A] [.slice v r A] ?_)))))));intro v28 Y C;replace e:=aL e C (by omega);replace b:=b.chg C (show g2≠g6 by omega);replace c:=c.chg C (show g4≠g6 by omega);replace s:=s.chg C (show g23≠g6 by omega);replace l:=l.chg C (show g≠g6 by omega);replace J:=J.cell C (show r=0\/P≠g6 by omega);have d:=Y;refine af (aa (ay (aA (.agg #[.slice v r A]) (rsc (T:=26) 4 (lr d 0)) ?_)));exact⟨_,_,_,_,rfl,J,by omega,by omega,e⟩
  exact cJ
 have j:=b.lt;have k:=c.lt;have m:=d.lt;refine zaa 10 5 [.slice none 0 0] 26 (pg) ?_ ?_
 ·intro v29 M i hg30 B;replace e:=aj e B;replace b:=b.keep B;replace c:=c.keep B;replace d:=d.keep B;refine⟨⟨b,c⟩,?_⟩;have j:=b.lt;have k:=c.lt;have m:=d.lt;have O:=i.lt;refine zc 4 12 116 #[] (mV) ?_
  rintro _ v32 ⟨ab,ac,Z,rfl,H,mq31,B⟩;replace e:=aj e B;replace b:=b.keep B;replace c:=c.keep B;replace d:=d.keep B;replace i:=i.keep B;refine⟨_,rfl,⟨b,c⟩,?_⟩;have j:=b.lt;have k:=c.lt;have m:=d.lt;have O:=i.lt;refine zc 5 13 155 #[bF] (mQ) ?_
  rintro _ v33 ⟨g,rfl,l,hg,B⟩;replace e:=aj e B;replace b:=b.keep B;replace c:=c.keep B;replace d:=d.keep B;replace i:=i.keep B;replace H:=H.keep B;refine⟨_,rfl,⟨b,c⟩,?_⟩;have j:=b.lt;have k:=c.lt;have m:=d.lt;have O:=i.lt;have N:=l.lt;refine zc 6 14 154 #[.slice a0 n0 c0,.slice a1 n1 c1,.slice ab ac Z,.func (.func 224) #[] #[pg g]] (iO (h0.keep e) (by omega) (h1.keep e) (by omega) H.a (by omega) l) ?_
  rintro _ v35 ⟨E,p,x,Q,rfl,L,hq34,mq34,B⟩;replace e:=aj e B;replace b:=b.keep B;replace c:=c.keep B;replace d:=d.keep B;replace i:=i.keep B;replace H:=H.keep B;replace l:=l.keep B;refine⟨_,rfl,⟨b,c⟩,?_⟩;refine z 7 7 (.tuple #[.agg #[.slice E p x],iI (dvZ U36)]) (z 8 15 (.agg #[.slice E p x]) (z 9 16 (iI (dvZ U36)) (zs 11 i 0 (.agg #[.slice E p x]) [.slice E p x] [.slice E p x] ?_)));intro v36 Y C;replace e:=aL e C (by omega);replace b:=b.chg C (show g2≠M by omega);replace c:=c.chg C (show g4≠M by omega);replace d:=d.chg C (show g6≠M by omega);clear H;replace l:=l.chg C (show g≠M by omega);replace L:=L.cell C (show p=0\/Q≠M by omega);have i:=Y;refine⟨⟨b,c⟩,?_⟩;refine z 12 6 (iI (dvZ U36)) (aG (aa (aD [(4,pg g6),(5,pg M)] (ae (ah (tlr 17 [.slice E p x] i 0 (ts d 0 (.agg #[.slice E p x]) [.slice E p x] [.slice E p x] ?_)))))));intro v37 Y C;replace e:=aL e C (by omega);replace b:=b.chg C (show g2≠g6 by omega);replace c:=c.chg C (show g4≠g6 by omega);replace i:=i.chg C (show M≠g6 by omega);replace l:=l.chg C (show g≠g6 by omega);replace L:=L.cell C (show p=0\/Q≠g6 by omega);have d:=Y;refine af (aa (ay (aA (.agg #[.slice E p x]) (rsc (T:=26) 4 (lr d 0)) ?_)));exact⟨_,_,_,_,rfl,L,by omega,by omega,e⟩
 exact cJ
end
end Fo
end Go.Proofs.YtgdohcdlkonhiaaGreatDoor
