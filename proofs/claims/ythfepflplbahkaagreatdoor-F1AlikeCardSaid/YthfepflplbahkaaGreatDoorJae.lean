import Derived.Test.YthfepflplbahkaaGreatDoorJab
import Derived.Test.YthfepflplbahkaaGreatDoorJad
set_option maxRecDepth 100000
set_option maxHeartbeats 8000000
namespace Go.Proofs.YthfepflplbahkaaGreatDoor
namespace Fo
open Go.RowKit Go.Lib Pg Lim Gl
set_option linter.unusedVariables false
structure Nf (w:World) (z:Nat) (ao:Option Addr) (n c:Nat) (x:Int):Prop where
 lt:n=0\/z < w.heap.size
 to:∀ w':World,(n≠0->w'.heap[z]?=w.heap[z]?)->dY w' ao n c x
section
variable {w w':World} {z n c:Nat} {ao:Option Addr} {x y:Int}
theorem Nf.o (h:Nf w z ao n c x):dY w ao n c x:=h.to w (fun _=>rfl)
theorem Nf.nat (h:Nf w z ao n c x):aU w ao n c x:=h.o.a
theorem Nf.keep (h:Nf w z ao n c x) (hb:Below w.heap.size w w'):Nf w' z ao n c x :=
 ⟨h.lt.imp_right fun h=>Nat.lt_of_lt_of_le h hb.size,fun b a=>h.to b fun hn=>(a hn).trans (hb.block z (h.lt.resolve_left hn))⟩
theorem Nf.drew (h:Nf w z ao n c x):Nf w.drew z ao n c x:=h.keep (Below.refl _ _).drew
theorem Nf.cell {g:Nat} (h:Nf w z ao n c x) (hc:Chg (·=g) w w') (a:n=0\/z≠g):Nf w' z ao n c x :=
 ⟨h.lt.imp_right fun h=>Nat.lt_of_lt_of_le h hc.size,fun d b=>h.to d fun hn=>(b hn).trans (hc.same z (h.lt.resolve_left hn) (a.resolve_left hn))⟩
theorem Nf.eqv (h:Nf w z ao n c x) (e:x=y):Nf w z ao n c y:=e▸h
theorem mQ (w:World) (z:Nat):Nf w z none 0 0 0:=⟨.inl rfl,fun w2 _=>⟨0,0,[],rfl,Nat.le_refl _,jo,⟨.inl rfl,fun i hi=>by simp at hi⟩⟩⟩
theorem n6 {B T:Nat} (h:rW w B T ao n c x):∃ z,Nf w z ao n c x/\(n=0\/B<=z):=by
 obtain⟨b,o,l,a,f,j,d,m,g⟩:=h.ex;refine⟨b,⟨?_,fun k hw=>⟨b,o,l,a,f,j,⟨d.loc,fun i hi=>?_⟩⟩⟩,?_⟩
 ·rcases d.lt with e | e
  ·exact .inl (by rw[<- a,e];rfl)
  ·exact .inr e
 ·rw[World.cell?_of_block (w:=w) (hw (by omega))];exact d.cell i hi
 ·rcases g with e | e
  ·exact .inl (by rw[<- a,e];rfl)
  ·exact .inr e.1
end
structure NsE (w:World) (P:Nat->Prop) (V:Int) (e:Ending) (w':World):Prop where
 ex:∃ a k d z,e=.returned (.slice a k d)/\Nf w' z a k d V/\(k=0\/w.heap.size<=z)/\P k/\Below w.heap.size w w'
structure NuE (er:Int) (w:World) (P:Nat->Prop) (V:Int) (e:Ending) (w':World):Prop where
 ex:∃ a k d z,e=.returned (.tuple #[.slice a k d,.int .i64 er])/\Nf w' z a k d V/\(k=0\/w.heap.size<=z)/\P k/\Below w.heap.size w w'
structure NdE (w:World) (P:Nat->Prop) (V:Int) (e:Ending) (w':World):Prop where
 ex:∃ a k d z,e=.returned (.agg #[.slice a k d])/\Nf w' z a k d V/\(k=0\/w.heap.size<=z)/\P k/\Below w.heap.size w w'
structure NtE (er:Int) (w:World) (P:Nat->Prop) (V:Int) (e:Ending) (w':World):Prop where
 ex:∃ a k d z,e=.returned (.tuple #[.agg #[.slice a k d],.int .i64 er])/\Nf w' z a k d V/\(k=0\/w.heap.size<=z)/\P k/\Below w.heap.size w w'
section
variable {w:World} {a0 a1 a2:Option Addr} {n0 c0 n1 c1 n2 c2:Nat} {x0 x1 x2:Int}
theorem nfAdd (h:aU w a0 n0 c0 x0) (b:aU w a1 n1 c1 x1) (hn:n0<=274877906944) (c:n1<=274877906944):Calls Tryz.prog 23 #[.slice a0 n0 c0,.slice a1 n1 c1] w (NsE w (· <= n0+n1+1) (x0+x1)):=by
 refine(fAdd h b (by omega) (by omega)).mono ?_
 rintro e i ⟨a,k,d,rfl,N,g,B⟩;obtain⟨z,M,f⟩:=n6 N;exact⟨a,k,d,z,rfl,M,f,g,B⟩
theorem D7 (h:aU w a0 n0 c0 x0) (b:aU w a1 n1 c1 x1) (hn:n0<=274877906944) (c:n1<=274877906944):Calls Tryz.prog 24 #[.slice a0 n0 c0,.slice a1 n1 c1] w (NsE w (· <= n0+n1) (x0 * x1)):=by
 refine(fMul h b (by omega) (by omega)).mono ?_
 rintro e i ⟨a,k,d,rfl,N,g,B⟩;obtain⟨z,M,f⟩:=n6 N;exact⟨a,k,d,z,rfl,M,f,g,B⟩
theorem nfSub (h:aU w a0 n0 c0 x0) (b:aU w a1 n1 c1 x1) (hn:n0<=274877906944) (c:n1<=274877906944):Calls Tryz.prog 72 #[.slice a0 n0 c0,.slice a1 n1 c1] w (NuE (ki x0 x1) w (· <= n0) (fW x0 x1)):=by
 refine(fSub h b (by omega) (by omega)).mono ?_
 rintro e i ⟨a,k,d,rfl,N,g,B⟩;obtain⟨z,M,f⟩:=n6 N;exact⟨a,k,d,z,rfl,M,f,g,B⟩
theorem Cv {x:Int} (i:0<=x) (h:x < 18446744073709551616):Calls Tryz.prog 25 #[.int .u64 x] w (NsE w (· <= 1) x):=by
 refine(xu x w i h).mono ?_
 rintro e j ⟨v,r,rfl,b,d,hlen,g⟩;obtain⟨a,c,rfl,N⟩:=ky b d;obtain⟨z,M,f⟩:=n6 N;exact⟨a,_,c,z,rfl,M,f,hlen,g⟩
structure MdE (w:World) (n:Nat) (V R:Int) (er:Int) (e:Ending) (w':World):Prop where
 ex:∃ a k d z a' k' d' z',e=.returned (.tuple #[.slice a k d,.slice a' k' d',.int .i64 er])/\Nf w' z a k d V/\Nf w' z' a' k' d' R/\(k=0\/w.heap.size<=z)/\(k'=0\/w.heap.size<=z')/\k<=n/\k'<=n+n/\Below w.heap.size w w'
theorem yw (h:aU w a0 n0 c0 x0) (n:aU w a1 n1 c1 x1) (l:aU w a2 n2 c2 x2) (hn:n0<=274877906944) (c:n1<=274877906944) (b:n2<=274877906944):Calls Tryz.prog 93 #[.slice a0 n0 c0,.slice a1 n1 c1,.slice a2 n2 c2] w (MdE w (n0+n1+n2) (x0 * x1 / x2) (Da (x0 * x1) x2) (jH x2)):=by
 refine(CR h n l hn c b).mono ?_
 rintro e s ⟨a,k,d,r,j,m,rfl,N,o,t,g,B⟩;obtain⟨z,M,i⟩:=n6 N;obtain⟨p,q,f⟩:=n6 o;exact⟨a,k,d,z,r,j,m,p,rfl,M,q,i,f,by omega,by omega,B⟩
end
section
variable {w:World}{a0 a1 a2:Option Addr}{n0 c0 n1 c1 g n2 c2:Nat}{x0 x1 y x2:Int}
theorem sC(u:aU w a0 n0 c0 x0)(k0:n0<=100000000000)(s:aU w a1 n1 c1 x1)(k1:n1<=100000000000):Calls Tryz.prog 27 #[.agg #[.slice a0 n0 c0],.agg #[.slice a1 n1 c1]] w (NdE w (· <= n0+n1+1) (x0+x1)):=by
 have d:=Below.refl w.heap.size w;refine aM (n:=11) Tryz.func27 rfl (by kernel_rfl) (by kernel_rfl) ?_
 refine aj (aA (ta 2 [.slice a0 n0 c0] 32 (pg) ?_));intro v1 g2 a o B;replace d:=ax d B;clear B;have h:=a.lt;refine ta 3 [.slice a1 n1 c1] 32 (pg) ?_
 intro v3 g4 b r B;replace d:=ax d B;replace a:=a.keep B;clear B;have h:=a.lt;have j:=b.lt;refine ta 4 [.slice none 0 0] 32 (pg) ?_
 intro v5 g6 c p B;replace d:=ax d B;replace a:=a.keep B;replace b:=b.keep B;clear B;refine ay (ah (aj (aA (t 5 (pg g2) ?_))));refine tl 6 (.slice a0 n0 c0) a 0 ?_
 refine t 7 (pg g4) ?_
 refine tl 8 (.slice a1 n1 c1) b 0 ?_
 have h:=a.lt;have j:=b.lt;have l:=c.lt;refine tc 9 23 #[.slice a0 n0 c0,.slice a1 n1 c1] (nfAdd (u.keep d) (s.keep d) (by omega) (by omega)) ?_
 rintro _ v ⟨f,e,g,k,rfl,i,q,m,B⟩;refine⟨_,rfl,?_⟩;replace d:=ax d B;replace a:=a.keep B;replace b:=b.keep B;replace c:=c.keep B;clear B;refine t 10 (.agg #[.slice f e g]) ?_
 refine ts c 0 (.agg #[.slice f e g]) [.slice f e g] [.slice f e g] ?_
 intro v9 Y C;replace d:=a7 d C (by omega);replace a:=a.chg C (show g2≠g6 by omega);replace b:=b.chg C (show g4≠g6 by omega);replace i:=i.cell C (show e=0\/k≠g6 by omega);clear C c;have c:=Y;clear Y;refine ay (ah (aO (aQ (.agg #[.slice f e g]) (rsc 4 (T:=32) (by kernel_rfl) (by kernel_rfl) (lr c 0)) ?_)));exact⟨_,_,_,_,rfl,i,by omega,by omega,d⟩
theorem eTimes(E:aU w a0 n0 c0 x0)(k0:n0<=100000000000)(hy:0<=y/\y < 18446744073709551616):Calls Tryz.prog 31 #[.agg #[.slice a0 n0 c0],.int .u64 y] w (NdE w (· <= n0+1) (x0 * y)):=by
 have c:=Below.refl w.heap.size w;refine aM (n:=11) Tryz.func31 rfl (by kernel_rfl) (by kernel_rfl) ?_
 refine aj (aA (ta 2 [.slice a0 n0 c0] 32 (pg) ?_));intro v1 g2 a u B;replace c:=ax c B;clear B;have i:=a.lt;refine ta 4 [.slice none 0 0] 32 (pg) ?_
 intro v3 g4 b D B;replace c:=ax c B;replace a:=a.keep B;clear B;refine ay (ah (aj ?_));replace c:=c.drew;replace a:=a.drew;replace b:=b.drew;refine bX (fun s=>Blk s g2 [.slice a0 n0 c0] 32) (fun _=>false) a ?_
 refine z 0 5 (pg g2) ?_
 refine zl 1 6 (.slice a0 n0 c0) (fun _ h=>h) 0 ?_
 refine z 2 7 (.int .u64 y) ?_
 have i:=a.lt;have l:=b.lt;refine zc 3 8 25 #[.int .u64 y] (Cv (x:=y) hy.1 hy.2) ?_
 rintro _ v6 ⟨q,k,p,m,rfl,g,A,r,B⟩;replace c:=ax c B;replace a:=a.keep B;replace b:=b.keep B;clear B;refine⟨_,rfl,a,?_⟩;have i:=a.lt;have l:=b.lt;refine zc 4 9 24 #[.slice a0 n0 c0,.slice q k p] (D7 (E.keep c) g.nat (by omega) (by omega)) ?_
 rintro _ F ⟨e,d,f,o,rfl,j,v,t,B⟩;replace c:=ax c B;replace a:=a.keep B;replace b:=b.keep B;replace g:=g.keep B;clear B;refine⟨_,rfl,a,?_⟩;refine zr 5 10 (.agg #[.slice e d f]) (by intro _ _;kernel_rfl) ?_
 refine zs 6 b 0 (.agg #[.slice e d f]) [.slice e d f] [.slice e d f] ?_
 intro v9 Y C;replace c:=a7 c C (by omega);replace a:=a.chg C (show g2≠g4 by omega);replace g:=g.cell C (show k=0\/m≠g4 by omega);replace j:=j.cell C (show d=0\/o≠g4 by omega);clear C b;have b:=Y;clear Y;refine⟨a,?_⟩;refine bh (ah (aO (aQ (.agg #[.slice e d f]) (rsc 4 (T:=32) (by kernel_rfl) (by kernel_rfl) (lr b 0)) ?_)));exact⟨_,_,_,_,rfl,j,by omega,by omega,c⟩
theorem eOfNat(s:aU w a0 n0 c0 x0)(k0:n0<=100000000000):Calls Tryz.prog 46 #[.slice a0 n0 c0] w (NdE w (· <= n0+38) (x0 * U36)):=by
 have f:=Below.refl w.heap.size w;refine aM (n:=7) Tryz.func46 rfl (by kernel_rfl) (by kernel_rfl) ?_
 refine aj (aA (ta 2 [.slice none 0 0] 32 (pg) ?_));intro v1 g2 b p B;replace f:=ax f B;clear B;refine ay (ah (aj (aA (t 3 (.slice a0 n0 c0) ?_))));have i:=b.lt;refine tc 4 71 #[] (rT) ?_
 rintro _ v4 ⟨l,k,m,rfl,g,r,B⟩;refine⟨_,rfl,?_⟩;replace f:=ax f B;replace b:=b.keep B;clear B;have i:=b.lt;refine tc 5 24 #[.slice a0 n0 c0,.slice l k m] (D7 (s.keep f) g.a (by omega) (by omega)) ?_
 rintro _ v6 ⟨e,c,d,j,rfl,h,q,o,B⟩;refine⟨_,rfl,?_⟩;replace f:=ax f B;replace b:=b.keep B;replace g:=g.keep B;clear B;refine t 6 (.agg #[.slice e c d]) ?_
 refine ts b 0 (.agg #[.slice e c d]) [.slice e c d] [.slice e c d] ?_
 intro u Y C;replace f:=a7 f C (by omega);clear g;replace h:=h.cell C (show c=0\/j≠g2 by omega);clear C b;have b:=Y;clear Y;refine ay (ah (aO (aQ (.agg #[.slice e c d]) (rsc 2 (T:=32) (by kernel_rfl) (by kernel_rfl) (lr b 0)) ?_)));exact⟨_,_,_,_,rfl,h,by omega,by omega,f⟩
theorem eOf(hy:0<=y/\y < 18446744073709551616):Calls Tryz.prog 18 #[.int .u64 y] w (NdE w (· <= 40) (y * U36)):=by
 have d:=Below.refl w.heap.size w;refine aM (n:=6) Tryz.func18 rfl (by kernel_rfl) (by kernel_rfl) ?_
 refine aj (aA (ta 2 [.slice none 0 0] 32 (pg) ?_));intro v1 g2 a p B;replace d:=ax d B;clear B;refine ay (ah (aj (aA (t 3 (.int .u64 y) ?_))));have i:=a.lt;refine tc 4 25 #[.int .u64 y] (Cv (x:=y) hy.1 hy.2) ?_
 rintro _ v4 ⟨k,h,l,m,rfl,c,s,r,B⟩;refine⟨_,rfl,?_⟩;replace d:=ax d B;replace a:=a.keep B;clear B;have i:=a.lt;refine tc 5 46 #[.slice k h l] (eOfNat c.nat (by omega)) ?_
 rintro _ v6 ⟨f,b,e,j,rfl,g,q,o,B⟩;refine⟨_,rfl,?_⟩;replace d:=ax d B;replace a:=a.keep B;replace c:=c.keep B;clear B;refine ts a 0 (.agg #[.slice f b e]) [.slice f b e] [.slice f b e] ?_
 intro u Y C;replace d:=a7 d C (by omega);replace c:=c.cell C (show h=0\/m≠g2 by omega);replace g:=g.cell C (show b=0\/j≠g2 by omega);clear C a;have a:=Y;clear Y;refine ay (ah (aO (aQ (.agg #[.slice f b e]) (rsc 2 (T:=32) (by kernel_rfl) (by kernel_rfl) (lr a 0)) ?_)));exact⟨_,_,_,_,rfl,g,by omega,by omega,d⟩
def sbE(x y:Int):Int:=if y<=x then 0 else 20
theorem eSub(u:aU w a0 n0 c0 x0)(k0:n0<=100000000000)(s:aU w a1 n1 c1 x1)(k1:n1<=100000000000):Calls Tryz.prog 39 #[.agg #[.slice a0 n0 c0],.agg #[.slice a1 n1 c1]] w (NtE (sbE x0 x1) w (· <= n0) (fW x0 x1)):=by
 have g:=Below.refl w.heap.size w;refine aM (n:=21) Tryz.func39 rfl (by kernel_rfl) (by kernel_rfl) ?_
 refine aj (aA (ta 2 [.slice a0 n0 c0] 32 (pg) ?_));intro v1 g2 a o B;replace g:=ax g B;clear B;have i:=a.lt;refine ta 3 [.slice a1 n1 c1] 32 (pg) ?_
 intro v3 g4 c r B;replace g:=ax g B;replace a:=a.keep B;clear B;have i:=a.lt;have k:=c.lt;refine ta 4 [.slice none 0 0] 32 (pg) ?_
 intro v5 g6 d p B;replace g:=ax g B;replace a:=a.keep B;replace c:=c.keep B;clear B;refine t 5 (.int .i64 0) ?_
 refine ay (ah (aj (aA (t 9 (pg g2) ?_))));refine tl 10 (.slice a0 n0 c0) a 0 ?_
 refine t 11 (pg g4) ?_
 refine tl 12 (.slice a1 n1 c1) c 0 ?_
 have i:=a.lt;have k:=c.lt;have l:=d.lt;refine tc 13 72 #[.slice a0 n0 c0,.slice a1 n1 c1] (nfSub (u.keep g) (s.keep g) (by omega) (by omega)) ?_
 rintro _ v ⟨e,b,f,j,rfl,h,q,m,B⟩;refine⟨_,rfl,?_⟩;replace g:=ax g B;replace a:=a.keep B;replace c:=c.keep B;replace d:=d.keep B;clear B;refine t 8 (.tuple #[.slice e b f,.int .i64 (ki x0 x1)]) ?_
 refine t 14 (.slice e b f) ?_
 refine t 15 (.int .i64 (ki x0 x1)) ?_
 refine t 6 (.slice e b f) ?_
 refine t 7 (.int .i64 (ki x0 x1)) ?_
 refine ay (ah (aT [(4,pg g6),(5,.int .i64 0),(6,.slice e b f),(7,.int .i64 (ki x0 x1))] (by kernel_rfl) ?_));refine aj (aj (aA (t 16 (.int .i64 (ki x0 x1)) ?_)));by_cases cs:x1<=x0
 ·have t9:(ki x0 x1:Int)=0:=if_pos cs;refine tq 17 (.bool ((ki x0 x1:Int) != 0)) (.bool false) (congrArg Value.bool (bne_eq_false_iff_eq.2 t9)) ?_
  refine ay (ah (dA ?_));refine bT (ah (aj (aA (t 19 (.slice e b f) ?_))));refine t 20 (.agg #[.slice e b f]) ?_
  refine ts d 0 (.agg #[.slice e b f]) [.slice e b f] [.slice e b f] ?_
  intro v10 Y C;replace g:=a7 g C (by omega);replace a:=a.chg C (show g2≠g6 by omega);replace c:=c.chg C (show g4≠g6 by omega);replace h:=h.cell C (show b=0\/j≠g6 by omega);clear C d;have d:=Y;clear Y;refine t 5 (.int .i64 0) ?_
  refine ay (ah (aO (aQ (.tuple #[.agg #[.slice e b f],.int .i64 0]) (qD 4 5 (T:=32) (by kernel_rfl) (by kernel_rfl) (by kernel_rfl) (lr d 0)) ?_)));rw[show sbE x0 x1=0 from if_pos cs];exact⟨_,_,_,_,rfl,h,by omega,by omega,g⟩
 ·have t11:¬ (ki x0 x1:Int)=0:=by unfold ki; rw[if_neg cs]; decide
  refine tq 17 (.bool ((ki x0 x1:Int) != 0)) (.bool true) (congrArg Value.bool (bne_iff_ne.2 t11)) ?_
  refine ay (ah (et ?_));refine aj (aA (t 18 (.agg #[.slice none 0 0]) ?_));refine ts d 0 (.agg #[.slice none 0 0]) [.slice none 0 0] [.slice none 0 0] ?_
  intro v12 Y C;replace g:=a7 g C (by omega);replace a:=a.chg C (show g2≠g6 by omega);replace c:=c.chg C (show g4≠g6 by omega);replace h:=h.cell C (show b=0\/j≠g6 by omega);clear C d;have d:=Y;clear Y;refine t 5 (.int .i64 20) ?_
  refine ay (ah (aO (jJ (aQ (.tuple #[.agg #[.slice none 0 0],.int .i64 20]) (qD 4 5 (T:=32) (by kernel_rfl) (by kernel_rfl) (by kernel_rfl) (lr d 0)) ?_))));rw[show sbE x0 x1=20 from if_neg cs,show fW x0 x1=0 from if_neg cs];exact⟨_,_,_,0,rfl,mQ _ 0,.inl rfl,by omega,g⟩
theorem mL:Calls Tryz.prog 63 #[.bool false] w fun e w'=>∃ g,e=.returned (.func (.func 94) #[] #[pg g])/\Blk w' g [.bool false] 4/\w.heap.size<=g/\Below w.heap.size w w':=by
 have b:=Below.refl w.heap.size w;refine aM (n:=4) Tryz.func63 rfl (by kernel_rfl) (by kernel_rfl) ?_
 refine aj (aA (ta 1 [.bool false] 4 (pg) ?_));intro v1 g2 a c B;replace b:=ax b B;clear B;refine t 2 (.nilFunc) ?_
 refine ay (ah (aj (aA (t 3 (.func (.func 94) #[] #[pg g2]) ?_))));refine t 2 (.func (.func 94) #[] #[pg g2]) ?_
 refine ay (ah (aO (aQ (.func (.func 94) #[] #[pg g2]) (rs1 2 (by kernel_rfl) (by kernel_rfl)) ?_)));exact⟨_,rfl,a,c,b⟩
theorem Ai{z0:Nat}(c:Nf w z0 a0 n0 c0 x0)(b:Blk w g [.bool false] 4):Calls Tryz.prog 94 #[.slice a0 n0 c0,.slice a1 n1 c1,pg g] w fun e w'=>e=.returned (.agg #[.slice a0 n0 c0])/\Nf w' z0 a0 n0 c0 x0/\Below w.heap.size w w':=by
 have f:=b.lt;have h:=c.lt;have d:=Below.refl w.heap.size w;refine aM (n:=17) Tryz.func94 rfl (by kernel_rfl) (by kernel_rfl) ?_
 refine aj (aA ?_);have f:=b.lt;have h:=c.lt;refine ta 5 [.slice none 0 0] 32 (pg) ?_
 intro v1 g2 a i B;replace d:=ax d B;replace b:=b.keep B;replace c:=c.keep B;clear B;refine ay (ah (aj (aj (aA (tl 6 (.bool false) b 0 ?_)))));refine t 7 (.bool false) ?_
 refine tn 8 ?_
 refine tn 9 ?_
 refine tn 10 ?_
 refine t 11 (.bool false) ?_
 refine ay (ah (dA ?_));refine bT (ah (aj (aA (t 15 (.slice a0 n0 c0) ?_))));refine t 16 (.agg #[.slice a0 n0 c0]) ?_
 refine ts a 0 (.agg #[.slice a0 n0 c0]) [.slice a0 n0 c0] [.slice a0 n0 c0] ?_
 intro v3 Y C;replace d:=a7 d C (by omega);replace b:=b.chg C (show g≠g2 by omega);replace c:=c.cell C (show n0=0\/z0≠g2 by omega);clear C a;have a:=Y;clear Y;refine ay (ah (aT [(5,pg g2)] (by kernel_rfl) ?_));refine aO (aQ (.agg #[.slice a0 n0 c0]) (rsc 5 (T:=32) (by kernel_rfl) (by kernel_rfl) (lr a 0)) ?_);exact⟨rfl,c,d⟩
def dvZ(y:Int):Int:=if y=0 then 21 else 0
theorem iG(D:aU w a0 n0 c0 x0)(k0:n0<=100000000000)(y:aU w a1 n1 c1 x1)(k1:n1<=100000000000)(v:aU w a2 n2 c2 x2)(k2:n2<=100000000000)(h:Blk w g [.bool false] 4):Calls Tryz.prog 62 #[.slice a0 n0 c0,.slice a1 n1 c1,.slice a2 n2 c2,.func (.func 94) #[] #[pg g]] w (NtE (dvZ x2) w (· <= n0+n1+n2) (x0 * x1 / x2)):=by
 have m:=h.lt;have i:=Below.refl w.heap.size w;refine aM (n:=28) Tryz.func62 rfl (by kernel_rfl) (by kernel_rfl) ?_
 refine aj (aA ?_);have m:=h.lt;refine ta 8 [.slice none 0 0] 32 (pg) ?_
 intro v1 g2 a x B;replace i:=ax i B;replace h:=h.keep B;clear B;refine t 9 (.int .i64 0) ?_
 refine ay (ah (aj (aA (t 14 (.slice a0 n0 c0) ?_))));refine t 15 (.slice a1 n1 c1) ?_
 refine t 16 (.slice a2 n2 c2) ?_
 have m:=h.lt;have p:=a.lt;refine tc 17 93 #[.slice a0 n0 c0,.slice a1 n1 c1,.slice a2 n2 c2] (yw (D.keep i) (y.keep i) (v.keep i) (by omega) (by omega) (by omega)) ?_
 rintro _ v4 ⟨c,b,d,r,k,f,j,q,rfl,e,l,A,u,z,kq3,B⟩;refine⟨_,rfl,?_⟩;replace i:=ax i B;replace h:=h.keep B;replace a:=a.keep B;clear B;refine t 13 (.tuple #[.slice c b d,.slice k f j,.int .i64 (jH x2)]) ?_
 refine t 18 (.slice c b d) ?_
 refine t 19 (.slice k f j) ?_
 refine t 20 (.int .i64 (jH x2)) ?_
 refine t 10 (.slice c b d) ?_
 refine t 11 (.slice k f j) ?_
 refine t 12 (.int .i64 (jH x2)) ?_
 refine ay (ah (aT [(3,.func (.func 94) #[] #[pg g]),(8,pg g2),(9,.int .i64 0),(10,.slice c b d),(11,.slice k f j),(12,.int .i64 (jH x2))] (by kernel_rfl) ?_));refine aj (aj (aA (t 21 (.int .i64 (jH x2)) ?_)));by_cases s:x2=0
 ·have t5:¬ (jH x2:Int)=0:=by unfold jH; rw[if_pos s]; decide
  refine tq 22 (.bool ((jH x2:Int) != 0)) (.bool true) (congrArg Value.bool (bne_iff_ne.2 t5)) ?_
  refine ay (ah (et ?_));refine aj (aA (t 23 (.agg #[.slice none 0 0]) ?_));refine ts a 0 (.agg #[.slice none 0 0]) [.slice none 0 0] [.slice none 0 0] ?_
  intro v6 Y C;replace i:=a7 i C (by omega);replace h:=h.chg C (show g≠g2 by omega);replace e:=e.cell C (show b=0\/r≠g2 by omega);replace l:=l.cell C (show f=0\/q≠g2 by omega);clear C a;have a:=Y;clear Y;refine t 9 (.int .i64 21) ?_
  refine ay (ah (aO (jJ (aQ (.tuple #[.agg #[.slice none 0 0],.int .i64 21]) (qD 8 9 (T:=32) (by kernel_rfl) (by kernel_rfl) (by kernel_rfl) (lr a 0)) ?_))));subst s;rw[show dvZ 0=21 from if_pos rfl,Int.ediv_zero];exact⟨_,_,_,0,rfl,mQ _ 0,.inl rfl,by omega,i⟩
 ·have t7:(jH x2:Int)=0:=if_neg s;refine tq 22 (.bool ((jH x2:Int) != 0)) (.bool false) (congrArg Value.bool (bne_eq_false_iff_eq.2 t7)) ?_
  refine ay (ah (dA ?_));refine bT (ah (aj (aA (t 24 (.func (.func 94) #[] #[pg g]) ?_))));refine t 25 (.slice c b d) ?_
  refine t 26 (.slice k f j) ?_
  have m:=h.lt;have p:=a.lt;refine tc 27 94 #[.slice c b d,.slice k f j,pg g] (Ai e h) ?_
  rintro _ E ⟨rfl,o,B⟩;refine⟨_,rfl,?_⟩;clear e;have e:=o;clear o;replace i:=ax i B;replace h:=h.keep B;replace a:=a.keep B;replace l:=l.keep B;clear B;refine ts a 0 (.agg #[.slice c b d]) [.slice c b d] [.slice c b d] ?_
  intro v9 Y C;replace i:=a7 i C (by omega);replace h:=h.chg C (show g≠g2 by omega);replace e:=e.cell C (show b=0\/r≠g2 by omega);replace l:=l.cell C (show f=0\/q≠g2 by omega);clear C a;have a:=Y;clear Y;refine t 9 (.int .i64 0) ?_
  refine ay (ah (aO (aQ (.tuple #[.agg #[.slice c b d],.int .i64 0]) (qD 8 9 (T:=32) (by kernel_rfl) (by kernel_rfl) (by kernel_rfl) (lr a 0)) ?_)));rw[show dvZ x2=0 from if_neg s];exact⟨_,_,_,_,rfl,e,by omega,by omega,i⟩
theorem jT(H:aU w a0 n0 c0 x0)(k0:n0<=100000000000)(F:aU w a1 n1 c1 x1)(k1:n1<=100000000000)(y:aU w a2 n2 c2 x2)(k2:n2<=100000000000):Calls Tryz.prog 86 #[.agg #[.slice a0 n0 c0],.agg #[.slice a1 n1 c1],.agg #[.slice a2 n2 c2]] w (NtE (dvZ x2) w (· <= n0+n1+n2) (x0 * x1 / x2)):=by
 have e:=Below.refl w.heap.size w;refine aM (n:=18) Tryz.func86 rfl (by kernel_rfl) (by kernel_rfl) ?_
 refine aj (aA (ta 3 [.slice a0 n0 c0] 32 (pg) ?_));intro v1 g2 a A B;replace e:=ax e B;clear B;have k:=a.lt;refine ta 4 [.slice a1 n1 c1] 32 (pg) ?_
 intro v3 g4 b E B;replace e:=ax e B;replace a:=a.keep B;clear B;have k:=a.lt;have m:=b.lt;refine ta 5 [.slice a2 n2 c2] 32 (pg) ?_
 intro v5 g6 c D B;replace e:=ax e B;replace a:=a.keep B;replace b:=b.keep B;clear B;have k:=a.lt;have m:=b.lt;have o:=c.lt;refine ta 6 [.slice none 0 0] 32 (pg) ?_
 intro I g8 d G B;replace e:=ax e B;replace a:=a.keep B;replace b:=b.keep B;replace c:=c.keep B;clear B;refine t 7 (.int .i64 0) ?_
 refine ay (ah (aj ?_));replace e:=e.drew;replace a:=a.drew;replace b:=b.drew;replace c:=c.drew;replace d:=d.drew;refine bX (fun s=>Blk s g2 [.slice a0 n0 c0] 32/\Blk s g4 [.slice a1 n1 c1] 32/\Blk s g6 [.slice a2 n2 c2] 32) (fun _=>false) ⟨a,b,c⟩ ?_
 refine z 0 8 (pg g2) ?_
 refine zl 1 9 (.slice a0 n0 c0) (fun _ h=>h.1) 0 ?_
 refine z 2 10 (pg g4) ?_
 refine zl 3 11 (.slice a1 n1 c1) (fun _ h=>h.2.1) 0 ?_
 refine z 4 12 (pg g6) ?_
 refine zl 5 13 (.slice a2 n2 c2) (fun _ h=>h.2.2) 0 ?_
 have k:=a.lt;have m:=b.lt;have o:=c.lt;have q:=d.lt;refine zc 6 14 63 #[.bool false] (mL) ?_
 rintro _ v9 ⟨g,rfl,p,J,B⟩;replace e:=ax e B;replace a:=a.keep B;replace b:=b.keep B;replace c:=c.keep B;replace d:=d.keep B;clear B;refine⟨_,rfl,⟨a,b,c⟩,?_⟩;have k:=a.lt;have m:=b.lt;have o:=c.lt;have q:=d.lt;have x:=p.lt;refine zc 7 15 62 #[.slice a0 n0 c0,.slice a1 n1 c1,.slice a2 n2 c2,.func (.func 94) #[] #[pg g]] (iG (H.keep e) (by omega) (F.keep e) (by omega) (y.keep e) (by omega) p) ?_
 rintro _ v11 ⟨i,f,j,r,rfl,l,v,u,B⟩;replace e:=ax e B;replace a:=a.keep B;replace b:=b.keep B;replace c:=c.keep B;replace d:=d.keep B;replace p:=p.keep B;clear B;refine⟨_,rfl,⟨a,b,c⟩,?_⟩;refine z 8 16 (.agg #[.slice i f j]) ?_
 refine z 9 17 (.int .i64 (dvZ x2)) ?_
 refine zs 10 d 0 (.agg #[.slice i f j]) [.slice i f j] [.slice i f j] ?_
 intro v12 Y C;replace e:=a7 e C (by omega);replace a:=a.chg C (show g2≠g8 by omega);replace b:=b.chg C (show g4≠g8 by omega);replace c:=c.chg C (show g6≠g8 by omega);replace p:=p.chg C (show g≠g8 by omega);replace l:=l.cell C (show f=0\/r≠g8 by omega);clear C d;have d:=Y;clear Y;refine⟨⟨a,b,c⟩,?_⟩;refine z 11 7 (.int .i64 (dvZ x2)) ?_
 refine bh (ah (aT [(6,pg g8),(7,.int .i64 (dvZ x2))] (by kernel_rfl) ?_));refine aO (aQ (.tuple #[.agg #[.slice i f j],.int .i64 (dvZ x2)]) (qD 6 7 (T:=32) (by kernel_rfl) (by kernel_rfl) (by kernel_rfl) (lr d 0)) ?_);exact⟨_,_,_,_,rfl,l,by omega,by omega,e⟩
theorem DW(P:aU w a0 n0 c0 x0)(k0:n0<=100000000000)(hy:0<=y/\y < 18446744073709551616):Calls Tryz.prog 30 #[.agg #[.slice a0 n0 c0],.int .u64 y] w (NtE (dvZ y) w (· <= n0+2) (x0 / y)):=by
 have e:=Below.refl w.heap.size w;refine aM (n:=15) Tryz.func30 rfl (by kernel_rfl) (by kernel_rfl) ?_
 refine aj (aA (ta 2 [.slice a0 n0 c0] 32 (pg) ?_));intro v1 g2 a L B;replace e:=ax e B;clear B;have k:=a.lt;refine ta 4 [.slice none 0 0] 32 (pg) ?_
 intro v3 g4 b O B;replace e:=ax e B;replace a:=a.keep B;clear B;refine t 5 (.int .i64 0) ?_
 refine ay (ah (aj ?_));replace e:=e.drew;replace a:=a.drew;replace b:=b.drew;refine bX (fun J=>Blk J g2 [.slice a0 n0 c0] 32) (fun _=>false) a ?_
 refine z 0 6 (pg g2) ?_
 refine zl 1 7 (.slice a0 n0 c0) (fun _ h=>h) 0 ?_
 refine z 3 9 (.int .u64 y) ?_
 have k:=a.lt;have m:=b.lt;refine zc 2 8 25 #[.int .u64 1] (Cv (x:=1) (by decide) (by decide)) ?_
 rintro _ v6 ⟨E,p,D,s,rfl,d,N,H,B⟩;replace e:=ax e B;replace a:=a.keep B;replace b:=b.keep B;clear B;refine⟨_,rfl,a,?_⟩;have k:=a.lt;have m:=b.lt;refine zc 4 10 25 #[.int .u64 y] (Cv (x:=y) hy.1 hy.2) ?_
 rintro _ Q ⟨u,q,A,v,rfl,j,M,K,B⟩;replace e:=ax e B;replace a:=a.keep B;replace b:=b.keep B;replace d:=d.keep B;clear B;refine⟨_,rfl,a,?_⟩;have k:=a.lt;have m:=b.lt;refine zc 5 11 63 #[.bool false] (mL) ?_
 rintro _ v9 ⟨g,rfl,o,R,B⟩;replace e:=ax e B;replace a:=a.keep B;replace b:=b.keep B;replace d:=d.keep B;replace j:=j.keep B;clear B;refine⟨_,rfl,a,?_⟩;have k:=a.lt;have m:=b.lt;have I:=o.lt;refine zc 6 12 62 #[.slice a0 n0 c0,.slice E p D,.slice u q A,.func (.func 94) #[] #[pg g]] (iG (P.keep e) (by omega) d.nat (by omega) j.nat (by omega) o) ?_
 rintro _ v11 ⟨f,c,i,r,rfl,l,G,F,B⟩;replace e:=ax e B;replace a:=a.keep B;replace b:=b.keep B;replace d:=d.keep B;replace j:=j.keep B;replace o:=o.keep B;clear B;refine⟨_,rfl,a,?_⟩;refine z 7 13 (.agg #[.slice f c i]) ?_
 refine z 8 14 (.int .i64 (dvZ y)) ?_
 refine zs 9 b 0 (.agg #[.slice f c i]) [.slice f c i] [.slice f c i] ?_
 intro v12 Y C;replace e:=a7 e C (by omega);replace a:=a.chg C (show g2≠g4 by omega);replace d:=d.cell C (show p=0\/s≠g4 by omega);replace j:=j.cell C (show q=0\/v≠g4 by omega);replace o:=o.chg C (show g≠g4 by omega);replace l:=l.cell C (show c=0\/r≠g4 by omega);clear C b;have b:=Y;clear Y;refine⟨a,?_⟩;refine z 10 5 (.int .i64 (dvZ y)) ?_
 refine bh (ah (aT [(4,pg g4),(5,.int .i64 (dvZ y))] (by kernel_rfl) ?_));refine aO (aQ (.tuple #[.agg #[.slice f c i],.int .i64 (dvZ y)]) (qD 4 5 (T:=32) (by kernel_rfl) (by kernel_rfl) (by kernel_rfl) (lr b 0)) ?_);exact⟨_,_,_,_,rfl,l.eqv (by rw[Int.mul_one]),by omega,by omega,e⟩
theorem eMul(h0:aU w a0 n0 c0 x0)(k0:n0<=100000000000)(h1:aU w a1 n1 c1 x1)(k1:n1<=100000000000):Calls Tryz.prog 51 #[.agg #[.slice a0 n0 c0],.agg #[.slice a1 n1 c1]] w (NdE w (· <= n0+n1+38) (x0 * x1 / U36)):=by
 have e:=Below.refl w.heap.size w;refine aM (n:=18) Tryz.func51 rfl (by kernel_rfl) (by kernel_rfl) ?_
 refine aj (aA (ta 2 [.slice a0 n0 c0] 32 (pg) ?_));intro v1 g2 b hg2 B;replace e:=ax e B;clear B;have j:=b.lt;refine ta 3 [.slice a1 n1 c1] 32 (pg) ?_
 intro v3 g4 c hg4 B;replace e:=ax e B;replace b:=b.keep B;clear B;have j:=b.lt;have k:=c.lt;refine ta 4 [.slice none 0 0] 32 (pg) ?_
 intro v5 g6 d hg6 B;replace e:=ax e B;replace b:=b.keep B;replace c:=c.keep B;clear B;refine ay (ah (aj ?_));replace e:=e.drew;replace b:=b.drew;replace c:=c.drew;replace d:=d.drew;refine bX (fun w'=>Blk w' g2 [.slice a0 n0 c0] 32/\Blk w' g4 [.slice a1 n1 c1] 32) (fun _=>false) ⟨b,c⟩ ?_
 refine z 0 8 (pg g2) ?_
 refine zl 1 9 (.slice a0 n0 c0) (fun _ h=>h.1) 0 ?_
 refine z 2 10 (pg g4) ?_
 refine zl 3 11 (.slice a1 n1 c1) (fun _ h=>h.2) 0 ?_
 refine cn [4,10] ?_
 have j:=b.lt;have k:=c.lt;have r:=d.lt;refine dz 4 (some 12) 71 #[] (rT) ?_ ?_
 ·rintro _ v8 ⟨X,W,V,rfl,i,mq7,B⟩;replace e:=ax e B;replace b:=b.keep B;replace c:=c.keep B;replace d:=d.keep B;clear B;refine⟨_,rfl,⟨b,c⟩,?_⟩;refine cn [5,10] ?_
  have j:=b.lt;have k:=c.lt;have r:=d.lt;refine dz 5 (some 13) 63 #[.bool false] (mL) ?_ ?_
  ·rintro _ v9 ⟨g,rfl,l,hg,B⟩;replace e:=ax e B;replace b:=b.keep B;replace c:=c.keep B;replace d:=d.keep B;replace i:=i.keep B;clear B;refine⟨_,rfl,⟨b,c⟩,?_⟩;refine cn [6,10] ?_
   have j:=b.lt;have k:=c.lt;have r:=d.lt;have N:=l.lt;refine dz 6 (some 14) 62 #[.slice a0 n0 c0,.slice a1 n1 c1,.slice X W V,.func (.func 94) #[] #[pg g]] (iG (h0.keep e) (by omega) (h1.keep e) (by omega) i.a (by omega) l) ?_ ?_
   ·rintro _ v11 ⟨u,q,E,R,rfl,G,hq10,mq10,B⟩;replace e:=ax e B;replace b:=b.keep B;replace c:=c.keep B;replace d:=d.keep B;replace i:=i.keep B;replace l:=l.keep B;clear B;refine⟨_,rfl,⟨b,c⟩,?_⟩;refine z 7 7 (.tuple #[.agg #[.slice u q E],.int .i64 (dvZ U36)]) ?_
    refine z 8 15 (.agg #[.slice u q E]) ?_
    refine z 9 16 (.int .i64 (dvZ U36)) ?_
    have j:=b.lt;have k:=c.lt;have r:=d.lt;have N:=l.lt;have lNq10:=G.lt;refine za 10 5 [.slice none 0 0] 32 (pg) ?_
    intro v12 g13 I hg13 B;replace e:=ax e B;replace b:=b.keep B;replace c:=c.keep B;replace d:=d.keep B;replace i:=i.keep B;replace l:=l.keep B;replace G:=G.keep B;clear B;refine⟨⟨b,c⟩,?_⟩;refine zs 11 I 0 (.agg #[.slice u q E]) [.slice u q E] [.slice u q E] ?_
    intro v14 Y C;replace e:=a7 e C (by omega);replace b:=b.chg C (show g2≠g13 by omega);replace c:=c.chg C (show g4≠g13 by omega);replace d:=d.chg C (show g6≠g13 by omega);clear i;replace l:=l.chg C (show g≠g13 by omega);replace G:=G.cell C (show q=0\/R≠g13 by omega);clear C I;have I:=Y;clear Y;refine⟨⟨b,c⟩,?_⟩;refine z 12 6 (.int .i64 (dvZ U36)) ?_
    refine bh (ah (aT [(4,pg g6),(5,pg g13)] (by kernel_rfl) ?_));refine aj (aA (tlr 17 [.slice u q E] I 0 ?_));refine ts d 0 (.agg #[.slice u q E]) [.slice u q E] [.slice u q E] ?_
    intro v15 Y C;replace e:=a7 e C (by omega);replace b:=b.chg C (show g2≠g6 by omega);replace c:=c.chg C (show g4≠g6 by omega);replace l:=l.chg C (show g≠g6 by omega);replace G:=G.cell C (show q=0\/R≠g6 by omega);replace I:=I.chg C (show g13≠g6 by omega);clear C d;have d:=Y;clear Y;refine ay (ah (aO (aQ (.agg #[.slice u q E]) (rsc 4 (T:=32) (by kernel_rfl) (by kernel_rfl) (lr d 0)) ?_)));exact⟨_,_,_,_,rfl,G,by omega,by omega,e⟩
   have j:=b.lt;have k:=c.lt;have r:=d.lt;have N:=l.lt;refine zaa 10 5 [.slice none 0 0] 32 (pg) ?_ ?_
   ·intro v16 g17 F hg17 B;replace e:=ax e B;replace b:=b.keep B;replace c:=c.keep B;replace d:=d.keep B;replace i:=i.keep B;replace l:=l.keep B;clear B;refine⟨⟨b,c⟩,?_⟩;have j:=b.lt;have k:=c.lt;have r:=d.lt;have N:=l.lt;have lXg17:=F.lt;refine zc 6 14 62 #[.slice a0 n0 c0,.slice a1 n1 c1,.slice X W V,.func (.func 94) #[] #[pg g]] (iG (h0.keep e) (by omega) (h1.keep e) (by omega) i.a (by omega) l) ?_
    rintro _ v19 ⟨v,p,t,P,rfl,J,hq18,mq18,B⟩;replace e:=ax e B;replace b:=b.keep B;replace c:=c.keep B;replace d:=d.keep B;replace i:=i.keep B;replace l:=l.keep B;replace F:=F.keep B;clear B;refine⟨_,rfl,⟨b,c⟩,?_⟩;refine z 7 7 (.tuple #[.agg #[.slice v p t],.int .i64 (dvZ U36)]) ?_
    refine z 8 15 (.agg #[.slice v p t]) ?_
    refine z 9 16 (.int .i64 (dvZ U36)) ?_
    refine zs 11 F 0 (.agg #[.slice v p t]) [.slice v p t] [.slice v p t] ?_
    intro v20 Y C;replace e:=a7 e C (by omega);replace b:=b.chg C (show g2≠g17 by omega);replace c:=c.chg C (show g4≠g17 by omega);replace d:=d.chg C (show g6≠g17 by omega);clear i;replace l:=l.chg C (show g≠g17 by omega);replace J:=J.cell C (show p=0\/P≠g17 by omega);clear C F;have F:=Y;clear Y;refine⟨⟨b,c⟩,?_⟩;refine z 12 6 (.int .i64 (dvZ U36)) ?_
    refine bh (ah (aT [(4,pg g6),(5,pg g17)] (by kernel_rfl) ?_));refine aj (aA (tlr 17 [.slice v p t] F 0 ?_));refine ts d 0 (.agg #[.slice v p t]) [.slice v p t] [.slice v p t] ?_
    intro v21 Y C;replace e:=a7 e C (by omega);replace b:=b.chg C (show g2≠g6 by omega);replace c:=c.chg C (show g4≠g6 by omega);replace l:=l.chg C (show g≠g6 by omega);replace F:=F.chg C (show g17≠g6 by omega);replace J:=J.cell C (show p=0\/P≠g6 by omega);clear C d;have d:=Y;clear Y;refine ay (ah (aO (aQ (.agg #[.slice v p t]) (rsc 4 (T:=32) (by kernel_rfl) (by kernel_rfl) (lr d 0)) ?_)));exact⟨_,_,_,_,rfl,J,by omega,by omega,e⟩
   exact dJ
  have j:=b.lt;have k:=c.lt;have r:=d.lt;refine zaa 10 5 [.slice none 0 0] 32 (pg) ?_ ?_
  ·intro v22 g23 s hg23 B;replace e:=ax e B;replace b:=b.keep B;replace c:=c.keep B;replace d:=d.keep B;replace i:=i.keep B;clear B;refine⟨⟨b,c⟩,?_⟩;have j:=b.lt;have k:=c.lt;have r:=d.lt;have U:=s.lt;refine zc 5 13 63 #[.bool false] (mL) ?_
   rintro _ v24 ⟨g,rfl,l,hg,B⟩;replace e:=ax e B;replace b:=b.keep B;replace c:=c.keep B;replace d:=d.keep B;replace i:=i.keep B;replace s:=s.keep B;clear B;refine⟨_,rfl,⟨b,c⟩,?_⟩;have j:=b.lt;have k:=c.lt;have r:=d.lt;have U:=s.lt;have N:=l.lt;refine zc 6 14 62 #[.slice a0 n0 c0,.slice a1 n1 c1,.slice X W V,.func (.func 94) #[] #[pg g]] (iG (h0.keep e) (by omega) (h1.keep e) (by omega) i.a (by omega) l) ?_
   rintro _ v26 ⟨y,o,x,S,rfl,K,hq25,mq25,B⟩;replace e:=ax e B;replace b:=b.keep B;replace c:=c.keep B;replace d:=d.keep B;replace i:=i.keep B;replace s:=s.keep B;replace l:=l.keep B;clear B;refine⟨_,rfl,⟨b,c⟩,?_⟩;refine z 7 7 (.tuple #[.agg #[.slice y o x],.int .i64 (dvZ U36)]) ?_
   refine z 8 15 (.agg #[.slice y o x]) ?_
   refine z 9 16 (.int .i64 (dvZ U36)) ?_
   refine zs 11 s 0 (.agg #[.slice y o x]) [.slice y o x] [.slice y o x] ?_
   intro v27 Y C;replace e:=a7 e C (by omega);replace b:=b.chg C (show g2≠g23 by omega);replace c:=c.chg C (show g4≠g23 by omega);replace d:=d.chg C (show g6≠g23 by omega);clear i;replace l:=l.chg C (show g≠g23 by omega);replace K:=K.cell C (show o=0\/S≠g23 by omega);clear C s;have s:=Y;clear Y;refine⟨⟨b,c⟩,?_⟩;refine z 12 6 (.int .i64 (dvZ U36)) ?_
   refine bh (ah (aT [(4,pg g6),(5,pg g23)] (by kernel_rfl) ?_));refine aj (aA (tlr 17 [.slice y o x] s 0 ?_));refine ts d 0 (.agg #[.slice y o x]) [.slice y o x] [.slice y o x] ?_
   intro v28 Y C;replace e:=a7 e C (by omega);replace b:=b.chg C (show g2≠g6 by omega);replace c:=c.chg C (show g4≠g6 by omega);replace s:=s.chg C (show g23≠g6 by omega);replace l:=l.chg C (show g≠g6 by omega);replace K:=K.cell C (show o=0\/S≠g6 by omega);clear C d;have d:=Y;clear Y;refine ay (ah (aO (aQ (.agg #[.slice y o x]) (rsc 4 (T:=32) (by kernel_rfl) (by kernel_rfl) (lr d 0)) ?_)));exact⟨_,_,_,_,rfl,K,by omega,by omega,e⟩
  exact dJ
 have j:=b.lt;have k:=c.lt;have r:=d.lt;refine zaa 10 5 [.slice none 0 0] 32 (pg) ?_ ?_
 ·intro v29 M f hg30 B;replace e:=ax e B;replace b:=b.keep B;replace c:=c.keep B;replace d:=d.keep B;clear B;refine⟨⟨b,c⟩,?_⟩;have j:=b.lt;have k:=c.lt;have r:=d.lt;have O:=f.lt;refine zc 4 12 71 #[] (rT) ?_
  rintro _ v32 ⟨ab,Z,aa,rfl,H,mq31,B⟩;replace e:=ax e B;replace b:=b.keep B;replace c:=c.keep B;replace d:=d.keep B;replace f:=f.keep B;clear B;refine⟨_,rfl,⟨b,c⟩,?_⟩;have j:=b.lt;have k:=c.lt;have r:=d.lt;have O:=f.lt;refine zc 5 13 63 #[.bool false] (mL) ?_
  rintro _ v33 ⟨g,rfl,l,hg,B⟩;replace e:=ax e B;replace b:=b.keep B;replace c:=c.keep B;replace d:=d.keep B;replace f:=f.keep B;replace H:=H.keep B;clear B;refine⟨_,rfl,⟨b,c⟩,?_⟩;have j:=b.lt;have k:=c.lt;have r:=d.lt;have O:=f.lt;have N:=l.lt;refine zc 6 14 62 #[.slice a0 n0 c0,.slice a1 n1 c1,.slice ab Z aa,.func (.func 94) #[] #[pg g]] (iG (h0.keep e) (by omega) (h1.keep e) (by omega) H.a (by omega) l) ?_
  rintro _ v35 ⟨A,m,D,Q,rfl,L,hq34,mq34,B⟩;replace e:=ax e B;replace b:=b.keep B;replace c:=c.keep B;replace d:=d.keep B;replace f:=f.keep B;replace H:=H.keep B;replace l:=l.keep B;clear B;refine⟨_,rfl,⟨b,c⟩,?_⟩;refine z 7 7 (.tuple #[.agg #[.slice A m D],.int .i64 (dvZ U36)]) ?_
  refine z 8 15 (.agg #[.slice A m D]) ?_
  refine z 9 16 (.int .i64 (dvZ U36)) ?_
  refine zs 11 f 0 (.agg #[.slice A m D]) [.slice A m D] [.slice A m D] ?_
  intro v36 Y C;replace e:=a7 e C (by omega);replace b:=b.chg C (show g2≠M by omega);replace c:=c.chg C (show g4≠M by omega);replace d:=d.chg C (show g6≠M by omega);clear H;replace l:=l.chg C (show g≠M by omega);replace L:=L.cell C (show m=0\/Q≠M by omega);clear C f;have f:=Y;clear Y;refine⟨⟨b,c⟩,?_⟩;refine z 12 6 (.int .i64 (dvZ U36)) ?_
  refine bh (ah (aT [(4,pg g6),(5,pg M)] (by kernel_rfl) ?_));refine aj (aA (tlr 17 [.slice A m D] f 0 ?_));refine ts d 0 (.agg #[.slice A m D]) [.slice A m D] [.slice A m D] ?_
  intro v37 Y C;replace e:=a7 e C (by omega);replace b:=b.chg C (show g2≠g6 by omega);replace c:=c.chg C (show g4≠g6 by omega);replace f:=f.chg C (show M≠g6 by omega);replace l:=l.chg C (show g≠g6 by omega);replace L:=L.cell C (show m=0\/Q≠g6 by omega);clear C d;have d:=Y;clear Y;refine ay (ah (aO (aQ (.agg #[.slice A m D]) (rsc 4 (T:=32) (by kernel_rfl) (by kernel_rfl) (lr d 0)) ?_)));exact⟨_,_,_,_,rfl,L,by omega,by omega,e⟩
 exact dJ
end
end Fo
end Go.Proofs.YthfepflplbahkaaGreatDoor
