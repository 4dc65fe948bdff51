import Derived.Test.YthfepflplbahkaaGreatDoorJab
import Derived.Test.YthfepflplbahkaaGreatDoorJad
set_option maxRecDepth 100000
set_option maxHeartbeats 8000000
namespace Go.Proofs.YthfepflplbahkaaGreatDoor
namespace Fo
open Go.RowKit Go.Lib Pg Lim Gl
set_option linter.unusedVariables false
structure Nf (w:World) (z:Nat) (ao:Option Addr) (n c:Nat) (x:Int):Prop where
 lt:n=0\/z < w.heap.size
 to:∀ w':World,(n≠0->w'.heap[z]? = w.heap[z]?)->dW w' ao n c x
section
variable {w w':World} {z n c:Nat} {ao:Option Addr} {x y:Int}
theorem Nf.o (h:Nf w z ao n c x):dW w ao n c x:=h.to w (fun _=>rfl)
theorem Nf.nat (h:Nf w z ao n c x):aV w ao n c x:=h.o.a
theorem Nf.keep (h:Nf w z ao n c x) (hb:Below w.heap.size w w'):Nf w' z ao n c x :=
 ⟨h.lt.imp_right fun h=>Nat.lt_of_lt_of_le h hb.size,fun a b=>h.to a fun hn=>(b hn).trans (hb.block z (h.lt.resolve_left hn))⟩
theorem Nf.drew (h:Nf w z ao n c x):Nf w.drew z ao n c x:=h.keep (Below.refl _ _).drew
theorem Nf.cell {g:Nat} (h:Nf w z ao n c x) (hc:Chg (· = g) w w') (a:n=0\/z≠g):Nf w' z ao n c x :=
 ⟨h.lt.imp_right fun h=>Nat.lt_of_lt_of_le h hc.size,fun b d=>h.to b fun hn=>(d hn).trans (hc.same z (h.lt.resolve_left hn) (a.resolve_left hn))⟩
theorem Nf.eqv (h:Nf w z ao n c x) (e:x=y):Nf w z ao n c y:=e▸h
theorem mm (w:World) (z:Nat):Nf w z none 0 0 0:=⟨.inl rfl,fun w2 _=>⟨0,0,[],rfl,Nat.le_refl _,je,⟨.inl rfl,fun i hi=>by simp at hi⟩⟩⟩
theorem og {B T:Nat} (h:qC w B T ao n c x):∃ z,Nf w z ao n c x/\(n=0\/B<=z):=by
 obtain⟨b,o,l,a,j,g,d,m,f⟩:=h.ex;refine⟨b,⟨?_,fun k hw=>⟨b,o,l,a,j,g,⟨d.loc,fun i hi => ?_⟩⟩⟩,?_⟩
 ·rcases d.lt with e | e
  ·exact .inl (by rw[<- a,e]; rfl)
  ·exact .inr e
 ·rw[World.cell?_of_block (w:=w) (hw (by omega))];exact d.cell i hi
 ·rcases f with e | e
  ·exact .inl (by rw[<- a,e]; rfl)
  ·exact .inr e.1
end
structure NsE (w:World) (P:Nat->Prop) (V:Int) (e:Ending) (w':World):Prop where
 ex:∃ a k d z,e=.returned (.slice a k d)/\Nf w' z a k d V/\(k=0\/w.heap.size<=z)/\P k/\Below w.heap.size w w'
structure NuE (er:Int) (w:World) (P:Nat->Prop) (V:Int) (e:Ending) (w':World):Prop where
 ex:∃ a k d z,e=.returned (.tuple #[.slice a k d,.int .i64 er])/\Nf w' z a k d V/\(k=0\/w.heap.size<=z)/\P k/\Below w.heap.size w w'
structure NdE (w:World) (P:Nat->Prop) (V:Int) (e:Ending) (w':World):Prop where
 ex:∃ a k d z,e=.returned (.agg #[.slice a k d])/\Nf w' z a k d V/\(k=0\/w.heap.size<=z)/\P k/\Below w.heap.size w w'
structure NtE (er:Int) (w:World) (P:Nat->Prop) (V:Int) (e:Ending) (w':World):Prop where
 ex:∃ a k d z,e=.returned (.tuple #[.agg #[.slice a k d],.int .i64 er])/\Nf w' z a k d V/\(k=0\/w.heap.size<=z)/\P k/\Below w.heap.size w w'
section
variable {w:World} {a0 a1 a2:Option Addr} {n0 c0 n1 c1 n2 c2:Nat} {x0 x1 x2:Int}
theorem nfAdd (h:aV w a0 n0 c0 x0) (c:aV w a1 n1 c1 x1) (hn:n0<=274877906944) (b:n1<=274877906944):Calls Tryz.prog 23 #[.slice a0 n0 c0,.slice a1 n1 c1] w (NsE w (· <= n0 + n1 + 1) (x0 + x1)):=by
 refine(fAdd h c (by omega) (by omega)).mono ?_
 rintro e i ⟨a,k,d,rfl,N,g,B⟩;obtain⟨z,M,f⟩:=og N;exact⟨a,k,d,z,rfl,M,f,g,B⟩
theorem D5 (h:aV w a0 n0 c0 x0) (c:aV w a1 n1 c1 x1) (hn:n0<=274877906944) (b:n1<=274877906944):Calls Tryz.prog 24 #[.slice a0 n0 c0,.slice a1 n1 c1] w (NsE w (· <= n0 + n1) (x0 * x1)):=by
 refine(fMul h c (by omega) (by omega)).mono ?_
 rintro e i ⟨a,k,d,rfl,N,g,B⟩;obtain⟨z,M,f⟩:=og N;exact⟨a,k,d,z,rfl,M,f,g,B⟩
theorem nfSub (h:aV w a0 n0 c0 x0) (c:aV w a1 n1 c1 x1) (hn:n0<=274877906944) (b:n1<=274877906944):Calls Tryz.prog 72 #[.slice a0 n0 c0,.slice a1 n1 c1] w (NuE (kt x0 x1) w (· <= n0) (gS x0 x1)):=by
 refine(fSub h c (by omega) (by omega)).mono ?_
 rintro e i ⟨a,k,d,rfl,N,g,B⟩;obtain⟨z,M,f⟩:=og N;exact⟨a,k,d,z,rfl,M,f,g,B⟩
theorem AH {x:Int} (i:0<=x) (d:x < 18446744073709551616):Calls Tryz.prog 25 #[.int .u64 x] w (NsE w (· <= 1) x):=by
 refine(yW x w i d).mono ?_
 rintro e j ⟨v,r,rfl,b,h,hlen,f⟩;obtain⟨a,c,rfl,N⟩:=jY b h;obtain⟨z,M,g⟩:=og N;exact⟨a,_,c,z,rfl,M,g,hlen,f⟩
structure MdE (w:World) (n:Nat) (V R:Int) (er:Int) (e:Ending) (w':World):Prop where
 ex:∃ a k d z a' k' d' z',e=.returned (.tuple #[.slice a k d,.slice a' k' d',.int .i64 er])/\Nf w' z a k d V/\Nf w' z' a' k' d' R/\(k=0\/w.heap.size<=z)/\(k'=0\/w.heap.size<=z')/\k<=n/\k'<=n + n/\Below w.heap.size w w'
theorem yY (h:aV w a0 n0 c0 x0) (j:aV w a1 n1 c1 x1) (r:aV w a2 n2 c2 x2) (hn:n0<=274877906944) (c:n1<=274877906944) (b:n2<=274877906944):Calls Tryz.prog 93 #[.slice a0 n0 c0,.slice a1 n1 c1,.slice a2 n2 c2] w (MdE w (n0 + n1 + n2) (x0 * x1 / x2) (DF (x0 * x1) x2) (jw x2)):=by
 refine(Cx h j r hn c b).mono ?_
 rintro e s ⟨a,k,d,l,p,q,rfl,N,i,t,o,B⟩;obtain⟨z,M,n⟩:=og N;obtain⟨g,m,f⟩:=og i;exact⟨a,k,d,z,l,p,q,g,rfl,M,m,n,f,by omega,by omega,B⟩
end
section
variable {w:World}{a0 a1 a2:Option Addr}{n0 c0 n1 c1 g n2 c2:Nat}{x0 x1 y x2:Int}
theorem y8(u:aV w a0 n0 c0 x0)(k0:n0<=100000000000)(m:aV w a1 n1 c1 x1)(k1:n1<=100000000000):Calls Tryz.prog 27 #[.agg #[.slice a0 n0 c0],.agg #[.slice a1 n1 c1]] w (NdE w (· <= n0 + n1 + 1) (x0 + x1)):=by
 have d:=Below.refl w.heap.size w;refine aM (n:=11) Tryz.func27 rfl (by kernel_rfl) (by kernel_rfl) ?_
 refine ax (aA (ta 2 [.slice a0 n0 c0] 32 (pg) ?_));intro v1 g2 a s B;replace d:=aj d B;clear B;have h:=a.lt;refine ta 3 [.slice a1 n1 c1] 32 (pg) ?_
 intro v3 g4 b r B;replace d:=aj d B;replace a:=a.keep B;clear B;have h:=a.lt;have j:=b.lt;refine ta 4 [.slice none 0 0] 32 (pg) ?_
 intro v5 g6 c o B;replace d:=aj d B;replace a:=a.keep B;replace b:=b.keep B;clear B;refine ay (ah (ax (aA (t 5 (pg g2) ?_))));refine tl 6 (.slice a0 n0 c0) a 0 ?_
 refine t 7 (pg g4) ?_
 refine tl 8 (.slice a1 n1 c1) b 0 ?_
 have h:=a.lt;have j:=b.lt;have l:=c.lt;refine tc 9 23 #[.slice a0 n0 c0,.slice a1 n1 c1] (nfAdd (u.keep d) (m.keep d) (by omega) (by omega)) ?_
 rintro _ v ⟨g,e,f,k,rfl,i,p,q,B⟩;refine⟨_,rfl,?_⟩;replace d:=aj d B;replace a:=a.keep B;replace b:=b.keep B;replace c:=c.keep B;clear B;refine t 10 (.agg #[.slice g e f]) ?_
 refine ts c 0 (.agg #[.slice g e f]) [.slice g e f] [.slice g e f] ?_
 intro v9 Y C;replace d:=aZ d C (by omega);replace a:=a.chg C (show g2≠g6 by omega);replace b:=b.chg C (show g4≠g6 by omega);replace i:=i.cell C (show e=0\/k≠g6 by omega);clear C c;have c:=Y;clear Y;refine ay (ah (aP (aQ (.agg #[.slice g e f]) (rsc 4 (T:=32) (by kernel_rfl) (by kernel_rfl) (lr c 0)) ?_)));exact⟨_,_,_,_,rfl,i,by omega,by omega,d⟩
theorem eTimes(E:aV w a0 n0 c0 x0)(k0:n0<=100000000000)(hy:0<=y/\y < 18446744073709551616):Calls Tryz.prog 31 #[.agg #[.slice a0 n0 c0],.int .u64 y] w (NdE w (· <= n0 + 1) (x0 * y)):=by
 have c:=Below.refl w.heap.size w;refine aM (n:=11) Tryz.func31 rfl (by kernel_rfl) (by kernel_rfl) ?_
 refine ax (aA (ta 2 [.slice a0 n0 c0] 32 (pg) ?_));intro v1 g2 a D B;replace c:=aj c B;clear B;have i:=a.lt;refine ta 4 [.slice none 0 0] 32 (pg) ?_
 intro v3 g4 b v B;replace c:=aj c B;replace a:=a.keep B;clear B;refine ay (ah (ax ?_));replace c:=c.drew;replace a:=a.drew;replace b:=b.drew;refine cj (fun A=>Blk A g2 [.slice a0 n0 c0] 32) (fun _=>false) a ?_
 refine z 0 5 (pg g2) ?_
 refine zl 1 6 (.slice a0 n0 c0) (fun _ h=>h) 0 ?_
 refine z 2 7 (.int .u64 y) ?_
 have i:=a.lt;have k:=b.lt;refine zc 3 8 25 #[.int .u64 y] (AH (x:=y) hy.1 hy.2) ?_
 rintro _ v6 ⟨o,l,q,m,rfl,g,r,s,B⟩;replace c:=aj c B;replace a:=a.keep B;replace b:=b.keep B;clear B;refine⟨_,rfl,a,?_⟩;have i:=a.lt;have k:=b.lt;refine zc 4 9 24 #[.slice a0 n0 c0,.slice o l q] (D5 (E.keep c) g.nat (by omega) (by omega)) ?_
 rintro _ F ⟨f,d,e,p,rfl,j,u,t,B⟩;replace c:=aj c B;replace a:=a.keep B;replace b:=b.keep B;replace g:=g.keep B;clear B;refine⟨_,rfl,a,?_⟩;refine zr 5 10 (.agg #[.slice f d e]) (by intro _ _; kernel_rfl) ?_
 refine zs 6 b 0 (.agg #[.slice f d e]) [.slice f d e] [.slice f d e] ?_
 intro v9 Y C;replace c:=aZ c C (by omega);replace a:=a.chg C (show g2≠g4 by omega);replace g:=g.cell C (show l=0\/m≠g4 by omega);replace j:=j.cell C (show d=0\/p≠g4 by omega);clear C b;have b:=Y;clear Y;refine⟨a,?_⟩;refine bB (ah (aP (aQ (.agg #[.slice f d e]) (rsc 4 (T:=32) (by kernel_rfl) (by kernel_rfl) (lr b 0)) ?_)));exact⟨_,_,_,_,rfl,j,by omega,by omega,c⟩
theorem eOfNat(s:aV w a0 n0 c0 x0)(k0:n0<=100000000000):Calls Tryz.prog 46 #[.slice a0 n0 c0] w (NdE w (· <= n0 + 38) (x0 * U36)):=by
 have f:=Below.refl w.heap.size w;refine aM (n:=7) Tryz.func46 rfl (by kernel_rfl) (by kernel_rfl) ?_
 refine ax (aA (ta 2 [.slice none 0 0] 32 (pg) ?_));intro v1 g2 b r B;replace f:=aj f B;clear B;refine ay (ah (ax (aA (t 3 (.slice a0 n0 c0) ?_))));have i:=b.lt;refine tc 4 71 #[] (rD) ?_
 rintro _ v4 ⟨l,j,m,rfl,g,q,B⟩;refine⟨_,rfl,?_⟩;replace f:=aj f B;replace b:=b.keep B;clear B;have i:=b.lt;refine tc 5 24 #[.slice a0 n0 c0,.slice l j m] (D5 (s.keep f) g.a (by omega) (by omega)) ?_
 rintro _ v6 ⟨d,c,e,k,rfl,h,o,p,B⟩;refine⟨_,rfl,?_⟩;replace f:=aj f B;replace b:=b.keep B;replace g:=g.keep B;clear B;refine t 6 (.agg #[.slice d c e]) ?_
 refine ts b 0 (.agg #[.slice d c e]) [.slice d c e] [.slice d c e] ?_
 intro u Y C;replace f:=aZ f C (by omega);clear g;replace h:=h.cell C (show c=0\/k≠g2 by omega);clear C b;have b:=Y;clear Y;refine ay (ah (aP (aQ (.agg #[.slice d c e]) (rsc 2 (T:=32) (by kernel_rfl) (by kernel_rfl) (lr b 0)) ?_)));exact⟨_,_,_,_,rfl,h,by omega,by omega,f⟩
theorem eOf(hy:0<=y/\y < 18446744073709551616):Calls Tryz.prog 18 #[.int .u64 y] w (NdE w (· <= 40) (y * U36)):=by
 have d:=Below.refl w.heap.size w;refine aM (n:=6) Tryz.func18 rfl (by kernel_rfl) (by kernel_rfl) ?_
 refine ax (aA (ta 2 [.slice none 0 0] 32 (pg) ?_));intro v1 g2 a r B;replace d:=aj d B;clear B;refine ay (ah (ax (aA (t 3 (.int .u64 y) ?_))));have i:=a.lt;refine tc 4 25 #[.int .u64 y] (AH (x:=y) hy.1 hy.2) ?_
 rintro _ v4 ⟨l,h,m,k,rfl,c,s,q,B⟩;refine⟨_,rfl,?_⟩;replace d:=aj d B;replace a:=a.keep B;clear B;have i:=a.lt;refine tc 5 46 #[.slice l h m] (eOfNat c.nat (by omega)) ?_
 rintro _ v6 ⟨e,b,f,j,rfl,g,o,p,B⟩;refine⟨_,rfl,?_⟩;replace d:=aj d B;replace a:=a.keep B;replace c:=c.keep B;clear B;refine ts a 0 (.agg #[.slice e b f]) [.slice e b f] [.slice e b f] ?_
 intro u Y C;replace d:=aZ d C (by omega);replace c:=c.cell C (show h=0\/k≠g2 by omega);replace g:=g.cell C (show b=0\/j≠g2 by omega);clear C a;have a:=Y;clear Y;refine ay (ah (aP (aQ (.agg #[.slice e b f]) (rsc 2 (T:=32) (by kernel_rfl) (by kernel_rfl) (lr a 0)) ?_)));exact⟨_,_,_,_,rfl,g,by omega,by omega,d⟩
def sbE(x y:Int):Int:=if y<=x then 0 else 20
theorem eSub(u:aV w a0 n0 c0 x0)(k0:n0<=100000000000)(m:aV w a1 n1 c1 x1)(k1:n1<=100000000000):Calls Tryz.prog 39 #[.agg #[.slice a0 n0 c0],.agg #[.slice a1 n1 c1]] w (NtE (sbE x0 x1) w (· <= n0) (gS x0 x1)):=by
 have g:=Below.refl w.heap.size w;refine aM (n:=21) Tryz.func39 rfl (by kernel_rfl) (by kernel_rfl) ?_
 refine ax (aA (ta 2 [.slice a0 n0 c0] 32 (pg) ?_));intro v1 g2 a s B;replace g:=aj g B;clear B;have i:=a.lt;refine ta 3 [.slice a1 n1 c1] 32 (pg) ?_
 intro v3 g4 d r B;replace g:=aj g B;replace a:=a.keep B;clear B;have i:=a.lt;have j:=d.lt;refine ta 4 [.slice none 0 0] 32 (pg) ?_
 intro v5 g6 c o B;replace g:=aj g B;replace a:=a.keep B;replace d:=d.keep B;clear B;refine t 5 (.int .i64 0) ?_
 refine ay (ah (ax (aA (t 9 (pg g2) ?_))));refine tl 10 (.slice a0 n0 c0) a 0 ?_
 refine t 11 (pg g4) ?_
 refine tl 12 (.slice a1 n1 c1) d 0 ?_
 have i:=a.lt;have j:=d.lt;have l:=c.lt;refine tc 13 72 #[.slice a0 n0 c0,.slice a1 n1 c1] (nfSub (u.keep g) (m.keep g) (by omega) (by omega)) ?_
 rintro _ v ⟨f,b,e,k,rfl,h,q,p,B⟩;refine⟨_,rfl,?_⟩;replace g:=aj g B;replace a:=a.keep B;replace d:=d.keep B;replace c:=c.keep B;clear B;refine t 8 (.tuple #[.slice f b e,.int .i64 (kt x0 x1)]) ?_
 refine t 14 (.slice f b e) ?_
 refine t 15 (.int .i64 (kt x0 x1)) ?_
 refine t 6 (.slice f b e) ?_
 refine t 7 (.int .i64 (kt x0 x1)) ?_
 refine ay (ah (aT [(4,pg g6),(5,.int .i64 0),(6,.slice f b e),(7,.int .i64 (kt x0 x1))] (by kernel_rfl) ?_));refine ax (ax (aA (t 16 (.int .i64 (kt x0 x1)) ?_)));by_cases cs:x1<=x0
 ·have t9:(kt x0 x1:Int)=0:=if_pos cs;refine tq 17 (.bool ((kt x0 x1:Int) != 0)) (.bool false) (congrArg Value.bool (bne_eq_false_iff_eq.2 t9)) ?_
  refine ay (ah (dR ?_));refine bX (ah (ax (aA (t 19 (.slice f b e) ?_))));refine t 20 (.agg #[.slice f b e]) ?_
  refine ts c 0 (.agg #[.slice f b e]) [.slice f b e] [.slice f b e] ?_
  intro v10 Y C;replace g:=aZ g C (by omega);replace a:=a.chg C (show g2≠g6 by omega);replace d:=d.chg C (show g4≠g6 by omega);replace h:=h.cell C (show b=0\/k≠g6 by omega);clear C c;have c:=Y;clear Y;refine t 5 (.int .i64 0) ?_
  refine ay (ah (aP (aQ (.tuple #[.agg #[.slice f b e],.int .i64 0]) (q9 4 5 (T:=32) (by kernel_rfl) (by kernel_rfl) (by kernel_rfl) (lr c 0)) ?_)));rw[show sbE x0 x1=0 from if_pos cs];exact⟨_,_,_,_,rfl,h,by omega,by omega,g⟩
 ·have t11:¬ (kt x0 x1:Int)=0:=by unfold kt; rw[if_neg cs]; decide
  refine tq 17 (.bool ((kt x0 x1:Int) != 0)) (.bool true) (congrArg Value.bool (bne_iff_ne.2 t11)) ?_
  refine ay (ah (eA ?_));refine ax (aA (t 18 (.agg #[.slice none 0 0]) ?_));refine ts c 0 (.agg #[.slice none 0 0]) [.slice none 0 0] [.slice none 0 0] ?_
  intro v12 Y C;replace g:=aZ g C (by omega);replace a:=a.chg C (show g2≠g6 by omega);replace d:=d.chg C (show g4≠g6 by omega);replace h:=h.cell C (show b=0\/k≠g6 by omega);clear C c;have c:=Y;clear Y;refine t 5 (.int .i64 20) ?_
  refine ay (ah (aP (jI (aQ (.tuple #[.agg #[.slice none 0 0],.int .i64 20]) (q9 4 5 (T:=32) (by kernel_rfl) (by kernel_rfl) (by kernel_rfl) (lr c 0)) ?_))));rw[show sbE x0 x1=20 from if_neg cs,show gS x0 x1=0 from if_neg cs];exact⟨_,_,_,0,rfl,mm _ 0,.inl rfl,by omega,g⟩
theorem lK:Calls Tryz.prog 63 #[.bool false] w fun e w'=>∃ g,e=.returned (.func (.func 94) #[] #[pg g])/\Blk w' g [.bool false] 4/\w.heap.size<=g/\Below w.heap.size w w':=by
 have c:=Below.refl w.heap.size w;refine aM (n:=4) Tryz.func63 rfl (by kernel_rfl) (by kernel_rfl) ?_
 refine ax (aA (ta 1 [.bool false] 4 (pg) ?_));intro v1 g2 b a B;replace c:=aj c B;clear B;refine t 2 (.nilFunc) ?_
 refine ay (ah (ax (aA (t 3 (.func (.func 94) #[] #[pg g2]) ?_))));refine t 2 (.func (.func 94) #[] #[pg g2]) ?_
 refine ay (ah (aP (aQ (.func (.func 94) #[] #[pg g2]) (rs1 2 (by kernel_rfl) (by kernel_rfl)) ?_)));exact⟨_,rfl,b,a,c⟩
theorem yJ{z0:Nat}(c:Nf w z0 a0 n0 c0 x0)(b:Blk w g [.bool false] 4):Calls Tryz.prog 94 #[.slice a0 n0 c0,.slice a1 n1 c1,pg g] w fun e w'=>e=.returned (.agg #[.slice a0 n0 c0])/\Nf w' z0 a0 n0 c0 x0/\Below w.heap.size w w':=by
 have f:=b.lt;have h:=c.lt;have d:=Below.refl w.heap.size w;refine aM (n:=17) Tryz.func94 rfl (by kernel_rfl) (by kernel_rfl) ?_
 refine ax (aA ?_);have f:=b.lt;have h:=c.lt;refine ta 5 [.slice none 0 0] 32 (pg) ?_
 intro v1 g2 a i B;replace d:=aj d B;replace b:=b.keep B;replace c:=c.keep B;clear B;refine ay (ah (ax (ax (aA (tl 6 (.bool false) b 0 ?_)))));refine t 7 (.bool false) ?_
 refine tn 8 ?_
 refine tn 9 ?_
 refine tn 10 ?_
 refine t 11 (.bool false) ?_
 refine ay (ah (dR ?_));refine bX (ah (ax (aA (t 15 (.slice a0 n0 c0) ?_))));refine t 16 (.agg #[.slice a0 n0 c0]) ?_
 refine ts a 0 (.agg #[.slice a0 n0 c0]) [.slice a0 n0 c0] [.slice a0 n0 c0] ?_
 intro v3 Y C;replace d:=aZ d C (by omega);replace b:=b.chg C (show g≠g2 by omega);replace c:=c.cell C (show n0=0\/z0≠g2 by omega);clear C a;have a:=Y;clear Y;refine ay (ah (aT [(5,pg g2)] (by kernel_rfl) ?_));refine aP (aQ (.agg #[.slice a0 n0 c0]) (rsc 5 (T:=32) (by kernel_rfl) (by kernel_rfl) (lr a 0)) ?_);exact⟨rfl,c,d⟩
def dvZ(y:Int):Int:=if y=0 then 21 else 0
theorem ig(A:aV w a0 n0 c0 x0)(k0:n0<=100000000000)(u:aV w a1 n1 c1 x1)(k1:n1<=100000000000)(v:aV w a2 n2 c2 x2)(k2:n2<=100000000000)(i:Blk w g [.bool false] 4):Calls Tryz.prog 62 #[.slice a0 n0 c0,.slice a1 n1 c1,.slice a2 n2 c2,.func (.func 94) #[] #[pg g]] w (NtE (dvZ x2) w (· <= n0 + n1 + n2) (x0 * x1 / x2)):=by
 have m:=i.lt;have h:=Below.refl w.heap.size w;refine aM (n:=28) Tryz.func62 rfl (by kernel_rfl) (by kernel_rfl) ?_
 refine ax (aA ?_);have m:=i.lt;refine ta 8 [.slice none 0 0] 32 (pg) ?_
 intro v1 g2 a y B;replace h:=aj h B;replace i:=i.keep B;clear B;refine t 9 (.int .i64 0) ?_
 refine ay (ah (ax (aA (t 14 (.slice a0 n0 c0) ?_))));refine t 15 (.slice a1 n1 c1) ?_
 refine t 16 (.slice a2 n2 c2) ?_
 have m:=i.lt;have q:=a.lt;refine tc 17 93 #[.slice a0 n0 c0,.slice a1 n1 c1,.slice a2 n2 c2] (yY (A.keep h) (u.keep h) (v.keep h) (by omega) (by omega) (by omega)) ?_
 rintro _ v4 ⟨c,b,d,r,l,e,k,o,rfl,f,j,z,D,x,kq3,B⟩;refine⟨_,rfl,?_⟩;replace h:=aj h B;replace i:=i.keep B;replace a:=a.keep B;clear B;refine t 13 (.tuple #[.slice c b d,.slice l e k,.int .i64 (jw x2)]) ?_
 refine t 18 (.slice c b d) ?_
 refine t 19 (.slice l e k) ?_
 refine t 20 (.int .i64 (jw x2)) ?_
 refine t 10 (.slice c b d) ?_
 refine t 11 (.slice l e k) ?_
 refine t 12 (.int .i64 (jw x2)) ?_
 refine ay (ah (aT [(3,.func (.func 94) #[] #[pg g]),(8,pg g2),(9,.int .i64 0),(10,.slice c b d),(11,.slice l e k),(12,.int .i64 (jw x2))] (by kernel_rfl) ?_));refine ax (ax (aA (t 21 (.int .i64 (jw x2)) ?_)));by_cases s:x2=0
 ·have t5:¬ (jw x2:Int)=0:=by unfold jw; rw[if_pos s]; decide
  refine tq 22 (.bool ((jw x2:Int) != 0)) (.bool true) (congrArg Value.bool (bne_iff_ne.2 t5)) ?_
  refine ay (ah (eA ?_));refine ax (aA (t 23 (.agg #[.slice none 0 0]) ?_));refine ts a 0 (.agg #[.slice none 0 0]) [.slice none 0 0] [.slice none 0 0] ?_
  intro v6 Y C;replace h:=aZ h C (by omega);replace i:=i.chg C (show g≠g2 by omega);replace f:=f.cell C (show b=0\/r≠g2 by omega);replace j:=j.cell C (show e=0\/o≠g2 by omega);clear C a;have a:=Y;clear Y;refine t 9 (.int .i64 21) ?_
  refine ay (ah (aP (jI (aQ (.tuple #[.agg #[.slice none 0 0],.int .i64 21]) (q9 8 9 (T:=32) (by kernel_rfl) (by kernel_rfl) (by kernel_rfl) (lr a 0)) ?_))));subst s;rw[show dvZ 0=21 from if_pos rfl,Int.ediv_zero];exact⟨_,_,_,0,rfl,mm _ 0,.inl rfl,by omega,h⟩
 ·have t7:(jw x2:Int)=0:=if_neg s;refine tq 22 (.bool ((jw x2:Int) != 0)) (.bool false) (congrArg Value.bool (bne_eq_false_iff_eq.2 t7)) ?_
  refine ay (ah (dR ?_));refine bX (ah (ax (aA (t 24 (.func (.func 94) #[] #[pg g]) ?_))));refine t 25 (.slice c b d) ?_
  refine t 26 (.slice l e k) ?_
  have m:=i.lt;have q:=a.lt;refine tc 27 94 #[.slice c b d,.slice l e k,pg g] (yJ f i) ?_
  rintro _ E ⟨rfl,p,B⟩;refine⟨_,rfl,?_⟩;clear f;have f:=p;clear p;replace h:=aj h B;replace i:=i.keep B;replace a:=a.keep B;replace j:=j.keep B;clear B;refine ts a 0 (.agg #[.slice c b d]) [.slice c b d] [.slice c b d] ?_
  intro v9 Y C;replace h:=aZ h C (by omega);replace i:=i.chg C (show g≠g2 by omega);replace f:=f.cell C (show b=0\/r≠g2 by omega);replace j:=j.cell C (show e=0\/o≠g2 by omega);clear C a;have a:=Y;clear Y;refine t 9 (.int .i64 0) ?_
  refine ay (ah (aP (aQ (.tuple #[.agg #[.slice c b d],.int .i64 0]) (q9 8 9 (T:=32) (by kernel_rfl) (by kernel_rfl) (by kernel_rfl) (lr a 0)) ?_)));rw[show dvZ x2=0 from if_neg s];exact⟨_,_,_,_,rfl,f,by omega,by omega,h⟩
theorem jh(H:aV w a0 n0 c0 x0)(k0:n0<=100000000000)(x:aV w a1 n1 c1 x1)(k1:n1<=100000000000)(D:aV w a2 n2 c2 x2)(k2:n2<=100000000000):Calls Tryz.prog 86 #[.agg #[.slice a0 n0 c0],.agg #[.slice a1 n1 c1],.agg #[.slice a2 n2 c2]] w (NtE (dvZ x2) w (· <= n0 + n1 + n2) (x0 * x1 / x2)):=by
 have e:=Below.refl w.heap.size w;refine aM (n:=18) Tryz.func86 rfl (by kernel_rfl) (by kernel_rfl) ?_
 refine ax (aA (ta 3 [.slice a0 n0 c0] 32 (pg) ?_));intro v1 g2 a G B;replace e:=aj e B;clear B;have k:=a.lt;refine ta 4 [.slice a1 n1 c1] 32 (pg) ?_
 intro v3 g4 b E B;replace e:=aj e B;replace a:=a.keep B;clear B;have k:=a.lt;have l:=b.lt;refine ta 5 [.slice a2 n2 c2] 32 (pg) ?_
 intro v5 g6 c y B;replace e:=aj e B;replace a:=a.keep B;replace b:=b.keep B;clear B;have k:=a.lt;have l:=b.lt;have o:=c.lt;refine ta 6 [.slice none 0 0] 32 (pg) ?_
 intro J g8 d A B;replace e:=aj e B;replace a:=a.keep B;replace b:=b.keep B;replace c:=c.keep B;clear B;refine t 7 (.int .i64 0) ?_
 refine ay (ah (ax ?_));replace e:=e.drew;replace a:=a.drew;replace b:=b.drew;replace c:=c.drew;replace d:=d.drew;refine cj (fun s=>Blk s g2 [.slice a0 n0 c0] 32/\Blk s g4 [.slice a1 n1 c1] 32/\Blk s g6 [.slice a2 n2 c2] 32) (fun _=>false) ⟨a,b,c⟩ ?_
 refine z 0 8 (pg g2) ?_
 refine zl 1 9 (.slice a0 n0 c0) (fun _ h=>h.1) 0 ?_
 refine z 2 10 (pg g4) ?_
 refine zl 3 11 (.slice a1 n1 c1) (fun _ h=>h.2.1) 0 ?_
 refine z 4 12 (pg g6) ?_
 refine zl 5 13 (.slice a2 n2 c2) (fun _ h=>h.2.2) 0 ?_
 have k:=a.lt;have l:=b.lt;have o:=c.lt;have q:=d.lt;refine zc 6 14 63 #[.bool false] (lK) ?_
 rintro _ v9 ⟨g,rfl,p,I,B⟩;replace e:=aj e B;replace a:=a.keep B;replace b:=b.keep B;replace c:=c.keep B;replace d:=d.keep B;clear B;refine⟨_,rfl,⟨a,b,c⟩,?_⟩;have k:=a.lt;have l:=b.lt;have o:=c.lt;have q:=d.lt;have F:=p.lt;refine zc 7 15 62 #[.slice a0 n0 c0,.slice a1 n1 c1,.slice a2 n2 c2,.func (.func 94) #[] #[pg g]] (ig (H.keep e) (by omega) (x.keep e) (by omega) (D.keep e) (by omega) p) ?_
 rintro _ v11 ⟨i,f,j,r,rfl,m,v,u,B⟩;replace e:=aj e B;replace a:=a.keep B;replace b:=b.keep B;replace c:=c.keep B;replace d:=d.keep B;replace p:=p.keep B;clear B;refine⟨_,rfl,⟨a,b,c⟩,?_⟩;refine z 8 16 (.agg #[.slice i f j]) ?_
 refine z 9 17 (.int .i64 (dvZ x2)) ?_
 refine zs 10 d 0 (.agg #[.slice i f j]) [.slice i f j] [.slice i f j] ?_
 intro v12 Y C;replace e:=aZ e C (by omega);replace a:=a.chg C (show g2≠g8 by omega);replace b:=b.chg C (show g4≠g8 by omega);replace c:=c.chg C (show g6≠g8 by omega);replace p:=p.chg C (show g≠g8 by omega);replace m:=m.cell C (show f=0\/r≠g8 by omega);clear C d;have d:=Y;clear Y;refine⟨⟨a,b,c⟩,?_⟩;refine z 11 7 (.int .i64 (dvZ x2)) ?_
 refine bB (ah (aT [(6,pg g8),(7,.int .i64 (dvZ x2))] (by kernel_rfl) ?_));refine aP (aQ (.tuple #[.agg #[.slice i f j],.int .i64 (dvZ x2)]) (q9 6 7 (T:=32) (by kernel_rfl) (by kernel_rfl) (by kernel_rfl) (lr d 0)) ?_);exact⟨_,_,_,_,rfl,m,by omega,by omega,e⟩
theorem Ea(P:aV w a0 n0 c0 x0)(k0:n0<=100000000000)(hy:0<=y/\y < 18446744073709551616):Calls Tryz.prog 30 #[.agg #[.slice a0 n0 c0],.int .u64 y] w (NtE (dvZ y) w (· <= n0 + 2) (x0 / y)):=by
 have e:=Below.refl w.heap.size w;refine aM (n:=15) Tryz.func30 rfl (by kernel_rfl) (by kernel_rfl) ?_
 refine ax (aA (ta 2 [.slice a0 n0 c0] 32 (pg) ?_));intro v1 g2 a O B;replace e:=aj e B;clear B;have k:=a.lt;refine ta 4 [.slice none 0 0] 32 (pg) ?_
 intro v3 g4 b L B;replace e:=aj e B;replace a:=a.keep B;clear B;refine t 5 (.int .i64 0) ?_
 refine ay (ah (ax ?_));replace e:=e.drew;replace a:=a.drew;replace b:=b.drew;refine cj (fun M=>Blk M g2 [.slice a0 n0 c0] 32) (fun _=>false) a ?_
 refine z 0 6 (pg g2) ?_
 refine zl 1 7 (.slice a0 n0 c0) (fun _ h=>h) 0 ?_
 refine z 3 9 (.int .u64 y) ?_
 have k:=a.lt;have l:=b.lt;refine zc 2 8 25 #[.int .u64 1] (AH (x:=1) (by decide) (by decide)) ?_
 rintro _ v6 ⟨A,p,E,u,rfl,d,H,I,B⟩;replace e:=aj e B;replace a:=a.keep B;replace b:=b.keep B;clear B;refine⟨_,rfl,a,?_⟩;have k:=a.lt;have l:=b.lt;refine zc 4 10 25 #[.int .u64 y] (AH (x:=y) hy.1 hy.2) ?_
 rintro _ R ⟨v,r,s,D,rfl,j,K,J,B⟩;replace e:=aj e B;replace a:=a.keep B;replace b:=b.keep B;replace d:=d.keep B;clear B;refine⟨_,rfl,a,?_⟩;have k:=a.lt;have l:=b.lt;refine zc 5 11 63 #[.bool false] (lK) ?_
 rintro _ v9 ⟨g,rfl,o,Q,B⟩;replace e:=aj e B;replace a:=a.keep B;replace b:=b.keep B;replace d:=d.keep B;replace j:=j.keep B;clear B;refine⟨_,rfl,a,?_⟩;have k:=a.lt;have l:=b.lt;have N:=o.lt;refine zc 6 12 62 #[.slice a0 n0 c0,.slice A p E,.slice v r s,.func (.func 94) #[] #[pg g]] (ig (P.keep e) (by omega) d.nat (by omega) j.nat (by omega) o) ?_
 rintro _ v11 ⟨f,c,i,q,rfl,m,G,F,B⟩;replace e:=aj e B;replace a:=a.keep B;replace b:=b.keep B;replace d:=d.keep B;replace j:=j.keep B;replace o:=o.keep B;clear B;refine⟨_,rfl,a,?_⟩;refine z 7 13 (.agg #[.slice f c i]) ?_
 refine z 8 14 (.int .i64 (dvZ y)) ?_
 refine zs 9 b 0 (.agg #[.slice f c i]) [.slice f c i] [.slice f c i] ?_
 intro v12 Y C;replace e:=aZ e C (by omega);replace a:=a.chg C (show g2≠g4 by omega);replace d:=d.cell C (show p=0\/u≠g4 by omega);replace j:=j.cell C (show r=0\/D≠g4 by omega);replace o:=o.chg C (show g≠g4 by omega);replace m:=m.cell C (show c=0\/q≠g4 by omega);clear C b;have b:=Y;clear Y;refine⟨a,?_⟩;refine z 10 5 (.int .i64 (dvZ y)) ?_
 refine bB (ah (aT [(4,pg g4),(5,.int .i64 (dvZ y))] (by kernel_rfl) ?_));refine aP (aQ (.tuple #[.agg #[.slice f c i],.int .i64 (dvZ y)]) (q9 4 5 (T:=32) (by kernel_rfl) (by kernel_rfl) (by kernel_rfl) (lr b 0)) ?_);exact⟨_,_,_,_,rfl,m.eqv (by rw[Int.mul_one]),by omega,by omega,e⟩
theorem eMul(h0:aV w a0 n0 c0 x0)(k0:n0<=100000000000)(h1:aV w a1 n1 c1 x1)(k1:n1<=100000000000):Calls Tryz.prog 51 #[.agg #[.slice a0 n0 c0],.agg #[.slice a1 n1 c1]] w (NdE w (· <= n0 + n1 + 38) (x0 * x1 / U36)):=by
 have e:=Below.refl w.heap.size w;refine aM (n:=18) Tryz.func51 rfl (by kernel_rfl) (by kernel_rfl) ?_
 refine ax (aA (ta 2 [.slice a0 n0 c0] 32 (pg) ?_));intro v1 g2 b hg2 B;replace e:=aj e B;clear B;have j:=b.lt;refine ta 3 [.slice a1 n1 c1] 32 (pg) ?_
 intro v3 g4 c hg4 B;replace e:=aj e B;replace b:=b.keep B;clear B;have j:=b.lt;have k:=c.lt;refine ta 4 [.slice none 0 0] 32 (pg) ?_
 intro v5 g6 d hg6 B;replace e:=aj e B;replace b:=b.keep B;replace c:=c.keep B;clear B;refine ay (ah (ax ?_));replace e:=e.drew;replace b:=b.drew;replace c:=c.drew;replace d:=d.drew;refine cj (fun w'=>Blk w' g2 [.slice a0 n0 c0] 32/\Blk w' g4 [.slice a1 n1 c1] 32) (fun _=>false) ⟨b,c⟩ ?_
 refine z 0 8 (pg g2) ?_
 refine zl 1 9 (.slice a0 n0 c0) (fun _ h=>h.1) 0 ?_
 refine z 2 10 (pg g4) ?_
 refine zl 3 11 (.slice a1 n1 c1) (fun _ h=>h.2) 0 ?_
 refine cE [4,10] ?_
 have j:=b.lt;have k:=c.lt;have q:=d.lt;refine dV 4 (some 12) 71 #[] (rD) ?_ ?_
 ·rintro _ v8 ⟨V,X,U,rfl,i,mq7,B⟩;replace e:=aj e B;replace b:=b.keep B;replace c:=c.keep B;replace d:=d.keep B;clear B;refine⟨_,rfl,⟨b,c⟩,?_⟩;refine cE [5,10] ?_
  have j:=b.lt;have k:=c.lt;have q:=d.lt;refine dV 5 (some 13) 63 #[.bool false] (lK) ?_ ?_
  ·rintro _ v9 ⟨g,rfl,l,hg,B⟩;replace e:=aj e B;replace b:=b.keep B;replace c:=c.keep B;replace d:=d.keep B;replace i:=i.keep B;clear B;refine⟨_,rfl,⟨b,c⟩,?_⟩;refine cE [6,10] ?_
   have j:=b.lt;have k:=c.lt;have q:=d.lt;have O:=l.lt;refine dV 6 (some 14) 62 #[.slice a0 n0 c0,.slice a1 n1 c1,.slice V X U,.func (.func 94) #[] #[pg g]] (ig (h0.keep e) (by omega) (h1.keep e) (by omega) i.a (by omega) l) ?_ ?_
   ·rintro _ v11 ⟨t,m,A,S,rfl,G,hq10,mq10,B⟩;replace e:=aj e B;replace b:=b.keep B;replace c:=c.keep B;replace d:=d.keep B;replace i:=i.keep B;replace l:=l.keep B;clear B;refine⟨_,rfl,⟨b,c⟩,?_⟩;refine z 7 7 (.tuple #[.agg #[.slice t m A],.int .i64 (dvZ U36)]) ?_
    refine z 8 15 (.agg #[.slice t m A]) ?_
    refine z 9 16 (.int .i64 (dvZ U36)) ?_
    have j:=b.lt;have k:=c.lt;have q:=d.lt;have O:=l.lt;have lNq10:=G.lt;refine za 10 5 [.slice none 0 0] 32 (pg) ?_
    intro v12 g13 I hg13 B;replace e:=aj e B;replace b:=b.keep B;replace c:=c.keep B;replace d:=d.keep B;replace i:=i.keep B;replace l:=l.keep B;replace G:=G.keep B;clear B;refine⟨⟨b,c⟩,?_⟩;refine zs 11 I 0 (.agg #[.slice t m A]) [.slice t m A] [.slice t m A] ?_
    intro v14 Y C;replace e:=aZ e C (by omega);replace b:=b.chg C (show g2≠g13 by omega);replace c:=c.chg C (show g4≠g13 by omega);replace d:=d.chg C (show g6≠g13 by omega);clear i;replace l:=l.chg C (show g≠g13 by omega);replace G:=G.cell C (show m=0\/S≠g13 by omega);clear C I;have I:=Y;clear Y;refine⟨⟨b,c⟩,?_⟩;refine z 12 6 (.int .i64 (dvZ U36)) ?_
    refine bB (ah (aT [(4,pg g6),(5,pg g13)] (by kernel_rfl) ?_));refine ax (aA (tlr 17 [.slice t m A] I 0 ?_));refine ts d 0 (.agg #[.slice t m A]) [.slice t m A] [.slice t m A] ?_
    intro v15 Y C;replace e:=aZ e C (by omega);replace b:=b.chg C (show g2≠g6 by omega);replace c:=c.chg C (show g4≠g6 by omega);replace l:=l.chg C (show g≠g6 by omega);replace G:=G.cell C (show m=0\/S≠g6 by omega);replace I:=I.chg C (show g13≠g6 by omega);clear C d;have d:=Y;clear Y;refine ay (ah (aP (aQ (.agg #[.slice t m A]) (rsc 4 (T:=32) (by kernel_rfl) (by kernel_rfl) (lr d 0)) ?_)));exact⟨_,_,_,_,rfl,G,by omega,by omega,e⟩
   have j:=b.lt;have k:=c.lt;have q:=d.lt;have O:=l.lt;refine zaa 10 5 [.slice none 0 0] 32 (pg) ?_ ?_
   ·intro v16 g17 F hg17 B;replace e:=aj e B;replace b:=b.keep B;replace c:=c.keep B;replace d:=d.keep B;replace i:=i.keep B;replace l:=l.keep B;clear B;refine⟨⟨b,c⟩,?_⟩;have j:=b.lt;have k:=c.lt;have q:=d.lt;have O:=l.lt;have lXg17:=F.lt;refine zc 6 14 62 #[.slice a0 n0 c0,.slice a1 n1 c1,.slice V X U,.func (.func 94) #[] #[pg g]] (ig (h0.keep e) (by omega) (h1.keep e) (by omega) i.a (by omega) l) ?_
    rintro _ v19 ⟨u,s,D,P,rfl,L,hq18,mq18,B⟩;replace e:=aj e B;replace b:=b.keep B;replace c:=c.keep B;replace d:=d.keep B;replace i:=i.keep B;replace l:=l.keep B;replace F:=F.keep B;clear B;refine⟨_,rfl,⟨b,c⟩,?_⟩;refine z 7 7 (.tuple #[.agg #[.slice u s D],.int .i64 (dvZ U36)]) ?_
    refine z 8 15 (.agg #[.slice u s D]) ?_
    refine z 9 16 (.int .i64 (dvZ U36)) ?_
    refine zs 11 F 0 (.agg #[.slice u s D]) [.slice u s D] [.slice u s D] ?_
    intro v20 Y C;replace e:=aZ e C (by omega);replace b:=b.chg C (show g2≠g17 by omega);replace c:=c.chg C (show g4≠g17 by omega);replace d:=d.chg C (show g6≠g17 by omega);clear i;replace l:=l.chg C (show g≠g17 by omega);replace L:=L.cell C (show s=0\/P≠g17 by omega);clear C F;have F:=Y;clear Y;refine⟨⟨b,c⟩,?_⟩;refine z 12 6 (.int .i64 (dvZ U36)) ?_
    refine bB (ah (aT [(4,pg g6),(5,pg g17)] (by kernel_rfl) ?_));refine ax (aA (tlr 17 [.slice u s D] F 0 ?_));refine ts d 0 (.agg #[.slice u s D]) [.slice u s D] [.slice u s D] ?_
    intro v21 Y C;replace e:=aZ e C (by omega);replace b:=b.chg C (show g2≠g6 by omega);replace c:=c.chg C (show g4≠g6 by omega);replace l:=l.chg C (show g≠g6 by omega);replace F:=F.chg C (show g17≠g6 by omega);replace L:=L.cell C (show s=0\/P≠g6 by omega);clear C d;have d:=Y;clear Y;refine ay (ah (aP (aQ (.agg #[.slice u s D]) (rsc 4 (T:=32) (by kernel_rfl) (by kernel_rfl) (lr d 0)) ?_)));exact⟨_,_,_,_,rfl,L,by omega,by omega,e⟩
   exact dX
  have j:=b.lt;have k:=c.lt;have q:=d.lt;refine zaa 10 5 [.slice none 0 0] 32 (pg) ?_ ?_
  ·intro v22 g23 o hg23 B;replace e:=aj e B;replace b:=b.keep B;replace c:=c.keep B;replace d:=d.keep B;replace i:=i.keep B;clear B;refine⟨⟨b,c⟩,?_⟩;have j:=b.lt;have k:=c.lt;have q:=d.lt;have W:=o.lt;refine zc 5 13 63 #[.bool false] (lK) ?_
   rintro _ v24 ⟨g,rfl,l,hg,B⟩;replace e:=aj e B;replace b:=b.keep B;replace c:=c.keep B;replace d:=d.keep B;replace i:=i.keep B;replace o:=o.keep B;clear B;refine⟨_,rfl,⟨b,c⟩,?_⟩;have j:=b.lt;have k:=c.lt;have q:=d.lt;have W:=o.lt;have O:=l.lt;refine zc 6 14 62 #[.slice a0 n0 c0,.slice a1 n1 c1,.slice V X U,.func (.func 94) #[] #[pg g]] (ig (h0.keep e) (by omega) (h1.keep e) (by omega) i.a (by omega) l) ?_
   rintro _ v26 ⟨E,p,x,Q,rfl,J,hq25,mq25,B⟩;replace e:=aj e B;replace b:=b.keep B;replace c:=c.keep B;replace d:=d.keep B;replace i:=i.keep B;replace o:=o.keep B;replace l:=l.keep B;clear B;refine⟨_,rfl,⟨b,c⟩,?_⟩;refine z 7 7 (.tuple #[.agg #[.slice E p x],.int .i64 (dvZ U36)]) ?_
   refine z 8 15 (.agg #[.slice E p x]) ?_
   refine z 9 16 (.int .i64 (dvZ U36)) ?_
   refine zs 11 o 0 (.agg #[.slice E p x]) [.slice E p x] [.slice E p x] ?_
   intro v27 Y C;replace e:=aZ e C (by omega);replace b:=b.chg C (show g2≠g23 by omega);replace c:=c.chg C (show g4≠g23 by omega);replace d:=d.chg C (show g6≠g23 by omega);clear i;replace l:=l.chg C (show g≠g23 by omega);replace J:=J.cell C (show p=0\/Q≠g23 by omega);clear C o;have o:=Y;clear Y;refine⟨⟨b,c⟩,?_⟩;refine z 12 6 (.int .i64 (dvZ U36)) ?_
   refine bB (ah (aT [(4,pg g6),(5,pg g23)] (by kernel_rfl) ?_));refine ax (aA (tlr 17 [.slice E p x] o 0 ?_));refine ts d 0 (.agg #[.slice E p x]) [.slice E p x] [.slice E p x] ?_
   intro v28 Y C;replace e:=aZ e C (by omega);replace b:=b.chg C (show g2≠g6 by omega);replace c:=c.chg C (show g4≠g6 by omega);replace o:=o.chg C (show g23≠g6 by omega);replace l:=l.chg C (show g≠g6 by omega);replace J:=J.cell C (show p=0\/Q≠g6 by omega);clear C d;have d:=Y;clear Y;refine ay (ah (aP (aQ (.agg #[.slice E p x]) (rsc 4 (T:=32) (by kernel_rfl) (by kernel_rfl) (lr d 0)) ?_)));exact⟨_,_,_,_,rfl,J,by omega,by omega,e⟩
  exact dX
 have j:=b.lt;have k:=c.lt;have q:=d.lt;refine zaa 10 5 [.slice none 0 0] 32 (pg) ?_ ?_
 ·intro v29 M f hg30 B;replace e:=aj e B;replace b:=b.keep B;replace c:=c.keep B;replace d:=d.keep B;clear B;refine⟨⟨b,c⟩,?_⟩;have j:=b.lt;have k:=c.lt;have q:=d.lt;have N:=f.lt;refine zc 4 12 71 #[] (rD) ?_
  rintro _ v32 ⟨Z,ab,aa,rfl,H,mq31,B⟩;replace e:=aj e B;replace b:=b.keep B;replace c:=c.keep B;replace d:=d.keep B;replace f:=f.keep B;clear B;refine⟨_,rfl,⟨b,c⟩,?_⟩;have j:=b.lt;have k:=c.lt;have q:=d.lt;have N:=f.lt;refine zc 5 13 63 #[.bool false] (lK) ?_
  rintro _ v33 ⟨g,rfl,l,hg,B⟩;replace e:=aj e B;replace b:=b.keep B;replace c:=c.keep B;replace d:=d.keep B;replace f:=f.keep B;replace H:=H.keep B;clear B;refine⟨_,rfl,⟨b,c⟩,?_⟩;have j:=b.lt;have k:=c.lt;have q:=d.lt;have N:=f.lt;have O:=l.lt;refine zc 6 14 62 #[.slice a0 n0 c0,.slice a1 n1 c1,.slice Z ab aa,.func (.func 94) #[] #[pg g]] (ig (h0.keep e) (by omega) (h1.keep e) (by omega) H.a (by omega) l) ?_
  rintro _ v35 ⟨v,r,y,R,rfl,K,hq34,mq34,B⟩;replace e:=aj e B;replace b:=b.keep B;replace c:=c.keep B;replace d:=d.keep B;replace f:=f.keep B;replace H:=H.keep B;replace l:=l.keep B;clear B;refine⟨_,rfl,⟨b,c⟩,?_⟩;refine z 7 7 (.tuple #[.agg #[.slice v r y],.int .i64 (dvZ U36)]) ?_
  refine z 8 15 (.agg #[.slice v r y]) ?_
  refine z 9 16 (.int .i64 (dvZ U36)) ?_
  refine zs 11 f 0 (.agg #[.slice v r y]) [.slice v r y] [.slice v r y] ?_
  intro v36 Y C;replace e:=aZ e C (by omega);replace b:=b.chg C (show g2≠M by omega);replace c:=c.chg C (show g4≠M by omega);replace d:=d.chg C (show g6≠M by omega);clear H;replace l:=l.chg C (show g≠M by omega);replace K:=K.cell C (show r=0\/R≠M by omega);clear C f;have f:=Y;clear Y;refine⟨⟨b,c⟩,?_⟩;refine z 12 6 (.int .i64 (dvZ U36)) ?_
  refine bB (ah (aT [(4,pg g6),(5,pg M)] (by kernel_rfl) ?_));refine ax (aA (tlr 17 [.slice v r y] f 0 ?_));refine ts d 0 (.agg #[.slice v r y]) [.slice v r y] [.slice v r y] ?_
  intro v37 Y C;replace e:=aZ e C (by omega);replace b:=b.chg C (show g2≠g6 by omega);replace c:=c.chg C (show g4≠g6 by omega);replace f:=f.chg C (show M≠g6 by omega);replace l:=l.chg C (show g≠g6 by omega);replace K:=K.cell C (show r=0\/R≠g6 by omega);clear C d;have d:=Y;clear Y;refine ay (ah (aP (aQ (.agg #[.slice v r y]) (rsc 4 (T:=32) (by kernel_rfl) (by kernel_rfl) (lr d 0)) ?_)));exact⟨_,_,_,_,rfl,K,by omega,by omega,e⟩
 exact dX
end
end Fo
end Go.Proofs.YthfepflplbahkaaGreatDoor
