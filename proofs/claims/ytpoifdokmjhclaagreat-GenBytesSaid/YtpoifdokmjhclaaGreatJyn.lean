import Derived.Test.YtpoifdokmjhclaaGreatJye
import Derived.Test.YtpoifdokmjhclaaGreatJym
set_option maxRecDepth 100000
set_option maxHeartbeats 8000000
namespace Go.Proofs.YtpoifdokmjhclaaGreat
namespace Gn
open Go.RowKit Go.Lib Pg Lim Gl Mg
attribute [local go_sem] Oper.semAt_some
set_option linter.unusedVariables false
set_option linter.unusedSimpArgs false
section
variable {w W:World}{b n k g off i c:Nat}{o:Oper}{v v0 v1:Value}{ρ:Operand->Value}{ao a1 a2:Option Addr}{l A L:List Int}{x y p0 p1 p2 p3 p4 p5 p6 p7 p8 p9:Int}{ops:Array Oper}{rest:List Oper}
theorem cellB{o:Nat}(B:BW w W)(h:w.cell? ⟨b,o,none⟩=some v):W.cell? ⟨b,o,none⟩=some v:=by
 rw[World.cell?_of_block (w:=w) (B.block b (aC h))];exact h
theorem ep{P:Program}(a b off n c k:Nat)(hk:k < n)(d:0 < n->ao=some ⟨b,off,none⟩)(ho:∃ T x y,o.op=.indexAddr T x y/\slT P T a=true/\ρ x=.slice ao n c/\ρ y=.int .i64 (k:Int):=by exact⟨_,_,_,rfl,by kernel_rfl,by kernel_rfl,by kernel_rfl⟩):(execOp ρ o).run P w=.ok (.value (.pointer (some ⟨b,off+k * a,none⟩))) w:=by
 rw[d (by omega)] at ho;exact rm a b off n c k hk ho
structure Nl(w:World)(ao:Option Addr)(n k b o:Nat)(l:List Int):Prop where
 len:l.length=n * k
 ptr:0 < n->ao=some ⟨b,o,none⟩
 cell:∀ i,i < n * k->w.cell? ⟨b,o+i,none⟩=some (.int .u64 (nth l i))
 rng:∀ x∈l,In8 x
theorem Nl.keep{w':World}{o:Nat}(N:Nl w ao n k b o l)(B:BW w w'):Nl w' ao n k b o l:=⟨N.len,N.ptr,λi hi=>cellB B (N.cell i hi),N.rng⟩
theorem Nl.lt{o:Nat}(N:Nl w ao n k b o l)(hn:0 < n)(hk:0 < k):b < w.heap.size:=aC (N.cell 0 (Nat.mul_pos hn hk))
theorem ldP{o:Nat}(c0:w.cell? ⟨g,o,none⟩=some v0)(c1:w.cell? ⟨g,o+1,none⟩=some v1):(loadVar 43 ⟨g,o,none⟩).run Tryz.prog w=.ok (.agg #[v0,v1]) w:=by go_simp
theorem ldF{o:Nat}{v2:Value}(c0:w.cell? ⟨g,o,none⟩=some v0)(c1:w.cell? ⟨g,o+1,none⟩=some v1)(c2:w.cell? ⟨g,o+2,none⟩=some v2):(loadVar 45 ⟨g,o,none⟩).run Tryz.prog w=.ok (.agg #[v0,v1,v2]) w:=by go_simp
theorem qX(S:Nl w ao n 2 b off A)(hk:k < n)(H:∀ i v,w.cell? ⟨b,i,none⟩=some v->W.cell? ⟨b,i,none⟩=some v)(ho:∃ p,o.op=.load 43 p/\ρ p=.pointer (some ⟨b,off+k * 2,none⟩):=by exact⟨_,rfl,by kernel_rfl⟩):(execOp ρ o).run Tryz.prog W=.ok (.value (.agg #[.int .u64 (nth A (k * 2)),.int .u64 (nth A (k * 2+1))])) W:=by
 obtain⟨p,h,a⟩:=ho;have:=ldP (H _ _ (S.cell (k * 2) (by omega))) (H _ _ (S.cell (k * 2+1) (by omega)));simp only[execOp,h,a];simp[Instr.loadAt,Instr.sureAddr,Result.andThen,this]
theorem pW(S:Nl w ao n 3 b off A)(hk:k < n)(H:∀ i v,w.cell? ⟨b,i,none⟩=some v->W.cell? ⟨b,i,none⟩=some v)(ho:∃ p,o.op=.load 45 p/\ρ p=.pointer (some ⟨b,off+k * 3,none⟩):=by exact⟨_,rfl,by kernel_rfl⟩):(execOp ρ o).run Tryz.prog W=.ok (.value (.agg #[.int .u64 (nth A (k * 3)),.int .u64 (nth A (k * 3+1)),.int .u64 (nth A (k * 3+2))])) W:=by
 obtain⟨p,h,a⟩:=ho;have:=ldF (H _ _ (S.cell (k * 3) (by omega))) (H _ _ (S.cell (k * 3+1) (by omega))) (H _ _ (S.cell (k * 3+2) (by omega)));simp only[execOp,h,a];simp[Instr.loadAt,Instr.sureAddr,Result.andThen,this]
theorem fq(A:List Int){m:Nat}(h:m < A.length:=by omega):A.take (m+1)=A.take m ++ [nth A m]:=by
 rw[List.take_add_one,List.getElem?_eq_getElem h,cF h];rfl
theorem Cn(a:A.length=n * 2)(hi:i < n)(L:List Int):(L ++ w8 (A.take (i * 2))) ++ w8 [nth A (i * 2),nth A (i * 2+1)]=L ++ w8 (A.take ((i+1) * 2)):=by
 rw[show (i+1) * 2=i * 2+1+1 by omega,fq A,fq A];simp only[vm,w8,List.append_nil,List.append_assoc]
theorem DB(a:A.length=n * 3)(hi:i < n)(L:List Int):(L ++ w8 (A.take (i * 3))) ++ w8 [nth A (i * 3),nth A (i * 3+1),nth A (i * 3+2)]=L ++ w8 (A.take ((i+1) * 3)):=by
 rw[show (i+1) * 3=i * 3+1+1+1 by omega,fq A,fq A,fq A];simp only[vm,w8,List.append_nil,List.append_assoc]
theorem w8_tk1(hi:i < A.length)(L:List Int):(L ++ w8 (A.take i)) ++ be 8 (nth A i)=L ++ w8 (A.take (i+1)):=by
 rw[fq A (h:=hi)];simp only[vm,w8,List.append_nil,List.append_assoc]
theorem yA(X:WrA w g 0 L)(hL:L.length<=1000000000):CP 53 #[pg g,.int .u64 x] w λe w'=>e=.returned (.tuple #[])/\WrA w' g 0 (L ++ be 8 x)/\But g w w':=by
 have h:=GV (x:=x) X;simp only[wrote,if_pos] at h;exact h
theorem zQ32(X:WrA w g 0 L)(hx:0<=x/\x < 4294967296)(hL:L.length<=1000000000):CP 28 #[pg g,.int .u32 x] w λe w'=>e=.returned (.tuple #[])/\WrA w' g 0 (L ++ be 4 x)/\But g w w':=by
 have h:=wrU32 X hx.1 hx.2 (by omega);simp only[wrote,if_pos] at h;exact h
theorem wto{e:Int}{L':List Int}(X:WrA w g e L)(h:L=L'):WrA w g e L':=h▸X
theorem CR(k:Int)(hk:0<=k/\k < 4294967296)(ho:∃ u,o.op=.convert 3 64 u/\ρ u=.int .i64 k:=by exact⟨_,rfl,by kernel_rfl⟩):(execOp ρ o).run Tryz.prog w=.ok (.value (.int .u32 k)) w:=by
 obtain⟨u,h,b⟩:=ho;simp only[execOp,h,b];go_simp;rw[show IntKind.u32.wrap k=k % 4294967296 from rfl];omega
theorem wY(k:Nat)(hk:k < 10)(ho:∃ x y,o.op=.index 112 x y/\ρ x=.agg #[pg g,pq g 1,pq g 2,pq g 3,pq g 4,pq g 5,pq g 6,pq g 7,pq g 8,pq g 9]/\ρ y=.int .i64 (k:Int):=by exact⟨_,_,rfl,by kernel_rfl,by kernel_rfl⟩):(execOp ρ o).run Tryz.prog w=.ok (.value (pq g k)) w:=by
 obtain⟨x,y,h,c,b⟩:=ho;simp only[execOp,h,c,b];have:k=0\/k=1\/k=2\/k=3\/k=4\/k=5\/k=6\/k=7\/k=8\/k=9:=by omega
 rcases this with e | e | e | e | e | e | e | e | e | e<;>subst e<;>unfold Instr.index<;>go_simp
theorem mL(g:Nat):cB 47 #[pg g] w (.agg #[pg g,pq g 1,pq g 2,pq g 3,pq g 4,pq g 5,pq g 6,pq g 7,pq g 8,pq g 9]):=by
 have b:=Below.refl w.heap.size w;refine af (n:=34) Tryz.func47 rfl ?_
 refine sr<|ta 2 [.pointer none,.pointer none,.pointer none,.pointer none,.pointer none,.pointer none,.pointer none,.pointer none,.pointer none,.pointer none] 112 (pg) ?_
 intro v1 d a c B;have e:=Nat.le_trans b.size c;have b:=ae b B;refine nt<|ag ?_
 have b:=b.drew;have a:=a.drew;refine dx (λ_=>True) (λ_=>false) trivial ?_
 refine z 0 3 (pg g)<|z 1 4 (pg g)<|z 2 5 (pg g)<|z 3 6 (pg g)<|z 4 7 (pg g)<|z 5 8 (pq g 1)<|z 6 9 (pg g)<|z 7 10 (pg g)<|z 8 11 (pq g 2)<|z 9 12 (pg g)<|z 10 13 (pg g)<|z 11 14 (pq g 3)<|z 12 15 (pg g)<|z 13 16 (pg g)<|z 14 17 (pq g 4)<|z 15 18 (pg g)<|z 16 19 (pg g)<|z 17 20 (pq g 5)<|z 18 21 (pg g)<|z 19 22 (pg g)<|z 20 23 (pq g 6)<|z 21 24 (pg g)<|z 22 25 (pg g)<|z 23 26 (pq g 7)<|z 24 27 (pg g)<|z 25 28 (pg g)<|z 26 29 (pq g 8)<|z 27 30 (pg g)<|z 28 31 (pg g)<|z 29 32 (pq g 9)<|zr 30 33 (.agg #[pg g,pq g 1,pq g 2,pq g 3,pq g 4,pq g 5,pq g 6,pq g 7,pq g 8,pq g 9]) (by intro _ _;kernel_rfl)<|zsw 31 a [pg g,pq g 1,pq g 2,pq g 3,pq g 4,pq g 5,pq g 6,pq g 7,pq g 8,pq g 9] ?_
 intro f Y C;have b:=aF b C;have a:=Y;refine⟨trivial,aS<|aj<|aA [(2,pg d)]<|bB<|ah (.agg #[pg g,pq g 1,pq g 2,pq g 3,pq g 4,pq g 5,pq g 6,pq g 7,pq g 8,pq g 9]) (rsc (T:=112) 2 (lr a 0)) ?_⟩;exact⟨rfl,b⟩
theorem wPurse(X:WrA w g 0 L)(hL:L.length<=100000000):CP 31 #[pg g,.agg #[iU x,iU y]] w λe w'=>e=.returned (.tuple #[])/\WrA w' g 0 (L ++ w8 [x,y])/\But g w w':=by
 have c:=But.refl g w;have b:=X;have m:=X.lt;refine af (n:=16) Tryz.func31 rfl ?_
 refine sr ?_
 have j:=b.lt;refine ta 3 [iU x,iU y] 43 (pg) ?_
 intro v1 i a d B;have k:=Nat.le_trans c.size d;have c:=c.trans (But.of B);have b:=b.keep B;refine nt<|ag ?_
 have c:=c.drew;have b:=b.keep (Below.refl _ _).drew;have a:=a.drew;refine gd1 a ?_
 refine z 0 4 (pg g)<|z 1 5 (pg g)<|z 2 6 (pg g)<|z 3 7 (pg i)<|zl 4 8 (iU x) (λ_ h=>h) 0<|zc 5 9 53 #[pg g,iU x] (yA b (by (try simp only[List.length_append,ax,bW,List.length_cons,List.length_nil,List.length_take]);omega)) ?_
 rintro _ l ⟨rfl,f,U⟩;have c:=c.trans U;have a:=But.blk U a (by omega);have b:=f;refine⟨_,rfl,a,aS<|aj ?_⟩;have c:=c.drew;have b:=b.keep (Below.refl _ _).drew;have a:=a.drew;refine gd1 a ?_
 refine z 0 10 (pg g)<|z 1 11 (pg g)<|z 2 12 (pg g)<|z 3 13 (pq i 1)<|zl 4 14 (iU y) (λ_ h=>h) 1<|zc 5 15 53 #[pg g,iU y] (yA b (by (try simp only[List.length_append,ax,bW,List.length_cons,List.length_nil,List.length_take]);omega)) ?_
 rintro _ v4 ⟨rfl,f,U⟩;have c:=c.trans U;have a:=But.blk U a (by omega);have b:=f;refine⟨_,rfl,a,aS<|bh (.tuple #[]) (rs0) ?_⟩;exact⟨rfl,wto b (by simp only[w8,List.append_nil,List.append_assoc]),c⟩
theorem wFound{u:Int}(X:WrA w g 0 L)(hL:L.length<=100000000):CP 33 #[pg g,.agg #[iU x,iU y,iU u]] w λe w'=>e=.returned (.tuple #[])/\WrA w' g 0 (L ++ w8 [x,y,u])/\But g w w':=by
 have c:=But.refl g w;have b:=X;have m:=X.lt;refine af (n:=22) Tryz.func33 rfl ?_
 refine sr ?_
 have j:=b.lt;refine ta 3 [iU x,iU y,iU u] 45 (pg) ?_
 intro v1 f a i B;have k:=Nat.le_trans c.size i;have c:=c.trans (But.of B);have b:=b.keep B;refine nt<|ag ?_
 have c:=c.drew;have b:=b.keep (Below.refl _ _).drew;have a:=a.drew;refine gd1 a ?_
 refine z 0 4 (pg g)<|z 1 5 (pg g)<|z 2 6 (pg g)<|z 3 7 (pg f)<|zl 4 8 (iU x) (λ_ h=>h) 0<|zc 5 9 53 #[pg g,iU x] (yA b (by (try simp only[List.length_append,ax,bW,List.length_cons,List.length_nil,List.length_take]);omega)) ?_
 rintro _ l ⟨rfl,d,U⟩;have c:=c.trans U;have a:=But.blk U a (by omega);have b:=d;refine⟨_,rfl,a,aS<|aj<|ag ?_⟩;have c:=c.drew;have b:=b.keep (Below.refl _ _).drew;have a:=a.drew;refine gd1 a ?_
 refine z 0 10 (pg g)<|z 1 11 (pg g)<|z 2 12 (pg g)<|z 3 13 (pq f 1)<|zl 4 14 (iU y) (λ_ h=>h) 1<|zc 5 15 53 #[pg g,iU y] (yA b (by (try simp only[List.length_append,ax,bW,List.length_cons,List.length_nil,List.length_take]);omega)) ?_
 rintro _ v4 ⟨rfl,d,U⟩;have c:=c.trans U;have a:=But.blk U a (by omega);have b:=d;refine⟨_,rfl,a,aS<|aj ?_⟩;have c:=c.drew;have b:=b.keep (Below.refl _ _).drew;have a:=a.drew;refine gd1 a ?_
 refine z 0 16 (pg g)<|z 1 17 (pg g)<|z 2 18 (pg g)<|z 3 19 (pq f 2)<|zl 4 20 (iU u) (λ_ h=>h) 2<|zc 5 21 53 #[pg g,iU u] (yA b (by (try simp only[List.length_append,ax,bW,List.length_cons,List.length_nil,List.length_take]);omega)) ?_
 rintro _ o ⟨rfl,d,U⟩;have c:=c.trans U;have a:=But.blk U a (by omega);have b:=d;refine⟨_,rfl,a,aS<|bh (.tuple #[]) (rs0) ?_⟩;exact⟨rfl,wto b (by simp only[w8,List.append_nil,List.append_assoc]),c⟩
theorem cell10(h:i < 10):([.int .u64 p0,.int .u64 p1,.int .u64 p2,.int .u64 p3,.int .u64 p4,.int .u64 p5,.int .u64 p6,.int .u64 p7,.int .u64 p8,.int .u64 p9]:List Value)[i]?=some (.int .u64 (nth [p0,p1,p2,p3,p4,p5,p6,p7,p8,p9] i)):=by
 have:i=0\/i=1\/i=2\/i=3\/i=4\/i=5\/i=6\/i=7\/i=8\/i=9:=by omega
 rcases this with e | e | e | e | e | e | e | e | e | e<;>subst e<;>rfl
theorem Fu(X:WrA w g 0 L)(hL:L.length<=100000000):CP 29 #[pg g,.agg #[iU p0,iU p1,iU p2,iU p3,iU p4,iU p5,iU p6,iU p7,iU p8,iU p9]] w λe w'=>e=.returned (.tuple #[])/\WrA w' g 0 (L ++ w8 [p0,p1,p2,p3,p4,p5,p6,p7,p8,p9])/\But g w w':=by
 have f:=But.refl g w;have d:=X;have m:=X.lt;refine af (n:=18) Tryz.func29 rfl ?_
 refine sr ?_
 have l:=d.lt;refine ta 3 [iU p0,iU p1,iU p2,iU p3,iU p4,iU p5,iU p6,iU p7,iU p8,iU p9] 24 (pg) ?_
 intro v1 b a j B;have o:=Nat.le_trans f.size j;have f:=f.trans (But.of B);have d:=d.keep B;refine nx<|tc 6 47 #[pg b] (mL b) ?_
 rintro _ p ⟨rfl,B⟩;have f:=f.trans (But.of B);have d:=d.keep B;have a:=a.keep B;refine⟨_,rfl,tz 1<|nt<|aB<|bI (λs=>10 - s) (fun(s:Nat)=>[(0,pg g),(6,.agg #[pg b,pq b 1,pq b 2,pq b 3,pq b 4,pq b 5,pq b 6,pq b 7,pq b 8,pq b 9]),(7,iI (s:Int))]) (λs w'=>s<=10/\Blk w' b [iU p0,iU p1,iU p2,iU p3,iU p4,iU p5,iU p6,iU p7,iU p8,iU p9] 24/\WrA w' g 0 (L ++ w8 (([p0,p1,p2,p3,p4,p5,p6,p7,p8,p9]:List Int).take s))/\But g w w') (0:Nat) ⟨Nat.zero_le _,a,wto d (by rw[List.take_zero];exact(List.append_nil L).symm),f⟩ (by kernel_rfl) ?_⟩;rintro i v4 ⟨hi,a,d,f⟩;have m:=d.lt;refine sr ?_
 by_cases ci:(i:Int) < 10
 ·have c:i < 10:=by omega
  refine tq 8 (.bool (decide ((i:Int) < 10))) (bT) (congrArg Value.bool (decide_eq_true ci))<|nt<|ag<|aL<|aT<|aj<|ag<|aB<|sr<|tr 9 (pq b i) (wY i c)<|tz 1<|nt ?_
  have f:=f.drew;have d:=d.keep (Below.refl _ _).drew;have a:=a.drew;refine gd1 a ?_
  refine z 0 10 (pg g)<|z 1 11 (pg g)<|z 2 12 (pg g)<|z 3 13 (pq b i)<|z 4 14 (pq b i)<|zl 5 15 (iU (nth [p0,p1,p2,p3,p4,p5,p6,p7,p8,p9] i)) (λ_ h=>h) i (hv:=cell10 c)<|zc 6 16 53 #[pg g,iU (nth [p0,p1,p2,p3,p4,p5,p6,p7,p8,p9] i)] (yA d (by (try simp only[List.length_append,ax,bW,List.length_cons,List.length_nil,List.length_take]);omega)) ?_
  rintro _ q ⟨rfl,k,U⟩;have f:=f.trans U;have a:=But.blk U a (by omega);have d:=k;exact⟨_,rfl,a,aS<|cX<|aj<|aN<|tq 17 (iI (IntKind.i64.wrap ((i:Int)+1))) (iI ((i:Int)+1)) (wi (by omega))<|tz 1<|aO<|bH (i+1) ⟨c,a,wto d (w8_tk1 c L),f⟩ (by kernel_rfl) (hm:=by show 10 - (i+1) < 10 - i;omega)⟩
 refine tq 8 (.bool (decide ((i:Int) < 10))) (bF) (congrArg Value.bool (decide_eq_false ci))<|nt<|ag<|aX<|bQ<|bC<|bC<|dg<|bh (.tuple #[]) (rs0) ?_
 obtain rfl:i=10:=by omega
 exact⟨rfl,d,f⟩
theorem layP{o:Nat}(X:WrA w g 0 L)(N:Nl w ao n 2 b o A)(hb:0 < n->b≠g)(hL:L.length<=10000000)(hn:n<=1000000):CP 30 #[pg g,.slice ao n c,.func (.func 31) #[pg g] #[]] w λe w'=>e=.returned (.tuple #[])/\WrA w' g 0 (L ++ (be 4 (n:Int) ++ w8 A))/\But g w w':=by
 have a:=But.refl g w;have f:=X;have r:=X.lt
 have k:0 < n->b≠g:=λh=>hb h
 have hA:=N.len;refine af (n:=25) Tryz.func30 rfl ?_
 refine sr<|tz 5<|tr 13 (.int .u32 ((n:Nat):Int)) (CR ((n:Nat):Int) ⟨by omega,by omega⟩)<|tc 14 28 #[pg g,.int .u32 ((n:Nat):Int)] (zQ32 f ⟨by omega,by omega⟩ (by (try simp only[List.length_append,ax,bW,List.length_cons,List.length_nil,List.length_take]);omega)) ?_
 rintro _ v1 ⟨rfl,l,U⟩;have a:=a.trans U;have f:=l;refine⟨_,rfl,nx<|tz 3<|nt<|aB<|bI (λs=>n - s) (fun(s:Nat)=>[(0,pg g),(2,.func (.func 31) #[pg g] #[]),(15,.slice ao n c),(16,iI ((n:Nat):Int)),(17,iI (s:Int))]) (λs w'=>s<=n/\WrA w' g 0 ((L ++ be 4 (n:Int)) ++ w8 (A.take (s * 2)))/\But g w w') (0:Nat) ⟨Nat.zero_le _,wto f (by rw[Nat.zero_mul,List.take_zero];exact(List.append_nil _).symm),a⟩ (by kernel_rfl) ?_⟩;rintro i v2 ⟨hi,f,a⟩;have r:=f.lt;refine sr ?_
 by_cases ci:(i:Int) < ((n:Nat):Int)
 ·have d:i < n:=by omega
  refine tq 18 (.bool (decide ((i:Int) < ((n:Nat):Int)))) (bT) (congrArg Value.bool (decide_eq_true ci))<|nt<|ag<|aL<|aT<|aj<|ag<|aB<|sr<|tr 19 (pq b (o+i * 2)) (ep 2 b o n c i d N.ptr)<|tr 20 (.agg #[iU (nth A (i * 2)),iU (nth A (i * 2+1))]) (qX N d (λ_ _ q=>a.cell q (k (by omega)))) ?_
  have p:=f.lt;refine ta 7 cl5 43 (pg) ?_
  intro v u j m B;have t:=Nat.le_trans a.size m;have a:=a.trans (But.of B);have f:=f.keep B;refine tsw j [iU (nth A (i * 2)),iU (nth A (i * 2+1))] ?_
  intro x Y C;have a:=mO a C;have f:=WrA.dc f j (by decide) (by omega) (aU C);have j:=Y;refine nt<|aN<|tz 1<|tlr 22 [iU (nth A (i * 2)),iU (nth A (i * 2+1))] j 0<|tc 23 31 #[pg g,.agg #[iU (nth A (i * 2)),iU (nth A (i * 2+1))]] (wPurse f (by (try simp only[List.length_append,ax,bW,List.length_cons,List.length_nil,List.length_take]);omega)) ?_
  rintro _ v6 ⟨rfl,l,U⟩;have a:=a.trans U;have j:=But.blk U j (by omega);have f:=l;exact⟨_,rfl,aO<|cX<|aj<|aN<|tq 24 (iI (IntKind.i64.wrap ((i:Int)+1))) (iI ((i:Int)+1)) (wi (by omega))<|tz 1<|aO<|bH (i+1) ⟨d,wto f (Cn hA d _),a⟩ (by kernel_rfl) (hm:=by show n - (i+1) < n - i;omega)⟩
 refine tq 18 (.bool (decide ((i:Int) < ((n:Nat):Int)))) (bF) (congrArg Value.bool (decide_eq_false ci))<|nt<|ag<|aX<|bQ<|bC<|bC<|dg<|bh (.tuple #[]) (rs0) ?_
 obtain rfl:i=n:=by omega
 exact⟨rfl,wto f (by rw[List.take_of_length_le (by omega),List.append_assoc]),a⟩
theorem layF{o:Nat}(X:WrA w g 0 L)(N:Nl w ao n 3 b o A)(hb:0 < n->b≠g)(hL:L.length<=10000000)(hn:n<=1000000):CP 32 #[pg g,.slice ao n c,.func (.func 33) #[pg g] #[]] w λe w'=>e=.returned (.tuple #[])/\WrA w' g 0 (L ++ (be 4 (n:Int) ++ w8 A))/\But g w w':=by
 have a:=But.refl g w;have f:=X;have r:=X.lt
 have k:0 < n->b≠g:=λh=>hb h
 have hA:=N.len;refine af (n:=25) Tryz.func32 rfl ?_
 refine sr<|tz 5<|tr 13 (.int .u32 ((n:Nat):Int)) (CR ((n:Nat):Int) ⟨by omega,by omega⟩)<|tc 14 28 #[pg g,.int .u32 ((n:Nat):Int)] (zQ32 f ⟨by omega,by omega⟩ (by (try simp only[List.length_append,ax,bW,List.length_cons,List.length_nil,List.length_take]);omega)) ?_
 rintro _ v1 ⟨rfl,l,U⟩;have a:=a.trans U;have f:=l;refine⟨_,rfl,nx<|tz 3<|nt<|aB<|bI (λs=>n - s) (fun(s:Nat)=>[(0,pg g),(2,.func (.func 33) #[pg g] #[]),(15,.slice ao n c),(16,iI ((n:Nat):Int)),(17,iI (s:Int))]) (λs w'=>s<=n/\WrA w' g 0 ((L ++ be 4 (n:Int)) ++ w8 (A.take (s * 3)))/\But g w w') (0:Nat) ⟨Nat.zero_le _,wto f (by rw[Nat.zero_mul,List.take_zero];exact(List.append_nil _).symm),a⟩ (by kernel_rfl) ?_⟩;rintro i v2 ⟨hi,f,a⟩;have r:=f.lt;refine sr ?_
 by_cases ci:(i:Int) < ((n:Nat):Int)
 ·have d:i < n:=by omega
  refine tq 18 (.bool (decide ((i:Int) < ((n:Nat):Int)))) (bT) (congrArg Value.bool (decide_eq_true ci))<|nt<|ag<|aL<|aT<|aj<|ag<|aB<|sr<|tr 19 (pq b (o+i * 3)) (ep 3 b o n c i d N.ptr)<|tr 20 (.agg #[iU (nth A (i * 3)),iU (nth A (i * 3+1)),iU (nth A (i * 3+2))]) (pW N d (λ_ _ q=>a.cell q (k (by omega)))) ?_
  have p:=f.lt;refine ta 7 [iU 0,iU 0,iU 0] 45 (pg) ?_
  intro v u j m B;have t:=Nat.le_trans a.size m;have a:=a.trans (But.of B);have f:=f.keep B;refine tsw j [iU (nth A (i * 3)),iU (nth A (i * 3+1)),iU (nth A (i * 3+2))] ?_
  intro x Y C;have a:=mO a C;have f:=WrA.dc f j (by decide) (by omega) (aU C);have j:=Y;refine nt<|aN<|tz 1<|tlr 22 [iU (nth A (i * 3)),iU (nth A (i * 3+1)),iU (nth A (i * 3+2))] j 0<|tc 23 33 #[pg g,.agg #[iU (nth A (i * 3)),iU (nth A (i * 3+1)),iU (nth A (i * 3+2))]] (wFound f (by (try simp only[List.length_append,ax,bW,List.length_cons,List.length_nil,List.length_take]);omega)) ?_
  rintro _ v6 ⟨rfl,l,U⟩;have a:=a.trans U;have j:=But.blk U j (by omega);have f:=l;exact⟨_,rfl,aO<|cX<|aj<|aN<|tq 24 (iI (IntKind.i64.wrap ((i:Int)+1))) (iI ((i:Int)+1)) (wi (by omega))<|tz 1<|aO<|bH (i+1) ⟨d,wto f (DB hA d _),a⟩ (by kernel_rfl) (hm:=by show n - (i+1) < n - i;omega)⟩
 refine tq 18 (.bool (decide ((i:Int) < ((n:Nat):Int)))) (bF) (congrArg Value.bool (decide_eq_false ci))<|nt<|ag<|aX<|bQ<|bC<|bC<|dg<|bh (.tuple #[]) (rs0) ?_
 obtain rfl:i=n:=by omega
 exact⟨rfl,wto f (by rw[List.take_of_length_le (by omega),List.append_assoc]),a⟩
theorem ta_gw{ds:List Deferred}{l:Fr}{Q:Exit->Act->World->Prop}(d:Nat)(h:∀ w1 g,WrA w1 g 0 []->w.heap.size<=g->BW w w1->GL Tryz.prog n ds ops Q rest ((d,pg g) :: l) w1)(a:gd ops l o=some true:=by kernel_rfl)(hc:chk n l o (some d)=true:=by kernel_rfl)(hrun:(execOp (evL l) o).run Tryz.prog w=.ok (.value (pg w.heap.size)) (w.alloc (.cells (dF 0 none 0 (List.replicate 256 0) 0).toArray 82)):=by kernel_rfl):GL Tryz.prog n ds ops Q (o :: rest) l w:=fH (some d) _ a hc hrun (h _ _ ⟨none,[],List.replicate 256 0,0,⟨by rw[List.length_replicate],⟨_,by decide,(fV w _ _).blk⟩⟩,.nil,by decide,by simp⟩ (Nat.le_refl _) (aa w _))
theorem nU{na c1 b1 u nv c2 x t:Nat}{V:List Int}(f:Nl w a1 na 2 b1 u A)(d:Nl w a2 nv 3 x t V)(h1:na<=1000)(y:nv<=1000):CP 11 #[.agg #[iU p0,iU p1,iU p2,iU p3,iU p4,iU p5,iU p6,iU p7,iU p8,iU p9,.slice a1 na c1,.slice a2 nv c2]] w λe w'=>∃ g,e=.returned (.slice (some ⟨g,0,none⟩) (bG ⟨[p0,p1,p2,p3,p4,p5,p6,p7,p8,p9],A,V⟩ na nv).length (bG ⟨[p0,p1,p2,p3,p4,p5,p6,p7,p8,p9],A,V⟩ na nv).length)/\w.heap.size<=g/\Box w' g ((bG ⟨[p0,p1,p2,p3,p4,p5,p6,p7,p8,p9],A,V⟩ na nv).map (Value.int .u8)) 5/\BW w w':=by
 have b:=Below.refl w.heap.size w;refine af (n:=25) Tryz.func11 rfl ?_
 refine sr<|ta 1 [iU p0,iU p1,iU p2,iU p3,iU p4,iU p5,iU p6,iU p7,iU p8,iU p9,.slice a1 na c1,.slice a2 nv c2] 28 (pg) ?_
 intro v1 D a j B;have v:=Nat.le_trans b.size j;have b:=ae b B;refine tz 1<|nx ?_
 have l:=a.lt;have o:=b.size;refine ta_gw 3 ?_
 intro C g c s B;have b:=ae b B;have a:=a.keep B
 have hw:w.heap.size<=g:=Nat.le_trans o s;refine nx<|tz 1<|tc 7 28 #[pg g,.int .u32 1196183089] (zQ32 c ⟨by decide,by decide⟩ (by (try simp only[List.length_append,ax,bW,List.length_cons,List.length_nil,f.len,d.len,List.length_take]);omega)) ?_
 rintro _ v4 ⟨rfl,i,U⟩;have b:=But.below U b (by omega) (Nat.le_refl _);have a:=But.blk U a (by omega);have c:=i;refine⟨_,rfl,nx<|tz 1<|tlr 9 [iU p0,iU p1,iU p2,iU p3,iU p4,iU p5,iU p6,iU p7,iU p8,iU p9] a 0<|tc 10 29 #[pg g,.agg #[iU p0,iU p1,iU p2,iU p3,iU p4,iU p5,iU p6,iU p7,iU p8,iU p9]] (Fu c (by (try simp only[List.length_append,ax,bW,List.length_cons,List.length_nil,f.len,d.len,List.length_take]);omega)) ?_⟩;rintro _ E ⟨rfl,i,U⟩;have b:=But.below U b (by omega) (Nat.le_refl _);have a:=But.blk U a (by omega);have c:=i;refine⟨_,rfl,nx<|tz 1<|tl 12 (.slice a1 na c1) a 10<|tz 1 ?_⟩;have p:=b.size;refine tc 14 30 #[pg g,.slice a1 na c1,.func (.func 31) #[pg g] #[]] (layP c (f.keep b) (λh=>by have:=f.lt h (by decide);omega) (by (try simp only[List.length_append,ax,bW,List.length_cons,List.length_nil,f.len,d.len,List.length_take]);omega) (by omega)) ?_
 rintro _ v6 ⟨rfl,i,U⟩;have b:=But.below U b (by omega) (Nat.le_refl _);have a:=But.blk U a (by omega);have c:=i;refine⟨_,rfl,nx<|tz 1<|tl 16 (.slice a2 nv c2) a 11<|tz 1 ?_⟩;have q:=b.size;refine tc 18 32 #[pg g,.slice a2 nv c2,.func (.func 33) #[pg g] #[]] (layF c (d.keep b) (λh=>by have:=d.lt h (by decide);omega) (by (try simp only[List.length_append,ax,bW,List.length_cons,List.length_nil,f.len,d.len,List.length_take]);omega) (by omega)) ?_
 rintro _ m ⟨rfl,i,U⟩;have b:=But.below U b (by omega) (Nat.le_refl _);have a:=But.blk U a (by omega);have c:=i;refine⟨_,rfl,nt ?_⟩;refine aA [(2,zS),(3,pg g)]<|sr<|tz 1 ?_
 have r:=b.size;refine tc 21 34 #[pg g] (kG c (by (try simp only[List.length_append,ax,bW,List.length_cons,List.length_nil,f.len,d.len,List.length_take]);omega)) ?_
 rintro _ z ⟨rfl,k,B⟩;have b:=ae b B;have c:=c.keep B;refine⟨_,rfl,tz 5<|nx<|tz 2<|nr<|ah (.slice (some ⟨m.heap.size,0,none⟩) ([] ++ be 4 1196183089 ++ w8 [p0,p1,p2,p3,p4,p5,p6,p7,p8,p9] ++ (be 4 (na:Int) ++ w8 A) ++ (be 4 (nv:Int) ++ w8 V)).length ([] ++ be 4 1196183089 ++ w8 [p0,p1,p2,p3,p4,p5,p6,p7,p8,p9] ++ (be 4 (na:Int) ++ w8 A) ++ (be 4 (nv:Int) ++ w8 V)).length) (rs1 2) ?_⟩;rw[show ([] ++ be 4 1196183089 ++ w8 [p0,p1,p2,p3,p4,p5,p6,p7,p8,p9] ++ (be 4 (na:Int) ++ w8 A) ++ (be 4 (nv:Int) ++ w8 V))=bG ⟨[p0,p1,p2,p3,p4,p5,p6,p7,p8,p9],A,V⟩ na nv from by simp only[bG,mk0,List.nil_append,List.append_assoc]] at k ⊢;exact⟨_,rfl,r,k,b⟩
end
end Gn
end Go.Proofs.YtpoifdokmjhclaaGreat
