import Derived.Test.YtpoifdokmjhclaaGreatJgN
set_option maxRecDepth 100000
set_option maxHeartbeats 8000000
namespace Go.Proofs.YtpoifdokmjhclaaGreat
namespace Fo
open Go.RowKit Go.Lib Pg Lim Gl Kv Bk Pw Sd Di
attribute [local go_sem] Oper.semAt_some
set_option linter.unusedVariables false
set_option linter.unusedSimpArgs false
section
variable {w:World}{a b:Int}{c ba bf:Nat}
theorem mr:cB 58 #[.agg #[.int .u64 a,.int .u64 b]] w (.int .u64 a):=by
 have c:=Below.refl w.heap.size w;refine af (n:=5) Tryz.func58 rfl ?_
 refine sr<|ta 1 [.int .u64 a,.int .u64 b] 43 (pg) ?_
 intro v1 f d e B;replace c:=ae c B;clear B;refine tz 1<|nx<|tz 1<|tl 4 (.int .u64 a) d 0<|tz 1<|nr<|ah (.int .u64 a) (rs1 2) ?_
 exact⟨rfl,c⟩
theorem oX{c:Int}:cB 63 #[.agg #[.int .u64 a,.int .u64 b,.int .u64 c]] w (.int .u64 a):=by
 have d:=Below.refl w.heap.size w;refine af (n:=5) Tryz.func63 rfl ?_
 refine sr<|ta 1 [.int .u64 a,.int .u64 b,.int .u64 c] 45 (pg) ?_
 intro v1 g e f B;replace d:=ae d B;clear B;refine tz 1<|nx<|tz 1<|tl 4 (.int .u64 a) e 0<|tz 1<|nr<|ah (.int .u64 a) (rs1 2) ?_
 exact⟨rfl,d⟩
theorem isE_x  : cB 60 #[.agg #[.int .u64 16,.int .u64 100]] w (.bool false):=by
 have a:=Below.refl w.heap.size w;refine af (n:=6) Tryz.func60 rfl ?_
 refine sr<|ta 1 [.int .u64 16,.int .u64 100] 43 (pg) ?_
 intro v1 d b c B;replace a:=ae a B;clear B;refine tz 1<|nx<|tz 1<|tl 4 (.int .u64 100) b 1<|tz 2<|nr<|ah (.bool false) (rs1 2) ?_
 exact⟨rfl,a⟩
theorem uY(d:Blk w ba [.int .u64 16,.int .u64 100] 43):cB 57 #[.slice (some ⟨ba,0,none⟩) 1 c,.func (.func 58) #[] #[]] w (.bool true):=by
 have b:=Below.refl w.heap.size w;refine af (n:=23) Tryz.func57 rfl ?_
 refine sr<|tz 1<|nx<|tz 1<|nt<|ag<|sr<|tz 3<|nt<|aB<|bH (fun(s:Int × Int)=>1 - (s.2).toNat) (fun s=>[(1,.func (.func 58) #[] #[]),(5,iU s.1),(8,.slice (some ⟨ba,0,none⟩) 1 c),(9,iI 1),(10,iI s.2)]) (fun s e=>(s=(15,0)/\Below w.heap.size w e/\Blk e ba [iU 16,iU 100] 43)\/(s=(16,1)/\Below w.heap.size w e/\Blk e ba [iU 16,iU 100] 43)) (15,0) (.inl ⟨rfl,b,d⟩) (by kernel_rfl) ?_
 clear b d;rintro s v1 (⟨rfl,b,d⟩ | ⟨rfl,b,d⟩)
 ·have h:=b.size;refine sr<|tz 1<|nt<|ag<|aJ<|aU<|ai<|ag<|aB<|sr<|tz 1<|tlr 13 [iU 16,iU 100] d 0 ?_
  have g:=d.lt;refine ta 7 [iU 0,iU 0] 43 (pg) ?_
  intro v2 f a i B;replace b:=ae b B;replace d:=d.keep B;refine tsw a [iU 16,iU 100] ?_
  intro v4 Y C;replace b:=aM b C (by omega);replace d:=d.chg C (show ba≠f by omega);have a:=Y;refine nt<|ag<|sr<|tz 1<|tlr 15 [iU 16,iU 100] a 0<|tc 16 58 #[.agg #[iU 16,iU 100]] (mr) ?_
  rintro _ j ⟨rfl,B⟩;refine⟨_,rfl,?_⟩;replace b:=ae b B;replace d:=d.keep B;replace a:=a.keep B;refine tz 2<|nt<|nk<|aN<|tz 1<|tlr 20 [iU 16,iU 100] a 0<|tc 21 58 #[.agg #[iU 16,iU 100]] (mr) ?_
  rintro _ v6 ⟨rfl,B⟩;refine⟨_,rfl,?_⟩;replace b:=ae b B;replace d:=d.keep B;replace a:=a.keep B;exact tz 1<|aO<|dc<|ai<|ay [(1,.func (.func 58) #[] #[]),(5,iU 16),(7,pg f),(8,.slice (some ⟨ba,0,none⟩) 1 c),(9,iI 1),(10,iI 0),(11,bT),(12,pg ba),(13,.agg #[iU 16,iU 100]),(14,.func (.func 58) #[] #[]),(15,.agg #[iU 16,iU 100]),(16,iU 16),(17,iU 15),(18,bF),(19,.func (.func 58) #[] #[]),(20,.agg #[iU 16,iU 100]),(21,iU 16)]<|aN<|tz 2<|aO<|bQ (16,1) (by decide) (.inr ⟨rfl,b,d⟩) (by kernel_rfl)
 ·have h:=b.size;refine sr<|tz 1<|nt<|ag<|aY<|bR<|bC<|bC<|dm<|ai<|sr<|tz 1<|nr<|ah (bT) (rs1 4) ?_
  exact⟨rfl,b⟩
theorem EU(a:Blk w ba [.int .u64 16,.int .u64 100,.int .u64 16,.int .u64 100] 43):cB 57 #[.slice (some ⟨ba,0,none⟩) 2 c,.func (.func 58) #[] #[]] w (.bool false):=by
 have b:=Below.refl w.heap.size w;refine af (n:=23) Tryz.func57 rfl ?_
 refine sr<|tz 1<|nx<|tz 1<|nt<|ag<|sr<|tz 3<|nt<|aB<|bH (fun(s:Int × Int)=>1 - (s.2).toNat) (fun s=>[(1,.func (.func 58) #[] #[]),(5,iU s.1),(8,.slice (some ⟨ba,0,none⟩) 2 c),(9,iI 2),(10,iI s.2)]) (fun s f=>(s=(15,0)/\Below w.heap.size w f/\Blk f ba [iU 16,iU 100,iU 16,iU 100] 43)\/(s=(16,1)/\Below w.heap.size w f/\Blk f ba [iU 16,iU 100,iU 16,iU 100] 43)) (15,0) (.inl ⟨rfl,b,a⟩) (by kernel_rfl) ?_
 clear b a;rintro s v1 (⟨rfl,b,a⟩ | ⟨rfl,b,a⟩)
 ·have i:=b.size;refine sr<|tz 1<|nt<|ag<|aJ<|aU<|ai<|ag<|aB<|sr<|tz 1<|tlr 13 [iU 16,iU 100] a 0 ?_
  have g:=a.lt;refine ta 7 [iU 0,iU 0] 43 (pg) ?_
  intro v2 h d j B;replace b:=ae b B;replace a:=a.keep B;refine tsw d [iU 16,iU 100] ?_
  intro v4 Y C;replace b:=aM b C (by omega);replace a:=a.chg C (show ba≠h by omega);have d:=Y;refine nt<|ag<|sr<|tz 1<|tlr 15 [iU 16,iU 100] d 0<|tc 16 58 #[.agg #[iU 16,iU 100]] (mr) ?_
  rintro _ p ⟨rfl,B⟩;refine⟨_,rfl,?_⟩;replace b:=ae b B;replace a:=a.keep B;replace d:=d.keep B;refine tz 2<|nt<|nk<|aN<|tz 1<|tlr 20 [iU 16,iU 100] d 0<|tc 21 58 #[.agg #[iU 16,iU 100]] (mr) ?_
  rintro _ v6 ⟨rfl,B⟩;refine⟨_,rfl,?_⟩;replace b:=ae b B;replace a:=a.keep B;replace d:=d.keep B;exact tz 1<|aO<|dc<|ai<|ay [(1,.func (.func 58) #[] #[]),(5,iU 16),(7,pg h),(8,.slice (some ⟨ba,0,none⟩) 2 c),(9,iI 2),(10,iI 0),(11,bT),(12,pg ba),(13,.agg #[iU 16,iU 100]),(14,.func (.func 58) #[] #[]),(15,.agg #[iU 16,iU 100]),(16,iU 16),(17,iU 15),(18,bF),(19,.func (.func 58) #[] #[]),(20,.agg #[iU 16,iU 100]),(21,iU 16)]<|aN<|tz 2<|aO<|bQ (16,1) (by decide) (.inr ⟨rfl,b,a⟩) (by kernel_rfl)
 ·have i:=b.size;refine sr<|tz 1<|nt<|ag<|aJ<|aU<|ai<|ag<|aB<|sr<|tz 1<|tlr 13 [iU 16,iU 100] a 2 ?_
  have g:=a.lt;refine ta 7 [iU 0,iU 0] 43 (pg) ?_
  intro o k e l B;replace b:=ae b B;replace a:=a.keep B;refine tsw e [iU 16,iU 100] ?_
  intro m Y C;replace b:=aM b C (by omega);replace a:=a.chg C (show ba≠k by omega);have e:=Y;refine nt<|ag<|sr<|tz 1<|tlr 15 [iU 16,iU 100] e 0<|tc 16 58 #[.agg #[iU 16,iU 100]] (mr) ?_
  rintro _ v10 ⟨rfl,B⟩;refine⟨_,rfl,?_⟩;replace b:=ae b B;replace a:=a.keep B;replace e:=e.keep B;refine tz 2<|nt<|aJ<|sr<|tz 1<|nr<|bN<|hH<|bN<|bN<|hH<|bN<|ah (bF) (rs1 4) ?_
  exact⟨rfl,b⟩
theorem Cf(d:Blk w bf [.int .u64 16,.int .u64 500,.int .u64 10] 45):cB 62 #[.slice (some ⟨bf,0,none⟩) 1 c,.func (.func 63) #[] #[]] w (.bool true):=by
 have b:=Below.refl w.heap.size w;refine af (n:=23) Tryz.func62 rfl ?_
 refine sr<|tz 1<|nx<|tz 1<|nt<|ag<|sr<|tz 3<|nt<|aB<|bH (fun(s:Int × Int)=>1 - (s.2).toNat) (fun s=>[(1,.func (.func 63) #[] #[]),(5,iU s.1),(8,.slice (some ⟨bf,0,none⟩) 1 c),(9,iI 1),(10,iI s.2)]) (fun s e=>(s=(15,0)/\Below w.heap.size w e/\Blk e bf [iU 16,iU 500,iU 10] 45)\/(s=(16,1)/\Below w.heap.size w e/\Blk e bf [iU 16,iU 500,iU 10] 45)) (15,0) (.inl ⟨rfl,b,d⟩) (by kernel_rfl) ?_
 clear b d;rintro s v1 (⟨rfl,b,d⟩ | ⟨rfl,b,d⟩)
 ·have g:=b.size;refine sr<|tz 1<|nt<|ag<|aJ<|aU<|ai<|ag<|aB<|sr<|tz 1<|tlr 13 [iU 16,iU 500,iU 10] d 0 ?_
  have h:=d.lt;refine ta 7 [iU 0,iU 0,iU 0] 45 (pg) ?_
  intro v2 f a i B;replace b:=ae b B;replace d:=d.keep B;refine tsw a [iU 16,iU 500,iU 10] ?_
  intro v4 Y C;replace b:=aM b C (by omega);replace d:=d.chg C (show bf≠f by omega);have a:=Y;refine nt<|ag<|sr<|tz 1<|tlr 15 [iU 16,iU 500,iU 10] a 0<|tc 16 63 #[.agg #[iU 16,iU 500,iU 10]] (oX) ?_
  rintro _ j ⟨rfl,B⟩;refine⟨_,rfl,?_⟩;replace b:=ae b B;replace d:=d.keep B;replace a:=a.keep B;refine tz 2<|nt<|nk<|aN<|tz 1<|tlr 20 [iU 16,iU 500,iU 10] a 0<|tc 21 63 #[.agg #[iU 16,iU 500,iU 10]] (oX) ?_
  rintro _ v6 ⟨rfl,B⟩;refine⟨_,rfl,?_⟩;replace b:=ae b B;replace d:=d.keep B;replace a:=a.keep B;exact tz 1<|aO<|dc<|ai<|ay [(1,.func (.func 63) #[] #[]),(5,iU 16),(7,pg f),(8,.slice (some ⟨bf,0,none⟩) 1 c),(9,iI 1),(10,iI 0),(11,bT),(12,pg bf),(13,.agg #[iU 16,iU 500,iU 10]),(14,.func (.func 63) #[] #[]),(15,.agg #[iU 16,iU 500,iU 10]),(16,iU 16),(17,iU 15),(18,bF),(19,.func (.func 63) #[] #[]),(20,.agg #[iU 16,iU 500,iU 10]),(21,iU 16)]<|aN<|tz 2<|aO<|bQ (16,1) (by decide) (.inr ⟨rfl,b,d⟩) (by kernel_rfl)
 ·have g:=b.size;refine sr<|tz 1<|nt<|ag<|aY<|bR<|bC<|bC<|dm<|ai<|sr<|tz 1<|nr<|ah (bT) (rs1 4) ?_
  exact⟨rfl,b⟩
theorem yJ(d:Blk w bf [.int .u64 17,.int .u64 500,.int .u64 10] 45):cB 62 #[.slice (some ⟨bf,0,none⟩) 1 c,.func (.func 63) #[] #[]] w (.bool true):=by
 have b:=Below.refl w.heap.size w;refine af (n:=23) Tryz.func62 rfl ?_
 refine sr<|tz 1<|nx<|tz 1<|nt<|ag<|sr<|tz 3<|nt<|aB<|bH (fun(s:Int × Int)=>1 - (s.2).toNat) (fun s=>[(1,.func (.func 63) #[] #[]),(5,iU s.1),(8,.slice (some ⟨bf,0,none⟩) 1 c),(9,iI 1),(10,iI s.2)]) (fun s e=>(s=(15,0)/\Below w.heap.size w e/\Blk e bf [iU 17,iU 500,iU 10] 45)\/(s=(17,1)/\Below w.heap.size w e/\Blk e bf [iU 17,iU 500,iU 10] 45)) (15,0) (.inl ⟨rfl,b,d⟩) (by kernel_rfl) ?_
 clear b d;rintro s v1 (⟨rfl,b,d⟩ | ⟨rfl,b,d⟩)
 ·have g:=b.size;refine sr<|tz 1<|nt<|ag<|aJ<|aU<|ai<|ag<|aB<|sr<|tz 1<|tlr 13 [iU 17,iU 500,iU 10] d 0 ?_
  have h:=d.lt;refine ta 7 [iU 0,iU 0,iU 0] 45 (pg) ?_
  intro v2 f a i B;replace b:=ae b B;replace d:=d.keep B;refine tsw a [iU 17,iU 500,iU 10] ?_
  intro v4 Y C;replace b:=aM b C (by omega);replace d:=d.chg C (show bf≠f by omega);have a:=Y;refine nt<|ag<|sr<|tz 1<|tlr 15 [iU 17,iU 500,iU 10] a 0<|tc 16 63 #[.agg #[iU 17,iU 500,iU 10]] (oX) ?_
  rintro _ j ⟨rfl,B⟩;refine⟨_,rfl,?_⟩;replace b:=ae b B;replace d:=d.keep B;replace a:=a.keep B;refine tz 2<|nt<|nk<|aN<|tz 1<|tlr 20 [iU 17,iU 500,iU 10] a 0<|tc 21 63 #[.agg #[iU 17,iU 500,iU 10]] (oX) ?_
  rintro _ v6 ⟨rfl,B⟩;refine⟨_,rfl,?_⟩;replace b:=ae b B;replace d:=d.keep B;replace a:=a.keep B;exact tz 1<|aO<|dc<|ai<|ay [(1,.func (.func 63) #[] #[]),(5,iU 17),(7,pg f),(8,.slice (some ⟨bf,0,none⟩) 1 c),(9,iI 1),(10,iI 0),(11,bT),(12,pg bf),(13,.agg #[iU 17,iU 500,iU 10]),(14,.func (.func 63) #[] #[]),(15,.agg #[iU 17,iU 500,iU 10]),(16,iU 17),(17,iU 15),(18,bF),(19,.func (.func 63) #[] #[]),(20,.agg #[iU 17,iU 500,iU 10]),(21,iU 17)]<|aN<|tz 2<|aO<|bQ (17,1) (by decide) (.inr ⟨rfl,b,d⟩) (by kernel_rfl)
 ·have g:=b.size;refine sr<|tz 1<|nt<|ag<|aY<|bR<|bC<|bC<|dm<|ai<|sr<|tz 1<|nr<|ah (bT) (rs1 4) ?_
  exact⟨rfl,b⟩
theorem zR(b:Blk w ba [.int .u64 16,.int .u64 100] 43):cB 61 #[.slice (some ⟨ba,0,none⟩) 1 c] w (.bool true):=by
 have a:=Below.refl w.heap.size w;refine af (n:=21) Tryz.func61 rfl ?_
 refine sr<|tz 1<|nx<|tz 1<|nt<|ag<|sr<|tz 3<|nt<|aB<|bH (fun(s:Int × Int)=>1 - (s.2).toNat) (fun s=>[(3,iU s.1),(6,.slice (some ⟨ba,0,none⟩) 1 c),(7,iI 1),(8,iI s.2)]) (fun s e=>(s=(1000000000000000000,0)/\Below w.heap.size w e/\Blk e ba [iU 16,iU 100] 43)\/(s=(999999999999999900,1)/\Below w.heap.size w e/\Blk e ba [iU 16,iU 100] 43)) (1000000000000000000,0) (.inl ⟨rfl,a,b⟩) (by kernel_rfl) ?_
 clear a b;rintro s v1 (⟨rfl,a,b⟩ | ⟨rfl,a,b⟩)
 ·have h:=a.size;refine sr<|tz 1<|nt<|ag<|aJ<|aU<|ai<|ag<|aB<|sr<|tz 1<|tlr 11 [iU 16,iU 100] b 0 ?_
  have g:=b.lt;refine ta 5 [iU 0,iU 0] 43 (pg) ?_
  intro v2 f d i B;replace a:=ae a B;replace b:=b.keep B;refine tsw d [iU 16,iU 100] ?_
  intro v4 Y C;replace a:=aM a C (by omega);replace b:=b.chg C (show ba≠f by omega);have d:=Y;exact nt<|ag<|sr<|tz 1<|tl 13 (iU 100) d 1<|tz 2<|nt<|nk<|aN<|tz 2<|tl 18 (iU 100) d 1<|tz 2<|aO<|dc<|ai<|ay [(3,iU 999999999999999900),(5,pg f),(6,.slice (some ⟨ba,0,none⟩) 1 c),(7,iI 1),(8,iI 0),(9,bT),(10,pg ba),(11,.agg #[iU 16,iU 100]),(12,pq f 1),(13,iU 100),(14,iU 1000000000000000000),(15,bF),(16,iU 1000000000000000000),(17,pq f 1),(18,iU 100),(19,iU 999999999999999900)]<|aN<|tz 2<|aO<|bQ (999999999999999900,1) (by decide) (.inr ⟨rfl,a,b⟩) (by kernel_rfl)
 ·have h:=a.size;refine sr<|tz 1<|nt<|ag<|aY<|bR<|bC<|bC<|dm<|ai<|sr<|tz 1<|nr<|ah (bT) (rs1 2) ?_
  exact⟨rfl,a⟩
theorem zN(b:Blk w ba [.int .u64 16,.int .u64 100] 43):cB 84 #[.slice (some ⟨ba,0,none⟩) 1 c,.func (.func 60) #[] #[]] w (.int .i64 (-1)):=by
 have a:=Below.refl w.heap.size w;refine af (n:=19) Tryz.func84 rfl ?_
 refine sr<|tz 1<|nt<|ag<|sr<|tz 3<|nt<|aB<|bH (fun(s:Int)=>1 - (s).toNat) (fun s=>[(0,.slice (some ⟨ba,0,none⟩) 1 c),(1,.func (.func 60) #[] #[]),(7,iI 1),(8,iI s)]) (fun s d=>(s=(0)/\Below w.heap.size w d/\Blk d ba [iU 16,iU 100] 43)\/(s=(1)/\Below w.heap.size w d/\Blk d ba [iU 16,iU 100] 43)) (0) (.inl ⟨rfl,a,b⟩) (by kernel_rfl) ?_
 clear a b;rintro s v1 (⟨rfl,a,b⟩ | ⟨rfl,a,b⟩)
 ·have e:=a.size;refine sr<|tz 1<|nt<|ag<|aJ<|aU<|ai<|ag<|aB<|sr<|tz 2<|nx<|tz 4<|tlr 15 [iU 16,iU 100] b 0<|tc 16 60 #[.agg #[iU 16,iU 100]] (isE_x) ?_
  rintro _ v2 ⟨rfl,B⟩;refine⟨_,rfl,?_⟩;replace a:=ae a B;replace b:=b.keep B;exact nt<|aY<|aU<|dc<|ai<|aN<|tz 2<|aO<|bQ (1) (by decide) (.inr ⟨rfl,a,b⟩) (by kernel_rfl)
 ·have e:=a.size;refine sr<|tz 1<|nt<|ag<|aY<|bR<|bC<|bC<|dm<|ai<|sr<|tz 1<|nr<|ah (iI (-1)) (rs1 4) ?_
  exact⟨rfl,a⟩
theorem lx(a:Blk w ba [.int .u64 16,.int .u64 100] 43):cB 59 #[.slice (some ⟨ba,0,none⟩) 1 c,.func (.func 60) #[] #[]] w (.bool false):=by
 have b:=Below.refl w.heap.size w;refine af (n:=9) Tryz.func59 rfl ?_
 refine sr<|tz 1<|nx<|tz 2<|tc 7 84 #[.slice (some ⟨ba,0,none⟩) 1 c,.func (.func 60) #[] #[]] (zN a) ?_
 rintro _ v1 ⟨rfl,B⟩;refine⟨_,rfl,?_⟩;replace b:=ae b B;replace a:=a.keep B;clear B;refine tz 2<|nr<|ah (.bool false) (rs1 4) ?_
 exact⟨rfl,b⟩
end
end Fo
end Go.Proofs.YtpoifdokmjhclaaGreat
