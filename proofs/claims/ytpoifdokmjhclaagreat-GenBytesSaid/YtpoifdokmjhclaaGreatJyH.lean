import Derived.Test.YtpoifdokmjhclaaGreatJyG
set_option maxRecDepth 100000
set_option maxHeartbeats 8000000
namespace Go.Proofs.YtpoifdokmjhclaaGreat
namespace Fo
open Go.RowKit Go.Lib Pg Lim Gl Kv Bk Pw Sd Di
attribute [local go_sem] Oper.semAt_some
set_option linter.unusedVariables false
set_option linter.unusedSimpArgs false
section
variable {w:World}{a b:Int}{c ba bf:Nat}
theorem mX:cB 58 #[.agg #[iU a,iU b]] w (iU a):=by
 have c:=Below.refl w.heap.size w;refine af (n:=5) Tryz.func58 rfl ?_
 refine sr<|ta 1 [.int .u64 a,.int .u64 b] 43 (pg) ?_
 intro v1 f d e B;have c:=ae c B;refine tz 1<|nx<|tz 1<|tl 4 (.int .u64 a) d 0<|tz 1<|nr<|ah (.int .u64 a) (rs1 2) ?_
 exact⟨rfl,c⟩
theorem pK{c:Int}:cB 63 #[.agg #[iU a,iU b,iU c]] w (iU a):=by
 have d:=Below.refl w.heap.size w;refine af (n:=5) Tryz.func63 rfl ?_
 refine sr<|ta 1 [.int .u64 a,.int .u64 b,.int .u64 c] 45 (pg) ?_
 intro v1 g e f B;have d:=ae d B;refine tz 1<|nx<|tz 1<|tl 4 (.int .u64 a) e 0<|tz 1<|nr<|ah (.int .u64 a) (rs1 2) ?_
 exact⟨rfl,d⟩
theorem isE_x  : cB 60 #[.agg #[iU 16,iU 100]] w (bF):=by
 have a:=Below.refl w.heap.size w;refine af (n:=6) Tryz.func60 rfl ?_
 refine sr<|ta 1 cl8 43 (pg) ?_
 intro v1 d b c B;have a:=ae a B;refine tz 1<|nx<|tz 1<|tl 4 (.int .u64 100) b 1<|tz 2<|nr<|ah (.bool false) (rs1 2) ?_
 exact⟨rfl,a⟩
theorem vQ(d:Blk w ba cl8 43):cB 57 #[.slice (some ⟨ba,0,none⟩) 1 c,.func (.func 58) #[] #[]] w (bT):=by
 have b:=Below.refl w.heap.size w;refine af (n:=23) Tryz.func57 rfl ?_
 refine sr<|tz 1<|nx<|tz 1<|nt<|ag<|sr<|tz 3<|nt<|aB<|bI (fun(s:Int × Int)=>1 - (s.2).toNat) (λs=>[(1,.func (.func 58) #[] #[]),(5,iU s.1),(8,.slice (some ⟨ba,0,none⟩) 1 c),(9,iI 1),(10,iI s.2)]) (λs e=>(s=(15,0)/\BW w e/\Blk e ba cl8 43)\/(s=(16,1)/\BW w e/\Blk e ba cl8 43)) (15,0) (.inl ⟨rfl,b,d⟩) (by kernel_rfl) ?_
 rintro s v1 (⟨rfl,b,d⟩ | ⟨rfl,b,d⟩)
 ·have g:=b.size;refine sr<|tz 1<|nt<|ag<|aL<|aT<|aj<|ag<|aB<|sr<|tz 1<|tlr 13 cl8 d 0 ?_
  have f:=d.lt;refine ta 7 cl5 43 (pg) ?_
  intro v2 i a h B;have b:=ae b B;have d:=d.keep B;refine tsw a cl8 ?_
  intro v4 Y C;have b:=aF b C;have d:=d.chg C (by omega);have a:=Y;refine nt<|ag<|sr<|tz 1<|tlr 15 cl8 a 0<|tc 16 58 #[.agg #[iU 16,iU 100]] (mX) ?_
  rintro _ j ⟨rfl,B⟩;have b:=ae b B;have d:=d.keep B;have a:=a.keep B;refine⟨_,rfl,tz 2<|nt<|nk<|aN<|tz 1<|tlr 20 cl8 a 0<|tc 21 58 #[.agg #[iU 16,iU 100]] (mX) ?_⟩;rintro _ v6 ⟨rfl,B⟩;have b:=ae b B;have d:=d.keep B;have a:=a.keep B;exact⟨_,rfl,tz 1<|aO<|cX<|aj<|aA [(1,.func (.func 58) #[] #[]),(5,iU 16),(7,pg i),(8,.slice (some ⟨ba,0,none⟩) 1 c),(9,iI 1),(10,iI 0),(11,bT),(12,pg ba),(13,.agg #[iU 16,iU 100]),(14,.func (.func 58) #[] #[]),(15,.agg #[iU 16,iU 100]),(16,iU 16),(17,iU 15),(18,bF),(19,.func (.func 58) #[] #[]),(20,.agg #[iU 16,iU 100]),(21,iU 16)]<|aN<|tz 2<|aO<|bH (16,1) (.inr ⟨rfl,b,d⟩) (by kernel_rfl)⟩
 have g:=b.size;refine sr<|tz 1<|nt<|ag<|aX<|bQ<|bC<|bC<|dg<|aj<|sr<|tz 1<|nr<|ah (bT) (rs1 4) ?_
 exact⟨rfl,b⟩
theorem Gb(a:Blk w ba cl7 43):cB 57 #[.slice (some ⟨ba,0,none⟩) 2 c,.func (.func 58) #[] #[]] w (bF):=by
 have b:=Below.refl w.heap.size w;refine af (n:=23) Tryz.func57 rfl ?_
 refine sr<|tz 1<|nx<|tz 1<|nt<|ag<|sr<|tz 3<|nt<|aB<|bI (fun(s:Int × Int)=>1 - (s.2).toNat) (λs=>[(1,.func (.func 58) #[] #[]),(5,iU s.1),(8,.slice (some ⟨ba,0,none⟩) 2 c),(9,iI 2),(10,iI s.2)]) (λs f=>(s=(15,0)/\BW w f/\Blk f ba cl7 43)\/(s=(16,1)/\BW w f/\Blk f ba cl7 43)) (15,0) (.inl ⟨rfl,b,a⟩) (by kernel_rfl) ?_
 rintro s v1 (⟨rfl,b,a⟩ | ⟨rfl,b,a⟩)
 ·have h:=b.size;refine sr<|tz 1<|nt<|ag<|aL<|aT<|aj<|ag<|aB<|sr<|tz 1<|tlr 13 cl8 a 0 ?_
  have g:=a.lt;refine ta 7 cl5 43 (pg) ?_
  intro v2 k d i B;have b:=ae b B;have a:=a.keep B;refine tsw d cl8 ?_
  intro v4 Y C;have b:=aF b C;have a:=a.chg C (by omega);have d:=Y;refine nt<|ag<|sr<|tz 1<|tlr 15 cl8 d 0<|tc 16 58 #[.agg #[iU 16,iU 100]] (mX) ?_
  rintro _ p ⟨rfl,B⟩;have b:=ae b B;have a:=a.keep B;have d:=d.keep B;refine⟨_,rfl,tz 2<|nt<|nk<|aN<|tz 1<|tlr 20 cl8 d 0<|tc 21 58 #[.agg #[iU 16,iU 100]] (mX) ?_⟩;rintro _ v6 ⟨rfl,B⟩;have b:=ae b B;have a:=a.keep B;have d:=d.keep B;exact⟨_,rfl,tz 1<|aO<|cX<|aj<|aA [(1,.func (.func 58) #[] #[]),(5,iU 16),(7,pg k),(8,.slice (some ⟨ba,0,none⟩) 2 c),(9,iI 2),(10,iI 0),(11,bT),(12,pg ba),(13,.agg #[iU 16,iU 100]),(14,.func (.func 58) #[] #[]),(15,.agg #[iU 16,iU 100]),(16,iU 16),(17,iU 15),(18,bF),(19,.func (.func 58) #[] #[]),(20,.agg #[iU 16,iU 100]),(21,iU 16)]<|aN<|tz 2<|aO<|bH (16,1) (.inr ⟨rfl,b,a⟩) (by kernel_rfl)⟩
 have h:=b.size;refine sr<|tz 1<|nt<|ag<|aL<|aT<|aj<|ag<|aB<|sr<|tz 1<|tlr 13 cl8 a 2 ?_
 have g:=a.lt;refine ta 7 cl5 43 (pg) ?_
 intro m o e j B;have b:=ae b B;have a:=a.keep B;refine tsw e cl8 ?_
 intro l Y C;have b:=aF b C;have a:=a.chg C (by omega);have e:=Y;refine nt<|ag<|sr<|tz 1<|tlr 15 cl8 e 0<|tc 16 58 #[.agg #[iU 16,iU 100]] (mX) ?_
 rintro _ v10 ⟨rfl,B⟩;have b:=ae b B;have a:=a.keep B;have e:=e.keep B;refine⟨_,rfl,tz 2<|nt<|aL<|sr<|tz 1<|nr<|bE<|kx<|bE<|bE<|kx<|bE<|ah (bF) (rs1 4) ?_⟩;exact⟨rfl,b⟩
theorem C8(d:Blk w bf ko 45):cB 62 #[.slice (some ⟨bf,0,none⟩) 1 c,.func (.func 63) #[] #[]] w (bT):=by
 have b:=Below.refl w.heap.size w;refine af (n:=23) Tryz.func62 rfl ?_
 refine sr<|tz 1<|nx<|tz 1<|nt<|ag<|sr<|tz 3<|nt<|aB<|bI (fun(s:Int × Int)=>1 - (s.2).toNat) (λs=>[(1,.func (.func 63) #[] #[]),(5,iU s.1),(8,.slice (some ⟨bf,0,none⟩) 1 c),(9,iI 1),(10,iI s.2)]) (λs e=>(s=(15,0)/\BW w e/\Blk e bf ko 45)\/(s=(16,1)/\BW w e/\Blk e bf ko 45)) (15,0) (.inl ⟨rfl,b,d⟩) (by kernel_rfl) ?_
 rintro s v1 (⟨rfl,b,d⟩ | ⟨rfl,b,d⟩)
 ·have f:=b.size;refine sr<|tz 1<|nt<|ag<|aL<|aT<|aj<|ag<|aB<|sr<|tz 1<|tlr 13 ko d 0 ?_
  have g:=d.lt;refine ta 7 [iU 0,iU 0,iU 0] 45 (pg) ?_
  intro v2 i a h B;have b:=ae b B;have d:=d.keep B;refine tsw a ko ?_
  intro v4 Y C;have b:=aF b C;have d:=d.chg C (by omega);have a:=Y;refine nt<|ag<|sr<|tz 1<|tlr 15 ko a 0<|tc 16 63 #[.agg #[iU 16,iU 500,iU 10]] (pK) ?_
  rintro _ j ⟨rfl,B⟩;have b:=ae b B;have d:=d.keep B;have a:=a.keep B;refine⟨_,rfl,tz 2<|nt<|nk<|aN<|tz 1<|tlr 20 ko a 0<|tc 21 63 #[.agg #[iU 16,iU 500,iU 10]] (pK) ?_⟩;rintro _ v6 ⟨rfl,B⟩;have b:=ae b B;have d:=d.keep B;have a:=a.keep B;exact⟨_,rfl,tz 1<|aO<|cX<|aj<|aA [(1,.func (.func 63) #[] #[]),(5,iU 16),(7,pg i),(8,.slice (some ⟨bf,0,none⟩) 1 c),(9,iI 1),(10,iI 0),(11,bT),(12,pg bf),(13,.agg #[iU 16,iU 500,iU 10]),(14,.func (.func 63) #[] #[]),(15,.agg #[iU 16,iU 500,iU 10]),(16,iU 16),(17,iU 15),(18,bF),(19,.func (.func 63) #[] #[]),(20,.agg #[iU 16,iU 500,iU 10]),(21,iU 16)]<|aN<|tz 2<|aO<|bH (16,1) (.inr ⟨rfl,b,d⟩) (by kernel_rfl)⟩
 have f:=b.size;refine sr<|tz 1<|nt<|ag<|aX<|bQ<|bC<|bC<|dg<|aj<|sr<|tz 1<|nr<|ah (bT) (rs1 4) ?_
 exact⟨rfl,b⟩
theorem zJ(d:Blk w bf l3 45):cB 62 #[.slice (some ⟨bf,0,none⟩) 1 c,.func (.func 63) #[] #[]] w (bT):=by
 have b:=Below.refl w.heap.size w;refine af (n:=23) Tryz.func62 rfl ?_
 refine sr<|tz 1<|nx<|tz 1<|nt<|ag<|sr<|tz 3<|nt<|aB<|bI (fun(s:Int × Int)=>1 - (s.2).toNat) (λs=>[(1,.func (.func 63) #[] #[]),(5,iU s.1),(8,.slice (some ⟨bf,0,none⟩) 1 c),(9,iI 1),(10,iI s.2)]) (λs e=>(s=(15,0)/\BW w e/\Blk e bf l3 45)\/(s=(17,1)/\BW w e/\Blk e bf l3 45)) (15,0) (.inl ⟨rfl,b,d⟩) (by kernel_rfl) ?_
 rintro s v1 (⟨rfl,b,d⟩ | ⟨rfl,b,d⟩)
 ·have f:=b.size;refine sr<|tz 1<|nt<|ag<|aL<|aT<|aj<|ag<|aB<|sr<|tz 1<|tlr 13 l3 d 0 ?_
  have g:=d.lt;refine ta 7 [iU 0,iU 0,iU 0] 45 (pg) ?_
  intro v2 i a h B;have b:=ae b B;have d:=d.keep B;refine tsw a l3 ?_
  intro v4 Y C;have b:=aF b C;have d:=d.chg C (by omega);have a:=Y;refine nt<|ag<|sr<|tz 1<|tlr 15 l3 a 0<|tc 16 63 #[.agg #[iU 17,iU 500,iU 10]] (pK) ?_
  rintro _ j ⟨rfl,B⟩;have b:=ae b B;have d:=d.keep B;have a:=a.keep B;refine⟨_,rfl,tz 2<|nt<|nk<|aN<|tz 1<|tlr 20 l3 a 0<|tc 21 63 #[.agg #[iU 17,iU 500,iU 10]] (pK) ?_⟩;rintro _ v6 ⟨rfl,B⟩;have b:=ae b B;have d:=d.keep B;have a:=a.keep B;exact⟨_,rfl,tz 1<|aO<|cX<|aj<|aA [(1,.func (.func 63) #[] #[]),(5,iU 17),(7,pg i),(8,.slice (some ⟨bf,0,none⟩) 1 c),(9,iI 1),(10,iI 0),(11,bT),(12,pg bf),(13,.agg #[iU 17,iU 500,iU 10]),(14,.func (.func 63) #[] #[]),(15,.agg #[iU 17,iU 500,iU 10]),(16,iU 17),(17,iU 15),(18,bF),(19,.func (.func 63) #[] #[]),(20,.agg #[iU 17,iU 500,iU 10]),(21,iU 17)]<|aN<|tz 2<|aO<|bH (17,1) (.inr ⟨rfl,b,d⟩) (by kernel_rfl)⟩
 have f:=b.size;refine sr<|tz 1<|nt<|ag<|aX<|bQ<|bC<|bC<|dg<|aj<|sr<|tz 1<|nr<|ah (bT) (rs1 4) ?_
 exact⟨rfl,b⟩
theorem AP(b:Blk w ba cl8 43):cB 61 #[.slice (some ⟨ba,0,none⟩) 1 c] w (bT):=by
 have a:=Below.refl w.heap.size w;refine af (n:=21) Tryz.func61 rfl ?_
 refine sr<|tz 1<|nx<|tz 1<|nt<|ag<|sr<|tz 3<|nt<|aB<|bI (fun(s:Int × Int)=>1 - (s.2).toNat) (λs=>[(3,iU s.1),(6,.slice (some ⟨ba,0,none⟩) 1 c),(7,iI 1),(8,iI s.2)]) (λs e=>(s=(1000000000000000000,0)/\BW w e/\Blk e ba cl8 43)\/(s=(999999999999999900,1)/\BW w e/\Blk e ba cl8 43)) (1000000000000000000,0) (.inl ⟨rfl,a,b⟩) (by kernel_rfl) ?_
 rintro s v1 (⟨rfl,a,b⟩ | ⟨rfl,a,b⟩)
 ·have h:=a.size;refine sr<|tz 1<|nt<|ag<|aL<|aT<|aj<|ag<|aB<|sr<|tz 1<|tlr 11 cl8 b 0 ?_
  have g:=b.lt;refine ta 5 cl5 43 (pg) ?_
  intro v2 f d i B;have a:=ae a B;have b:=b.keep B;refine tsw d cl8 ?_
  intro v4 Y C;have a:=aF a C;have b:=b.chg C (by omega);have d:=Y;exact nt<|ag<|sr<|tz 1<|tl 13 (iU 100) d 1<|tz 2<|nt<|nk<|aN<|tz 2<|tl 18 (iU 100) d 1<|tz 2<|aO<|cX<|aj<|aA [(3,iU 999999999999999900),(5,pg f),(6,.slice (some ⟨ba,0,none⟩) 1 c),(7,iI 1),(8,iI 0),(9,bT),(10,pg ba),(11,.agg #[iU 16,iU 100]),(12,pq f 1),(13,iU 100),(14,iU 1000000000000000000),(15,bF),(16,iU 1000000000000000000),(17,pq f 1),(18,iU 100),(19,iU 999999999999999900)]<|aN<|tz 2<|aO<|bH (999999999999999900,1) (.inr ⟨rfl,a,b⟩) (by kernel_rfl)
 have h:=a.size;refine sr<|tz 1<|nt<|ag<|aX<|bQ<|bC<|bC<|dg<|aj<|sr<|tz 1<|nr<|ah (bT) (rs1 2) ?_
 exact⟨rfl,a⟩
theorem AJ(b:Blk w ba cl8 43):cB 84 #[.slice (some ⟨ba,0,none⟩) 1 c,.func (.func 60) #[] #[]] w (iI (-1)):=by
 have a:=Below.refl w.heap.size w;refine af (n:=19) Tryz.func84 rfl ?_
 refine sr<|tz 1<|nt<|ag<|sr<|tz 3<|nt<|aB<|bI (fun(s:Int)=>1 - (s).toNat) (λs=>[(0,.slice (some ⟨ba,0,none⟩) 1 c),(1,.func (.func 60) #[] #[]),(7,iI 1),(8,iI s)]) (λs d=>(s=(0)/\BW w d/\Blk d ba cl8 43)\/(s=(1)/\BW w d/\Blk d ba cl8 43)) (0) (.inl ⟨rfl,a,b⟩) (by kernel_rfl) ?_
 rintro s v1 (⟨rfl,a,b⟩ | ⟨rfl,a,b⟩)
 ·have e:=a.size;refine sr<|tz 1<|nt<|ag<|aL<|aT<|aj<|ag<|aB<|sr<|tz 2<|nx<|tz 4<|tlr 15 cl8 b 0<|tc 16 60 #[.agg #[iU 16,iU 100]] (isE_x) ?_
  rintro _ v2 ⟨rfl,B⟩;have a:=ae a B;have b:=b.keep B;exact⟨_,rfl,nt<|aX<|aT<|cX<|aj<|aN<|tz 2<|aO<|bH (1) (.inr ⟨rfl,a,b⟩) (by kernel_rfl)⟩
 have e:=a.size;refine sr<|tz 1<|nt<|ag<|aX<|bQ<|bC<|bC<|dg<|aj<|sr<|tz 1<|nr<|ah (iI (-1)) (rs1 4) ?_
 exact⟨rfl,a⟩
theorem lT(b:Blk w ba cl8 43):cB 59 #[.slice (some ⟨ba,0,none⟩) 1 c,.func (.func 60) #[] #[]] w (bF):=by
 have a:=Below.refl w.heap.size w;refine af (n:=9) Tryz.func59 rfl ?_
 refine sr<|tz 1<|nx<|tz 2<|tc 7 84 #[.slice (some ⟨ba,0,none⟩) 1 c,.func (.func 60) #[] #[]] (AJ b) ?_
 rintro _ v1 ⟨rfl,B⟩;have a:=ae a B;have b:=b.keep B;refine⟨_,rfl,tz 2<|nr<|ah (.bool false) (rs1 4) ?_⟩;exact⟨rfl,a⟩
end
end Fo
end Go.Proofs.YtpoifdokmjhclaaGreat
