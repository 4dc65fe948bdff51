import Derived.Test.YtpoifdokmjhclaaGreatJyn
set_option maxRecDepth 100000
set_option maxHeartbeats 8000000
namespace Go.Proofs.YtpoifdokmjhclaaGreat
namespace Gn
open Go.RowKit Go.Lib Pg Lim Gl Mg
attribute [local go_sem] Oper.semAt_some
set_option linter.unusedVariables false
set_option linter.unusedSimpArgs false
section
variable {ρ:Operand->Value}{w:World}{o:Oper}
theorem neA(x0 x1 x2 x3 x4 x5 x6 x7 x8 x9:Int)(ho:∃ x y,o.op=.binOp .neq 24 x y 24/\ρ x=.agg #[.int .u64 x0,.int .u64 x1,.int .u64 x2,.int .u64 x3,.int .u64 x4,.int .u64 x5,.int .u64 x6,.int .u64 x7,.int .u64 x8,.int .u64 x9]/\ρ y=.agg #[.int .u64 x0,.int .u64 x1,.int .u64 x2,.int .u64 x3,.int .u64 x4,.int .u64 x5,.int .u64 x6,.int .u64 x7,.int .u64 x8,.int .u64 x9]:=by exact⟨_,_,rfl,by kernel_rfl,by kernel_rfl⟩):(execOp ρ o).run Tryz.prog w=.ok (.value (.bool false)) w:=by
 obtain⟨x,y,h,hx,hy⟩:=ho;simp only[execOp,h,hx,hy];go_simp
theorem neP(x0 x1:Int)(ho:∃ x y,o.op=.binOp .neq 43 x y 43/\ρ x=.agg #[.int .u64 x0,.int .u64 x1]/\ρ y=.agg #[.int .u64 x0,.int .u64 x1]:=by exact⟨_,_,rfl,by kernel_rfl,by kernel_rfl⟩):(execOp ρ o).run Tryz.prog w=.ok (.value (.bool false)) w:=by
 obtain⟨x,y,h,hx,hy⟩:=ho;simp only[execOp,h,hx,hy];go_simp
theorem neF3(x0 x1 x2:Int)(ho:∃ x y,o.op=.binOp .neq 45 x y 45/\ρ x=.agg #[.int .u64 x0,.int .u64 x1,.int .u64 x2]/\ρ y=.agg #[.int .u64 x0,.int .u64 x1,.int .u64 x2]:=by exact⟨_,_,rfl,by kernel_rfl,by kernel_rfl⟩):(execOp ρ o).run Tryz.prog w=.ok (.value (.bool false)) w:=by
 obtain⟨x,y,h,hx,hy⟩:=ho;simp only[execOp,h,hx,hy];go_simp
theorem Dx{p0 p1 p2 p3 p4 p5 p6 p7 p8 p9:Int}{A V:List Int}{na nv b1 p c1 q o c2 b3 m c3 r t l:Nat}{a1 a2 a3 k:Option Addr}(x:Nl w a1 na 2 b1 p A)(u:Nl w a2 nv 3 q o V)(v:Nl w a3 na 2 b3 m A)(y:Nl w k nv 3 r t V)(E:na<=1000)(D:nv<=1000):cB 13 #[.agg #[iU p0,iU p1,iU p2,iU p3,iU p4,iU p5,iU p6,iU p7,iU p8,iU p9,.slice a1 na c1,.slice a2 nv c2],.agg #[iU p0,iU p1,iU p2,iU p3,iU p4,iU p5,iU p6,iU p7,iU p8,iU p9,.slice a3 na c3,.slice k nv l]] w (bT):=by
 have d:=Below.refl w.heap.size w;refine af (n:=66) Tryz.func13 rfl ?_
 refine sr<|ta 2 [iU p0,iU p1,iU p2,iU p3,iU p4,iU p5,iU p6,iU p7,iU p8,iU p9,.slice a1 na c1,.slice a2 nv c2] 28 (pg) ?_
 intro v1 g a G B;have d:=ae d B;have C:=a.lt;refine ta 3 [iU p0,iU p1,iU p2,iU p3,iU p4,iU p5,iU p6,iU p7,iU p8,iU p9,.slice a3 na c3,.slice k nv l] 28 (pg) ?_
 intro H j c F B;have d:=ae d B;have a:=a.keep B;refine tz 1<|nt<|ag<|sr<|tz 1<|tlr 8 [iU p0,iU p1,iU p2,iU p3,iU p4,iU p5,iU p6,iU p7,iU p8,iU p9] a 0<|tz 1<|tlr 10 [iU p0,iU p1,iU p2,iU p3,iU p4,iU p5,iU p6,iU p7,iU p8,iU p9] c 0<|tr 11 (bF) (neA p0 p1 p2 p3 p4 p5 p6 p7 p8 p9)<|tz 2<|tl 14 (.slice a1 na c1) a 10<|tz 2<|tl 17 (.slice a3 na c3) c 10<|tz 1<|tq 19 (.bool (((na:Nat):Int) != ((na:Nat):Int))) (bF) (congrArg Value.bool (bne_self_eq_false _))<|tz 3<|tl 23 (.slice a2 nv c2) a 11<|tz 2<|tl 26 (.slice k nv l) c 11<|tz 1<|tq 28 (.bool (((nv:Nat):Int) != ((nv:Nat):Int))) (bF) (congrArg Value.bool (bne_self_eq_false _))<|tz 1<|nt<|aA [(2,pg g),(3,pg j),(4,bF),(29,bF)]<|nk<|ag<|sr<|tz 1<|nt<|aB<|bI (λs=>na - s) (fun(s:Nat)=>[(2,pg g),(3,pg j),(5,iI (s:Int))]) (λs f=>s<=na/\BW w f/\Blk f g [iU p0,iU p1,iU p2,iU p3,iU p4,iU p5,iU p6,iU p7,iU p8,iU p9,.slice a1 na c1,.slice a2 nv c2] 28/\Blk f j [iU p0,iU p1,iU p2,iU p3,iU p4,iU p5,iU p6,iU p7,iU p8,iU p9,.slice a3 na c3,.slice k nv l] 28) (0:Nat) ⟨Nat.zero_le _,d,a,c⟩ (by kernel_rfl) ?_
 rintro i I ⟨hi,d,a,c⟩;refine ag<|sr<|tz 2<|tl 32 (.slice a1 na c1) a 10<|tz 1 ?_
 by_cases ci:(i:Int) < ((na:Nat):Int)
 ·have b:i < na:=by omega
  refine tq 34 (.bool (decide ((i:Int) < ((na:Nat):Int)))) (bT) (congrArg Value.bool (decide_eq_true ci))<|nt<|aL<|aT<|aj<|ag<|aB<|ag ?_
  have d:=d.drew;have a:=a.drew;have c:=c.drew;refine dx (λf=>Blk f g [iU p0,iU p1,iU p2,iU p3,iU p4,iU p5,iU p6,iU p7,iU p8,iU p9,.slice a1 na c1,.slice a2 nv c2] 28/\Blk f j [iU p0,iU p1,iU p2,iU p3,iU p4,iU p5,iU p6,iU p7,iU p8,iU p9,.slice a3 na c3,.slice k nv l] 28/\(Nl f a1 na 2 b1 p A/\Nl f a3 na 2 b3 m A)) (λ_=>false) ⟨a,c,⟨x.keep d,v.keep d⟩⟩ ?_
  exact z 0 37 (pq g 10)<|zl 1 38 (.slice a1 na c1) (λ_ h=>h.1) 10<|z 2 39 (iI (i:Int))<|zr 3 40 (pq b1 (p+i * 2)) (λ_ _=>ep 2 b1 p na c1 i b x.ptr)<|zr 4 41 (.agg #[iU (nth A (i * 2)),iU (nth A (i * 2+1))]) (λ_ h=>qX (h.2.2.1) b (λ_ _ e=>e))<|z 5 42 (pq j 10)<|zl 6 43 (.slice a3 na c3) (λ_ h=>h.2.1) 10<|z 7 44 (iI (i:Int))<|zr 8 45 (pq b3 (m+i * 2)) (λ_ _=>ep 2 b3 m na c3 i b v.ptr)<|zr 9 46 (.agg #[iU (nth A (i * 2)),iU (nth A (i * 2+1))]) (λ_ h=>qX (h.2.2.2) b (λ_ _ e=>e))<|zr 10 47 (bF) (λ_ _=>neP (nth A (i * 2)) (nth A (i * 2+1)))<|aS<|aj<|aA [(2,pg g),(3,pg j),(5,iI (i:Int)),(30,iI (i:Int)),(31,pq g 10),(32,.slice a1 na c1),(33,iI ((na:Nat):Int)),(34,bT),(37,pq g 10),(38,.slice a1 na c1),(39,iI (i:Int)),(40,pq b1 (p+i * 2)),(41,.agg #[iU (nth A (i * 2)),iU (nth A (i * 2+1))]),(42,pq j 10),(43,.slice a3 na c3),(44,iI (i:Int)),(45,pq b3 (m+i * 2)),(46,.agg #[iU (nth A (i * 2)),iU (nth A (i * 2+1))]),(47,bF)]<|aX<|aT<|cX<|aj<|aN<|tz 1<|tq 36 (iI (IntKind.i64.wrap ((i:Int)+1))) (iI ((i:Int)+1)) (wi (by omega))<|tz 1<|aO<|bH (i+1) ⟨b,d,a,c⟩ (by kernel_rfl) (hm:=by show na - (i+1) < na - i;omega)
 refine tq 34 (.bool (decide ((i:Int) < ((na:Nat):Int)))) (bF) (congrArg Value.bool (decide_eq_false ci))<|nt<|aX<|bQ<|bC<|bC<|dg<|aj<|ag<|sr<|tz 1<|nt<|aB<|bI (λs=>nv - s) (fun(s:Nat)=>[(2,pg g),(3,pg j),(6,iI (s:Int))]) (λs f=>s<=nv/\BW w f/\Blk f g [iU p0,iU p1,iU p2,iU p3,iU p4,iU p5,iU p6,iU p7,iU p8,iU p9,.slice a1 na c1,.slice a2 nv c2] 28/\Blk f j [iU p0,iU p1,iU p2,iU p3,iU p4,iU p5,iU p6,iU p7,iU p8,iU p9,.slice a3 na c3,.slice k nv l] 28) (0:Nat) ⟨Nat.zero_le _,d,a,c⟩ (by kernel_rfl) ?_
 rintro i v6 ⟨hi,d,a,c⟩;refine ag<|sr<|tz 2<|tl 50 (.slice a2 nv c2) a 11<|tz 1 ?_
 by_cases ci:(i:Int) < ((nv:Nat):Int)
 ·have b:i < nv:=by omega
  refine tq 52 (.bool (decide ((i:Int) < ((nv:Nat):Int)))) (bT) (congrArg Value.bool (decide_eq_true ci))<|nt<|aL<|aT<|aj<|ag<|aB<|ag ?_
  have d:=d.drew;have a:=a.drew;have c:=c.drew;refine dx (λf=>Blk f g [iU p0,iU p1,iU p2,iU p3,iU p4,iU p5,iU p6,iU p7,iU p8,iU p9,.slice a1 na c1,.slice a2 nv c2] 28/\Blk f j [iU p0,iU p1,iU p2,iU p3,iU p4,iU p5,iU p6,iU p7,iU p8,iU p9,.slice a3 na c3,.slice k nv l] 28/\(Nl f a2 nv 3 q o V/\Nl f k nv 3 r t V)) (λ_=>false) ⟨a,c,⟨u.keep d,y.keep d⟩⟩ ?_
  refine z 0 55 (pq g 11)<|zl 1 56 (.slice a2 nv c2) (λ_ h=>h.1) 11<|z 2 57 (iI (i:Int))<|zr 3 58 (pq q (o+i * 3)) (λ_ _=>ep 3 q o nv c2 i b u.ptr)<|zr 4 59 (.agg #[iU (nth V (i * 3)),iU (nth V (i * 3+1)),iU (nth V (i * 3+2))]) (λ_ h=>pW (h.2.2.1) b (λ_ _ e=>e))<|z 5 60 (pq j 11)<|zl 6 61 (.slice k nv l) (λ_ h=>h.2.1) 11<|z 7 62 (iI (i:Int))<|zr 8 63 (pq r (t+i * 3)) (λ_ _=>ep 3 r t nv l i b y.ptr)<|zr 9 64 (.agg #[iU (nth V (i * 3)),iU (nth V (i * 3+1)),iU (nth V (i * 3+2))]) (λ_ h=>pW (h.2.2.2) b (λ_ _ e=>e))<|zr 10 65 (bF) (λ_ _=>neF3 (nth V (i * 3)) (nth V (i * 3+1)) (nth V (i * 3+2)))<|aS<|aj<|aA [(2,pg g),(3,pg j),(6,iI (i:Int)),(48,iI (i:Int)),(49,pq g 11),(50,.slice a2 nv c2),(51,iI ((nv:Nat):Int)),(52,bT),(55,pq g 11),(56,.slice a2 nv c2),(57,iI (i:Int)),(58,pq q (o+i * 3)),(59,.agg #[iU (nth V (i * 3)),iU (nth V (i * 3+1)),iU (nth V (i * 3+2))]),(60,pq j 11),(61,.slice k nv l),(62,iI (i:Int)),(63,pq r (t+i * 3)),(64,.agg #[iU (nth V (i * 3)),iU (nth V (i * 3+1)),iU (nth V (i * 3+2))]),(65,bF)]<|aX<|aT<|cX<|aj<|aN<|tz 1<|tq 54 (iI (IntKind.i64.wrap ((i:Int)+1))) (iI ((i:Int)+1)) (wi (by omega))<|tz 1 ?_
  exact aO<|bH (i+1) ⟨b,d,a,c⟩ (by kernel_rfl) (hm:=by show nv - (i+1) < nv - i;omega)
 refine tq 52 (.bool (decide ((i:Int) < ((nv:Nat):Int)))) (bF) (congrArg Value.bool (decide_eq_false ci))<|nt<|aX<|bQ<|bC<|bC<|dg<|aj<|sr<|tz 1<|nr<|ah (bT) (rs1 4) ?_
 exact⟨rfl,d⟩
end
end Gn
end Go.Proofs.YtpoifdokmjhclaaGreat
