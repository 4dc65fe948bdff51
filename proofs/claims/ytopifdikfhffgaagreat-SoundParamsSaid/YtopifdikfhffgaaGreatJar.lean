/- Several texts, joined: SdC, FoF, Dec1. -/
import Derived.Test.YtopifdikfhffgaaGreatJaq
import Derived.Test.YtopifdikfhffgaaGreatJai
import Derived.Handy
set_option maxRecDepth 100000
set_option maxHeartbeats 8000000
namespace Go.Proofs.YtopifdikfhffgaaGreat
section
namespace Sd
open Go.RowKit Go.Lib Pg Lim Gl Kv Bk Pw
attribute [local go_sem] Oper.semAt_some
set_option linter.unusedSimpArgs false
set_option linter.unusedVariables false
theorem user_any {w:World} {x:Int} {r:Bool} (hr:decide (16<=x)=r):Calls Tryz.prog 13 #[.int .u64 x] w fun e w'=>e=.returned (.bool r)/\Below w.heap.size w w':=by
 have BB:=Below.refl w.heap.size w
 refine gc_enter (n:=5) Tryz.func13 rfl ?_
 refine gc_seq (gc_reg (t 2 (bF) (gl_nil (ge_then (gc_seq (gc_reg (t 3 (iU x) ?_)))))))
 by_cases c1:(16:Int)<=x
 ·refine tq 4 (.bool (decide ((16:Int)<=x))) (bT) (congrArg Value.bool (decide_eq_true c1)) (t 2 (bT) (gl_nil (ge_then (gc_ret (ge_ret (bT) (rs1 2 (by kernel_rfl) (by kernel_rfl)) ?_)))))
  exact ⟨by rw [<- hr]; simp; omega,BB⟩
 ·refine tq 4 (.bool (decide ((16:Int)<=x))) (bF) (congrArg Value.bool (decide_eq_false c1)) (t 2 (bF) (gl_nil (ge_then (gc_ret (ge_ret (bF) (rs1 2 (by kernel_rfl) (by kernel_rfl)) ?_)))))
  exact ⟨by rw [<- hr]; simp; omega,BB⟩
def fit (x0 x1 x2 x3 x4 x5 x6 x7 x8 x9:Int):Bool:=decide (1<=x0/\x0<=64/\1<=x1/\x1<=100000/\1<=x2/\x2<=16/\x3<=10000/\x4<=10000/\x5<=10000/\x6<=100000/\x7<=100000/\x8<=1000000000/\16<=x9)
theorem fit_any {w:World} {x0 x1 x2 x3 x4 x5 x6 x7 x8 x9:Int}:Calls Tryz.prog 5 #[.agg #[.int .u64 x0,.int .u64 x1,.int .u64 x2,.int .u64 x3,.int .u64 x4,.int .u64 x5,.int .u64 x6,.int .u64 x7,.int .u64 x8,.int .u64 x9]] w fun e w'=>e=.returned (.bool (fit x0 x1 x2 x3 x4 x5 x6 x7 x8 x9))/\Below w.heap.size w w':=by
 have BB:=Below.refl w.heap.size w
 refine gc_enter (n:=66) Tryz.func5 rfl ?_
 refine gc_seq (gc_reg (ta 1 [iU x0,iU x1,iU x2,iU x3,iU x4,iU x5,iU x6,iU x7,iU x8,iU x9] 24 (pg) ?_))
 intro v1 g2 Xg2 hg2 B
 replace BB:=joinB BB B
 refine t 2 (bF) (gl_nil (ge_then (gc_seq (gc_reg (t 3 (pg g2) (tl 4 (iU x0) Xg2 0 ?_))))))
 by_cases c3:(1:Int)<=x0
 ·refine tq 5 (.bool (decide ((1:Int)<=x0))) (bT) (congrArg Value.bool (decide_eq_true c3)) (t 6 (bT) (t 7 (pg g2) (tl 8 (iU x0) Xg2 0 ?_)))
  by_cases c4:(x0:Int)<=64
  ·refine tq 9 (.bool (decide ((x0:Int)<=64))) (bT) (congrArg Value.bool (decide_eq_true c4)) (t 10 (bT) (t 11 (bT) (t 12 (pq g2 1) (tl 13 (iU x1) Xg2 1 ?_))))
   by_cases c5:(1:Int)<=x1
   ·refine tq 14 (.bool (decide ((1:Int)<=x1))) (bT) (congrArg Value.bool (decide_eq_true c5)) (t 15 (bT) (t 16 (bT) (t 17 (pq g2 1) (tl 18 (iU x1) Xg2 1 ?_))))
    by_cases c6:(x1:Int)<=100000
    ·refine tq 19 (.bool (decide ((x1:Int)<=100000))) (bT) (congrArg Value.bool (decide_eq_true c6)) (t 20 (bT) (t 21 (bT) (t 22 (pq g2 2) (tl 23 (iU x2) Xg2 2 ?_))))
     by_cases c7:(1:Int)<=x2
     ·refine tq 24 (.bool (decide ((1:Int)<=x2))) (bT) (congrArg Value.bool (decide_eq_true c7)) (t 25 (bT) (t 26 (bT) (t 27 (pq g2 2) (tl 28 (iU x2) Xg2 2 ?_))))
      by_cases c8:(x2:Int)<=16
      ·refine tq 29 (.bool (decide ((x2:Int)<=16))) (bT) (congrArg Value.bool (decide_eq_true c8)) (t 30 (bT) (t 31 (bT) (t 32 (pq g2 3) (tl 33 (iU x3) Xg2 3 ?_))))
       by_cases c9:(x3:Int)<=10000
       ·refine tq 34 (.bool (decide ((x3:Int)<=10000))) (bT) (congrArg Value.bool (decide_eq_true c9)) (t 35 (bT) (t 36 (bT) (t 37 (pq g2 4) (tl 38 (iU x4) Xg2 4 ?_))))
        by_cases c10:(x4:Int)<=10000
        ·refine tq 39 (.bool (decide ((x4:Int)<=10000))) (bT) (congrArg Value.bool (decide_eq_true c10)) (t 40 (bT) (t 41 (bT) (t 42 (pq g2 5) (tl 43 (iU x5) Xg2 5 ?_))))
         by_cases c11:(x5:Int)<=10000
         ·refine tq 44 (.bool (decide ((x5:Int)<=10000))) (bT) (congrArg Value.bool (decide_eq_true c11)) (t 45 (bT) (t 46 (bT) (t 47 (pq g2 6) (tl 48 (iU x6) Xg2 6 ?_))))
          by_cases c12:(x6:Int)<=100000
          ·refine tq 49 (.bool (decide ((x6:Int)<=100000))) (bT) (congrArg Value.bool (decide_eq_true c12)) (t 50 (bT) (t 51 (bT) (t 52 (pq g2 7) (tl 53 (iU x7) Xg2 7 ?_))))
           by_cases c13:(x7:Int)<=100000
           ·refine tq 54 (.bool (decide ((x7:Int)<=100000))) (bT) (congrArg Value.bool (decide_eq_true c13)) (t 55 (bT) (t 56 (bT) (t 57 (pq g2 8) (tl 58 (iU x8) Xg2 8 ?_))))
            by_cases c14:(x8:Int)<=1000000000
            ·refine tq 59 (.bool (decide ((x8:Int)<=1000000000))) (bT) (congrArg Value.bool (decide_eq_true c14)) (t 60 (bT) (t 61 (bT) (t 62 (pq g2 9) (tl 63 (iU x9) Xg2 9 ?_))))
             by_cases c15:16<=x9
             ·refine tc 64 13 #[iU x9] (user_any (decide_eq_true c15)) ?_
              rintro _ v16 ⟨rfl,B⟩
              refine ⟨_,rfl,?_⟩
              replace BB:=joinB BB B
              replace Xg2:=Xg2.keep B
              refine t 65 (bT) (t 2 (bT) (gl_nil (ge_then (gc_ret (ge_ret (bT) (rs1 2 (by kernel_rfl) (by kernel_rfl)) ?_)))))
              exact ⟨by rw [show fit x0 x1 x2 x3 x4 x5 x6 x7 x8 x9=true from decide_eq_true ⟨by omega,by omega,by omega,by omega,by omega,by omega,by omega,by omega,by omega,by omega,by omega,by omega,by omega⟩],BB⟩
             ·refine tc 64 13 #[iU x9] (user_any (decide_eq_false c15)) ?_
              rintro _ v17 ⟨rfl,B⟩
              refine ⟨_,rfl,?_⟩
              replace BB:=joinB BB B
              replace Xg2:=Xg2.keep B
              refine t 65 (bF) (t 2 (bF) (gl_nil (ge_then (gc_ret (ge_ret (bF) (rs1 2 (by kernel_rfl) (by kernel_rfl)) ?_)))))
              exact ⟨by rw [show fit x0 x1 x2 x3 x4 x5 x6 x7 x8 x9=false from decide_eq_false (fun h=>by omega)],BB⟩
            ·refine tq 59 (.bool (decide ((x8:Int)<=1000000000))) (bF) (congrArg Value.bool (decide_eq_false c14)) (t 60 (bF) (t 61 (bF) (tn 62 (tn 63 (tn 64 (t 65 (bF) (t 2 (bF) (gl_nil (ge_then (gc_ret (ge_ret (bF) (rs1 2 (by kernel_rfl) (by kernel_rfl)) ?_)))))))))))
             exact ⟨by rw [show fit x0 x1 x2 x3 x4 x5 x6 x7 x8 x9=false from decide_eq_false (fun h=>by omega)],BB⟩
           ·refine tq 54 (.bool (decide ((x7:Int)<=100000))) (bF) (congrArg Value.bool (decide_eq_false c13)) (t 55 (bF) (t 56 (bF) (tn 57 (tn 58 (tn 59 (t 60 (bF) (t 61 (bF) (tn 62 (tn 63 (tn 64 (t 65 (bF) (t 2 (bF) (gl_nil (ge_then (gc_ret (ge_ret (bF) (rs1 2 (by kernel_rfl) (by kernel_rfl)) ?_))))))))))))))))
            exact ⟨by rw [show fit x0 x1 x2 x3 x4 x5 x6 x7 x8 x9=false from decide_eq_false (fun h=>by omega)],BB⟩
          ·refine tq 49 (.bool (decide ((x6:Int)<=100000))) (bF) (congrArg Value.bool (decide_eq_false c12)) (t 50 (bF) (t 51 (bF) (tn 52 (tn 53 (tn 54 (t 55 (bF) (t 56 (bF) (tn 57 (tn 58 (tn 59 (t 60 (bF) (t 61 (bF) (tn 62 (tn 63 (tn 64 (t 65 (bF) (t 2 (bF) (gl_nil (ge_then (gc_ret (ge_ret (bF) (rs1 2 (by kernel_rfl) (by kernel_rfl)) ?_)))))))))))))))))))))
           exact ⟨by rw [show fit x0 x1 x2 x3 x4 x5 x6 x7 x8 x9=false from decide_eq_false (fun h=>by omega)],BB⟩
         ·refine tq 44 (.bool (decide ((x5:Int)<=10000))) (bF) (congrArg Value.bool (decide_eq_false c11)) (t 45 (bF) (t 46 (bF) (tn 47 (tn 48 (tn 49 (t 50 (bF) (t 51 (bF) (tn 52 (tn 53 (tn 54 (t 55 (bF) (t 56 (bF) (tn 57 (tn 58 (tn 59 (t 60 (bF) (t 61 (bF) (tn 62 (tn 63 (tn 64 (t 65 (bF) (t 2 (bF) (gl_nil (ge_then (gc_ret (ge_ret (bF) (rs1 2 (by kernel_rfl) (by kernel_rfl)) ?_))))))))))))))))))))))))))
          exact ⟨by rw [show fit x0 x1 x2 x3 x4 x5 x6 x7 x8 x9=false from decide_eq_false (fun h=>by omega)],BB⟩
        ·refine tq 39 (.bool (decide ((x4:Int)<=10000))) (bF) (congrArg Value.bool (decide_eq_false c10)) (t 40 (bF) (t 41 (bF) (tn 42 (tn 43 (tn 44 (t 45 (bF) (t 46 (bF) (tn 47 (tn 48 (tn 49 (t 50 (bF) (t 51 (bF) (tn 52 (tn 53 (tn 54 (t 55 (bF) (t 56 (bF) (tn 57 (tn 58 (tn 59 (t 60 (bF) (t 61 (bF) (tn 62 (tn 63 (tn 64 (t 65 (bF) (t 2 (bF) (gl_nil (ge_then (gc_ret (ge_ret (bF) (rs1 2 (by kernel_rfl) (by kernel_rfl)) ?_)))))))))))))))))))))))))))))))
         exact ⟨by rw [show fit x0 x1 x2 x3 x4 x5 x6 x7 x8 x9=false from decide_eq_false (fun h=>by omega)],BB⟩
       ·refine tq 34 (.bool (decide ((x3:Int)<=10000))) (bF) (congrArg Value.bool (decide_eq_false c9)) (t 35 (bF) (t 36 (bF) (tn 37 (tn 38 (tn 39 (t 40 (bF) (t 41 (bF) (tn 42 (tn 43 (tn 44 (t 45 (bF) (t 46 (bF) (tn 47 (tn 48 (tn 49 (t 50 (bF) (t 51 (bF) (tn 52 (tn 53 (tn 54 (t 55 (bF) (t 56 (bF) (tn 57 (tn 58 (tn 59 (t 60 (bF) (t 61 (bF) (tn 62 (tn 63 (tn 64 (t 65 (bF) (t 2 (bF) (gl_nil (ge_then (gc_ret (ge_ret (bF) (rs1 2 (by kernel_rfl) (by kernel_rfl)) ?_))))))))))))))))))))))))))))))))))))
        exact ⟨by rw [show fit x0 x1 x2 x3 x4 x5 x6 x7 x8 x9=false from decide_eq_false (fun h=>by omega)],BB⟩
      ·refine tq 29 (.bool (decide ((x2:Int)<=16))) (bF) (congrArg Value.bool (decide_eq_false c8)) (t 30 (bF) (t 31 (bF) (tn 32 (tn 33 (tn 34 (t 35 (bF) (t 36 (bF) (tn 37 (tn 38 (tn 39 (t 40 (bF) (t 41 (bF) (tn 42 (tn 43 (tn 44 (t 45 (bF) (t 46 (bF) (tn 47 (tn 48 (tn 49 (t 50 (bF) (t 51 (bF) (tn 52 (tn 53 (tn 54 (t 55 (bF) (t 56 (bF) (tn 57 (tn 58 (tn 59 (t 60 (bF) (t 61 (bF) (tn 62 (tn 63 (tn 64 (t 65 (bF) (t 2 (bF) (gl_nil (ge_then (gc_ret (ge_ret (bF) (rs1 2 (by kernel_rfl) (by kernel_rfl)) ?_)))))))))))))))))))))))))))))))))))))))))
       exact ⟨by rw [show fit x0 x1 x2 x3 x4 x5 x6 x7 x8 x9=false from decide_eq_false (fun h=>by omega)],BB⟩
     ·refine tq 24 (.bool (decide ((1:Int)<=x2))) (bF) (congrArg Value.bool (decide_eq_false c7)) (t 25 (bF) (t 26 (bF) (tn 27 (tn 28 (tn 29 (t 30 (bF) (t 31 (bF) (tn 32 (tn 33 (tn 34 (t 35 (bF) (t 36 (bF) (tn 37 (tn 38 (tn 39 (t 40 (bF) (t 41 (bF) (tn 42 (tn 43 (tn 44 (t 45 (bF) (t 46 (bF) (tn 47 (tn 48 (tn 49 (t 50 (bF) (t 51 (bF) (tn 52 (tn 53 (tn 54 (t 55 (bF) (t 56 (bF) (tn 57 (tn 58 (tn 59 (t 60 (bF) (t 61 (bF) (tn 62 (tn 63 (tn 64 (t 65 (bF) (t 2 (bF) (gl_nil (ge_then (gc_ret (ge_ret (bF) (rs1 2 (by kernel_rfl) (by kernel_rfl)) ?_))))))))))))))))))))))))))))))))))))))))))))))
      exact ⟨by rw [show fit x0 x1 x2 x3 x4 x5 x6 x7 x8 x9=false from decide_eq_false (fun h=>by omega)],BB⟩
    ·refine tq 19 (.bool (decide ((x1:Int)<=100000))) (bF) (congrArg Value.bool (decide_eq_false c6)) (t 20 (bF) (t 21 (bF) (tn 22 (tn 23 (tn 24 (t 25 (bF) (t 26 (bF) (tn 27 (tn 28 (tn 29 (t 30 (bF) (t 31 (bF) (tn 32 (tn 33 (tn 34 (t 35 (bF) (t 36 (bF) (tn 37 (tn 38 (tn 39 (t 40 (bF) (t 41 (bF) (tn 42 (tn 43 (tn 44 (t 45 (bF) (t 46 (bF) (tn 47 (tn 48 (tn 49 (t 50 (bF) (t 51 (bF) (tn 52 (tn 53 (tn 54 (t 55 (bF) (t 56 (bF) (tn 57 (tn 58 (tn 59 (t 60 (bF) (t 61 (bF) (tn 62 (tn 63 (tn 64 (t 65 (bF) (t 2 (bF) (gl_nil (ge_then (gc_ret (ge_ret (bF) (rs1 2 (by kernel_rfl) (by kernel_rfl)) ?_)))))))))))))))))))))))))))))))))))))))))))))))))))
     exact ⟨by rw [show fit x0 x1 x2 x3 x4 x5 x6 x7 x8 x9=false from decide_eq_false (fun h=>by omega)],BB⟩
   ·refine tq 14 (.bool (decide ((1:Int)<=x1))) (bF) (congrArg Value.bool (decide_eq_false c5)) (t 15 (bF) (t 16 (bF) (tn 17 (tn 18 (tn 19 (t 20 (bF) (t 21 (bF) (tn 22 (tn 23 (tn 24 (t 25 (bF) (t 26 (bF) (tn 27 (tn 28 (tn 29 (t 30 (bF) (t 31 (bF) (tn 32 (tn 33 (tn 34 (t 35 (bF) (t 36 (bF) (tn 37 (tn 38 (tn 39 (t 40 (bF) (t 41 (bF) (tn 42 (tn 43 (tn 44 (t 45 (bF) (t 46 (bF) (tn 47 (tn 48 (tn 49 (t 50 (bF) (t 51 (bF) (tn 52 (tn 53 (tn 54 (t 55 (bF) (t 56 (bF) (tn 57 (tn 58 (tn 59 (t 60 (bF) (t 61 (bF) (tn 62 (tn 63 (tn 64 (t 65 (bF) (t 2 (bF) (gl_nil (ge_then (gc_ret (ge_ret (bF) (rs1 2 (by kernel_rfl) (by kernel_rfl)) ?_))))))))))))))))))))))))))))))))))))))))))))))))))))))))
    exact ⟨by rw [show fit x0 x1 x2 x3 x4 x5 x6 x7 x8 x9=false from decide_eq_false (fun h=>by omega)],BB⟩
  ·refine tq 9 (.bool (decide ((x0:Int)<=64))) (bF) (congrArg Value.bool (decide_eq_false c4)) (t 10 (bF) (t 11 (bF) (tn 12 (tn 13 (tn 14 (t 15 (bF) (t 16 (bF) (tn 17 (tn 18 (tn 19 (t 20 (bF) (t 21 (bF) (tn 22 (tn 23 (tn 24 (t 25 (bF) (t 26 (bF) (tn 27 (tn 28 (tn 29 (t 30 (bF) (t 31 (bF) (tn 32 (tn 33 (tn 34 (t 35 (bF) (t 36 (bF) (tn 37 (tn 38 (tn 39 (t 40 (bF) (t 41 (bF) (tn 42 (tn 43 (tn 44 (t 45 (bF) (t 46 (bF) (tn 47 (tn 48 (tn 49 (t 50 (bF) (t 51 (bF) (tn 52 (tn 53 (tn 54 (t 55 (bF) (t 56 (bF) (tn 57 (tn 58 (tn 59 (t 60 (bF) (t 61 (bF) (tn 62 (tn 63 (tn 64 (t 65 (bF) (t 2 (bF) (gl_nil (ge_then (gc_ret (ge_ret (bF) (rs1 2 (by kernel_rfl) (by kernel_rfl)) ?_)))))))))))))))))))))))))))))))))))))))))))))))))))))))))))))
   exact ⟨by rw [show fit x0 x1 x2 x3 x4 x5 x6 x7 x8 x9=false from decide_eq_false (fun h=>by omega)],BB⟩
 ·refine tq 5 (.bool (decide ((1:Int)<=x0))) (bF) (congrArg Value.bool (decide_eq_false c3)) (t 6 (bF) (tn 7 (tn 8 (tn 9 (t 10 (bF) (t 11 (bF) (tn 12 (tn 13 (tn 14 (t 15 (bF) (t 16 (bF) (tn 17 (tn 18 (tn 19 (t 20 (bF) (t 21 (bF) (tn 22 (tn 23 (tn 24 (t 25 (bF) (t 26 (bF) (tn 27 (tn 28 (tn 29 (t 30 (bF) (t 31 (bF) (tn 32 (tn 33 (tn 34 (t 35 (bF) (t 36 (bF) (tn 37 (tn 38 (tn 39 (t 40 (bF) (t 41 (bF) (tn 42 (tn 43 (tn 44 (t 45 (bF) (t 46 (bF) (tn 47 (tn 48 (tn 49 (t 50 (bF) (t 51 (bF) (tn 52 (tn 53 (tn 54 (t 55 (bF) (t 56 (bF) (tn 57 (tn 58 (tn 59 (t 60 (bF) (t 61 (bF) (tn 62 (tn 63 (tn 64 (t 65 (bF) (t 2 (bF) (gl_nil (ge_then (gc_ret (ge_ret (bF) (rs1 2 (by kernel_rfl) (by kernel_rfl)) ?_)))))))))))))))))))))))))))))))))))))))))))))))))))))))))))))))))
  exact ⟨by rw [show fit x0 x1 x2 x3 x4 x5 x6 x7 x8 x9=false from decide_eq_false (fun h=>by omega)],BB⟩
theorem rfit_any {w:World} {x0 x1 x2 x3 x4 x5 x6 x7 x8 x9:Int}:Calls Tryz.prog 6 #[.agg #[.int .u64 x0,.int .u64 x1,.int .u64 x2,.int .u64 x3,.int .u64 x4,.int .u64 x5,.int .u64 x6,.int .u64 x7,.int .u64 x8,.int .u64 x9]] w fun e w'=>e=.returned (.bool (fit x0 x1 x2 x3 x4 x5 x6 x7 x8 x9))/\Below w.heap.size w w':=by
 have BB:=Below.refl w.heap.size w
 refine gc_enter (n:=66) Tryz.func6 rfl ?_
 refine gc_seq (gc_reg (ta 1 [iU x0,iU x1,iU x2,iU x3,iU x4,iU x5,iU x6,iU x7,iU x8,iU x9] 24 (pg) ?_))
 intro v1 g2 Xg2 hg2 B
 replace BB:=joinB BB B
 refine t 2 (bF) (gl_nil (ge_then (gc_seq (gc_reg (t 3 (pg g2) (tl 4 (iU x0) Xg2 0 ?_))))))
 by_cases c3:(1:Int)<=x0
 ·refine tq 5 (.bool (decide ((1:Int)<=x0))) (bT) (congrArg Value.bool (decide_eq_true c3)) (t 6 (bT) (t 7 (pg g2) (tl 8 (iU x0) Xg2 0 ?_)))
  by_cases c4:(x0:Int)<=64
  ·refine tq 9 (.bool (decide ((x0:Int)<=64))) (bT) (congrArg Value.bool (decide_eq_true c4)) (t 10 (bT) (t 11 (bT) (t 12 (pq g2 1) (tl 13 (iU x1) Xg2 1 ?_))))
   by_cases c5:(1:Int)<=x1
   ·refine tq 14 (.bool (decide ((1:Int)<=x1))) (bT) (congrArg Value.bool (decide_eq_true c5)) (t 15 (bT) (t 16 (bT) (t 17 (pq g2 1) (tl 18 (iU x1) Xg2 1 ?_))))
    by_cases c6:(x1:Int)<=100000
    ·refine tq 19 (.bool (decide ((x1:Int)<=100000))) (bT) (congrArg Value.bool (decide_eq_true c6)) (t 20 (bT) (t 21 (bT) (t 22 (pq g2 2) (tl 23 (iU x2) Xg2 2 ?_))))
     by_cases c7:(1:Int)<=x2
     ·refine tq 24 (.bool (decide ((1:Int)<=x2))) (bT) (congrArg Value.bool (decide_eq_true c7)) (t 25 (bT) (t 26 (bT) (t 27 (pq g2 2) (tl 28 (iU x2) Xg2 2 ?_))))
      by_cases c8:(x2:Int)<=16
      ·refine tq 29 (.bool (decide ((x2:Int)<=16))) (bT) (congrArg Value.bool (decide_eq_true c8)) (t 30 (bT) (t 31 (bT) (t 32 (pq g2 3) (tl 33 (iU x3) Xg2 3 ?_))))
       by_cases c9:(x3:Int)<=10000
       ·refine tq 34 (.bool (decide ((x3:Int)<=10000))) (bT) (congrArg Value.bool (decide_eq_true c9)) (t 35 (bT) (t 36 (bT) (t 37 (pq g2 4) (tl 38 (iU x4) Xg2 4 ?_))))
        by_cases c10:(x4:Int)<=10000
        ·refine tq 39 (.bool (decide ((x4:Int)<=10000))) (bT) (congrArg Value.bool (decide_eq_true c10)) (t 40 (bT) (t 41 (bT) (t 42 (pq g2 5) (tl 43 (iU x5) Xg2 5 ?_))))
         by_cases c11:(x5:Int)<=10000
         ·refine tq 44 (.bool (decide ((x5:Int)<=10000))) (bT) (congrArg Value.bool (decide_eq_true c11)) (t 45 (bT) (t 46 (bT) (t 47 (pq g2 6) (tl 48 (iU x6) Xg2 6 ?_))))
          by_cases c12:(x6:Int)<=100000
          ·refine tq 49 (.bool (decide ((x6:Int)<=100000))) (bT) (congrArg Value.bool (decide_eq_true c12)) (t 50 (bT) (t 51 (bT) (t 52 (pq g2 7) (tl 53 (iU x7) Xg2 7 ?_))))
           by_cases c13:(x7:Int)<=100000
           ·refine tq 54 (.bool (decide ((x7:Int)<=100000))) (bT) (congrArg Value.bool (decide_eq_true c13)) (t 55 (bT) (t 56 (bT) (t 57 (pq g2 8) (tl 58 (iU x8) Xg2 8 ?_))))
            by_cases c14:(x8:Int)<=1000000000
            ·refine tq 59 (.bool (decide ((x8:Int)<=1000000000))) (bT) (congrArg Value.bool (decide_eq_true c14)) (t 60 (bT) (t 61 (bT) (t 62 (pq g2 9) (tl 63 (iU x9) Xg2 9 ?_))))
             by_cases c15:(16:Int)<=x9
             ·refine tq 64 (.bool (decide ((16:Int)<=x9))) (bT) (congrArg Value.bool (decide_eq_true c15)) (t 65 (bT) (t 2 (bT) (gl_nil (ge_then (gc_ret (ge_ret (bT) (rs1 2 (by kernel_rfl) (by kernel_rfl)) ?_))))))
              exact ⟨by rw [show fit x0 x1 x2 x3 x4 x5 x6 x7 x8 x9=true from decide_eq_true ⟨by omega,by omega,by omega,by omega,by omega,by omega,by omega,by omega,by omega,by omega,by omega,by omega,by omega⟩],BB⟩
             ·refine tq 64 (.bool (decide ((16:Int)<=x9))) (bF) (congrArg Value.bool (decide_eq_false c15)) (t 65 (bF) (t 2 (bF) (gl_nil (ge_then (gc_ret (ge_ret (bF) (rs1 2 (by kernel_rfl) (by kernel_rfl)) ?_))))))
              exact ⟨by rw [show fit x0 x1 x2 x3 x4 x5 x6 x7 x8 x9=false from decide_eq_false (fun h=>by omega)],BB⟩
            ·refine tq 59 (.bool (decide ((x8:Int)<=1000000000))) (bF) (congrArg Value.bool (decide_eq_false c14)) (t 60 (bF) (t 61 (bF) (tn 62 (tn 63 (tn 64 (t 65 (bF) (t 2 (bF) (gl_nil (ge_then (gc_ret (ge_ret (bF) (rs1 2 (by kernel_rfl) (by kernel_rfl)) ?_)))))))))))
             exact ⟨by rw [show fit x0 x1 x2 x3 x4 x5 x6 x7 x8 x9=false from decide_eq_false (fun h=>by omega)],BB⟩
           ·refine tq 54 (.bool (decide ((x7:Int)<=100000))) (bF) (congrArg Value.bool (decide_eq_false c13)) (t 55 (bF) (t 56 (bF) (tn 57 (tn 58 (tn 59 (t 60 (bF) (t 61 (bF) (tn 62 (tn 63 (tn 64 (t 65 (bF) (t 2 (bF) (gl_nil (ge_then (gc_ret (ge_ret (bF) (rs1 2 (by kernel_rfl) (by kernel_rfl)) ?_))))))))))))))))
            exact ⟨by rw [show fit x0 x1 x2 x3 x4 x5 x6 x7 x8 x9=false from decide_eq_false (fun h=>by omega)],BB⟩
          ·refine tq 49 (.bool (decide ((x6:Int)<=100000))) (bF) (congrArg Value.bool (decide_eq_false c12)) (t 50 (bF) (t 51 (bF) (tn 52 (tn 53 (tn 54 (t 55 (bF) (t 56 (bF) (tn 57 (tn 58 (tn 59 (t 60 (bF) (t 61 (bF) (tn 62 (tn 63 (tn 64 (t 65 (bF) (t 2 (bF) (gl_nil (ge_then (gc_ret (ge_ret (bF) (rs1 2 (by kernel_rfl) (by kernel_rfl)) ?_)))))))))))))))))))))
           exact ⟨by rw [show fit x0 x1 x2 x3 x4 x5 x6 x7 x8 x9=false from decide_eq_false (fun h=>by omega)],BB⟩
         ·refine tq 44 (.bool (decide ((x5:Int)<=10000))) (bF) (congrArg Value.bool (decide_eq_false c11)) (t 45 (bF) (t 46 (bF) (tn 47 (tn 48 (tn 49 (t 50 (bF) (t 51 (bF) (tn 52 (tn 53 (tn 54 (t 55 (bF) (t 56 (bF) (tn 57 (tn 58 (tn 59 (t 60 (bF) (t 61 (bF) (tn 62 (tn 63 (tn 64 (t 65 (bF) (t 2 (bF) (gl_nil (ge_then (gc_ret (ge_ret (bF) (rs1 2 (by kernel_rfl) (by kernel_rfl)) ?_))))))))))))))))))))))))))
          exact ⟨by rw [show fit x0 x1 x2 x3 x4 x5 x6 x7 x8 x9=false from decide_eq_false (fun h=>by omega)],BB⟩
        ·refine tq 39 (.bool (decide ((x4:Int)<=10000))) (bF) (congrArg Value.bool (decide_eq_false c10)) (t 40 (bF) (t 41 (bF) (tn 42 (tn 43 (tn 44 (t 45 (bF) (t 46 (bF) (tn 47 (tn 48 (tn 49 (t 50 (bF) (t 51 (bF) (tn 52 (tn 53 (tn 54 (t 55 (bF) (t 56 (bF) (tn 57 (tn 58 (tn 59 (t 60 (bF) (t 61 (bF) (tn 62 (tn 63 (tn 64 (t 65 (bF) (t 2 (bF) (gl_nil (ge_then (gc_ret (ge_ret (bF) (rs1 2 (by kernel_rfl) (by kernel_rfl)) ?_)))))))))))))))))))))))))))))))
         exact ⟨by rw [show fit x0 x1 x2 x3 x4 x5 x6 x7 x8 x9=false from decide_eq_false (fun h=>by omega)],BB⟩
       ·refine tq 34 (.bool (decide ((x3:Int)<=10000))) (bF) (congrArg Value.bool (decide_eq_false c9)) (t 35 (bF) (t 36 (bF) (tn 37 (tn 38 (tn 39 (t 40 (bF) (t 41 (bF) (tn 42 (tn 43 (tn 44 (t 45 (bF) (t 46 (bF) (tn 47 (tn 48 (tn 49 (t 50 (bF) (t 51 (bF) (tn 52 (tn 53 (tn 54 (t 55 (bF) (t 56 (bF) (tn 57 (tn 58 (tn 59 (t 60 (bF) (t 61 (bF) (tn 62 (tn 63 (tn 64 (t 65 (bF) (t 2 (bF) (gl_nil (ge_then (gc_ret (ge_ret (bF) (rs1 2 (by kernel_rfl) (by kernel_rfl)) ?_))))))))))))))))))))))))))))))))))))
        exact ⟨by rw [show fit x0 x1 x2 x3 x4 x5 x6 x7 x8 x9=false from decide_eq_false (fun h=>by omega)],BB⟩
      ·refine tq 29 (.bool (decide ((x2:Int)<=16))) (bF) (congrArg Value.bool (decide_eq_false c8)) (t 30 (bF) (t 31 (bF) (tn 32 (tn 33 (tn 34 (t 35 (bF) (t 36 (bF) (tn 37 (tn 38 (tn 39 (t 40 (bF) (t 41 (bF) (tn 42 (tn 43 (tn 44 (t 45 (bF) (t 46 (bF) (tn 47 (tn 48 (tn 49 (t 50 (bF) (t 51 (bF) (tn 52 (tn 53 (tn 54 (t 55 (bF) (t 56 (bF) (tn 57 (tn 58 (tn 59 (t 60 (bF) (t 61 (bF) (tn 62 (tn 63 (tn 64 (t 65 (bF) (t 2 (bF) (gl_nil (ge_then (gc_ret (ge_ret (bF) (rs1 2 (by kernel_rfl) (by kernel_rfl)) ?_)))))))))))))))))))))))))))))))))))))))))
       exact ⟨by rw [show fit x0 x1 x2 x3 x4 x5 x6 x7 x8 x9=false from decide_eq_false (fun h=>by omega)],BB⟩
     ·refine tq 24 (.bool (decide ((1:Int)<=x2))) (bF) (congrArg Value.bool (decide_eq_false c7)) (t 25 (bF) (t 26 (bF) (tn 27 (tn 28 (tn 29 (t 30 (bF) (t 31 (bF) (tn 32 (tn 33 (tn 34 (t 35 (bF) (t 36 (bF) (tn 37 (tn 38 (tn 39 (t 40 (bF) (t 41 (bF) (tn 42 (tn 43 (tn 44 (t 45 (bF) (t 46 (bF) (tn 47 (tn 48 (tn 49 (t 50 (bF) (t 51 (bF) (tn 52 (tn 53 (tn 54 (t 55 (bF) (t 56 (bF) (tn 57 (tn 58 (tn 59 (t 60 (bF) (t 61 (bF) (tn 62 (tn 63 (tn 64 (t 65 (bF) (t 2 (bF) (gl_nil (ge_then (gc_ret (ge_ret (bF) (rs1 2 (by kernel_rfl) (by kernel_rfl)) ?_))))))))))))))))))))))))))))))))))))))))))))))
      exact ⟨by rw [show fit x0 x1 x2 x3 x4 x5 x6 x7 x8 x9=false from decide_eq_false (fun h=>by omega)],BB⟩
    ·refine tq 19 (.bool (decide ((x1:Int)<=100000))) (bF) (congrArg Value.bool (decide_eq_false c6)) (t 20 (bF) (t 21 (bF) (tn 22 (tn 23 (tn 24 (t 25 (bF) (t 26 (bF) (tn 27 (tn 28 (tn 29 (t 30 (bF) (t 31 (bF) (tn 32 (tn 33 (tn 34 (t 35 (bF) (t 36 (bF) (tn 37 (tn 38 (tn 39 (t 40 (bF) (t 41 (bF) (tn 42 (tn 43 (tn 44 (t 45 (bF) (t 46 (bF) (tn 47 (tn 48 (tn 49 (t 50 (bF) (t 51 (bF) (tn 52 (tn 53 (tn 54 (t 55 (bF) (t 56 (bF) (tn 57 (tn 58 (tn 59 (t 60 (bF) (t 61 (bF) (tn 62 (tn 63 (tn 64 (t 65 (bF) (t 2 (bF) (gl_nil (ge_then (gc_ret (ge_ret (bF) (rs1 2 (by kernel_rfl) (by kernel_rfl)) ?_)))))))))))))))))))))))))))))))))))))))))))))))))))
     exact ⟨by rw [show fit x0 x1 x2 x3 x4 x5 x6 x7 x8 x9=false from decide_eq_false (fun h=>by omega)],BB⟩
   ·refine tq 14 (.bool (decide ((1:Int)<=x1))) (bF) (congrArg Value.bool (decide_eq_false c5)) (t 15 (bF) (t 16 (bF) (tn 17 (tn 18 (tn 19 (t 20 (bF) (t 21 (bF) (tn 22 (tn 23 (tn 24 (t 25 (bF) (t 26 (bF) (tn 27 (tn 28 (tn 29 (t 30 (bF) (t 31 (bF) (tn 32 (tn 33 (tn 34 (t 35 (bF) (t 36 (bF) (tn 37 (tn 38 (tn 39 (t 40 (bF) (t 41 (bF) (tn 42 (tn 43 (tn 44 (t 45 (bF) (t 46 (bF) (tn 47 (tn 48 (tn 49 (t 50 (bF) (t 51 (bF) (tn 52 (tn 53 (tn 54 (t 55 (bF) (t 56 (bF) (tn 57 (tn 58 (tn 59 (t 60 (bF) (t 61 (bF) (tn 62 (tn 63 (tn 64 (t 65 (bF) (t 2 (bF) (gl_nil (ge_then (gc_ret (ge_ret (bF) (rs1 2 (by kernel_rfl) (by kernel_rfl)) ?_))))))))))))))))))))))))))))))))))))))))))))))))))))))))
    exact ⟨by rw [show fit x0 x1 x2 x3 x4 x5 x6 x7 x8 x9=false from decide_eq_false (fun h=>by omega)],BB⟩
  ·refine tq 9 (.bool (decide ((x0:Int)<=64))) (bF) (congrArg Value.bool (decide_eq_false c4)) (t 10 (bF) (t 11 (bF) (tn 12 (tn 13 (tn 14 (t 15 (bF) (t 16 (bF) (tn 17 (tn 18 (tn 19 (t 20 (bF) (t 21 (bF) (tn 22 (tn 23 (tn 24 (t 25 (bF) (t 26 (bF) (tn 27 (tn 28 (tn 29 (t 30 (bF) (t 31 (bF) (tn 32 (tn 33 (tn 34 (t 35 (bF) (t 36 (bF) (tn 37 (tn 38 (tn 39 (t 40 (bF) (t 41 (bF) (tn 42 (tn 43 (tn 44 (t 45 (bF) (t 46 (bF) (tn 47 (tn 48 (tn 49 (t 50 (bF) (t 51 (bF) (tn 52 (tn 53 (tn 54 (t 55 (bF) (t 56 (bF) (tn 57 (tn 58 (tn 59 (t 60 (bF) (t 61 (bF) (tn 62 (tn 63 (tn 64 (t 65 (bF) (t 2 (bF) (gl_nil (ge_then (gc_ret (ge_ret (bF) (rs1 2 (by kernel_rfl) (by kernel_rfl)) ?_)))))))))))))))))))))))))))))))))))))))))))))))))))))))))))))
   exact ⟨by rw [show fit x0 x1 x2 x3 x4 x5 x6 x7 x8 x9=false from decide_eq_false (fun h=>by omega)],BB⟩
 ·refine tq 5 (.bool (decide ((1:Int)<=x0))) (bF) (congrArg Value.bool (decide_eq_false c3)) (t 6 (bF) (tn 7 (tn 8 (tn 9 (t 10 (bF) (t 11 (bF) (tn 12 (tn 13 (tn 14 (t 15 (bF) (t 16 (bF) (tn 17 (tn 18 (tn 19 (t 20 (bF) (t 21 (bF) (tn 22 (tn 23 (tn 24 (t 25 (bF) (t 26 (bF) (tn 27 (tn 28 (tn 29 (t 30 (bF) (t 31 (bF) (tn 32 (tn 33 (tn 34 (t 35 (bF) (t 36 (bF) (tn 37 (tn 38 (tn 39 (t 40 (bF) (t 41 (bF) (tn 42 (tn 43 (tn 44 (t 45 (bF) (t 46 (bF) (tn 47 (tn 48 (tn 49 (t 50 (bF) (t 51 (bF) (tn 52 (tn 53 (tn 54 (t 55 (bF) (t 56 (bF) (tn 57 (tn 58 (tn 59 (t 60 (bF) (t 61 (bF) (tn 62 (tn 63 (tn 64 (t 65 (bF) (t 2 (bF) (gl_nil (ge_then (gc_ret (ge_ret (bF) (rs1 2 (by kernel_rfl) (by kernel_rfl)) ?_)))))))))))))))))))))))))))))))))))))))))))))))))))))))))))))))))
  exact ⟨by rw [show fit x0 x1 x2 x3 x4 x5 x6 x7 x8 x9=false from decide_eq_false (fun h=>by omega)],BB⟩
theorem gc_rds {P:Program} {n:Nat} {ds:List Deferred} {l:Fr} {w:World} {Q:Exit->Act->World->Prop} {c:Code} (k:Nat) (h:GC P n ds c (Exit.then (Code.rounds P c Q k) Q) l w):GC P n ds (Code.loop c) Q l w:=⟨fun a r=>wp_loop_rounds (k + 1) (h.out a r)⟩
theorem ge_rd {P:Program} {n:Nat} {ds:List Deferred} {l:Fr} {w:World} {Q Q':Exit->Act->World->Prop} {c:Code} {k:Nat} (h:GC P n ds c (Exit.then (Code.rounds P c Q k) Q) l w):GE n ds (Exit.then (Code.rounds P c Q (k + 1)) Q') .normal l w:=⟨fun a r=>h.out a r⟩
theorem r2 {B:Nat} {w:World} {K:Nat->Prop} {g:Nat} {E:Ents} {n N:Nat}  (P:Bare E) (h:Sx B w K g E [] n N) (hn:n<=50000) (hN:N<=1000):Calls Tryz.prog 36 #[pg g] w (RlE B w K g E n N 1 (.bool true)):=by
 have A:=h.at
 refine gc_enter (n:=6) Tryz.func36 rfl ?_
 refine gc_seq (gc_reg (t 2 (bF) (gl_nil (ge_then (gc_seq (gc_reg (t 3 (pg g) (tc 4 74 #[pg g] (paramsS A.sx P.par (by omega) (by omega)) ?_))))))))
 rintro _ v2 ⟨rfl,K1,S,hK,hC⟩
 refine ⟨_,rfl,?_⟩
 replace A:=A.op S hK hC
 refine tc 5 5 #[.agg #[iU 1,iU 1,iU 1,iU 0,iU 0,iU 0,iU 0,iU 0,iU 0,iU 16]] (fit_any) ?_
 rintro _ v3 ⟨rfl,B⟩
 refine ⟨_,rfl,?_⟩
 replace A:=A.keep B
 refine t 2 (bT) (gl_nil (ge_then (gc_ret (ge_ret (bT) (rs1 2 (by kernel_rfl) (by kernel_rfl)) ?_))))
 exact ⟨rfl,_,_,A.sx,by omega,A.km,A.cc⟩
theorem haveV {B:Nat} {w:World} {K:Nat->Prop} {g:Nat} {E:Ents} {n N:Nat}  (P:Bare E) (h:Sx B w K g E [] n N) (hn:n<=100000) (hN:N<=1000):Calls Tryz.prog 84 #[pg g] w (RlE B w K g E n N 3 (.bool true)):=by
 have A:=h.at
 have DF:=Dfs.nil w.heap.size w
 refine gc_enterM (n:=24) Tryz.func84 rfl (by kernel_rfl) (by kernel_rfl) ?_
 refine gc_seq (gc_reg (ta 1 [pg g] 27 (pg) ?_))
 intro v1 g2 Xg2 hg2 B
 obtain ⟨zg2,nXg2,A⟩:=A.al hg2 B
 replace DF:=DF.keep B
 have lXg2:=Xg2.lt
 refine ta 2 [bF] 4 (pg) ?_
 intro v3 g4 Xg4 hg4 B
 obtain ⟨zg4,nXg4,A⟩:=A.al hg4 B
 replace DF:=DF.keep B
 replace Xg2:=Xg2.keep B
 refine gl_nil (ge_then (gc_seq (gc_seq (gc_reg ?_))))
 have lXg2:=Xg2.lt
 have lXg4:=Xg4.lt
 refine ta 6 [iI 6,iI 7,iI 8] 3 (sg 3) ?_
 intro v5 g6 Xg6 hg6 B
 obtain ⟨zg6,nXg6,A⟩:=A.al hg6 B
 replace DF:=DF.keep B
 replace Xg2:=Xg2.keep B
 replace Xg4:=Xg4.keep B
 refine t 7 (iI 3) (t 8 (iI 0) (gl_nil (ge_then (gc_block (gc_rds 3 ?_)))))
 refine gc_seq (gc_reg (t 9 (bT) (gl_nil (ge_then (gc_seq (gc_yes (gc_skip (ge_then (gc_seq (gc_block (gc_seq (gc_reg (t 10 (pg g6) (tl 11 (iI 6) Xg6 0 (t 4 (iI 6) (gl_nil (ge_then (gc_seq (gc_reg (tl 12 (pg g) Xg2 0 (t 13 (iI 6) (tc 14 86 #[pg g,iI 6] (laid_mt A.sx (by omega) (by omega) of6 (P.no 118 (by decide))) ?_))))))))))))))))))))))
 rintro _ v10 ⟨gf7,lb8,rfl,M9,B⟩
 refine ⟨_,rfl,?_⟩
 replace A:=A.keep B
 replace DF:=DF.keep B
 replace Xg2:=Xg2.keep B
 replace Xg4:=Xg4.keep B
 replace Xg6:=Xg6.keep B
 refine gl_nil (ge_then (gc_fr [(1,pg g2),(2,pg g4),(4,iI 6),(6,sg 3 g6),(7,iI 3),(8,iI 0),(9,bT),(10,pg g6),(11,iI 6),(12,pg g),(13,iI 6),(14,.func (.func gf7) #[] lb8)] (gc_block (gc_mt M9 (A.lt A.sx.sa.top) ?_))))
 intro D11 v12 hD11 kD11 S C
 have hC:=C.mono (F':=K) (fun y _ e=>by have e':y=g:=e; rw [e']; exact A.sx.sa.top)
 have hK:∀ b,K b->K b\/v10.heap.size<=b:=fun _ h=>.inl h
 have DF2:=DF.op A.sx.sa hC
 replace DF:=DF.add hD11 A.size DF2 kD11
 clear DF2 hD11 kD11
 clear M9
 obtain ⟨Xg2,nXg2⟩:=bk_op Xg2 nXg2 hK hC
 obtain ⟨Xg4,nXg4⟩:=bk_op Xg4 nXg4 hK hC
 obtain ⟨Xg6,nXg6⟩:=bk_op Xg6 nXg6 hK hC
 replace A:=A.op S hK hC
 refine ge_bn (ge_bn (ge_then (gc_reg (t 23 (iI 1) (t 8 (iI 1) (gl_nil (ge_rd ?_)))))))
 refine gc_fr [(1,pg g2),(2,pg g4),(4,iI 6),(6,sg 3 g6),(7,iI 3),(8,iI 1),(9,bT),(10,pg g6),(11,iI 6),(12,pg g),(13,iI 6),(14,.func (.func gf7) #[] lb8),(23,iI 1)] (gc_seq (gc_reg (t 9 (bT) (gl_nil (ge_then (gc_seq (gc_yes (gc_skip (ge_then (gc_seq (gc_block (gc_seq (gc_reg (t 10 (pq g6 1) (tl 11 (iI 7) Xg6 1 (t 4 (iI 7) (gl_nil (ge_then (gc_seq (gc_reg (tl 12 (pg g) Xg2 0 (t 13 (iI 7) (tc 14 86 #[pg g,iI 7] (laid_mt A.sx (by omega) (by omega) of7 (P.no 118 (by decide))) ?_)))))))))))))))))))))))
 rintro _ v16 ⟨gf13,lb14,rfl,M15,B⟩
 refine ⟨_,rfl,?_⟩
 replace A:=A.keep B
 replace Xg2:=Xg2.keep B
 replace Xg4:=Xg4.keep B
 replace Xg6:=Xg6.keep B
 replace DF:=DF.keep B
 refine gl_nil (ge_then (gc_block (gc_mt M15 (A.lt A.sx.sa.top) ?_)))
 intro D17 v18 hD17 kD17 S C
 have hC:=C.mono (F':=K) (fun y _ e=>by have e':y=g:=e; rw [e']; exact A.sx.sa.top)
 have hK:∀ b,K b->K b\/v16.heap.size<=b:=fun _ h=>.inl h
 have DF2:=DF.op A.sx.sa hC
 replace DF:=DF.add hD17 A.size DF2 kD17
 clear DF2 hD17 kD17
 clear M15
 obtain ⟨Xg2,nXg2⟩:=bk_op Xg2 nXg2 hK hC
 obtain ⟨Xg4,nXg4⟩:=bk_op Xg4 nXg4 hK hC
 obtain ⟨Xg6,nXg6⟩:=bk_op Xg6 nXg6 hK hC
 replace A:=A.op S hK hC
 refine ge_bn (ge_bn (ge_then (gc_reg (t 23 (iI 2) (t 8 (iI 2) (gl_nil (ge_rd ?_)))))))
 refine gc_fr [(1,pg g2),(2,pg g4),(4,iI 7),(6,sg 3 g6),(7,iI 3),(8,iI 2),(9,bT),(10,pq g6 1),(11,iI 7),(12,pg g),(13,iI 7),(14,.func (.func gf13) #[] lb14),(23,iI 2)] (gc_seq (gc_reg (t 9 (bT) (gl_nil (ge_then (gc_seq (gc_yes (gc_skip (ge_then (gc_seq (gc_block (gc_seq (gc_reg (t 10 (pq g6 2) (tl 11 (iI 8) Xg6 2 (t 4 (iI 8) (gl_nil (ge_then (gc_seq (gc_reg (tl 12 (pg g) Xg2 0 (t 13 (iI 8) (tc 14 86 #[pg g,iI 8] (laid_mt A.sx (by omega) (by omega) of8 (P.no 118 (by decide))) ?_)))))))))))))))))))))))
 rintro _ v22 ⟨gf19,lb20,rfl,M21,B⟩
 refine ⟨_,rfl,?_⟩
 replace A:=A.keep B
 replace Xg2:=Xg2.keep B
 replace Xg4:=Xg4.keep B
 replace Xg6:=Xg6.keep B
 replace DF:=DF.keep B
 refine gl_nil (ge_then (gc_block (gc_mt M21 (A.lt A.sx.sa.top) ?_)))
 intro D23 v24 hD23 kD23 S C
 have hC:=C.mono (F':=K) (fun y _ e=>by have e':y=g:=e; rw [e']; exact A.sx.sa.top)
 have hK:∀ b,K b->K b\/v22.heap.size<=b:=fun _ h=>.inl h
 have DF2:=DF.op A.sx.sa hC
 replace DF:=DF.add hD23 A.size DF2 kD23
 clear DF2 hD23 kD23
 clear M21
 obtain ⟨Xg2,nXg2⟩:=bk_op Xg2 nXg2 hK hC
 obtain ⟨Xg4,nXg4⟩:=bk_op Xg4 nXg4 hK hC
 obtain ⟨Xg6,nXg6⟩:=bk_op Xg6 nXg6 hK hC
 replace A:=A.op S hK hC
 refine ge_bn (ge_bn (ge_then (gc_reg (t 23 (iI 3) (t 8 (iI 3) (gl_nil (ge_rd ?_)))))))
 refine gc_fr [(1,pg g2),(2,pg g4),(4,iI 8),(6,sg 3 g6),(7,iI 3),(8,iI 3),(9,bT),(10,pq g6 2),(11,iI 8),(12,pg g),(13,iI 8),(14,.func (.func gf19) #[] lb20),(23,iI 3)] (gc_seq (gc_reg (t 9 (bF) (gl_nil (ge_then (gc_seq (gc_no (gc_exit (ge_tx (ge_tx (ge_bx (ge_then (gc_seq (gc_reg (ts Xg4 0 (bT) [bT] [bT] ?_)))))))))))))))
 intro v25 Y C
 replace A:=Bk.At.cell A Xg4 C zg4 nXg4 (by decide)
 replace Xg2:=Xg2.chg C (show g2≠g4 by omega)
 replace Xg6:=Xg6.chg C (show g6≠g4 by omega)
 replace DF:=DF.cell Xg4 C
 have Xg4:=Y
 refine gl_nil (ge_then (gc_ret (ge_retD (b:=w.heap.size) (v:=bT) [D23,D17,D11] DF (rscM 2 Xg4 (fun _ h=>l1 h 0) (by kernel_rfl) (by kernel_rfl)) ?_)))
 intro Vz Rz
 exact At.rle A Rz (by omega)
theorem sharesM {B:Nat} {w:World} {K:Nat->Prop} {g:Nat} {E:Ents} {n N:Nat}  (P:Bare E) (h:Sx B w K g E [] n N) (hn:n<=100000) (hN:N<=1000):Calls Tryz.prog 85 #[pg g] w (RlE B w K g E n N 2 (.bool true)):=by
 have A:=h.at
 have DF:=Dfs.nil w.heap.size w
 refine gc_enterM (n:=47) Tryz.func85 rfl (by kernel_rfl) (by kernel_rfl) ?_
 refine gc_seq (gc_reg (ta 2 [bF] 4 (pg) ?_))
 intro v1 g2 Xg2 hg2 B
 obtain ⟨zg2,nXg2,A⟩:=A.al hg2 B
 replace DF:=DF.keep B
 refine gl_nil (ge_then (gc_seq (gc_reg (tmk 8 ?_))))
 intro v3 bm4 hM hbm B
 replace A:=A.keep B
 replace DF:=DF.keep B
 replace Xg2:=Xg2.keep B
 clear B hbm
 have Q5:MapS v3 bm4 (.map #[] 0):=⟨hM⟩
 clear hM
 have lXg2:=Xg2.lt
 refine ta 3 [.map none] 250 (pg) ?_
 intro v6 g7 Xg7 hg7 B
 obtain ⟨zg7,nXg7,A⟩:=A.al hg7 B
 replace DF:=DF.keep B
 replace Xg2:=Xg2.keep B
 replace Q5:=Q5.keep B
 refine ts Xg7 0 (.map (some bm4)) [.map (some bm4)] [.map (some bm4)] ?_
 intro v8 Y C
 replace A:=Bk.At.cell A Xg7 C zg7 nXg7 (by decide)
 replace DF:=DF.cell Xg7 C
 replace Xg2:=Xg2.chg C (show g2≠g7 by omega)
 replace Q5:=Q5.cell Xg7 C
 have Xg7:=Y
 refine gl_nil (ge_then (gc_seq (gc_seq (gc_reg (t 9 (pg g) (tc 10 162 #[pg g,iI 6,.func (.func 132) #[] #[]] (recs_Delegation A.sx (by omega) (by omega) of6 (P.no 118 (by decide))) ?_))))))
 rintro _ v12 ⟨gf9,lb10,rfl,M11,B⟩
 refine ⟨_,rfl,?_⟩
 replace A:=A.keep B
 replace DF:=DF.keep B
 replace Xg2:=Xg2.keep B
 replace Q5:=Q5.keep B
 replace Xg7:=Xg7.keep B
 refine gl_nil (ge_then (gc_block (gc_mt M11 (A.lt A.sx.sa.top) ?_)))
 intro D13 v14 hD13 kD13 S C
 have hC:=C.mono (F':=K) (fun y _ e=>by have e':y=g:=e; rw [e']; exact A.sx.sa.top)
 have hK:∀ b,K b->K b\/v12.heap.size<=b:=fun _ h=>.inl h
 have DF2:=DF.op A.sx.sa hC
 replace DF:=DF.add hD13 A.size DF2 kD13
 clear DF2 hD13 kD13
 clear M11
 replace Q5:=Q5.op A.sx.sa hC
 obtain ⟨Xg2,nXg2⟩:=bk_op Xg2 nXg2 hK hC
 obtain ⟨Xg7,nXg7⟩:=bk_op Xg7 nXg7 hK hC
 replace A:=A.op S hK hC
 refine ge_bn (ge_then (gc_seq (gc_seq (gc_reg (t 34 (pg g) (tc 35 82 #[pg g] (vals_mt P A.sx (by omega) (by omega)) ?_))))))
 rintro _ v18 ⟨gf15,lb16,rfl,M17,B⟩
 refine ⟨_,rfl,?_⟩
 replace A:=A.keep B
 replace Xg2:=Xg2.keep B
 replace Q5:=Q5.keep B
 replace Xg7:=Xg7.keep B
 replace DF:=DF.keep B
 refine gl_nil (ge_then (gc_block (gc_mt M17 (A.lt A.sx.sa.top) ?_)))
 intro D19 v20 hD19 kD19 S C
 have hC:=C.mono (F':=K) (fun y _ e=>by have e':y=g:=e; rw [e']; exact A.sx.sa.top)
 have hK:∀ b,K b->K b\/v18.heap.size<=b:=fun _ h=>.inl h
 have DF2:=DF.op A.sx.sa hC
 replace DF:=DF.add hD19 A.size DF2 kD19
 clear DF2 hD19 kD19
 clear M17
 replace Q5:=Q5.op A.sx.sa hC
 obtain ⟨Xg2,nXg2⟩:=bk_op Xg2 nXg2 hK hC
 obtain ⟨Xg7,nXg7⟩:=bk_op Xg7 nXg7 hK hC
 replace A:=A.op S hK hC
 refine ge_bn (ge_then (gc_seq (gc_reg (ts Xg2 0 (bT) [bT] [bT] ?_))))
 intro v21 Y C
 replace A:=Bk.At.cell A Xg2 C zg2 nXg2 (by decide)
 replace Q5:=Q5.cell Xg2 C
 replace Xg7:=Xg7.chg C (show g7≠g2 by omega)
 replace DF:=DF.cell Xg2 C
 have Xg2:=Y
 refine gl_nil (ge_then (gc_ret (ge_retD (b:=w.heap.size) (v:=bT) [D19,D13] DF (rscM 2 Xg2 (fun _ h=>l1 h 0) (by kernel_rfl) (by kernel_rfl)) ?_)))
 intro Vz Rz
 exact At.rle A Rz (by omega)
theorem r4 {B:Nat} {w:World} {K:Nat->Prop} {g:Nat} {E:Ents} {n N:Nat}  (P:Bare E) (h:Sx B w K g E [] n N) (hn:n<=50000) (hN:N<=1000):Calls Tryz.prog 38 #[pg g] w (RlE B w K g E n N 7 (.bool true)):=by
 have A:=h.at
 have DF:=Dfs.nil w.heap.size w
 refine gc_enterM (n:=49) Tryz.func38 rfl (by kernel_rfl) (by kernel_rfl) ?_
 refine gc_seq (gc_reg (ta 1 [pg g] 27 (pg) ?_))
 intro v1 g2 Xg2 hg2 B
 obtain ⟨zg2,nXg2,A⟩:=A.al hg2 B
 replace DF:=DF.keep B
 have lXg2:=Xg2.lt
 refine ta 2 [bF] 4 (pg) ?_
 intro v3 g4 Xg4 hg4 B
 obtain ⟨zg4,nXg4,A⟩:=A.al hg4 B
 replace DF:=DF.keep B
 replace Xg2:=Xg2.keep B
 refine gl_nil (ge_then (gc_seq (gc_seq (gc_reg (tl 7 (pg g) Xg2 0 (tc 8 81 #[pg g] (chainS A.sx P.chn (by omega) (by omega)) ?_))))))
 rintro _ v6 ⟨rfl,K5,S,hK,hC⟩
 refine ⟨_,rfl,?_⟩
 replace DF:=DF.op A.sx.sa hC
 obtain ⟨Xg2,nXg2⟩:=bk_op Xg2 nXg2 hK hC
 obtain ⟨Xg4,nXg4⟩:=bk_op Xg4 nXg4 hK hC
 replace A:=A.op S hK hC
 have lXg2:=Xg2.lt
 have lXg4:=Xg4.lt
 refine ta 3 [iU 0,iU 0] 44 (pg) ?_
 intro v7 g8 Xg8 hg8 B
 obtain ⟨zg8,nXg8,A⟩:=A.al hg8 B
 replace DF:=DF.keep B
 replace Xg2:=Xg2.keep B
 replace Xg4:=Xg4.keep B
 refine ts Xg8 0 (.agg #[iU 1,iU 1]) [iU 1,iU 1] [iU 1,iU 1] ?_
 intro v9 Y C
 replace A:=Bk.At.cell A Xg8 C zg8 nXg8 (by decide)
 replace DF:=DF.cell Xg8 C
 replace Xg2:=Xg2.chg C (show g2≠g8 by omega)
 replace Xg4:=Xg4.chg C (show g4≠g8 by omega)
 have Xg8:=Y
 refine gl_nil (ge_then (gc_seq (gc_reg (t 9 (pg g8) (tl 10 (iU 1) Xg8 0 (t 11 (bF) (t 12 (bF) (t 13 (pq g8 1) (tl 14 (iU 1) Xg8 1 (t 15 (bF) (t 16 (bF) (gl_nil (ge_then (gc_fr [(1,pg g2),(2,pg g4),(16,bF)] (gc_no (gc_skip (ge_then (gc_seq (gc_seq (gc_reg (tl 17 (pg g) Xg2 0 (tc 18 82 #[pg g] (vals_mt P A.sx (by omega) (by omega)) ?_))))))))))))))))))))))
 rintro _ v13 ⟨gf10,lb11,rfl,M12,B⟩
 refine ⟨_,rfl,?_⟩
 replace A:=A.keep B
 replace DF:=DF.keep B
 replace Xg2:=Xg2.keep B
 replace Xg4:=Xg4.keep B
 replace Xg8:=Xg8.keep B
 refine gl_nil (ge_then (gc_block (gc_mt M12 (A.lt A.sx.sa.top) ?_)))
 intro D14 v15 hD14 kD14 S C
 have hC:=C.mono (F':=K5) (fun y _ e=>by have e':y=g:=e; rw [e']; exact A.sx.sa.top)
 have hK:∀ b,K5 b->K5 b\/v13.heap.size<=b:=fun _ h=>.inl h
 have DF2:=DF.op A.sx.sa hC
 replace DF:=DF.add hD14 A.size DF2 kD14
 clear DF2 hD14 kD14
 clear M12
 obtain ⟨Xg2,nXg2⟩:=bk_op Xg2 nXg2 hK hC
 obtain ⟨Xg4,nXg4⟩:=bk_op Xg4 nXg4 hK hC
 obtain ⟨Xg8,nXg8⟩:=bk_op Xg8 nXg8 hK hC
 replace A:=A.op S hK hC
 refine ge_bn (ge_then (gc_seq (gc_reg (tl 43 (pg g) Xg2 0 (tc 44 84 #[pg g] (haveV P A.sx (by omega) (by omega)) ?_)))))
 rintro _ v18 ⟨rfl,K16,n17,S,qn17,hK,hC⟩
 refine ⟨_,rfl,?_⟩
 replace DF:=DF.op A.sx.sa hC
 obtain ⟨Xg2,nXg2⟩:=bk_op Xg2 nXg2 hK hC
 obtain ⟨Xg4,nXg4⟩:=bk_op Xg4 nXg4 hK hC
 obtain ⟨Xg8,nXg8⟩:=bk_op Xg8 nXg8 hK hC
 replace A:=A.op S hK hC
 refine t 45 (bT) (tl 46 (pg g) Xg2 0 (tc 47 85 #[pg g] (sharesM P A.sx (by omega) (by omega)) ?_))
 rintro _ v21 ⟨rfl,K19,n20,S,qn20,hK,hC⟩
 refine ⟨_,rfl,?_⟩
 replace DF:=DF.op A.sx.sa hC
 obtain ⟨Xg2,nXg2⟩:=bk_op Xg2 nXg2 hK hC
 obtain ⟨Xg4,nXg4⟩:=bk_op Xg4 nXg4 hK hC
 obtain ⟨Xg8,nXg8⟩:=bk_op Xg8 nXg8 hK hC
 replace A:=A.op S hK hC
 refine t 48 (bT) (ts Xg4 0 (bT) [bT] [bT] ?_)
 intro v22 Y C
 replace A:=Bk.At.cell A Xg4 C zg4 nXg4 (by decide)
 replace Xg2:=Xg2.chg C (show g2≠g4 by omega)
 replace Xg8:=Xg8.chg C (show g8≠g4 by omega)
 replace DF:=DF.cell Xg4 C
 have Xg4:=Y
 refine gl_nil (ge_then (gc_ret (ge_retD (b:=w.heap.size) (v:=bT) [D14] DF (rscM 2 Xg4 (fun _ h=>l1 h 0) (by kernel_rfl) (by kernel_rfl)) ?_)))
 intro Vz Rz
 exact At.rle A Rz (by omega)
theorem r5 {B:Nat} {w:World} {K:Nat->Prop} {g:Nat} {E:Ents} {n N:Nat}  (P:Bare E) (h:Sx B w K g E [] n N) (hn:n<=50000) (hN:N<=1000):Calls Tryz.prog 39 #[pg g] w (RlE B w K g E n N 2 (.bool true)):=by
 have A:=h.at
 have DF:=Dfs.nil w.heap.size w
 refine gc_enterM (n:=29) Tryz.func39 rfl (by kernel_rfl) (by kernel_rfl) ?_
 refine gc_seq (gc_reg (ta 1 [pg g] 27 (pg) ?_))
 intro v1 g2 Xg2 hg2 B
 obtain ⟨zg2,nXg2,A⟩:=A.al hg2 B
 replace DF:=DF.keep B
 have lXg2:=Xg2.lt
 refine ta 2 [bF] 4 (pg) ?_
 intro v3 g4 Xg4 hg4 B
 obtain ⟨zg4,nXg4,A⟩:=A.al hg4 B
 replace DF:=DF.keep B
 replace Xg2:=Xg2.keep B
 refine gl_nil (ge_then (gc_seq (gc_seq (gc_reg (tl 5 (pg g) Xg2 0 (tc 6 86 #[pg g,iI 6] (laid_mt A.sx (by omega) (by omega) of6 (P.no 118 (by decide))) ?_))))))
 rintro _ v8 ⟨gf5,lb6,rfl,M7,B⟩
 refine ⟨_,rfl,?_⟩
 replace A:=A.keep B
 replace DF:=DF.keep B
 replace Xg2:=Xg2.keep B
 replace Xg4:=Xg4.keep B
 refine gl_nil (ge_then (gc_block (gc_mt M7 (A.lt A.sx.sa.top) ?_)))
 intro D9 v10 hD9 kD9 S C
 have hC:=C.mono (F':=K) (fun y _ e=>by have e':y=g:=e; rw [e']; exact A.sx.sa.top)
 have hK:∀ b,K b->K b\/v8.heap.size<=b:=fun _ h=>.inl h
 have DF2:=DF.op A.sx.sa hC
 replace DF:=DF.add hD9 A.size DF2 kD9
 clear DF2 hD9 kD9
 clear M7
 obtain ⟨Xg2,nXg2⟩:=bk_op Xg2 nXg2 hK hC
 obtain ⟨Xg4,nXg4⟩:=bk_op Xg4 nXg4 hK hC
 replace A:=A.op S hK hC
 refine ge_bn (ge_then (gc_seq (gc_seq (gc_reg (tl 17 (pg g) Xg2 0 (tc 18 86 #[pg g,iI 16] (laid_mt A.sx (by omega) (by omega) of16 (P.no 110 (by decide))) ?_))))))
 rintro _ v14 ⟨gf11,lb12,rfl,M13,B⟩
 refine ⟨_,rfl,?_⟩
 replace A:=A.keep B
 replace Xg2:=Xg2.keep B
 replace Xg4:=Xg4.keep B
 replace DF:=DF.keep B
 refine gl_nil (ge_then (gc_block (gc_mt M13 (A.lt A.sx.sa.top) ?_)))
 intro D15 v16 hD15 kD15 S C
 have hC:=C.mono (F':=K) (fun y _ e=>by have e':y=g:=e; rw [e']; exact A.sx.sa.top)
 have hK:∀ b,K b->K b\/v14.heap.size<=b:=fun _ h=>.inl h
 have DF2:=DF.op A.sx.sa hC
 replace DF:=DF.add hD15 A.size DF2 kD15
 clear DF2 hD15 kD15
 clear M13
 obtain ⟨Xg2,nXg2⟩:=bk_op Xg2 nXg2 hK hC
 obtain ⟨Xg4,nXg4⟩:=bk_op Xg4 nXg4 hK hC
 replace A:=A.op S hK hC
 refine ge_bn (ge_then (gc_seq (gc_reg (ts Xg4 0 (bT) [bT] [bT] ?_))))
 intro v17 Y C
 replace A:=Bk.At.cell A Xg4 C zg4 nXg4 (by decide)
 replace Xg2:=Xg2.chg C (show g2≠g4 by omega)
 replace DF:=DF.cell Xg4 C
 have Xg4:=Y
 refine gl_nil (ge_then (gc_ret (ge_retD (b:=w.heap.size) (v:=bT) [D15,D9] DF (rscM 2 Xg4 (fun _ h=>l1 h 0) (by kernel_rfl) (by kernel_rfl)) ?_)))
 intro Vz Rz
 exact At.rle A Rz (by omega)
theorem ua_nil {w:World} {B:Nat} {v:Value} (h:UA w B v []):∃ a c,v=.slice a 0 c:=by
 rcases h.ex with ⟨rfl,_⟩ | ⟨b,c,rfl,_⟩
 ·exact ⟨_,_,rfl⟩
 ·exact ⟨_,_,rfl⟩
theorem nopre {E:Ents} {m:Int} (h:E.filter (fun x=>decide ([m] <+: x.1))=[]):∀ x∈E,¬ [m] <+: x.1:=fun x hx hp=>by
 have:x∈E.filter (fun x=>decide ([m] <+: x.1)):=List.mem_filter.2 ⟨hx,decide_eq_true hp⟩
 rw [h] at this
 cases this
theorem topS {B:Nat} {w:World} {K:Nat->Prop} {g:Nat} {E:Ents} {n N:Nat} (P:Bare E) (h:Sx B w K g E [] n N) (hn:n<=1000000) (hN:N<=1000):Calls Tryz.prog 169 #[pg g,.int .i64 1] w fun e w'=>∃ a c,e=.returned (.slice a 0 c)/\Sx B w' K g E [] (n + 1) N/\Chg (· = g) w w':=by
 have e0:pks 10 105 E=[]:=by unfold pks; rw [P.no 105 (by decide)]; rfl
 refine (top_any_sa (m:=1) h.sa (by decide) (by decide) (fun x hx hp=>absurd hp (nopre (P.no 105 (by decide)) x hx)) (by omega) (by omega)).mono ?_
 rintro e w' ⟨v,j,rfl,U,hj,S,C⟩
 rw [e0] at U hj
 obtain ⟨a,c,rfl⟩:=ua_nil U
 simp at hj
 subst hj
 exact ⟨a,c,rfl,⟨S,Nat.le_trans h.lo C.size,h.kb⟩,C⟩
theorem bondedS {B:Nat} {w:World} {K:Nat->Prop} {g:Nat} {E:Ents} {n N:Nat} (P:Bare E) (h:Sx B w K g E [] n N) (hn:n<=1000000) (hN:N<=1000):Calls Tryz.prog 168 #[pg g] w fun e w'=>∃ a c,e=.returned (.slice a 0 c)/\Sx B w' K g E [] (n + 1) N/\Chg (· = g) w w':=by
 have e0:pks 11 98 E=[]:=by unfold pks; rw [P.no 98 (by decide)]; rfl
 refine (bonded_any_sa h.sa (fun x hx hp=>absurd hp (nopre (P.no 98 (by decide)) x hx)) (by omega) (by omega)).mono ?_
 rintro e w' ⟨v,j,rfl,U,hj,S,C⟩
 rw [e0] at U hj
 obtain ⟨a,c,rfl⟩:=ua_nil U
 simp at hj
 subst hj
 exact ⟨a,c,rfl,⟨S,Nat.le_trans h.lo C.size,h.kb⟩,C⟩
theorem bondM {B:Nat} {w:World} {K:Nat->Prop} {g:Nat} {E:Ents} {n N:Nat}  (P:Bare E) (h:Sx B w K g E [] n N) (hn:n<=100000) (hN:N<=1000):Calls Tryz.prog 89 #[pg g] w (RlE B w K g E n N 3 (.bool true)):=by
 have A:=h.at
 refine gc_enter (n:=27) Tryz.func89 rfl ?_
 refine gc_seq (gc_reg (t 2 (bF) (gl_nil (ge_then (gc_seq (gc_reg (t 6 (pg g) (tc 7 74 #[pg g] (paramsS A.sx P.par (by omega) (by omega)) ?_))))))))
 rintro _ v2 ⟨rfl,K1,S,hK,hC⟩
 refine ⟨_,rfl,?_⟩
 replace A:=A.op S hK hC
 refine t 8 (iU 1) (t 9 (iI 1) (t 3 (iI 1) (gl_nil (ge_then (gc_seq (gc_reg (t 11 (pg g) (tc 12 168 #[pg g] (bondedS P A.sx (by omega) (by omega)) ?_))))))))
 rintro _ v7 ⟨a3,c5,rfl,S,C⟩
 refine ⟨_,rfl,?_⟩
 have hC:=C.mono (F':=K1) (fun y _ e=>by have e':y=g:=e; rw [e']; exact A.sx.sa.top)
 have hK:∀ b,K1 b->K1 b\/v2.heap.size<=b:=fun _ h=>.inl h
 replace A:=A.op S hK hC
 refine t 13 (pg g) (t 14 (iI 1) (tc 15 169 #[pg g,iI 1] (topS P A.sx (by omega) (by omega)) ?_))
 rintro _ v12 ⟨a8,c10,rfl,S,C⟩
 refine ⟨_,rfl,?_⟩
 have hC:=C.mono (F':=K1) (fun y _ e=>by have e':y=g:=e; rw [e']; exact A.sx.sa.top)
 have hK:∀ b,K1 b->K1 b\/v7.heap.size<=b:=fun _ h=>.inl h
 replace A:=A.op S hK hC
 refine tc 16 167 #[.slice a3 0 c5,.slice a8 0 c10] (turns_0) ?_
 rintro _ v13 ⟨rfl,B⟩
 refine ⟨_,rfl,?_⟩
 replace A:=A.keep B
 refine t 10 (.tuple #[.slice none 0 0,.slice none 0 0]) (t 17 (.slice none 0 0) (t 18 (.slice none 0 0) (t 4 (.slice none 0 0) (t 5 (.slice none 0 0) (gl_nil (ge_then (gc_fr [(2,bF),(4,.slice none 0 0),(5,.slice none 0 0)] (gc_seq (gc_reg (t 19 (.slice none 0 0) (t 20 (iI 0) (t 21 (bT) (t 22 (bT) (t 23 (.slice none 0 0) (t 24 (iI 0) (t 25 (bT) (t 26 (bT) (t 2 (bT) (gl_nil (ge_then (gc_ret (ge_ret (bT) (rs1 2 (by kernel_rfl) (by kernel_rfl)) ?_))))))))))))))))))))))
 exact ⟨rfl,_,_,A.sx,by omega,A.km,A.cc⟩
theorem r6 {B:Nat} {w:World} {K:Nat->Prop} {g:Nat} {E:Ents} {n N:Nat}  (P:Bare E) (h:Sx B w K g E [] n N) (hn:n<=50000) (hN:N<=1000):Calls Tryz.prog 40 #[pg g] w (RlE B w K g E n N 5 (.bool true)):=by
 have A:=h.at
 have DF:=Dfs.nil w.heap.size w
 refine gc_enterM (n:=61) Tryz.func40 rfl (by kernel_rfl) (by kernel_rfl) ?_
 refine gc_seq (gc_reg (ta 1 [pg g] 27 (pg) ?_))
 intro v1 g2 Xg2 hg2 B
 obtain ⟨zg2,nXg2,A⟩:=A.al hg2 B
 replace DF:=DF.keep B
 have lXg2:=Xg2.lt
 refine ta 2 [bF] 4 (pg) ?_
 intro v3 g4 Xg4 hg4 B
 obtain ⟨zg4,nXg4,A⟩:=A.al hg4 B
 replace DF:=DF.keep B
 replace Xg2:=Xg2.keep B
 refine gl_nil (ge_then (gc_seq (gc_seq (gc_reg (tl 8 (pg g) Xg2 0 (tc 9 82 #[pg g] (vals_mt P A.sx (by omega) (by omega)) ?_))))))
 rintro _ v8 ⟨gf5,lb6,rfl,M7,B⟩
 refine ⟨_,rfl,?_⟩
 replace A:=A.keep B
 replace DF:=DF.keep B
 replace Xg2:=Xg2.keep B
 replace Xg4:=Xg4.keep B
 refine gl_nil (ge_then (gc_block (gc_mt M7 (A.lt A.sx.sa.top) ?_)))
 intro D9 v10 hD9 kD9 S C
 have hC:=C.mono (F':=K) (fun y _ e=>by have e':y=g:=e; rw [e']; exact A.sx.sa.top)
 have hK:∀ b,K b->K b\/v8.heap.size<=b:=fun _ h=>.inl h
 have DF2:=DF.op A.sx.sa hC
 replace DF:=DF.add hD9 A.size DF2 kD9
 clear DF2 hD9 kD9
 clear M7
 obtain ⟨Xg2,nXg2⟩:=bk_op Xg2 nXg2 hK hC
 obtain ⟨Xg4,nXg4⟩:=bk_op Xg4 nXg4 hK hC
 replace A:=A.op S hK hC
 refine ge_bn (ge_then (gc_seq (gc_seq (gc_reg (tl 34 (pg g) Xg2 0 (tc 35 86 #[pg g,iI 10] (laid_mt A.sx (by omega) (by omega) of10 (P.no 105 (by decide))) ?_))))))
 rintro _ v14 ⟨gf11,lb12,rfl,M13,B⟩
 refine ⟨_,rfl,?_⟩
 replace A:=A.keep B
 replace Xg2:=Xg2.keep B
 replace Xg4:=Xg4.keep B
 replace DF:=DF.keep B
 refine gl_nil (ge_then (gc_block (gc_mt M13 (A.lt A.sx.sa.top) ?_)))
 intro D15 v16 hD15 kD15 S C
 have hC:=C.mono (F':=K) (fun y _ e=>by have e':y=g:=e; rw [e']; exact A.sx.sa.top)
 have hK:∀ b,K b->K b\/v14.heap.size<=b:=fun _ h=>.inl h
 have DF2:=DF.op A.sx.sa hC
 replace DF:=DF.add hD15 A.size DF2 kD15
 clear DF2 hD15 kD15
 clear M13
 obtain ⟨Xg2,nXg2⟩:=bk_op Xg2 nXg2 hK hC
 obtain ⟨Xg4,nXg4⟩:=bk_op Xg4 nXg4 hK hC
 replace A:=A.op S hK hC
 refine ge_bn (ge_then (gc_seq (gc_reg (tl 59 (pg g) Xg2 0 (tc 60 89 #[pg g] (bondM P A.sx (by omega) (by omega)) ?_)))))
 rintro _ v19 ⟨rfl,K17,n18,S,qn18,hK,hC⟩
 refine ⟨_,rfl,?_⟩
 replace DF:=DF.op A.sx.sa hC
 obtain ⟨Xg2,nXg2⟩:=bk_op Xg2 nXg2 hK hC
 obtain ⟨Xg4,nXg4⟩:=bk_op Xg4 nXg4 hK hC
 replace A:=A.op S hK hC
 refine ts Xg4 0 (bT) [bT] [bT] ?_
 intro v20 Y C
 replace A:=Bk.At.cell A Xg4 C zg4 nXg4 (by decide)
 replace Xg2:=Xg2.chg C (show g2≠g4 by omega)
 replace DF:=DF.cell Xg4 C
 have Xg4:=Y
 refine gl_nil (ge_then (gc_ret (ge_retD (b:=w.heap.size) (v:=bT) [D15,D9] DF (rscM 2 Xg4 (fun _ h=>l1 h 0) (by kernel_rfl) (by kernel_rfl)) ?_)))
 intro Vz Rz
 exact At.rle A Rz (by omega)
theorem r7 {B:Nat} {w:World} {K:Nat->Prop} {g:Nat} {E:Ents} {n N:Nat}  (P:Bare E) (h:Sx B w K g E [] n N) (hn:n<=50000) (hN:N<=1000):Calls Tryz.prog 41 #[pg g] w (RlE B w K g E n N 1 (.bool true)):=by
 have A:=h.at
 have DF:=Dfs.nil w.heap.size w
 refine gc_enterM (n:=27) Tryz.func41 rfl (by kernel_rfl) (by kernel_rfl) ?_
 refine gc_seq (gc_reg (ta 1 [pg g] 27 (pg) ?_))
 intro v1 g2 Xg2 hg2 B
 obtain ⟨zg2,nXg2,A⟩:=A.al hg2 B
 replace DF:=DF.keep B
 have lXg2:=Xg2.lt
 refine ta 2 [bF] 4 (pg) ?_
 intro v3 g4 Xg4 hg4 B
 obtain ⟨zg4,nXg4,A⟩:=A.al hg4 B
 replace DF:=DF.keep B
 replace Xg2:=Xg2.keep B
 refine gl_nil (ge_then (gc_seq (gc_seq (gc_reg (tl 6 (pg g) Xg2 0 (tc 7 82 #[pg g] (vals_mt P A.sx (by omega) (by omega)) ?_))))))
 rintro _ v8 ⟨gf5,lb6,rfl,M7,B⟩
 refine ⟨_,rfl,?_⟩
 replace A:=A.keep B
 replace DF:=DF.keep B
 replace Xg2:=Xg2.keep B
 replace Xg4:=Xg4.keep B
 refine gl_nil (ge_then (gc_block (gc_mt M7 (A.lt A.sx.sa.top) ?_)))
 intro D9 v10 hD9 kD9 S C
 have hC:=C.mono (F':=K) (fun y _ e=>by have e':y=g:=e; rw [e']; exact A.sx.sa.top)
 have hK:∀ b,K b->K b\/v8.heap.size<=b:=fun _ h=>.inl h
 have DF2:=DF.op A.sx.sa hC
 replace DF:=DF.add hD9 A.size DF2 kD9
 clear DF2 hD9 kD9
 clear M7
 obtain ⟨Xg2,nXg2⟩:=bk_op Xg2 nXg2 hK hC
 obtain ⟨Xg4,nXg4⟩:=bk_op Xg4 nXg4 hK hC
 replace A:=A.op S hK hC
 refine ge_bn (ge_then (gc_seq (gc_reg (ts Xg4 0 (bT) [bT] [bT] ?_))))
 intro v11 Y C
 replace A:=Bk.At.cell A Xg4 C zg4 nXg4 (by decide)
 replace Xg2:=Xg2.chg C (show g2≠g4 by omega)
 replace DF:=DF.cell Xg4 C
 have Xg4:=Y
 refine gl_nil (ge_then (gc_ret (ge_retD (b:=w.heap.size) (v:=bT) [D9] DF (rscM 2 Xg4 (fun _ h=>l1 h 0) (by kernel_rfl) (by kernel_rfl)) ?_)))
 intro Vz Rz
 exact At.rle A Rz (by omega)
theorem r8 {B:Nat} {w:World} {K:Nat->Prop} {g:Nat} {E:Ents} {n N:Nat}  (P:Bare E) (h:Sx B w K g E [] n N) (hn:n<=50000) (hN:N<=1000):Calls Tryz.prog 42 #[pg g] w (RlE B w K g E n N 1 (.bool true)):=by
 have A:=h.at
 have DF:=Dfs.nil w.heap.size w
 refine gc_enterM (n:=19) Tryz.func42 rfl (by kernel_rfl) (by kernel_rfl) ?_
 refine gc_seq (gc_reg (ta 2 [bF] 4 (pg) ?_))
 intro v1 g2 Xg2 hg2 B
 obtain ⟨zg2,nXg2,A⟩:=A.al hg2 B
 replace DF:=DF.keep B
 refine gl_nil (ge_then (gc_seq (gc_seq (gc_reg (t 5 (pg g) (tc 6 92 #[pg g,iI 8,.func (.func 93) #[] #[]] (recs_Cut A.sx (by omega) (by omega) of8 (P.no 118 (by decide))) ?_))))))
 rintro _ v6 ⟨gf3,lb4,rfl,M5,B⟩
 refine ⟨_,rfl,?_⟩
 replace A:=A.keep B
 replace DF:=DF.keep B
 replace Xg2:=Xg2.keep B
 refine gl_nil (ge_then (gc_block (gc_mt M5 (A.lt A.sx.sa.top) ?_)))
 intro D7 v8 hD7 kD7 S C
 have hC:=C.mono (F':=K) (fun y _ e=>by have e':y=g:=e; rw [e']; exact A.sx.sa.top)
 have hK:∀ b,K b->K b\/v6.heap.size<=b:=fun _ h=>.inl h
 have DF2:=DF.op A.sx.sa hC
 replace DF:=DF.add hD7 A.size DF2 kD7
 clear DF2 hD7 kD7
 clear M5
 obtain ⟨Xg2,nXg2⟩:=bk_op Xg2 nXg2 hK hC
 replace A:=A.op S hK hC
 refine ge_bn (ge_then (gc_seq (gc_reg (ts Xg2 0 (bT) [bT] [bT] ?_))))
 intro v9 Y C
 replace A:=Bk.At.cell A Xg2 C zg2 nXg2 (by decide)
 replace DF:=DF.cell Xg2 C
 have Xg2:=Y
 refine gl_nil (ge_then (gc_ret (ge_retD (b:=w.heap.size) (v:=bT) [D7] DF (rscM 2 Xg2 (fun _ h=>l1 h 0) (by kernel_rfl) (by kernel_rfl)) ?_)))
 intro Vz Rz
 exact At.rle A Rz (by omega)
theorem r9 {B:Nat} {w:World} {K:Nat->Prop} {g:Nat} {E:Ents} {n N:Nat}  (P:Bare E) (h:Sx B w K g E [] n N) (hn:n<=50000) (hN:N<=1000):Calls Tryz.prog 43 #[pg g] w (RlE B w K g E n N 1 (.bool true)):=by
 have A:=h.at
 have DF:=Dfs.nil w.heap.size w
 refine gc_enterM (n:=15) Tryz.func43 rfl (by kernel_rfl) (by kernel_rfl) ?_
 refine gc_seq (gc_reg (ta 1 [pg g] 27 (pg) ?_))
 intro v1 g2 Xg2 hg2 B
 obtain ⟨zg2,nXg2,A⟩:=A.al hg2 B
 replace DF:=DF.keep B
 have lXg2:=Xg2.lt
 refine ta 2 [bF] 4 (pg) ?_
 intro v3 g4 Xg4 hg4 B
 obtain ⟨zg4,nXg4,A⟩:=A.al hg4 B
 replace DF:=DF.keep B
 replace Xg2:=Xg2.keep B
 refine gl_nil (ge_then (gc_seq (gc_seq (gc_reg (tl 5 (pg g) Xg2 0 (tc 6 82 #[pg g] (vals_mt P A.sx (by omega) (by omega)) ?_))))))
 rintro _ v8 ⟨gf5,lb6,rfl,M7,B⟩
 refine ⟨_,rfl,?_⟩
 replace A:=A.keep B
 replace DF:=DF.keep B
 replace Xg2:=Xg2.keep B
 replace Xg4:=Xg4.keep B
 refine gl_nil (ge_then (gc_block (gc_mt M7 (A.lt A.sx.sa.top) ?_)))
 intro D9 v10 hD9 kD9 S C
 have hC:=C.mono (F':=K) (fun y _ e=>by have e':y=g:=e; rw [e']; exact A.sx.sa.top)
 have hK:∀ b,K b->K b\/v8.heap.size<=b:=fun _ h=>.inl h
 have DF2:=DF.op A.sx.sa hC
 replace DF:=DF.add hD9 A.size DF2 kD9
 clear DF2 hD9 kD9
 clear M7
 obtain ⟨Xg2,nXg2⟩:=bk_op Xg2 nXg2 hK hC
 obtain ⟨Xg4,nXg4⟩:=bk_op Xg4 nXg4 hK hC
 replace A:=A.op S hK hC
 refine ge_bn (ge_then (gc_seq (gc_reg (ts Xg4 0 (bT) [bT] [bT] ?_))))
 intro v11 Y C
 replace A:=Bk.At.cell A Xg4 C zg4 nXg4 (by decide)
 replace Xg2:=Xg2.chg C (show g2≠g4 by omega)
 replace DF:=DF.cell Xg4 C
 have Xg4:=Y
 refine gl_nil (ge_then (gc_ret (ge_retD (b:=w.heap.size) (v:=bT) [D9] DF (rscM 2 Xg4 (fun _ h=>l1 h 0) (by kernel_rfl) (by kernel_rfl)) ?_)))
 intro Vz Rz
 exact At.rle A Rz (by omega)
end Sd
end
section
namespace Fo
open Go.RowKit Lim
structure NatN (w:World) (B T:Nat) (ao:Option Addr) (n c:Nat) (x:Int):Prop where
 ex:∃ b o l,l.length=n/\n<=c/\IsN l x/\At w ao b o l/\Free w b o n/\(l=[]\/(B<=b/\b < T))
theorem newV_n {w w':World} {v:Value} {r:List Int} {x:Int} (h:NewV w w' v r) (hI:IsN r x):∃ a c,v=.slice a r.length c/\NatN w' w.heap.size w'.heap.size a r.length c x:=by
 obtain ⟨ao,b,o,c,e,h1,h2,h3,h4⟩:=h.is
 refine ⟨ao,c,e,b,o,r,rfl,h1,hI,h3,h4,?_⟩
 rcases h3.lt with e | e
 ·exact .inl e
 ·exact .inr ⟨h2,e⟩
theorem fAdd {w:World} {ao ao':Option Addr} {n c n' c':Nat} {x y:Int} (h:NatA w ao n c x) (h':NatA w ao' n' c' y) (hn:n<=1099511627776) (hn':n'<=1099511627776) :
  Calls Tryz.prog 182 #[.slice ao n c,.slice ao' n' c'] w fun e w'=>∃ a k d,e=.returned (.slice a k d)/\NatN w' w.heap.size w'.heap.size a k d (x + y)/\k<=n + n' + 1/\Below w.heap.size w w':=by
 obtain ⟨b,o,l,h1,h2,h3,h4,rfl⟩:=h.ex
 obtain ⟨b',o',l',h1',h2',h3',h4',rfl⟩:=h'.ex
 refine (add_any ao n c b o ao' n' c' b' o' l l' w h1 h1' h2 h2' hn hn' h3 h3' h4 h4').mono ?_
 rintro e w' ⟨v,r,rfl,hnw,hI,hlen,hB⟩
 obtain ⟨a,d,rfl,hO⟩:=newV_n hnw hI
 exact ⟨a,_,d,rfl,hO,hlen,hB⟩
theorem fMul {w:World} {ao ao':Option Addr} {n c n' c':Nat} {x y:Int} (h:NatA w ao n c x) (h':NatA w ao' n' c' y) (hn:n<=1099511627776) (hn':n'<=1099511627776) :
  Calls Tryz.prog 258 #[.slice ao n c,.slice ao' n' c'] w fun e w'=>∃ a k d,e=.returned (.slice a k d)/\NatN w' w.heap.size w'.heap.size a k d (x * y)/\k<=n + n'/\Below w.heap.size w w':=by
 obtain ⟨b,o,l,h1,h2,h3,h4,rfl⟩:=h.ex
 obtain ⟨b',o',l',h1',h2',h3',h4',rfl⟩:=h'.ex
 refine (mul_any ao n c b o ao' n' c' b' o' l l' w h1 h1' h2 h2' hn hn' h3 h3' h4 h4').mono ?_
 rintro e w' ⟨v,r,rfl,hnw,hI,hlen,hB⟩
 obtain ⟨a,d,rfl,hO⟩:=newV_n hnw hI
 exact ⟨a,_,d,rfl,hO,hlen,hB⟩
end Fo
end
section
open Go.RowKit Lim
theorem dCmp {w:World} {ao ao':Option Addr} {n c n' c':Nat} {x y:Int} (h:NatA w ao n c x) (h':NatA w ao' n' c' y) (hn:n<=1099511627776) (hn':n'<=1099511627776) :
  Calls Tryz.prog 103 #[.agg #[.slice ao n c],.agg #[.slice ao' n' c']] w fun e w'=>e=.returned (.int .i64 (sgn x y))/\Below w.heap.size w w':=by
 have B0:=below2 w (.cells #[.slice ao n c] 107) (.cells #[.slice ao' n' c'] 107)
 have h:=h.keep B0
 have h':=h'.keep B0
 go_enter Tryz.func103,Tryz.ntmps103
 go_wp2_with fail
 refine (nCmp h h' hn hn').mono ?_
 rintro e w1 ⟨rfl,hB⟩
 go_wp2
 go_ret
 exact ⟨rfl,joinB B0 hB⟩
theorem dTenTo {w:World} (n:Nat) (hn:n<=4096) :
  Calls Tryz.prog 332 #[.int .i64 n] w fun e w'=>∃ a k d,e=.returned (.slice a k d)/\NatO w' a k d (10 ^ n)/\k<=n + 2/\Below w.heap.size w w':=by
 go_enter Tryz.func332,Tryz.ntmps332
 go_wp2_with fail
 refine (nPow n hn).mono ?_
 rintro e w1 ⟨a,k,d,rfl,hO,hk,hB⟩
 go_wp2
 go_ret
 exact ⟨a,k,d,rfl,hO,hk,hB⟩
def U36:Int:=10 ^ 36
theorem dUnit {w:World}:Calls Tryz.prog 264 #[] w fun e w'=>∃ a k d,e=.returned (.slice a k d)/\NatO w' a k d U36/\k<=38/\Below w.heap.size w w':=by
 go_enter Tryz.func264,Tryz.ntmps264
 go_wp2_with fail
 refine (dTenTo 36 (by decide)).mono ?_
 rintro e w1 ⟨a,k,d,rfl,hO,hk,hB⟩
 go_wp2
 go_ret
 exact ⟨a,k,d,rfl,hO,hk,hB⟩
end
end Go.Proofs.YtopifdikfhffgaaGreat
