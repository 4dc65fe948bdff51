/- Several texts, joined: SdC, MgA, MgP. -/
import Derived.Test.YtjmkhdlhjnlbiaaGreatJgI
import Derived.Test.YtjmkhdlhjnlbiaaGreatJgk
import Derived.LoopN
namespace Go.Proofs.YtjmkhdlhjnlbiaaGreat
namespace Sd
open Go.RowKit Go.Lib Pg Lim Gl Kv Bk Pw
attribute [local go_sem] Oper.semAt_some
set_option maxRecDepth 100000
set_option linter.unusedSimpArgs false
set_option linter.unusedVariables false
set_option maxHeartbeats 2000000
theorem user_any {w : World} {x : Int} {r : Bool} (hr : decide (16 ≤ x) = r) : Calls Tryz.prog 70 #[.int .u64 x] w fun e w' => e = .returned (.bool r) ∧ Below w.heap.size w w' := by
  have BB := Below.refl w.heap.size w
  refine gc_enter (n := 5) Tryz.func70 rfl (by kernel_rfl) (by kernel_rfl) ?_
  refine gc_seq ?_
  refine gc_reg ?_
  refine t 2 (.bool false) ?_
  refine gl_nil ?_
  refine ge_then ?_
  refine gc_seq ?_
  refine gc_reg ?_
  refine t 3 (.int .u64 x) ?_
  by_cases c1 : (16 : Int) ≤ x
  · refine tq 4 (.bool (decide ((16 : Int) ≤ x))) (.bool true) (congrArg Value.bool (decide_eq_true c1)) ?_
    refine t 2 (.bool true) ?_
    refine gl_nil ?_
    refine ge_then ?_
    refine gc_ret ?_
    refine ge_ret (.bool true) (rs1 2 (by kernel_rfl) (by kernel_rfl)) ?_
    exact ⟨by rw [← hr]; simp; omega, BB⟩
  · refine tq 4 (.bool (decide ((16 : Int) ≤ x))) (.bool false) (congrArg Value.bool (decide_eq_false c1)) ?_
    refine t 2 (.bool false) ?_
    refine gl_nil ?_
    refine ge_then ?_
    refine gc_ret ?_
    refine ge_ret (.bool false) (rs1 2 (by kernel_rfl) (by kernel_rfl)) ?_
    exact ⟨by rw [← hr]; simp; omega, BB⟩
/-- whether params may be -/
def fit (x0 x1 x2 x3 x4 x5 x6 x7 x8 x9 : Int) : Bool := decide (1 ≤ x0 ∧ x0 ≤ 64 ∧ 1 ≤ x1 ∧ x1 ≤ 100000 ∧ 1 ≤ x2 ∧ x2 ≤ 16 ∧ x3 ≤ 10000 ∧ x4 ≤ 10000 ∧ x5 ≤ 10000 ∧ x6 ≤ 100000 ∧ x7 ≤ 100000 ∧ x8 ≤ 1000000000 ∧ 16 ≤ x9)
theorem fit_any {w : World} {x0 x1 x2 x3 x4 x5 x6 x7 x8 x9 : Int} : Calls Tryz.prog 43 #[.agg #[.int .u64 x0, .int .u64 x1, .int .u64 x2, .int .u64 x3, .int .u64 x4, .int .u64 x5, .int .u64 x6, .int .u64 x7, .int .u64 x8, .int .u64 x9]] w fun e w' => e = .returned (.bool (fit x0 x1 x2 x3 x4 x5 x6 x7 x8 x9)) ∧ Below w.heap.size w w' := by
  have BB := Below.refl w.heap.size w
  refine gc_enter (n := 66) Tryz.func43 rfl (by kernel_rfl) (by kernel_rfl) ?_
  refine gc_seq ?_
  refine gc_reg ?_
  refine ta 1 [.int .u64 x0, .int .u64 x1, .int .u64 x2, .int .u64 x3, .int .u64 x4, .int .u64 x5, .int .u64 x6, .int .u64 x7, .int .u64 x8, .int .u64 x9] 24 (pg) ?_
  intro v1 g2 Xg2 hg2 B
  replace BB := joinB BB B
  clear B
  refine t 2 (.bool false) ?_
  refine gl_nil ?_
  refine ge_then ?_
  refine gc_seq ?_
  refine gc_reg ?_
  refine t 3 (pg g2) ?_
  refine tl 4 (.int .u64 x0) Xg2 0 ?_
  by_cases c3 : (1 : Int) ≤ x0
  · refine tq 5 (.bool (decide ((1 : Int) ≤ x0))) (.bool true) (congrArg Value.bool (decide_eq_true c3)) ?_
    refine t 6 (.bool true) ?_
    refine t 7 (pg g2) ?_
    refine tl 8 (.int .u64 x0) Xg2 0 ?_
    by_cases c4 : (x0 : Int) ≤ 64
    · refine tq 9 (.bool (decide ((x0 : Int) ≤ 64))) (.bool true) (congrArg Value.bool (decide_eq_true c4)) ?_
      refine t 10 (.bool true) ?_
      refine t 11 (.bool true) ?_
      refine t 12 (pq g2 1) ?_
      refine tl 13 (.int .u64 x1) Xg2 1 ?_
      by_cases c5 : (1 : Int) ≤ x1
      · refine tq 14 (.bool (decide ((1 : Int) ≤ x1))) (.bool true) (congrArg Value.bool (decide_eq_true c5)) ?_
        refine t 15 (.bool true) ?_
        refine t 16 (.bool true) ?_
        refine t 17 (pq g2 1) ?_
        refine tl 18 (.int .u64 x1) Xg2 1 ?_
        by_cases c6 : (x1 : Int) ≤ 100000
        · refine tq 19 (.bool (decide ((x1 : Int) ≤ 100000))) (.bool true) (congrArg Value.bool (decide_eq_true c6)) ?_
          refine t 20 (.bool true) ?_
          refine t 21 (.bool true) ?_
          refine t 22 (pq g2 2) ?_
          refine tl 23 (.int .u64 x2) Xg2 2 ?_
          by_cases c7 : (1 : Int) ≤ x2
          · refine tq 24 (.bool (decide ((1 : Int) ≤ x2))) (.bool true) (congrArg Value.bool (decide_eq_true c7)) ?_
            refine t 25 (.bool true) ?_
            refine t 26 (.bool true) ?_
            refine t 27 (pq g2 2) ?_
            refine tl 28 (.int .u64 x2) Xg2 2 ?_
            by_cases c8 : (x2 : Int) ≤ 16
            · refine tq 29 (.bool (decide ((x2 : Int) ≤ 16))) (.bool true) (congrArg Value.bool (decide_eq_true c8)) ?_
              refine t 30 (.bool true) ?_
              refine t 31 (.bool true) ?_
              refine t 32 (pq g2 3) ?_
              refine tl 33 (.int .u64 x3) Xg2 3 ?_
              by_cases c9 : (x3 : Int) ≤ 10000
              · refine tq 34 (.bool (decide ((x3 : Int) ≤ 10000))) (.bool true) (congrArg Value.bool (decide_eq_true c9)) ?_
                refine t 35 (.bool true) ?_
                refine t 36 (.bool true) ?_
                refine t 37 (pq g2 4) ?_
                refine tl 38 (.int .u64 x4) Xg2 4 ?_
                by_cases c10 : (x4 : Int) ≤ 10000
                · refine tq 39 (.bool (decide ((x4 : Int) ≤ 10000))) (.bool true) (congrArg Value.bool (decide_eq_true c10)) ?_
                  refine t 40 (.bool true) ?_
                  refine t 41 (.bool true) ?_
                  refine t 42 (pq g2 5) ?_
                  refine tl 43 (.int .u64 x5) Xg2 5 ?_
                  by_cases c11 : (x5 : Int) ≤ 10000
                  · refine tq 44 (.bool (decide ((x5 : Int) ≤ 10000))) (.bool true) (congrArg Value.bool (decide_eq_true c11)) ?_
                    refine t 45 (.bool true) ?_
                    refine t 46 (.bool true) ?_
                    refine t 47 (pq g2 6) ?_
                    refine tl 48 (.int .u64 x6) Xg2 6 ?_
                    by_cases c12 : (x6 : Int) ≤ 100000
                    · refine tq 49 (.bool (decide ((x6 : Int) ≤ 100000))) (.bool true) (congrArg Value.bool (decide_eq_true c12)) ?_
                      refine t 50 (.bool true) ?_
                      refine t 51 (.bool true) ?_
                      refine t 52 (pq g2 7) ?_
                      refine tl 53 (.int .u64 x7) Xg2 7 ?_
                      by_cases c13 : (x7 : Int) ≤ 100000
                      · refine tq 54 (.bool (decide ((x7 : Int) ≤ 100000))) (.bool true) (congrArg Value.bool (decide_eq_true c13)) ?_
                        refine t 55 (.bool true) ?_
                        refine t 56 (.bool true) ?_
                        refine t 57 (pq g2 8) ?_
                        refine tl 58 (.int .u64 x8) Xg2 8 ?_
                        by_cases c14 : (x8 : Int) ≤ 1000000000
                        · refine tq 59 (.bool (decide ((x8 : Int) ≤ 1000000000))) (.bool true) (congrArg Value.bool (decide_eq_true c14)) ?_
                          refine t 60 (.bool true) ?_
                          refine t 61 (.bool true) ?_
                          refine t 62 (pq g2 9) ?_
                          refine tl 63 (.int .u64 x9) Xg2 9 ?_
                          by_cases c15 : 16 ≤ x9
                          · refine tc 64 70 #[.int .u64 x9] (user_any (decide_eq_true c15)) ?_
                            rintro _ v16 ⟨rfl, B⟩
                            refine ⟨_, rfl, ?_⟩
                            replace BB := joinB BB B
                            replace Xg2 := Xg2.keep B
                            clear B
                            refine t 65 (.bool true) ?_
                            refine t 2 (.bool true) ?_
                            refine gl_nil ?_
                            refine ge_then ?_
                            refine gc_ret ?_
                            refine ge_ret (.bool true) (rs1 2 (by kernel_rfl) (by kernel_rfl)) ?_
                            exact ⟨by rw [show fit x0 x1 x2 x3 x4 x5 x6 x7 x8 x9 = true from decide_eq_true ⟨by omega, by omega, by omega, by omega, by omega, by omega, by omega, by omega, by omega, by omega, by omega, by omega, by omega⟩], BB⟩
                          · refine tc 64 70 #[.int .u64 x9] (user_any (decide_eq_false c15)) ?_
                            rintro _ v17 ⟨rfl, B⟩
                            refine ⟨_, rfl, ?_⟩
                            replace BB := joinB BB B
                            replace Xg2 := Xg2.keep B
                            clear B
                            refine t 65 (.bool false) ?_
                            refine t 2 (.bool false) ?_
                            refine gl_nil ?_
                            refine ge_then ?_
                            refine gc_ret ?_
                            refine ge_ret (.bool false) (rs1 2 (by kernel_rfl) (by kernel_rfl)) ?_
                            exact ⟨by rw [show fit x0 x1 x2 x3 x4 x5 x6 x7 x8 x9 = false from decide_eq_false (fun h => by omega)], BB⟩
                        · refine tq 59 (.bool (decide ((x8 : Int) ≤ 1000000000))) (.bool false) (congrArg Value.bool (decide_eq_false c14)) ?_
                          refine t 60 (.bool false) ?_
                          refine t 61 (.bool false) ?_
                          refine tn 62 ?_
                          refine tn 63 ?_
                          refine tn 64 ?_
                          refine t 65 (.bool false) ?_
                          refine t 2 (.bool false) ?_
                          refine gl_nil ?_
                          refine ge_then ?_
                          refine gc_ret ?_
                          refine ge_ret (.bool false) (rs1 2 (by kernel_rfl) (by kernel_rfl)) ?_
                          exact ⟨by rw [show fit x0 x1 x2 x3 x4 x5 x6 x7 x8 x9 = false from decide_eq_false (fun h => by omega)], BB⟩
                      · refine tq 54 (.bool (decide ((x7 : Int) ≤ 100000))) (.bool false) (congrArg Value.bool (decide_eq_false c13)) ?_
                        refine t 55 (.bool false) ?_
                        refine t 56 (.bool false) ?_
                        refine tn 57 ?_
                        refine tn 58 ?_
                        refine tn 59 ?_
                        refine t 60 (.bool false) ?_
                        refine t 61 (.bool false) ?_
                        refine tn 62 ?_
                        refine tn 63 ?_
                        refine tn 64 ?_
                        refine t 65 (.bool false) ?_
                        refine t 2 (.bool false) ?_
                        refine gl_nil ?_
                        refine ge_then ?_
                        refine gc_ret ?_
                        refine ge_ret (.bool false) (rs1 2 (by kernel_rfl) (by kernel_rfl)) ?_
                        exact ⟨by rw [show fit x0 x1 x2 x3 x4 x5 x6 x7 x8 x9 = false from decide_eq_false (fun h => by omega)], BB⟩
                    · refine tq 49 (.bool (decide ((x6 : Int) ≤ 100000))) (.bool false) (congrArg Value.bool (decide_eq_false c12)) ?_
                      refine t 50 (.bool false) ?_
                      refine t 51 (.bool false) ?_
                      refine tn 52 ?_
                      refine tn 53 ?_
                      refine tn 54 ?_
                      refine t 55 (.bool false) ?_
                      refine t 56 (.bool false) ?_
                      refine tn 57 ?_
                      refine tn 58 ?_
                      refine tn 59 ?_
                      refine t 60 (.bool false) ?_
                      refine t 61 (.bool false) ?_
                      refine tn 62 ?_
                      refine tn 63 ?_
                      refine tn 64 ?_
                      refine t 65 (.bool false) ?_
                      refine t 2 (.bool false) ?_
                      refine gl_nil ?_
                      refine ge_then ?_
                      refine gc_ret ?_
                      refine ge_ret (.bool false) (rs1 2 (by kernel_rfl) (by kernel_rfl)) ?_
                      exact ⟨by rw [show fit x0 x1 x2 x3 x4 x5 x6 x7 x8 x9 = false from decide_eq_false (fun h => by omega)], BB⟩
                  · refine tq 44 (.bool (decide ((x5 : Int) ≤ 10000))) (.bool false) (congrArg Value.bool (decide_eq_false c11)) ?_
                    refine t 45 (.bool false) ?_
                    refine t 46 (.bool false) ?_
                    refine tn 47 ?_
                    refine tn 48 ?_
                    refine tn 49 ?_
                    refine t 50 (.bool false) ?_
                    refine t 51 (.bool false) ?_
                    refine tn 52 ?_
                    refine tn 53 ?_
                    refine tn 54 ?_
                    refine t 55 (.bool false) ?_
                    refine t 56 (.bool false) ?_
                    refine tn 57 ?_
                    refine tn 58 ?_
                    refine tn 59 ?_
                    refine t 60 (.bool false) ?_
                    refine t 61 (.bool false) ?_
                    refine tn 62 ?_
                    refine tn 63 ?_
                    refine tn 64 ?_
                    refine t 65 (.bool false) ?_
                    refine t 2 (.bool false) ?_
                    refine gl_nil ?_
                    refine ge_then ?_
                    refine gc_ret ?_
                    refine ge_ret (.bool false) (rs1 2 (by kernel_rfl) (by kernel_rfl)) ?_
                    exact ⟨by rw [show fit x0 x1 x2 x3 x4 x5 x6 x7 x8 x9 = false from decide_eq_false (fun h => by omega)], BB⟩
                · refine tq 39 (.bool (decide ((x4 : Int) ≤ 10000))) (.bool false) (congrArg Value.bool (decide_eq_false c10)) ?_
                  refine t 40 (.bool false) ?_
                  refine t 41 (.bool false) ?_
                  refine tn 42 ?_
                  refine tn 43 ?_
                  refine tn 44 ?_
                  refine t 45 (.bool false) ?_
                  refine t 46 (.bool false) ?_
                  refine tn 47 ?_
                  refine tn 48 ?_
                  refine tn 49 ?_
                  refine t 50 (.bool false) ?_
                  refine t 51 (.bool false) ?_
                  refine tn 52 ?_
                  refine tn 53 ?_
                  refine tn 54 ?_
                  refine t 55 (.bool false) ?_
                  refine t 56 (.bool false) ?_
                  refine tn 57 ?_
                  refine tn 58 ?_
                  refine tn 59 ?_
                  refine t 60 (.bool false) ?_
                  refine t 61 (.bool false) ?_
                  refine tn 62 ?_
                  refine tn 63 ?_
                  refine tn 64 ?_
                  refine t 65 (.bool false) ?_
                  refine t 2 (.bool false) ?_
                  refine gl_nil ?_
                  refine ge_then ?_
                  refine gc_ret ?_
                  refine ge_ret (.bool false) (rs1 2 (by kernel_rfl) (by kernel_rfl)) ?_
                  exact ⟨by rw [show fit x0 x1 x2 x3 x4 x5 x6 x7 x8 x9 = false from decide_eq_false (fun h => by omega)], BB⟩
              · refine tq 34 (.bool (decide ((x3 : Int) ≤ 10000))) (.bool false) (congrArg Value.bool (decide_eq_false c9)) ?_
                refine t 35 (.bool false) ?_
                refine t 36 (.bool false) ?_
                refine tn 37 ?_
                refine tn 38 ?_
                refine tn 39 ?_
                refine t 40 (.bool false) ?_
                refine t 41 (.bool false) ?_
                refine tn 42 ?_
                refine tn 43 ?_
                refine tn 44 ?_
                refine t 45 (.bool false) ?_
                refine t 46 (.bool false) ?_
                refine tn 47 ?_
                refine tn 48 ?_
                refine tn 49 ?_
                refine t 50 (.bool false) ?_
                refine t 51 (.bool false) ?_
                refine tn 52 ?_
                refine tn 53 ?_
                refine tn 54 ?_
                refine t 55 (.bool false) ?_
                refine t 56 (.bool false) ?_
                refine tn 57 ?_
                refine tn 58 ?_
                refine tn 59 ?_
                refine t 60 (.bool false) ?_
                refine t 61 (.bool false) ?_
                refine tn 62 ?_
                refine tn 63 ?_
                refine tn 64 ?_
                refine t 65 (.bool false) ?_
                refine t 2 (.bool false) ?_
                refine gl_nil ?_
                refine ge_then ?_
                refine gc_ret ?_
                refine ge_ret (.bool false) (rs1 2 (by kernel_rfl) (by kernel_rfl)) ?_
                exact ⟨by rw [show fit x0 x1 x2 x3 x4 x5 x6 x7 x8 x9 = false from decide_eq_false (fun h => by omega)], BB⟩
            · refine tq 29 (.bool (decide ((x2 : Int) ≤ 16))) (.bool false) (congrArg Value.bool (decide_eq_false c8)) ?_
              refine t 30 (.bool false) ?_
              refine t 31 (.bool false) ?_
              refine tn 32 ?_
              refine tn 33 ?_
              refine tn 34 ?_
              refine t 35 (.bool false) ?_
              refine t 36 (.bool false) ?_
              refine tn 37 ?_
              refine tn 38 ?_
              refine tn 39 ?_
              refine t 40 (.bool false) ?_
              refine t 41 (.bool false) ?_
              refine tn 42 ?_
              refine tn 43 ?_
              refine tn 44 ?_
              refine t 45 (.bool false) ?_
              refine t 46 (.bool false) ?_
              refine tn 47 ?_
              refine tn 48 ?_
              refine tn 49 ?_
              refine t 50 (.bool false) ?_
              refine t 51 (.bool false) ?_
              refine tn 52 ?_
              refine tn 53 ?_
              refine tn 54 ?_
              refine t 55 (.bool false) ?_
              refine t 56 (.bool false) ?_
              refine tn 57 ?_
              refine tn 58 ?_
              refine tn 59 ?_
              refine t 60 (.bool false) ?_
              refine t 61 (.bool false) ?_
              refine tn 62 ?_
              refine tn 63 ?_
              refine tn 64 ?_
              refine t 65 (.bool false) ?_
              refine t 2 (.bool false) ?_
              refine gl_nil ?_
              refine ge_then ?_
              refine gc_ret ?_
              refine ge_ret (.bool false) (rs1 2 (by kernel_rfl) (by kernel_rfl)) ?_
              exact ⟨by rw [show fit x0 x1 x2 x3 x4 x5 x6 x7 x8 x9 = false from decide_eq_false (fun h => by omega)], BB⟩
          · refine tq 24 (.bool (decide ((1 : Int) ≤ x2))) (.bool false) (congrArg Value.bool (decide_eq_false c7)) ?_
            refine t 25 (.bool false) ?_
            refine t 26 (.bool false) ?_
            refine tn 27 ?_
            refine tn 28 ?_
            refine tn 29 ?_
            refine t 30 (.bool false) ?_
            refine t 31 (.bool false) ?_
            refine tn 32 ?_
            refine tn 33 ?_
            refine tn 34 ?_
            refine t 35 (.bool false) ?_
            refine t 36 (.bool false) ?_
            refine tn 37 ?_
            refine tn 38 ?_
            refine tn 39 ?_
            refine t 40 (.bool false) ?_
            refine t 41 (.bool false) ?_
            refine tn 42 ?_
            refine tn 43 ?_
            refine tn 44 ?_
            refine t 45 (.bool false) ?_
            refine t 46 (.bool false) ?_
            refine tn 47 ?_
            refine tn 48 ?_
            refine tn 49 ?_
            refine t 50 (.bool false) ?_
            refine t 51 (.bool false) ?_
            refine tn 52 ?_
            refine tn 53 ?_
            refine tn 54 ?_
            refine t 55 (.bool false) ?_
            refine t 56 (.bool false) ?_
            refine tn 57 ?_
            refine tn 58 ?_
            refine tn 59 ?_
            refine t 60 (.bool false) ?_
            refine t 61 (.bool false) ?_
            refine tn 62 ?_
            refine tn 63 ?_
            refine tn 64 ?_
            refine t 65 (.bool false) ?_
            refine t 2 (.bool false) ?_
            refine gl_nil ?_
            refine ge_then ?_
            refine gc_ret ?_
            refine ge_ret (.bool false) (rs1 2 (by kernel_rfl) (by kernel_rfl)) ?_
            exact ⟨by rw [show fit x0 x1 x2 x3 x4 x5 x6 x7 x8 x9 = false from decide_eq_false (fun h => by omega)], BB⟩
        · refine tq 19 (.bool (decide ((x1 : Int) ≤ 100000))) (.bool false) (congrArg Value.bool (decide_eq_false c6)) ?_
          refine t 20 (.bool false) ?_
          refine t 21 (.bool false) ?_
          refine tn 22 ?_
          refine tn 23 ?_
          refine tn 24 ?_
          refine t 25 (.bool false) ?_
          refine t 26 (.bool false) ?_
          refine tn 27 ?_
          refine tn 28 ?_
          refine tn 29 ?_
          refine t 30 (.bool false) ?_
          refine t 31 (.bool false) ?_
          refine tn 32 ?_
          refine tn 33 ?_
          refine tn 34 ?_
          refine t 35 (.bool false) ?_
          refine t 36 (.bool false) ?_
          refine tn 37 ?_
          refine tn 38 ?_
          refine tn 39 ?_
          refine t 40 (.bool false) ?_
          refine t 41 (.bool false) ?_
          refine tn 42 ?_
          refine tn 43 ?_
          refine tn 44 ?_
          refine t 45 (.bool false) ?_
          refine t 46 (.bool false) ?_
          refine tn 47 ?_
          refine tn 48 ?_
          refine tn 49 ?_
          refine t 50 (.bool false) ?_
          refine t 51 (.bool false) ?_
          refine tn 52 ?_
          refine tn 53 ?_
          refine tn 54 ?_
          refine t 55 (.bool false) ?_
          refine t 56 (.bool false) ?_
          refine tn 57 ?_
          refine tn 58 ?_
          refine tn 59 ?_
          refine t 60 (.bool false) ?_
          refine t 61 (.bool false) ?_
          refine tn 62 ?_
          refine tn 63 ?_
          refine tn 64 ?_
          refine t 65 (.bool false) ?_
          refine t 2 (.bool false) ?_
          refine gl_nil ?_
          refine ge_then ?_
          refine gc_ret ?_
          refine ge_ret (.bool false) (rs1 2 (by kernel_rfl) (by kernel_rfl)) ?_
          exact ⟨by rw [show fit x0 x1 x2 x3 x4 x5 x6 x7 x8 x9 = false from decide_eq_false (fun h => by omega)], BB⟩
      · refine tq 14 (.bool (decide ((1 : Int) ≤ x1))) (.bool false) (congrArg Value.bool (decide_eq_false c5)) ?_
        refine t 15 (.bool false) ?_
        refine t 16 (.bool false) ?_
        refine tn 17 ?_
        refine tn 18 ?_
        refine tn 19 ?_
        refine t 20 (.bool false) ?_
        refine t 21 (.bool false) ?_
        refine tn 22 ?_
        refine tn 23 ?_
        refine tn 24 ?_
        refine t 25 (.bool false) ?_
        refine t 26 (.bool false) ?_
        refine tn 27 ?_
        refine tn 28 ?_
        refine tn 29 ?_
        refine t 30 (.bool false) ?_
        refine t 31 (.bool false) ?_
        refine tn 32 ?_
        refine tn 33 ?_
        refine tn 34 ?_
        refine t 35 (.bool false) ?_
        refine t 36 (.bool false) ?_
        refine tn 37 ?_
        refine tn 38 ?_
        refine tn 39 ?_
        refine t 40 (.bool false) ?_
        refine t 41 (.bool false) ?_
        refine tn 42 ?_
        refine tn 43 ?_
        refine tn 44 ?_
        refine t 45 (.bool false) ?_
        refine t 46 (.bool false) ?_
        refine tn 47 ?_
        refine tn 48 ?_
        refine tn 49 ?_
        refine t 50 (.bool false) ?_
        refine t 51 (.bool false) ?_
        refine tn 52 ?_
        refine tn 53 ?_
        refine tn 54 ?_
        refine t 55 (.bool false) ?_
        refine t 56 (.bool false) ?_
        refine tn 57 ?_
        refine tn 58 ?_
        refine tn 59 ?_
        refine t 60 (.bool false) ?_
        refine t 61 (.bool false) ?_
        refine tn 62 ?_
        refine tn 63 ?_
        refine tn 64 ?_
        refine t 65 (.bool false) ?_
        refine t 2 (.bool false) ?_
        refine gl_nil ?_
        refine ge_then ?_
        refine gc_ret ?_
        refine ge_ret (.bool false) (rs1 2 (by kernel_rfl) (by kernel_rfl)) ?_
        exact ⟨by rw [show fit x0 x1 x2 x3 x4 x5 x6 x7 x8 x9 = false from decide_eq_false (fun h => by omega)], BB⟩
    · refine tq 9 (.bool (decide ((x0 : Int) ≤ 64))) (.bool false) (congrArg Value.bool (decide_eq_false c4)) ?_
      refine t 10 (.bool false) ?_
      refine t 11 (.bool false) ?_
      refine tn 12 ?_
      refine tn 13 ?_
      refine tn 14 ?_
      refine t 15 (.bool false) ?_
      refine t 16 (.bool false) ?_
      refine tn 17 ?_
      refine tn 18 ?_
      refine tn 19 ?_
      refine t 20 (.bool false) ?_
      refine t 21 (.bool false) ?_
      refine tn 22 ?_
      refine tn 23 ?_
      refine tn 24 ?_
      refine t 25 (.bool false) ?_
      refine t 26 (.bool false) ?_
      refine tn 27 ?_
      refine tn 28 ?_
      refine tn 29 ?_
      refine t 30 (.bool false) ?_
      refine t 31 (.bool false) ?_
      refine tn 32 ?_
      refine tn 33 ?_
      refine tn 34 ?_
      refine t 35 (.bool false) ?_
      refine t 36 (.bool false) ?_
      refine tn 37 ?_
      refine tn 38 ?_
      refine tn 39 ?_
      refine t 40 (.bool false) ?_
      refine t 41 (.bool false) ?_
      refine tn 42 ?_
      refine tn 43 ?_
      refine tn 44 ?_
      refine t 45 (.bool false) ?_
      refine t 46 (.bool false) ?_
      refine tn 47 ?_
      refine tn 48 ?_
      refine tn 49 ?_
      refine t 50 (.bool false) ?_
      refine t 51 (.bool false) ?_
      refine tn 52 ?_
      refine tn 53 ?_
      refine tn 54 ?_
      refine t 55 (.bool false) ?_
      refine t 56 (.bool false) ?_
      refine tn 57 ?_
      refine tn 58 ?_
      refine tn 59 ?_
      refine t 60 (.bool false) ?_
      refine t 61 (.bool false) ?_
      refine tn 62 ?_
      refine tn 63 ?_
      refine tn 64 ?_
      refine t 65 (.bool false) ?_
      refine t 2 (.bool false) ?_
      refine gl_nil ?_
      refine ge_then ?_
      refine gc_ret ?_
      refine ge_ret (.bool false) (rs1 2 (by kernel_rfl) (by kernel_rfl)) ?_
      exact ⟨by rw [show fit x0 x1 x2 x3 x4 x5 x6 x7 x8 x9 = false from decide_eq_false (fun h => by omega)], BB⟩
  · refine tq 5 (.bool (decide ((1 : Int) ≤ x0))) (.bool false) (congrArg Value.bool (decide_eq_false c3)) ?_
    refine t 6 (.bool false) ?_
    refine tn 7 ?_
    refine tn 8 ?_
    refine tn 9 ?_
    refine t 10 (.bool false) ?_
    refine t 11 (.bool false) ?_
    refine tn 12 ?_
    refine tn 13 ?_
    refine tn 14 ?_
    refine t 15 (.bool false) ?_
    refine t 16 (.bool false) ?_
    refine tn 17 ?_
    refine tn 18 ?_
    refine tn 19 ?_
    refine t 20 (.bool false) ?_
    refine t 21 (.bool false) ?_
    refine tn 22 ?_
    refine tn 23 ?_
    refine tn 24 ?_
    refine t 25 (.bool false) ?_
    refine t 26 (.bool false) ?_
    refine tn 27 ?_
    refine tn 28 ?_
    refine tn 29 ?_
    refine t 30 (.bool false) ?_
    refine t 31 (.bool false) ?_
    refine tn 32 ?_
    refine tn 33 ?_
    refine tn 34 ?_
    refine t 35 (.bool false) ?_
    refine t 36 (.bool false) ?_
    refine tn 37 ?_
    refine tn 38 ?_
    refine tn 39 ?_
    refine t 40 (.bool false) ?_
    refine t 41 (.bool false) ?_
    refine tn 42 ?_
    refine tn 43 ?_
    refine tn 44 ?_
    refine t 45 (.bool false) ?_
    refine t 46 (.bool false) ?_
    refine tn 47 ?_
    refine tn 48 ?_
    refine tn 49 ?_
    refine t 50 (.bool false) ?_
    refine t 51 (.bool false) ?_
    refine tn 52 ?_
    refine tn 53 ?_
    refine tn 54 ?_
    refine t 55 (.bool false) ?_
    refine t 56 (.bool false) ?_
    refine tn 57 ?_
    refine tn 58 ?_
    refine tn 59 ?_
    refine t 60 (.bool false) ?_
    refine t 61 (.bool false) ?_
    refine tn 62 ?_
    refine tn 63 ?_
    refine tn 64 ?_
    refine t 65 (.bool false) ?_
    refine t 2 (.bool false) ?_
    refine gl_nil ?_
    refine ge_then ?_
    refine gc_ret ?_
    refine ge_ret (.bool false) (rs1 2 (by kernel_rfl) (by kernel_rfl)) ?_
    exact ⟨by rw [show fit x0 x1 x2 x3 x4 x5 x6 x7 x8 x9 = false from decide_eq_false (fun h => by omega)], BB⟩
theorem gc_rds {P : Program} {n : Nat} {ds : List Deferred} {l : Fr} {w : World} {Q : Exit → Act → World → Prop} {c : Code} (k : Nat) (h : GC P n ds c (Exit.then (Code.rounds P c Q k) Q) l w) : GC P n ds (Code.loop c) Q l w := ⟨fun a r => wp_loop_rounds (k + 1) (h.out a r)⟩
theorem ge_rd {P : Program} {n : Nat} {ds : List Deferred} {l : Fr} {w : World} {Q Q' : Exit → Act → World → Prop} {c : Code} {k : Nat} (h : GC P n ds c (Exit.then (Code.rounds P c Q k) Q) l w) : GE n ds (Exit.then (Code.rounds P c Q (k + 1)) Q') .normal l w := ⟨fun a r => h.out a r⟩
theorem ua_nil {w : World} {B : Nat} {v : Value} (h : UA w B v []) : ∃ a c, v = .slice a 0 c := by
  rcases h.ex with ⟨rfl, _⟩ | ⟨b, c, rfl, _⟩
  · exact ⟨_, _, rfl⟩
  · exact ⟨_, _, rfl⟩
theorem nopre {E : Ents} {m : Int} (h : E.filter (fun x => decide ([m] <+: x.1)) = []) : ∀ x ∈ E, ¬ [m] <+: x.1 := fun x hx hp => by
  have : x ∈ E.filter (fun x => decide ([m] <+: x.1)) := List.mem_filter.2 ⟨hx, decide_eq_true hp⟩
  rw [h] at this
  cases this
theorem topS {B : Nat} {w : World} {K : Nat → Prop} {g : Nat} {E : Ents} {n N : Nat} (P : Bare E) (h : Sx B w K g E [] n N) (hn : n ≤ 1000000) (hN : N ≤ 1000) : Calls Tryz.prog 87 #[pg g, .int .i64 1] w fun e w' => ∃ a c, e = .returned (.slice a 0 c) ∧ Sx B w' K g E [] (n + 1) N ∧ Chg (· = g) w w' := by
  have e0 : pks 10 105 E = [] := by unfold pks; rw [P.no 105 (by decide)]; rfl
  refine (top_any_sa (m := 1) h.sa (by decide) (by decide) (fun x hx hp => absurd hp (nopre (P.no 105 (by decide)) x hx)) (by omega) (by omega)).mono ?_
  rintro e w' ⟨v, j, rfl, U, hj, S, C⟩
  rw [e0] at U hj
  obtain ⟨a, c, rfl⟩ := ua_nil U
  simp at hj
  subst hj
  exact ⟨a, c, rfl, ⟨S, Nat.le_trans h.lo C.size, h.kb⟩, C⟩
theorem bondedS {B : Nat} {w : World} {K : Nat → Prop} {g : Nat} {E : Ents} {n N : Nat} (P : Bare E) (h : Sx B w K g E [] n N) (hn : n ≤ 1000000) (hN : N ≤ 1000) : Calls Tryz.prog 86 #[pg g] w fun e w' => ∃ a c, e = .returned (.slice a 0 c) ∧ Sx B w' K g E [] (n + 1) N ∧ Chg (· = g) w w' := by
  have e0 : pks 11 98 E = [] := by unfold pks; rw [P.no 98 (by decide)]; rfl
  refine (bonded_any_sa h.sa (fun x hx hp => absurd hp (nopre (P.no 98 (by decide)) x hx)) (by omega) (by omega)).mono ?_
  rintro e w' ⟨v, j, rfl, U, hj, S, C⟩
  rw [e0] at U hj
  obtain ⟨a, c, rfl⟩ := ua_nil U
  simp at hj
  subst hj
  exact ⟨a, c, rfl, ⟨S, Nat.le_trans h.lo C.size, h.kb⟩, C⟩
end Sd
end Go.Proofs.YtjmkhdlhjnlbiaaGreat

namespace Go.Proofs.YtjmkhdlhjnlbiaaGreat
namespace Mg
open Go.RowKit Go.Lib Pg Lim Gl
/-- which of A, B, N a kind uses; whether it is one -/
def uA (k : Int) : Bool := decide (1 ≤ k ∧ k ≤ 6) || decide (k = 10)
def uB (k : Int) : Bool := decide (k = 5)
def uN (k : Int) : Bool := decide (1 ≤ k ∧ k ≤ 5) || decide (9 ≤ k ∧ k ≤ 10)
def uK (k : Int) : Bool := decide (1 ≤ k ∧ k ≤ 10)
structure It where
  k : Int
  s : Int
  q : Int
  f : Int
  m : Int
  a : Int
  b : Int
  n : Int
  z : Int
  v : Int
  h : Int
def It.zero : It := ⟨0, 0, 0, 0, 0, 0, 0, 0, 0, 0, 0⟩
def It.val (i : It) : Value := .agg #[.int .i64 i.k, .int .u64 i.s, .int .u64 i.q, .int .u64 i.f, .int .i64 i.m, .int .u64 i.a, .int .u64 i.b, .int .u64 i.n, .int .i64 i.z, .int .u64 i.v, .int .u64 i.h]
def okM (m a b n : Int) : Bool := uK m && ((uA m || decide (a = 0)) && ((uB m || decide (b = 0)) && (uN m || decide (n = 0))))
abbrev noF (i : It) : Prop := i.z = 0 ∧ i.v = 0 ∧ i.h = 0
abbrev noT (i : It) : Prop := i.s = 0 ∧ i.q = 0 ∧ i.f = 0 ∧ i.m = 0 ∧ i.a = 0 ∧ i.b = 0 ∧ i.n = 0
abbrev Ok (i : It) : Prop := (i.k = 1 ∧ noF i ∧ okM i.m i.a i.b i.n = true) ∨ (i.k = 2 ∧ noT i ∧ 0 ≤ i.z ∧ i.z ≤ 255)
def opt (c : Bool) (x : Int) : List Int := if c = true then be 8 x else []
def bsM (m a b n : Int) : List Int := be 1 m ++ (opt (uA m) a ++ (opt (uB m) b ++ opt (uN m) n))
def bs (i : It) : List Int := if i.k = 1 then be 1 84 ++ (be 8 i.s ++ (be 8 i.q ++ (be 8 i.f ++ bsM i.m i.a i.b i.n))) else be 1 70 ++ (be 1 i.z ++ (be 8 i.v ++ be 8 i.h))
/-- a number in the words of its fields -/
def In8 (x : Int) : Prop := 0 ≤ x ∧ x < 18446744073709551616
structure It.Rng (i : It) : Prop where
  s : In8 i.s
  q : In8 i.q
  f : In8 i.f
  a : In8 i.a
  b : In8 i.b
  n : In8 i.n
  v : In8 i.v
  h : In8 i.h
abbrev St := Int × List Int
def rU (m : Nat) (s : St) : Int × St := (rdV 0 (pFix m s.2) s.1, rdE (pFix m s.2) s.1, rdL (pFix m s.2) s.1 s.2)
def rQ (c : Bool) (s : St) : Int × St := if c = true then rU 8 s else (0, s)
def rM (s : St) : (Int × Int × Int × Int) × St :=
  let p := rU 1 s
  let A := rQ (uA p.1) p.2
  let B := rQ (uB p.1) A.2
  let N := rQ (uN p.1) B.2
  ((p.1, A.1, B.1, N.1), N.2)
def rT (s : St) : It × St :=
  let a := rU 8 s
  let b := rU 8 a.2
  let c := rU 8 b.2
  let m := rM c.2
  (⟨1, a.1, b.1, c.1, m.1.1, m.1.2.1, m.1.2.2.1, m.1.2.2.2, 0, 0, 0⟩, m.2)
def rF (s : St) : It × St :=
  let a := rU 1 s
  let b := rU 8 a.2
  let c := rU 8 b.2
  (⟨2, 0, 0, 0, 0, 0, 0, 0, a.1, b.1, c.1⟩, c.2)
def rI (s : St) : It × St :=
  let p := rU 1 s
  if p.1 = 84 then rT p.2 else if p.1 = 70 then rF p.2 else (It.zero, p.2)
/-- what Decode answers -/
def dI (l : List Int) : It × Int :=
  if 1024 < l.length then (It.zero, 171)
  else if endE (rI (0, l)).2.1 (rI (0, l)).2.2 = 0 ∧ Ok (rI (0, l)).1 then ((rI (0, l)).1, 0) else (It.zero, 170)
theorem rU_fwd (m : Nat) (x : Int) (r : List Int) (h0 : 0 ≤ x) (h1 : x < 256 ^ m) : rU m (0, be m x ++ r) = (x, 0, r) := by
  have hl := be_length m x
  have hp : pFix m (be m x ++ r) = .inr (x, m) := by
    unfold pFix
    rw [if_pos (by rw [List.length_append]; omega), List.take_left' hl, be_val m h0, Int.emod_eq_of_lt h0 h1]
  simp only [rU, hp, rdV, rdE, rdL, if_pos]
  rw [List.drop_left' hl]
theorem rU_inv {m : Nat} {s : St} {x : Int} {s' : St} (e : rU m s = (x, s')) (ho : Octets s.2) : (Octets s'.2 ∧ 0 ≤ x ∧ x < 256 ^ m) ∧ (s'.1 = 0 → s.1 = 0 ∧ s.2 = be m x ++ s'.2) := by
  obtain ⟨err, l⟩ := s
  have hp : (0 : Int) < 256 ^ m := Int.pow_pos (by decide)
  simp only [rU, Prod.mk.injEq] at e
  obtain ⟨e1, e2⟩ := e
  subst e2
  simp only at e1 ⊢
  by_cases he : err = 0
  · subst he
    by_cases hm : m ≤ l.length
    · have hq : pFix m l = .inr (bval (l.take m), m) := by unfold pFix; rw [if_pos hm]
      simp only [hq, rdV, rdE, rdL, if_pos] at e1 ⊢
      subst e1
      have hot : Octets (l.take m) := fun y hy => ho y (List.mem_of_mem_take hy)
      refine ⟨⟨fun y hy => ho y (List.mem_of_mem_drop hy), ?_⟩, fun _ => ⟨trivial, ?_⟩⟩
      · have h := be_take ho hm
        have h2 := (bval_bound hot).1
        have h3 := be_val m h2
        rw [h] at h3
        have h4 := Int.emod_lt_of_pos (bval (l.take m)) hp
        rw [← h3] at h4
        exact ⟨h2, h4⟩
      · rw [be_take ho hm, List.take_append_drop]
    · have hq : pFix m l = .inl 40 := by unfold pFix; rw [if_neg hm]
      simp only [hq, rdV, rdE, rdL, if_pos] at e1 ⊢
      subst e1
      exact ⟨⟨ho, Int.le_refl _, hp⟩, fun h => absurd h (by decide)⟩
  · rw [rdV_bad he] at e1
    subst e1
    rw [rdE_bad he, rdL_bad he]
    exact ⟨⟨ho, Int.le_refl _, hp⟩, fun h => absurd h he⟩
end Mg
end Go.Proofs.YtjmkhdlhjnlbiaaGreat

namespace Go.Proofs.YtjmkhdlhjnlbiaaGreat
namespace Mg
open Go.RowKit Go.Lib Pg Lim Gl
theorem opt_len (c : Bool) (x : Int) : (opt c x).length ≤ 8 := by
  unfold opt
  split
  · rw [be_length]; exact Nat.le_refl _
  · exact Nat.zero_le _
theorem bs_len (i : It) : 18 ≤ (bs i).length ∧ (bs i).length ≤ 50 := by
  unfold bs
  split
  · have h1 := opt_len (uA i.m) i.a
    have h2 := opt_len (uB i.m) i.b
    have h3 := opt_len (uN i.m) i.n
    simp only [bsM, List.length_append, be_length]
    omega
  · simp only [List.length_append, be_length]
    omega
theorem opt_oct (c : Bool) (x : Int) : Octets (opt c x) := by
  unfold opt
  split
  · exact be_oct _ _
  · exact fun y hy => absurd hy List.not_mem_nil
theorem oct_app {a b : List Int} (ha : Octets a) (hb : Octets b) : Octets (a ++ b) := fun y hy => (List.mem_append.1 hy).elim (ha y) (hb y)
theorem bs_oct (i : It) : Octets (bs i) := by
  unfold bs bsM
  split
  · exact oct_app (be_oct _ _) (oct_app (be_oct _ _) (oct_app (be_oct _ _) (oct_app (be_oct _ _) (oct_app (be_oct _ _) (oct_app (opt_oct _ _) (oct_app (opt_oct _ _) (opt_oct _ _)))))))
  · exact oct_app (be_oct _ _) (oct_app (be_oct _ _) (oct_app (be_oct _ _) (be_oct _ _)))
theorem p8 : (256 : Int) ^ 8 = 18446744073709551616 := by decide
theorem p1 : (256 : Int) ^ 1 = 256 := by decide
theorem r8 {x : Int} {r : List Int} (h : In8 x) : rU 8 (0, be 8 x ++ r) = (x, 0, r) := rU_fwd 8 x r h.1 (by rw [p8]; exact h.2)
theorem r1 {x : Int} {r : List Int} (h0 : 0 ≤ x) (h1 : x ≤ 255) : rU 1 (0, be 1 x ++ r) = (x, 0, r) := rU_fwd 1 x r h0 (by rw [p1]; omega)
theorem rq {c : Bool} {x : Int} {r : List Int} (h : In8 x) (hc : c = true ∨ x = 0) : rQ c (0, opt c x ++ r) = (x, 0, r) := by
  unfold rQ opt
  cases c with
  | true => rw [if_pos rfl, if_pos rfl]; exact r8 h
  | false =>
    rcases hc with e | e
    · cases e
    · subst e; simp
theorem uK_rng {m : Int} (h : uK m = true) : 1 ≤ m ∧ m ≤ 10 := by simpa [uK] using h
theorem okM_is {m a b n : Int} (h : okM m a b n = true) : uK m = true ∧ (uA m = true ∨ a = 0) ∧ (uB m = true ∨ b = 0) ∧ (uN m = true ∨ n = 0) := by
  simpa [okM] using h
theorem rM_fwd {m a b n : Int} {r : List Int} (h : okM m a b n = true) (ha : In8 a) (hb : In8 b) (hn : In8 n) : rM (0, bsM m a b n ++ r) = ((m, a, b, n), 0, r) := by
  obtain ⟨h0, h1, h2, h3⟩ := okM_is h
  have hk := uK_rng h0
  simp only [rM, bsM, List.append_assoc]
  rw [r1 (by omega) (by omega)]
  simp only
  rw [rq ha h1]
  simp only
  rw [rq hb h2]
  simp only
  rw [rq hn h3]
theorem rI_fwd {i : It} {r : List Int} (h : Ok i) (g : i.Rng) : rI (0, bs i ++ r) = (i, 0, r) := by
  obtain ⟨k, s, q, f, m, a, b, n, z, v, y⟩ := i
  rcases h with ⟨h0, ⟨h1, h2, h3⟩, h4⟩ | ⟨h0, ⟨h1, h2, h3, h4, h5, h6, h7⟩, h8, h9⟩
  · simp only at h0 h1 h2 h3 h4
    subst h0 h1 h2 h3
    simp only [rI, bs, if_pos, List.append_assoc]
    rw [r1 (by decide) (by decide)]
    simp only [if_pos, rT]
    rw [r8 g.s]
    simp only
    rw [r8 g.q]
    simp only
    rw [r8 g.f]
    simp only
    rw [rM_fwd h4 g.a g.b g.n]
  · simp only at h0 h1 h2 h3 h4 h5 h6 h7 h8 h9
    subst h0 h1 h2 h3 h4 h5 h6 h7
    have eb : bs ⟨2, 0, 0, 0, 0, 0, 0, 0, z, v, y⟩ ++ r = be 1 70 ++ (be 1 z ++ (be 8 v ++ (be 8 y ++ r))) := by
      show (if (2 : Int) = 1 then _ else _) ++ r = _
      rw [if_neg (by decide)]
      simp only [List.append_assoc]
    rw [eb]
    unfold rI
    rw [r1 (by decide) (by decide)]
    simp only
    rw [if_neg (by decide), if_pos trivial]
    simp only [rF]
    rw [r1 h8 h9]
    simp only
    rw [r8 g.v]
    simp only
    rw [r8 g.h]
theorem i8 {s s' : St} {x : Int} (e : rU 8 s = (x, s')) (ho : Octets s.2) : (Octets s'.2 ∧ In8 x) ∧ (s'.1 = 0 → s.1 = 0 ∧ s.2 = be 8 x ++ s'.2) := by
  have h := rU_inv e ho
  rw [p8] at h
  exact h
theorem i1 {s s' : St} {x : Int} (e : rU 1 s = (x, s')) (ho : Octets s.2) : (Octets s'.2 ∧ 0 ≤ x ∧ x < 256) ∧ (s'.1 = 0 → s.1 = 0 ∧ s.2 = be 1 x ++ s'.2) := by
  have h := rU_inv e ho
  rw [p1] at h
  exact h
theorem iq {c : Bool} {s s' : St} {x : Int} (e : rQ c s = (x, s')) (ho : Octets s.2) : (Octets s'.2 ∧ In8 x) ∧ (s'.1 = 0 → s.1 = 0 ∧ s.2 = opt c x ++ s'.2) := by
  unfold rQ at e
  unfold opt
  cases c with
  | true => rw [if_pos rfl] at e; rw [if_pos rfl]; exact i8 e ho
  | false =>
    simp only [Bool.false_eq_true, if_false, Prod.mk.injEq] at e
    obtain ⟨e1, e2⟩ := e
    subst e1 e2
    exact ⟨⟨ho, by decide, by decide⟩, fun h => ⟨h, by simp⟩⟩
theorem iM {s s' : St} {m a b n : Int} (e : rM s = ((m, a, b, n), s')) (ho : Octets s.2) : (Octets s'.2 ∧ In8 a ∧ In8 b ∧ In8 n) ∧ (s'.1 = 0 → s.1 = 0 ∧ s.2 = bsM m a b n ++ s'.2) := by
  obtain ⟨x0, s0⟩ : ∃ x0, x0 = rU 1 s := ⟨_, rfl⟩
  obtain ⟨k, t0⟩ := x0
  obtain ⟨x1, s1⟩ : ∃ x1, x1 = rQ (uA k) t0 := ⟨_, rfl⟩
  obtain ⟨y1, t1⟩ := x1
  obtain ⟨x2, s2⟩ : ∃ x2, x2 = rQ (uB k) t1 := ⟨_, rfl⟩
  obtain ⟨y2, t2⟩ := x2
  obtain ⟨x3, s3⟩ : ∃ x3, x3 = rQ (uN k) t2 := ⟨_, rfl⟩
  obtain ⟨y3, t3⟩ := x3
  simp only [rM, ← s0, ← s1, ← s2, ← s3, Prod.mk.injEq] at e
  obtain ⟨⟨rfl, rfl, rfl, rfl⟩, rfl⟩ := e
  have h0 := i1 s0.symm ho
  have h1 := iq s1.symm h0.1.1
  have h2 := iq s2.symm h1.1.1
  have h3 := iq s3.symm h2.1.1
  refine ⟨⟨h3.1.1, h1.1.2, h2.1.2, h3.1.2⟩, fun z => ?_⟩
  obtain ⟨z3, e3⟩ := h3.2 z
  obtain ⟨z2, e2⟩ := h2.2 z3
  obtain ⟨z1, e1⟩ := h1.2 z2
  obtain ⟨z0, e0⟩ := h0.2 z1
  refine ⟨z0, ?_⟩
  rw [e0, e1, e2, e3]
  simp only [bsM, List.append_assoc]
theorem rng0 : In8 0 := ⟨by decide, by decide⟩
theorem iI {l : List Int} {i : It} {s' : St} (e : rI (0, l) = (i, s')) (ho : Octets l) (hk : Ok i) (hz : s'.1 = 0) : i.Rng ∧ l = bs i ++ s'.2 := by
  obtain ⟨x0, s0⟩ : ∃ x0, x0 = rU 1 (0, l) := ⟨_, rfl⟩
  obtain ⟨k, t0⟩ := x0
  have h0 := i1 s0.symm ho
  simp only [rI, ← s0] at e
  split at e
  · rename_i ek
    obtain ⟨x1, s1⟩ : ∃ x1, x1 = rU 8 t0 := ⟨_, rfl⟩
    obtain ⟨y1, t1⟩ := x1
    obtain ⟨x2, s2⟩ : ∃ x2, x2 = rU 8 t1 := ⟨_, rfl⟩
    obtain ⟨y2, t2⟩ := x2
    obtain ⟨x3, s3⟩ : ∃ x3, x3 = rU 8 t2 := ⟨_, rfl⟩
    obtain ⟨y3, t3⟩ := x3
    obtain ⟨x4, s4⟩ : ∃ x4, x4 = rM t3 := ⟨_, rfl⟩
    obtain ⟨⟨m, a, b, n⟩, t4⟩ := x4
    simp only [rT, ← s1, ← s2, ← s3, ← s4, Prod.mk.injEq] at e
    obtain ⟨rfl, rfl⟩ := e
    have h1 := i8 s1.symm h0.1.1
    have h2 := i8 s2.symm h1.1.1
    have h3 := i8 s3.symm h2.1.1
    have h4 := iM s4.symm h3.1.1
    obtain ⟨z4, e4⟩ := h4.2 hz
    obtain ⟨z3, e3⟩ := h3.2 z4
    obtain ⟨z2, e2⟩ := h2.2 z3
    obtain ⟨z1, e1⟩ := h1.2 z2
    obtain ⟨z0, e0⟩ := h0.2 z1
    refine ⟨⟨h1.1.2, h2.1.2, h3.1.2, h4.1.2.1, h4.1.2.2.1, h4.1.2.2.2, rng0, rng0⟩, ?_⟩
    simp only at e0
    rw [e0, e1, e2, e3, e4, ek]
    simp only [bs, if_pos, List.append_assoc]
  · split at e
    · rename_i ek
      obtain ⟨x1, s1⟩ : ∃ x1, x1 = rU 1 t0 := ⟨_, rfl⟩
      obtain ⟨y1, t1⟩ := x1
      obtain ⟨x2, s2⟩ : ∃ x2, x2 = rU 8 t1 := ⟨_, rfl⟩
      obtain ⟨y2, t2⟩ := x2
      obtain ⟨x3, s3⟩ : ∃ x3, x3 = rU 8 t2 := ⟨_, rfl⟩
      obtain ⟨y3, t3⟩ := x3
      simp only [rF, ← s1, ← s2, ← s3, Prod.mk.injEq] at e
      obtain ⟨rfl, rfl⟩ := e
      have h1 := i1 s1.symm h0.1.1
      have h2 := i8 s2.symm h1.1.1
      have h3 := i8 s3.symm h2.1.1
      obtain ⟨z3, e3⟩ := h3.2 hz
      obtain ⟨z2, e2⟩ := h2.2 z3
      obtain ⟨z1, e1⟩ := h1.2 z2
      obtain ⟨z0, e0⟩ := h0.2 z1
      refine ⟨⟨rng0, rng0, rng0, rng0, rng0, rng0, h2.1.2, h3.1.2⟩, ?_⟩
      simp only at e0
      rw [e0, e1, e2, e3, ek]
      show _ = (if (2 : Int) = 1 then _ else _) ++ _
      rw [if_neg (by decide)]
      simp only [List.append_assoc]
    · simp only [Prod.mk.injEq] at e
      obtain ⟨rfl, rfl⟩ := e
      exact absurd hk (by decide)
theorem endE_0 {s : St} (h : endE s.1 s.2 = 0) : s = (0, []) := by
  obtain ⟨e, l⟩ := s
  simp only [endE] at h
  split at h
  · rename_i he
    split at h
    · rename_i hl
      rw [he, List.length_eq_zero_iff.1 hl]
    · exact absurd h (by decide)
  · rename_i he; exact absurd h he
theorem dI_bad {l : List Int} (h : (dI l).2 ≠ 0) : (dI l).1 = It.zero := by
  unfold dI at h ⊢
  split
  · rfl
  · rename_i hl
    rw [if_neg hl] at h
    split
    · rename_i hq
      rw [if_pos hq] at h
      exact absurd rfl h
    · rfl
theorem dI_ok {l : List Int} (ho : Octets l) (h : (dI l).2 = 0) : Ok (dI l).1 ∧ (dI l).1.Rng ∧ bs (dI l).1 = l := by
  unfold dI at h ⊢
  split
  · rename_i hl; rw [if_pos hl] at h; exact absurd h (by decide)
  · rename_i hl
    rw [if_neg hl] at h
    split
    · rename_i hq
      obtain ⟨x, hx⟩ : ∃ x, rI (0, l) = x := ⟨_, rfl⟩
      obtain ⟨i, s'⟩ := x
      rw [hx] at hq ⊢
      have hs := endE_0 hq.1
      simp only at hs
      subst hs
      have := iI hx ho hq.2 rfl
      simp only [List.append_nil] at this
      exact ⟨hq.2, this.1, this.2.symm⟩
    · rename_i hq; rw [if_neg hq] at h; exact absurd h (by decide)
theorem dI_back {i : It} (h : Ok i) (g : i.Rng) : dI (bs i) = (i, 0) := by
  have hl := bs_len i
  have e := rI_fwd (r := []) h g
  rw [List.append_nil] at e
  unfold dI
  rw [if_neg (by omega), e, if_pos ⟨rfl, h⟩]
theorem dI_more {i : It} (h : Ok i) (g : i.Rng) : dI (bs i ++ [0]) = (It.zero, 170) := by
  have hl := bs_len i
  have e := rI_fwd (r := [0]) h g
  unfold dI
  rw [if_neg (by rw [List.length_append]; simp only [List.length_singleton]; omega), e, if_neg (fun q => absurd q.1 (by show ¬ endE 0 [0] = 0; decide))]
theorem dI_less {i : It} (h : Ok i) (g : i.Rng) : dI ((bs i).take ((bs i).length - 1)) = (It.zero, 170) := by
  have hl := bs_len i
  have ho : Octets ((bs i).take ((bs i).length - 1)) := fun y hy => bs_oct i y (List.mem_of_mem_take hy)
  by_cases hd : (dI ((bs i).take ((bs i).length - 1))).2 = 0
  · exfalso
    obtain ⟨h1, h2, h3⟩ := dI_ok ho hd
    obtain ⟨j, hj⟩ : ∃ j, (dI ((bs i).take ((bs i).length - 1))).1 = j := ⟨_, rfl⟩
    rw [hj] at h1 h2 h3
    have e1 := rI_fwd (r := (bs i).drop ((bs i).length - 1)) h1 h2
    rw [h3, List.take_append_drop] at e1
    have e2 := rI_fwd (r := []) h g
    rw [List.append_nil, e1] at e2
    simp only [Prod.mk.injEq, true_and] at e2
    have := congrArg List.length e2.2
    rw [List.length_drop] at this
    simp only [List.length_nil] at this
    omega
  · refine Prod.ext (dI_bad hd) ?_
    unfold dI at hd ⊢
    have hl' : ¬ 1024 < ((bs i).take ((bs i).length - 1)).length := by rw [List.length_take]; omega
    rw [if_neg hl'] at hd ⊢
    split
    · rename_i hq; rw [if_pos hq] at hd; exact absurd rfl hd
    · rfl
end Mg
end Go.Proofs.YtjmkhdlhjnlbiaaGreat
