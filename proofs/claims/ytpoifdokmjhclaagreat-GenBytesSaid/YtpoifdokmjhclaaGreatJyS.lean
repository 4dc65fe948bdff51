/- Several texts, joined: SdC. -/
import Derived.Test.YtpoifdokmjhclaaGreatJyR
namespace Go.Proofs.YtpoifdokmjhclaaGreat
namespace Sd
open Go.RowKit Go.Lib Pg Lim Gl Kv Bk Pw
attribute [local go_sem] Oper.semAt_some
set_option maxRecDepth 100000
set_option linter.unusedSimpArgs false
set_option linter.unusedVariables false
set_option maxHeartbeats 2000000
theorem user_any {w : World} {x : Int} {r : Bool} (hr : decide (16 ≤ x) = r) : Calls Tryz.prog 83 #[.int .u64 x] w fun e w' => e = .returned (.bool r) ∧ Below w.heap.size w w' := by
  have BB := Below.refl w.heap.size w
  refine gc_enter (n := 5) Tryz.func83 rfl (by kernel_rfl) (by kernel_rfl) ?_
  refine gc_seq ?_
  refine gc_reg ?_
  refine t 2 (.bool false) ?_
  refine gl_nil ?_
  refine ge_then ?_
  refine gc_seq ?_
  refine gc_reg ?_
  refine t 3 (.int .u64 x) ?_
  by_cases c1 : (16 : Int) ≤ x
  · refine tq 4 (.bool (decide ((16 : Int) ≤ x))) (.bool true) (congrArg Value.bool (decide_eq_true c1)) ?_
    refine t 2 (.bool true) ?_
    refine gl_nil ?_
    refine ge_then ?_
    refine gc_ret ?_
    refine ge_ret (.bool true) (rs1 2 (by kernel_rfl) (by kernel_rfl)) ?_
    exact ⟨by rw [← hr]; simp; omega, BB⟩
  · refine tq 4 (.bool (decide ((16 : Int) ≤ x))) (.bool false) (congrArg Value.bool (decide_eq_false c1)) ?_
    refine t 2 (.bool false) ?_
    refine gl_nil ?_
    refine ge_then ?_
    refine gc_ret ?_
    refine ge_ret (.bool false) (rs1 2 (by kernel_rfl) (by kernel_rfl)) ?_
    exact ⟨by rw [← hr]; simp; omega, BB⟩
/-- whether params may be -/
def fit (x0 x1 x2 x3 x4 x5 x6 x7 x8 x9 : Int) : Bool := decide (1 ≤ x0 ∧ x0 ≤ 64 ∧ 1 ≤ x1 ∧ x1 ≤ 100000 ∧ 1 ≤ x2 ∧ x2 ≤ 16 ∧ x3 ≤ 10000 ∧ x4 ≤ 10000 ∧ x5 ≤ 10000 ∧ x6 ≤ 100000 ∧ x7 ≤ 100000 ∧ x8 ≤ 1000000000 ∧ 16 ≤ x9)
theorem fit_any {w : World} {x0 x1 x2 x3 x4 x5 x6 x7 x8 x9 : Int} : Calls Tryz.prog 56 #[.agg #[.int .u64 x0, .int .u64 x1, .int .u64 x2, .int .u64 x3, .int .u64 x4, .int .u64 x5, .int .u64 x6, .int .u64 x7, .int .u64 x8, .int .u64 x9]] w fun e w' => e = .returned (.bool (fit x0 x1 x2 x3 x4 x5 x6 x7 x8 x9)) ∧ Below w.heap.size w w' := by
  have BB := Below.refl w.heap.size w
  refine gc_enter (n := 66) Tryz.func56 rfl (by kernel_rfl) (by kernel_rfl) ?_
  refine gc_seq ?_
  refine gc_reg ?_
  refine ta 1 [.int .u64 x0, .int .u64 x1, .int .u64 x2, .int .u64 x3, .int .u64 x4, .int .u64 x5, .int .u64 x6, .int .u64 x7, .int .u64 x8, .int .u64 x9] 24 (pg) ?_
  intro v1 g2 Xg2 hg2 B
  replace BB := joinB BB B
  clear B
  refine t 2 (.bool false) ?_
  refine gl_nil ?_
  refine ge_then ?_
  refine gc_seq ?_
  refine gc_reg ?_
  refine t 3 (pg g2) ?_
  refine tl 4 (.int .u64 x0) Xg2 0 ?_
  by_cases c3 : (1 : Int) ≤ x0
  · refine tq 5 (.bool (decide ((1 : Int) ≤ x0))) (.bool true) (congrArg Value.bool (decide_eq_true c3)) ?_
    refine t 6 (.bool true) ?_
    refine t 7 (pg g2) ?_
    refine tl 8 (.int .u64 x0) Xg2 0 ?_
    by_cases c4 : (x0 : Int) ≤ 64
    · refine tq 9 (.bool (decide ((x0 : Int) ≤ 64))) (.bool true) (congrArg Value.bool (decide_eq_true c4)) ?_
      refine t 10 (.bool true) ?_
      refine t 11 (.bool true) ?_
      refine t 12 (pq g2 1) ?_
      refine tl 13 (.int .u64 x1) Xg2 1 ?_
      by_cases c5 : (1 : Int) ≤ x1
      · refine tq 14 (.bool (decide ((1 : Int) ≤ x1))) (.bool true) (congrArg Value.bool (decide_eq_true c5)) ?_
        refine t 15 (.bool true) ?_
        refine t 16 (.bool true) ?_
        refine t 17 (pq g2 1) ?_
        refine tl 18 (.int .u64 x1) Xg2 1 ?_
        by_cases c6 : (x1 : Int) ≤ 100000
        · refine tq 19 (.bool (decide ((x1 : Int) ≤ 100000))) (.bool true) (congrArg Value.bool (decide_eq_true c6)) ?_
          refine t 20 (.bool true) ?_
          refine t 21 (.bool true) ?_
          refine t 22 (pq g2 2) ?_
          refine tl 23 (.int .u64 x2) Xg2 2 ?_
          by_cases c7 : (1 : Int) ≤ x2
          · refine tq 24 (.bool (decide ((1 : Int) ≤ x2))) (.bool true) (congrArg Value.bool (decide_eq_true c7)) ?_
            refine t 25 (.bool true) ?_
            refine t 26 (.bool true) ?_
            refine t 27 (pq g2 2) ?_
            refine tl 28 (.int .u64 x2) Xg2 2 ?_
            by_cases c8 : (x2 : Int) ≤ 16
            · refine tq 29 (.bool (decide ((x2 : Int) ≤ 16))) (.bool true) (congrArg Value.bool (decide_eq_true c8)) ?_
              refine t 30 (.bool true) ?_
              refine t 31 (.bool true) ?_
              refine t 32 (pq g2 3) ?_
              refine tl 33 (.int .u64 x3) Xg2 3 ?_
              by_cases c9 : (x3 : Int) ≤ 10000
              · refine tq 34 (.bool (decide ((x3 : Int) ≤ 10000))) (.bool true) (congrArg Value.bool (decide_eq_true c9)) ?_
                refine t 35 (.bool true) ?_
                refine t 36 (.bool true) ?_
                refine t 37 (pq g2 4) ?_
                refine tl 38 (.int .u64 x4) Xg2 4 ?_
                by_cases c10 : (x4 : Int) ≤ 10000
                · refine tq 39 (.bool (decide ((x4 : Int) ≤ 10000))) (.bool true) (congrArg Value.bool (decide_eq_true c10)) ?_
                  refine t 40 (.bool true) ?_
                  refine t 41 (.bool true) ?_
                  refine t 42 (pq g2 5) ?_
                  refine tl 43 (.int .u64 x5) Xg2 5 ?_
                  by_cases c11 : (x5 : Int) ≤ 10000
                  · refine tq 44 (.bool (decide ((x5 : Int) ≤ 10000))) (.bool true) (congrArg Value.bool (decide_eq_true c11)) ?_
                    refine t 45 (.bool true) ?_
                    refine t 46 (.bool true) ?_
                    refine t 47 (pq g2 6) ?_
                    refine tl 48 (.int .u64 x6) Xg2 6 ?_
                    by_cases c12 : (x6 : Int) ≤ 100000
                    · refine tq 49 (.bool (decide ((x6 : Int) ≤ 100000))) (.bool true) (congrArg Value.bool (decide_eq_true c12)) ?_
                      refine t 50 (.bool true) ?_
                      refine t 51 (.bool true) ?_
                      refine t 52 (pq g2 7) ?_
                      refine tl 53 (.int .u64 x7) Xg2 7 ?_
                      by_cases c13 : (x7 : Int) ≤ 100000
                      · refine tq 54 (.bool (decide ((x7 : Int) ≤ 100000))) (.bool true) (congrArg Value.bool (decide_eq_true c13)) ?_
                        refine t 55 (.bool true) ?_
                        refine t 56 (.bool true) ?_
                        refine t 57 (pq g2 8) ?_
                        refine tl 58 (.int .u64 x8) Xg2 8 ?_
                        by_cases c14 : (x8 : Int) ≤ 1000000000
                        · refine tq 59 (.bool (decide ((x8 : Int) ≤ 1000000000))) (.bool true) (congrArg Value.bool (decide_eq_true c14)) ?_
                          refine t 60 (.bool true) ?_
                          refine t 61 (.bool true) ?_
                          refine t 62 (pq g2 9) ?_
                          refine tl 63 (.int .u64 x9) Xg2 9 ?_
                          by_cases c15 : 16 ≤ x9
                          · refine tc 64 83 #[.int .u64 x9] (user_any (decide_eq_true c15)) ?_
                            rintro _ v16 ⟨rfl, B⟩
                            refine ⟨_, rfl, ?_⟩
                            replace BB := joinB BB B
                            replace Xg2 := Xg2.keep B
                            clear B
                            refine t 65 (.bool true) ?_
                            refine t 2 (.bool true) ?_
                            refine gl_nil ?_
                            refine ge_then ?_
                            refine gc_ret ?_
                            refine ge_ret (.bool true) (rs1 2 (by kernel_rfl) (by kernel_rfl)) ?_
                            exact ⟨by rw [show fit x0 x1 x2 x3 x4 x5 x6 x7 x8 x9 = true from decide_eq_true ⟨by omega, by omega, by omega, by omega, by omega, by omega, by omega, by omega, by omega, by omega, by omega, by omega, by omega⟩], BB⟩
                          · refine tc 64 83 #[.int .u64 x9] (user_any (decide_eq_false c15)) ?_
                            rintro _ v17 ⟨rfl, B⟩
                            refine ⟨_, rfl, ?_⟩
                            replace BB := joinB BB B
                            replace Xg2 := Xg2.keep B
                            clear B
                            refine t 65 (.bool false) ?_
                            refine t 2 (.bool false) ?_
                            refine gl_nil ?_
                            refine ge_then ?_
                            refine gc_ret ?_
                            refine ge_ret (.bool false) (rs1 2 (by kernel_rfl) (by kernel_rfl)) ?_
                            exact ⟨by rw [show fit x0 x1 x2 x3 x4 x5 x6 x7 x8 x9 = false from decide_eq_false (fun h => by omega)], BB⟩
                        · refine tq 59 (.bool (decide ((x8 : Int) ≤ 1000000000))) (.bool false) (congrArg Value.bool (decide_eq_false c14)) ?_
                          refine t 60 (.bool false) ?_
                          refine t 61 (.bool false) ?_
                          refine tn 62 ?_
                          refine tn 63 ?_
                          refine tn 64 ?_
                          refine t 65 (.bool false) ?_
                          refine t 2 (.bool false) ?_
                          refine gl_nil ?_
                          refine ge_then ?_
                          refine gc_ret ?_
                          refine ge_ret (.bool false) (rs1 2 (by kernel_rfl) (by kernel_rfl)) ?_
                          exact ⟨by rw [show fit x0 x1 x2 x3 x4 x5 x6 x7 x8 x9 = false from decide_eq_false (fun h => by omega)], BB⟩
                      · refine tq 54 (.bool (decide ((x7 : Int) ≤ 100000))) (.bool false) (congrArg Value.bool (decide_eq_false c13)) ?_
                        refine t 55 (.bool false) ?_
                        refine t 56 (.bool false) ?_
                        refine tn 57 ?_
                        refine tn 58 ?_
                        refine tn 59 ?_
                        refine t 60 (.bool false) ?_
                        refine t 61 (.bool false) ?_
                        refine tn 62 ?_
                        refine tn 63 ?_
                        refine tn 64 ?_
                        refine t 65 (.bool false) ?_
                        refine t 2 (.bool false) ?_
                        refine gl_nil ?_
                        refine ge_then ?_
                        refine gc_ret ?_
                        refine ge_ret (.bool false) (rs1 2 (by kernel_rfl) (by kernel_rfl)) ?_
                        exact ⟨by rw [show fit x0 x1 x2 x3 x4 x5 x6 x7 x8 x9 = false from decide_eq_false (fun h => by omega)], BB⟩
                    · refine tq 49 (.bool (decide ((x6 : Int) ≤ 100000))) (.bool false) (congrArg Value.bool (decide_eq_false c12)) ?_
                      refine t 50 (.bool false) ?_
                      refine t 51 (.bool false) ?_
                      refine tn 52 ?_
                      refine tn 53 ?_
                      refine tn 54 ?_
                      refine t 55 (.bool false) ?_
                      refine t 56 (.bool false) ?_
                      refine tn 57 ?_
                      refine tn 58 ?_
                      refine tn 59 ?_
                      refine t 60 (.bool false) ?_
                      refine t 61 (.bool false) ?_
                      refine tn 62 ?_
                      refine tn 63 ?_
                      refine tn 64 ?_
                      refine t 65 (.bool false) ?_
                      refine t 2 (.bool false) ?_
                      refine gl_nil ?_
                      refine ge_then ?_
                      refine gc_ret ?_
                      refine ge_ret (.bool false) (rs1 2 (by kernel_rfl) (by kernel_rfl)) ?_
                      exact ⟨by rw [show fit x0 x1 x2 x3 x4 x5 x6 x7 x8 x9 = false from decide_eq_false (fun h => by omega)], BB⟩
                  · refine tq 44 (.bool (decide ((x5 : Int) ≤ 10000))) (.bool false) (congrArg Value.bool (decide_eq_false c11)) ?_
                    refine t 45 (.bool false) ?_
                    refine t 46 (.bool false) ?_
                    refine tn 47 ?_
                    refine tn 48 ?_
                    refine tn 49 ?_
                    refine t 50 (.bool false) ?_
                    refine t 51 (.bool false) ?_
                    refine tn 52 ?_
                    refine tn 53 ?_
                    refine tn 54 ?_
                    refine t 55 (.bool false) ?_
                    refine t 56 (.bool false) ?_
                    refine tn 57 ?_
                    refine tn 58 ?_
                    refine tn 59 ?_
                    refine t 60 (.bool false) ?_
                    refine t 61 (.bool false) ?_
                    refine tn 62 ?_
                    refine tn 63 ?_
                    refine tn 64 ?_
                    refine t 65 (.bool false) ?_
                    refine t 2 (.bool false) ?_
                    refine gl_nil ?_
                    refine ge_then ?_
                    refine gc_ret ?_
                    refine ge_ret (.bool false) (rs1 2 (by kernel_rfl) (by kernel_rfl)) ?_
                    exact ⟨by rw [show fit x0 x1 x2 x3 x4 x5 x6 x7 x8 x9 = false from decide_eq_false (fun h => by omega)], BB⟩
                · refine tq 39 (.bool (decide ((x4 : Int) ≤ 10000))) (.bool false) (congrArg Value.bool (decide_eq_false c10)) ?_
                  refine t 40 (.bool false) ?_
                  refine t 41 (.bool false) ?_
                  refine tn 42 ?_
                  refine tn 43 ?_
                  refine tn 44 ?_
                  refine t 45 (.bool false) ?_
                  refine t 46 (.bool false) ?_
                  refine tn 47 ?_
                  refine tn 48 ?_
                  refine tn 49 ?_
                  refine t 50 (.bool false) ?_
                  refine t 51 (.bool false) ?_
                  refine tn 52 ?_
                  refine tn 53 ?_
                  refine tn 54 ?_
                  refine t 55 (.bool false) ?_
                  refine t 56 (.bool false) ?_
                  refine tn 57 ?_
                  refine tn 58 ?_
                  refine tn 59 ?_
                  refine t 60 (.bool false) ?_
                  refine t 61 (.bool false) ?_
                  refine tn 62 ?_
                  refine tn 63 ?_
                  refine tn 64 ?_
                  refine t 65 (.bool false) ?_
                  refine t 2 (.bool false) ?_
                  refine gl_nil ?_
                  refine ge_then ?_
                  refine gc_ret ?_
                  refine ge_ret (.bool false) (rs1 2 (by kernel_rfl) (by kernel_rfl)) ?_
                  exact ⟨by rw [show fit x0 x1 x2 x3 x4 x5 x6 x7 x8 x9 = false from decide_eq_false (fun h => by omega)], BB⟩
              · refine tq 34 (.bool (decide ((x3 : Int) ≤ 10000))) (.bool false) (congrArg Value.bool (decide_eq_false c9)) ?_
                refine t 35 (.bool false) ?_
                refine t 36 (.bool false) ?_
                refine tn 37 ?_
                refine tn 38 ?_
                refine tn 39 ?_
                refine t 40 (.bool false) ?_
                refine t 41 (.bool false) ?_
                refine tn 42 ?_
                refine tn 43 ?_
                refine tn 44 ?_
                refine t 45 (.bool false) ?_
                refine t 46 (.bool false) ?_
                refine tn 47 ?_
                refine tn 48 ?_
                refine tn 49 ?_
                refine t 50 (.bool false) ?_
                refine t 51 (.bool false) ?_
                refine tn 52 ?_
                refine tn 53 ?_
                refine tn 54 ?_
                refine t 55 (.bool false) ?_
                refine t 56 (.bool false) ?_
                refine tn 57 ?_
                refine tn 58 ?_
                refine tn 59 ?_
                refine t 60 (.bool false) ?_
                refine t 61 (.bool false) ?_
                refine tn 62 ?_
                refine tn 63 ?_
                refine tn 64 ?_
                refine t 65 (.bool false) ?_
                refine t 2 (.bool false) ?_
                refine gl_nil ?_
                refine ge_then ?_
                refine gc_ret ?_
                refine ge_ret (.bool false) (rs1 2 (by kernel_rfl) (by kernel_rfl)) ?_
                exact ⟨by rw [show fit x0 x1 x2 x3 x4 x5 x6 x7 x8 x9 = false from decide_eq_false (fun h => by omega)], BB⟩
            · refine tq 29 (.bool (decide ((x2 : Int) ≤ 16))) (.bool false) (congrArg Value.bool (decide_eq_false c8)) ?_
              refine t 30 (.bool false) ?_
              refine t 31 (.bool false) ?_
              refine tn 32 ?_
              refine tn 33 ?_
              refine tn 34 ?_
              refine t 35 (.bool false) ?_
              refine t 36 (.bool false) ?_
              refine tn 37 ?_
              refine tn 38 ?_
              refine tn 39 ?_
              refine t 40 (.bool false) ?_
              refine t 41 (.bool false) ?_
              refine tn 42 ?_
              refine tn 43 ?_
              refine tn 44 ?_
              refine t 45 (.bool false) ?_
              refine t 46 (.bool false) ?_
              refine tn 47 ?_
              refine tn 48 ?_
              refine tn 49 ?_
              refine t 50 (.bool false) ?_
              refine t 51 (.bool false) ?_
              refine tn 52 ?_
              refine tn 53 ?_
              refine tn 54 ?_
              refine t 55 (.bool false) ?_
              refine t 56 (.bool false) ?_
              refine tn 57 ?_
              refine tn 58 ?_
              refine tn 59 ?_
              refine t 60 (.bool false) ?_
              refine t 61 (.bool false) ?_
              refine tn 62 ?_
              refine tn 63 ?_
              refine tn 64 ?_
              refine t 65 (.bool false) ?_
              refine t 2 (.bool false) ?_
              refine gl_nil ?_
              refine ge_then ?_
              refine gc_ret ?_
              refine ge_ret (.bool false) (rs1 2 (by kernel_rfl) (by kernel_rfl)) ?_
              exact ⟨by rw [show fit x0 x1 x2 x3 x4 x5 x6 x7 x8 x9 = false from decide_eq_false (fun h => by omega)], BB⟩
          · refine tq 24 (.bool (decide ((1 : Int) ≤ x2))) (.bool false) (congrArg Value.bool (decide_eq_false c7)) ?_
            refine t 25 (.bool false) ?_
            refine t 26 (.bool false) ?_
            refine tn 27 ?_
            refine tn 28 ?_
            refine tn 29 ?_
            refine t 30 (.bool false) ?_
            refine t 31 (.bool false) ?_
            refine tn 32 ?_
            refine tn 33 ?_
            refine tn 34 ?_
            refine t 35 (.bool false) ?_
            refine t 36 (.bool false) ?_
            refine tn 37 ?_
            refine tn 38 ?_
            refine tn 39 ?_
            refine t 40 (.bool false) ?_
            refine t 41 (.bool false) ?_
            refine tn 42 ?_
            refine tn 43 ?_
            refine tn 44 ?_
            refine t 45 (.bool false) ?_
            refine t 46 (.bool false) ?_
            refine tn 47 ?_
            refine tn 48 ?_
            refine tn 49 ?_
            refine t 50 (.bool false) ?_
            refine t 51 (.bool false) ?_
            refine tn 52 ?_
            refine tn 53 ?_
            refine tn 54 ?_
            refine t 55 (.bool false) ?_
            refine t 56 (.bool false) ?_
            refine tn 57 ?_
            refine tn 58 ?_
            refine tn 59 ?_
            refine t 60 (.bool false) ?_
            refine t 61 (.bool false) ?_
            refine tn 62 ?_
            refine tn 63 ?_
            refine tn 64 ?_
            refine t 65 (.bool false) ?_
            refine t 2 (.bool false) ?_
            refine gl_nil ?_
            refine ge_then ?_
            refine gc_ret ?_
            refine ge_ret (.bool false) (rs1 2 (by kernel_rfl) (by kernel_rfl)) ?_
            exact ⟨by rw [show fit x0 x1 x2 x3 x4 x5 x6 x7 x8 x9 = false from decide_eq_false (fun h => by omega)], BB⟩
        · refine tq 19 (.bool (decide ((x1 : Int) ≤ 100000))) (.bool false) (congrArg Value.bool (decide_eq_false c6)) ?_
          refine t 20 (.bool false) ?_
          refine t 21 (.bool false) ?_
          refine tn 22 ?_
          refine tn 23 ?_
          refine tn 24 ?_
          refine t 25 (.bool false) ?_
          refine t 26 (.bool false) ?_
          refine tn 27 ?_
          refine tn 28 ?_
          refine tn 29 ?_
          refine t 30 (.bool false) ?_
          refine t 31 (.bool false) ?_
          refine tn 32 ?_
          refine tn 33 ?_
          refine tn 34 ?_
          refine t 35 (.bool false) ?_
          refine t 36 (.bool false) ?_
          refine tn 37 ?_
          refine tn 38 ?_
          refine tn 39 ?_
          refine t 40 (.bool false) ?_
          refine t 41 (.bool false) ?_
          refine tn 42 ?_
          refine tn 43 ?_
          refine tn 44 ?_
          refine t 45 (.bool false) ?_
          refine t 46 (.bool false) ?_
          refine tn 47 ?_
          refine tn 48 ?_
          refine tn 49 ?_
          refine t 50 (.bool false) ?_
          refine t 51 (.bool false) ?_
          refine tn 52 ?_
          refine tn 53 ?_
          refine tn 54 ?_
          refine t 55 (.bool false) ?_
          refine t 56 (.bool false) ?_
          refine tn 57 ?_
          refine tn 58 ?_
          refine tn 59 ?_
          refine t 60 (.bool false) ?_
          refine t 61 (.bool false) ?_
          refine tn 62 ?_
          refine tn 63 ?_
          refine tn 64 ?_
          refine t 65 (.bool false) ?_
          refine t 2 (.bool false) ?_
          refine gl_nil ?_
          refine ge_then ?_
          refine gc_ret ?_
          refine ge_ret (.bool false) (rs1 2 (by kernel_rfl) (by kernel_rfl)) ?_
          exact ⟨by rw [show fit x0 x1 x2 x3 x4 x5 x6 x7 x8 x9 = false from decide_eq_false (fun h => by omega)], BB⟩
      · refine tq 14 (.bool (decide ((1 : Int) ≤ x1))) (.bool false) (congrArg Value.bool (decide_eq_false c5)) ?_
        refine t 15 (.bool false) ?_
        refine t 16 (.bool false) ?_
        refine tn 17 ?_
        refine tn 18 ?_
        refine tn 19 ?_
        refine t 20 (.bool false) ?_
        refine t 21 (.bool false) ?_
        refine tn 22 ?_
        refine tn 23 ?_
        refine tn 24 ?_
        refine t 25 (.bool false) ?_
        refine t 26 (.bool false) ?_
        refine tn 27 ?_
        refine tn 28 ?_
        refine tn 29 ?_
        refine t 30 (.bool false) ?_
        refine t 31 (.bool false) ?_
        refine tn 32 ?_
        refine tn 33 ?_
        refine tn 34 ?_
        refine t 35 (.bool false) ?_
        refine t 36 (.bool false) ?_
        refine tn 37 ?_
        refine tn 38 ?_
        refine tn 39 ?_
        refine t 40 (.bool false) ?_
        refine t 41 (.bool false) ?_
        refine tn 42 ?_
        refine tn 43 ?_
        refine tn 44 ?_
        refine t 45 (.bool false) ?_
        refine t 46 (.bool false) ?_
        refine tn 47 ?_
        refine tn 48 ?_
        refine tn 49 ?_
        refine t 50 (.bool false) ?_
        refine t 51 (.bool false) ?_
        refine tn 52 ?_
        refine tn 53 ?_
        refine tn 54 ?_
        refine t 55 (.bool false) ?_
        refine t 56 (.bool false) ?_
        refine tn 57 ?_
        refine tn 58 ?_
        refine tn 59 ?_
        refine t 60 (.bool false) ?_
        refine t 61 (.bool false) ?_
        refine tn 62 ?_
        refine tn 63 ?_
        refine tn 64 ?_
        refine t 65 (.bool false) ?_
        refine t 2 (.bool false) ?_
        refine gl_nil ?_
        refine ge_then ?_
        refine gc_ret ?_
        refine ge_ret (.bool false) (rs1 2 (by kernel_rfl) (by kernel_rfl)) ?_
        exact ⟨by rw [show fit x0 x1 x2 x3 x4 x5 x6 x7 x8 x9 = false from decide_eq_false (fun h => by omega)], BB⟩
    · refine tq 9 (.bool (decide ((x0 : Int) ≤ 64))) (.bool false) (congrArg Value.bool (decide_eq_false c4)) ?_
      refine t 10 (.bool false) ?_
      refine t 11 (.bool false) ?_
      refine tn 12 ?_
      refine tn 13 ?_
      refine tn 14 ?_
      refine t 15 (.bool false) ?_
      refine t 16 (.bool false) ?_
      refine tn 17 ?_
      refine tn 18 ?_
      refine tn 19 ?_
      refine t 20 (.bool false) ?_
      refine t 21 (.bool false) ?_
      refine tn 22 ?_
      refine tn 23 ?_
      refine tn 24 ?_
      refine t 25 (.bool false) ?_
      refine t 26 (.bool false) ?_
      refine tn 27 ?_
      refine tn 28 ?_
      refine tn 29 ?_
      refine t 30 (.bool false) ?_
      refine t 31 (.bool false) ?_
      refine tn 32 ?_
      refine tn 33 ?_
      refine tn 34 ?_
      refine t 35 (.bool false) ?_
      refine t 36 (.bool false) ?_
      refine tn 37 ?_
      refine tn 38 ?_
      refine tn 39 ?_
      refine t 40 (.bool false) ?_
      refine t 41 (.bool false) ?_
      refine tn 42 ?_
      refine tn 43 ?_
      refine tn 44 ?_
      refine t 45 (.bool false) ?_
      refine t 46 (.bool false) ?_
      refine tn 47 ?_
      refine tn 48 ?_
      refine tn 49 ?_
      refine t 50 (.bool false) ?_
      refine t 51 (.bool false) ?_
      refine tn 52 ?_
      refine tn 53 ?_
      refine tn 54 ?_
      refine t 55 (.bool false) ?_
      refine t 56 (.bool false) ?_
      refine tn 57 ?_
      refine tn 58 ?_
      refine tn 59 ?_
      refine t 60 (.bool false) ?_
      refine t 61 (.bool false) ?_
      refine tn 62 ?_
      refine tn 63 ?_
      refine tn 64 ?_
      refine t 65 (.bool false) ?_
      refine t 2 (.bool false) ?_
      refine gl_nil ?_
      refine ge_then ?_
      refine gc_ret ?_
      refine ge_ret (.bool false) (rs1 2 (by kernel_rfl) (by kernel_rfl)) ?_
      exact ⟨by rw [show fit x0 x1 x2 x3 x4 x5 x6 x7 x8 x9 = false from decide_eq_false (fun h => by omega)], BB⟩
  · refine tq 5 (.bool (decide ((1 : Int) ≤ x0))) (.bool false) (congrArg Value.bool (decide_eq_false c3)) ?_
    refine t 6 (.bool false) ?_
    refine tn 7 ?_
    refine tn 8 ?_
    refine tn 9 ?_
    refine t 10 (.bool false) ?_
    refine t 11 (.bool false) ?_
    refine tn 12 ?_
    refine tn 13 ?_
    refine tn 14 ?_
    refine t 15 (.bool false) ?_
    refine t 16 (.bool false) ?_
    refine tn 17 ?_
    refine tn 18 ?_
    refine tn 19 ?_
    refine t 20 (.bool false) ?_
    refine t 21 (.bool false) ?_
    refine tn 22 ?_
    refine tn 23 ?_
    refine tn 24 ?_
    refine t 25 (.bool false) ?_
    refine t 26 (.bool false) ?_
    refine tn 27 ?_
    refine tn 28 ?_
    refine tn 29 ?_
    refine t 30 (.bool false) ?_
    refine t 31 (.bool false) ?_
    refine tn 32 ?_
    refine tn 33 ?_
    refine tn 34 ?_
    refine t 35 (.bool false) ?_
    refine t 36 (.bool false) ?_
    refine tn 37 ?_
    refine tn 38 ?_
    refine tn 39 ?_
    refine t 40 (.bool false) ?_
    refine t 41 (.bool false) ?_
    refine tn 42 ?_
    refine tn 43 ?_
    refine tn 44 ?_
    refine t 45 (.bool false) ?_
    refine t 46 (.bool false) ?_
    refine tn 47 ?_
    refine tn 48 ?_
    refine tn 49 ?_
    refine t 50 (.bool false) ?_
    refine t 51 (.bool false) ?_
    refine tn 52 ?_
    refine tn 53 ?_
    refine tn 54 ?_
    refine t 55 (.bool false) ?_
    refine t 56 (.bool false) ?_
    refine tn 57 ?_
    refine tn 58 ?_
    refine tn 59 ?_
    refine t 60 (.bool false) ?_
    refine t 61 (.bool false) ?_
    refine tn 62 ?_
    refine tn 63 ?_
    refine tn 64 ?_
    refine t 65 (.bool false) ?_
    refine t 2 (.bool false) ?_
    refine gl_nil ?_
    refine ge_then ?_
    refine gc_ret ?_
    refine ge_ret (.bool false) (rs1 2 (by kernel_rfl) (by kernel_rfl)) ?_
    exact ⟨by rw [show fit x0 x1 x2 x3 x4 x5 x6 x7 x8 x9 = false from decide_eq_false (fun h => by omega)], BB⟩
theorem gc_rds {P : Program} {n : Nat} {ds : List Deferred} {l : Fr} {w : World} {Q : Exit → Act → World → Prop} {c : Code} (k : Nat) (h : GC P n ds c (Exit.then (Code.rounds P c Q k) Q) l w) : GC P n ds (Code.loop c) Q l w := ⟨fun a r => wp_loop_rounds (k + 1) (h.out a r)⟩
theorem ge_rd {P : Program} {n : Nat} {ds : List Deferred} {l : Fr} {w : World} {Q Q' : Exit → Act → World → Prop} {c : Code} {k : Nat} (h : GC P n ds c (Exit.then (Code.rounds P c Q k) Q) l w) : GE n ds (Exit.then (Code.rounds P c Q (k + 1)) Q') .normal l w := ⟨fun a r => h.out a r⟩
theorem ua_nil {w : World} {B : Nat} {v : Value} (h : UA w B v []) : ∃ a c, v = .slice a 0 c := by
  rcases h.ex with ⟨rfl, _⟩ | ⟨b, c, rfl, _⟩
  · exact ⟨_, _, rfl⟩
  · exact ⟨_, _, rfl⟩
theorem nopre {E : Ents} {m : Int} (h : E.filter (fun x => decide ([m] <+: x.1)) = []) : ∀ x ∈ E, ¬ [m] <+: x.1 := fun x hx hp => by
  have : x ∈ E.filter (fun x => decide ([m] <+: x.1)) := List.mem_filter.2 ⟨hx, decide_eq_true hp⟩
  rw [h] at this
  cases this
theorem topS {B : Nat} {w : World} {K : Nat → Prop} {g : Nat} {E : Ents} {n N : Nat} (P : Bare E) (h : Sx B w K g E [] n N) (hn : n ≤ 1000000) (hN : N ≤ 1000) : Calls Tryz.prog 100 #[pg g, .int .i64 1] w fun e w' => ∃ a c, e = .returned (.slice a 0 c) ∧ Sx B w' K g E [] (n + 1) N ∧ Chg (· = g) w w' := by
  have e0 : pks 10 105 E = [] := by unfold pks; rw [P.no 105 (by decide)]; rfl
  refine (top_any_sa (m := 1) h.sa (by decide) (by decide) (fun x hx hp => absurd hp (nopre (P.no 105 (by decide)) x hx)) (by omega) (by omega)).mono ?_
  rintro e w' ⟨v, j, rfl, U, hj, S, C⟩
  rw [e0] at U hj
  obtain ⟨a, c, rfl⟩ := ua_nil U
  simp at hj
  subst hj
  exact ⟨a, c, rfl, ⟨S, Nat.le_trans h.lo C.size, h.kb⟩, C⟩
theorem bondedS {B : Nat} {w : World} {K : Nat → Prop} {g : Nat} {E : Ents} {n N : Nat} (P : Bare E) (h : Sx B w K g E [] n N) (hn : n ≤ 1000000) (hN : N ≤ 1000) : Calls Tryz.prog 99 #[pg g] w fun e w' => ∃ a c, e = .returned (.slice a 0 c) ∧ Sx B w' K g E [] (n + 1) N ∧ Chg (· = g) w w' := by
  have e0 : pks 11 98 E = [] := by unfold pks; rw [P.no 98 (by decide)]; rfl
  refine (bonded_any_sa h.sa (fun x hx hp => absurd hp (nopre (P.no 98 (by decide)) x hx)) (by omega) (by omega)).mono ?_
  rintro e w' ⟨v, j, rfl, U, hj, S, C⟩
  rw [e0] at U hj
  obtain ⟨a, c, rfl⟩ := ua_nil U
  simp at hj
  subst hj
  exact ⟨a, c, rfl, ⟨S, Nat.le_trans h.lo C.size, h.kb⟩, C⟩
end Sd
end Go.Proofs.YtpoifdokmjhclaaGreat
