/- gleanlaw14.DistGive: the law. -/
import Derived.Test.YtgdohcdlkonhiaaGreatDoorJaG
namespace Go.Proofs.YtgdohcdlkonhiaaGreatDoor
namespace Fo
open Go.RowKit Go.Lib Pg Lim Gl
attribute [local go_sem] Oper.semAt_some
set_option maxRecDepth 100000
set_option linter.unusedVariables false
set_option linter.unusedSimpArgs false
set_option maxHeartbeats 2000000
theorem cmpLe {w : World} {ao ao' : Option Addr} {n c n' c' : Nat} {x y : Int} (h : NatA w ao n c x) (h' : NatA w ao' n' c' y) (hn : n ≤ 1099511627776) (hn' : n' ≤ 1099511627776) (hxy : x ≤ y) : Calls Tryz.prog 11 #[.slice ao n c, .slice ao' n' c'] w fun e w' => ∃ r, e = .returned (.int .i64 r) ∧ r ≤ 0 ∧ Below w.heap.size w w' := by
  refine (nCmp h h' hn hn').mono ?_
  rintro e w' ⟨rfl, B⟩
  exact ⟨_, rfl, by unfold sgn; split <;> (try split) <;> omega, B⟩
theorem cmpGt {w : World} {ao ao' : Option Addr} {n c n' c' : Nat} {x y : Int} (h : NatA w ao n c x) (h' : NatA w ao' n' c' y) (hn : n ≤ 1099511627776) (hn' : n' ≤ 1099511627776) (hxy : y < x) : Calls Tryz.prog 11 #[.slice ao n c, .slice ao' n' c'] w fun e w' => e = .returned (.int .i64 1) ∧ Below w.heap.size w w' := by
  have t := nCmp h h' hn hn'
  rw [sgn_gt hxy] at t
  exact t
theorem dCmpEq {w : World} {ao ao' : Option Addr} {n c n' c' : Nat} {x y : Int} (h : NatA w ao n c x) (h' : NatA w ao' n' c' y) (hn : n ≤ 1099511627776) (hn' : n' ≤ 1099511627776) (hxy : x = y) : Calls Tryz.prog 7 #[.agg #[.slice ao n c], .agg #[.slice ao' n' c']] w fun e w' => e = .returned (.int .i64 0) ∧ Below w.heap.size w w' := by
  have t := dCmp h h' hn hn'
  rw [sgn_eq hxy] at t
  exact t
theorem run_nb {ρ : Operand → Value} {w : World} {o : Oper} {b : Bool} (ho : ∃ u v, o.op = .binOp .neq 4 u v 4 ∧ ρ u = .bool b ∧ ρ v = .bool b := by exact ⟨_, _, rfl, by kernel_rfl, by kernel_rfl⟩) : (execOp ρ o).run Tryz.prog w = .ok (.value (.bool false)) w := by
  obtain ⟨u, v, h, h1, h2⟩ := ho
  simp only [execOp, h]
  go_simp
  try simp [h1, h2]
theorem mn_le {y : Int} (hy : 0 ≤ y) : 0 ≤ mn y ∧ mn y ≤ 10000 := by unfold mn; split <;> omega
theorem por_eq (x y : Int) : por x y = x * mn y * 100000000000000000000000000000000 / 1000000000000000000000000000000000000 := by
  unfold por
  rw [show (U36 / 10000 : Int) = 100000000000000000000000000000000 by decide +kernel, show (U36 : Int) = 1000000000000000000000000000000000000 by decide +kernel]
  congr 1
  rw [Int.mul_comm 100000000000000000000000000000000 (mn y), ← Int.mul_assoc]
theorem por_lo (x y : Int) : por x y * 10000 ≤ x * mn y := by
  rw [por_eq]
  generalize x * mn y = a
  omega
theorem por_hi (x y : Int) : x * mn y < por x y * 10000 + 10000 := by
  rw [por_eq]
  generalize x * mn y = a
  omega
theorem por_rng {x y : Int} (hx : 0 ≤ x) (hy : 0 ≤ y) : 0 ≤ por x y ∧ por x y ≤ x := by
  have h1 := mn_le hy
  have h2 := por_lo x y
  have h3 := por_hi x y
  have h4 : 0 ≤ x * mn y := Int.mul_nonneg hx h1.1
  have h5 : x * mn y ≤ x * 10000 := Int.mul_le_mul_of_nonneg_left h1.2 hx
  omega
theorem sub_add (x c : Int) (h : 0 ≤ c) : subV (x + c) x = c := by unfold subV; rw [if_pos (by omega)]; omega
theorem sbE_add (x c : Int) (h : 0 ≤ c) : sbE (x + c) x = 0 := by unfold sbE; rw [if_pos (by omega)]
theorem NtE.cast0 {er : Int} {w : World} {Q : Nat → Prop} {V V' : Int} {P : Nat} {args : Array Value} (h : Calls Tryz.prog P args w (NtE er w Q V)) (he : er = 0) (hV : V = V') : Calls Tryz.prog P args w (NtE 0 w Q V') := by
  subst he hV
  exact h
namespace distGiveL
set_option maxHeartbeats 8000000 in
theorem law {w : World} {a0 : Option Addr} {n0 c0 : Nat} {x0 : Int} {a1 : Option Addr} {n1 c1 : Nat} {x1 : Int} {a2 : Option Addr} {n2 c2 : Nat} {x2 : Int} {a3 : Option Addr} {n3 c3 : Nat} {x3 : Int} {a4 : Option Addr} {n4 c4 : Nat} {x4 : Int} {rt tk un pe : Int} {jl bo : Bool} (h0 : NatA w a0 n0 c0 x0) (k0 : n0 ≤ 17592186044416) (h1 : NatA w a1 n1 c1 x1) (k1 : n1 ≤ 17592186044416) (h2 : NatA w a2 n2 c2 x2) (k2 : n2 ≤ 17592186044416) (h3 : NatA w a3 n3 c3 x3) (k3 : n3 ≤ 17592186044416) (h4 : NatA w a4 n4 c4 x4) (k4 : n4 ≤ 17592186044416) (hrt : 0 ≤ rt ∧ rt < 18446744073709551616) : Calls Tryz.prog 3 #[.agg #[.int .u64 rt, .int .u64 tk, .slice a0 n0 c0, .bool jl, .int .u64 un, .bool bo, .int .u64 pe, .slice a1 n1 c1, .slice a2 n2 c2, .slice a3 n3 c3], .agg #[.slice a4 n4 c4]] w fun e w' => e = .returned (.bool true) ∧ Below w.heap.size w w' := by
  have hx4 := h4.nonneg
  have hcr := por_rng hx4 hrt.1
  have hc0 := hcr.1
  have hu0 : 0 ≤ subV x4 (por x4 rt) := by unfold subV; rw [if_pos hcr.2]; omega
  have hcu : por x4 rt + subV x4 (por x4 rt) = x4 := by unfold subV; rw [if_pos hcr.2]; omega
  have hmn := mn_rng hrt.1
  have BB := Below.refl w.heap.size w
  refine gc_enter (n := 162) Tryz.func3 rfl (by kernel_rfl) (by kernel_rfl) ?_
  refine gc_seq ?_
  refine gc_reg ?_
  refine ta 2 [.int .u64 rt, .int .u64 tk, .slice a0 n0 c0, .bool jl, .int .u64 un, .bool bo, .int .u64 pe, .slice a1 n1 c1, .slice a2 n2 c2, .slice a3 n3 c3] 28 (pg) ?_
  intro v1 g2 Xg2 hg2 B
  replace BB := joinB BB B
  clear B
  have lXg2 := Xg2.lt
  refine ta 3 [.slice a4 n4 c4] 26 (pg) ?_
  intro v3 g4 Xg4 hg4 B
  replace BB := joinB BB B
  replace Xg2 := Xg2.keep B
  clear B
  refine t 4 (.bool false) ?_
  refine gl_nil ?_
  refine ge_then ?_
  refine gc_seq ?_
  refine gc_seq ?_
  refine gc_reg ?_
  have lXg2 := Xg2.lt
  have lXg4 := Xg4.lt
  refine tc 15 4 #[] (known14) ?_
  rintro _ v5 ⟨rfl, B⟩
  refine ⟨_, rfl, ?_⟩
  replace BB := joinB BB B
  replace Xg2 := Xg2.keep B
  replace Xg4 := Xg4.keep B
  clear B
  refine t 16 (.bool false) ?_
  refine gl_nil ?_
  refine ge_then ?_
  refine gc_no ?_
  refine gc_skip ?_
  refine ge_then ?_
  refine gc_seq ?_
  refine gc_seq ?_
  refine gc_reg ?_
  refine t 17 (pq g2 2) ?_
  refine t 18 (pq g2 2) ?_
  refine tl 19 (.slice a0 n0 c0) Xg2 2 ?_
  refine t 20 (.int .i64 ((n0 : Nat) : Int)) ?_
  refine t 21 (pq g2 7) ?_
  refine t 22 (pq g2 7) ?_
  refine tl 23 (.slice a1 n1 c1) Xg2 7 ?_
  refine t 24 (.int .i64 ((n1 : Nat) : Int)) ?_
  refine tq 25 (.int .i64 (IntKind.i64.wrap (((n0 : Nat) : Int) + ((n1 : Nat) : Int)))) (.int .i64 (((n0 : Nat) : Int) + ((n1 : Nat) : Int))) (wi (by omega)) ?_
  refine t 26 (pq g2 8) ?_
  refine t 27 (pq g2 8) ?_
  refine tl 28 (.slice a2 n2 c2) Xg2 8 ?_
  refine t 29 (.int .i64 ((n2 : Nat) : Int)) ?_
  refine tq 30 (.int .i64 (IntKind.i64.wrap ((((n0 : Nat) : Int) + ((n1 : Nat) : Int)) + ((n2 : Nat) : Int)))) (.int .i64 ((((n0 : Nat) : Int) + ((n1 : Nat) : Int)) + ((n2 : Nat) : Int))) (wi (by omega)) ?_
  refine t 31 (pq g2 9) ?_
  refine t 32 (pq g2 9) ?_
  refine tl 33 (.slice a3 n3 c3) Xg2 9 ?_
  refine t 34 (.int .i64 ((n3 : Nat) : Int)) ?_
  refine tq 35 (.int .i64 (IntKind.i64.wrap (((((n0 : Nat) : Int) + ((n1 : Nat) : Int)) + ((n2 : Nat) : Int)) + ((n3 : Nat) : Int)))) (.int .i64 (((((n0 : Nat) : Int) + ((n1 : Nat) : Int)) + ((n2 : Nat) : Int)) + ((n3 : Nat) : Int))) (wi (by omega)) ?_
  refine t 36 (pg g4) ?_
  refine tl 37 (.slice a4 n4 c4) Xg4 0 ?_
  refine t 38 (.int .i64 ((n4 : Nat) : Int)) ?_
  refine tq 39 (.int .i64 (IntKind.i64.wrap ((((((n0 : Nat) : Int) + ((n1 : Nat) : Int)) + ((n2 : Nat) : Int)) + ((n3 : Nat) : Int)) + ((n4 : Nat) : Int)))) (.int .i64 ((((((n0 : Nat) : Int) + ((n1 : Nat) : Int)) + ((n2 : Nat) : Int)) + ((n3 : Nat) : Int)) + ((n4 : Nat) : Int))) (wi (by omega)) ?_
  by_cases c6 : (40 : Int) < (((((n0 : Nat) : Int) + ((n1 : Nat) : Int)) + ((n2 : Nat) : Int)) + ((n3 : Nat) : Int)) + ((n4 : Nat) : Int)
  · refine tq 40 (.bool (decide ((40 : Int) < (((((n0 : Nat) : Int) + ((n1 : Nat) : Int)) + ((n2 : Nat) : Int)) + ((n3 : Nat) : Int)) + ((n4 : Nat) : Int)))) (.bool true) (congrArg Value.bool (decide_eq_true c6)) ?_
    refine gl_nil ?_
    refine ge_then ?_
    refine gc_fr [(2, pg g2), (3, pg g4), (4, .bool false), (40, .bool true)] (by kernel_rfl) ?_
    refine gc_yes ?_
    refine gc_seq ?_
    refine gc_reg ?_
    refine t 4 (.bool true) ?_
    refine gl_nil ?_
    refine ge_then ?_
    refine gc_ret ?_
    refine ge_tr ?_
    refine ge_ret (.bool true) (rs1 4 (by kernel_rfl) (by kernel_rfl)) ?_
    exact ⟨rfl, BB⟩
  · refine tq 40 (.bool (decide ((40 : Int) < (((((n0 : Nat) : Int) + ((n1 : Nat) : Int)) + ((n2 : Nat) : Int)) + ((n3 : Nat) : Int)) + ((n4 : Nat) : Int)))) (.bool false) (congrArg Value.bool (decide_eq_false c6)) ?_
    refine gl_nil ?_
    refine ge_then ?_
    refine gc_fr [(2, pg g2), (3, pg g4), (4, .bool false), (40, .bool false)] (by kernel_rfl) ?_
    refine gc_no ?_
    refine gc_skip ?_
    refine ge_then ?_
    refine gc_seq ?_
    refine gc_reg ?_
    refine tlr 41 [.int .u64 rt, .int .u64 tk, .slice a0 n0 c0, .bool jl, .int .u64 un, .bool bo, .int .u64 pe, .slice a1 n1 c1, .slice a2 n2 c2, .slice a3 n3 c3] Xg2 0 ?_
    refine tlr 42 [.slice a4 n4 c4] Xg4 0 ?_
    have lXg2 := Xg2.lt
    have lXg4 := Xg4.lt
    refine tc 43 5 #[.agg #[.int .u64 rt, .int .u64 tk, .slice a0 n0 c0, .bool jl, .int .u64 un, .bool bo, .int .u64 pe, .slice a1 n1 c1, .slice a2 n2 c2, .slice a3 n3 c3], .agg #[.slice a4 n4 c4]] (dGive (h0.keep BB) (by omega) (h1.keep BB) (by omega) (h2.keep BB) (by omega) (h3.keep BB) (by omega) (h4.keep BB) (by omega) hrt) ?_
    rintro _ v11 ⟨av7, nv7, cv7, zv7, av8, nv8, cv8, zv8, av9, nv9, cv9, zv9, av10, nv10, cv10, zv10, rfl, Nv7, hv7, mv7, Nv8, hv8, mv8, Nv9, hv9, mv9, Nv10, hv10, mv10, B⟩
    refine ⟨_, rfl, ?_⟩
    replace BB := joinB BB B
    replace Xg2 := Xg2.keep B
    replace Xg4 := Xg4.keep B
    clear B
    have lXg2 := Xg2.lt
    have lXg4 := Xg4.lt
    have lNv7 := Nv7.lt
    have lNv8 := Nv8.lt
    have lNv9 := Nv9.lt
    have lNv10 := Nv10.lt
    refine ta 5 [.int .u64 0, .int .u64 0, .slice none 0 0, .bool false, .int .u64 0, .bool false, .int .u64 0, .slice none 0 0, .slice none 0 0, .slice none 0 0] 28 (pg) ?_
    intro v12 g13 Xg13 hg13 B
    replace BB := joinB BB B
    replace Xg2 := Xg2.keep B
    replace Xg4 := Xg4.keep B
    replace Nv7 := Nv7.keep B
    replace Nv8 := Nv8.keep B
    replace Nv9 := Nv9.keep B
    replace Nv10 := Nv10.keep B
    clear B
    refine ts Xg13 0 (.agg #[.int .u64 rt, .int .u64 tk, .slice av7 nv7 cv7, .bool jl, .int .u64 un, .bool bo, .int .u64 pe, .slice av8 nv8 cv8, .slice av9 nv9 cv9, .slice av10 nv10 cv10]) [.int .u64 rt, .int .u64 tk, .slice av7 nv7 cv7, .bool jl, .int .u64 un, .bool bo, .int .u64 pe, .slice av8 nv8 cv8, .slice av9 nv9 cv9, .slice av10 nv10 cv10] [.int .u64 rt, .int .u64 tk, .slice av7 nv7 cv7, .bool jl, .int .u64 un, .bool bo, .int .u64 pe, .slice av8 nv8 cv8, .slice av9 nv9 cv9, .slice av10 nv10 cv10] ?_
    intro v14 Y C
    replace BB := belowC BB C (by omega)
    replace Xg2 := Xg2.chg C (show g2 ≠ g13 by omega)
    replace Xg4 := Xg4.chg C (show g4 ≠ g13 by omega)
    replace Nv7 := Nv7.cell C (show nv7 = 0 ∨ zv7 ≠ g13 by omega)
    replace Nv8 := Nv8.cell C (show nv8 = 0 ∨ zv8 ≠ g13 by omega)
    replace Nv9 := Nv9.cell C (show nv9 = 0 ∨ zv9 ≠ g13 by omega)
    replace Nv10 := Nv10.cell C (show nv10 = 0 ∨ zv10 ≠ g13 by omega)
    clear C Xg13
    have Xg13 := Y
    clear Y
    refine gl_nil ?_
    refine ge_then ?_
    refine gc_seq ?_
    refine gc_reg ?_
    refine t 45 (pq g13 9) ?_
    refine tlr 46 [.slice av10 nv10 cv10] Xg13 9 ?_
    refine t 47 (pq g2 9) ?_
    refine tlr 48 [.slice a3 n3 c3] Xg2 9 ?_
    have lXg2 := Xg2.lt
    have lXg4 := Xg4.lt
    have lXg13 := Xg13.lt
    refine tc 49 6 #[.agg #[.slice av10 nv10 cv10], .agg #[.slice a3 n3 c3]] (NtE.cast0 (eSub Nv10.nat (by omega) (h3.keep BB) (by omega)) (sbE_add x3 (por x4 rt) hc0) (sub_add x3 (por x4 rt) hc0)) ?_
    rintro _ v16 ⟨aq15, nq15, cq15, zq15, rfl, Nq15, hq15, mq15, B⟩
    refine ⟨_, rfl, ?_⟩
    replace BB := joinB BB B
    replace Xg2 := Xg2.keep B
    replace Xg4 := Xg4.keep B
    replace Nv7 := Nv7.keep B
    replace Nv8 := Nv8.keep B
    replace Nv9 := Nv9.keep B
    replace Nv10 := Nv10.keep B
    replace Xg13 := Xg13.keep B
    clear B
    refine t 44 (.tuple #[.agg #[.slice aq15 nq15 cq15], .int .i64 0]) ?_
    refine t 50 (.agg #[.slice aq15 nq15 cq15]) ?_
    refine t 51 (.int .i64 0) ?_
    have lXg2 := Xg2.lt
    have lXg4 := Xg4.lt
    have lNv7 := Nv7.lt
    have lNv8 := Nv8.lt
    have lNv9 := Nv9.lt
    have lNv10 := Nv10.lt
    have lXg13 := Xg13.lt
    have lNq15 := Nq15.lt
    refine ta 6 [.slice none 0 0] 26 (pg) ?_
    intro v17 g18 Xg18 hg18 B
    replace BB := joinB BB B
    replace Xg2 := Xg2.keep B
    replace Xg4 := Xg4.keep B
    replace Nv7 := Nv7.keep B
    replace Nv8 := Nv8.keep B
    replace Nv9 := Nv9.keep B
    replace Nv10 := Nv10.keep B
    replace Xg13 := Xg13.keep B
    replace Nq15 := Nq15.keep B
    clear B
    refine ts Xg18 0 (.agg #[.slice aq15 nq15 cq15]) [.slice aq15 nq15 cq15] [.slice aq15 nq15 cq15] ?_
    intro v19 Y C
    replace BB := belowC BB C (by omega)
    replace Xg2 := Xg2.chg C (show g2 ≠ g18 by omega)
    replace Xg4 := Xg4.chg C (show g4 ≠ g18 by omega)
    replace Nv7 := Nv7.cell C (show nv7 = 0 ∨ zv7 ≠ g18 by omega)
    replace Nv8 := Nv8.cell C (show nv8 = 0 ∨ zv8 ≠ g18 by omega)
    replace Nv9 := Nv9.cell C (show nv9 = 0 ∨ zv9 ≠ g18 by omega)
    replace Nv10 := Nv10.cell C (show nv10 = 0 ∨ zv10 ≠ g18 by omega)
    replace Xg13 := Xg13.chg C (show g13 ≠ g18 by omega)
    replace Nq15 := Nq15.cell C (show nq15 = 0 ∨ zq15 ≠ g18 by omega)
    clear C Xg18
    have Xg18 := Y
    clear Y
    refine t 7 (.int .i64 0) ?_
    refine gl_nil ?_
    refine ge_then ?_
    refine gc_fr [(2, pg g2), (3, pg g4), (4, .bool false), (5, pg g13), (6, pg g18), (7, .int .i64 0)] (by kernel_rfl) ?_
    refine gc_seq ?_
    refine gc_reg ?_
    refine t 53 (pq g13 7) ?_
    refine tlr 54 [.slice av8 nv8 cv8] Xg13 7 ?_
    refine t 55 (pq g2 7) ?_
    refine tlr 56 [.slice a1 n1 c1] Xg2 7 ?_
    have lXg2 := Xg2.lt
    have lXg4 := Xg4.lt
    have lXg13 := Xg13.lt
    have lXg18 := Xg18.lt
    refine tc 57 6 #[.agg #[.slice av8 nv8 cv8], .agg #[.slice a1 n1 c1]] (NtE.cast0 (eSub Nv8.nat (by omega) (h1.keep BB) (by omega)) (sbE_add x1 (subV x4 (por x4 rt)) hu0) (sub_add x1 (subV x4 (por x4 rt)) hu0)) ?_
    rintro _ v21 ⟨aq20, nq20, cq20, zq20, rfl, Nq20, hq20, mq20, B⟩
    refine ⟨_, rfl, ?_⟩
    replace BB := joinB BB B
    replace Xg2 := Xg2.keep B
    replace Xg4 := Xg4.keep B
    replace Nv7 := Nv7.keep B
    replace Nv8 := Nv8.keep B
    replace Nv9 := Nv9.keep B
    replace Nv10 := Nv10.keep B
    replace Xg13 := Xg13.keep B
    replace Nq15 := Nq15.keep B
    replace Xg18 := Xg18.keep B
    clear B
    refine t 52 (.tuple #[.agg #[.slice aq20 nq20 cq20], .int .i64 0]) ?_
    refine t 58 (.agg #[.slice aq20 nq20 cq20]) ?_
    refine t 59 (.int .i64 0) ?_
    have lXg2 := Xg2.lt
    have lXg4 := Xg4.lt
    have lNv7 := Nv7.lt
    have lNv8 := Nv8.lt
    have lNv9 := Nv9.lt
    have lNv10 := Nv10.lt
    have lXg13 := Xg13.lt
    have lNq15 := Nq15.lt
    have lXg18 := Xg18.lt
    have lNq20 := Nq20.lt
    refine ta 8 [.slice none 0 0] 26 (pg) ?_
    intro v22 g23 Xg23 hg23 B
    replace BB := joinB BB B
    replace Xg2 := Xg2.keep B
    replace Xg4 := Xg4.keep B
    replace Nv7 := Nv7.keep B
    replace Nv8 := Nv8.keep B
    replace Nv9 := Nv9.keep B
    replace Nv10 := Nv10.keep B
    replace Xg13 := Xg13.keep B
    replace Nq15 := Nq15.keep B
    replace Xg18 := Xg18.keep B
    replace Nq20 := Nq20.keep B
    clear B
    refine ts Xg23 0 (.agg #[.slice aq20 nq20 cq20]) [.slice aq20 nq20 cq20] [.slice aq20 nq20 cq20] ?_
    intro v24 Y C
    replace BB := belowC BB C (by omega)
    replace Xg2 := Xg2.chg C (show g2 ≠ g23 by omega)
    replace Xg4 := Xg4.chg C (show g4 ≠ g23 by omega)
    replace Nv7 := Nv7.cell C (show nv7 = 0 ∨ zv7 ≠ g23 by omega)
    replace Nv8 := Nv8.cell C (show nv8 = 0 ∨ zv8 ≠ g23 by omega)
    replace Nv9 := Nv9.cell C (show nv9 = 0 ∨ zv9 ≠ g23 by omega)
    replace Nv10 := Nv10.cell C (show nv10 = 0 ∨ zv10 ≠ g23 by omega)
    replace Xg13 := Xg13.chg C (show g13 ≠ g23 by omega)
    replace Nq15 := Nq15.cell C (show nq15 = 0 ∨ zq15 ≠ g23 by omega)
    replace Xg18 := Xg18.chg C (show g18 ≠ g23 by omega)
    replace Nq20 := Nq20.cell C (show nq20 = 0 ∨ zq20 ≠ g23 by omega)
    clear C Xg23
    have Xg23 := Y
    clear Y
    refine t 9 (.int .i64 0) ?_
    refine gl_nil ?_
    refine ge_then ?_
    refine gc_seq ?_
    refine gc_reg ?_
    refine t 61 (pq g13 8) ?_
    refine tlr 62 [.slice av9 nv9 cv9] Xg13 8 ?_
    refine t 63 (pq g2 8) ?_
    refine tlr 64 [.slice a2 n2 c2] Xg2 8 ?_
    have lXg2 := Xg2.lt
    have lXg4 := Xg4.lt
    have lXg13 := Xg13.lt
    have lXg18 := Xg18.lt
    have lXg23 := Xg23.lt
    refine tc 65 6 #[.agg #[.slice av9 nv9 cv9], .agg #[.slice a2 n2 c2]] (NtE.cast0 (eSub Nv9.nat (by omega) (h2.keep BB) (by omega)) (sbE_add x2 (x4) hx4) (sub_add x2 (x4) hx4)) ?_
    rintro _ v26 ⟨aq25, nq25, cq25, zq25, rfl, Nq25, hq25, mq25, B⟩
    refine ⟨_, rfl, ?_⟩
    replace BB := joinB BB B
    replace Xg2 := Xg2.keep B
    replace Xg4 := Xg4.keep B
    replace Nv7 := Nv7.keep B
    replace Nv8 := Nv8.keep B
    replace Nv9 := Nv9.keep B
    replace Nv10 := Nv10.keep B
    replace Xg13 := Xg13.keep B
    replace Nq15 := Nq15.keep B
    replace Xg18 := Xg18.keep B
    replace Nq20 := Nq20.keep B
    replace Xg23 := Xg23.keep B
    clear B
    refine t 60 (.tuple #[.agg #[.slice aq25 nq25 cq25], .int .i64 0]) ?_
    refine t 66 (.agg #[.slice aq25 nq25 cq25]) ?_
    refine t 67 (.int .i64 0) ?_
    have lXg2 := Xg2.lt
    have lXg4 := Xg4.lt
    have lNv7 := Nv7.lt
    have lNv8 := Nv8.lt
    have lNv9 := Nv9.lt
    have lNv10 := Nv10.lt
    have lXg13 := Xg13.lt
    have lNq15 := Nq15.lt
    have lXg18 := Xg18.lt
    have lNq20 := Nq20.lt
    have lXg23 := Xg23.lt
    have lNq25 := Nq25.lt
    refine ta 10 [.slice none 0 0] 26 (pg) ?_
    intro v27 g28 Xg28 hg28 B
    replace BB := joinB BB B
    replace Xg2 := Xg2.keep B
    replace Xg4 := Xg4.keep B
    replace Nv7 := Nv7.keep B
    replace Nv8 := Nv8.keep B
    replace Nv9 := Nv9.keep B
    replace Nv10 := Nv10.keep B
    replace Xg13 := Xg13.keep B
    replace Nq15 := Nq15.keep B
    replace Xg18 := Xg18.keep B
    replace Nq20 := Nq20.keep B
    replace Xg23 := Xg23.keep B
    replace Nq25 := Nq25.keep B
    clear B
    refine ts Xg28 0 (.agg #[.slice aq25 nq25 cq25]) [.slice aq25 nq25 cq25] [.slice aq25 nq25 cq25] ?_
    intro v29 Y C
    replace BB := belowC BB C (by omega)
    replace Xg2 := Xg2.chg C (show g2 ≠ g28 by omega)
    replace Xg4 := Xg4.chg C (show g4 ≠ g28 by omega)
    replace Nv7 := Nv7.cell C (show nv7 = 0 ∨ zv7 ≠ g28 by omega)
    replace Nv8 := Nv8.cell C (show nv8 = 0 ∨ zv8 ≠ g28 by omega)
    replace Nv9 := Nv9.cell C (show nv9 = 0 ∨ zv9 ≠ g28 by omega)
    replace Nv10 := Nv10.cell C (show nv10 = 0 ∨ zv10 ≠ g28 by omega)
    replace Xg13 := Xg13.chg C (show g13 ≠ g28 by omega)
    replace Nq15 := Nq15.cell C (show nq15 = 0 ∨ zq15 ≠ g28 by omega)
    replace Xg18 := Xg18.chg C (show g18 ≠ g28 by omega)
    replace Nq20 := Nq20.cell C (show nq20 = 0 ∨ zq20 ≠ g28 by omega)
    replace Xg23 := Xg23.chg C (show g23 ≠ g28 by omega)
    replace Nq25 := Nq25.cell C (show nq25 = 0 ∨ zq25 ≠ g28 by omega)
    clear C Xg28
    have Xg28 := Y
    clear Y
    refine t 11 (.int .i64 0) ?_
    refine gl_nil ?_
    refine ge_then ?_
    refine gc_fr [(2, pg g2), (3, pg g4), (4, .bool false), (5, pg g13), (6, pg g18), (7, .int .i64 0), (8, pg g23), (9, .int .i64 0), (10, pg g28), (11, .int .i64 0)] (by kernel_rfl) ?_
    refine gc_seq ?_
    refine gc_seq ?_
    replace BB := BB.drew
    replace Xg2 := Xg2.drew
    replace Xg4 := Xg4.drew
    replace Nv7 := Nv7.drew
    replace Nv8 := Nv8.drew
    replace Nv9 := Nv9.drew
    replace Nv10 := Nv10.drew
    replace Xg13 := Xg13.drew
    replace Nq15 := Nq15.drew
    replace Xg18 := Xg18.drew
    replace Nq20 := Nq20.drew
    replace Xg23 := Xg23.drew
    replace Nq25 := Nq25.drew
    replace Xg28 := Xg28.drew
    refine gc_draw (fun w' => Blk w' g18 [.slice aq15 nq15 cq15] 26 ∧ Blk w' g23 [.slice aq20 nq20 cq20] 26 ∧ Blk w' g4 [.slice a4 n4 c4] 26 ∧ Blk w' g28 [.slice aq25 nq25 cq25] 26 ∧ Blk w' g13 [.int .u64 rt, .int .u64 tk, .slice av7 nv7 cv7, .bool jl, .int .u64 un, .bool bo, .int .u64 pe, .slice av8 nv8 cv8, .slice av9 nv9 cv9, .slice av10 nv10 cv10] 28 ∧ Blk w' g2 [.int .u64 rt, .int .u64 tk, .slice a0 n0 c0, .bool jl, .int .u64 un, .bool bo, .int .u64 pe, .slice a1 n1 c1, .slice a2 n2 c2, .slice a3 n3 c3] 28) (fun _ => false) ⟨Xg18, Xg23, Xg4, Xg28, Xg13, Xg2⟩ ?_
    refine z 0 68 (.int .i64 0) ?_
    refine z 1 69 (.int .i64 0) ?_
    refine z 2 70 (.int .i64 0) ?_
    refine z 3 71 (.int .i64 0) ?_
    refine z 4 72 (.int .i64 0) ?_
    refine z 5 73 (.bool false) ?_
    refine z 6 74 (.bool false) ?_
    refine zlr 7 75 [.slice aq15 nq15 cq15] (fun _ h => h.1) 0 ?_
    refine zlr 8 76 [.slice aq20 nq20 cq20] (fun _ h => h.2.1) 0 ?_
    refine zlr 10 78 [.slice a4 n4 c4] (fun _ h => h.2.2.1) 0 ?_
    have lXg2 := Xg2.lt
    have lXg4 := Xg4.lt
    have lXg13 := Xg13.lt
    have lXg18 := Xg18.lt
    have lXg23 := Xg23.lt
    have lXg28 := Xg28.lt
    refine zc 9 77 8 #[.agg #[.slice aq15 nq15 cq15], .agg #[.slice aq20 nq20 cq20]] (eAdd Nq15.nat (by omega) Nq20.nat (by omega)) ?_
    rintro _ v31 ⟨aq30, nq30, cq30, zq30, rfl, Nq30, hq30, mq30, B⟩
    replace BB := joinB BB B
    replace Xg2 := Xg2.keep B
    replace Xg4 := Xg4.keep B
    replace Nv7 := Nv7.keep B
    replace Nv8 := Nv8.keep B
    replace Nv9 := Nv9.keep B
    replace Nv10 := Nv10.keep B
    replace Xg13 := Xg13.keep B
    replace Nq15 := Nq15.keep B
    replace Xg18 := Xg18.keep B
    replace Nq20 := Nq20.keep B
    replace Xg23 := Xg23.keep B
    replace Nq25 := Nq25.keep B
    replace Xg28 := Xg28.keep B
    clear B
    refine ⟨_, rfl, ⟨Xg18, Xg23, Xg4, Xg28, Xg13, Xg2⟩, ?_⟩
    have lXg2 := Xg2.lt
    have lXg4 := Xg4.lt
    have lXg13 := Xg13.lt
    have lXg18 := Xg18.lt
    have lXg23 := Xg23.lt
    have lXg28 := Xg28.lt
    refine zc 11 79 7 #[.agg #[.slice aq30 nq30 cq30], .agg #[.slice a4 n4 c4]] (dCmpEq Nq30.nat (h4.keep BB) (by omega) (by omega) (hcu)) ?_
    rintro _ v32 ⟨rfl, B⟩
    replace BB := joinB BB B
    replace Xg2 := Xg2.keep B
    replace Xg4 := Xg4.keep B
    replace Nv7 := Nv7.keep B
    replace Nv8 := Nv8.keep B
    replace Nv9 := Nv9.keep B
    replace Nv10 := Nv10.keep B
    replace Xg13 := Xg13.keep B
    replace Nq15 := Nq15.keep B
    replace Xg18 := Xg18.keep B
    replace Nq20 := Nq20.keep B
    replace Xg23 := Xg23.keep B
    replace Nq25 := Nq25.keep B
    replace Xg28 := Xg28.keep B
    replace Nq30 := Nq30.keep B
    clear B
    refine ⟨_, rfl, ⟨Xg18, Xg23, Xg4, Xg28, Xg13, Xg2⟩, ?_⟩
    refine z 12 80 (.bool false) ?_
    refine z 13 81 (.bool false) ?_
    refine z 14 82 (.bool false) ?_
    refine zlr 15 83 [.slice aq25 nq25 cq25] (fun _ h => h.2.2.2.1) 0 ?_
    refine zlr 16 84 [.slice a4 n4 c4] (fun _ h => h.2.2.1) 0 ?_
    have lXg2 := Xg2.lt
    have lXg4 := Xg4.lt
    have lXg13 := Xg13.lt
    have lXg18 := Xg18.lt
    have lXg23 := Xg23.lt
    have lXg28 := Xg28.lt
    refine zc 17 85 7 #[.agg #[.slice aq25 nq25 cq25], .agg #[.slice a4 n4 c4]] (dCmpEq Nq25.nat (h4.keep BB) (by omega) (by omega) (rfl)) ?_
    rintro _ v33 ⟨rfl, B⟩
    replace BB := joinB BB B
    replace Xg2 := Xg2.keep B
    replace Xg4 := Xg4.keep B
    replace Nv7 := Nv7.keep B
    replace Nv8 := Nv8.keep B
    replace Nv9 := Nv9.keep B
    replace Nv10 := Nv10.keep B
    replace Xg13 := Xg13.keep B
    replace Nq15 := Nq15.keep B
    replace Xg18 := Xg18.keep B
    replace Nq20 := Nq20.keep B
    replace Xg23 := Xg23.keep B
    replace Nq25 := Nq25.keep B
    replace Xg28 := Xg28.keep B
    replace Nq30 := Nq30.keep B
    clear B
    refine ⟨_, rfl, ⟨Xg18, Xg23, Xg4, Xg28, Xg13, Xg2⟩, ?_⟩
    refine z 18 86 (.bool false) ?_
    refine z 19 87 (.bool false) ?_
    refine z 20 88 (.bool false) ?_
    refine z 21 89 (pg g13) ?_
    refine zl 22 90 (.int .u64 rt) (fun _ h => h.2.2.2.2.1) 0 ?_
    refine z 23 91 (pg g2) ?_
    refine zl 24 92 (.int .u64 rt) (fun _ h => h.2.2.2.2.2) 0 ?_
    refine zq 25 93 (.bool ((rt : Int) != rt)) (.bool false) (congrArg Value.bool (bne_self_eq_false _)) ?_
    refine z 26 94 (.bool false) ?_
    refine z 27 95 (.bool false) ?_
    refine z 28 96 (pq g13 1) ?_
    refine zl 29 97 (.int .u64 tk) (fun _ h => h.2.2.2.2.1) 1 ?_
    refine z 30 98 (pq g2 1) ?_
    refine zl 31 99 (.int .u64 tk) (fun _ h => h.2.2.2.2.2) 1 ?_
    refine zq 32 100 (.bool ((tk : Int) != tk)) (.bool false) (congrArg Value.bool (bne_self_eq_false _)) ?_
    refine z 33 101 (.bool false) ?_
    refine z 34 102 (.bool false) ?_
    refine z 35 103 (pq g13 6) ?_
    refine zl 36 104 (.int .u64 pe) (fun _ h => h.2.2.2.2.1) 6 ?_
    refine z 37 105 (pq g2 6) ?_
    refine zl 38 106 (.int .u64 pe) (fun _ h => h.2.2.2.2.2) 6 ?_
    refine zq 39 107 (.bool ((pe : Int) != pe)) (.bool false) (congrArg Value.bool (bne_self_eq_false _)) ?_
    refine z 40 108 (.bool false) ?_
    refine z 41 109 (.bool false) ?_
    refine z 42 110 (pq g13 2) ?_
    refine zlr 43 111 [.slice av7 nv7 cv7] (fun _ h => h.2.2.2.2.1) 2 ?_
    refine z 44 112 (pq g2 2) ?_
    refine zlr 45 113 [.slice a0 n0 c0] (fun _ h => h.2.2.2.2.2) 2 ?_
    have lXg2 := Xg2.lt
    have lXg4 := Xg4.lt
    have lXg13 := Xg13.lt
    have lXg18 := Xg18.lt
    have lXg23 := Xg23.lt
    have lXg28 := Xg28.lt
    refine zc 46 114 7 #[.agg #[.slice av7 nv7 cv7], .agg #[.slice a0 n0 c0]] (dCmpEq Nv7.nat (h0.keep BB) (by omega) (by omega) (rfl)) ?_
    rintro _ v34 ⟨rfl, B⟩
    replace BB := joinB BB B
    replace Xg2 := Xg2.keep B
    replace Xg4 := Xg4.keep B
    replace Nv7 := Nv7.keep B
    replace Nv8 := Nv8.keep B
    replace Nv9 := Nv9.keep B
    replace Nv10 := Nv10.keep B
    replace Xg13 := Xg13.keep B
    replace Nq15 := Nq15.keep B
    replace Xg18 := Xg18.keep B
    replace Nq20 := Nq20.keep B
    replace Xg23 := Xg23.keep B
    replace Nq25 := Nq25.keep B
    replace Xg28 := Xg28.keep B
    replace Nq30 := Nq30.keep B
    clear B
    refine ⟨_, rfl, ⟨Xg18, Xg23, Xg4, Xg28, Xg13, Xg2⟩, ?_⟩
    refine z 47 115 (.bool false) ?_
    refine z 48 116 (.bool false) ?_
    refine z 49 117 (.bool false) ?_
    refine z 50 118 (pq g13 3) ?_
    refine zl 51 119 (.bool jl) (fun _ h => h.2.2.2.2.1) 3 ?_
    refine z 52 120 (pq g2 3) ?_
    refine zl 53 121 (.bool jl) (fun _ h => h.2.2.2.2.2) 3 ?_
    refine zr 54 122 (.bool false) (fun _ _ => run_nb (b := jl)) ?_
    refine z 55 123 (.bool false) ?_
    refine z 56 124 (.bool false) ?_
    refine z 57 125 (pq g13 5) ?_
    refine zl 58 126 (.bool bo) (fun _ h => h.2.2.2.2.1) 5 ?_
    refine z 59 127 (pq g2 5) ?_
    refine zl 60 128 (.bool bo) (fun _ h => h.2.2.2.2.2) 5 ?_
    refine zr 61 129 (.bool false) (fun _ _ => run_nb (b := bo)) ?_
    refine z 62 130 (.bool false) ?_
    refine z 63 131 (.bool false) ?_
    refine z 64 132 (pq g13 4) ?_
    refine zl 65 133 (.int .u64 un) (fun _ h => h.2.2.2.2.1) 4 ?_
    refine z 66 134 (pq g2 4) ?_
    refine zl 67 135 (.int .u64 un) (fun _ h => h.2.2.2.2.2) 4 ?_
    refine zq 68 136 (.bool ((un : Int) != un)) (.bool false) (congrArg Value.bool (bne_self_eq_false _)) ?_
    refine z 69 137 (.bool false) ?_
    refine gz_done ?_
    refine ge_then ?_
    refine gc_fr [(2, pg g2), (3, pg g4), (4, .bool false), (6, pg g18), (137, .bool false)] (by kernel_rfl) ?_
    refine gc_no ?_
    refine gc_skip ?_
    refine ge_then ?_
    refine gc_seq ?_
    refine gc_reg ?_
    refine t 138 (pg g2) ?_
    refine tl 139 (.int .u64 rt) Xg2 0 ?_
    refine tr 140 (.int .u64 (mn rt)) (run_mn) ?_
    have lXg2 := Xg2.lt
    have lXg4 := Xg4.lt
    have lXg13 := Xg13.lt
    have lXg18 := Xg18.lt
    have lXg23 := Xg23.lt
    have lXg28 := Xg28.lt
    refine tc 141 9 #[.int .u64 (mn rt)] (nfOf (x := (mn rt)) hmn.1 hmn.2) ?_
    rintro _ v36 ⟨aq35, nq35, cq35, zq35, rfl, Nq35, hq35, mq35, B⟩
    refine ⟨_, rfl, ?_⟩
    replace BB := joinB BB B
    replace Xg2 := Xg2.keep B
    replace Xg4 := Xg4.keep B
    replace Nv7 := Nv7.keep B
    replace Nv8 := Nv8.keep B
    replace Nv9 := Nv9.keep B
    replace Nv10 := Nv10.keep B
    replace Xg13 := Xg13.keep B
    replace Nq15 := Nq15.keep B
    replace Xg18 := Xg18.keep B
    replace Nq20 := Nq20.keep B
    replace Xg23 := Xg23.keep B
    replace Nq25 := Nq25.keep B
    replace Xg28 := Xg28.keep B
    replace Nq30 := Nq30.keep B
    clear B
    refine t 12 (.slice aq35 nq35 cq35) ?_
    refine gl_nil ?_
    refine ge_then ?_
    refine gc_seq ?_
    replace BB := BB.drew
    replace Xg2 := Xg2.drew
    replace Xg4 := Xg4.drew
    replace Nv7 := Nv7.drew
    replace Nv8 := Nv8.drew
    replace Nv9 := Nv9.drew
    replace Nv10 := Nv10.drew
    replace Xg13 := Xg13.drew
    replace Nq15 := Nq15.drew
    replace Xg18 := Xg18.drew
    replace Nq20 := Nq20.drew
    replace Xg23 := Xg23.drew
    replace Nq25 := Nq25.drew
    replace Xg28 := Xg28.drew
    replace Nq30 := Nq30.drew
    replace Nq35 := Nq35.drew
    refine gc_draw (fun w' => Blk w' g4 [.slice a4 n4 c4] 26 ∧ Blk w' g18 [.slice aq15 nq15 cq15] 26) (fun _ => false) ⟨Xg4, Xg18⟩ ?_
    refine z 0 142 (pg g4) ?_
    refine zl 1 143 (.slice a4 n4 c4) (fun _ h => h.1) 0 ?_
    refine z 2 144 (.slice aq35 nq35 cq35) ?_
    refine z 4 146 (pg g18) ?_
    refine zl 5 147 (.slice aq15 nq15 cq15) (fun _ h => h.2) 0 ?_
    have lXg2 := Xg2.lt
    have lXg4 := Xg4.lt
    have lXg13 := Xg13.lt
    have lXg18 := Xg18.lt
    have lXg23 := Xg23.lt
    have lXg28 := Xg28.lt
    refine zc 3 145 10 #[.slice a4 n4 c4, .slice aq35 nq35 cq35] (nfMul (h4.keep BB) Nq35.nat (by omega) (by omega)) ?_
    rintro _ v38 ⟨aq37, nq37, cq37, zq37, rfl, Nq37, hq37, mq37, B⟩
    replace BB := joinB BB B
    replace Xg2 := Xg2.keep B
    replace Xg4 := Xg4.keep B
    replace Nv7 := Nv7.keep B
    replace Nv8 := Nv8.keep B
    replace Nv9 := Nv9.keep B
    replace Nv10 := Nv10.keep B
    replace Xg13 := Xg13.keep B
    replace Nq15 := Nq15.keep B
    replace Xg18 := Xg18.keep B
    replace Nq20 := Nq20.keep B
    replace Xg23 := Xg23.keep B
    replace Nq25 := Nq25.keep B
    replace Xg28 := Xg28.keep B
    replace Nq30 := Nq30.keep B
    replace Nq35 := Nq35.keep B
    clear B
    refine ⟨_, rfl, ⟨Xg4, Xg18⟩, ?_⟩
    have lXg2 := Xg2.lt
    have lXg4 := Xg4.lt
    have lXg13 := Xg13.lt
    have lXg18 := Xg18.lt
    have lXg23 := Xg23.lt
    have lXg28 := Xg28.lt
    refine zc 6 148 9 #[.int .u64 10000] (nfOf (x := 10000) (by decide) (by decide)) ?_
    rintro _ v40 ⟨aq39, nq39, cq39, zq39, rfl, Nq39, hq39, mq39, B⟩
    replace BB := joinB BB B
    replace Xg2 := Xg2.keep B
    replace Xg4 := Xg4.keep B
    replace Nv7 := Nv7.keep B
    replace Nv8 := Nv8.keep B
    replace Nv9 := Nv9.keep B
    replace Nv10 := Nv10.keep B
    replace Xg13 := Xg13.keep B
    replace Nq15 := Nq15.keep B
    replace Xg18 := Xg18.keep B
    replace Nq20 := Nq20.keep B
    replace Xg23 := Xg23.keep B
    replace Nq25 := Nq25.keep B
    replace Xg28 := Xg28.keep B
    replace Nq30 := Nq30.keep B
    replace Nq35 := Nq35.keep B
    replace Nq37 := Nq37.keep B
    clear B
    refine ⟨_, rfl, ⟨Xg4, Xg18⟩, ?_⟩
    have lXg2 := Xg2.lt
    have lXg4 := Xg4.lt
    have lXg13 := Xg13.lt
    have lXg18 := Xg18.lt
    have lXg23 := Xg23.lt
    have lXg28 := Xg28.lt
    refine zc 7 149 10 #[.slice aq15 nq15 cq15, .slice aq39 nq39 cq39] (nfMul Nq15.nat Nq39.nat (by omega) (by omega)) ?_
    rintro _ v42 ⟨aq41, nq41, cq41, zq41, rfl, Nq41, hq41, mq41, B⟩
    replace BB := joinB BB B
    replace Xg2 := Xg2.keep B
    replace Xg4 := Xg4.keep B
    replace Nv7 := Nv7.keep B
    replace Nv8 := Nv8.keep B
    replace Nv9 := Nv9.keep B
    replace Nv10 := Nv10.keep B
    replace Xg13 := Xg13.keep B
    replace Nq15 := Nq15.keep B
    replace Xg18 := Xg18.keep B
    replace Nq20 := Nq20.keep B
    replace Xg23 := Xg23.keep B
    replace Nq25 := Nq25.keep B
    replace Xg28 := Xg28.keep B
    replace Nq30 := Nq30.keep B
    replace Nq35 := Nq35.keep B
    replace Nq37 := Nq37.keep B
    replace Nq39 := Nq39.keep B
    clear B
    refine ⟨_, rfl, ⟨Xg4, Xg18⟩, ?_⟩
    refine z 8 13 (.slice aq37 nq37 cq37) ?_
    refine z 9 14 (.slice aq41 nq41 cq41) ?_
    refine gz_done ?_
    refine ge_then ?_
    refine gc_fr [(4, .bool false), (13, .slice aq37 nq37 cq37), (14, .slice aq41 nq41 cq41)] (by kernel_rfl) ?_
    refine gc_seq ?_
    refine gc_reg ?_
    refine t 150 (.slice aq41 nq41 cq41) ?_
    refine t 151 (.slice aq37 nq37 cq37) ?_
    have lXg2 := Xg2.lt
    have lXg4 := Xg4.lt
    have lXg13 := Xg13.lt
    have lXg18 := Xg18.lt
    have lXg23 := Xg23.lt
    have lXg28 := Xg28.lt
    refine tc 152 11 #[.slice aq41 nq41 cq41, .slice aq37 nq37 cq37] (cmpLe Nq41.nat Nq37.nat (by omega) (by omega) (por_lo x4 rt)) ?_
    rintro _ v43 ⟨rr, rfl, hrr, B⟩
    refine ⟨_, rfl, ?_⟩
    replace BB := joinB BB B
    replace Xg2 := Xg2.keep B
    replace Xg4 := Xg4.keep B
    replace Nv7 := Nv7.keep B
    replace Nv8 := Nv8.keep B
    replace Nv9 := Nv9.keep B
    replace Nv10 := Nv10.keep B
    replace Xg13 := Xg13.keep B
    replace Nq15 := Nq15.keep B
    replace Xg18 := Xg18.keep B
    replace Nq20 := Nq20.keep B
    replace Xg23 := Xg23.keep B
    replace Nq25 := Nq25.keep B
    replace Xg28 := Xg28.keep B
    replace Nq30 := Nq30.keep B
    replace Nq35 := Nq35.keep B
    replace Nq37 := Nq37.keep B
    replace Nq39 := Nq39.keep B
    replace Nq41 := Nq41.keep B
    clear B
    refine tq 153 (.bool (decide ((rr : Int) ≤ 0))) (.bool true) (congrArg Value.bool (decide_eq_true hrr)) ?_
    refine t 154 (.bool true) ?_
    refine t 155 (.slice aq41 nq41 cq41) ?_
    have lXg2 := Xg2.lt
    have lXg4 := Xg4.lt
    have lXg13 := Xg13.lt
    have lXg18 := Xg18.lt
    have lXg23 := Xg23.lt
    have lXg28 := Xg28.lt
    refine tc 156 9 #[.int .u64 10000] (nfOf (x := 10000) (by decide) (by decide)) ?_
    rintro _ v45 ⟨aq44, nq44, cq44, zq44, rfl, Nq44, hq44, mq44, B⟩
    refine ⟨_, rfl, ?_⟩
    replace BB := joinB BB B
    replace Xg2 := Xg2.keep B
    replace Xg4 := Xg4.keep B
    replace Nv7 := Nv7.keep B
    replace Nv8 := Nv8.keep B
    replace Nv9 := Nv9.keep B
    replace Nv10 := Nv10.keep B
    replace Xg13 := Xg13.keep B
    replace Nq15 := Nq15.keep B
    replace Xg18 := Xg18.keep B
    replace Nq20 := Nq20.keep B
    replace Xg23 := Xg23.keep B
    replace Nq25 := Nq25.keep B
    replace Xg28 := Xg28.keep B
    replace Nq30 := Nq30.keep B
    replace Nq35 := Nq35.keep B
    replace Nq37 := Nq37.keep B
    replace Nq39 := Nq39.keep B
    replace Nq41 := Nq41.keep B
    clear B
    have lXg2 := Xg2.lt
    have lXg4 := Xg4.lt
    have lXg13 := Xg13.lt
    have lXg18 := Xg18.lt
    have lXg23 := Xg23.lt
    have lXg28 := Xg28.lt
    refine tc 157 12 #[.slice aq41 nq41 cq41, .slice aq44 nq44 cq44] (nfAdd Nq41.nat Nq44.nat (by omega) (by omega)) ?_
    rintro _ v47 ⟨aq46, nq46, cq46, zq46, rfl, Nq46, hq46, mq46, B⟩
    refine ⟨_, rfl, ?_⟩
    replace BB := joinB BB B
    replace Xg2 := Xg2.keep B
    replace Xg4 := Xg4.keep B
    replace Nv7 := Nv7.keep B
    replace Nv8 := Nv8.keep B
    replace Nv9 := Nv9.keep B
    replace Nv10 := Nv10.keep B
    replace Xg13 := Xg13.keep B
    replace Nq15 := Nq15.keep B
    replace Xg18 := Xg18.keep B
    replace Nq20 := Nq20.keep B
    replace Xg23 := Xg23.keep B
    replace Nq25 := Nq25.keep B
    replace Xg28 := Xg28.keep B
    replace Nq30 := Nq30.keep B
    replace Nq35 := Nq35.keep B
    replace Nq37 := Nq37.keep B
    replace Nq39 := Nq39.keep B
    replace Nq41 := Nq41.keep B
    replace Nq44 := Nq44.keep B
    clear B
    refine t 158 (.slice aq37 nq37 cq37) ?_
    have lXg2 := Xg2.lt
    have lXg4 := Xg4.lt
    have lXg13 := Xg13.lt
    have lXg18 := Xg18.lt
    have lXg23 := Xg23.lt
    have lXg28 := Xg28.lt
    refine tc 159 11 #[.slice aq46 nq46 cq46, .slice aq37 nq37 cq37] (cmpGt Nq46.nat Nq37.nat (by omega) (by omega) (por_hi x4 rt)) ?_
    rintro _ v48 ⟨rfl, B⟩
    refine ⟨_, rfl, ?_⟩
    replace BB := joinB BB B
    replace Xg2 := Xg2.keep B
    replace Xg4 := Xg4.keep B
    replace Nv7 := Nv7.keep B
    replace Nv8 := Nv8.keep B
    replace Nv9 := Nv9.keep B
    replace Nv10 := Nv10.keep B
    replace Xg13 := Xg13.keep B
    replace Nq15 := Nq15.keep B
    replace Xg18 := Xg18.keep B
    replace Nq20 := Nq20.keep B
    replace Xg23 := Xg23.keep B
    replace Nq25 := Nq25.keep B
    replace Xg28 := Xg28.keep B
    replace Nq30 := Nq30.keep B
    replace Nq35 := Nq35.keep B
    replace Nq37 := Nq37.keep B
    replace Nq39 := Nq39.keep B
    replace Nq41 := Nq41.keep B
    replace Nq44 := Nq44.keep B
    replace Nq46 := Nq46.keep B
    clear B
    refine t 160 (.bool true) ?_
    refine t 161 (.bool true) ?_
    refine t 4 (.bool true) ?_
    refine gl_nil ?_
    refine ge_then ?_
    refine gc_fr [(4, .bool true)] (by kernel_rfl) ?_
    refine gc_ret ?_
    refine ge_ret (.bool true) (rs1 4 (by kernel_rfl) (by kernel_rfl)) ?_
    exact ⟨rfl, BB⟩
end distGiveL
end Fo
end Go.Proofs.YtgdohcdlkonhiaaGreatDoor
