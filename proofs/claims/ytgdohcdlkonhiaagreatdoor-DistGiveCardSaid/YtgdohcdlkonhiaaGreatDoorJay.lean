/- Several texts, joined: DiB. -/
import Derived.Test.YtgdohcdlkonhiaaGreatDoorJaw
namespace Go.Proofs.YtgdohcdlkonhiaaGreatDoor
namespace Fo
open Go.RowKit Go.Lib Pg Lim Gl
attribute [local go_sem] Oper.semAt_some
set_option maxRecDepth 100000
set_option linter.unusedVariables false
set_option linter.unusedSimpArgs false
set_option maxHeartbeats 2000000
def mn (y : Int) : Int := if y ≤ 10000 then y else 10000
theorem mn_rng {y : Int} (hy : 0 ≤ y) : 0 ≤ mn y ∧ mn y < 18446744073709551616 := by unfold mn; split <;> omega
theorem run_mn {ρ : Operand → Value} {w : World} {o : Oper} {y : Int} (ho : ∃ u v t, o.op = .call ⟨.builtin .min, #[u, v], t⟩ ∧ ρ u = .int .u64 y ∧ ρ v = .int .u64 10000 := by exact ⟨_, _, _, rfl, by kernel_rfl, by kernel_rfl⟩) : (execOp ρ o).run Tryz.prog w = .ok (.value (.int .u64 (mn y))) w := by
  obtain ⟨u, v, t, h, h1, h2⟩ := ho
  unfold mn
  simp only [execOp, h]
  go_simp
  try simp [h1, h2]
  try split <;> simp_all
  try omega
theorem dOwn {w : World} {a0 : Option Addr} {n0 c0 : Nat} {x0 : Int} (h0 : NatA w a0 n0 c0 x0) (k0 : n0 ≤ 100000000000) : Calls Tryz.prog 88 #[.agg #[.slice a0 n0 c0]] w (NdE w (· ≤ n0 + 1) (x0)) := by
  have BB := Below.refl w.heap.size w
  refine gc_enter (n := 6) Tryz.func88 rfl (by kernel_rfl) (by kernel_rfl) ?_
  refine gc_seq ?_
  refine gc_reg ?_
  refine ta 1 [.slice a0 n0 c0] 26 (pg) ?_
  intro v1 g2 Xg2 hg2 B
  replace BB := joinB BB B
  clear B
  have lXg2 := Xg2.lt
  refine ta 2 [.slice none 0 0] 26 (pg) ?_
  intro v3 g4 Xg4 hg4 B
  replace BB := joinB BB B
  replace Xg2 := Xg2.keep B
  clear B
  refine gl_nil ?_
  refine ge_then ?_
  refine gc_seq ?_
  refine gc_reg ?_
  refine tlr 3 [.slice a0 n0 c0] Xg2 0 ?_
  refine t 4 (.agg #[.slice none 0 0]) ?_
  have lXg2 := Xg2.lt
  have lXg4 := Xg4.lt
  refine tc 5 8 #[.agg #[.slice a0 n0 c0], .agg #[.slice none 0 0]] (eAdd (h0.keep BB) (by omega) (nf_nil _ 0).nat (by omega)) ?_
  rintro _ v6 ⟨aq5, nq5, cq5, zq5, rfl, Nq5, hq5, mq5, B⟩
  refine ⟨_, rfl, ?_⟩
  replace BB := joinB BB B
  replace Xg2 := Xg2.keep B
  replace Xg4 := Xg4.keep B
  clear B
  refine ts Xg4 0 (.agg #[.slice aq5 nq5 cq5]) [.slice aq5 nq5 cq5] [.slice aq5 nq5 cq5] ?_
  intro v7 Y C
  replace BB := belowC BB C (by omega)
  replace Xg2 := Xg2.chg C (show g2 ≠ g4 by omega)
  replace Nq5 := Nq5.cell C (show nq5 = 0 ∨ zq5 ≠ g4 by omega)
  clear C Xg4
  have Xg4 := Y
  clear Y
  refine gl_nil ?_
  refine ge_then ?_
  refine gc_ret ?_
  refine ge_ret (.agg #[.slice aq5 nq5 cq5]) (rsc 2 (T := 26) (by kernel_rfl) (by kernel_rfl) (lr Xg4 0)) ?_
  exact ⟨_, _, _, _, rfl, Nq5.eqv (by omega), by omega, by omega, BB⟩
theorem dLess {w : World} {a0 : Option Addr} {n0 c0 : Nat} {x0 : Int} {a1 : Option Addr} {n1 c1 : Nat} {x1 : Int} (h0 : NatA w a0 n0 c0 x0) (k0 : n0 ≤ 100000000000) (h1 : NatA w a1 n1 c1 x1) (k1 : n1 ≤ 100000000000) : Calls Tryz.prog 35 #[.agg #[.slice a0 n0 c0], .agg #[.slice a1 n1 c1]] w (NdE w (· ≤ n0) (subV x0 x1)) := by
  have BB := Below.refl w.heap.size w
  refine gc_enter (n := 14) Tryz.func35 rfl (by kernel_rfl) (by kernel_rfl) ?_
  refine gc_seq ?_
  refine gc_reg ?_
  refine ta 2 [.slice a0 n0 c0] 26 (pg) ?_
  intro v1 g2 Xg2 hg2 B
  replace BB := joinB BB B
  clear B
  have lXg2 := Xg2.lt
  refine ta 3 [.slice a1 n1 c1] 26 (pg) ?_
  intro v3 g4 Xg4 hg4 B
  replace BB := joinB BB B
  replace Xg2 := Xg2.keep B
  clear B
  have lXg2 := Xg2.lt
  have lXg4 := Xg4.lt
  refine ta 4 [.slice none 0 0] 26 (pg) ?_
  intro v5 g6 Xg6 hg6 B
  replace BB := joinB BB B
  replace Xg2 := Xg2.keep B
  replace Xg4 := Xg4.keep B
  clear B
  refine gl_nil ?_
  refine ge_then ?_
  refine gc_seq ?_
  refine gc_reg ?_
  refine tlr 8 [.slice a0 n0 c0] Xg2 0 ?_
  refine tlr 9 [.slice a1 n1 c1] Xg4 0 ?_
  have lXg2 := Xg2.lt
  have lXg4 := Xg4.lt
  have lXg6 := Xg6.lt
  refine tc 10 6 #[.agg #[.slice a0 n0 c0], .agg #[.slice a1 n1 c1]] (eSub (h0.keep BB) (by omega) (h1.keep BB) (by omega)) ?_
  rintro _ v8 ⟨aq7, nq7, cq7, zq7, rfl, Nq7, hq7, mq7, B⟩
  refine ⟨_, rfl, ?_⟩
  replace BB := joinB BB B
  replace Xg2 := Xg2.keep B
  replace Xg4 := Xg4.keep B
  replace Xg6 := Xg6.keep B
  clear B
  refine t 7 (.tuple #[.agg #[.slice aq7 nq7 cq7], .int .i64 (sbE x0 x1)]) ?_
  refine t 11 (.agg #[.slice aq7 nq7 cq7]) ?_
  refine t 12 (.int .i64 (sbE x0 x1)) ?_
  have lXg2 := Xg2.lt
  have lXg4 := Xg4.lt
  have lXg6 := Xg6.lt
  have lNq7 := Nq7.lt
  refine ta 5 [.slice none 0 0] 26 (pg) ?_
  intro v9 g10 Xg10 hg10 B
  replace BB := joinB BB B
  replace Xg2 := Xg2.keep B
  replace Xg4 := Xg4.keep B
  replace Xg6 := Xg6.keep B
  replace Nq7 := Nq7.keep B
  clear B
  refine ts Xg10 0 (.agg #[.slice aq7 nq7 cq7]) [.slice aq7 nq7 cq7] [.slice aq7 nq7 cq7] ?_
  intro v11 Y C
  replace BB := belowC BB C (by omega)
  replace Xg2 := Xg2.chg C (show g2 ≠ g10 by omega)
  replace Xg4 := Xg4.chg C (show g4 ≠ g10 by omega)
  replace Xg6 := Xg6.chg C (show g6 ≠ g10 by omega)
  replace Nq7 := Nq7.cell C (show nq7 = 0 ∨ zq7 ≠ g10 by omega)
  clear C Xg10
  have Xg10 := Y
  clear Y
  refine t 6 (.int .i64 (sbE x0 x1)) ?_
  refine gl_nil ?_
  refine ge_then ?_
  refine gc_fr [(4, pg g6), (5, pg g10)] (by kernel_rfl) ?_
  refine gc_seq ?_
  refine gc_reg ?_
  refine tlr 13 [.slice aq7 nq7 cq7] Xg10 0 ?_
  refine ts Xg6 0 (.agg #[.slice aq7 nq7 cq7]) [.slice aq7 nq7 cq7] [.slice aq7 nq7 cq7] ?_
  intro v12 Y C
  replace BB := belowC BB C (by omega)
  replace Xg2 := Xg2.chg C (show g2 ≠ g6 by omega)
  replace Xg4 := Xg4.chg C (show g4 ≠ g6 by omega)
  replace Nq7 := Nq7.cell C (show nq7 = 0 ∨ zq7 ≠ g6 by omega)
  replace Xg10 := Xg10.chg C (show g10 ≠ g6 by omega)
  clear C Xg6
  have Xg6 := Y
  clear Y
  refine gl_nil ?_
  refine ge_then ?_
  refine gc_ret ?_
  refine ge_ret (.agg #[.slice aq7 nq7 cq7]) (rsc 4 (T := 26) (by kernel_rfl) (by kernel_rfl) (lr Xg6 0)) ?_
  exact ⟨_, _, _, _, rfl, Nq7, by omega, by omega, BB⟩
theorem dCmpLt {w : World} {ao ao' : Option Addr} {n c n' c' : Nat} {x y : Int} (h : NatA w ao n c x) (h' : NatA w ao' n' c' y) (hn : n ≤ 1099511627776) (hn' : n' ≤ 1099511627776) (hxy : x ≤ y) : Calls Tryz.prog 7 #[.agg #[.slice ao n c], .agg #[.slice ao' n' c']] w fun e w' => ∃ r, e = .returned (.int .i64 r) ∧ r ≤ 0 ∧ Below w.heap.size w w' := by
  refine (dCmp h h' hn hn').mono ?_
  rintro e w' ⟨rfl, B⟩
  exact ⟨_, rfl, by unfold sgn; split <;> (try split) <;> omega, B⟩
theorem dLeast {w : World} {a0 : Option Addr} {n0 c0 : Nat} {x0 : Int} {a1 : Option Addr} {n1 c1 : Nat} {x1 : Int} (h0 : NatA w a0 n0 c0 x0) (k0 : n0 ≤ 100000000000) (h1 : NatA w a1 n1 c1 x1) (k1 : n1 ≤ 100000000000) (hle : x0 ≤ x1) : Calls Tryz.prog 149 #[.agg #[.slice a0 n0 c0], .agg #[.slice a1 n1 c1]] w fun e w' => e = .returned (.agg #[.slice a0 n0 c0]) ∧ Below w.heap.size w w' := by
  have BB := Below.refl w.heap.size w
  refine gc_enter (n := 11) Tryz.func149 rfl (by kernel_rfl) (by kernel_rfl) ?_
  refine gc_seq ?_
  refine gc_reg ?_
  refine ta 2 [.slice a0 n0 c0] 26 (pg) ?_
  intro v1 g2 Xg2 hg2 B
  replace BB := joinB BB B
  clear B
  have lXg2 := Xg2.lt
  refine ta 3 [.slice a1 n1 c1] 26 (pg) ?_
  intro v3 g4 Xg4 hg4 B
  replace BB := joinB BB B
  replace Xg2 := Xg2.keep B
  clear B
  have lXg2 := Xg2.lt
  have lXg4 := Xg4.lt
  refine ta 4 [.slice none 0 0] 26 (pg) ?_
  intro v5 g6 Xg6 hg6 B
  replace BB := joinB BB B
  replace Xg2 := Xg2.keep B
  replace Xg4 := Xg4.keep B
  clear B
  refine gl_nil ?_
  refine ge_then ?_
  refine gc_seq ?_
  refine gc_seq ?_
  refine gc_reg ?_
  refine tlr 5 [.slice a0 n0 c0] Xg2 0 ?_
  refine tlr 6 [.slice a1 n1 c1] Xg4 0 ?_
  have lXg2 := Xg2.lt
  have lXg4 := Xg4.lt
  have lXg6 := Xg6.lt
  refine tc 7 7 #[.agg #[.slice a0 n0 c0], .agg #[.slice a1 n1 c1]] (dCmpLt (h0.keep BB) (h1.keep BB) (by omega) (by omega) hle) ?_
  rintro _ v7 ⟨rr, rfl, hrr, B⟩
  refine ⟨_, rfl, ?_⟩
  replace BB := joinB BB B
  replace Xg2 := Xg2.keep B
  replace Xg4 := Xg4.keep B
  replace Xg6 := Xg6.keep B
  clear B
  refine tq 8 (.bool (decide ((0 : Int) < rr))) (.bool false) (congrArg Value.bool (decide_eq_false (by omega))) ?_
  refine gl_nil ?_
  refine ge_then ?_
  refine gc_no ?_
  refine gc_skip ?_
  refine ge_then ?_
  refine gc_seq ?_
  refine gc_reg ?_
  refine tlr 10 [.slice a0 n0 c0] Xg2 0 ?_
  refine ts Xg6 0 (.agg #[.slice a0 n0 c0]) [.slice a0 n0 c0] [.slice a0 n0 c0] ?_
  intro v8 Y C
  replace BB := belowC BB C (by omega)
  replace Xg2 := Xg2.chg C (show g2 ≠ g6 by omega)
  replace Xg4 := Xg4.chg C (show g4 ≠ g6 by omega)
  clear C Xg6
  have Xg6 := Y
  clear Y
  refine gl_nil ?_
  refine ge_then ?_
  refine gc_ret ?_
  refine ge_ret (.agg #[.slice a0 n0 c0]) (rsc 4 (T := 26) (by kernel_rfl) (by kernel_rfl) (lr Xg6 0)) ?_
  exact ⟨rfl, BB⟩
theorem eBasis {w : World} {y : Int} (hy : 0 ≤ y ∧ y < 18446744073709551616) : Calls Tryz.prog 87 #[.int .u64 y] w (NdE w (· ≤ 100) (U36 / 10000 * y)) := by
  have BB := Below.refl w.heap.size w
  refine gc_enter (n := 17) Tryz.func87 rfl (by kernel_rfl) (by kernel_rfl) ?_
  refine gc_seq ?_
  refine gc_reg ?_
  refine ta 2 [.slice none 0 0] 26 (pg) ?_
  intro v1 g2 Xg2 hg2 B
  replace BB := joinB BB B
  clear B
  refine gl_nil ?_
  refine ge_then ?_
  refine gc_seq ?_
  refine gc_reg ?_
  have lXg2 := Xg2.lt
  refine tc 7 116 #[] (dUnit) ?_
  rintro _ v4 ⟨aq3, nq3, cq3, rfl, Nq3, mq3, B⟩
  refine ⟨_, rfl, ?_⟩
  replace BB := joinB BB B
  replace Xg2 := Xg2.keep B
  clear B
  have lXg2 := Xg2.lt
  refine tc 8 9 #[.int .u64 10000] (nfOf (x := 10000) (by decide) (by decide)) ?_
  rintro _ v6 ⟨aq5, nq5, cq5, zq5, rfl, Nq5, hq5, mq5, B⟩
  refine ⟨_, rfl, ?_⟩
  replace BB := joinB BB B
  replace Xg2 := Xg2.keep B
  replace Nq3 := Nq3.keep B
  clear B
  have lXg2 := Xg2.lt
  refine tc 9 128 #[.slice aq3 nq3 cq3, .slice aq5 nq5 cq5] (nfDiv Nq3.a Nq5.nat (by omega) (by omega)) ?_
  rintro _ v8 ⟨aq7, nq7, cq7, zq7, bq7, rq7, dq7, yq7, rfl, Nq7, Rq7, hq7, gq7, mq7, kq7, B⟩
  refine ⟨_, rfl, ?_⟩
  replace BB := joinB BB B
  replace Xg2 := Xg2.keep B
  replace Nq3 := Nq3.keep B
  replace Nq5 := Nq5.keep B
  clear B
  refine t 6 (.tuple #[.slice aq7 nq7 cq7, .slice bq7 rq7 dq7, .int .i64 (divE 10000)]) ?_
  refine t 10 (.slice aq7 nq7 cq7) ?_
  refine t 11 (.slice bq7 rq7 dq7) ?_
  refine t 12 (.int .i64 (divE 10000)) ?_
  refine t 3 (.slice aq7 nq7 cq7) ?_
  refine t 4 (.slice bq7 rq7 dq7) ?_
  refine t 5 (.int .i64 (divE 10000)) ?_
  refine gl_nil ?_
  refine ge_then ?_
  refine gc_fr [(0, .int .u64 y), (2, pg g2), (3, .slice aq7 nq7 cq7)] (by kernel_rfl) ?_
  refine gc_seq ?_
  refine gc_reg ?_
  refine t 13 (.slice aq7 nq7 cq7) ?_
  refine t 14 (.agg #[.slice aq7 nq7 cq7]) ?_
  refine t 15 (.int .u64 y) ?_
  have lXg2 := Xg2.lt
  refine tc 16 156 #[.agg #[.slice aq7 nq7 cq7], .int .u64 y] (eTimes Nq7.nat (by omega) hy) ?_
  rintro _ v10 ⟨aq9, nq9, cq9, zq9, rfl, Nq9, hq9, mq9, B⟩
  refine ⟨_, rfl, ?_⟩
  replace BB := joinB BB B
  replace Xg2 := Xg2.keep B
  replace Nq3 := Nq3.keep B
  replace Nq5 := Nq5.keep B
  replace Nq7 := Nq7.keep B
  replace Rq7 := Rq7.keep B
  clear B
  refine ts Xg2 0 (.agg #[.slice aq9 nq9 cq9]) [.slice aq9 nq9 cq9] [.slice aq9 nq9 cq9] ?_
  intro v11 Y C
  replace BB := belowC BB C (by omega)
  clear Nq3
  replace Nq5 := Nq5.cell C (show nq5 = 0 ∨ zq5 ≠ g2 by omega)
  replace Nq7 := Nq7.cell C (show nq7 = 0 ∨ zq7 ≠ g2 by omega)
  replace Rq7 := Rq7.cell C (show rq7 = 0 ∨ yq7 ≠ g2 by omega)
  replace Nq9 := Nq9.cell C (show nq9 = 0 ∨ zq9 ≠ g2 by omega)
  clear C Xg2
  have Xg2 := Y
  clear Y
  refine gl_nil ?_
  refine ge_then ?_
  refine gc_ret ?_
  refine ge_ret (.agg #[.slice aq9 nq9 cq9]) (rsc 2 (T := 26) (by kernel_rfl) (by kernel_rfl) (lr Xg2 0)) ?_
  exact ⟨_, _, _, _, rfl, Nq9, by omega, by omega, BB⟩
def por (x y : Int) : Int := x * (U36 / 10000 * mn y) / U36
theorem dPor {w : World} {a0 : Option Addr} {n0 c0 : Nat} {x0 : Int} {y : Int} (h0 : NatA w a0 n0 c0 x0) (k0 : n0 ≤ 100000000000) (hy : 0 ≤ y ∧ y < 18446744073709551616) : Calls Tryz.prog 33 #[.agg #[.slice a0 n0 c0], .int .u64 y] w (NdE w (· ≤ n0 + 200) (por x0 y)) := by
  have BB := Below.refl w.heap.size w
  refine gc_enter (n := 10) Tryz.func33 rfl (by kernel_rfl) (by kernel_rfl) ?_
  refine gc_seq ?_
  refine gc_reg ?_
  refine ta 2 [.slice a0 n0 c0] 26 (pg) ?_
  intro v1 g2 Xg2 hg2 B
  replace BB := joinB BB B
  clear B
  have lXg2 := Xg2.lt
  refine ta 4 [.slice none 0 0] 26 (pg) ?_
  intro v3 g4 Xg4 hg4 B
  replace BB := joinB BB B
  replace Xg2 := Xg2.keep B
  clear B
  refine gl_nil ?_
  refine ge_then ?_
  refine gc_seq ?_
  replace BB := BB.drew
  replace Xg2 := Xg2.drew
  replace Xg4 := Xg4.drew
  refine gc_draw (fun w' => Blk w' g2 [.slice a0 n0 c0] 26) (fun _ => false) Xg2 ?_
  refine zlr 0 5 [.slice a0 n0 c0] (fun _ h => h) 0 ?_
  refine z 1 6 (.int .u64 y) ?_
  refine zr 2 7 (.int .u64 (mn y)) (fun _ _ => run_mn) ?_
  have lXg2 := Xg2.lt
  have lXg4 := Xg4.lt
  refine zc 3 8 87 #[.int .u64 (mn y)] (eBasis (mn_rng hy.1)) ?_
  rintro _ v6 ⟨aq5, nq5, cq5, zq5, rfl, Nq5, hq5, mq5, B⟩
  replace BB := joinB BB B
  replace Xg2 := Xg2.keep B
  replace Xg4 := Xg4.keep B
  clear B
  refine ⟨_, rfl, Xg2, ?_⟩
  have lXg2 := Xg2.lt
  have lXg4 := Xg4.lt
  refine zc 4 9 86 #[.agg #[.slice a0 n0 c0], .agg #[.slice aq5 nq5 cq5]] (eMul (h0.keep BB) (by omega) Nq5.nat (by omega)) ?_
  rintro _ v8 ⟨aq7, nq7, cq7, zq7, rfl, Nq7, hq7, mq7, B⟩
  replace BB := joinB BB B
  replace Xg2 := Xg2.keep B
  replace Xg4 := Xg4.keep B
  replace Nq5 := Nq5.keep B
  clear B
  refine ⟨_, rfl, Xg2, ?_⟩
  refine zs 5 Xg4 0 (.agg #[.slice aq7 nq7 cq7]) [.slice aq7 nq7 cq7] [.slice aq7 nq7 cq7] ?_
  intro v9 Y C
  replace BB := belowC BB C (by omega)
  replace Xg2 := Xg2.chg C (show g2 ≠ g4 by omega)
  replace Nq5 := Nq5.cell C (show nq5 = 0 ∨ zq5 ≠ g4 by omega)
  replace Nq7 := Nq7.cell C (show nq7 = 0 ∨ zq7 ≠ g4 by omega)
  clear C Xg4
  have Xg4 := Y
  clear Y
  refine ⟨Xg2, ?_⟩
  refine gz_done ?_
  refine ge_then ?_
  refine gc_ret ?_
  refine ge_ret (.agg #[.slice aq7 nq7 cq7]) (rsc 4 (T := 26) (by kernel_rfl) (by kernel_rfl) (lr Xg4 0)) ?_
  exact ⟨_, _, _, _, rfl, Nq7, by omega, by omega, BB⟩
theorem rstc {n : Nat} {l : Gl.Fr} {P : Program} {w : World} {fn : Func} (j k : Nat) {T : TypeId} {g : Nat} {u v : Value} (h : fn.results = #[.tmp j, .cell k T]) (hu : lk l j = some u) (hv : lk l k = some (.pointer (some ⟨g, 0, none⟩))) (hl : (loadVar T ⟨g, 0, none⟩).run P w = .ok v w) (a : Act) (r : Rd n [] l a) : (results fn a.tmps).run P w = .ok (.tuple #[u, v]) w := by
  have h1 := r.gD hu
  have h2 := r.gD hv
  simp at h1 h2
  simp [results, h, h1, h2, asAddr, hl]
structure TwE (w : World) (n : Nat) (V R : Int) (e : Ending) (w' : World) : Prop where
  ex : ∃ a k d z a' k' d' z', e = .returned (.tuple #[.slice a k d, .agg #[.slice a' k' d']]) ∧ Nf w' z a k d V ∧ Nf w' z' a' k' d' R ∧ (k = 0 ∨ w.heap.size ≤ z) ∧ (k' = 0 ∨ w.heap.size ≤ z') ∧ k ≤ n ∧ k' ≤ n ∧ Below w.heap.size w w'
theorem eTrunc2 {w : World} {a0 : Option Addr} {n0 c0 : Nat} {x0 : Int} (h0 : NatA w a0 n0 c0 x0) (k0 : n0 ≤ 1000000) : Calls Tryz.prog 70 #[.agg #[.slice a0 n0 c0]] w (TwE w (2 * n0 + 200) (x0 / U36) (x0 % U36)) := by
  have BB := Below.refl w.heap.size w
  refine gc_enter (n := 18) Tryz.func70 rfl (by kernel_rfl) (by kernel_rfl) ?_
  refine gc_seq ?_
  refine gc_reg ?_
  refine ta 1 [.slice a0 n0 c0] 26 (pg) ?_
  intro v1 g2 Xg2 hg2 B
  replace BB := joinB BB B
  clear B
  refine t 2 (.slice none 0 0) ?_
  have lXg2 := Xg2.lt
  refine ta 3 [.slice none 0 0] 26 (pg) ?_
  intro v3 g4 Xg4 hg4 B
  replace BB := joinB BB B
  replace Xg2 := Xg2.keep B
  clear B
  refine gl_nil ?_
  refine ge_then ?_
  refine gc_seq ?_
  replace BB := BB.drew
  replace Xg2 := Xg2.drew
  replace Xg4 := Xg4.drew
  refine gc_draw (fun w' => Blk w' g2 [.slice a0 n0 c0] 26) (fun _ => false) Xg2 ?_
  refine z 0 8 (pg g2) ?_
  refine zl 1 9 (.slice a0 n0 c0) (fun _ h => h) 0 ?_
  have lXg2 := Xg2.lt
  have lXg4 := Xg4.lt
  refine zc 2 10 116 #[] (dUnit) ?_
  rintro _ v6 ⟨aq5, nq5, cq5, rfl, Nq5, mq5, B⟩
  replace BB := joinB BB B
  replace Xg2 := Xg2.keep B
  replace Xg4 := Xg4.keep B
  clear B
  refine ⟨_, rfl, Xg2, ?_⟩
  have lXg2 := Xg2.lt
  have lXg4 := Xg4.lt
  refine zc 3 11 128 #[.slice a0 n0 c0, .slice aq5 nq5 cq5] (nfDiv (h0.keep BB) Nq5.a (by omega) (by omega)) ?_
  rintro _ v8 ⟨aq7, nq7, cq7, zq7, bq7, rq7, dq7, yq7, rfl, Nq7, Rq7, hq7, gq7, mq7, kq7, B⟩
  replace BB := joinB BB B
  replace Xg2 := Xg2.keep B
  replace Xg4 := Xg4.keep B
  replace Nq5 := Nq5.keep B
  clear B
  refine ⟨_, rfl, Xg2, ?_⟩
  refine z 4 7 (.tuple #[.slice aq7 nq7 cq7, .slice bq7 rq7 dq7, .int .i64 (divE U36)]) ?_
  refine z 5 12 (.slice aq7 nq7 cq7) ?_
  refine z 6 13 (.slice bq7 rq7 dq7) ?_
  refine z 7 14 (.int .i64 (divE U36)) ?_
  refine z 8 4 (.slice aq7 nq7 cq7) ?_
  refine z 9 5 (.slice bq7 rq7 dq7) ?_
  refine z 10 6 (.int .i64 (divE U36)) ?_
  refine gz_done ?_
  refine ge_then ?_
  refine gc_fr [(2, .slice none 0 0), (3, pg g4), (4, .slice aq7 nq7 cq7), (5, .slice bq7 rq7 dq7)] (by kernel_rfl) ?_
  refine gc_seq ?_
  refine gc_reg ?_
  refine t 15 (.slice aq7 nq7 cq7) ?_
  refine t 16 (.slice bq7 rq7 dq7) ?_
  refine t 17 (.agg #[.slice bq7 rq7 dq7]) ?_
  refine t 2 (.slice aq7 nq7 cq7) ?_
  refine ts Xg4 0 (.agg #[.slice bq7 rq7 dq7]) [.slice bq7 rq7 dq7] [.slice bq7 rq7 dq7] ?_
  intro v9 Y C
  replace BB := belowC BB C (by omega)
  replace Xg2 := Xg2.chg C (show g2 ≠ g4 by omega)
  clear Nq5
  replace Nq7 := Nq7.cell C (show nq7 = 0 ∨ zq7 ≠ g4 by omega)
  replace Rq7 := Rq7.cell C (show rq7 = 0 ∨ yq7 ≠ g4 by omega)
  clear C Xg4
  have Xg4 := Y
  clear Y
  refine gl_nil ?_
  refine ge_then ?_
  refine gc_ret ?_
  refine ge_ret (.tuple #[.slice aq7 nq7 cq7, .agg #[.slice bq7 rq7 dq7]]) (rstc 2 3 (T := 26) (by kernel_rfl) (by kernel_rfl) (by kernel_rfl) (lr Xg4 0)) ?_
  exact ⟨_, _, _, _, _, _, _, _, rfl, Nq7, Rq7.eqv (if_neg (by decide)), by omega, by omega, by omega, by omega, BB⟩
theorem dOwnVal {w : World} {a0 : Option Addr} {n0 c0 : Nat} {x0 : Int} {a1 : Option Addr} {n1 c1 : Nat} {x1 : Int} {a2 : Option Addr} {n2 c2 : Nat} {x2 : Int} {a3 : Option Addr} {n3 c3 : Nat} {x3 : Int} {rt tk un pe : Int} {jl bo : Bool} (h0 : NatA w a0 n0 c0 x0) (k0 : n0 ≤ 100000000000) (h1 : NatA w a1 n1 c1 x1) (k1 : n1 ≤ 100000000000) (h2 : NatA w a2 n2 c2 x2) (k2 : n2 ≤ 100000000000) (h3 : NatA w a3 n3 c3 x3) (k3 : n3 ≤ 100000000000) : Calls Tryz.prog 34 #[.agg #[.int .u64 rt, .int .u64 tk, .slice a0 n0 c0, .bool jl, .int .u64 un, .bool bo, .int .u64 pe, .slice a1 n1 c1, .slice a2 n2 c2, .slice a3 n3 c3]] w fun e w' => ∃ b0 m0 d0 y0 b1 m1 d1 y1 b2 m2 d2 y2 b3 m3 d3 y3, e = .returned (.agg #[.int .u64 rt, .int .u64 tk, .slice b0 m0 d0, .bool jl, .int .u64 un, .bool bo, .int .u64 pe, .slice b1 m1 d1, .slice b2 m2 d2, .slice b3 m3 d3]) ∧ Nf w' y0 b0 m0 d0 (x0) ∧ (m0 = 0 ∨ w.heap.size ≤ y0) ∧ m0 ≤ n0 + 1 ∧ Nf w' y1 b1 m1 d1 (x1) ∧ (m1 = 0 ∨ w.heap.size ≤ y1) ∧ m1 ≤ n1 + 1 ∧ Nf w' y2 b2 m2 d2 (x2) ∧ (m2 = 0 ∨ w.heap.size ≤ y2) ∧ m2 ≤ n2 + 1 ∧ Nf w' y3 b3 m3 d3 (x3) ∧ (m3 = 0 ∨ w.heap.size ≤ y3) ∧ m3 ≤ n3 + 1 ∧ Below w.heap.size w w' := by
  have BB := Below.refl w.heap.size w
  refine gc_enter (n := 25) Tryz.func34 rfl (by kernel_rfl) (by kernel_rfl) ?_
  refine gc_seq ?_
  refine gc_reg ?_
  refine ta 1 [.int .u64 rt, .int .u64 tk, .slice a0 n0 c0, .bool jl, .int .u64 un, .bool bo, .int .u64 pe, .slice a1 n1 c1, .slice a2 n2 c2, .slice a3 n3 c3] 28 (pg) ?_
  intro v1 g2 Xg2 hg2 B
  replace BB := joinB BB B
  clear B
  have lXg2 := Xg2.lt
  refine ta 2 [.int .u64 0, .int .u64 0, .slice none 0 0, .bool false, .int .u64 0, .bool false, .int .u64 0, .slice none 0 0, .slice none 0 0, .slice none 0 0] 28 (pg) ?_
  intro v3 g4 Xg4 hg4 B
  replace BB := joinB BB B
  replace Xg2 := Xg2.keep B
  clear B
  refine gl_nil ?_
  refine ge_then ?_
  refine gc_seq ?_
  refine gc_reg ?_
  refine t 3 (.func (.func 88) #[] #[]) ?_
  refine gl_nil ?_
  refine ge_then ?_
  refine gc_seq ?_
  replace BB := BB.drew
  replace Xg2 := Xg2.drew
  replace Xg4 := Xg4.drew
  refine gc_draw (fun w' => Blk w' g2 [.int .u64 rt, .int .u64 tk, .slice a0 n0 c0, .bool jl, .int .u64 un, .bool bo, .int .u64 pe, .slice a1 n1 c1, .slice a2 n2 c2, .slice a3 n3 c3] 28) (fun i => decide (9 ≤ i)) Xg2 ?_
  refine zp 0 4 (.func (.func 88) #[] #[]) ?_
  refine zp 1 5 (pq g2 2) ?_
  refine zlr 2 6 [.slice a0 n0 c0] (fun _ h => h) 2 ?_
  refine zp 4 8 (.func (.func 88) #[] #[]) ?_
  refine zp 5 9 (pq g2 7) ?_
  refine zlr 6 10 [.slice a1 n1 c1] (fun _ h => h) 7 ?_
  have lXg2 := Xg2.lt
  have lXg4 := Xg4.lt
  refine zc 3 7 88 #[.agg #[.slice a0 n0 c0]] (dOwn (h0.keep BB) (by omega)) ?_
  rintro _ v6 ⟨aq5, nq5, cq5, zq5, rfl, Nq5, hq5, mq5, B⟩
  replace BB := joinB BB B
  replace Xg2 := Xg2.keep B
  replace Xg4 := Xg4.keep B
  clear B
  refine ⟨_, rfl, Xg2, ?_⟩
  refine zp 8 12 (pq g2 2) ?_
  have lXg2 := Xg2.lt
  have lXg4 := Xg4.lt
  refine zc 7 11 88 #[.agg #[.slice a1 n1 c1]] (dOwn (h1.keep BB) (by omega)) ?_
  rintro _ v8 ⟨aq7, nq7, cq7, zq7, rfl, Nq7, hq7, mq7, B⟩
  replace BB := joinB BB B
  replace Xg2 := Xg2.keep B
  replace Xg4 := Xg4.keep B
  replace Nq5 := Nq5.keep B
  clear B
  refine ⟨_, rfl, Xg2, ?_⟩
  refine gz_late ?_
  refine ys 9 Xg2 2 (.agg #[.slice aq5 nq5 cq5]) [.slice aq5 nq5 cq5] [.int .u64 rt, .int .u64 tk, .slice aq5 nq5 cq5, .bool jl, .int .u64 un, .bool bo, .int .u64 pe, .slice a1 n1 c1, .slice a2 n2 c2, .slice a3 n3 c3] ?_
  intro v9 Y C
  replace BB := belowC BB C (by omega)
  replace Xg4 := Xg4.chg C (show g4 ≠ g2 by omega)
  replace Nq5 := Nq5.cell C (show nq5 = 0 ∨ zq5 ≠ g2 by omega)
  replace Nq7 := Nq7.cell C (show nq7 = 0 ∨ zq7 ≠ g2 by omega)
  clear C Xg2
  have Xg2 := Y
  clear Y
  refine yt 10 13 (pq g2 7) ?_
  refine ys 11 Xg2 7 (.agg #[.slice aq7 nq7 cq7]) [.slice aq7 nq7 cq7] [.int .u64 rt, .int .u64 tk, .slice aq5 nq5 cq5, .bool jl, .int .u64 un, .bool bo, .int .u64 pe, .slice aq7 nq7 cq7, .slice a2 n2 c2, .slice a3 n3 c3] ?_
  intro v10 Y C
  replace BB := belowC BB C (by omega)
  replace Xg4 := Xg4.chg C (show g4 ≠ g2 by omega)
  replace Nq5 := Nq5.cell C (show nq5 = 0 ∨ zq5 ≠ g2 by omega)
  replace Nq7 := Nq7.cell C (show nq7 = 0 ∨ zq7 ≠ g2 by omega)
  clear C Xg2
  have Xg2 := Y
  clear Y
  refine gy_done ?_
  refine ge_then ?_
  refine gc_fr [(1, pg g2), (2, pg g4), (3, .func (.func 88) #[] #[])] (by kernel_rfl) ?_
  refine gc_seq ?_
  replace BB := BB.drew
  replace Xg2 := Xg2.drew
  replace Xg4 := Xg4.drew
  replace Nq5 := Nq5.drew
  replace Nq7 := Nq7.drew
  refine gc_draw (fun w' => Blk w' g2 [.int .u64 rt, .int .u64 tk, .slice aq5 nq5 cq5, .bool jl, .int .u64 un, .bool bo, .int .u64 pe, .slice aq7 nq7 cq7, .slice a2 n2 c2, .slice a3 n3 c3] 28) (fun i => decide (9 ≤ i)) Xg2 ?_
  refine zp 0 14 (.func (.func 88) #[] #[]) ?_
  refine zp 1 15 (pq g2 8) ?_
  refine zlr 2 16 [.slice a2 n2 c2] (fun _ h => h) 8 ?_
  refine zp 4 18 (.func (.func 88) #[] #[]) ?_
  refine zp 5 19 (pq g2 9) ?_
  refine zlr 6 20 [.slice a3 n3 c3] (fun _ h => h) 9 ?_
  have lXg2 := Xg2.lt
  have lXg4 := Xg4.lt
  refine zc 3 17 88 #[.agg #[.slice a2 n2 c2]] (dOwn (h2.keep BB) (by omega)) ?_
  rintro _ v12 ⟨aq11, nq11, cq11, zq11, rfl, Nq11, hq11, mq11, B⟩
  replace BB := joinB BB B
  replace Xg2 := Xg2.keep B
  replace Xg4 := Xg4.keep B
  replace Nq5 := Nq5.keep B
  replace Nq7 := Nq7.keep B
  clear B
  refine ⟨_, rfl, Xg2, ?_⟩
  refine zp 8 22 (pq g2 8) ?_
  have lXg2 := Xg2.lt
  have lXg4 := Xg4.lt
  refine zc 7 21 88 #[.agg #[.slice a3 n3 c3]] (dOwn (h3.keep BB) (by omega)) ?_
  rintro _ v14 ⟨aq13, nq13, cq13, zq13, rfl, Nq13, hq13, mq13, B⟩
  replace BB := joinB BB B
  replace Xg2 := Xg2.keep B
  replace Xg4 := Xg4.keep B
  replace Nq5 := Nq5.keep B
  replace Nq7 := Nq7.keep B
  replace Nq11 := Nq11.keep B
  clear B
  refine ⟨_, rfl, Xg2, ?_⟩
  refine gz_late ?_
  refine ys 9 Xg2 8 (.agg #[.slice aq11 nq11 cq11]) [.slice aq11 nq11 cq11] [.int .u64 rt, .int .u64 tk, .slice aq5 nq5 cq5, .bool jl, .int .u64 un, .bool bo, .int .u64 pe, .slice aq7 nq7 cq7, .slice aq11 nq11 cq11, .slice a3 n3 c3] ?_
  intro v15 Y C
  replace BB := belowC BB C (by omega)
  replace Xg4 := Xg4.chg C (show g4 ≠ g2 by omega)
  replace Nq5 := Nq5.cell C (show nq5 = 0 ∨ zq5 ≠ g2 by omega)
  replace Nq7 := Nq7.cell C (show nq7 = 0 ∨ zq7 ≠ g2 by omega)
  replace Nq11 := Nq11.cell C (show nq11 = 0 ∨ zq11 ≠ g2 by omega)
  replace Nq13 := Nq13.cell C (show nq13 = 0 ∨ zq13 ≠ g2 by omega)
  clear C Xg2
  have Xg2 := Y
  clear Y
  refine yt 10 23 (pq g2 9) ?_
  refine ys 11 Xg2 9 (.agg #[.slice aq13 nq13 cq13]) [.slice aq13 nq13 cq13] [.int .u64 rt, .int .u64 tk, .slice aq5 nq5 cq5, .bool jl, .int .u64 un, .bool bo, .int .u64 pe, .slice aq7 nq7 cq7, .slice aq11 nq11 cq11, .slice aq13 nq13 cq13] ?_
  intro v16 Y C
  replace BB := belowC BB C (by omega)
  replace Xg4 := Xg4.chg C (show g4 ≠ g2 by omega)
  replace Nq5 := Nq5.cell C (show nq5 = 0 ∨ zq5 ≠ g2 by omega)
  replace Nq7 := Nq7.cell C (show nq7 = 0 ∨ zq7 ≠ g2 by omega)
  replace Nq11 := Nq11.cell C (show nq11 = 0 ∨ zq11 ≠ g2 by omega)
  replace Nq13 := Nq13.cell C (show nq13 = 0 ∨ zq13 ≠ g2 by omega)
  clear C Xg2
  have Xg2 := Y
  clear Y
  refine gy_done ?_
  refine ge_then ?_
  refine gc_seq ?_
  refine gc_reg ?_
  refine tlr 24 [.int .u64 rt, .int .u64 tk, .slice aq5 nq5 cq5, .bool jl, .int .u64 un, .bool bo, .int .u64 pe, .slice aq7 nq7 cq7, .slice aq11 nq11 cq11, .slice aq13 nq13 cq13] Xg2 0 ?_
  refine ts Xg4 0 (.agg #[.int .u64 rt, .int .u64 tk, .slice aq5 nq5 cq5, .bool jl, .int .u64 un, .bool bo, .int .u64 pe, .slice aq7 nq7 cq7, .slice aq11 nq11 cq11, .slice aq13 nq13 cq13]) [.int .u64 rt, .int .u64 tk, .slice aq5 nq5 cq5, .bool jl, .int .u64 un, .bool bo, .int .u64 pe, .slice aq7 nq7 cq7, .slice aq11 nq11 cq11, .slice aq13 nq13 cq13] [.int .u64 rt, .int .u64 tk, .slice aq5 nq5 cq5, .bool jl, .int .u64 un, .bool bo, .int .u64 pe, .slice aq7 nq7 cq7, .slice aq11 nq11 cq11, .slice aq13 nq13 cq13] ?_
  intro v17 Y C
  replace BB := belowC BB C (by omega)
  replace Xg2 := Xg2.chg C (show g2 ≠ g4 by omega)
  replace Nq5 := Nq5.cell C (show nq5 = 0 ∨ zq5 ≠ g4 by omega)
  replace Nq7 := Nq7.cell C (show nq7 = 0 ∨ zq7 ≠ g4 by omega)
  replace Nq11 := Nq11.cell C (show nq11 = 0 ∨ zq11 ≠ g4 by omega)
  replace Nq13 := Nq13.cell C (show nq13 = 0 ∨ zq13 ≠ g4 by omega)
  clear C Xg4
  have Xg4 := Y
  clear Y
  refine gl_nil ?_
  refine ge_then ?_
  refine gc_ret ?_
  refine ge_ret (.agg #[.int .u64 rt, .int .u64 tk, .slice aq5 nq5 cq5, .bool jl, .int .u64 un, .bool bo, .int .u64 pe, .slice aq7 nq7 cq7, .slice aq11 nq11 cq11, .slice aq13 nq13 cq13]) (rsc 2 (T := 28) (by kernel_rfl) (by kernel_rfl) (lr Xg4 0)) ?_
  exact ⟨_, _, _, _, _, _, _, _, _, _, _, _, _, _, _, _, rfl, Nq5, by omega, by omega, Nq7, by omega, by omega, Nq11, by omega, by omega, Nq13, by omega, by omega, BB⟩
theorem dGive {w : World} {a0 : Option Addr} {n0 c0 : Nat} {x0 : Int} {a1 : Option Addr} {n1 c1 : Nat} {x1 : Int} {a2 : Option Addr} {n2 c2 : Nat} {x2 : Int} {a3 : Option Addr} {n3 c3 : Nat} {x3 : Int} {a4 : Option Addr} {n4 c4 : Nat} {x4 : Int} {rt tk un pe : Int} {jl bo : Bool} (h0 : NatA w a0 n0 c0 x0) (k0 : n0 ≤ 1000000000) (h1 : NatA w a1 n1 c1 x1) (k1 : n1 ≤ 1000000000) (h2 : NatA w a2 n2 c2 x2) (k2 : n2 ≤ 1000000000) (h3 : NatA w a3 n3 c3 x3) (k3 : n3 ≤ 1000000000) (h4 : NatA w a4 n4 c4 x4) (k4 : n4 ≤ 1000000000) (hrt : 0 ≤ rt ∧ rt < 18446744073709551616) : Calls Tryz.prog 5 #[.agg #[.int .u64 rt, .int .u64 tk, .slice a0 n0 c0, .bool jl, .int .u64 un, .bool bo, .int .u64 pe, .slice a1 n1 c1, .slice a2 n2 c2, .slice a3 n3 c3], .agg #[.slice a4 n4 c4]] w fun e w' => ∃ b0 m0 d0 y0 b1 m1 d1 y1 b2 m2 d2 y2 b3 m3 d3 y3, e = .returned (.agg #[.int .u64 rt, .int .u64 tk, .slice b0 m0 d0, .bool jl, .int .u64 un, .bool bo, .int .u64 pe, .slice b1 m1 d1, .slice b2 m2 d2, .slice b3 m3 d3]) ∧ Nf w' y0 b0 m0 d0 (x0) ∧ (m0 = 0 ∨ w.heap.size ≤ y0) ∧ m0 ≤ n0 + 1 ∧ Nf w' y1 b1 m1 d1 (x1 + subV x4 (por x4 rt)) ∧ (m1 = 0 ∨ w.heap.size ≤ y1) ∧ m1 ≤ n1 + n4 + 300 ∧ Nf w' y2 b2 m2 d2 (x2 + x4) ∧ (m2 = 0 ∨ w.heap.size ≤ y2) ∧ m2 ≤ n2 + n4 + 300 ∧ Nf w' y3 b3 m3 d3 (x3 + por x4 rt) ∧ (m3 = 0 ∨ w.heap.size ≤ y3) ∧ m3 ≤ n3 + n4 + 300 ∧ Below w.heap.size w w' := by
  have BB := Below.refl w.heap.size w
  refine gc_enter (n := 30) Tryz.func5 rfl (by kernel_rfl) (by kernel_rfl) ?_
  refine gc_seq ?_
  refine gc_reg ?_
  refine ta 2 [.int .u64 rt, .int .u64 tk, .slice a0 n0 c0, .bool jl, .int .u64 un, .bool bo, .int .u64 pe, .slice a1 n1 c1, .slice a2 n2 c2, .slice a3 n3 c3] 28 (pg) ?_
  intro v1 g2 Xg2 hg2 B
  replace BB := joinB BB B
  clear B
  have lXg2 := Xg2.lt
  refine ta 3 [.slice a4 n4 c4] 26 (pg) ?_
  intro v3 g4 Xg4 hg4 B
  replace BB := joinB BB B
  replace Xg2 := Xg2.keep B
  clear B
  have lXg2 := Xg2.lt
  have lXg4 := Xg4.lt
  refine ta 4 [.int .u64 0, .int .u64 0, .slice none 0 0, .bool false, .int .u64 0, .bool false, .int .u64 0, .slice none 0 0, .slice none 0 0, .slice none 0 0] 28 (pg) ?_
  intro v5 g6 Xg6 hg6 B
  replace BB := joinB BB B
  replace Xg2 := Xg2.keep B
  replace Xg4 := Xg4.keep B
  clear B
  refine gl_nil ?_
  refine ge_then ?_
  refine gc_seq ?_
  refine gc_reg ?_
  refine tlr 6 [.slice a4 n4 c4] Xg4 0 ?_
  refine t 7 (pg g2) ?_
  refine tl 8 (.int .u64 rt) Xg2 0 ?_
  have lXg2 := Xg2.lt
  have lXg4 := Xg4.lt
  have lXg6 := Xg6.lt
  refine tc 9 33 #[.agg #[.slice a4 n4 c4], .int .u64 rt] (dPor (h4.keep BB) (by omega) hrt) ?_
  rintro _ v8 ⟨aq7, nq7, cq7, zq7, rfl, Nq7, hq7, mq7, B⟩
  refine ⟨_, rfl, ?_⟩
  replace BB := joinB BB B
  replace Xg2 := Xg2.keep B
  replace Xg4 := Xg4.keep B
  replace Xg6 := Xg6.keep B
  clear B
  have lXg2 := Xg2.lt
  have lXg4 := Xg4.lt
  have lXg6 := Xg6.lt
  have lNq7 := Nq7.lt
  refine ta 5 [.slice none 0 0] 26 (pg) ?_
  intro v9 g10 Xg10 hg10 B
  replace BB := joinB BB B
  replace Xg2 := Xg2.keep B
  replace Xg4 := Xg4.keep B
  replace Xg6 := Xg6.keep B
  replace Nq7 := Nq7.keep B
  clear B
  refine ts Xg10 0 (.agg #[.slice aq7 nq7 cq7]) [.slice aq7 nq7 cq7] [.slice aq7 nq7 cq7] ?_
  intro v11 Y C
  replace BB := belowC BB C (by omega)
  replace Xg2 := Xg2.chg C (show g2 ≠ g10 by omega)
  replace Xg4 := Xg4.chg C (show g4 ≠ g10 by omega)
  replace Xg6 := Xg6.chg C (show g6 ≠ g10 by omega)
  replace Nq7 := Nq7.cell C (show nq7 = 0 ∨ zq7 ≠ g10 by omega)
  clear C Xg10
  have Xg10 := Y
  clear Y
  refine gl_nil ?_
  refine ge_then ?_
  refine gc_seq ?_
  refine gc_reg ?_
  refine tlr 10 [.int .u64 rt, .int .u64 tk, .slice a0 n0 c0, .bool jl, .int .u64 un, .bool bo, .int .u64 pe, .slice a1 n1 c1, .slice a2 n2 c2, .slice a3 n3 c3] Xg2 0 ?_
  have lXg2 := Xg2.lt
  have lXg4 := Xg4.lt
  have lXg6 := Xg6.lt
  have lXg10 := Xg10.lt
  refine tc 11 34 #[.agg #[.int .u64 rt, .int .u64 tk, .slice a0 n0 c0, .bool jl, .int .u64 un, .bool bo, .int .u64 pe, .slice a1 n1 c1, .slice a2 n2 c2, .slice a3 n3 c3]] (dOwnVal (h0.keep BB) (by omega) (h1.keep BB) (by omega) (h2.keep BB) (by omega) (h3.keep BB) (by omega)) ?_
  rintro _ v16 ⟨av12, nv12, cv12, zv12, av13, nv13, cv13, zv13, av14, nv14, cv14, zv14, av15, nv15, cv15, zv15, rfl, Nv12, hv12, mv12, Nv13, hv13, mv13, Nv14, hv14, mv14, Nv15, hv15, mv15, B⟩
  refine ⟨_, rfl, ?_⟩
  replace BB := joinB BB B
  replace Xg2 := Xg2.keep B
  replace Xg4 := Xg4.keep B
  replace Xg6 := Xg6.keep B
  replace Nq7 := Nq7.keep B
  replace Xg10 := Xg10.keep B
  clear B
  refine ts Xg2 0 (.agg #[.int .u64 rt, .int .u64 tk, .slice av12 nv12 cv12, .bool jl, .int .u64 un, .bool bo, .int .u64 pe, .slice av13 nv13 cv13, .slice av14 nv14 cv14, .slice av15 nv15 cv15]) [.int .u64 rt, .int .u64 tk, .slice av12 nv12 cv12, .bool jl, .int .u64 un, .bool bo, .int .u64 pe, .slice av13 nv13 cv13, .slice av14 nv14 cv14, .slice av15 nv15 cv15] [.int .u64 rt, .int .u64 tk, .slice av12 nv12 cv12, .bool jl, .int .u64 un, .bool bo, .int .u64 pe, .slice av13 nv13 cv13, .slice av14 nv14 cv14, .slice av15 nv15 cv15] ?_
  intro v17 Y C
  replace BB := belowC BB C (by omega)
  replace Xg4 := Xg4.chg C (show g4 ≠ g2 by omega)
  replace Xg6 := Xg6.chg C (show g6 ≠ g2 by omega)
  replace Nq7 := Nq7.cell C (show nq7 = 0 ∨ zq7 ≠ g2 by omega)
  replace Xg10 := Xg10.chg C (show g10 ≠ g2 by omega)
  replace Nv12 := Nv12.cell C (show nv12 = 0 ∨ zv12 ≠ g2 by omega)
  replace Nv13 := Nv13.cell C (show nv13 = 0 ∨ zv13 ≠ g2 by omega)
  replace Nv14 := Nv14.cell C (show nv14 = 0 ∨ zv14 ≠ g2 by omega)
  replace Nv15 := Nv15.cell C (show nv15 = 0 ∨ zv15 ≠ g2 by omega)
  clear C Xg2
  have Xg2 := Y
  clear Y
  refine gl_nil ?_
  refine ge_then ?_
  refine gc_fr [(2, pg g2), (3, pg g4), (4, pg g6), (5, pg g10)] (by kernel_rfl) ?_
  refine gc_seq ?_
  refine gc_reg ?_
  refine t 12 (pq g2 9) ?_
  refine tlr 13 [.slice av15 nv15 cv15] Xg2 9 ?_
  refine tlr 14 [.slice aq7 nq7 cq7] Xg10 0 ?_
  have lXg2 := Xg2.lt
  have lXg4 := Xg4.lt
  have lXg6 := Xg6.lt
  have lXg10 := Xg10.lt
  refine tc 15 8 #[.agg #[.slice av15 nv15 cv15], .agg #[.slice aq7 nq7 cq7]] (eAdd Nv15.nat (by omega) Nq7.nat (by omega)) ?_
  rintro _ v19 ⟨aq18, nq18, cq18, zq18, rfl, Nq18, hq18, mq18, B⟩
  refine ⟨_, rfl, ?_⟩
  replace BB := joinB BB B
  replace Xg2 := Xg2.keep B
  replace Xg4 := Xg4.keep B
  replace Xg6 := Xg6.keep B
  replace Nq7 := Nq7.keep B
  replace Xg10 := Xg10.keep B
  replace Nv12 := Nv12.keep B
  replace Nv13 := Nv13.keep B
  replace Nv14 := Nv14.keep B
  replace Nv15 := Nv15.keep B
  clear B
  refine t 16 (pq g2 9) ?_
  refine ts Xg2 9 (.agg #[.slice aq18 nq18 cq18]) [.slice aq18 nq18 cq18] [.int .u64 rt, .int .u64 tk, .slice av12 nv12 cv12, .bool jl, .int .u64 un, .bool bo, .int .u64 pe, .slice av13 nv13 cv13, .slice av14 nv14 cv14, .slice aq18 nq18 cq18] ?_
  intro v20 Y C
  replace BB := belowC BB C (by omega)
  replace Xg4 := Xg4.chg C (show g4 ≠ g2 by omega)
  replace Xg6 := Xg6.chg C (show g6 ≠ g2 by omega)
  replace Nq7 := Nq7.cell C (show nq7 = 0 ∨ zq7 ≠ g2 by omega)
  replace Xg10 := Xg10.chg C (show g10 ≠ g2 by omega)
  replace Nv12 := Nv12.cell C (show nv12 = 0 ∨ zv12 ≠ g2 by omega)
  replace Nv13 := Nv13.cell C (show nv13 = 0 ∨ zv13 ≠ g2 by omega)
  replace Nv14 := Nv14.cell C (show nv14 = 0 ∨ zv14 ≠ g2 by omega)
  replace Nv15 := Nv15.cell C (show nv15 = 0 ∨ zv15 ≠ g2 by omega)
  replace Nq18 := Nq18.cell C (show nq18 = 0 ∨ zq18 ≠ g2 by omega)
  clear C Xg2
  have Xg2 := Y
  clear Y
  refine gl_nil ?_
  refine ge_then ?_
  refine gc_seq ?_
  replace BB := BB.drew
  replace Xg2 := Xg2.drew
  replace Xg4 := Xg4.drew
  replace Xg6 := Xg6.drew
  replace Nq7 := Nq7.drew
  replace Xg10 := Xg10.drew
  replace Nv12 := Nv12.drew
  replace Nv13 := Nv13.drew
  replace Nv14 := Nv14.drew
  replace Nv15 := Nv15.drew
  replace Nq18 := Nq18.drew
  refine gc_draw (fun w' => Blk w' g2 [.int .u64 rt, .int .u64 tk, .slice av12 nv12 cv12, .bool jl, .int .u64 un, .bool bo, .int .u64 pe, .slice av13 nv13 cv13, .slice av14 nv14 cv14, .slice aq18 nq18 cq18] 28 ∧ Blk w' g4 [.slice a4 n4 c4] 26 ∧ Blk w' g10 [.slice aq7 nq7 cq7] 26) (fun i => decide (7 ≤ i)) ⟨Xg2, Xg4, Xg10⟩ ?_
  refine zp 0 17 (pq g2 7) ?_
  refine zlr 1 18 [.slice av13 nv13 cv13] (fun _ h => h.1) 7 ?_
  refine zlr 2 19 [.slice a4 n4 c4] (fun _ h => h.2.1) 0 ?_
  refine zlr 3 20 [.slice aq7 nq7 cq7] (fun _ h => h.2.2) 0 ?_
  have lXg2 := Xg2.lt
  have lXg4 := Xg4.lt
  have lXg6 := Xg6.lt
  have lXg10 := Xg10.lt
  refine zc 4 21 35 #[.agg #[.slice a4 n4 c4], .agg #[.slice aq7 nq7 cq7]] (dLess (h4.keep BB) (by omega) Nq7.nat (by omega)) ?_
  rintro _ v22 ⟨aq21, nq21, cq21, zq21, rfl, Nq21, hq21, mq21, B⟩
  replace BB := joinB BB B
  replace Xg2 := Xg2.keep B
  replace Xg4 := Xg4.keep B
  replace Xg6 := Xg6.keep B
  replace Nq7 := Nq7.keep B
  replace Xg10 := Xg10.keep B
  replace Nv12 := Nv12.keep B
  replace Nv13 := Nv13.keep B
  replace Nv14 := Nv14.keep B
  replace Nv15 := Nv15.keep B
  replace Nq18 := Nq18.keep B
  clear B
  refine ⟨_, rfl, ⟨Xg2, Xg4, Xg10⟩, ?_⟩
  have lXg2 := Xg2.lt
  have lXg4 := Xg4.lt
  have lXg6 := Xg6.lt
  have lXg10 := Xg10.lt
  refine zc 5 22 8 #[.agg #[.slice av13 nv13 cv13], .agg #[.slice aq21 nq21 cq21]] (eAdd Nv13.nat (by omega) Nq21.nat (by omega)) ?_
  rintro _ v24 ⟨aq23, nq23, cq23, zq23, rfl, Nq23, hq23, mq23, B⟩
  replace BB := joinB BB B
  replace Xg2 := Xg2.keep B
  replace Xg4 := Xg4.keep B
  replace Xg6 := Xg6.keep B
  replace Nq7 := Nq7.keep B
  replace Xg10 := Xg10.keep B
  replace Nv12 := Nv12.keep B
  replace Nv13 := Nv13.keep B
  replace Nv14 := Nv14.keep B
  replace Nv15 := Nv15.keep B
  replace Nq18 := Nq18.keep B
  replace Nq21 := Nq21.keep B
  clear B
  refine ⟨_, rfl, ⟨Xg2, Xg4, Xg10⟩, ?_⟩
  refine zp 6 23 (pq g2 7) ?_
  refine gz_late ?_
  refine ys 7 Xg2 7 (.agg #[.slice aq23 nq23 cq23]) [.slice aq23 nq23 cq23] [.int .u64 rt, .int .u64 tk, .slice av12 nv12 cv12, .bool jl, .int .u64 un, .bool bo, .int .u64 pe, .slice aq23 nq23 cq23, .slice av14 nv14 cv14, .slice aq18 nq18 cq18] ?_
  intro v25 Y C
  replace BB := belowC BB C (by omega)
  replace Xg4 := Xg4.chg C (show g4 ≠ g2 by omega)
  replace Xg6 := Xg6.chg C (show g6 ≠ g2 by omega)
  replace Nq7 := Nq7.cell C (show nq7 = 0 ∨ zq7 ≠ g2 by omega)
  replace Xg10 := Xg10.chg C (show g10 ≠ g2 by omega)
  replace Nv12 := Nv12.cell C (show nv12 = 0 ∨ zv12 ≠ g2 by omega)
  replace Nv13 := Nv13.cell C (show nv13 = 0 ∨ zv13 ≠ g2 by omega)
  replace Nv14 := Nv14.cell C (show nv14 = 0 ∨ zv14 ≠ g2 by omega)
  replace Nv15 := Nv15.cell C (show nv15 = 0 ∨ zv15 ≠ g2 by omega)
  replace Nq18 := Nq18.cell C (show nq18 = 0 ∨ zq18 ≠ g2 by omega)
  replace Nq21 := Nq21.cell C (show nq21 = 0 ∨ zq21 ≠ g2 by omega)
  replace Nq23 := Nq23.cell C (show nq23 = 0 ∨ zq23 ≠ g2 by omega)
  clear C Xg2
  have Xg2 := Y
  clear Y
  refine gy_done ?_
  refine ge_then ?_
  refine gc_fr [(2, pg g2), (3, pg g4), (4, pg g6)] (by kernel_rfl) ?_
  refine gc_seq ?_
  refine gc_reg ?_
  refine t 24 (pq g2 8) ?_
  refine tlr 25 [.slice av14 nv14 cv14] Xg2 8 ?_
  refine tlr 26 [.slice a4 n4 c4] Xg4 0 ?_
  have lXg2 := Xg2.lt
  have lXg4 := Xg4.lt
  have lXg6 := Xg6.lt
  have lXg10 := Xg10.lt
  refine tc 27 8 #[.agg #[.slice av14 nv14 cv14], .agg #[.slice a4 n4 c4]] (eAdd Nv14.nat (by omega) (h4.keep BB) (by omega)) ?_
  rintro _ v27 ⟨aq26, nq26, cq26, zq26, rfl, Nq26, hq26, mq26, B⟩
  refine ⟨_, rfl, ?_⟩
  replace BB := joinB BB B
  replace Xg2 := Xg2.keep B
  replace Xg4 := Xg4.keep B
  replace Xg6 := Xg6.keep B
  replace Nq7 := Nq7.keep B
  replace Xg10 := Xg10.keep B
  replace Nv12 := Nv12.keep B
  replace Nv13 := Nv13.keep B
  replace Nv14 := Nv14.keep B
  replace Nv15 := Nv15.keep B
  replace Nq18 := Nq18.keep B
  replace Nq21 := Nq21.keep B
  replace Nq23 := Nq23.keep B
  clear B
  refine t 28 (pq g2 8) ?_
  refine ts Xg2 8 (.agg #[.slice aq26 nq26 cq26]) [.slice aq26 nq26 cq26] [.int .u64 rt, .int .u64 tk, .slice av12 nv12 cv12, .bool jl, .int .u64 un, .bool bo, .int .u64 pe, .slice aq23 nq23 cq23, .slice aq26 nq26 cq26, .slice aq18 nq18 cq18] ?_
  intro v28 Y C
  replace BB := belowC BB C (by omega)
  replace Xg4 := Xg4.chg C (show g4 ≠ g2 by omega)
  replace Xg6 := Xg6.chg C (show g6 ≠ g2 by omega)
  replace Nq7 := Nq7.cell C (show nq7 = 0 ∨ zq7 ≠ g2 by omega)
  replace Xg10 := Xg10.chg C (show g10 ≠ g2 by omega)
  replace Nv12 := Nv12.cell C (show nv12 = 0 ∨ zv12 ≠ g2 by omega)
  replace Nv13 := Nv13.cell C (show nv13 = 0 ∨ zv13 ≠ g2 by omega)
  replace Nv14 := Nv14.cell C (show nv14 = 0 ∨ zv14 ≠ g2 by omega)
  replace Nv15 := Nv15.cell C (show nv15 = 0 ∨ zv15 ≠ g2 by omega)
  replace Nq18 := Nq18.cell C (show nq18 = 0 ∨ zq18 ≠ g2 by omega)
  replace Nq21 := Nq21.cell C (show nq21 = 0 ∨ zq21 ≠ g2 by omega)
  replace Nq23 := Nq23.cell C (show nq23 = 0 ∨ zq23 ≠ g2 by omega)
  replace Nq26 := Nq26.cell C (show nq26 = 0 ∨ zq26 ≠ g2 by omega)
  clear C Xg2
  have Xg2 := Y
  clear Y
  refine gl_nil ?_
  refine ge_then ?_
  refine gc_seq ?_
  refine gc_reg ?_
  refine tlr 29 [.int .u64 rt, .int .u64 tk, .slice av12 nv12 cv12, .bool jl, .int .u64 un, .bool bo, .int .u64 pe, .slice aq23 nq23 cq23, .slice aq26 nq26 cq26, .slice aq18 nq18 cq18] Xg2 0 ?_
  refine ts Xg6 0 (.agg #[.int .u64 rt, .int .u64 tk, .slice av12 nv12 cv12, .bool jl, .int .u64 un, .bool bo, .int .u64 pe, .slice aq23 nq23 cq23, .slice aq26 nq26 cq26, .slice aq18 nq18 cq18]) [.int .u64 rt, .int .u64 tk, .slice av12 nv12 cv12, .bool jl, .int .u64 un, .bool bo, .int .u64 pe, .slice aq23 nq23 cq23, .slice aq26 nq26 cq26, .slice aq18 nq18 cq18] [.int .u64 rt, .int .u64 tk, .slice av12 nv12 cv12, .bool jl, .int .u64 un, .bool bo, .int .u64 pe, .slice aq23 nq23 cq23, .slice aq26 nq26 cq26, .slice aq18 nq18 cq18] ?_
  intro v29 Y C
  replace BB := belowC BB C (by omega)
  replace Xg2 := Xg2.chg C (show g2 ≠ g6 by omega)
  replace Xg4 := Xg4.chg C (show g4 ≠ g6 by omega)
  replace Nq7 := Nq7.cell C (show nq7 = 0 ∨ zq7 ≠ g6 by omega)
  replace Xg10 := Xg10.chg C (show g10 ≠ g6 by omega)
  replace Nv12 := Nv12.cell C (show nv12 = 0 ∨ zv12 ≠ g6 by omega)
  replace Nv13 := Nv13.cell C (show nv13 = 0 ∨ zv13 ≠ g6 by omega)
  replace Nv14 := Nv14.cell C (show nv14 = 0 ∨ zv14 ≠ g6 by omega)
  replace Nv15 := Nv15.cell C (show nv15 = 0 ∨ zv15 ≠ g6 by omega)
  replace Nq18 := Nq18.cell C (show nq18 = 0 ∨ zq18 ≠ g6 by omega)
  replace Nq21 := Nq21.cell C (show nq21 = 0 ∨ zq21 ≠ g6 by omega)
  replace Nq23 := Nq23.cell C (show nq23 = 0 ∨ zq23 ≠ g6 by omega)
  replace Nq26 := Nq26.cell C (show nq26 = 0 ∨ zq26 ≠ g6 by omega)
  clear C Xg6
  have Xg6 := Y
  clear Y
  refine gl_nil ?_
  refine ge_then ?_
  refine gc_ret ?_
  refine ge_ret (.agg #[.int .u64 rt, .int .u64 tk, .slice av12 nv12 cv12, .bool jl, .int .u64 un, .bool bo, .int .u64 pe, .slice aq23 nq23 cq23, .slice aq26 nq26 cq26, .slice aq18 nq18 cq18]) (rsc 4 (T := 28) (by kernel_rfl) (by kernel_rfl) (lr Xg6 0)) ?_
  exact ⟨_, _, _, _, _, _, _, _, _, _, _, _, _, _, _, _, rfl, Nv12, by omega, by omega, Nq23, by omega, by omega, Nq26, by omega, by omega, Nq18, by omega, by omega, BB⟩
end Fo
end Go.Proofs.YtgdohcdlkonhiaaGreatDoor
