/- Several texts, joined: DiB. -/
import Derived.Test.YtpoifdokmjhclaaGreatJyF
namespace Go.Proofs.YtpoifdokmjhclaaGreat
namespace Fo
open Go.RowKit Go.Lib Pg Lim Gl
attribute [local go_sem] Oper.semAt_some
set_option maxRecDepth 100000
set_option linter.unusedVariables false
set_option linter.unusedSimpArgs false
set_option maxHeartbeats 2000000
def mn (y : Int) : Int := if y ≤ 10000 then y else 10000
theorem mn_rng {y : Int} (hy : 0 ≤ y) : 0 ≤ mn y ∧ mn y < 18446744073709551616 := by unfold mn; split <;> omega
theorem run_mn {ρ : Operand → Value} {w : World} {o : Oper} {y : Int} (ho : ∃ u v t, o.op = .call ⟨.builtin .min, #[u, v], t⟩ ∧ ρ u = .int .u64 y ∧ ρ v = .int .u64 10000 := by exact ⟨_, _, _, rfl, by kernel_rfl, by kernel_rfl⟩) : (execOp ρ o).run Tryz.prog w = .ok (.value (.int .u64 (mn y))) w := by
  obtain ⟨u, v, t, h, h1, h2⟩ := ho
  unfold mn
  simp only [execOp, h]
  go_simp
  try simp [h1, h2]
  try split <;> simp_all
  try omega
theorem dOwn {w : World} {a0 : Option Addr} {n0 c0 : Nat} {x0 : Int} (h0 : NatA w a0 n0 c0 x0) (k0 : n0 ≤ 100000000000) : Calls Tryz.prog 329 #[.agg #[.slice a0 n0 c0]] w (NdE w (· ≤ n0 + 1) (x0)) := by
  have BB := Below.refl w.heap.size w
  refine gc_enter (n := 6) Tryz.func329 rfl (by kernel_rfl) (by kernel_rfl) ?_
  refine gc_seq ?_
  refine gc_reg ?_
  refine ta 1 [.slice a0 n0 c0] 55 (pg) ?_
  intro v1 g2 Xg2 hg2 B
  replace BB := joinB BB B
  clear B
  have lXg2 := Xg2.lt
  refine ta 2 [.slice none 0 0] 55 (pg) ?_
  intro v3 g4 Xg4 hg4 B
  replace BB := joinB BB B
  replace Xg2 := Xg2.keep B
  clear B
  refine gl_nil ?_
  refine ge_then ?_
  refine gc_seq ?_
  refine gc_reg ?_
  refine tlr 3 [.slice a0 n0 c0] Xg2 0 ?_
  refine t 4 (.agg #[.slice none 0 0]) ?_
  have lXg2 := Xg2.lt
  have lXg4 := Xg4.lt
  refine tc 5 185 #[.agg #[.slice a0 n0 c0], .agg #[.slice none 0 0]] (eAdd (h0.keep BB) (by omega) (nf_nil _ 0).nat (by omega)) ?_
  rintro _ v6 ⟨aq5, nq5, cq5, zq5, rfl, Nq5, hq5, mq5, B⟩
  refine ⟨_, rfl, ?_⟩
  replace BB := joinB BB B
  replace Xg2 := Xg2.keep B
  replace Xg4 := Xg4.keep B
  clear B
  refine ts Xg4 0 (.agg #[.slice aq5 nq5 cq5]) [.slice aq5 nq5 cq5] [.slice aq5 nq5 cq5] ?_
  intro v7 Y C
  replace BB := belowC BB C (by omega)
  replace Xg2 := Xg2.chg C (show g2 ≠ g4 by omega)
  replace Nq5 := Nq5.cell C (show nq5 = 0 ∨ zq5 ≠ g4 by omega)
  clear C Xg4
  have Xg4 := Y
  clear Y
  refine gl_nil ?_
  refine ge_then ?_
  refine gc_ret ?_
  refine ge_ret (.agg #[.slice aq5 nq5 cq5]) (rsc 2 (T := 55) (by kernel_rfl) (by kernel_rfl) (lr Xg4 0)) ?_
  exact ⟨_, _, _, _, rfl, Nq5.eqv (by omega), by omega, by omega, BB⟩
theorem dLess {w : World} {a0 : Option Addr} {n0 c0 : Nat} {x0 : Int} {a1 : Option Addr} {n1 c1 : Nat} {x1 : Int} (h0 : NatA w a0 n0 c0 x0) (k0 : n0 ≤ 100000000000) (h1 : NatA w a1 n1 c1 x1) (k1 : n1 ≤ 100000000000) : Calls Tryz.prog 282 #[.agg #[.slice a0 n0 c0], .agg #[.slice a1 n1 c1]] w (NdE w (· ≤ n0) (subV x0 x1)) := by
  have BB := Below.refl w.heap.size w
  refine gc_enter (n := 14) Tryz.func282 rfl (by kernel_rfl) (by kernel_rfl) ?_
  refine gc_seq ?_
  refine gc_reg ?_
  refine ta 2 [.slice a0 n0 c0] 55 (pg) ?_
  intro v1 g2 Xg2 hg2 B
  replace BB := joinB BB B
  clear B
  have lXg2 := Xg2.lt
  refine ta 3 [.slice a1 n1 c1] 55 (pg) ?_
  intro v3 g4 Xg4 hg4 B
  replace BB := joinB BB B
  replace Xg2 := Xg2.keep B
  clear B
  have lXg2 := Xg2.lt
  have lXg4 := Xg4.lt
  refine ta 4 [.slice none 0 0] 55 (pg) ?_
  intro v5 g6 Xg6 hg6 B
  replace BB := joinB BB B
  replace Xg2 := Xg2.keep B
  replace Xg4 := Xg4.keep B
  clear B
  refine gl_nil ?_
  refine ge_then ?_
  refine gc_seq ?_
  refine gc_reg ?_
  refine tlr 8 [.slice a0 n0 c0] Xg2 0 ?_
  refine tlr 9 [.slice a1 n1 c1] Xg4 0 ?_
  have lXg2 := Xg2.lt
  have lXg4 := Xg4.lt
  have lXg6 := Xg6.lt
  refine tc 10 336 #[.agg #[.slice a0 n0 c0], .agg #[.slice a1 n1 c1]] (eSub (h0.keep BB) (by omega) (h1.keep BB) (by omega)) ?_
  rintro _ v8 ⟨aq7, nq7, cq7, zq7, rfl, Nq7, hq7, mq7, B⟩
  refine ⟨_, rfl, ?_⟩
  replace BB := joinB BB B
  replace Xg2 := Xg2.keep B
  replace Xg4 := Xg4.keep B
  replace Xg6 := Xg6.keep B
  clear B
  refine t 7 (.tuple #[.agg #[.slice aq7 nq7 cq7], .int .i64 (sbE x0 x1)]) ?_
  refine t 11 (.agg #[.slice aq7 nq7 cq7]) ?_
  refine t 12 (.int .i64 (sbE x0 x1)) ?_
  have lXg2 := Xg2.lt
  have lXg4 := Xg4.lt
  have lXg6 := Xg6.lt
  have lNq7 := Nq7.lt
  refine ta 5 [.slice none 0 0] 55 (pg) ?_
  intro v9 g10 Xg10 hg10 B
  replace BB := joinB BB B
  replace Xg2 := Xg2.keep B
  replace Xg4 := Xg4.keep B
  replace Xg6 := Xg6.keep B
  replace Nq7 := Nq7.keep B
  clear B
  refine ts Xg10 0 (.agg #[.slice aq7 nq7 cq7]) [.slice aq7 nq7 cq7] [.slice aq7 nq7 cq7] ?_
  intro v11 Y C
  replace BB := belowC BB C (by omega)
  replace Xg2 := Xg2.chg C (show g2 ≠ g10 by omega)
  replace Xg4 := Xg4.chg C (show g4 ≠ g10 by omega)
  replace Xg6 := Xg6.chg C (show g6 ≠ g10 by omega)
  replace Nq7 := Nq7.cell C (show nq7 = 0 ∨ zq7 ≠ g10 by omega)
  clear C Xg10
  have Xg10 := Y
  clear Y
  refine t 6 (.int .i64 (sbE x0 x1)) ?_
  refine gl_nil ?_
  refine ge_then ?_
  refine gc_fr [(4, pg g6), (5, pg g10)] (by kernel_rfl) ?_
  refine gc_seq ?_
  refine gc_reg ?_
  refine tlr 13 [.slice aq7 nq7 cq7] Xg10 0 ?_
  refine ts Xg6 0 (.agg #[.slice aq7 nq7 cq7]) [.slice aq7 nq7 cq7] [.slice aq7 nq7 cq7] ?_
  intro v12 Y C
  replace BB := belowC BB C (by omega)
  replace Xg2 := Xg2.chg C (show g2 ≠ g6 by omega)
  replace Xg4 := Xg4.chg C (show g4 ≠ g6 by omega)
  replace Nq7 := Nq7.cell C (show nq7 = 0 ∨ zq7 ≠ g6 by omega)
  replace Xg10 := Xg10.chg C (show g10 ≠ g6 by omega)
  clear C Xg6
  have Xg6 := Y
  clear Y
  refine gl_nil ?_
  refine ge_then ?_
  refine gc_ret ?_
  refine ge_ret (.agg #[.slice aq7 nq7 cq7]) (rsc 4 (T := 55) (by kernel_rfl) (by kernel_rfl) (lr Xg6 0)) ?_
  exact ⟨_, _, _, _, rfl, Nq7, by omega, by omega, BB⟩
theorem dCmpLt {w : World} {ao ao' : Option Addr} {n c n' c' : Nat} {x y : Int} (h : NatA w ao n c x) (h' : NatA w ao' n' c' y) (hn : n ≤ 1099511627776) (hn' : n' ≤ 1099511627776) (hxy : x ≤ y) : Calls Tryz.prog 184 #[.agg #[.slice ao n c], .agg #[.slice ao' n' c']] w fun e w' => ∃ r, e = .returned (.int .i64 r) ∧ r ≤ 0 ∧ Below w.heap.size w w' := by
  refine (dCmp h h' hn hn').mono ?_
  rintro e w' ⟨rfl, B⟩
  exact ⟨_, rfl, by unfold sgn; split <;> (try split) <;> omega, B⟩
theorem dLeast {w : World} {a0 : Option Addr} {n0 c0 : Nat} {x0 : Int} {a1 : Option Addr} {n1 c1 : Nat} {x1 : Int} (h0 : NatA w a0 n0 c0 x0) (k0 : n0 ≤ 100000000000) (h1 : NatA w a1 n1 c1 x1) (k1 : n1 ≤ 100000000000) (hle : x0 ≤ x1) : Calls Tryz.prog 281 #[.agg #[.slice a0 n0 c0], .agg #[.slice a1 n1 c1]] w fun e w' => e = .returned (.agg #[.slice a0 n0 c0]) ∧ Below w.heap.size w w' := by
  have BB := Below.refl w.heap.size w
  refine gc_enter (n := 11) Tryz.func281 rfl (by kernel_rfl) (by kernel_rfl) ?_
  refine gc_seq ?_
  refine gc_reg ?_
  refine ta 2 [.slice a0 n0 c0] 55 (pg) ?_
  intro v1 g2 Xg2 hg2 B
  replace BB := joinB BB B
  clear B
  have lXg2 := Xg2.lt
  refine ta 3 [.slice a1 n1 c1] 55 (pg) ?_
  intro v3 g4 Xg4 hg4 B
  replace BB := joinB BB B
  replace Xg2 := Xg2.keep B
  clear B
  have lXg2 := Xg2.lt
  have lXg4 := Xg4.lt
  refine ta 4 [.slice none 0 0] 55 (pg) ?_
  intro v5 g6 Xg6 hg6 B
  replace BB := joinB BB B
  replace Xg2 := Xg2.keep B
  replace Xg4 := Xg4.keep B
  clear B
  refine gl_nil ?_
  refine ge_then ?_
  refine gc_seq ?_
  refine gc_seq ?_
  refine gc_reg ?_
  refine tlr 5 [.slice a0 n0 c0] Xg2 0 ?_
  refine tlr 6 [.slice a1 n1 c1] Xg4 0 ?_
  have lXg2 := Xg2.lt
  have lXg4 := Xg4.lt
  have lXg6 := Xg6.lt
  refine tc 7 184 #[.agg #[.slice a0 n0 c0], .agg #[.slice a1 n1 c1]] (dCmpLt (h0.keep BB) (h1.keep BB) (by omega) (by omega) hle) ?_
  rintro _ v7 ⟨rr, rfl, hrr, B⟩
  refine ⟨_, rfl, ?_⟩
  replace BB := joinB BB B
  replace Xg2 := Xg2.keep B
  replace Xg4 := Xg4.keep B
  replace Xg6 := Xg6.keep B
  clear B
  refine tq 8 (.bool (decide ((0 : Int) < rr))) (.bool false) (congrArg Value.bool (decide_eq_false (by omega))) ?_
  refine gl_nil ?_
  refine ge_then ?_
  refine gc_no ?_
  refine gc_skip ?_
  refine ge_then ?_
  refine gc_seq ?_
  refine gc_reg ?_
  refine tlr 10 [.slice a0 n0 c0] Xg2 0 ?_
  refine ts Xg6 0 (.agg #[.slice a0 n0 c0]) [.slice a0 n0 c0] [.slice a0 n0 c0] ?_
  intro v8 Y C
  replace BB := belowC BB C (by omega)
  replace Xg2 := Xg2.chg C (show g2 ≠ g6 by omega)
  replace Xg4 := Xg4.chg C (show g4 ≠ g6 by omega)
  clear C Xg6
  have Xg6 := Y
  clear Y
  refine gl_nil ?_
  refine ge_then ?_
  refine gc_ret ?_
  refine ge_ret (.agg #[.slice a0 n0 c0]) (rsc 4 (T := 55) (by kernel_rfl) (by kernel_rfl) (lr Xg6 0)) ?_
  exact ⟨rfl, BB⟩
def por (x y : Int) : Int := x * (U36 / 10000 * mn y) / U36
theorem rstc {n : Nat} {l : Gl.Fr} {P : Program} {w : World} {fn : Func} (j k : Nat) {T : TypeId} {g : Nat} {u v : Value} (h : fn.results = #[.tmp j, .cell k T]) (hu : lk l j = some u) (hv : lk l k = some (.pointer (some ⟨g, 0, none⟩))) (hl : (loadVar T ⟨g, 0, none⟩).run P w = .ok v w) (a : Act) (r : Rd n [] l a) : (results fn a.tmps).run P w = .ok (.tuple #[u, v]) w := by
  have h1 := r.gD hu
  have h2 := r.gD hv
  simp at h1 h2
  simp [results, h, h1, h2, asAddr, hl]
structure TwE (w : World) (n : Nat) (V R : Int) (e : Ending) (w' : World) : Prop where
  ex : ∃ a k d z a' k' d' z', e = .returned (.tuple #[.slice a k d, .agg #[.slice a' k' d']]) ∧ Nf w' z a k d V ∧ Nf w' z' a' k' d' R ∧ (k = 0 ∨ w.heap.size ≤ z) ∧ (k' = 0 ∨ w.heap.size ≤ z') ∧ k ≤ n ∧ k' ≤ n ∧ Below w.heap.size w w'
theorem eTrunc2 {w : World} {a0 : Option Addr} {n0 c0 : Nat} {x0 : Int} (h0 : NatA w a0 n0 c0 x0) (k0 : n0 ≤ 1000000) : Calls Tryz.prog 334 #[.agg #[.slice a0 n0 c0]] w (TwE w (2 * n0 + 200) (x0 / U36) (x0 % U36)) := by
  have BB := Below.refl w.heap.size w
  refine gc_enter (n := 18) Tryz.func334 rfl (by kernel_rfl) (by kernel_rfl) ?_
  refine gc_seq ?_
  refine gc_reg ?_
  refine ta 1 [.slice a0 n0 c0] 55 (pg) ?_
  intro v1 g2 Xg2 hg2 B
  replace BB := joinB BB B
  clear B
  refine t 2 (.slice none 0 0) ?_
  have lXg2 := Xg2.lt
  refine ta 3 [.slice none 0 0] 55 (pg) ?_
  intro v3 g4 Xg4 hg4 B
  replace BB := joinB BB B
  replace Xg2 := Xg2.keep B
  clear B
  refine gl_nil ?_
  refine ge_then ?_
  refine gc_seq ?_
  replace BB := BB.drew
  replace Xg2 := Xg2.drew
  replace Xg4 := Xg4.drew
  refine gc_draw (fun w' => Blk w' g2 [.slice a0 n0 c0] 55) (fun _ => false) Xg2 ?_
  refine z 0 8 (pg g2) ?_
  refine zl 1 9 (.slice a0 n0 c0) (fun _ h => h) 0 ?_
  have lXg2 := Xg2.lt
  have lXg4 := Xg4.lt
  refine zc 2 10 268 #[] (dUnit) ?_
  rintro _ v6 ⟨aq5, nq5, cq5, rfl, Nq5, mq5, B⟩
  replace BB := joinB BB B
  replace Xg2 := Xg2.keep B
  replace Xg4 := Xg4.keep B
  clear B
  refine ⟨_, rfl, Xg2, ?_⟩
  have lXg2 := Xg2.lt
  have lXg4 := Xg4.lt
  refine zc 3 11 355 #[.slice a0 n0 c0, .slice aq5 nq5 cq5] (nfDiv (h0.keep BB) Nq5.a (by omega) (by omega)) ?_
  rintro _ v8 ⟨aq7, nq7, cq7, zq7, bq7, rq7, dq7, yq7, rfl, Nq7, Rq7, hq7, gq7, mq7, kq7, B⟩
  replace BB := joinB BB B
  replace Xg2 := Xg2.keep B
  replace Xg4 := Xg4.keep B
  replace Nq5 := Nq5.keep B
  clear B
  refine ⟨_, rfl, Xg2, ?_⟩
  refine z 4 7 (.tuple #[.slice aq7 nq7 cq7, .slice bq7 rq7 dq7, .int .i64 (divE U36)]) ?_
  refine z 5 12 (.slice aq7 nq7 cq7) ?_
  refine z 6 13 (.slice bq7 rq7 dq7) ?_
  refine z 7 14 (.int .i64 (divE U36)) ?_
  refine z 8 4 (.slice aq7 nq7 cq7) ?_
  refine z 9 5 (.slice bq7 rq7 dq7) ?_
  refine z 10 6 (.int .i64 (divE U36)) ?_
  refine gz_done ?_
  refine ge_then ?_
  refine gc_fr [(2, .slice none 0 0), (3, pg g4), (4, .slice aq7 nq7 cq7), (5, .slice bq7 rq7 dq7)] (by kernel_rfl) ?_
  refine gc_seq ?_
  refine gc_reg ?_
  refine t 15 (.slice aq7 nq7 cq7) ?_
  refine t 16 (.slice bq7 rq7 dq7) ?_
  refine t 17 (.agg #[.slice bq7 rq7 dq7]) ?_
  refine t 2 (.slice aq7 nq7 cq7) ?_
  refine ts Xg4 0 (.agg #[.slice bq7 rq7 dq7]) [.slice bq7 rq7 dq7] [.slice bq7 rq7 dq7] ?_
  intro v9 Y C
  replace BB := belowC BB C (by omega)
  replace Xg2 := Xg2.chg C (show g2 ≠ g4 by omega)
  clear Nq5
  replace Nq7 := Nq7.cell C (show nq7 = 0 ∨ zq7 ≠ g4 by omega)
  replace Rq7 := Rq7.cell C (show rq7 = 0 ∨ yq7 ≠ g4 by omega)
  clear C Xg4
  have Xg4 := Y
  clear Y
  refine gl_nil ?_
  refine ge_then ?_
  refine gc_ret ?_
  refine ge_ret (.tuple #[.slice aq7 nq7 cq7, .agg #[.slice bq7 rq7 dq7]]) (rstc 2 3 (T := 55) (by kernel_rfl) (by kernel_rfl) (by kernel_rfl) (lr Xg4 0)) ?_
  exact ⟨_, _, _, _, _, _, _, _, rfl, Nq7, Rq7.eqv (if_neg (by decide)), by omega, by omega, by omega, by omega, BB⟩
theorem dOwnVal {w : World} {a0 : Option Addr} {n0 c0 : Nat} {x0 : Int} {a1 : Option Addr} {n1 c1 : Nat} {x1 : Int} {a2 : Option Addr} {n2 c2 : Nat} {x2 : Int} {a3 : Option Addr} {n3 c3 : Nat} {x3 : Int} {rt tk un pe : Int} {jl bo : Bool} (h0 : NatA w a0 n0 c0 x0) (k0 : n0 ≤ 100000000000) (h1 : NatA w a1 n1 c1 x1) (k1 : n1 ≤ 100000000000) (h2 : NatA w a2 n2 c2 x2) (k2 : n2 ≤ 100000000000) (h3 : NatA w a3 n3 c3 x3) (k3 : n3 ≤ 100000000000) : Calls Tryz.prog 277 #[.agg #[.int .u64 rt, .int .u64 tk, .slice a0 n0 c0, .bool jl, .int .u64 un, .bool bo, .int .u64 pe, .slice a1 n1 c1, .slice a2 n2 c2, .slice a3 n3 c3]] w fun e w' => ∃ b0 m0 d0 y0 b1 m1 d1 y1 b2 m2 d2 y2 b3 m3 d3 y3, e = .returned (.agg #[.int .u64 rt, .int .u64 tk, .slice b0 m0 d0, .bool jl, .int .u64 un, .bool bo, .int .u64 pe, .slice b1 m1 d1, .slice b2 m2 d2, .slice b3 m3 d3]) ∧ Nf w' y0 b0 m0 d0 (x0) ∧ (m0 = 0 ∨ w.heap.size ≤ y0) ∧ m0 ≤ n0 + 1 ∧ Nf w' y1 b1 m1 d1 (x1) ∧ (m1 = 0 ∨ w.heap.size ≤ y1) ∧ m1 ≤ n1 + 1 ∧ Nf w' y2 b2 m2 d2 (x2) ∧ (m2 = 0 ∨ w.heap.size ≤ y2) ∧ m2 ≤ n2 + 1 ∧ Nf w' y3 b3 m3 d3 (x3) ∧ (m3 = 0 ∨ w.heap.size ≤ y3) ∧ m3 ≤ n3 + 1 ∧ Below w.heap.size w w' := by
  have BB := Below.refl w.heap.size w
  refine gc_enter (n := 25) Tryz.func277 rfl (by kernel_rfl) (by kernel_rfl) ?_
  refine gc_seq ?_
  refine gc_reg ?_
  refine ta 1 [.int .u64 rt, .int .u64 tk, .slice a0 n0 c0, .bool jl, .int .u64 un, .bool bo, .int .u64 pe, .slice a1 n1 c1, .slice a2 n2 c2, .slice a3 n3 c3] 57 (pg) ?_
  intro v1 g2 Xg2 hg2 B
  replace BB := joinB BB B
  clear B
  have lXg2 := Xg2.lt
  refine ta 2 [.int .u64 0, .int .u64 0, .slice none 0 0, .bool false, .int .u64 0, .bool false, .int .u64 0, .slice none 0 0, .slice none 0 0, .slice none 0 0] 57 (pg) ?_
  intro v3 g4 Xg4 hg4 B
  replace BB := joinB BB B
  replace Xg2 := Xg2.keep B
  clear B
  refine gl_nil ?_
  refine ge_then ?_
  refine gc_seq ?_
  refine gc_reg ?_
  refine t 3 (.func (.func 329) #[] #[]) ?_
  refine gl_nil ?_
  refine ge_then ?_
  refine gc_seq ?_
  replace BB := BB.drew
  replace Xg2 := Xg2.drew
  replace Xg4 := Xg4.drew
  refine gc_draw (fun w' => Blk w' g2 [.int .u64 rt, .int .u64 tk, .slice a0 n0 c0, .bool jl, .int .u64 un, .bool bo, .int .u64 pe, .slice a1 n1 c1, .slice a2 n2 c2, .slice a3 n3 c3] 57) (fun i => decide (9 ≤ i)) Xg2 ?_
  refine zp 0 4 (.func (.func 329) #[] #[]) ?_
  refine zp 1 5 (pq g2 2) ?_
  refine zlr 2 6 [.slice a0 n0 c0] (fun _ h => h) 2 ?_
  refine zp 4 8 (.func (.func 329) #[] #[]) ?_
  refine zp 5 9 (pq g2 7) ?_
  refine zlr 6 10 [.slice a1 n1 c1] (fun _ h => h) 7 ?_
  have lXg2 := Xg2.lt
  have lXg4 := Xg4.lt
  refine zc 3 7 329 #[.agg #[.slice a0 n0 c0]] (dOwn (h0.keep BB) (by omega)) ?_
  rintro _ v6 ⟨aq5, nq5, cq5, zq5, rfl, Nq5, hq5, mq5, B⟩
  replace BB := joinB BB B
  replace Xg2 := Xg2.keep B
  replace Xg4 := Xg4.keep B
  clear B
  refine ⟨_, rfl, Xg2, ?_⟩
  refine zp 8 12 (pq g2 2) ?_
  have lXg2 := Xg2.lt
  have lXg4 := Xg4.lt
  refine zc 7 11 329 #[.agg #[.slice a1 n1 c1]] (dOwn (h1.keep BB) (by omega)) ?_
  rintro _ v8 ⟨aq7, nq7, cq7, zq7, rfl, Nq7, hq7, mq7, B⟩
  replace BB := joinB BB B
  replace Xg2 := Xg2.keep B
  replace Xg4 := Xg4.keep B
  replace Nq5 := Nq5.keep B
  clear B
  refine ⟨_, rfl, Xg2, ?_⟩
  refine gz_late ?_
  refine ys 9 Xg2 2 (.agg #[.slice aq5 nq5 cq5]) [.slice aq5 nq5 cq5] [.int .u64 rt, .int .u64 tk, .slice aq5 nq5 cq5, .bool jl, .int .u64 un, .bool bo, .int .u64 pe, .slice a1 n1 c1, .slice a2 n2 c2, .slice a3 n3 c3] ?_
  intro v9 Y C
  replace BB := belowC BB C (by omega)
  replace Xg4 := Xg4.chg C (show g4 ≠ g2 by omega)
  replace Nq5 := Nq5.cell C (show nq5 = 0 ∨ zq5 ≠ g2 by omega)
  replace Nq7 := Nq7.cell C (show nq7 = 0 ∨ zq7 ≠ g2 by omega)
  clear C Xg2
  have Xg2 := Y
  clear Y
  refine yt 10 13 (pq g2 7) ?_
  refine ys 11 Xg2 7 (.agg #[.slice aq7 nq7 cq7]) [.slice aq7 nq7 cq7] [.int .u64 rt, .int .u64 tk, .slice aq5 nq5 cq5, .bool jl, .int .u64 un, .bool bo, .int .u64 pe, .slice aq7 nq7 cq7, .slice a2 n2 c2, .slice a3 n3 c3] ?_
  intro v10 Y C
  replace BB := belowC BB C (by omega)
  replace Xg4 := Xg4.chg C (show g4 ≠ g2 by omega)
  replace Nq5 := Nq5.cell C (show nq5 = 0 ∨ zq5 ≠ g2 by omega)
  replace Nq7 := Nq7.cell C (show nq7 = 0 ∨ zq7 ≠ g2 by omega)
  clear C Xg2
  have Xg2 := Y
  clear Y
  refine gy_done ?_
  refine ge_then ?_
  refine gc_fr [(1, pg g2), (2, pg g4), (3, .func (.func 329) #[] #[])] (by kernel_rfl) ?_
  refine gc_seq ?_
  replace BB := BB.drew
  replace Xg2 := Xg2.drew
  replace Xg4 := Xg4.drew
  replace Nq5 := Nq5.drew
  replace Nq7 := Nq7.drew
  refine gc_draw (fun w' => Blk w' g2 [.int .u64 rt, .int .u64 tk, .slice aq5 nq5 cq5, .bool jl, .int .u64 un, .bool bo, .int .u64 pe, .slice aq7 nq7 cq7, .slice a2 n2 c2, .slice a3 n3 c3] 57) (fun i => decide (9 ≤ i)) Xg2 ?_
  refine zp 0 14 (.func (.func 329) #[] #[]) ?_
  refine zp 1 15 (pq g2 8) ?_
  refine zlr 2 16 [.slice a2 n2 c2] (fun _ h => h) 8 ?_
  refine zp 4 18 (.func (.func 329) #[] #[]) ?_
  refine zp 5 19 (pq g2 9) ?_
  refine zlr 6 20 [.slice a3 n3 c3] (fun _ h => h) 9 ?_
  have lXg2 := Xg2.lt
  have lXg4 := Xg4.lt
  refine zc 3 17 329 #[.agg #[.slice a2 n2 c2]] (dOwn (h2.keep BB) (by omega)) ?_
  rintro _ v12 ⟨aq11, nq11, cq11, zq11, rfl, Nq11, hq11, mq11, B⟩
  replace BB := joinB BB B
  replace Xg2 := Xg2.keep B
  replace Xg4 := Xg4.keep B
  replace Nq5 := Nq5.keep B
  replace Nq7 := Nq7.keep B
  clear B
  refine ⟨_, rfl, Xg2, ?_⟩
  refine zp 8 22 (pq g2 8) ?_
  have lXg2 := Xg2.lt
  have lXg4 := Xg4.lt
  refine zc 7 21 329 #[.agg #[.slice a3 n3 c3]] (dOwn (h3.keep BB) (by omega)) ?_
  rintro _ v14 ⟨aq13, nq13, cq13, zq13, rfl, Nq13, hq13, mq13, B⟩
  replace BB := joinB BB B
  replace Xg2 := Xg2.keep B
  replace Xg4 := Xg4.keep B
  replace Nq5 := Nq5.keep B
  replace Nq7 := Nq7.keep B
  replace Nq11 := Nq11.keep B
  clear B
  refine ⟨_, rfl, Xg2, ?_⟩
  refine gz_late ?_
  refine ys 9 Xg2 8 (.agg #[.slice aq11 nq11 cq11]) [.slice aq11 nq11 cq11] [.int .u64 rt, .int .u64 tk, .slice aq5 nq5 cq5, .bool jl, .int .u64 un, .bool bo, .int .u64 pe, .slice aq7 nq7 cq7, .slice aq11 nq11 cq11, .slice a3 n3 c3] ?_
  intro v15 Y C
  replace BB := belowC BB C (by omega)
  replace Xg4 := Xg4.chg C (show g4 ≠ g2 by omega)
  replace Nq5 := Nq5.cell C (show nq5 = 0 ∨ zq5 ≠ g2 by omega)
  replace Nq7 := Nq7.cell C (show nq7 = 0 ∨ zq7 ≠ g2 by omega)
  replace Nq11 := Nq11.cell C (show nq11 = 0 ∨ zq11 ≠ g2 by omega)
  replace Nq13 := Nq13.cell C (show nq13 = 0 ∨ zq13 ≠ g2 by omega)
  clear C Xg2
  have Xg2 := Y
  clear Y
  refine yt 10 23 (pq g2 9) ?_
  refine ys 11 Xg2 9 (.agg #[.slice aq13 nq13 cq13]) [.slice aq13 nq13 cq13] [.int .u64 rt, .int .u64 tk, .slice aq5 nq5 cq5, .bool jl, .int .u64 un, .bool bo, .int .u64 pe, .slice aq7 nq7 cq7, .slice aq11 nq11 cq11, .slice aq13 nq13 cq13] ?_
  intro v16 Y C
  replace BB := belowC BB C (by omega)
  replace Xg4 := Xg4.chg C (show g4 ≠ g2 by omega)
  replace Nq5 := Nq5.cell C (show nq5 = 0 ∨ zq5 ≠ g2 by omega)
  replace Nq7 := Nq7.cell C (show nq7 = 0 ∨ zq7 ≠ g2 by omega)
  replace Nq11 := Nq11.cell C (show nq11 = 0 ∨ zq11 ≠ g2 by omega)
  replace Nq13 := Nq13.cell C (show nq13 = 0 ∨ zq13 ≠ g2 by omega)
  clear C Xg2
  have Xg2 := Y
  clear Y
  refine gy_done ?_
  refine ge_then ?_
  refine gc_seq ?_
  refine gc_reg ?_
  refine tlr 24 [.int .u64 rt, .int .u64 tk, .slice aq5 nq5 cq5, .bool jl, .int .u64 un, .bool bo, .int .u64 pe, .slice aq7 nq7 cq7, .slice aq11 nq11 cq11, .slice aq13 nq13 cq13] Xg2 0 ?_
  refine ts Xg4 0 (.agg #[.int .u64 rt, .int .u64 tk, .slice aq5 nq5 cq5, .bool jl, .int .u64 un, .bool bo, .int .u64 pe, .slice aq7 nq7 cq7, .slice aq11 nq11 cq11, .slice aq13 nq13 cq13]) [.int .u64 rt, .int .u64 tk, .slice aq5 nq5 cq5, .bool jl, .int .u64 un, .bool bo, .int .u64 pe, .slice aq7 nq7 cq7, .slice aq11 nq11 cq11, .slice aq13 nq13 cq13] [.int .u64 rt, .int .u64 tk, .slice aq5 nq5 cq5, .bool jl, .int .u64 un, .bool bo, .int .u64 pe, .slice aq7 nq7 cq7, .slice aq11 nq11 cq11, .slice aq13 nq13 cq13] ?_
  intro v17 Y C
  replace BB := belowC BB C (by omega)
  replace Xg2 := Xg2.chg C (show g2 ≠ g4 by omega)
  replace Nq5 := Nq5.cell C (show nq5 = 0 ∨ zq5 ≠ g4 by omega)
  replace Nq7 := Nq7.cell C (show nq7 = 0 ∨ zq7 ≠ g4 by omega)
  replace Nq11 := Nq11.cell C (show nq11 = 0 ∨ zq11 ≠ g4 by omega)
  replace Nq13 := Nq13.cell C (show nq13 = 0 ∨ zq13 ≠ g4 by omega)
  clear C Xg4
  have Xg4 := Y
  clear Y
  refine gl_nil ?_
  refine ge_then ?_
  refine gc_ret ?_
  refine ge_ret (.agg #[.int .u64 rt, .int .u64 tk, .slice aq5 nq5 cq5, .bool jl, .int .u64 un, .bool bo, .int .u64 pe, .slice aq7 nq7 cq7, .slice aq11 nq11 cq11, .slice aq13 nq13 cq13]) (rsc 2 (T := 57) (by kernel_rfl) (by kernel_rfl) (lr Xg4 0)) ?_
  exact ⟨_, _, _, _, _, _, _, _, _, _, _, _, _, _, _, _, rfl, Nq5, by omega, by omega, Nq7, by omega, by omega, Nq11, by omega, by omega, Nq13, by omega, by omega, BB⟩
end Fo
end Go.Proofs.YtpoifdokmjhclaaGreat
