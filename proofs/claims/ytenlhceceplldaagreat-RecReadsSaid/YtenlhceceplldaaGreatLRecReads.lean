/- gleanlaw8.RecReads. -/
import Derived.Test.YtenlhceceplldaaGreatJia
import Derived.Test.YtenlhceceplldaaGreatJha
namespace Go.Proofs.YtenlhceceplldaaGreat
namespace Rc
open Go.RowKit Go.Lib Pg Lim Gl
theorem copyBytes_enc {w : World} {b n c : Nat} {ao : Option Addr} {l : List Int} (A : ByA w b ao n c l) (hn : n ≤ 1099511627776) : Calls Tryz.prog 32 #[.slice ao n c] w fun e w' => ∃ v, e = .returned v ∧ MineB w' w.heap.size v l ∧ Below w.heap.size w w' := by
  obtain ⟨o, h1, h2, h3, h4, h5⟩ := A.ex
  exact copyBytes_any ao n c b o l w h1 hn h3.2 h5
theorem nqParams {ρ : Operand → Value} {w : World} {o : Oper} (f : Nat → Int) (ho : ∃ x y, o.op = .binOp .neq 24 x y 24 ∧ ρ x = .agg #[.int .u64 (f 0), .int .u64 (f 1), .int .u64 (f 2), .int .u64 (f 3), .int .u64 (f 4), .int .u64 (f 5), .int .u64 (f 6), .int .u64 (f 7), .int .u64 (f 8), .int .u64 (f 9)] ∧ ρ y = .agg #[.int .u64 (f 0), .int .u64 (f 1), .int .u64 (f 2), .int .u64 (f 3), .int .u64 (f 4), .int .u64 (f 5), .int .u64 (f 6), .int .u64 (f 7), .int .u64 (f 8), .int .u64 (f 9)] := by exact ⟨_, _, rfl, by kernel_rfl, by kernel_rfl⟩) : (execOp ρ o).run Tryz.prog w = .ok (.value (.bool false)) w := by
  obtain ⟨x, y, h, hx, hy⟩ := ho
  simp only [execOp, h, hx, hy]
  go_simp
theorem nqChain {ρ : Operand → Value} {w : World} {o : Oper} (f : Nat → Int) (ho : ∃ x y, o.op = .binOp .neq 26 x y 26 ∧ ρ x = .agg #[.int .u64 (f 0), .int .u64 (f 1)] ∧ ρ y = .agg #[.int .u64 (f 0), .int .u64 (f 1)] := by exact ⟨_, _, rfl, by kernel_rfl, by kernel_rfl⟩) : (execOp ρ o).run Tryz.prog w = .ok (.value (.bool false)) w := by
  obtain ⟨x, y, h, hx, hy⟩ := ho
  simp only [execOp, h, hx, hy]
  go_simp
theorem nqAccount {ρ : Operand → Value} {w : World} {o : Oper} (f : Nat → Int) (ho : ∃ x y, o.op = .binOp .neq 32 x y 32 ∧ ρ x = .agg #[.int .u64 (f 0), .int .u64 (f 1)] ∧ ρ y = .agg #[.int .u64 (f 0), .int .u64 (f 1)] := by exact ⟨_, _, rfl, by kernel_rfl, by kernel_rfl⟩) : (execOp ρ o).run Tryz.prog w = .ok (.value (.bool false)) w := by
  obtain ⟨x, y, h, hx, hy⟩ := ho
  simp only [execOp, h, hx, hy]
  go_simp
theorem nqCut {ρ : Operand → Value} {w : World} {o : Oper} (f : Nat → Int) (ho : ∃ x y, o.op = .binOp .neq 40 x y 40 ∧ ρ x = .agg #[.int .u64 (f 0), .int .u64 (f 1)] ∧ ρ y = .agg #[.int .u64 (f 0), .int .u64 (f 1)] := by exact ⟨_, _, rfl, by kernel_rfl, by kernel_rfl⟩) : (execOp ρ o).run Tryz.prog w = .ok (.value (.bool false)) w := by
  obtain ⟨x, y, h, hx, hy⟩ := ho
  simp only [execOp, h, hx, hy]
  go_simp
theorem nqUnbonding {ρ : Operand → Value} {w : World} {o : Oper} (f : Nat → Int) (ho : ∃ x y, o.op = .binOp .neq 42 x y 42 ∧ ρ x = .agg #[.int .u64 (f 0), .int .u64 (f 1), .int .u64 (f 2), .int .u64 (f 3), .int .u64 (f 4), .int .u64 (f 5)] ∧ ρ y = .agg #[.int .u64 (f 0), .int .u64 (f 1), .int .u64 (f 2), .int .u64 (f 3), .int .u64 (f 4), .int .u64 (f 5)] := by exact ⟨_, _, rfl, by kernel_rfl, by kernel_rfl⟩) : (execOp ρ o).run Tryz.prog w = .ok (.value (.bool false)) w := by
  obtain ⟨x, y, h, hx, hy⟩ := ho
  simp only [execOp, h, hx, hy]
  go_simp
set_option maxHeartbeats 4000000 in
set_option maxRecDepth 100000 in
theorem reads_any {w : World} {b1 b2 n ci c : Nat} {ai ao : Option Addr} {l : List Int} (A1 : ByA w b1 ai n ci l) (A2 : ByA w b2 ao n c l) (hn : n ≤ 3000) :
    Calls Tryz.prog 33 #[.slice ai n ci, .slice ao n c] w fun e w' => e = .returned (.bool true) ∧ Below w.heap.size w w' := by
  have BB := Below.refl w.heap.size w
  refine gc_enter (n := 108) Tryz.func33 rfl (by kernel_rfl) (by kernel_rfl) ?_
  refine gc_seq ?_
  refine gc_reg ?_
  refine t 4 (.bool false) ?_
  refine gl_nil ?_
  refine ge_then ?_
  refine gc_seq ?_
  refine gc_reg ?_
  refine t 18 (.slice ai n ci) ?_
  refine tc 19 71 #[.slice ai n ci] (oParams (A1.keep BB) (by omega)) ?_
  rintro _ v2 ⟨rfl, B⟩
  refine ⟨_, rfl, ?_⟩
  have sz3 := B.size
  replace BB := joinB BB B
  clear B
  refine t 17 (.tuple #[.agg #[.int .u64 (outX (stParams l) 0), .int .u64 (outX (stParams l) 1), .int .u64 (outX (stParams l) 2), .int .u64 (outX (stParams l) 3), .int .u64 (outX (stParams l) 4), .int .u64 (outX (stParams l) 5), .int .u64 (outX (stParams l) 6), .int .u64 (outX (stParams l) 7), .int .u64 (outX (stParams l) 8), .int .u64 (outX (stParams l) 9)], .int .i64 (outR (stParams l))]) ?_
  refine t 20 (.agg #[.int .u64 (outX (stParams l) 0), .int .u64 (outX (stParams l) 1), .int .u64 (outX (stParams l) 2), .int .u64 (outX (stParams l) 3), .int .u64 (outX (stParams l) 4), .int .u64 (outX (stParams l) 5), .int .u64 (outX (stParams l) 6), .int .u64 (outX (stParams l) 7), .int .u64 (outX (stParams l) 8), .int .u64 (outX (stParams l) 9)]) ?_
  refine t 21 (.int .i64 (outR (stParams l))) ?_
  refine ta 5 [.int .u64 0, .int .u64 0, .int .u64 0, .int .u64 0, .int .u64 0, .int .u64 0, .int .u64 0, .int .u64 0, .int .u64 0, .int .u64 0] 24 (pg) ?_
  intro v4 g5 Xg5 hg5 B
  have zg5 := Nat.le_trans BB.size hg5
  have sz6 := B.size
  replace BB := joinB BB B
  clear B
  refine ts Xg5 0 (.agg #[.int .u64 (outX (stParams l) 0), .int .u64 (outX (stParams l) 1), .int .u64 (outX (stParams l) 2), .int .u64 (outX (stParams l) 3), .int .u64 (outX (stParams l) 4), .int .u64 (outX (stParams l) 5), .int .u64 (outX (stParams l) 6), .int .u64 (outX (stParams l) 7), .int .u64 (outX (stParams l) 8), .int .u64 (outX (stParams l) 9)]) [.int .u64 (outX (stParams l) 0), .int .u64 (outX (stParams l) 1), .int .u64 (outX (stParams l) 2), .int .u64 (outX (stParams l) 3), .int .u64 (outX (stParams l) 4), .int .u64 (outX (stParams l) 5), .int .u64 (outX (stParams l) 6), .int .u64 (outX (stParams l) 7), .int .u64 (outX (stParams l) 8), .int .u64 (outX (stParams l) 9)] [.int .u64 (outX (stParams l) 0), .int .u64 (outX (stParams l) 1), .int .u64 (outX (stParams l) 2), .int .u64 (outX (stParams l) 3), .int .u64 (outX (stParams l) 4), .int .u64 (outX (stParams l) 5), .int .u64 (outX (stParams l) 6), .int .u64 (outX (stParams l) 7), .int .u64 (outX (stParams l) 8), .int .u64 (outX (stParams l) 9)] ?_
  intro v7 Y C
  have sz8 := C.size
  replace BB := belowC BB C (by omega)
  clear C Xg5
  have Xg5 := Y
  clear Y
  refine t 6 (.int .i64 (outR (stParams l))) ?_
  refine gl_nil ?_
  refine ge_then ?_
  refine gc_fr [(0, .slice ai n ci), (1, .slice ao n c), (4, .bool false), (5, pg g5), (6, .int .i64 (outR (stParams l)))] (by kernel_rfl) ?_
  refine gc_seq ?_
  refine gc_reg ?_
  refine t 23 (.slice ao n c) ?_
  refine tc 24 72 #[.slice ao n c] (rParams (A2.keep BB)) ?_
  rintro _ v10 ⟨rfl, B⟩
  refine ⟨_, rfl, ?_⟩
  have sz11 := B.size
  replace BB := joinB BB B
  replace Xg5 := Xg5.keep B
  clear B
  refine t 22 (.tuple #[.agg #[.int .u64 (outX (stParams l) 0), .int .u64 (outX (stParams l) 1), .int .u64 (outX (stParams l) 2), .int .u64 (outX (stParams l) 3), .int .u64 (outX (stParams l) 4), .int .u64 (outX (stParams l) 5), .int .u64 (outX (stParams l) 6), .int .u64 (outX (stParams l) 7), .int .u64 (outX (stParams l) 8), .int .u64 (outX (stParams l) 9)], .int .i64 (outR (stParams l))]) ?_
  refine t 25 (.agg #[.int .u64 (outX (stParams l) 0), .int .u64 (outX (stParams l) 1), .int .u64 (outX (stParams l) 2), .int .u64 (outX (stParams l) 3), .int .u64 (outX (stParams l) 4), .int .u64 (outX (stParams l) 5), .int .u64 (outX (stParams l) 6), .int .u64 (outX (stParams l) 7), .int .u64 (outX (stParams l) 8), .int .u64 (outX (stParams l) 9)]) ?_
  refine t 26 (.int .i64 (outR (stParams l))) ?_
  have lXg5 := Xg5.lt
  refine ta 7 [.int .u64 0, .int .u64 0, .int .u64 0, .int .u64 0, .int .u64 0, .int .u64 0, .int .u64 0, .int .u64 0, .int .u64 0, .int .u64 0] 24 (pg) ?_
  intro v12 g13 Xg13 hg13 B
  have zg13 := Nat.le_trans BB.size hg13
  have sz14 := B.size
  replace BB := joinB BB B
  replace Xg5 := Xg5.keep B
  clear B
  refine ts Xg13 0 (.agg #[.int .u64 (outX (stParams l) 0), .int .u64 (outX (stParams l) 1), .int .u64 (outX (stParams l) 2), .int .u64 (outX (stParams l) 3), .int .u64 (outX (stParams l) 4), .int .u64 (outX (stParams l) 5), .int .u64 (outX (stParams l) 6), .int .u64 (outX (stParams l) 7), .int .u64 (outX (stParams l) 8), .int .u64 (outX (stParams l) 9)]) [.int .u64 (outX (stParams l) 0), .int .u64 (outX (stParams l) 1), .int .u64 (outX (stParams l) 2), .int .u64 (outX (stParams l) 3), .int .u64 (outX (stParams l) 4), .int .u64 (outX (stParams l) 5), .int .u64 (outX (stParams l) 6), .int .u64 (outX (stParams l) 7), .int .u64 (outX (stParams l) 8), .int .u64 (outX (stParams l) 9)] [.int .u64 (outX (stParams l) 0), .int .u64 (outX (stParams l) 1), .int .u64 (outX (stParams l) 2), .int .u64 (outX (stParams l) 3), .int .u64 (outX (stParams l) 4), .int .u64 (outX (stParams l) 5), .int .u64 (outX (stParams l) 6), .int .u64 (outX (stParams l) 7), .int .u64 (outX (stParams l) 8), .int .u64 (outX (stParams l) 9)] ?_
  intro v15 Y C
  have sz16 := C.size
  replace BB := belowC BB C (by omega)
  replace Xg5 := Xg5.chg C (show g5 ≠ g13 by omega)
  clear C Xg13
  have Xg13 := Y
  clear Y
  refine t 8 (.int .i64 (outR (stParams l))) ?_
  refine gl_nil ?_
  refine ge_then ?_
  refine gc_seq ?_
  refine gc_seq ?_
  refine gc_reg ?_
  refine tlr 27 [.int .u64 (outX (stParams l) 0), .int .u64 (outX (stParams l) 1), .int .u64 (outX (stParams l) 2), .int .u64 (outX (stParams l) 3), .int .u64 (outX (stParams l) 4), .int .u64 (outX (stParams l) 5), .int .u64 (outX (stParams l) 6), .int .u64 (outX (stParams l) 7), .int .u64 (outX (stParams l) 8), .int .u64 (outX (stParams l) 9)] Xg5 0 ?_
  refine tlr 28 [.int .u64 (outX (stParams l) 0), .int .u64 (outX (stParams l) 1), .int .u64 (outX (stParams l) 2), .int .u64 (outX (stParams l) 3), .int .u64 (outX (stParams l) 4), .int .u64 (outX (stParams l) 5), .int .u64 (outX (stParams l) 6), .int .u64 (outX (stParams l) 7), .int .u64 (outX (stParams l) 8), .int .u64 (outX (stParams l) 9)] Xg13 0 ?_
  refine tr 29 (.bool false) (nqParams (outX (stParams l))) ?_
  refine t 30 (.bool false) ?_
  refine t 31 (.int .i64 (outR (stParams l))) ?_
  refine t 32 (.int .i64 (outR (stParams l))) ?_
  refine tq 33 (.bool ((outR (stParams l) : Int) != outR (stParams l))) (.bool false) (congrArg Value.bool (bne_self_eq_false _)) ?_
  refine t 34 (.bool false) ?_
  refine gl_nil ?_
  refine ge_then ?_
  clear Xg5
  clear Xg13
  refine gc_fr [(0, .slice ai n ci), (1, .slice ao n c), (4, .bool false), (6, .int .i64 (outR (stParams l))), (8, .int .i64 (outR (stParams l))), (34, .bool false)] (by kernel_rfl) ?_
  refine gc_no ?_
  refine gc_skip ?_
  refine ge_then ?_
  refine gc_seq ?_
  refine gc_reg ?_
  refine t 36 (.slice ai n ci) ?_
  refine tc 37 73 #[.slice ai n ci] (oChain (A1.keep BB) (by omega)) ?_
  rintro _ v18 ⟨rfl, B⟩
  refine ⟨_, rfl, ?_⟩
  have sz19 := B.size
  replace BB := joinB BB B
  clear B
  refine t 35 (.tuple #[.agg #[.int .u64 (outX (stChain l) 0), .int .u64 (outX (stChain l) 1)], .int .i64 (outR (stChain l))]) ?_
  refine t 38 (.agg #[.int .u64 (outX (stChain l) 0), .int .u64 (outX (stChain l) 1)]) ?_
  refine t 39 (.int .i64 (outR (stChain l))) ?_
  refine ta 9 [.int .u64 0, .int .u64 0] 26 (pg) ?_
  intro v20 g21 Xg21 hg21 B
  have zg21 := Nat.le_trans BB.size hg21
  have sz22 := B.size
  replace BB := joinB BB B
  clear B
  refine ts Xg21 0 (.agg #[.int .u64 (outX (stChain l) 0), .int .u64 (outX (stChain l) 1)]) [.int .u64 (outX (stChain l) 0), .int .u64 (outX (stChain l) 1)] [.int .u64 (outX (stChain l) 0), .int .u64 (outX (stChain l) 1)] ?_
  intro v23 Y C
  have sz24 := C.size
  replace BB := belowC BB C (by omega)
  clear C Xg21
  have Xg21 := Y
  clear Y
  refine t 6 (.int .i64 (outR (stChain l))) ?_
  refine gl_nil ?_
  refine ge_then ?_
  refine gc_seq ?_
  refine gc_reg ?_
  refine t 41 (.slice ao n c) ?_
  refine tc 42 74 #[.slice ao n c] (rChain (A2.keep BB)) ?_
  rintro _ v26 ⟨rfl, B⟩
  refine ⟨_, rfl, ?_⟩
  have sz27 := B.size
  replace BB := joinB BB B
  replace Xg21 := Xg21.keep B
  clear B
  refine t 40 (.tuple #[.agg #[.int .u64 (outX (stChain l) 0), .int .u64 (outX (stChain l) 1)], .int .i64 (outR (stChain l))]) ?_
  refine t 43 (.agg #[.int .u64 (outX (stChain l) 0), .int .u64 (outX (stChain l) 1)]) ?_
  refine t 44 (.int .i64 (outR (stChain l))) ?_
  have lXg21 := Xg21.lt
  refine ta 10 [.int .u64 0, .int .u64 0] 26 (pg) ?_
  intro v28 g29 Xg29 hg29 B
  have zg29 := Nat.le_trans BB.size hg29
  have sz30 := B.size
  replace BB := joinB BB B
  replace Xg21 := Xg21.keep B
  clear B
  refine ts Xg29 0 (.agg #[.int .u64 (outX (stChain l) 0), .int .u64 (outX (stChain l) 1)]) [.int .u64 (outX (stChain l) 0), .int .u64 (outX (stChain l) 1)] [.int .u64 (outX (stChain l) 0), .int .u64 (outX (stChain l) 1)] ?_
  intro v31 Y C
  have sz32 := C.size
  replace BB := belowC BB C (by omega)
  replace Xg21 := Xg21.chg C (show g21 ≠ g29 by omega)
  clear C Xg29
  have Xg29 := Y
  clear Y
  refine t 8 (.int .i64 (outR (stChain l))) ?_
  refine gl_nil ?_
  refine ge_then ?_
  refine gc_fr [(0, .slice ai n ci), (1, .slice ao n c), (4, .bool false), (6, .int .i64 (outR (stChain l))), (8, .int .i64 (outR (stChain l))), (9, pg g21), (10, pg g29)] (by kernel_rfl) ?_
  refine gc_seq ?_
  refine gc_seq ?_
  refine gc_reg ?_
  refine tlr 45 [.int .u64 (outX (stChain l) 0), .int .u64 (outX (stChain l) 1)] Xg21 0 ?_
  refine tlr 46 [.int .u64 (outX (stChain l) 0), .int .u64 (outX (stChain l) 1)] Xg29 0 ?_
  refine tr 47 (.bool false) (nqChain (outX (stChain l))) ?_
  refine t 48 (.bool false) ?_
  refine t 49 (.int .i64 (outR (stChain l))) ?_
  refine t 50 (.int .i64 (outR (stChain l))) ?_
  refine tq 51 (.bool ((outR (stChain l) : Int) != outR (stChain l))) (.bool false) (congrArg Value.bool (bne_self_eq_false _)) ?_
  refine t 52 (.bool false) ?_
  refine gl_nil ?_
  refine ge_then ?_
  clear Xg21
  clear Xg29
  refine gc_no ?_
  refine gc_skip ?_
  refine ge_then ?_
  refine gc_seq ?_
  refine gc_reg ?_
  refine t 54 (.slice ai n ci) ?_
  refine tc 55 75 #[.slice ai n ci] (oPool (A1.keep BB) (by omega)) ?_
  rintro _ v34 ⟨aq330, nq330, cq330, rfl, ⟨Qq330, Lq330⟩, B⟩
  refine ⟨_, rfl, ?_⟩
  have sz35 := B.size
  replace BB := joinB BB B
  clear B
  replace Qq330 := natX Qq330
  refine t 53 (.tuple #[.agg #[.slice aq330 nq330 cq330], .int .i64 (outR (stPool l))]) ?_
  refine t 56 (.agg #[.slice aq330 nq330 cq330]) ?_
  refine t 57 (.int .i64 (outR (stPool l))) ?_
  refine ta 11 [.slice none 0 0] 30 (pg) ?_
  intro v36 g37 Xg37 hg37 B
  have zg37 := Nat.le_trans BB.size hg37
  have sz38 := B.size
  replace BB := joinB BB B
  replace Qq330 := NatX.keep Qq330 B
  clear B
  refine ts Xg37 0 (.agg #[.slice aq330 nq330 cq330]) [.slice aq330 nq330 cq330] [.slice aq330 nq330 cq330] ?_
  intro v39 Y C
  have sz40 := C.size
  replace BB := belowC BB C (by omega)
  replace Qq330 := NatX.but Qq330 (chg_but C) (by omega)
  clear C Xg37
  have Xg37 := Y
  clear Y
  refine t 6 (.int .i64 (outR (stPool l))) ?_
  refine gl_nil ?_
  refine ge_then ?_
  refine gc_fr [(0, .slice ai n ci), (1, .slice ao n c), (4, .bool false), (6, .int .i64 (outR (stPool l))), (8, .int .i64 (outR (stChain l))), (11, pg g37)] (by kernel_rfl) ?_
  refine gc_seq ?_
  refine gc_reg ?_
  refine t 59 (.slice ao n c) ?_
  refine tc 60 76 #[.slice ao n c] (rPool (A2.keep BB)) ?_
  rintro _ v42 ⟨aq410, nq410, cq410, rfl, ⟨Qq410, Lq410⟩, B⟩
  refine ⟨_, rfl, ?_⟩
  have sz43 := B.size
  replace BB := joinB BB B
  replace Qq330 := NatX.keep Qq330 B
  replace Xg37 := Xg37.keep B
  clear B
  replace Qq410 := natX Qq410
  refine t 58 (.tuple #[.agg #[.slice aq410 nq410 cq410], .int .i64 (outR (stPool l))]) ?_
  refine t 61 (.agg #[.slice aq410 nq410 cq410]) ?_
  refine t 62 (.int .i64 (outR (stPool l))) ?_
  have lXg37 := Xg37.lt
  refine ta 12 [.slice none 0 0] 30 (pg) ?_
  intro v44 g45 Xg45 hg45 B
  have zg45 := Nat.le_trans BB.size hg45
  have sz46 := B.size
  replace BB := joinB BB B
  replace Qq330 := NatX.keep Qq330 B
  replace Xg37 := Xg37.keep B
  replace Qq410 := NatX.keep Qq410 B
  clear B
  refine ts Xg45 0 (.agg #[.slice aq410 nq410 cq410]) [.slice aq410 nq410 cq410] [.slice aq410 nq410 cq410] ?_
  intro v47 Y C
  have sz48 := C.size
  replace BB := belowC BB C (by omega)
  replace Qq330 := NatX.but Qq330 (chg_but C) (by omega)
  replace Xg37 := Xg37.chg C (show g37 ≠ g45 by omega)
  replace Qq410 := NatX.but Qq410 (chg_but C) (by omega)
  clear C Xg45
  have Xg45 := Y
  clear Y
  refine t 8 (.int .i64 (outR (stPool l))) ?_
  refine gl_nil ?_
  refine ge_then ?_
  refine gc_seq ?_
  refine gc_seq ?_
  refine gc_reg ?_
  refine tlr 63 [.slice aq330 nq330 cq330] Xg37 0 ?_
  refine tlr 64 [.slice aq410 nq410 cq410] Xg45 0 ?_
  refine tc 65 36 #[.agg #[.slice aq330 nq330 cq330], .agg #[.slice aq410 nq410 cq410]] (decSame Qq330.nat.o Qq410.nat.o (by omega) (by omega)) ?_
  rintro _ v49 ⟨rfl, B⟩
  refine ⟨_, rfl, ?_⟩
  have sz50 := B.size
  replace BB := joinB BB B
  replace Qq330 := NatX.keep Qq330 B
  replace Xg37 := Xg37.keep B
  replace Qq410 := NatX.keep Qq410 B
  replace Xg45 := Xg45.keep B
  clear B
  clear Qq330
  clear Qq410
  refine t 66 (.bool false) ?_
  refine t 67 (.bool false) ?_
  refine t 68 (.int .i64 (outR (stPool l))) ?_
  refine t 69 (.int .i64 (outR (stPool l))) ?_
  refine tq 70 (.bool ((outR (stPool l) : Int) != outR (stPool l))) (.bool false) (congrArg Value.bool (bne_self_eq_false _)) ?_
  refine t 71 (.bool false) ?_
  refine gl_nil ?_
  refine ge_then ?_
  clear Xg37
  clear Xg45
  refine gc_fr [(0, .slice ai n ci), (1, .slice ao n c), (4, .bool false), (6, .int .i64 (outR (stPool l))), (8, .int .i64 (outR (stPool l))), (71, .bool false)] (by kernel_rfl) ?_
  refine gc_no ?_
  refine gc_skip ?_
  refine ge_then ?_
  refine gc_seq ?_
  refine gc_reg ?_
  refine t 73 (.slice ai n ci) ?_
  refine tc 74 39 #[.slice ai n ci] (oAccount (A1.keep BB) (by omega)) ?_
  rintro _ v52 ⟨rfl, B⟩
  refine ⟨_, rfl, ?_⟩
  have sz53 := B.size
  replace BB := joinB BB B
  clear B
  refine t 72 (.tuple #[.agg #[.int .u64 (outX (stAccount l) 0), .int .u64 (outX (stAccount l) 1)], .int .i64 (outR (stAccount l))]) ?_
  refine t 75 (.agg #[.int .u64 (outX (stAccount l) 0), .int .u64 (outX (stAccount l) 1)]) ?_
  refine t 76 (.int .i64 (outR (stAccount l))) ?_
  refine ta 13 [.int .u64 0, .int .u64 0] 32 (pg) ?_
  intro v54 g55 Xg55 hg55 B
  have zg55 := Nat.le_trans BB.size hg55
  have sz56 := B.size
  replace BB := joinB BB B
  clear B
  refine ts Xg55 0 (.agg #[.int .u64 (outX (stAccount l) 0), .int .u64 (outX (stAccount l) 1)]) [.int .u64 (outX (stAccount l) 0), .int .u64 (outX (stAccount l) 1)] [.int .u64 (outX (stAccount l) 0), .int .u64 (outX (stAccount l) 1)] ?_
  intro v57 Y C
  have sz58 := C.size
  replace BB := belowC BB C (by omega)
  clear C Xg55
  have Xg55 := Y
  clear Y
  refine t 6 (.int .i64 (outR (stAccount l))) ?_
  refine gl_nil ?_
  refine ge_then ?_
  refine gc_seq ?_
  refine gc_reg ?_
  refine t 78 (.slice ao n c) ?_
  refine tc 79 77 #[.slice ao n c] (rAccount (A2.keep BB)) ?_
  rintro _ v60 ⟨rfl, B⟩
  refine ⟨_, rfl, ?_⟩
  have sz61 := B.size
  replace BB := joinB BB B
  replace Xg55 := Xg55.keep B
  clear B
  refine t 77 (.tuple #[.agg #[.int .u64 (outX (stAccount l) 0), .int .u64 (outX (stAccount l) 1)], .int .i64 (outR (stAccount l))]) ?_
  refine t 80 (.agg #[.int .u64 (outX (stAccount l) 0), .int .u64 (outX (stAccount l) 1)]) ?_
  refine t 81 (.int .i64 (outR (stAccount l))) ?_
  have lXg55 := Xg55.lt
  refine ta 14 [.int .u64 0, .int .u64 0] 32 (pg) ?_
  intro v62 g63 Xg63 hg63 B
  have zg63 := Nat.le_trans BB.size hg63
  have sz64 := B.size
  replace BB := joinB BB B
  replace Xg55 := Xg55.keep B
  clear B
  refine ts Xg63 0 (.agg #[.int .u64 (outX (stAccount l) 0), .int .u64 (outX (stAccount l) 1)]) [.int .u64 (outX (stAccount l) 0), .int .u64 (outX (stAccount l) 1)] [.int .u64 (outX (stAccount l) 0), .int .u64 (outX (stAccount l) 1)] ?_
  intro v65 Y C
  have sz66 := C.size
  replace BB := belowC BB C (by omega)
  replace Xg55 := Xg55.chg C (show g55 ≠ g63 by omega)
  clear C Xg63
  have Xg63 := Y
  clear Y
  refine t 8 (.int .i64 (outR (stAccount l))) ?_
  refine gl_nil ?_
  refine ge_then ?_
  refine gc_fr [(0, .slice ai n ci), (1, .slice ao n c), (4, .bool false), (6, .int .i64 (outR (stAccount l))), (8, .int .i64 (outR (stAccount l))), (13, pg g55), (14, pg g63)] (by kernel_rfl) ?_
  refine gc_seq ?_
  refine gc_seq ?_
  refine gc_reg ?_
  refine tlr 82 [.int .u64 (outX (stAccount l) 0), .int .u64 (outX (stAccount l) 1)] Xg55 0 ?_
  refine tlr 83 [.int .u64 (outX (stAccount l) 0), .int .u64 (outX (stAccount l) 1)] Xg63 0 ?_
  refine tr 84 (.bool false) (nqAccount (outX (stAccount l))) ?_
  refine t 85 (.bool false) ?_
  refine t 86 (.int .i64 (outR (stAccount l))) ?_
  refine t 87 (.int .i64 (outR (stAccount l))) ?_
  refine tq 88 (.bool ((outR (stAccount l) : Int) != outR (stAccount l))) (.bool false) (congrArg Value.bool (bne_self_eq_false _)) ?_
  refine t 89 (.bool false) ?_
  refine gl_nil ?_
  refine ge_then ?_
  clear Xg55
  clear Xg63
  refine gc_no ?_
  refine gc_skip ?_
  refine ge_then ?_
  refine gc_seq ?_
  refine gc_reg ?_
  refine t 91 (.slice ai n ci) ?_
  refine tc 92 40 #[.slice ai n ci] (oVal (A1.keep BB) (by omega)) ?_
  rintro _ v68 ⟨aq672, nq672, cq672, aq677, nq677, cq677, aq678, nq678, cq678, aq679, nq679, cq679, rfl, ⟨Qq672, Lq672⟩, ⟨Qq677, Lq677⟩, ⟨Qq678, Lq678⟩, ⟨Qq679, Lq679⟩, B⟩
  refine ⟨_, rfl, ?_⟩
  have sz69 := B.size
  replace BB := joinB BB B
  clear B
  replace Qq672 := natX Qq672
  replace Qq677 := natX Qq677
  replace Qq678 := natX Qq678
  replace Qq679 := natX Qq679
  refine t 90 (.tuple #[.agg #[.int .u64 (outX (stVal l) 0), .int .u64 (outX (stVal l) 1), .slice aq672 nq672 cq672, .bool (outX (stVal l) 3 == 1), .int .u64 (outX (stVal l) 4), .bool (outX (stVal l) 5 == 1), .int .u64 (outX (stVal l) 6), .slice aq677 nq677 cq677, .slice aq678 nq678 cq678, .slice aq679 nq679 cq679], .int .i64 (outR (stVal l))]) ?_
  refine t 93 (.agg #[.int .u64 (outX (stVal l) 0), .int .u64 (outX (stVal l) 1), .slice aq672 nq672 cq672, .bool (outX (stVal l) 3 == 1), .int .u64 (outX (stVal l) 4), .bool (outX (stVal l) 5 == 1), .int .u64 (outX (stVal l) 6), .slice aq677 nq677 cq677, .slice aq678 nq678 cq678, .slice aq679 nq679 cq679]) ?_
  refine t 94 (.int .i64 (outR (stVal l))) ?_
  refine ta 15 [.int .u64 0, .int .u64 0, .slice none 0 0, .bool false, .int .u64 0, .bool false, .int .u64 0, .slice none 0 0, .slice none 0 0, .slice none 0 0] 34 (pg) ?_
  intro v70 g71 Xg71 hg71 B
  have zg71 := Nat.le_trans BB.size hg71
  have sz72 := B.size
  replace BB := joinB BB B
  replace Qq672 := NatX.keep Qq672 B
  replace Qq677 := NatX.keep Qq677 B
  replace Qq678 := NatX.keep Qq678 B
  replace Qq679 := NatX.keep Qq679 B
  clear B
  refine ts Xg71 0 (.agg #[.int .u64 (outX (stVal l) 0), .int .u64 (outX (stVal l) 1), .slice aq672 nq672 cq672, .bool (outX (stVal l) 3 == 1), .int .u64 (outX (stVal l) 4), .bool (outX (stVal l) 5 == 1), .int .u64 (outX (stVal l) 6), .slice aq677 nq677 cq677, .slice aq678 nq678 cq678, .slice aq679 nq679 cq679]) [.int .u64 (outX (stVal l) 0), .int .u64 (outX (stVal l) 1), .slice aq672 nq672 cq672, .bool (outX (stVal l) 3 == 1), .int .u64 (outX (stVal l) 4), .bool (outX (stVal l) 5 == 1), .int .u64 (outX (stVal l) 6), .slice aq677 nq677 cq677, .slice aq678 nq678 cq678, .slice aq679 nq679 cq679] [.int .u64 (outX (stVal l) 0), .int .u64 (outX (stVal l) 1), .slice aq672 nq672 cq672, .bool (outX (stVal l) 3 == 1), .int .u64 (outX (stVal l) 4), .bool (outX (stVal l) 5 == 1), .int .u64 (outX (stVal l) 6), .slice aq677 nq677 cq677, .slice aq678 nq678 cq678, .slice aq679 nq679 cq679] ?_
  intro v73 Y C
  have sz74 := C.size
  replace BB := belowC BB C (by omega)
  replace Qq672 := NatX.but Qq672 (chg_but C) (by omega)
  replace Qq677 := NatX.but Qq677 (chg_but C) (by omega)
  replace Qq678 := NatX.but Qq678 (chg_but C) (by omega)
  replace Qq679 := NatX.but Qq679 (chg_but C) (by omega)
  clear C Xg71
  have Xg71 := Y
  clear Y
  refine t 6 (.int .i64 (outR (stVal l))) ?_
  refine gl_nil ?_
  refine ge_then ?_
  refine gc_fr [(1, .slice ao n c), (4, .bool false), (6, .int .i64 (outR (stVal l))), (8, .int .i64 (outR (stAccount l))), (15, pg g71)] (by kernel_rfl) ?_
  refine gc_seq ?_
  refine gc_reg ?_
  refine t 96 (.slice ao n c) ?_
  refine tc 97 78 #[.slice ao n c] (rVal (A2.keep BB)) ?_
  rintro _ v76 ⟨aq752, nq752, cq752, aq757, nq757, cq757, aq758, nq758, cq758, aq759, nq759, cq759, rfl, ⟨Qq752, Lq752⟩, ⟨Qq757, Lq757⟩, ⟨Qq758, Lq758⟩, ⟨Qq759, Lq759⟩, B⟩
  refine ⟨_, rfl, ?_⟩
  have sz77 := B.size
  replace BB := joinB BB B
  replace Qq672 := NatX.keep Qq672 B
  replace Qq677 := NatX.keep Qq677 B
  replace Qq678 := NatX.keep Qq678 B
  replace Qq679 := NatX.keep Qq679 B
  replace Xg71 := Xg71.keep B
  clear B
  replace Qq752 := natX Qq752
  replace Qq757 := natX Qq757
  replace Qq758 := natX Qq758
  replace Qq759 := natX Qq759
  refine t 95 (.tuple #[.agg #[.int .u64 (outX (stVal l) 0), .int .u64 (outX (stVal l) 1), .slice aq752 nq752 cq752, .bool (outX (stVal l) 3 == 1), .int .u64 (outX (stVal l) 4), .bool (outX (stVal l) 5 == 1), .int .u64 (outX (stVal l) 6), .slice aq757 nq757 cq757, .slice aq758 nq758 cq758, .slice aq759 nq759 cq759], .int .i64 (outR (stVal l))]) ?_
  refine t 98 (.agg #[.int .u64 (outX (stVal l) 0), .int .u64 (outX (stVal l) 1), .slice aq752 nq752 cq752, .bool (outX (stVal l) 3 == 1), .int .u64 (outX (stVal l) 4), .bool (outX (stVal l) 5 == 1), .int .u64 (outX (stVal l) 6), .slice aq757 nq757 cq757, .slice aq758 nq758 cq758, .slice aq759 nq759 cq759]) ?_
  refine t 99 (.int .i64 (outR (stVal l))) ?_
  have lXg71 := Xg71.lt
  refine ta 16 [.int .u64 0, .int .u64 0, .slice none 0 0, .bool false, .int .u64 0, .bool false, .int .u64 0, .slice none 0 0, .slice none 0 0, .slice none 0 0] 34 (pg) ?_
  intro v78 g79 Xg79 hg79 B
  have zg79 := Nat.le_trans BB.size hg79
  have sz80 := B.size
  replace BB := joinB BB B
  replace Qq672 := NatX.keep Qq672 B
  replace Qq677 := NatX.keep Qq677 B
  replace Qq678 := NatX.keep Qq678 B
  replace Qq679 := NatX.keep Qq679 B
  replace Xg71 := Xg71.keep B
  replace Qq752 := NatX.keep Qq752 B
  replace Qq757 := NatX.keep Qq757 B
  replace Qq758 := NatX.keep Qq758 B
  replace Qq759 := NatX.keep Qq759 B
  clear B
  refine ts Xg79 0 (.agg #[.int .u64 (outX (stVal l) 0), .int .u64 (outX (stVal l) 1), .slice aq752 nq752 cq752, .bool (outX (stVal l) 3 == 1), .int .u64 (outX (stVal l) 4), .bool (outX (stVal l) 5 == 1), .int .u64 (outX (stVal l) 6), .slice aq757 nq757 cq757, .slice aq758 nq758 cq758, .slice aq759 nq759 cq759]) [.int .u64 (outX (stVal l) 0), .int .u64 (outX (stVal l) 1), .slice aq752 nq752 cq752, .bool (outX (stVal l) 3 == 1), .int .u64 (outX (stVal l) 4), .bool (outX (stVal l) 5 == 1), .int .u64 (outX (stVal l) 6), .slice aq757 nq757 cq757, .slice aq758 nq758 cq758, .slice aq759 nq759 cq759] [.int .u64 (outX (stVal l) 0), .int .u64 (outX (stVal l) 1), .slice aq752 nq752 cq752, .bool (outX (stVal l) 3 == 1), .int .u64 (outX (stVal l) 4), .bool (outX (stVal l) 5 == 1), .int .u64 (outX (stVal l) 6), .slice aq757 nq757 cq757, .slice aq758 nq758 cq758, .slice aq759 nq759 cq759] ?_
  intro v81 Y C
  have sz82 := C.size
  replace BB := belowC BB C (by omega)
  replace Qq672 := NatX.but Qq672 (chg_but C) (by omega)
  replace Qq677 := NatX.but Qq677 (chg_but C) (by omega)
  replace Qq678 := NatX.but Qq678 (chg_but C) (by omega)
  replace Qq679 := NatX.but Qq679 (chg_but C) (by omega)
  replace Xg71 := Xg71.chg C (show g71 ≠ g79 by omega)
  replace Qq752 := NatX.but Qq752 (chg_but C) (by omega)
  replace Qq757 := NatX.but Qq757 (chg_but C) (by omega)
  replace Qq758 := NatX.but Qq758 (chg_but C) (by omega)
  replace Qq759 := NatX.but Qq759 (chg_but C) (by omega)
  clear C Xg79
  have Xg79 := Y
  clear Y
  refine t 8 (.int .i64 (outR (stVal l))) ?_
  refine gl_nil ?_
  refine ge_then ?_
  refine gc_seq ?_
  refine gc_reg ?_
  refine tlr 100 [.int .u64 (outX (stVal l) 0), .int .u64 (outX (stVal l) 1), .slice aq672 nq672 cq672, .bool (outX (stVal l) 3 == 1), .int .u64 (outX (stVal l) 4), .bool (outX (stVal l) 5 == 1), .int .u64 (outX (stVal l) 6), .slice aq677 nq677 cq677, .slice aq678 nq678 cq678, .slice aq679 nq679 cq679] Xg71 0 ?_
  refine tlr 101 [.int .u64 (outX (stVal l) 0), .int .u64 (outX (stVal l) 1), .slice aq752 nq752 cq752, .bool (outX (stVal l) 3 == 1), .int .u64 (outX (stVal l) 4), .bool (outX (stVal l) 5 == 1), .int .u64 (outX (stVal l) 6), .slice aq757 nq757 cq757, .slice aq758 nq758 cq758, .slice aq759 nq759 cq759] Xg79 0 ?_
  refine tc 102 44 #[.agg #[.int .u64 (outX (stVal l) 0), .int .u64 (outX (stVal l) 1), .slice aq672 nq672 cq672, .bool (outX (stVal l) 3 == 1), .int .u64 (outX (stVal l) 4), .bool (outX (stVal l) 5 == 1), .int .u64 (outX (stVal l) 6), .slice aq677 nq677 cq677, .slice aq678 nq678 cq678, .slice aq679 nq679 cq679], .agg #[.int .u64 (outX (stVal l) 0), .int .u64 (outX (stVal l) 1), .slice aq752 nq752 cq752, .bool (outX (stVal l) 3 == 1), .int .u64 (outX (stVal l) 4), .bool (outX (stVal l) 5 == 1), .int .u64 (outX (stVal l) 6), .slice aq757 nq757 cq757, .slice aq758 nq758 cq758, .slice aq759 nq759 cq759]] (sameVal Qq672.nat.o Qq752.nat.o (by omega) (by omega) Qq677.nat.o Qq757.nat.o (by omega) (by omega) Qq678.nat.o Qq758.nat.o (by omega) (by omega) Qq679.nat.o Qq759.nat.o (by omega) (by omega)) ?_
  rintro _ v83 ⟨rfl, B⟩
  refine ⟨_, rfl, ?_⟩
  have sz84 := B.size
  replace BB := joinB BB B
  replace Qq672 := NatX.keep Qq672 B
  replace Qq677 := NatX.keep Qq677 B
  replace Qq678 := NatX.keep Qq678 B
  replace Qq679 := NatX.keep Qq679 B
  replace Xg71 := Xg71.keep B
  replace Qq752 := NatX.keep Qq752 B
  replace Qq757 := NatX.keep Qq757 B
  replace Qq758 := NatX.keep Qq758 B
  replace Qq759 := NatX.keep Qq759 B
  replace Xg79 := Xg79.keep B
  clear B
  clear Qq672
  clear Qq752
  clear Qq677
  clear Qq757
  clear Qq678
  clear Qq758
  clear Qq679
  clear Qq759
  refine t 103 (.bool true) ?_
  refine t 104 (.int .i64 (outR (stVal l))) ?_
  refine t 105 (.int .i64 (outR (stVal l))) ?_
  refine tq 106 (.bool ((outR (stVal l) : Int) == outR (stVal l))) (.bool true) (congrArg Value.bool (beq_self_eq_true _)) ?_
  refine t 107 (.bool true) ?_
  refine t 4 (.bool true) ?_
  refine gl_nil ?_
  refine ge_then ?_
  clear Xg71
  clear Xg79
  refine gc_fr [(4, .bool true)] (by kernel_rfl) ?_
  refine gc_ret ?_
  refine ge_ret (.bool true) (rs1 4 (by kernel_rfl) (by kernel_rfl)) ?_
  exact ⟨rfl, BB⟩
set_option maxHeartbeats 4000000 in
set_option maxRecDepth 100000 in
theorem more_any {w : World} {b1 b2 n ci c : Nat} {ai ao : Option Addr} {l : List Int} (A1 : ByA w b1 ai n ci l) (A2 : ByA w b2 ao n c l) (hn : n ≤ 3000) :
    Calls Tryz.prog 34 #[.slice ai n ci, .slice ao n c] w fun e w' => e = .returned (.bool true) ∧ Below w.heap.size w w' := by
  have BB := Below.refl w.heap.size w
  refine gc_enter (n := 130) Tryz.func34 rfl (by kernel_rfl) (by kernel_rfl) ?_
  refine gc_seq ?_
  refine gc_reg ?_
  refine t 4 (.bool false) ?_
  refine gl_nil ?_
  refine ge_then ?_
  refine gc_seq ?_
  refine gc_reg ?_
  refine t 20 (.slice ai n ci) ?_
  refine tc 21 79 #[.slice ai n ci] (oDelegation (A1.keep BB) (by omega)) ?_
  rintro _ v2 ⟨aq10, nq10, cq10, aq12, nq12, cq12, rfl, ⟨Qq10, Lq10⟩, ⟨Qq12, Lq12⟩, B⟩
  refine ⟨_, rfl, ?_⟩
  have sz3 := B.size
  replace BB := joinB BB B
  clear B
  replace Qq10 := natX Qq10
  replace Qq12 := natX Qq12
  refine t 19 (.tuple #[.agg #[.slice aq10 nq10 cq10, .int .u64 (outX (stDelegation l) 1), .slice aq12 nq12 cq12], .int .i64 (outR (stDelegation l))]) ?_
  refine t 22 (.agg #[.slice aq10 nq10 cq10, .int .u64 (outX (stDelegation l) 1), .slice aq12 nq12 cq12]) ?_
  refine t 23 (.int .i64 (outR (stDelegation l))) ?_
  refine ta 5 [.slice none 0 0, .int .u64 0, .slice none 0 0] 36 (pg) ?_
  intro v4 g5 Xg5 hg5 B
  have zg5 := Nat.le_trans BB.size hg5
  have sz6 := B.size
  replace BB := joinB BB B
  replace Qq10 := NatX.keep Qq10 B
  replace Qq12 := NatX.keep Qq12 B
  clear B
  refine ts Xg5 0 (.agg #[.slice aq10 nq10 cq10, .int .u64 (outX (stDelegation l) 1), .slice aq12 nq12 cq12]) [.slice aq10 nq10 cq10, .int .u64 (outX (stDelegation l) 1), .slice aq12 nq12 cq12] [.slice aq10 nq10 cq10, .int .u64 (outX (stDelegation l) 1), .slice aq12 nq12 cq12] ?_
  intro v7 Y C
  have sz8 := C.size
  replace BB := belowC BB C (by omega)
  replace Qq10 := NatX.but Qq10 (chg_but C) (by omega)
  replace Qq12 := NatX.but Qq12 (chg_but C) (by omega)
  clear C Xg5
  have Xg5 := Y
  clear Y
  refine t 6 (.int .i64 (outR (stDelegation l))) ?_
  refine gl_nil ?_
  refine ge_then ?_
  refine gc_fr [(0, .slice ai n ci), (1, .slice ao n c), (4, .bool false), (5, pg g5), (6, .int .i64 (outR (stDelegation l)))] (by kernel_rfl) ?_
  refine gc_seq ?_
  refine gc_reg ?_
  refine t 25 (.slice ao n c) ?_
  refine tc 26 80 #[.slice ao n c] (rDelegation (A2.keep BB)) ?_
  rintro _ v10 ⟨aq90, nq90, cq90, aq92, nq92, cq92, rfl, ⟨Qq90, Lq90⟩, ⟨Qq92, Lq92⟩, B⟩
  refine ⟨_, rfl, ?_⟩
  have sz11 := B.size
  replace BB := joinB BB B
  replace Qq10 := NatX.keep Qq10 B
  replace Qq12 := NatX.keep Qq12 B
  replace Xg5 := Xg5.keep B
  clear B
  replace Qq90 := natX Qq90
  replace Qq92 := natX Qq92
  refine t 24 (.tuple #[.agg #[.slice aq90 nq90 cq90, .int .u64 (outX (stDelegation l) 1), .slice aq92 nq92 cq92], .int .i64 (outR (stDelegation l))]) ?_
  refine t 27 (.agg #[.slice aq90 nq90 cq90, .int .u64 (outX (stDelegation l) 1), .slice aq92 nq92 cq92]) ?_
  refine t 28 (.int .i64 (outR (stDelegation l))) ?_
  have lXg5 := Xg5.lt
  refine ta 7 [.slice none 0 0, .int .u64 0, .slice none 0 0] 36 (pg) ?_
  intro v12 g13 Xg13 hg13 B
  have zg13 := Nat.le_trans BB.size hg13
  have sz14 := B.size
  replace BB := joinB BB B
  replace Qq10 := NatX.keep Qq10 B
  replace Qq12 := NatX.keep Qq12 B
  replace Xg5 := Xg5.keep B
  replace Qq90 := NatX.keep Qq90 B
  replace Qq92 := NatX.keep Qq92 B
  clear B
  refine ts Xg13 0 (.agg #[.slice aq90 nq90 cq90, .int .u64 (outX (stDelegation l) 1), .slice aq92 nq92 cq92]) [.slice aq90 nq90 cq90, .int .u64 (outX (stDelegation l) 1), .slice aq92 nq92 cq92] [.slice aq90 nq90 cq90, .int .u64 (outX (stDelegation l) 1), .slice aq92 nq92 cq92] ?_
  intro v15 Y C
  have sz16 := C.size
  replace BB := belowC BB C (by omega)
  replace Qq10 := NatX.but Qq10 (chg_but C) (by omega)
  replace Qq12 := NatX.but Qq12 (chg_but C) (by omega)
  replace Xg5 := Xg5.chg C (show g5 ≠ g13 by omega)
  replace Qq90 := NatX.but Qq90 (chg_but C) (by omega)
  replace Qq92 := NatX.but Qq92 (chg_but C) (by omega)
  clear C Xg13
  have Xg13 := Y
  clear Y
  refine t 8 (.int .i64 (outR (stDelegation l))) ?_
  refine gl_nil ?_
  refine ge_then ?_
  refine gc_seq ?_
  refine gc_seq ?_
  refine gc_reg ?_
  refine tlr 29 [.slice aq10 nq10 cq10, .int .u64 (outX (stDelegation l) 1), .slice aq12 nq12 cq12] Xg5 0 ?_
  refine tlr 30 [.slice aq90 nq90 cq90, .int .u64 (outX (stDelegation l) 1), .slice aq92 nq92 cq92] Xg13 0 ?_
  refine tc 31 81 #[.agg #[.slice aq10 nq10 cq10, .int .u64 (outX (stDelegation l) 1), .slice aq12 nq12 cq12], .agg #[.slice aq90 nq90 cq90, .int .u64 (outX (stDelegation l) 1), .slice aq92 nq92 cq92]] (sameDelegation Qq10.nat.o Qq90.nat.o (by omega) (by omega) Qq12.nat.o Qq92.nat.o (by omega) (by omega)) ?_
  rintro _ v17 ⟨rfl, B⟩
  refine ⟨_, rfl, ?_⟩
  have sz18 := B.size
  replace BB := joinB BB B
  replace Qq10 := NatX.keep Qq10 B
  replace Qq12 := NatX.keep Qq12 B
  replace Xg5 := Xg5.keep B
  replace Qq90 := NatX.keep Qq90 B
  replace Qq92 := NatX.keep Qq92 B
  replace Xg13 := Xg13.keep B
  clear B
  clear Qq10
  clear Qq90
  clear Qq12
  clear Qq92
  refine t 32 (.bool false) ?_
  refine t 33 (.bool false) ?_
  refine t 34 (.int .i64 (outR (stDelegation l))) ?_
  refine t 35 (.int .i64 (outR (stDelegation l))) ?_
  refine tq 36 (.bool ((outR (stDelegation l) : Int) != outR (stDelegation l))) (.bool false) (congrArg Value.bool (bne_self_eq_false _)) ?_
  refine t 37 (.bool false) ?_
  refine gl_nil ?_
  refine ge_then ?_
  clear Xg5
  clear Xg13
  refine gc_fr [(0, .slice ai n ci), (1, .slice ao n c), (4, .bool false), (6, .int .i64 (outR (stDelegation l))), (8, .int .i64 (outR (stDelegation l))), (37, .bool false)] (by kernel_rfl) ?_
  refine gc_no ?_
  refine gc_skip ?_
  refine ge_then ?_
  refine gc_seq ?_
  refine gc_reg ?_
  refine t 39 (.slice ai n ci) ?_
  refine tc 40 41 #[.slice ai n ci] (oHistory (A1.keep BB) (by omega)) ?_
  rintro _ v20 ⟨aq190, nq190, cq190, rfl, ⟨Qq190, Lq190⟩, B⟩
  refine ⟨_, rfl, ?_⟩
  have sz21 := B.size
  replace BB := joinB BB B
  clear B
  replace Qq190 := natX Qq190
  refine t 38 (.tuple #[.agg #[.slice aq190 nq190 cq190, .int .u64 (outX (stHistory l) 1)], .int .i64 (outR (stHistory l))]) ?_
  refine t 41 (.agg #[.slice aq190 nq190 cq190, .int .u64 (outX (stHistory l) 1)]) ?_
  refine t 42 (.int .i64 (outR (stHistory l))) ?_
  refine ta 9 [.slice none 0 0, .int .u64 0] 38 (pg) ?_
  intro v22 g23 Xg23 hg23 B
  have zg23 := Nat.le_trans BB.size hg23
  have sz24 := B.size
  replace BB := joinB BB B
  replace Qq190 := NatX.keep Qq190 B
  clear B
  refine ts Xg23 0 (.agg #[.slice aq190 nq190 cq190, .int .u64 (outX (stHistory l) 1)]) [.slice aq190 nq190 cq190, .int .u64 (outX (stHistory l) 1)] [.slice aq190 nq190 cq190, .int .u64 (outX (stHistory l) 1)] ?_
  intro v25 Y C
  have sz26 := C.size
  replace BB := belowC BB C (by omega)
  replace Qq190 := NatX.but Qq190 (chg_but C) (by omega)
  clear C Xg23
  have Xg23 := Y
  clear Y
  refine t 6 (.int .i64 (outR (stHistory l))) ?_
  refine gl_nil ?_
  refine ge_then ?_
  refine gc_seq ?_
  refine gc_reg ?_
  refine t 44 (.slice ao n c) ?_
  refine tc 45 82 #[.slice ao n c] (rHistory (A2.keep BB)) ?_
  rintro _ v28 ⟨aq270, nq270, cq270, rfl, ⟨Qq270, Lq270⟩, B⟩
  refine ⟨_, rfl, ?_⟩
  have sz29 := B.size
  replace BB := joinB BB B
  replace Qq190 := NatX.keep Qq190 B
  replace Xg23 := Xg23.keep B
  clear B
  replace Qq270 := natX Qq270
  refine t 43 (.tuple #[.agg #[.slice aq270 nq270 cq270, .int .u64 (outX (stHistory l) 1)], .int .i64 (outR (stHistory l))]) ?_
  refine t 46 (.agg #[.slice aq270 nq270 cq270, .int .u64 (outX (stHistory l) 1)]) ?_
  refine t 47 (.int .i64 (outR (stHistory l))) ?_
  have lXg23 := Xg23.lt
  refine ta 10 [.slice none 0 0, .int .u64 0] 38 (pg) ?_
  intro v30 g31 Xg31 hg31 B
  have zg31 := Nat.le_trans BB.size hg31
  have sz32 := B.size
  replace BB := joinB BB B
  replace Qq190 := NatX.keep Qq190 B
  replace Xg23 := Xg23.keep B
  replace Qq270 := NatX.keep Qq270 B
  clear B
  refine ts Xg31 0 (.agg #[.slice aq270 nq270 cq270, .int .u64 (outX (stHistory l) 1)]) [.slice aq270 nq270 cq270, .int .u64 (outX (stHistory l) 1)] [.slice aq270 nq270 cq270, .int .u64 (outX (stHistory l) 1)] ?_
  intro v33 Y C
  have sz34 := C.size
  replace BB := belowC BB C (by omega)
  replace Qq190 := NatX.but Qq190 (chg_but C) (by omega)
  replace Xg23 := Xg23.chg C (show g23 ≠ g31 by omega)
  replace Qq270 := NatX.but Qq270 (chg_but C) (by omega)
  clear C Xg31
  have Xg31 := Y
  clear Y
  refine t 8 (.int .i64 (outR (stHistory l))) ?_
  refine gl_nil ?_
  refine ge_then ?_
  refine gc_fr [(0, .slice ai n ci), (1, .slice ao n c), (4, .bool false), (6, .int .i64 (outR (stHistory l))), (8, .int .i64 (outR (stHistory l))), (9, pg g23), (10, pg g31)] (by kernel_rfl) ?_
  refine gc_seq ?_
  refine gc_seq ?_
  refine gc_reg ?_
  refine tlr 48 [.slice aq190 nq190 cq190, .int .u64 (outX (stHistory l) 1)] Xg23 0 ?_
  refine tlr 49 [.slice aq270 nq270 cq270, .int .u64 (outX (stHistory l) 1)] Xg31 0 ?_
  refine tc 50 43 #[.agg #[.slice aq190 nq190 cq190, .int .u64 (outX (stHistory l) 1)], .agg #[.slice aq270 nq270 cq270, .int .u64 (outX (stHistory l) 1)]] (sameHistory Qq190.nat.o Qq270.nat.o (by omega) (by omega)) ?_
  rintro _ v35 ⟨rfl, B⟩
  refine ⟨_, rfl, ?_⟩
  have sz36 := B.size
  replace BB := joinB BB B
  replace Qq190 := NatX.keep Qq190 B
  replace Xg23 := Xg23.keep B
  replace Qq270 := NatX.keep Qq270 B
  replace Xg31 := Xg31.keep B
  clear B
  clear Qq190
  clear Qq270
  refine t 51 (.bool false) ?_
  refine t 52 (.bool false) ?_
  refine t 53 (.int .i64 (outR (stHistory l))) ?_
  refine t 54 (.int .i64 (outR (stHistory l))) ?_
  refine tq 55 (.bool ((outR (stHistory l) : Int) != outR (stHistory l))) (.bool false) (congrArg Value.bool (bne_self_eq_false _)) ?_
  refine t 56 (.bool false) ?_
  refine gl_nil ?_
  refine ge_then ?_
  clear Xg23
  clear Xg31
  refine gc_no ?_
  refine gc_skip ?_
  refine ge_then ?_
  refine gc_seq ?_
  refine gc_reg ?_
  refine t 58 (.slice ai n ci) ?_
  refine tc 59 38 #[.slice ai n ci] (oCut (A1.keep BB) (by omega)) ?_
  rintro _ v38 ⟨rfl, B⟩
  refine ⟨_, rfl, ?_⟩
  have sz39 := B.size
  replace BB := joinB BB B
  clear B
  refine t 57 (.tuple #[.agg #[.int .u64 (outX (stCut l) 0), .int .u64 (outX (stCut l) 1)], .int .i64 (outR (stCut l))]) ?_
  refine t 60 (.agg #[.int .u64 (outX (stCut l) 0), .int .u64 (outX (stCut l) 1)]) ?_
  refine t 61 (.int .i64 (outR (stCut l))) ?_
  refine ta 11 [.int .u64 0, .int .u64 0] 40 (pg) ?_
  intro v40 g41 Xg41 hg41 B
  have zg41 := Nat.le_trans BB.size hg41
  have sz42 := B.size
  replace BB := joinB BB B
  clear B
  refine ts Xg41 0 (.agg #[.int .u64 (outX (stCut l) 0), .int .u64 (outX (stCut l) 1)]) [.int .u64 (outX (stCut l) 0), .int .u64 (outX (stCut l) 1)] [.int .u64 (outX (stCut l) 0), .int .u64 (outX (stCut l) 1)] ?_
  intro v43 Y C
  have sz44 := C.size
  replace BB := belowC BB C (by omega)
  clear C Xg41
  have Xg41 := Y
  clear Y
  refine t 6 (.int .i64 (outR (stCut l))) ?_
  refine gl_nil ?_
  refine ge_then ?_
  refine gc_fr [(0, .slice ai n ci), (1, .slice ao n c), (4, .bool false), (6, .int .i64 (outR (stCut l))), (8, .int .i64 (outR (stHistory l))), (11, pg g41)] (by kernel_rfl) ?_
  refine gc_seq ?_
  refine gc_reg ?_
  refine t 63 (.slice ao n c) ?_
  refine tc 64 83 #[.slice ao n c] (rCut (A2.keep BB)) ?_
  rintro _ v46 ⟨rfl, B⟩
  refine ⟨_, rfl, ?_⟩
  have sz47 := B.size
  replace BB := joinB BB B
  replace Xg41 := Xg41.keep B
  clear B
  refine t 62 (.tuple #[.agg #[.int .u64 (outX (stCut l) 0), .int .u64 (outX (stCut l) 1)], .int .i64 (outR (stCut l))]) ?_
  refine t 65 (.agg #[.int .u64 (outX (stCut l) 0), .int .u64 (outX (stCut l) 1)]) ?_
  refine t 66 (.int .i64 (outR (stCut l))) ?_
  have lXg41 := Xg41.lt
  refine ta 12 [.int .u64 0, .int .u64 0] 40 (pg) ?_
  intro v48 g49 Xg49 hg49 B
  have zg49 := Nat.le_trans BB.size hg49
  have sz50 := B.size
  replace BB := joinB BB B
  replace Xg41 := Xg41.keep B
  clear B
  refine ts Xg49 0 (.agg #[.int .u64 (outX (stCut l) 0), .int .u64 (outX (stCut l) 1)]) [.int .u64 (outX (stCut l) 0), .int .u64 (outX (stCut l) 1)] [.int .u64 (outX (stCut l) 0), .int .u64 (outX (stCut l) 1)] ?_
  intro v51 Y C
  have sz52 := C.size
  replace BB := belowC BB C (by omega)
  replace Xg41 := Xg41.chg C (show g41 ≠ g49 by omega)
  clear C Xg49
  have Xg49 := Y
  clear Y
  refine t 8 (.int .i64 (outR (stCut l))) ?_
  refine gl_nil ?_
  refine ge_then ?_
  refine gc_seq ?_
  refine gc_seq ?_
  refine gc_reg ?_
  refine tlr 67 [.int .u64 (outX (stCut l) 0), .int .u64 (outX (stCut l) 1)] Xg41 0 ?_
  refine tlr 68 [.int .u64 (outX (stCut l) 0), .int .u64 (outX (stCut l) 1)] Xg49 0 ?_
  refine tr 69 (.bool false) (nqCut (outX (stCut l))) ?_
  refine t 70 (.bool false) ?_
  refine t 71 (.int .i64 (outR (stCut l))) ?_
  refine t 72 (.int .i64 (outR (stCut l))) ?_
  refine tq 73 (.bool ((outR (stCut l) : Int) != outR (stCut l))) (.bool false) (congrArg Value.bool (bne_self_eq_false _)) ?_
  refine t 74 (.bool false) ?_
  refine gl_nil ?_
  refine ge_then ?_
  clear Xg41
  clear Xg49
  refine gc_fr [(0, .slice ai n ci), (1, .slice ao n c), (4, .bool false), (6, .int .i64 (outR (stCut l))), (8, .int .i64 (outR (stCut l))), (74, .bool false)] (by kernel_rfl) ?_
  refine gc_no ?_
  refine gc_skip ?_
  refine ge_then ?_
  refine gc_seq ?_
  refine gc_reg ?_
  refine t 76 (.slice ai n ci) ?_
  refine tc 77 84 #[.slice ai n ci] (oUnbonding (A1.keep BB) (by omega)) ?_
  rintro _ v54 ⟨rfl, B⟩
  refine ⟨_, rfl, ?_⟩
  have sz55 := B.size
  replace BB := joinB BB B
  clear B
  refine t 75 (.tuple #[.agg #[.int .u64 (outX (stUnbonding l) 0), .int .u64 (outX (stUnbonding l) 1), .int .u64 (outX (stUnbonding l) 2), .int .u64 (outX (stUnbonding l) 3), .int .u64 (outX (stUnbonding l) 4), .int .u64 (outX (stUnbonding l) 5)], .int .i64 (outR (stUnbonding l))]) ?_
  refine t 78 (.agg #[.int .u64 (outX (stUnbonding l) 0), .int .u64 (outX (stUnbonding l) 1), .int .u64 (outX (stUnbonding l) 2), .int .u64 (outX (stUnbonding l) 3), .int .u64 (outX (stUnbonding l) 4), .int .u64 (outX (stUnbonding l) 5)]) ?_
  refine t 79 (.int .i64 (outR (stUnbonding l))) ?_
  refine ta 13 [.int .u64 0, .int .u64 0, .int .u64 0, .int .u64 0, .int .u64 0, .int .u64 0] 42 (pg) ?_
  intro v56 g57 Xg57 hg57 B
  have zg57 := Nat.le_trans BB.size hg57
  have sz58 := B.size
  replace BB := joinB BB B
  clear B
  refine ts Xg57 0 (.agg #[.int .u64 (outX (stUnbonding l) 0), .int .u64 (outX (stUnbonding l) 1), .int .u64 (outX (stUnbonding l) 2), .int .u64 (outX (stUnbonding l) 3), .int .u64 (outX (stUnbonding l) 4), .int .u64 (outX (stUnbonding l) 5)]) [.int .u64 (outX (stUnbonding l) 0), .int .u64 (outX (stUnbonding l) 1), .int .u64 (outX (stUnbonding l) 2), .int .u64 (outX (stUnbonding l) 3), .int .u64 (outX (stUnbonding l) 4), .int .u64 (outX (stUnbonding l) 5)] [.int .u64 (outX (stUnbonding l) 0), .int .u64 (outX (stUnbonding l) 1), .int .u64 (outX (stUnbonding l) 2), .int .u64 (outX (stUnbonding l) 3), .int .u64 (outX (stUnbonding l) 4), .int .u64 (outX (stUnbonding l) 5)] ?_
  intro v59 Y C
  have sz60 := C.size
  replace BB := belowC BB C (by omega)
  clear C Xg57
  have Xg57 := Y
  clear Y
  refine t 6 (.int .i64 (outR (stUnbonding l))) ?_
  refine gl_nil ?_
  refine ge_then ?_
  refine gc_seq ?_
  refine gc_reg ?_
  refine t 81 (.slice ao n c) ?_
  refine tc 82 85 #[.slice ao n c] (rUnbonding (A2.keep BB)) ?_
  rintro _ v62 ⟨rfl, B⟩
  refine ⟨_, rfl, ?_⟩
  have sz63 := B.size
  replace BB := joinB BB B
  replace Xg57 := Xg57.keep B
  clear B
  refine t 80 (.tuple #[.agg #[.int .u64 (outX (stUnbonding l) 0), .int .u64 (outX (stUnbonding l) 1), .int .u64 (outX (stUnbonding l) 2), .int .u64 (outX (stUnbonding l) 3), .int .u64 (outX (stUnbonding l) 4), .int .u64 (outX (stUnbonding l) 5)], .int .i64 (outR (stUnbonding l))]) ?_
  refine t 83 (.agg #[.int .u64 (outX (stUnbonding l) 0), .int .u64 (outX (stUnbonding l) 1), .int .u64 (outX (stUnbonding l) 2), .int .u64 (outX (stUnbonding l) 3), .int .u64 (outX (stUnbonding l) 4), .int .u64 (outX (stUnbonding l) 5)]) ?_
  refine t 84 (.int .i64 (outR (stUnbonding l))) ?_
  have lXg57 := Xg57.lt
  refine ta 14 [.int .u64 0, .int .u64 0, .int .u64 0, .int .u64 0, .int .u64 0, .int .u64 0] 42 (pg) ?_
  intro v64 g65 Xg65 hg65 B
  have zg65 := Nat.le_trans BB.size hg65
  have sz66 := B.size
  replace BB := joinB BB B
  replace Xg57 := Xg57.keep B
  clear B
  refine ts Xg65 0 (.agg #[.int .u64 (outX (stUnbonding l) 0), .int .u64 (outX (stUnbonding l) 1), .int .u64 (outX (stUnbonding l) 2), .int .u64 (outX (stUnbonding l) 3), .int .u64 (outX (stUnbonding l) 4), .int .u64 (outX (stUnbonding l) 5)]) [.int .u64 (outX (stUnbonding l) 0), .int .u64 (outX (stUnbonding l) 1), .int .u64 (outX (stUnbonding l) 2), .int .u64 (outX (stUnbonding l) 3), .int .u64 (outX (stUnbonding l) 4), .int .u64 (outX (stUnbonding l) 5)] [.int .u64 (outX (stUnbonding l) 0), .int .u64 (outX (stUnbonding l) 1), .int .u64 (outX (stUnbonding l) 2), .int .u64 (outX (stUnbonding l) 3), .int .u64 (outX (stUnbonding l) 4), .int .u64 (outX (stUnbonding l) 5)] ?_
  intro v67 Y C
  have sz68 := C.size
  replace BB := belowC BB C (by omega)
  replace Xg57 := Xg57.chg C (show g57 ≠ g65 by omega)
  clear C Xg65
  have Xg65 := Y
  clear Y
  refine t 8 (.int .i64 (outR (stUnbonding l))) ?_
  refine gl_nil ?_
  refine ge_then ?_
  refine gc_fr [(0, .slice ai n ci), (1, .slice ao n c), (4, .bool false), (6, .int .i64 (outR (stUnbonding l))), (8, .int .i64 (outR (stUnbonding l))), (13, pg g57), (14, pg g65)] (by kernel_rfl) ?_
  refine gc_seq ?_
  refine gc_seq ?_
  refine gc_reg ?_
  refine tlr 85 [.int .u64 (outX (stUnbonding l) 0), .int .u64 (outX (stUnbonding l) 1), .int .u64 (outX (stUnbonding l) 2), .int .u64 (outX (stUnbonding l) 3), .int .u64 (outX (stUnbonding l) 4), .int .u64 (outX (stUnbonding l) 5)] Xg57 0 ?_
  refine tlr 86 [.int .u64 (outX (stUnbonding l) 0), .int .u64 (outX (stUnbonding l) 1), .int .u64 (outX (stUnbonding l) 2), .int .u64 (outX (stUnbonding l) 3), .int .u64 (outX (stUnbonding l) 4), .int .u64 (outX (stUnbonding l) 5)] Xg65 0 ?_
  refine tr 87 (.bool false) (nqUnbonding (outX (stUnbonding l))) ?_
  refine t 88 (.bool false) ?_
  refine t 89 (.int .i64 (outR (stUnbonding l))) ?_
  refine t 90 (.int .i64 (outR (stUnbonding l))) ?_
  refine tq 91 (.bool ((outR (stUnbonding l) : Int) != outR (stUnbonding l))) (.bool false) (congrArg Value.bool (bne_self_eq_false _)) ?_
  refine t 92 (.bool false) ?_
  refine gl_nil ?_
  refine ge_then ?_
  clear Xg57
  clear Xg65
  refine gc_no ?_
  refine gc_skip ?_
  refine ge_then ?_
  refine gc_seq ?_
  refine gc_reg ?_
  refine t 94 (.slice ai n ci) ?_
  refine tc 95 86 #[.slice ai n ci] (oMove (A1.keep BB) (by omega)) ?_
  rintro _ v70 ⟨aq696, nq696, cq696, rfl, ⟨Qq696, Lq696⟩, B⟩
  refine ⟨_, rfl, ?_⟩
  have sz71 := B.size
  replace BB := joinB BB B
  clear B
  replace Qq696 := natX Qq696
  refine t 93 (.tuple #[.agg #[.int .u64 (outX (stMove l) 0), .int .u64 (outX (stMove l) 1), .int .u64 (outX (stMove l) 2), .int .u64 (outX (stMove l) 3), .int .u64 (outX (stMove l) 4), .int .u64 (outX (stMove l) 5), .slice aq696 nq696 cq696], .int .i64 (outR (stMove l))]) ?_
  refine t 96 (.agg #[.int .u64 (outX (stMove l) 0), .int .u64 (outX (stMove l) 1), .int .u64 (outX (stMove l) 2), .int .u64 (outX (stMove l) 3), .int .u64 (outX (stMove l) 4), .int .u64 (outX (stMove l) 5), .slice aq696 nq696 cq696]) ?_
  refine t 97 (.int .i64 (outR (stMove l))) ?_
  refine ta 15 [.int .u64 0, .int .u64 0, .int .u64 0, .int .u64 0, .int .u64 0, .int .u64 0, .slice none 0 0] 44 (pg) ?_
  intro v72 g73 Xg73 hg73 B
  have zg73 := Nat.le_trans BB.size hg73
  have sz74 := B.size
  replace BB := joinB BB B
  replace Qq696 := NatX.keep Qq696 B
  clear B
  refine ts Xg73 0 (.agg #[.int .u64 (outX (stMove l) 0), .int .u64 (outX (stMove l) 1), .int .u64 (outX (stMove l) 2), .int .u64 (outX (stMove l) 3), .int .u64 (outX (stMove l) 4), .int .u64 (outX (stMove l) 5), .slice aq696 nq696 cq696]) [.int .u64 (outX (stMove l) 0), .int .u64 (outX (stMove l) 1), .int .u64 (outX (stMove l) 2), .int .u64 (outX (stMove l) 3), .int .u64 (outX (stMove l) 4), .int .u64 (outX (stMove l) 5), .slice aq696 nq696 cq696] [.int .u64 (outX (stMove l) 0), .int .u64 (outX (stMove l) 1), .int .u64 (outX (stMove l) 2), .int .u64 (outX (stMove l) 3), .int .u64 (outX (stMove l) 4), .int .u64 (outX (stMove l) 5), .slice aq696 nq696 cq696] ?_
  intro v75 Y C
  have sz76 := C.size
  replace BB := belowC BB C (by omega)
  replace Qq696 := NatX.but Qq696 (chg_but C) (by omega)
  clear C Xg73
  have Xg73 := Y
  clear Y
  refine t 6 (.int .i64 (outR (stMove l))) ?_
  refine gl_nil ?_
  refine ge_then ?_
  refine gc_fr [(0, .slice ai n ci), (1, .slice ao n c), (4, .bool false), (6, .int .i64 (outR (stMove l))), (8, .int .i64 (outR (stUnbonding l))), (15, pg g73)] (by kernel_rfl) ?_
  refine gc_seq ?_
  refine gc_reg ?_
  refine t 99 (.slice ao n c) ?_
  refine tc 100 87 #[.slice ao n c] (rMove (A2.keep BB)) ?_
  rintro _ v78 ⟨aq776, nq776, cq776, rfl, ⟨Qq776, Lq776⟩, B⟩
  refine ⟨_, rfl, ?_⟩
  have sz79 := B.size
  replace BB := joinB BB B
  replace Qq696 := NatX.keep Qq696 B
  replace Xg73 := Xg73.keep B
  clear B
  replace Qq776 := natX Qq776
  refine t 98 (.tuple #[.agg #[.int .u64 (outX (stMove l) 0), .int .u64 (outX (stMove l) 1), .int .u64 (outX (stMove l) 2), .int .u64 (outX (stMove l) 3), .int .u64 (outX (stMove l) 4), .int .u64 (outX (stMove l) 5), .slice aq776 nq776 cq776], .int .i64 (outR (stMove l))]) ?_
  refine t 101 (.agg #[.int .u64 (outX (stMove l) 0), .int .u64 (outX (stMove l) 1), .int .u64 (outX (stMove l) 2), .int .u64 (outX (stMove l) 3), .int .u64 (outX (stMove l) 4), .int .u64 (outX (stMove l) 5), .slice aq776 nq776 cq776]) ?_
  refine t 102 (.int .i64 (outR (stMove l))) ?_
  have lXg73 := Xg73.lt
  refine ta 16 [.int .u64 0, .int .u64 0, .int .u64 0, .int .u64 0, .int .u64 0, .int .u64 0, .slice none 0 0] 44 (pg) ?_
  intro v80 g81 Xg81 hg81 B
  have zg81 := Nat.le_trans BB.size hg81
  have sz82 := B.size
  replace BB := joinB BB B
  replace Qq696 := NatX.keep Qq696 B
  replace Xg73 := Xg73.keep B
  replace Qq776 := NatX.keep Qq776 B
  clear B
  refine ts Xg81 0 (.agg #[.int .u64 (outX (stMove l) 0), .int .u64 (outX (stMove l) 1), .int .u64 (outX (stMove l) 2), .int .u64 (outX (stMove l) 3), .int .u64 (outX (stMove l) 4), .int .u64 (outX (stMove l) 5), .slice aq776 nq776 cq776]) [.int .u64 (outX (stMove l) 0), .int .u64 (outX (stMove l) 1), .int .u64 (outX (stMove l) 2), .int .u64 (outX (stMove l) 3), .int .u64 (outX (stMove l) 4), .int .u64 (outX (stMove l) 5), .slice aq776 nq776 cq776] [.int .u64 (outX (stMove l) 0), .int .u64 (outX (stMove l) 1), .int .u64 (outX (stMove l) 2), .int .u64 (outX (stMove l) 3), .int .u64 (outX (stMove l) 4), .int .u64 (outX (stMove l) 5), .slice aq776 nq776 cq776] ?_
  intro v83 Y C
  have sz84 := C.size
  replace BB := belowC BB C (by omega)
  replace Qq696 := NatX.but Qq696 (chg_but C) (by omega)
  replace Xg73 := Xg73.chg C (show g73 ≠ g81 by omega)
  replace Qq776 := NatX.but Qq776 (chg_but C) (by omega)
  clear C Xg81
  have Xg81 := Y
  clear Y
  refine t 8 (.int .i64 (outR (stMove l))) ?_
  refine gl_nil ?_
  refine ge_then ?_
  refine gc_seq ?_
  refine gc_seq ?_
  refine gc_reg ?_
  refine tlr 103 [.int .u64 (outX (stMove l) 0), .int .u64 (outX (stMove l) 1), .int .u64 (outX (stMove l) 2), .int .u64 (outX (stMove l) 3), .int .u64 (outX (stMove l) 4), .int .u64 (outX (stMove l) 5), .slice aq696 nq696 cq696] Xg73 0 ?_
  refine tlr 104 [.int .u64 (outX (stMove l) 0), .int .u64 (outX (stMove l) 1), .int .u64 (outX (stMove l) 2), .int .u64 (outX (stMove l) 3), .int .u64 (outX (stMove l) 4), .int .u64 (outX (stMove l) 5), .slice aq776 nq776 cq776] Xg81 0 ?_
  refine tc 105 88 #[.agg #[.int .u64 (outX (stMove l) 0), .int .u64 (outX (stMove l) 1), .int .u64 (outX (stMove l) 2), .int .u64 (outX (stMove l) 3), .int .u64 (outX (stMove l) 4), .int .u64 (outX (stMove l) 5), .slice aq696 nq696 cq696], .agg #[.int .u64 (outX (stMove l) 0), .int .u64 (outX (stMove l) 1), .int .u64 (outX (stMove l) 2), .int .u64 (outX (stMove l) 3), .int .u64 (outX (stMove l) 4), .int .u64 (outX (stMove l) 5), .slice aq776 nq776 cq776]] (sameMove Qq696.nat.o Qq776.nat.o (by omega) (by omega)) ?_
  rintro _ v85 ⟨rfl, B⟩
  refine ⟨_, rfl, ?_⟩
  have sz86 := B.size
  replace BB := joinB BB B
  replace Qq696 := NatX.keep Qq696 B
  replace Xg73 := Xg73.keep B
  replace Qq776 := NatX.keep Qq776 B
  replace Xg81 := Xg81.keep B
  clear B
  clear Qq696
  clear Qq776
  refine t 106 (.bool false) ?_
  refine t 107 (.bool false) ?_
  refine t 108 (.int .i64 (outR (stMove l))) ?_
  refine t 109 (.int .i64 (outR (stMove l))) ?_
  refine tq 110 (.bool ((outR (stMove l) : Int) != outR (stMove l))) (.bool false) (congrArg Value.bool (bne_self_eq_false _)) ?_
  refine t 111 (.bool false) ?_
  refine gl_nil ?_
  refine ge_then ?_
  clear Xg73
  clear Xg81
  refine gc_fr [(0, .slice ai n ci), (1, .slice ao n c), (4, .bool false), (6, .int .i64 (outR (stMove l))), (8, .int .i64 (outR (stMove l))), (111, .bool false)] (by kernel_rfl) ?_
  refine gc_no ?_
  refine gc_skip ?_
  refine ge_then ?_
  refine gc_seq ?_
  refine gc_reg ?_
  refine t 113 (.slice ai n ci) ?_
  refine tc 114 42 #[.slice ai n ci] (oNumber (A1.keep BB) (by omega)) ?_
  rintro _ v88 ⟨rfl, B⟩
  refine ⟨_, rfl, ?_⟩
  have sz89 := B.size
  replace BB := joinB BB B
  clear B
  refine t 112 (.tuple #[.int .u64 (outX (stNumber l) 0), .int .i64 (outR (stNumber l))]) ?_
  refine t 115 (.int .u64 (outX (stNumber l) 0)) ?_
  refine t 116 (.int .i64 (outR (stNumber l))) ?_
  refine t 17 (.int .u64 (outX (stNumber l) 0)) ?_
  refine t 6 (.int .i64 (outR (stNumber l))) ?_
  refine gl_nil ?_
  refine ge_then ?_
  refine gc_seq ?_
  refine gc_reg ?_
  refine t 118 (.slice ao n c) ?_
  refine tc 119 89 #[.slice ao n c] (rNumber (A2.keep BB)) ?_
  rintro _ v91 ⟨rfl, B⟩
  refine ⟨_, rfl, ?_⟩
  have sz92 := B.size
  replace BB := joinB BB B
  clear B
  refine t 117 (.tuple #[.int .u64 (outX (stNumber l) 0), .int .i64 (outR (stNumber l))]) ?_
  refine t 120 (.int .u64 (outX (stNumber l) 0)) ?_
  refine t 121 (.int .i64 (outR (stNumber l))) ?_
  refine t 18 (.int .u64 (outX (stNumber l) 0)) ?_
  refine t 8 (.int .i64 (outR (stNumber l))) ?_
  refine gl_nil ?_
  refine ge_then ?_
  refine gc_fr [(4, .bool false), (6, .int .i64 (outR (stNumber l))), (8, .int .i64 (outR (stNumber l))), (17, .int .u64 (outX (stNumber l) 0)), (18, .int .u64 (outX (stNumber l) 0))] (by kernel_rfl) ?_
  refine gc_seq ?_
  refine gc_reg ?_
  refine t 122 (.int .u64 (outX (stNumber l) 0)) ?_
  refine t 123 (.int .u64 (outX (stNumber l) 0)) ?_
  refine tq 124 (.bool ((outX (stNumber l) 0 : Int) == outX (stNumber l) 0)) (.bool true) (congrArg Value.bool (beq_self_eq_true _)) ?_
  refine t 125 (.bool true) ?_
  refine t 126 (.int .i64 (outR (stNumber l))) ?_
  refine t 127 (.int .i64 (outR (stNumber l))) ?_
  refine tq 128 (.bool ((outR (stNumber l) : Int) == outR (stNumber l))) (.bool true) (congrArg Value.bool (beq_self_eq_true _)) ?_
  refine t 129 (.bool true) ?_
  refine t 4 (.bool true) ?_
  refine gl_nil ?_
  refine ge_then ?_
  refine gc_ret ?_
  refine ge_ret (.bool true) (rs1 4 (by kernel_rfl) (by kernel_rfl)) ?_
  exact ⟨rfl, BB⟩
set_option maxHeartbeats 4000000 in
set_option maxRecDepth 100000 in
theorem recReads_walk {w : World} {b n c : Nat} {ao : Option Addr} {l : List Int} (A : ByA w b ao n c l) :
    Calls Tryz.prog 4 #[.slice ao n c] w fun e w' => e = .returned (.bool true) ∧ Below w.heap.size w w' := by
  obtain ⟨o, hl, hnc, hc2, ho, hat⟩ := A.ex
  have BB := Below.refl w.heap.size w
  refine gc_enter (n := 24) Tryz.func4 rfl (by kernel_rfl) (by kernel_rfl) ?_
  refine gc_seq ?_
  refine gc_reg ?_
  refine t 2 (.bool false) ?_
  refine gl_nil ?_
  refine ge_then ?_
  refine gc_seq ?_
  refine gc_seq ?_
  refine gc_reg ?_
  refine tc 4 6 #[] (known8 _) ?_
  rintro _ v1 ⟨rfl, B⟩
  refine ⟨_, rfl, ?_⟩
  replace BB := joinB BB B
  clear B
  refine t 5 (.bool false) ?_
  refine gl_nil ?_
  refine ge_then ?_
  refine gc_no ?_
  refine gc_skip ?_
  refine ge_then ?_
  refine gc_seq ?_
  refine gc_seq ?_
  refine gc_reg ?_
  refine t 6 (.slice ao n c) ?_
  refine t 7 (.int .i64 ((n : Nat) : Int)) ?_
  by_cases hb : (3000 : Int) < ((n : Nat) : Int)
  · refine tq 8 (.bool (decide ((3000 : Int) < ((n : Nat) : Int)))) (.bool true) (congrArg Value.bool (decide_eq_true hb)) ?_
    refine gl_nil ?_
    refine ge_then ?_
    refine gc_yes ?_
    refine gc_seq ?_
    refine gc_reg ?_
    refine t 2 (.bool true) ?_
    refine gl_nil ?_
    refine ge_then ?_
    refine gc_ret ?_
    refine ge_tr ?_
    refine ge_ret (.bool true) (rs1 2 (by kernel_rfl) (by kernel_rfl)) ?_
    exact ⟨rfl, BB⟩
  · refine tq 8 (.bool (decide ((3000 : Int) < ((n : Nat) : Int)))) (.bool false) (congrArg Value.bool (decide_eq_false hb)) ?_
    refine gl_nil ?_
    refine ge_then ?_
    refine gc_no ?_
    refine gc_skip ?_
    refine ge_then ?_
    refine gc_seq ?_
    refine gc_reg ?_
    refine t 9 (.slice ao n c) ?_
    have hn : n ≤ 3000 := by omega
    refine tc 10 32 #[.slice ao n c] (copyBytes_enc (A.keep BB) (by omega)) ?_
    rintro _ v2 ⟨v, rfl, M, B⟩
    refine ⟨_, rfl, ?_⟩
    obtain ⟨bi, ai, ci, rfl, -, A1⟩ := M.bya ho
    rw [hl] at A1
    rw [hl]
    clear M
    replace BB := joinB BB B
    clear B
    refine t 3 (.slice ai n ci) ?_
    refine gl_nil ?_
    refine ge_then ?_
    refine gc_seq ?_
    refine gc_reg ?_
    refine t 11 (.slice ai n ci) ?_
    refine t 12 (.slice ao n c) ?_
    refine tc 13 33 #[.slice ai n ci, .slice ao n c] (reads_any A1 (A.keep BB) hn) ?_
    rintro _ v3 ⟨rfl, B⟩
    refine ⟨_, rfl, ?_⟩
    replace BB := joinB BB B
    replace A1 := A1.keep B
    clear B
    refine t 14 (.bool true) ?_
    refine t 15 (.slice ai n ci) ?_
    refine t 16 (.slice ao n c) ?_
    refine tc 17 34 #[.slice ai n ci, .slice ao n c] (more_any A1 (A.keep BB) hn) ?_
    rintro _ v4 ⟨rfl, B⟩
    refine ⟨_, rfl, ?_⟩
    replace BB := joinB BB B
    replace A1 := A1.keep B
    clear B
    refine t 18 (.bool true) ?_
    refine t 19 (.bool true) ?_
    refine t 20 (.slice ai n ci) ?_
    refine t 21 (.slice ao n c) ?_
    refine tc 22 35 #[.slice ai n ci, .slice ao n c] (bytT A1 (A.keep BB) (by omega) (by omega)) ?_
    rintro _ v5 ⟨rfl, B⟩
    refine ⟨_, rfl, ?_⟩
    replace BB := joinB BB B
    replace A1 := A1.keep B
    clear B
    refine t 23 (.bool true) ?_
    refine t 2 (.bool true) ?_
    refine gl_nil ?_
    refine ge_then ?_
    refine gc_fr [(2, .bool true)] (by kernel_rfl) ?_
    refine gc_ret ?_
    refine ge_ret (.bool true) (rs1 2 (by kernel_rfl) (by kernel_rfl)) ?_
    exact ⟨rfl, BB⟩
end Rc
end Go.Proofs.YtenlhceceplldaaGreat
