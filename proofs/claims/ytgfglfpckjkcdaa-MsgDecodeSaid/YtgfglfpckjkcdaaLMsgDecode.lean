/- gleanlaw17.MsgDecode. -/
import Derived.Test.YtgfglfpckjkcdaaJja
namespace Go.Proofs.Ytgfglfpckjkcdaa
namespace Mg
open Go.RowKit Go.Lib Pg Lim Gl
set_option maxRecDepth 100000
set_option linter.unusedVariables false
set_option linter.unusedSimpArgs false
set_option maxHeartbeats 2000000
theorem msgDecode_walk {w : World} {b n c : Nat} {ao : Option Addr} {l : List Int} (A : ByA w b ao n c l) : Calls Try.prog 4 #[.slice ao n c] w fun e w' => e = .returned (.bool true) ∧ Below w.heap.size w w' := by
  have BB := Below.refl w.heap.size w
  have hl0 : l.length = n := by obtain ⟨o, h, _⟩ := A.ex; exact h
  obtain ⟨j, x, hd⟩ : ∃ j x, dI l = (j, x) := ⟨_, _, rfl⟩
  refine gc_enter (n := 38) Try.func4 rfl (by kernel_rfl) (by kernel_rfl) ?_
  refine gc_seq ?_
  refine gc_reg ?_
  refine t 2 (.bool false) ?_
  refine gl_nil ?_
  refine ge_then ?_
  refine gc_seq ?_
  refine gc_seq ?_
  refine gc_reg ?_
  refine tc 8 6 #[] (known17) ?_
  rintro _ v1 ⟨rfl, B⟩
  refine ⟨_, rfl, ?_⟩
  replace BB := joinB BB B
  clear B
  refine t 9 (.bool false) ?_
  refine gl_nil ?_
  refine ge_then ?_
  refine gc_no ?_
  refine gc_skip ?_
  refine ge_then ?_
  refine gc_seq ?_
  refine gc_seq ?_
  refine gc_reg ?_
  refine t 10 (.slice ao n c) ?_
  refine t 11 (.int .i64 ((n : Nat) : Int)) ?_
  by_cases c2 : (3000 : Int) < ((n : Nat) : Int)
  · refine tq 12 (.bool (decide ((3000 : Int) < ((n : Nat) : Int)))) (.bool true) (congrArg Value.bool (decide_eq_true c2)) ?_
    refine gl_nil ?_
    refine ge_then ?_
    refine gc_yes ?_
    refine gc_seq ?_
    refine gc_reg ?_
    refine t 2 (.bool true) ?_
    refine gl_nil ?_
    refine ge_then ?_
    refine gc_ret ?_
    refine ge_tr ?_
    refine ge_ret (.bool true) (rs1 2 (by kernel_rfl) (by kernel_rfl)) ?_
    exact ⟨rfl, BB⟩
  · refine tq 12 (.bool (decide ((3000 : Int) < ((n : Nat) : Int)))) (.bool false) (congrArg Value.bool (decide_eq_false c2)) ?_
    refine gl_nil ?_
    refine ge_then ?_
    refine gc_no ?_
    refine gc_skip ?_
    refine ge_then ?_
    refine gc_seq ?_
    refine gc_reg ?_
    refine t 13 (.slice ao n c) ?_
    obtain ⟨o, hl, hnc, ⟨hc2, hno⟩, ho, hat⟩ := (ByA.keep A BB).ex
    refine tc 14 12 #[.slice ao n c] (copyBytes_any ao n c b o l _ hl (by omega) hno hat) ?_
    rintro _ v3 ⟨vc, rfl, MC, B⟩
    refine ⟨_, rfl, ?_⟩
    obtain ⟨bc, ac, cc, rfl, -, AC⟩ := MC.bya ho
    clear MC
    replace BB := joinB BB B
    clear B
    refine t 3 (.slice ac l.length cc) ?_
    refine gl_nil ?_
    refine ge_then ?_
    refine gc_seq ?_
    refine gc_reg ?_
    refine t 16 (.slice ac l.length cc) ?_
    refine tc 17 13 #[.slice ac l.length cc] (dec_is AC (by omega) hd) ?_
    rintro _ v4 ⟨rfl, B⟩
    refine ⟨_, rfl, ?_⟩
    replace BB := joinB BB B
    replace AC := ByA.keep AC B
    clear B
    refine t 15 (.tuple #[.agg #[.int .i64 j.k, .int .u64 j.s, .int .u64 j.q, .int .u64 j.f, .int .i64 j.m, .int .u64 j.a, .int .u64 j.b, .int .u64 j.n, .int .i64 j.z, .int .u64 j.v, .int .u64 j.h], .int .i64 x]) ?_
    refine t 18 (.agg #[.int .i64 j.k, .int .u64 j.s, .int .u64 j.q, .int .u64 j.f, .int .i64 j.m, .int .u64 j.a, .int .u64 j.b, .int .u64 j.n, .int .i64 j.z, .int .u64 j.v, .int .u64 j.h]) ?_
    refine t 19 (.int .i64 x) ?_
    refine ta 4 [.int .i64 0, .int .u64 0, .int .u64 0, .int .u64 0, .int .i64 0, .int .u64 0, .int .u64 0, .int .u64 0, .int .i64 0, .int .u64 0, .int .u64 0] 30 (pg) ?_
    intro v5 g6 Xg6 hg6 B
    have zg6 := Nat.le_trans BB.size hg6
    replace BB := joinB BB B
    replace AC := ByA.keep AC B
    clear B
    refine ts Xg6 0 (.agg #[.int .i64 j.k, .int .u64 j.s, .int .u64 j.q, .int .u64 j.f, .int .i64 j.m, .int .u64 j.a, .int .u64 j.b, .int .u64 j.n, .int .i64 j.z, .int .u64 j.v, .int .u64 j.h]) [.int .i64 j.k, .int .u64 j.s, .int .u64 j.q, .int .u64 j.f, .int .i64 j.m, .int .u64 j.a, .int .u64 j.b, .int .u64 j.n, .int .i64 j.z, .int .u64 j.v, .int .u64 j.h] [.int .i64 j.k, .int .u64 j.s, .int .u64 j.q, .int .u64 j.f, .int .i64 j.m, .int .u64 j.a, .int .u64 j.b, .int .u64 j.n, .int .i64 j.z, .int .u64 j.v, .int .u64 j.h] ?_
    intro v7 Y C
    replace BB := belowC BB C (by omega)
    replace AC := ByA.offB AC Xg6 rfl (chg_but C)
    clear C Xg6
    have Xg6 := Y
    clear Y
    refine t 5 (.int .i64 x) ?_
    refine gl_nil ?_
    refine ge_then ?_
    refine gc_fr [(0, .slice ao n c), (2, .bool false), (3, .slice ac l.length cc), (4, pg g6), (5, .int .i64 x)] (by kernel_rfl) ?_
    refine gc_seq ?_
    refine gc_reg ?_
    refine t 21 (.slice ao n c) ?_
    refine tc 22 14 #[.slice ao n c] (rdec_is (ByA.keep A BB) (by omega) hd) ?_
    rintro _ v8 ⟨rfl, B⟩
    refine ⟨_, rfl, ?_⟩
    replace BB := joinB BB B
    replace AC := ByA.keep AC B
    replace Xg6 := Xg6.keep B
    clear B
    refine t 20 (.tuple #[.agg #[.int .i64 j.k, .int .u64 j.s, .int .u64 j.q, .int .u64 j.f, .int .i64 j.m, .int .u64 j.a, .int .u64 j.b, .int .u64 j.n, .int .i64 j.z, .int .u64 j.v, .int .u64 j.h], .int .i64 x]) ?_
    refine t 23 (.agg #[.int .i64 j.k, .int .u64 j.s, .int .u64 j.q, .int .u64 j.f, .int .i64 j.m, .int .u64 j.a, .int .u64 j.b, .int .u64 j.n, .int .i64 j.z, .int .u64 j.v, .int .u64 j.h]) ?_
    refine t 24 (.int .i64 x) ?_
    have lXg6 := Xg6.lt
    refine ta 6 [.int .i64 0, .int .u64 0, .int .u64 0, .int .u64 0, .int .i64 0, .int .u64 0, .int .u64 0, .int .u64 0, .int .i64 0, .int .u64 0, .int .u64 0] 30 (pg) ?_
    intro v9 g10 Xg10 hg10 B
    have zg10 := Nat.le_trans BB.size hg10
    replace BB := joinB BB B
    replace AC := ByA.keep AC B
    replace Xg6 := Xg6.keep B
    clear B
    refine ts Xg10 0 (.agg #[.int .i64 j.k, .int .u64 j.s, .int .u64 j.q, .int .u64 j.f, .int .i64 j.m, .int .u64 j.a, .int .u64 j.b, .int .u64 j.n, .int .i64 j.z, .int .u64 j.v, .int .u64 j.h]) [.int .i64 j.k, .int .u64 j.s, .int .u64 j.q, .int .u64 j.f, .int .i64 j.m, .int .u64 j.a, .int .u64 j.b, .int .u64 j.n, .int .i64 j.z, .int .u64 j.v, .int .u64 j.h] [.int .i64 j.k, .int .u64 j.s, .int .u64 j.q, .int .u64 j.f, .int .i64 j.m, .int .u64 j.a, .int .u64 j.b, .int .u64 j.n, .int .i64 j.z, .int .u64 j.v, .int .u64 j.h] ?_
    intro v11 Y C
    replace BB := belowC BB C (by omega)
    replace AC := ByA.offB AC Xg10 rfl (chg_but C)
    replace Xg6 := Xg6.chg C (show g6 ≠ g10 by omega)
    clear C Xg10
    have Xg10 := Y
    clear Y
    refine t 7 (.int .i64 x) ?_
    refine gl_nil ?_
    refine ge_then ?_
    refine gc_seq ?_
    refine gc_reg ?_
    refine tlr 25 [.int .i64 j.k, .int .u64 j.s, .int .u64 j.q, .int .u64 j.f, .int .i64 j.m, .int .u64 j.a, .int .u64 j.b, .int .u64 j.n, .int .i64 j.z, .int .u64 j.v, .int .u64 j.h] Xg6 0 ?_
    refine tlr 26 [.int .i64 j.k, .int .u64 j.s, .int .u64 j.q, .int .u64 j.f, .int .i64 j.m, .int .u64 j.a, .int .u64 j.b, .int .u64 j.n, .int .i64 j.z, .int .u64 j.v, .int .u64 j.h] Xg10 0 ?_
    refine tr 27 (.bool true) (eqI j.k j.s j.q j.f j.m j.a j.b j.n j.z j.v j.h) ?_
    refine t 28 (.bool true) ?_
    refine t 29 (.int .i64 x) ?_
    refine t 30 (.int .i64 x) ?_
    refine tq 31 (.bool ((x : Int) == x)) (.bool true) (congrArg Value.bool (beq_self_eq_true _)) ?_
    refine t 32 (.bool true) ?_
    refine t 33 (.bool true) ?_
    refine t 34 (.slice ac l.length cc) ?_
    refine t 35 (.slice ao n c) ?_
    refine tc 36 11 #[.slice ac l.length cc, .slice ao n c] (bytT AC (ByA.keep A BB) (by omega)) ?_
    rintro _ v12 ⟨rfl, B⟩
    refine ⟨_, rfl, ?_⟩
    replace BB := joinB BB B
    replace AC := ByA.keep AC B
    replace Xg6 := Xg6.keep B
    replace Xg10 := Xg10.keep B
    clear B
    refine t 37 (.bool true) ?_
    refine t 2 (.bool true) ?_
    refine gl_nil ?_
    refine ge_then ?_
    clear Xg6
    clear Xg10
    refine gc_fr [(2, .bool true)] (by kernel_rfl) ?_
    refine gc_ret ?_
    refine ge_ret (.bool true) (rs1 2 (by kernel_rfl) (by kernel_rfl)) ?_
    exact ⟨rfl, BB⟩
end Mg
end Go.Proofs.Ytgfglfpckjkcdaa
