/- gleanlaw17.MsgBack. -/
import Derived.Test.YtgfglfpckjkcdaaJja
namespace Go.Proofs.Ytgfglfpckjkcdaa
namespace Mg
open Go.RowKit Go.Lib Pg Lim Gl
set_option maxRecDepth 100000
set_option linter.unusedVariables false
set_option linter.unusedSimpArgs false
set_option maxHeartbeats 2000000
theorem msgBack_walk {w : World} {i : It} (r : i.Rng) {b n c : Nat} {ao : Option Addr} {l : List Int} (A : ByA w b ao n c l) : Calls Try.prog 5 #[.agg #[.int .i64 i.k, .int .u64 i.s, .int .u64 i.q, .int .u64 i.f, .int .i64 i.m, .int .u64 i.a, .int .u64 i.b, .int .u64 i.n, .int .i64 i.z, .int .u64 i.v, .int .u64 i.h], .slice ao n c] w fun e w' => e = .returned (.bool true) ∧ Below w.heap.size w w' := by
  have BB := Below.refl w.heap.size w
  have hl0 : l.length = n := by obtain ⟨o, h, _⟩ := A.ex; exact h
  obtain ⟨hb18, hb50⟩ := bs_len i
  obtain ⟨N, hN⟩ : ∃ N, (bs i).length = N := ⟨_, rfl⟩
  rw [hN] at hb18 hb50
  refine gc_enter (n := 87) Try.func5 rfl (by kernel_rfl) (by kernel_rfl) ?_
  refine gc_seq ?_
  refine gc_reg ?_
  refine ta 2 [.int .i64 i.k, .int .u64 i.s, .int .u64 i.q, .int .u64 i.f, .int .i64 i.m, .int .u64 i.a, .int .u64 i.b, .int .u64 i.n, .int .i64 i.z, .int .u64 i.v, .int .u64 i.h] 30 (pg) ?_
  intro v1 g2 Xg2 hg2 B
  have zg2 := Nat.le_trans BB.size hg2
  replace BB := joinB BB B
  clear B
  refine t 4 (.bool false) ?_
  refine gl_nil ?_
  refine ge_then ?_
  refine gc_seq ?_
  refine gc_seq ?_
  refine gc_reg ?_
  refine tc 17 6 #[] (known17) ?_
  rintro _ v3 ⟨rfl, B⟩
  refine ⟨_, rfl, ?_⟩
  replace BB := joinB BB B
  replace Xg2 := Xg2.keep B
  clear B
  refine t 18 (.bool false) ?_
  refine gl_nil ?_
  refine ge_then ?_
  refine gc_no ?_
  refine gc_skip ?_
  refine ge_then ?_
  refine gc_seq ?_
  refine gc_seq ?_
  refine gc_reg ?_
  refine t 19 (.slice ao n c) ?_
  refine t 20 (.int .i64 ((n : Nat) : Int)) ?_
  by_cases c4 : (3000 : Int) < ((n : Nat) : Int)
  · refine tq 21 (.bool (decide ((3000 : Int) < ((n : Nat) : Int)))) (.bool true) (congrArg Value.bool (decide_eq_true c4)) ?_
    refine gl_nil ?_
    refine ge_then ?_
    refine gc_yes ?_
    refine gc_seq ?_
    refine gc_reg ?_
    refine t 4 (.bool true) ?_
    refine gl_nil ?_
    refine ge_then ?_
    refine gc_ret ?_
    refine ge_tr ?_
    refine ge_ret (.bool true) (rs1 4 (by kernel_rfl) (by kernel_rfl)) ?_
    exact ⟨rfl, BB⟩
  · refine tq 21 (.bool (decide ((3000 : Int) < ((n : Nat) : Int)))) (.bool false) (congrArg Value.bool (decide_eq_false c4)) ?_
    refine gl_nil ?_
    refine ge_then ?_
    refine gc_no ?_
    refine gc_skip ?_
    refine ge_then ?_
    refine gc_seq ?_
    refine gc_seq ?_
    refine gc_reg ?_
    refine tlr 23 [.int .i64 i.k, .int .u64 i.s, .int .u64 i.q, .int .u64 i.f, .int .i64 i.m, .int .u64 i.a, .int .u64 i.b, .int .u64 i.n, .int .i64 i.z, .int .u64 i.v, .int .u64 i.h] Xg2 0 ?_
    by_cases c5 : Ok i
    · refine tc 24 7 #[.agg #[.int .i64 i.k, .int .u64 i.s, .int .u64 i.q, .int .u64 i.f, .int .i64 i.m, .int .u64 i.a, .int .u64 i.b, .int .u64 i.n, .int .i64 i.z, .int .u64 i.v, .int .u64 i.h]] (enc_is c5 rfl hN) ?_
      rintro _ v6 ⟨ga, rfl, hga, XA, B⟩
      refine ⟨_, rfl, ?_⟩
      replace BB := joinB BB B
      replace Xg2 := Xg2.keep B
      clear B
      refine t 22 (.tuple #[.slice (some ⟨ga, 0, none⟩) N N, .int .i64 0]) ?_
      refine t 25 (.slice (some ⟨ga, 0, none⟩) N N) ?_
      refine t 26 (.int .i64 0) ?_
      refine t 5 (.slice (some ⟨ga, 0, none⟩) N N) ?_
      refine t 6 (.int .i64 0) ?_
      refine gl_nil ?_
      refine ge_then ?_
      refine gc_fr [(1, .slice ao n c), (2, pg g2), (4, .bool false), (5, .slice (some ⟨ga, 0, none⟩) N N), (6, .int .i64 0)] (by kernel_rfl) ?_
      refine gc_seq ?_
      refine gc_reg ?_
      refine t 27 (.int .i64 0) ?_
      refine t 28 (.bool true) ?_
      refine gl_nil ?_
      refine ge_then ?_
      refine gc_yes ?_
      refine gc_seq ?_
      refine gc_reg ?_
      refine t 30 (.slice (some ⟨ga, 0, none⟩) N N) ?_
      refine tc 31 13 #[.slice (some ⟨ga, 0, none⟩) N N] (dec_blk XA c5 r rfl hN) ?_
      rintro _ v7 ⟨rfl, B⟩
      refine ⟨_, rfl, ?_⟩
      replace BB := joinB BB B
      replace Xg2 := Xg2.keep B
      replace XA := XA.keep B
      clear B
      refine t 29 (.tuple #[.agg #[.int .i64 i.k, .int .u64 i.s, .int .u64 i.q, .int .u64 i.f, .int .i64 i.m, .int .u64 i.a, .int .u64 i.b, .int .u64 i.n, .int .i64 i.z, .int .u64 i.v, .int .u64 i.h], .int .i64 0]) ?_
      refine t 32 (.agg #[.int .i64 i.k, .int .u64 i.s, .int .u64 i.q, .int .u64 i.f, .int .i64 i.m, .int .u64 i.a, .int .u64 i.b, .int .u64 i.n, .int .i64 i.z, .int .u64 i.v, .int .u64 i.h]) ?_
      refine t 33 (.int .i64 0) ?_
      have lXg2 := Xg2.lt
      have lXA := XA.lt
      refine ta 7 [.int .i64 0, .int .u64 0, .int .u64 0, .int .u64 0, .int .i64 0, .int .u64 0, .int .u64 0, .int .u64 0, .int .i64 0, .int .u64 0, .int .u64 0] 30 (pg) ?_
      intro v8 g9 Xg9 hg9 B
      have zg9 := Nat.le_trans BB.size hg9
      replace BB := joinB BB B
      replace Xg2 := Xg2.keep B
      replace XA := XA.keep B
      clear B
      refine ts Xg9 0 (.agg #[.int .i64 i.k, .int .u64 i.s, .int .u64 i.q, .int .u64 i.f, .int .i64 i.m, .int .u64 i.a, .int .u64 i.b, .int .u64 i.n, .int .i64 i.z, .int .u64 i.v, .int .u64 i.h]) [.int .i64 i.k, .int .u64 i.s, .int .u64 i.q, .int .u64 i.f, .int .i64 i.m, .int .u64 i.a, .int .u64 i.b, .int .u64 i.n, .int .i64 i.z, .int .u64 i.v, .int .u64 i.h] [.int .i64 i.k, .int .u64 i.s, .int .u64 i.q, .int .u64 i.f, .int .i64 i.m, .int .u64 i.a, .int .u64 i.b, .int .u64 i.n, .int .i64 i.z, .int .u64 i.v, .int .u64 i.h] ?_
      intro v10 Y C
      replace BB := belowC BB C (by omega)
      replace Xg2 := Xg2.chg C (show g2 ≠ g9 by omega)
      replace XA := XA.chg C (show ga ≠ g9 by omega)
      clear C Xg9
      have Xg9 := Y
      clear Y
      refine t 8 (.int .i64 0) ?_
      refine gl_nil ?_
      refine ge_then ?_
      refine gc_seq ?_
      refine gc_reg ?_
      refine t 35 (.slice (some ⟨ga, 0, none⟩) N N) ?_
      have lXg2 := Xg2.lt
      have lXA := XA.lt
      have lXg9 := Xg9.lt
      refine ta 36 [.int .u8 0] 5 (sg 1) ?_
      intro v11 g12 Xg12 hg12 B
      have zg12 := Nat.le_trans BB.size hg12
      replace BB := joinB BB B
      replace Xg2 := Xg2.keep B
      replace XA := XA.keep B
      replace Xg9 := Xg9.keep B
      clear B
      obtain ⟨ba, ca, v13, hr, HA, B⟩ := app_full2 XA Xg12 (bs_oct i) (by decide) hN (by omega)
      refine tw 37 (.slice (some ⟨ba, 0, none⟩) (N + 1) ca) _ (run_apB hr) ?_
      clear hr
      replace BB := joinB BB B
      replace Xg2 := Xg2.keep B
      replace XA := XA.keep B
      replace Xg9 := Xg9.keep B
      replace Xg12 := Xg12.keep B
      clear B
      refine tc 38 13 #[.slice (some ⟨ba, 0, none⟩) (N + 1) ca] (dec_app HA c5 r rfl (by omega)) ?_
      rintro _ v14 ⟨rfl, B⟩
      refine ⟨_, rfl, ?_⟩
      replace BB := joinB BB B
      replace Xg2 := Xg2.keep B
      replace XA := XA.keep B
      replace Xg9 := Xg9.keep B
      replace Xg12 := Xg12.keep B
      clear B
      clear HA
      refine t 34 (.tuple #[.agg #[.int .i64 0, .int .u64 0, .int .u64 0, .int .u64 0, .int .i64 0, .int .u64 0, .int .u64 0, .int .u64 0, .int .i64 0, .int .u64 0, .int .u64 0], .int .i64 170]) ?_
      refine t 39 (.agg #[.int .i64 0, .int .u64 0, .int .u64 0, .int .u64 0, .int .i64 0, .int .u64 0, .int .u64 0, .int .u64 0, .int .i64 0, .int .u64 0, .int .u64 0]) ?_
      refine t 40 (.int .i64 170) ?_
      have lXg2 := Xg2.lt
      have lXA := XA.lt
      have lXg9 := Xg9.lt
      have lXg12 := Xg12.lt
      refine ta 9 [.int .i64 0, .int .u64 0, .int .u64 0, .int .u64 0, .int .i64 0, .int .u64 0, .int .u64 0, .int .u64 0, .int .i64 0, .int .u64 0, .int .u64 0] 30 (pg) ?_
      intro v15 g16 Xg16 hg16 B
      have zg16 := Nat.le_trans BB.size hg16
      replace BB := joinB BB B
      replace Xg2 := Xg2.keep B
      replace XA := XA.keep B
      replace Xg9 := Xg9.keep B
      replace Xg12 := Xg12.keep B
      clear B
      refine ts Xg16 0 (.agg #[.int .i64 0, .int .u64 0, .int .u64 0, .int .u64 0, .int .i64 0, .int .u64 0, .int .u64 0, .int .u64 0, .int .i64 0, .int .u64 0, .int .u64 0]) [.int .i64 0, .int .u64 0, .int .u64 0, .int .u64 0, .int .i64 0, .int .u64 0, .int .u64 0, .int .u64 0, .int .i64 0, .int .u64 0, .int .u64 0] [.int .i64 0, .int .u64 0, .int .u64 0, .int .u64 0, .int .i64 0, .int .u64 0, .int .u64 0, .int .u64 0, .int .i64 0, .int .u64 0, .int .u64 0] ?_
      intro v17 Y C
      replace BB := belowC BB C (by omega)
      replace Xg2 := Xg2.chg C (show g2 ≠ g16 by omega)
      replace XA := XA.chg C (show ga ≠ g16 by omega)
      replace Xg9 := Xg9.chg C (show g9 ≠ g16 by omega)
      replace Xg12 := Xg12.chg C (show g12 ≠ g16 by omega)
      clear C Xg16
      have Xg16 := Y
      clear Y
      refine t 10 (.int .i64 170) ?_
      refine gl_nil ?_
      refine ge_then ?_
      clear Xg12
      clear Xg16
      refine gc_fr [(1, .slice ao n c), (2, pg g2), (4, .bool false), (5, .slice (some ⟨ga, 0, none⟩) N N), (7, pg g9), (8, .int .i64 0), (10, .int .i64 170)] (by kernel_rfl) ?_
      refine gc_seq ?_
      refine gc_reg ?_
      refine t 42 (.slice (some ⟨ga, 0, none⟩) N N) ?_
      refine t 43 (.slice (some ⟨ga, 0, none⟩) N N) ?_
      refine t 44 (.int .i64 ((N : Nat) : Int)) ?_
      refine tq 45 (.int .i64 (IntKind.i64.wrap (((N : Nat) : Int) - 1))) (.int .i64 (((N : Nat) : Int) - 1)) (wi (by omega)) ?_
      refine tr 46 (.slice (some ⟨ga, 0, none⟩) (N - 1) N) (slL ga N (by omega)) ?_
      refine tc 47 13 #[.slice (some ⟨ga, 0, none⟩) (N - 1) N] (dec_cut XA c5 r rfl hN) ?_
      rintro _ v18 ⟨rfl, B⟩
      refine ⟨_, rfl, ?_⟩
      replace BB := joinB BB B
      replace Xg2 := Xg2.keep B
      replace XA := XA.keep B
      replace Xg9 := Xg9.keep B
      clear B
      refine t 41 (.tuple #[.agg #[.int .i64 0, .int .u64 0, .int .u64 0, .int .u64 0, .int .i64 0, .int .u64 0, .int .u64 0, .int .u64 0, .int .i64 0, .int .u64 0, .int .u64 0], .int .i64 170]) ?_
      refine t 48 (.agg #[.int .i64 0, .int .u64 0, .int .u64 0, .int .u64 0, .int .i64 0, .int .u64 0, .int .u64 0, .int .u64 0, .int .i64 0, .int .u64 0, .int .u64 0]) ?_
      refine t 49 (.int .i64 170) ?_
      have lXg2 := Xg2.lt
      have lXA := XA.lt
      have lXg9 := Xg9.lt
      refine ta 11 [.int .i64 0, .int .u64 0, .int .u64 0, .int .u64 0, .int .i64 0, .int .u64 0, .int .u64 0, .int .u64 0, .int .i64 0, .int .u64 0, .int .u64 0] 30 (pg) ?_
      intro v19 g20 Xg20 hg20 B
      have zg20 := Nat.le_trans BB.size hg20
      replace BB := joinB BB B
      replace Xg2 := Xg2.keep B
      replace XA := XA.keep B
      replace Xg9 := Xg9.keep B
      clear B
      refine ts Xg20 0 (.agg #[.int .i64 0, .int .u64 0, .int .u64 0, .int .u64 0, .int .i64 0, .int .u64 0, .int .u64 0, .int .u64 0, .int .i64 0, .int .u64 0, .int .u64 0]) [.int .i64 0, .int .u64 0, .int .u64 0, .int .u64 0, .int .i64 0, .int .u64 0, .int .u64 0, .int .u64 0, .int .i64 0, .int .u64 0, .int .u64 0] [.int .i64 0, .int .u64 0, .int .u64 0, .int .u64 0, .int .i64 0, .int .u64 0, .int .u64 0, .int .u64 0, .int .i64 0, .int .u64 0, .int .u64 0] ?_
      intro v21 Y C
      replace BB := belowC BB C (by omega)
      replace Xg2 := Xg2.chg C (show g2 ≠ g20 by omega)
      replace XA := XA.chg C (show ga ≠ g20 by omega)
      replace Xg9 := Xg9.chg C (show g9 ≠ g20 by omega)
      clear C Xg20
      have Xg20 := Y
      clear Y
      refine t 12 (.int .i64 170) ?_
      refine gl_nil ?_
      refine ge_then ?_
      clear Xg20
      refine gc_seq ?_
      refine gc_reg ?_
      refine t 50 (.int .i64 0) ?_
      refine t 51 (.bool false) ?_
      refine t 52 (.bool false) ?_
      refine tlr 53 [.int .i64 i.k, .int .u64 i.s, .int .u64 i.q, .int .u64 i.f, .int .i64 i.m, .int .u64 i.a, .int .u64 i.b, .int .u64 i.n, .int .i64 i.z, .int .u64 i.v, .int .u64 i.h] Xg9 0 ?_
      refine tlr 54 [.int .i64 i.k, .int .u64 i.s, .int .u64 i.q, .int .u64 i.f, .int .i64 i.m, .int .u64 i.a, .int .u64 i.b, .int .u64 i.n, .int .i64 i.z, .int .u64 i.v, .int .u64 i.h] Xg2 0 ?_
      refine tr 55 (.bool false) (neI i.k i.s i.q i.f i.m i.a i.b i.n i.z i.v i.h) ?_
      refine t 56 (.bool false) ?_
      refine t 57 (.bool false) ?_
      refine t 58 (.int .i64 170) ?_
      refine t 59 (.bool false) ?_
      refine t 60 (.bool false) ?_
      refine t 61 (.bool false) ?_
      refine t 62 (.int .i64 170) ?_
      refine t 63 (.bool false) ?_
      refine t 64 (.bool false) ?_
      refine gl_nil ?_
      refine ge_then ?_
      clear Xg2
      clear Xg9
      refine gc_fr [(1, .slice ao n c), (4, .bool false), (64, .bool false)] (by kernel_rfl) ?_
      refine gc_no ?_
      refine gc_skip ?_
      refine ge_then ?_
      refine gc_seq ?_
      refine gc_reg ?_
      refine t 66 (.slice ao n c) ?_
      by_cases hj : ∃ j, dI l = (j, 0) ∧ Ok j ∧ j.Rng ∧ bs j = l
      · obtain ⟨j, hd, hoj, hrj, hbj⟩ := hj
        refine tc 67 13 #[.slice ao n c] (dec_is (ByA.keep A BB) (by omega) hd) ?_
        rintro _ v22 ⟨rfl, B⟩
        refine ⟨_, rfl, ?_⟩
        replace BB := joinB BB B
        replace XA := XA.keep B
        clear B
        refine t 65 (.tuple #[.agg #[.int .i64 j.k, .int .u64 j.s, .int .u64 j.q, .int .u64 j.f, .int .i64 j.m, .int .u64 j.a, .int .u64 j.b, .int .u64 j.n, .int .i64 j.z, .int .u64 j.v, .int .u64 j.h], .int .i64 0]) ?_
        refine t 68 (.agg #[.int .i64 j.k, .int .u64 j.s, .int .u64 j.q, .int .u64 j.f, .int .i64 j.m, .int .u64 j.a, .int .u64 j.b, .int .u64 j.n, .int .i64 j.z, .int .u64 j.v, .int .u64 j.h]) ?_
        refine t 69 (.int .i64 0) ?_
        have lXA := XA.lt
        refine ta 13 [.int .i64 0, .int .u64 0, .int .u64 0, .int .u64 0, .int .i64 0, .int .u64 0, .int .u64 0, .int .u64 0, .int .i64 0, .int .u64 0, .int .u64 0] 30 (pg) ?_
        intro v23 g24 Xg24 hg24 B
        have zg24 := Nat.le_trans BB.size hg24
        replace BB := joinB BB B
        replace XA := XA.keep B
        clear B
        refine ts Xg24 0 (.agg #[.int .i64 j.k, .int .u64 j.s, .int .u64 j.q, .int .u64 j.f, .int .i64 j.m, .int .u64 j.a, .int .u64 j.b, .int .u64 j.n, .int .i64 j.z, .int .u64 j.v, .int .u64 j.h]) [.int .i64 j.k, .int .u64 j.s, .int .u64 j.q, .int .u64 j.f, .int .i64 j.m, .int .u64 j.a, .int .u64 j.b, .int .u64 j.n, .int .i64 j.z, .int .u64 j.v, .int .u64 j.h] [.int .i64 j.k, .int .u64 j.s, .int .u64 j.q, .int .u64 j.f, .int .i64 j.m, .int .u64 j.a, .int .u64 j.b, .int .u64 j.n, .int .i64 j.z, .int .u64 j.v, .int .u64 j.h] ?_
        intro v25 Y C
        replace BB := belowC BB C (by omega)
        replace XA := XA.chg C (show ga ≠ g24 by omega)
        clear C Xg24
        have Xg24 := Y
        clear Y
        refine t 14 (.int .i64 0) ?_
        refine gl_nil ?_
        refine ge_then ?_
        refine gc_seq ?_
        refine gc_seq ?_
        refine gc_reg ?_
        refine t 70 (.int .i64 0) ?_
        refine t 71 (.bool false) ?_
        refine gl_nil ?_
        refine ge_then ?_
        refine gc_no ?_
        refine gc_skip ?_
        refine ge_then ?_
        refine gc_seq ?_
        refine gc_reg ?_
        refine tlr 76 [.int .i64 j.k, .int .u64 j.s, .int .u64 j.q, .int .u64 j.f, .int .i64 j.m, .int .u64 j.a, .int .u64 j.b, .int .u64 j.n, .int .i64 j.z, .int .u64 j.v, .int .u64 j.h] Xg24 0 ?_
        refine tc 77 7 #[.agg #[.int .i64 j.k, .int .u64 j.s, .int .u64 j.q, .int .u64 j.f, .int .i64 j.m, .int .u64 j.a, .int .u64 j.b, .int .u64 j.n, .int .i64 j.z, .int .u64 j.v, .int .u64 j.h]] (enc_is hoj hbj hl0) ?_
        rintro _ v26 ⟨gz, rfl, hgz, XZ, B⟩
        refine ⟨_, rfl, ?_⟩
        replace BB := joinB BB B
        replace XA := XA.keep B
        replace Xg24 := Xg24.keep B
        clear B
        have AZ := blk_bya XZ (ByA.oct A) (by omega)
        rw [hl0] at AZ
        clear XZ
        refine t 75 (.tuple #[.slice (some ⟨gz, 0, none⟩) n n, .int .i64 0]) ?_
        refine t 78 (.slice (some ⟨gz, 0, none⟩) n n) ?_
        refine t 79 (.int .i64 0) ?_
        refine t 15 (.slice (some ⟨gz, 0, none⟩) n n) ?_
        refine t 16 (.int .i64 0) ?_
        refine gl_nil ?_
        refine ge_then ?_
        clear Xg24
        refine gc_fr [(1, .slice ao n c), (4, .bool false), (15, .slice (some ⟨gz, 0, none⟩) n n), (16, .int .i64 0)] (by kernel_rfl) ?_
        refine gc_seq ?_
        refine gc_reg ?_
        refine t 80 (.int .i64 0) ?_
        refine t 81 (.bool true) ?_
        refine t 82 (.bool true) ?_
        refine t 83 (.slice (some ⟨gz, 0, none⟩) n n) ?_
        refine t 84 (.slice ao n c) ?_
        refine tc 85 11 #[.slice (some ⟨gz, 0, none⟩) n n, .slice ao n c] (bytT AZ (ByA.keep A BB) (by omega)) ?_
        rintro _ v27 ⟨rfl, B⟩
        refine ⟨_, rfl, ?_⟩
        replace BB := joinB BB B
        replace XA := XA.keep B
        replace AZ := ByA.keep AZ B
        clear B
        refine t 86 (.bool true) ?_
        refine t 4 (.bool true) ?_
        refine gl_nil ?_
        refine ge_then ?_
        refine gc_ret ?_
        refine ge_ret (.bool true) (rs1 4 (by kernel_rfl) (by kernel_rfl)) ?_
        exact ⟨rfl, BB⟩
      · obtain ⟨x, hd, hx⟩ := (dI_cases (ByA.oct A)).resolve_left hj
        refine tc 67 13 #[.slice ao n c] (dec_is (ByA.keep A BB) (by omega) hd) ?_
        rintro _ v28 ⟨rfl, B⟩
        refine ⟨_, rfl, ?_⟩
        replace BB := joinB BB B
        replace XA := XA.keep B
        clear B
        refine t 65 (.tuple #[.agg #[.int .i64 0, .int .u64 0, .int .u64 0, .int .u64 0, .int .i64 0, .int .u64 0, .int .u64 0, .int .u64 0, .int .i64 0, .int .u64 0, .int .u64 0], .int .i64 x]) ?_
        refine t 68 (.agg #[.int .i64 0, .int .u64 0, .int .u64 0, .int .u64 0, .int .i64 0, .int .u64 0, .int .u64 0, .int .u64 0, .int .i64 0, .int .u64 0, .int .u64 0]) ?_
        refine t 69 (.int .i64 x) ?_
        have lXA := XA.lt
        refine ta 13 [.int .i64 0, .int .u64 0, .int .u64 0, .int .u64 0, .int .i64 0, .int .u64 0, .int .u64 0, .int .u64 0, .int .i64 0, .int .u64 0, .int .u64 0] 30 (pg) ?_
        intro v29 g30 Xg30 hg30 B
        have zg30 := Nat.le_trans BB.size hg30
        replace BB := joinB BB B
        replace XA := XA.keep B
        clear B
        refine ts Xg30 0 (.agg #[.int .i64 0, .int .u64 0, .int .u64 0, .int .u64 0, .int .i64 0, .int .u64 0, .int .u64 0, .int .u64 0, .int .i64 0, .int .u64 0, .int .u64 0]) [.int .i64 0, .int .u64 0, .int .u64 0, .int .u64 0, .int .i64 0, .int .u64 0, .int .u64 0, .int .u64 0, .int .i64 0, .int .u64 0, .int .u64 0] [.int .i64 0, .int .u64 0, .int .u64 0, .int .u64 0, .int .i64 0, .int .u64 0, .int .u64 0, .int .u64 0, .int .i64 0, .int .u64 0, .int .u64 0] ?_
        intro v31 Y C
        replace BB := belowC BB C (by omega)
        replace XA := XA.chg C (show ga ≠ g30 by omega)
        clear C Xg30
        have Xg30 := Y
        clear Y
        refine t 14 (.int .i64 x) ?_
        refine gl_nil ?_
        refine ge_then ?_
        refine gc_seq ?_
        refine gc_seq ?_
        refine gc_reg ?_
        refine t 70 (.int .i64 x) ?_
        refine tq 71 (.bool ((x : Int) != 0)) (.bool true) (congrArg Value.bool (bne_iff_ne.2 hx)) ?_
        refine gl_nil ?_
        refine ge_then ?_
        refine gc_yes ?_
        refine gc_seq ?_
        refine gc_reg ?_
        refine tlr 72 [.int .i64 0, .int .u64 0, .int .u64 0, .int .u64 0, .int .i64 0, .int .u64 0, .int .u64 0, .int .u64 0, .int .i64 0, .int .u64 0, .int .u64 0] Xg30 0 ?_
        refine t 73 (.agg #[.int .i64 0, .int .u64 0, .int .u64 0, .int .u64 0, .int .i64 0, .int .u64 0, .int .u64 0, .int .u64 0, .int .i64 0, .int .u64 0, .int .u64 0]) ?_
        refine tr 74 (.bool true) (eqI 0 0 0 0 0 0 0 0 0 0 0) ?_
        refine t 4 (.bool true) ?_
        refine gl_nil ?_
        refine ge_then ?_
        refine gc_ret ?_
        refine ge_tr ?_
        refine ge_ret (.bool true) (rs1 4 (by kernel_rfl) (by kernel_rfl)) ?_
        exact ⟨rfl, BB⟩
    · refine tc 24 7 #[.agg #[.int .i64 i.k, .int .u64 i.s, .int .u64 i.q, .int .u64 i.f, .int .i64 i.m, .int .u64 i.a, .int .u64 i.b, .int .u64 i.n, .int .i64 i.z, .int .u64 i.v, .int .u64 i.h]] (enc_no c5) ?_
      rintro _ v32 ⟨rfl, B⟩
      refine ⟨_, rfl, ?_⟩
      replace BB := joinB BB B
      replace Xg2 := Xg2.keep B
      clear B
      refine t 22 (.tuple #[.slice none 0 0, .int .i64 170]) ?_
      refine t 25 (.slice none 0 0) ?_
      refine t 26 (.int .i64 170) ?_
      refine t 5 (.slice none 0 0) ?_
      refine t 6 (.int .i64 170) ?_
      refine gl_nil ?_
      refine ge_then ?_
      refine gc_fr [(1, .slice ao n c), (2, pg g2), (4, .bool false), (5, .slice none 0 0), (6, .int .i64 170)] (by kernel_rfl) ?_
      refine gc_seq ?_
      refine gc_reg ?_
      refine t 27 (.int .i64 170) ?_
      refine t 28 (.bool false) ?_
      refine gl_nil ?_
      refine ge_then ?_
      refine gc_no ?_
      refine gc_skip ?_
      refine ge_then ?_
      clear Xg2
      refine gc_seq ?_
      refine gc_reg ?_
      refine t 66 (.slice ao n c) ?_
      by_cases hj : ∃ j, dI l = (j, 0) ∧ Ok j ∧ j.Rng ∧ bs j = l
      · obtain ⟨j, hd, hoj, hrj, hbj⟩ := hj
        refine tc 67 13 #[.slice ao n c] (dec_is (ByA.keep A BB) (by omega) hd) ?_
        rintro _ v33 ⟨rfl, B⟩
        refine ⟨_, rfl, ?_⟩
        replace BB := joinB BB B
        clear B
        refine t 65 (.tuple #[.agg #[.int .i64 j.k, .int .u64 j.s, .int .u64 j.q, .int .u64 j.f, .int .i64 j.m, .int .u64 j.a, .int .u64 j.b, .int .u64 j.n, .int .i64 j.z, .int .u64 j.v, .int .u64 j.h], .int .i64 0]) ?_
        refine t 68 (.agg #[.int .i64 j.k, .int .u64 j.s, .int .u64 j.q, .int .u64 j.f, .int .i64 j.m, .int .u64 j.a, .int .u64 j.b, .int .u64 j.n, .int .i64 j.z, .int .u64 j.v, .int .u64 j.h]) ?_
        refine t 69 (.int .i64 0) ?_
        refine ta 13 [.int .i64 0, .int .u64 0, .int .u64 0, .int .u64 0, .int .i64 0, .int .u64 0, .int .u64 0, .int .u64 0, .int .i64 0, .int .u64 0, .int .u64 0] 30 (pg) ?_
        intro v34 g35 Xg35 hg35 B
        have zg35 := Nat.le_trans BB.size hg35
        replace BB := joinB BB B
        clear B
        refine ts Xg35 0 (.agg #[.int .i64 j.k, .int .u64 j.s, .int .u64 j.q, .int .u64 j.f, .int .i64 j.m, .int .u64 j.a, .int .u64 j.b, .int .u64 j.n, .int .i64 j.z, .int .u64 j.v, .int .u64 j.h]) [.int .i64 j.k, .int .u64 j.s, .int .u64 j.q, .int .u64 j.f, .int .i64 j.m, .int .u64 j.a, .int .u64 j.b, .int .u64 j.n, .int .i64 j.z, .int .u64 j.v, .int .u64 j.h] [.int .i64 j.k, .int .u64 j.s, .int .u64 j.q, .int .u64 j.f, .int .i64 j.m, .int .u64 j.a, .int .u64 j.b, .int .u64 j.n, .int .i64 j.z, .int .u64 j.v, .int .u64 j.h] ?_
        intro v36 Y C
        replace BB := belowC BB C (by omega)
        clear C Xg35
        have Xg35 := Y
        clear Y
        refine t 14 (.int .i64 0) ?_
        refine gl_nil ?_
        refine ge_then ?_
        refine gc_seq ?_
        refine gc_seq ?_
        refine gc_reg ?_
        refine t 70 (.int .i64 0) ?_
        refine t 71 (.bool false) ?_
        refine gl_nil ?_
        refine ge_then ?_
        refine gc_no ?_
        refine gc_skip ?_
        refine ge_then ?_
        refine gc_seq ?_
        refine gc_reg ?_
        refine tlr 76 [.int .i64 j.k, .int .u64 j.s, .int .u64 j.q, .int .u64 j.f, .int .i64 j.m, .int .u64 j.a, .int .u64 j.b, .int .u64 j.n, .int .i64 j.z, .int .u64 j.v, .int .u64 j.h] Xg35 0 ?_
        refine tc 77 7 #[.agg #[.int .i64 j.k, .int .u64 j.s, .int .u64 j.q, .int .u64 j.f, .int .i64 j.m, .int .u64 j.a, .int .u64 j.b, .int .u64 j.n, .int .i64 j.z, .int .u64 j.v, .int .u64 j.h]] (enc_is hoj hbj hl0) ?_
        rintro _ v37 ⟨gz, rfl, hgz, XZ, B⟩
        refine ⟨_, rfl, ?_⟩
        replace BB := joinB BB B
        replace Xg35 := Xg35.keep B
        clear B
        have AZ := blk_bya XZ (ByA.oct A) (by omega)
        rw [hl0] at AZ
        clear XZ
        refine t 75 (.tuple #[.slice (some ⟨gz, 0, none⟩) n n, .int .i64 0]) ?_
        refine t 78 (.slice (some ⟨gz, 0, none⟩) n n) ?_
        refine t 79 (.int .i64 0) ?_
        refine t 15 (.slice (some ⟨gz, 0, none⟩) n n) ?_
        refine t 16 (.int .i64 0) ?_
        refine gl_nil ?_
        refine ge_then ?_
        clear Xg35
        refine gc_fr [(1, .slice ao n c), (4, .bool false), (15, .slice (some ⟨gz, 0, none⟩) n n), (16, .int .i64 0)] (by kernel_rfl) ?_
        refine gc_seq ?_
        refine gc_reg ?_
        refine t 80 (.int .i64 0) ?_
        refine t 81 (.bool true) ?_
        refine t 82 (.bool true) ?_
        refine t 83 (.slice (some ⟨gz, 0, none⟩) n n) ?_
        refine t 84 (.slice ao n c) ?_
        refine tc 85 11 #[.slice (some ⟨gz, 0, none⟩) n n, .slice ao n c] (bytT AZ (ByA.keep A BB) (by omega)) ?_
        rintro _ v38 ⟨rfl, B⟩
        refine ⟨_, rfl, ?_⟩
        replace BB := joinB BB B
        replace AZ := ByA.keep AZ B
        clear B
        refine t 86 (.bool true) ?_
        refine t 4 (.bool true) ?_
        refine gl_nil ?_
        refine ge_then ?_
        refine gc_ret ?_
        refine ge_ret (.bool true) (rs1 4 (by kernel_rfl) (by kernel_rfl)) ?_
        exact ⟨rfl, BB⟩
      · obtain ⟨x, hd, hx⟩ := (dI_cases (ByA.oct A)).resolve_left hj
        refine tc 67 13 #[.slice ao n c] (dec_is (ByA.keep A BB) (by omega) hd) ?_
        rintro _ v39 ⟨rfl, B⟩
        refine ⟨_, rfl, ?_⟩
        replace BB := joinB BB B
        clear B
        refine t 65 (.tuple #[.agg #[.int .i64 0, .int .u64 0, .int .u64 0, .int .u64 0, .int .i64 0, .int .u64 0, .int .u64 0, .int .u64 0, .int .i64 0, .int .u64 0, .int .u64 0], .int .i64 x]) ?_
        refine t 68 (.agg #[.int .i64 0, .int .u64 0, .int .u64 0, .int .u64 0, .int .i64 0, .int .u64 0, .int .u64 0, .int .u64 0, .int .i64 0, .int .u64 0, .int .u64 0]) ?_
        refine t 69 (.int .i64 x) ?_
        refine ta 13 [.int .i64 0, .int .u64 0, .int .u64 0, .int .u64 0, .int .i64 0, .int .u64 0, .int .u64 0, .int .u64 0, .int .i64 0, .int .u64 0, .int .u64 0] 30 (pg) ?_
        intro v40 g41 Xg41 hg41 B
        have zg41 := Nat.le_trans BB.size hg41
        replace BB := joinB BB B
        clear B
        refine ts Xg41 0 (.agg #[.int .i64 0, .int .u64 0, .int .u64 0, .int .u64 0, .int .i64 0, .int .u64 0, .int .u64 0, .int .u64 0, .int .i64 0, .int .u64 0, .int .u64 0]) [.int .i64 0, .int .u64 0, .int .u64 0, .int .u64 0, .int .i64 0, .int .u64 0, .int .u64 0, .int .u64 0, .int .i64 0, .int .u64 0, .int .u64 0] [.int .i64 0, .int .u64 0, .int .u64 0, .int .u64 0, .int .i64 0, .int .u64 0, .int .u64 0, .int .u64 0, .int .i64 0, .int .u64 0, .int .u64 0] ?_
        intro v42 Y C
        replace BB := belowC BB C (by omega)
        clear C Xg41
        have Xg41 := Y
        clear Y
        refine t 14 (.int .i64 x) ?_
        refine gl_nil ?_
        refine ge_then ?_
        refine gc_seq ?_
        refine gc_seq ?_
        refine gc_reg ?_
        refine t 70 (.int .i64 x) ?_
        refine tq 71 (.bool ((x : Int) != 0)) (.bool true) (congrArg Value.bool (bne_iff_ne.2 hx)) ?_
        refine gl_nil ?_
        refine ge_then ?_
        refine gc_yes ?_
        refine gc_seq ?_
        refine gc_reg ?_
        refine tlr 72 [.int .i64 0, .int .u64 0, .int .u64 0, .int .u64 0, .int .i64 0, .int .u64 0, .int .u64 0, .int .u64 0, .int .i64 0, .int .u64 0, .int .u64 0] Xg41 0 ?_
        refine t 73 (.agg #[.int .i64 0, .int .u64 0, .int .u64 0, .int .u64 0, .int .i64 0, .int .u64 0, .int .u64 0, .int .u64 0, .int .i64 0, .int .u64 0, .int .u64 0]) ?_
        refine tr 74 (.bool true) (eqI 0 0 0 0 0 0 0 0 0 0 0) ?_
        refine t 4 (.bool true) ?_
        refine gl_nil ?_
        refine ge_then ?_
        refine gc_ret ?_
        refine ge_tr ?_
        refine ge_ret (.bool true) (rs1 4 (by kernel_rfl) (by kernel_rfl)) ?_
        exact ⟨rfl, BB⟩
end Mg
end Go.Proofs.Ytgfglfpckjkcdaa
