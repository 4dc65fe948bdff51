/- gleanlaw17.MsgEncode. -/
import Derived.Test.YtgfglfpckjkcdaaJja
namespace Go.Proofs.Ytgfglfpckjkcdaa
namespace Mg
open Go.RowKit Go.Lib Pg Lim Gl
set_option maxRecDepth 100000
set_option linter.unusedVariables false
set_option linter.unusedSimpArgs false
set_option maxHeartbeats 2000000
theorem msgEncode_walk {w : World} {i : It} (_ : i.Rng) : Calls Try.prog 3 #[.agg #[.int .i64 i.k, .int .u64 i.s, .int .u64 i.q, .int .u64 i.f, .int .i64 i.m, .int .u64 i.a, .int .u64 i.b, .int .u64 i.n, .int .i64 i.z, .int .u64 i.v, .int .u64 i.h]] w fun e w' => e = .returned (.bool true) ∧ Below w.heap.size w w' := by
  have BB := Below.refl w.heap.size w
  have hb50 := (bs_len i).2
  refine gc_enter (n := 66) Try.func3 rfl (by kernel_rfl) (by kernel_rfl) ?_
  refine gc_seq ?_
  refine gc_reg ?_
  refine ta 1 [.int .i64 i.k, .int .u64 i.s, .int .u64 i.q, .int .u64 i.f, .int .i64 i.m, .int .u64 i.a, .int .u64 i.b, .int .u64 i.n, .int .i64 i.z, .int .u64 i.v, .int .u64 i.h] 30 (pg) ?_
  intro v1 g2 Xg2 hg2 B
  have zg2 := Nat.le_trans BB.size hg2
  replace BB := joinB BB B
  clear B
  refine t 2 (.bool false) ?_
  refine gl_nil ?_
  refine ge_then ?_
  refine gc_seq ?_
  refine gc_seq ?_
  refine gc_reg ?_
  refine tc 13 6 #[] (known17) ?_
  rintro _ v3 ⟨rfl, B⟩
  refine ⟨_, rfl, ?_⟩
  replace BB := joinB BB B
  replace Xg2 := Xg2.keep B
  clear B
  refine t 14 (.bool false) ?_
  refine gl_nil ?_
  refine ge_then ?_
  refine gc_no ?_
  refine gc_skip ?_
  refine ge_then ?_
  refine gc_seq ?_
  refine gc_reg ?_
  refine tlr 16 [.int .i64 i.k, .int .u64 i.s, .int .u64 i.q, .int .u64 i.f, .int .i64 i.m, .int .u64 i.a, .int .u64 i.b, .int .u64 i.n, .int .i64 i.z, .int .u64 i.v, .int .u64 i.h] Xg2 0 ?_
  by_cases c4 : Ok i
  · refine tc 17 7 #[.agg #[.int .i64 i.k, .int .u64 i.s, .int .u64 i.q, .int .u64 i.f, .int .i64 i.m, .int .u64 i.a, .int .u64 i.b, .int .u64 i.n, .int .i64 i.z, .int .u64 i.v, .int .u64 i.h]] (enc_is c4 rfl rfl) ?_
    rintro _ v5 ⟨ga, rfl, hga, XA, B⟩
    refine ⟨_, rfl, ?_⟩
    replace BB := joinB BB B
    replace Xg2 := Xg2.keep B
    clear B
    have AA := blk_bya XA (bs_oct i) (by omega)
    clear XA
    refine t 15 (.tuple #[.slice (some ⟨ga, 0, none⟩) (bs i).length (bs i).length, .int .i64 0]) ?_
    refine t 18 (.slice (some ⟨ga, 0, none⟩) (bs i).length (bs i).length) ?_
    refine t 19 (.int .i64 0) ?_
    refine t 3 (.slice (some ⟨ga, 0, none⟩) (bs i).length (bs i).length) ?_
    refine t 4 (.int .i64 0) ?_
    refine gl_nil ?_
    refine ge_then ?_
    refine gc_seq ?_
    refine gc_reg ?_
    refine tlr 21 [.int .i64 i.k, .int .u64 i.s, .int .u64 i.q, .int .u64 i.f, .int .i64 i.m, .int .u64 i.a, .int .u64 i.b, .int .u64 i.n, .int .i64 i.z, .int .u64 i.v, .int .u64 i.h] Xg2 0 ?_
    refine tc 22 8 #[.agg #[.int .i64 i.k, .int .u64 i.s, .int .u64 i.q, .int .u64 i.f, .int .i64 i.m, .int .u64 i.a, .int .u64 i.b, .int .u64 i.n, .int .i64 i.z, .int .u64 i.v, .int .u64 i.h]] (renc_ok c4) ?_
    rintro _ v6 ⟨bb, ab, cb, rfl, AB, B⟩
    refine ⟨_, rfl, ?_⟩
    replace BB := joinB BB B
    replace Xg2 := Xg2.keep B
    replace AA := ByA.keep AA B
    clear B
    refine t 20 (.tuple #[.slice ab (bs i).length cb, .int .i64 0]) ?_
    refine t 23 (.slice ab (bs i).length cb) ?_
    refine t 24 (.int .i64 0) ?_
    refine t 5 (.slice ab (bs i).length cb) ?_
    refine t 6 (.int .i64 0) ?_
    refine gl_nil ?_
    refine ge_then ?_
    refine gc_fr [(1, pg g2), (2, .bool false), (3, .slice (some ⟨ga, 0, none⟩) (bs i).length (bs i).length), (4, .int .i64 0), (5, .slice ab (bs i).length cb), (6, .int .i64 0)] (by kernel_rfl) ?_
    refine gc_seq ?_
    refine gc_reg ?_
    refine t 26 (pq g2 1) ?_
    refine t 27 (pq g2 4) ?_
    refine t 28 (pq g2 4) ?_
    refine tl 29 (.int .i64 i.m) Xg2 4 ?_
    refine tc 30 9 #[.int .i64 i.m] (Uses_any i.m) ?_
    rintro _ v7 ⟨rfl, B⟩
    refine ⟨_, rfl, ?_⟩
    replace BB := joinB BB B
    replace Xg2 := Xg2.keep B
    replace AA := ByA.keep AA B
    replace AB := ByA.keep AB B
    clear B
    refine t 25 (.tuple #[.bool (uA i.m), .bool (uB i.m), .bool (uN i.m)]) ?_
    refine t 31 (.bool (uA i.m)) ?_
    refine t 32 (.bool (uB i.m)) ?_
    refine t 33 (.bool (uN i.m)) ?_
    refine t 7 (.bool (uA i.m)) ?_
    refine t 8 (.bool (uB i.m)) ?_
    refine t 9 (.bool (uN i.m)) ?_
    refine gl_nil ?_
    refine ge_then ?_
    refine gc_seq ?_
    refine gc_reg ?_
    refine t 35 (pq g2 1) ?_
    refine t 36 (pq g2 4) ?_
    refine t 37 (pq g2 4) ?_
    refine tl 38 (.int .i64 i.m) Xg2 4 ?_
    refine tc 39 10 #[.int .i64 i.m] (rUses_any i.m) ?_
    rintro _ v8 ⟨rfl, B⟩
    refine ⟨_, rfl, ?_⟩
    replace BB := joinB BB B
    replace Xg2 := Xg2.keep B
    replace AA := ByA.keep AA B
    replace AB := ByA.keep AB B
    clear B
    refine t 34 (.tuple #[.bool (uA i.m), .bool (uB i.m), .bool (uN i.m)]) ?_
    refine t 40 (.bool (uA i.m)) ?_
    refine t 41 (.bool (uB i.m)) ?_
    refine t 42 (.bool (uN i.m)) ?_
    refine t 10 (.bool (uA i.m)) ?_
    refine t 11 (.bool (uB i.m)) ?_
    refine t 12 (.bool (uN i.m)) ?_
    refine gl_nil ?_
    refine ge_then ?_
    clear Xg2
    refine gc_fr [(2, .bool false), (3, .slice (some ⟨ga, 0, none⟩) (bs i).length (bs i).length), (4, .int .i64 0), (5, .slice ab (bs i).length cb), (6, .int .i64 0), (7, .bool (uA i.m)), (8, .bool (uB i.m)), (9, .bool (uN i.m)), (10, .bool (uA i.m)), (11, .bool (uB i.m)), (12, .bool (uN i.m))] (by kernel_rfl) ?_
    refine gc_seq ?_
    refine gc_reg ?_
    refine t 43 (.slice (some ⟨ga, 0, none⟩) (bs i).length (bs i).length) ?_
    refine t 44 (.slice ab (bs i).length cb) ?_
    refine tc 45 11 #[.slice (some ⟨ga, 0, none⟩) (bs i).length (bs i).length, .slice ab (bs i).length cb] (bytT AA AB (by omega)) ?_
    rintro _ v9 ⟨rfl, B⟩
    refine ⟨_, rfl, ?_⟩
    replace BB := joinB BB B
    replace AA := ByA.keep AA B
    replace AB := ByA.keep AB B
    clear B
    refine t 46 (.bool true) ?_
    refine t 47 (.int .i64 0) ?_
    refine t 48 (.int .i64 0) ?_
    refine t 49 (.bool true) ?_
    refine t 50 (.bool true) ?_
    refine t 51 (.bool true) ?_
    refine t 52 (.bool (uA i.m)) ?_
    refine t 53 (.bool (uA i.m)) ?_
    refine tq 54 (.bool (uA i.m == uA i.m)) (.bool true) (congrArg Value.bool (beq_self_eq_true _)) ?_
    refine t 55 (.bool true) ?_
    refine t 56 (.bool true) ?_
    refine t 57 (.bool (uB i.m)) ?_
    refine t 58 (.bool (uB i.m)) ?_
    refine tq 59 (.bool (uB i.m == uB i.m)) (.bool true) (congrArg Value.bool (beq_self_eq_true _)) ?_
    refine t 60 (.bool true) ?_
    refine t 61 (.bool true) ?_
    refine t 62 (.bool (uN i.m)) ?_
    refine t 63 (.bool (uN i.m)) ?_
    refine tq 64 (.bool (uN i.m == uN i.m)) (.bool true) (congrArg Value.bool (beq_self_eq_true _)) ?_
    refine t 65 (.bool true) ?_
    refine t 2 (.bool true) ?_
    refine gl_nil ?_
    refine ge_then ?_
    refine gc_fr [(2, .bool true)] (by kernel_rfl) ?_
    refine gc_ret ?_
    refine ge_ret (.bool true) (rs1 2 (by kernel_rfl) (by kernel_rfl)) ?_
    exact ⟨rfl, BB⟩
  · refine tc 17 7 #[.agg #[.int .i64 i.k, .int .u64 i.s, .int .u64 i.q, .int .u64 i.f, .int .i64 i.m, .int .u64 i.a, .int .u64 i.b, .int .u64 i.n, .int .i64 i.z, .int .u64 i.v, .int .u64 i.h]] (enc_no c4) ?_
    rintro _ v10 ⟨rfl, B⟩
    refine ⟨_, rfl, ?_⟩
    replace BB := joinB BB B
    replace Xg2 := Xg2.keep B
    clear B
    refine t 15 (.tuple #[.slice none 0 0, .int .i64 170]) ?_
    refine t 18 (.slice none 0 0) ?_
    refine t 19 (.int .i64 170) ?_
    refine t 3 (.slice none 0 0) ?_
    refine t 4 (.int .i64 170) ?_
    refine gl_nil ?_
    refine ge_then ?_
    refine gc_seq ?_
    refine gc_reg ?_
    refine tlr 21 [.int .i64 i.k, .int .u64 i.s, .int .u64 i.q, .int .u64 i.f, .int .i64 i.m, .int .u64 i.a, .int .u64 i.b, .int .u64 i.n, .int .i64 i.z, .int .u64 i.v, .int .u64 i.h] Xg2 0 ?_
    refine tc 22 8 #[.agg #[.int .i64 i.k, .int .u64 i.s, .int .u64 i.q, .int .u64 i.f, .int .i64 i.m, .int .u64 i.a, .int .u64 i.b, .int .u64 i.n, .int .i64 i.z, .int .u64 i.v, .int .u64 i.h]] (renc_no c4) ?_
    rintro _ v11 ⟨rfl, B⟩
    refine ⟨_, rfl, ?_⟩
    replace BB := joinB BB B
    replace Xg2 := Xg2.keep B
    clear B
    refine t 20 (.tuple #[.slice none 0 0, .int .i64 170]) ?_
    refine t 23 (.slice none 0 0) ?_
    refine t 24 (.int .i64 170) ?_
    refine t 5 (.slice none 0 0) ?_
    refine t 6 (.int .i64 170) ?_
    refine gl_nil ?_
    refine ge_then ?_
    refine gc_fr [(1, pg g2), (2, .bool false), (3, .slice none 0 0), (4, .int .i64 170), (5, .slice none 0 0), (6, .int .i64 170)] (by kernel_rfl) ?_
    refine gc_seq ?_
    refine gc_reg ?_
    refine t 26 (pq g2 1) ?_
    refine t 27 (pq g2 4) ?_
    refine t 28 (pq g2 4) ?_
    refine tl 29 (.int .i64 i.m) Xg2 4 ?_
    refine tc 30 9 #[.int .i64 i.m] (Uses_any i.m) ?_
    rintro _ v12 ⟨rfl, B⟩
    refine ⟨_, rfl, ?_⟩
    replace BB := joinB BB B
    replace Xg2 := Xg2.keep B
    clear B
    refine t 25 (.tuple #[.bool (uA i.m), .bool (uB i.m), .bool (uN i.m)]) ?_
    refine t 31 (.bool (uA i.m)) ?_
    refine t 32 (.bool (uB i.m)) ?_
    refine t 33 (.bool (uN i.m)) ?_
    refine t 7 (.bool (uA i.m)) ?_
    refine t 8 (.bool (uB i.m)) ?_
    refine t 9 (.bool (uN i.m)) ?_
    refine gl_nil ?_
    refine ge_then ?_
    refine gc_seq ?_
    refine gc_reg ?_
    refine t 35 (pq g2 1) ?_
    refine t 36 (pq g2 4) ?_
    refine t 37 (pq g2 4) ?_
    refine tl 38 (.int .i64 i.m) Xg2 4 ?_
    refine tc 39 10 #[.int .i64 i.m] (rUses_any i.m) ?_
    rintro _ v13 ⟨rfl, B⟩
    refine ⟨_, rfl, ?_⟩
    replace BB := joinB BB B
    replace Xg2 := Xg2.keep B
    clear B
    refine t 34 (.tuple #[.bool (uA i.m), .bool (uB i.m), .bool (uN i.m)]) ?_
    refine t 40 (.bool (uA i.m)) ?_
    refine t 41 (.bool (uB i.m)) ?_
    refine t 42 (.bool (uN i.m)) ?_
    refine t 10 (.bool (uA i.m)) ?_
    refine t 11 (.bool (uB i.m)) ?_
    refine t 12 (.bool (uN i.m)) ?_
    refine gl_nil ?_
    refine ge_then ?_
    clear Xg2
    refine gc_fr [(2, .bool false), (3, .slice none 0 0), (4, .int .i64 170), (5, .slice none 0 0), (6, .int .i64 170), (7, .bool (uA i.m)), (8, .bool (uB i.m)), (9, .bool (uN i.m)), (10, .bool (uA i.m)), (11, .bool (uB i.m)), (12, .bool (uN i.m))] (by kernel_rfl) ?_
    refine gc_seq ?_
    refine gc_reg ?_
    refine t 43 (.slice none 0 0) ?_
    refine t 44 (.slice none 0 0) ?_
    refine tc 45 11 #[.slice none 0 0, .slice none 0 0] (bytT (nil_bya (b := 0)) (nil_bya (b := 0)) (by decide)) ?_
    rintro _ v14 ⟨rfl, B⟩
    refine ⟨_, rfl, ?_⟩
    replace BB := joinB BB B
    clear B
    refine t 46 (.bool true) ?_
    refine t 47 (.int .i64 170) ?_
    refine t 48 (.int .i64 170) ?_
    refine t 49 (.bool true) ?_
    refine t 50 (.bool true) ?_
    refine t 51 (.bool true) ?_
    refine t 52 (.bool (uA i.m)) ?_
    refine t 53 (.bool (uA i.m)) ?_
    refine tq 54 (.bool (uA i.m == uA i.m)) (.bool true) (congrArg Value.bool (beq_self_eq_true _)) ?_
    refine t 55 (.bool true) ?_
    refine t 56 (.bool true) ?_
    refine t 57 (.bool (uB i.m)) ?_
    refine t 58 (.bool (uB i.m)) ?_
    refine tq 59 (.bool (uB i.m == uB i.m)) (.bool true) (congrArg Value.bool (beq_self_eq_true _)) ?_
    refine t 60 (.bool true) ?_
    refine t 61 (.bool true) ?_
    refine t 62 (.bool (uN i.m)) ?_
    refine t 63 (.bool (uN i.m)) ?_
    refine tq 64 (.bool (uN i.m == uN i.m)) (.bool true) (congrArg Value.bool (beq_self_eq_true _)) ?_
    refine t 65 (.bool true) ?_
    refine t 2 (.bool true) ?_
    refine gl_nil ?_
    refine ge_then ?_
    refine gc_fr [(2, .bool true)] (by kernel_rfl) ?_
    refine gc_ret ?_
    refine ge_ret (.bool true) (rs1 2 (by kernel_rfl) (by kernel_rfl)) ?_
    exact ⟨rfl, BB⟩
end Mg
end Go.Proofs.Ytgfglfpckjkcdaa
