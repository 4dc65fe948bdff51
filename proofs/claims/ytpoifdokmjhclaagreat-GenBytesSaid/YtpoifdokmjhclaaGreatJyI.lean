/- Several texts, joined: GnL. -/
import Derived.Test.YtpoifdokmjhclaaGreatJyH
namespace Go.Proofs.YtpoifdokmjhclaaGreat
namespace Fo
open Go.RowKit Go.Lib Pg Lim Gl Kv Bk Pw Sd Di
attribute [local go_sem] Oper.semAt_some
set_option maxRecDepth 100000
set_option linter.unusedVariables false
set_option linter.unusedSimpArgs false
set_option maxHeartbeats 4000000
theorem snewG {w : World} (Bz : Nat) (hb : Bz = w.heap.size) : Calls Tryz.prog 64 #[] w fun e w' => ∃ g K, e = .returned (pg g) ∧ Sx Bz w' K g [] [] 0 0 ∧ (∀ b, K b → Bz ≤ b) ∧ Below w.heap.size w w' := by
  subst hb
  refine snew.mono ?_
  rintro e w' ⟨g, K, rfl, S, hK, B⟩
  exact ⟨g, K, rfl, ⟨S.mono (fun _ _ h => h.elim), B.size, hK⟩, hK, B⟩
theorem fit_y {w : World}   : Calls Tryz.prog 56 #[.agg #[.int .u64 1, .int .u64 1, .int .u64 1, .int .u64 0, .int .u64 0, .int .u64 0, .int .u64 0, .int .u64 0, .int .u64 0, .int .u64 16]] w fun e w' => e = .returned (.bool true) ∧ Below w.heap.size w w' := by
  have BB := Below.refl w.heap.size w
  refine gc_enter (n := 66) Tryz.func56 rfl (by kernel_rfl) (by kernel_rfl) ?_
  refine gc_seq ?_
  refine gc_reg ?_
  refine ta 1 [.int .u64 1, .int .u64 1, .int .u64 1, .int .u64 0, .int .u64 0, .int .u64 0, .int .u64 0, .int .u64 0, .int .u64 0, .int .u64 16] 24 (pg) ?_
  intro v1 g2 Xg2 hg2 B
  replace BB := joinB BB B
  clear B
  refine t 2 (.bool false) ?_
  refine gl_nil ?_
  refine ge_then ?_
  refine gc_seq ?_
  refine gc_reg ?_
  refine t 3 (pg g2) ?_
  refine tl 4 (.int .u64 1) Xg2 0 ?_
  refine t 5 (.bool true) ?_
  refine t 6 (.bool true) ?_
  refine t 7 (pg g2) ?_
  refine tl 8 (.int .u64 1) Xg2 0 ?_
  refine t 9 (.bool true) ?_
  refine t 10 (.bool true) ?_
  refine t 11 (.bool true) ?_
  refine t 12 (pq g2 1) ?_
  refine tl 13 (.int .u64 1) Xg2 1 ?_
  refine t 14 (.bool true) ?_
  refine t 15 (.bool true) ?_
  refine t 16 (.bool true) ?_
  refine t 17 (pq g2 1) ?_
  refine tl 18 (.int .u64 1) Xg2 1 ?_
  refine t 19 (.bool true) ?_
  refine t 20 (.bool true) ?_
  refine t 21 (.bool true) ?_
  refine t 22 (pq g2 2) ?_
  refine tl 23 (.int .u64 1) Xg2 2 ?_
  refine t 24 (.bool true) ?_
  refine t 25 (.bool true) ?_
  refine t 26 (.bool true) ?_
  refine t 27 (pq g2 2) ?_
  refine tl 28 (.int .u64 1) Xg2 2 ?_
  refine t 29 (.bool true) ?_
  refine t 30 (.bool true) ?_
  refine t 31 (.bool true) ?_
  refine t 32 (pq g2 3) ?_
  refine tl 33 (.int .u64 0) Xg2 3 ?_
  refine t 34 (.bool true) ?_
  refine t 35 (.bool true) ?_
  refine t 36 (.bool true) ?_
  refine t 37 (pq g2 4) ?_
  refine tl 38 (.int .u64 0) Xg2 4 ?_
  refine t 39 (.bool true) ?_
  refine t 40 (.bool true) ?_
  refine t 41 (.bool true) ?_
  refine t 42 (pq g2 5) ?_
  refine tl 43 (.int .u64 0) Xg2 5 ?_
  refine t 44 (.bool true) ?_
  refine t 45 (.bool true) ?_
  refine t 46 (.bool true) ?_
  refine t 47 (pq g2 6) ?_
  refine tl 48 (.int .u64 0) Xg2 6 ?_
  refine t 49 (.bool true) ?_
  refine t 50 (.bool true) ?_
  refine t 51 (.bool true) ?_
  refine t 52 (pq g2 7) ?_
  refine tl 53 (.int .u64 0) Xg2 7 ?_
  refine t 54 (.bool true) ?_
  refine t 55 (.bool true) ?_
  refine t 56 (.bool true) ?_
  refine t 57 (pq g2 8) ?_
  refine tl 58 (.int .u64 0) Xg2 8 ?_
  refine t 59 (.bool true) ?_
  refine t 60 (.bool true) ?_
  refine t 61 (.bool true) ?_
  refine t 62 (pq g2 9) ?_
  refine tl 63 (.int .u64 16) Xg2 9 ?_
  refine tc 64 83 #[.int .u64 16] (user_any (r := true) (by decide)) ?_
  rintro _ v3 ⟨rfl, B⟩
  refine ⟨_, rfl, ?_⟩
  replace BB := joinB BB B
  replace Xg2 := Xg2.keep B
  clear B
  refine t 65 (.bool true) ?_
  refine t 2 (.bool true) ?_
  refine gl_nil ?_
  refine ge_then ?_
  refine gc_fr [(2, .bool true)] (by kernel_rfl) ?_
  refine gc_ret ?_
  refine ge_ret (.bool true) (rs1 2 (by kernel_rfl) (by kernel_rfl)) ?_
  exact ⟨rfl, BB⟩
theorem fit_n {w : World}   : Calls Tryz.prog 56 #[.agg #[.int .u64 0, .int .u64 1, .int .u64 1, .int .u64 0, .int .u64 0, .int .u64 0, .int .u64 0, .int .u64 0, .int .u64 0, .int .u64 16]] w fun e w' => e = .returned (.bool false) ∧ Below w.heap.size w w' := by
  have BB := Below.refl w.heap.size w
  refine gc_enter (n := 66) Tryz.func56 rfl (by kernel_rfl) (by kernel_rfl) ?_
  refine gc_seq ?_
  refine gc_reg ?_
  refine ta 1 [.int .u64 0, .int .u64 1, .int .u64 1, .int .u64 0, .int .u64 0, .int .u64 0, .int .u64 0, .int .u64 0, .int .u64 0, .int .u64 16] 24 (pg) ?_
  intro v1 g2 Xg2 hg2 B
  replace BB := joinB BB B
  clear B
  refine t 2 (.bool false) ?_
  refine gl_nil ?_
  refine ge_then ?_
  refine gc_seq ?_
  refine gc_reg ?_
  refine t 3 (pg g2) ?_
  refine tl 4 (.int .u64 0) Xg2 0 ?_
  refine t 5 (.bool false) ?_
  refine t 6 (.bool false) ?_
  refine tn 7 ?_
  refine tn 8 ?_
  refine tn 9 ?_
  refine t 10 (.bool false) ?_
  refine t 11 (.bool false) ?_
  refine tn 12 ?_
  refine tn 13 ?_
  refine tn 14 ?_
  refine t 15 (.bool false) ?_
  refine t 16 (.bool false) ?_
  refine tn 17 ?_
  refine tn 18 ?_
  refine tn 19 ?_
  refine t 20 (.bool false) ?_
  refine t 21 (.bool false) ?_
  refine tn 22 ?_
  refine tn 23 ?_
  refine tn 24 ?_
  refine t 25 (.bool false) ?_
  refine t 26 (.bool false) ?_
  refine tn 27 ?_
  refine tn 28 ?_
  refine tn 29 ?_
  refine t 30 (.bool false) ?_
  refine t 31 (.bool false) ?_
  refine tn 32 ?_
  refine tn 33 ?_
  refine tn 34 ?_
  refine t 35 (.bool false) ?_
  refine t 36 (.bool false) ?_
  refine tn 37 ?_
  refine tn 38 ?_
  refine tn 39 ?_
  refine t 40 (.bool false) ?_
  refine t 41 (.bool false) ?_
  refine tn 42 ?_
  refine tn 43 ?_
  refine tn 44 ?_
  refine t 45 (.bool false) ?_
  refine t 46 (.bool false) ?_
  refine tn 47 ?_
  refine tn 48 ?_
  refine tn 49 ?_
  refine t 50 (.bool false) ?_
  refine t 51 (.bool false) ?_
  refine tn 52 ?_
  refine tn 53 ?_
  refine tn 54 ?_
  refine t 55 (.bool false) ?_
  refine t 56 (.bool false) ?_
  refine tn 57 ?_
  refine tn 58 ?_
  refine tn 59 ?_
  refine t 60 (.bool false) ?_
  refine t 61 (.bool false) ?_
  refine tn 62 ?_
  refine tn 63 ?_
  refine tn 64 ?_
  refine t 65 (.bool false) ?_
  refine t 2 (.bool false) ?_
  refine gl_nil ?_
  refine ge_then ?_
  refine gc_fr [(2, .bool false)] (by kernel_rfl) ?_
  refine gc_ret ?_
  refine ge_ret (.bool false) (rs1 2 (by kernel_rfl) (by kernel_rfl)) ?_
  exact ⟨rfl, BB⟩
theorem fault_16 {w : World} {ba bf : Nat} {c c' : Nat} (XA : Blk w ba [.int .u64 16, .int .u64 100] 43) (XF : Blk w bf [.int .u64 16, .int .u64 500, .int .u64 10] 45) : Calls Tryz.prog 37 #[.agg #[.int .u64 1, .int .u64 1, .int .u64 1, .int .u64 0, .int .u64 0, .int .u64 0, .int .u64 0, .int .u64 0, .int .u64 0, .int .u64 16, .slice (some ⟨ba, 0, none⟩) 1 c, .slice (some ⟨bf, 0, none⟩) 1 c']] w fun e w' => e = .returned (.int .i64 0) ∧ Below w.heap.size w w' := by
  have BB := Below.refl w.heap.size w
  refine gc_enter (n := 28) Tryz.func37 rfl (by kernel_rfl) (by kernel_rfl) ?_
  refine gc_seq ?_
  refine gc_reg ?_
  have lXA := XA.lt
  have lXF := XF.lt
  refine ta 1 [.int .u64 1, .int .u64 1, .int .u64 1, .int .u64 0, .int .u64 0, .int .u64 0, .int .u64 0, .int .u64 0, .int .u64 0, .int .u64 16, .slice (some ⟨ba, 0, none⟩) 1 c, .slice (some ⟨bf, 0, none⟩) 1 c'] 28 (pg) ?_
  intro v1 g2 Xg2 hg2 B
  replace BB := joinB BB B
  replace XA := XA.keep B
  replace XF := XF.keep B
  clear B
  refine t 2 (.int .i64 0) ?_
  refine gl_nil ?_
  refine ge_then ?_
  refine gc_seq ?_
  refine gc_block ?_
  refine gc_seq ?_
  refine gc_reg ?_
  refine t 4 (pg g2) ?_
  refine tlr 5 [.int .u64 1, .int .u64 1, .int .u64 1, .int .u64 0, .int .u64 0, .int .u64 0, .int .u64 0, .int .u64 0, .int .u64 0, .int .u64 16] Xg2 0 ?_
  refine tc 6 56 #[.agg #[.int .u64 1, .int .u64 1, .int .u64 1, .int .u64 0, .int .u64 0, .int .u64 0, .int .u64 0, .int .u64 0, .int .u64 0, .int .u64 16]] (fit_y) ?_
  rintro _ v3 ⟨rfl, B⟩
  refine ⟨_, rfl, ?_⟩
  replace BB := joinB BB B
  replace XA := XA.keep B
  replace XF := XF.keep B
  replace Xg2 := Xg2.keep B
  clear B
  refine t 7 (.bool false) ?_
  refine t 3 (.bool false) ?_
  refine gl_nil ?_
  refine ge_then ?_
  refine gc_no ?_
  refine gc_seq ?_
  refine gc_reg ?_
  refine t 9 (pq g2 10) ?_
  refine tl 10 (.slice (some ⟨ba, 0, none⟩) 1 c) Xg2 10 ?_
  refine tc 11 57 #[.slice (some ⟨ba, 0, none⟩) 1 c, .func (.func 58) #[] #[]] (rise_p1 XA) ?_
  rintro _ v4 ⟨rfl, B⟩
  refine ⟨_, rfl, ?_⟩
  replace BB := joinB BB B
  replace XA := XA.keep B
  replace XF := XF.keep B
  replace Xg2 := Xg2.keep B
  clear B
  refine t 12 (.bool false) ?_
  refine t 13 (.bool false) ?_
  refine t 14 (pq g2 10) ?_
  refine tl 15 (.slice (some ⟨ba, 0, none⟩) 1 c) Xg2 10 ?_
  refine tc 16 59 #[.slice (some ⟨ba, 0, none⟩) 1 c, .func (.func 60) #[] #[]] (contains_p1 XA) ?_
  rintro _ v5 ⟨rfl, B⟩
  refine ⟨_, rfl, ?_⟩
  replace BB := joinB BB B
  replace XA := XA.keep B
  replace XF := XF.keep B
  replace Xg2 := Xg2.keep B
  clear B
  refine t 17 (.bool false) ?_
  refine t 8 (.bool false) ?_
  refine gl_nil ?_
  refine ge_then ?_
  refine gc_fr [(1, pg g2), (2, .int .i64 0), (8, .bool false)] (by kernel_rfl) ?_
  refine gc_no ?_
  refine gc_seq ?_
  refine gc_reg ?_
  refine t 19 (pq g2 10) ?_
  refine tl 20 (.slice (some ⟨ba, 0, none⟩) 1 c) Xg2 10 ?_
  refine tc 21 61 #[.slice (some ⟨ba, 0, none⟩) 1 c] (fit_p1 XA) ?_
  rintro _ v6 ⟨rfl, B⟩
  refine ⟨_, rfl, ?_⟩
  replace BB := joinB BB B
  replace XA := XA.keep B
  replace XF := XF.keep B
  replace Xg2 := Xg2.keep B
  clear B
  refine t 22 (.bool false) ?_
  refine t 18 (.bool false) ?_
  refine gl_nil ?_
  refine ge_then ?_
  refine gc_no ?_
  refine gc_seq ?_
  refine gc_reg ?_
  refine t 24 (pq g2 11) ?_
  refine tl 25 (.slice (some ⟨bf, 0, none⟩) 1 c') Xg2 11 ?_
  refine tc 26 62 #[.slice (some ⟨bf, 0, none⟩) 1 c', .func (.func 63) #[] #[]] (rise_f16 XF) ?_
  rintro _ v7 ⟨rfl, B⟩
  refine ⟨_, rfl, ?_⟩
  replace BB := joinB BB B
  replace XA := XA.keep B
  replace XF := XF.keep B
  replace Xg2 := Xg2.keep B
  clear B
  refine t 27 (.bool false) ?_
  refine t 23 (.bool false) ?_
  refine gl_nil ?_
  refine ge_then ?_
  refine gc_no ?_
  refine gc_skip ?_
  refine ge_bn ?_
  refine ge_then ?_
  refine gc_seq ?_
  refine gc_reg ?_
  refine t 2 (.int .i64 0) ?_
  refine gl_nil ?_
  refine ge_then ?_
  refine gc_ret ?_
  refine ge_ret (.int .i64 0) (rs1 2 (by kernel_rfl) (by kernel_rfl)) ?_
  exact ⟨rfl, BB⟩
theorem fault_17 {w : World} {ba bf : Nat} {c c' : Nat} (XA : Blk w ba [.int .u64 16, .int .u64 100] 43) (XF : Blk w bf [.int .u64 17, .int .u64 500, .int .u64 10] 45) : Calls Tryz.prog 37 #[.agg #[.int .u64 1, .int .u64 1, .int .u64 1, .int .u64 0, .int .u64 0, .int .u64 0, .int .u64 0, .int .u64 0, .int .u64 0, .int .u64 16, .slice (some ⟨ba, 0, none⟩) 1 c, .slice (some ⟨bf, 0, none⟩) 1 c']] w fun e w' => e = .returned (.int .i64 0) ∧ Below w.heap.size w w' := by
  have BB := Below.refl w.heap.size w
  refine gc_enter (n := 28) Tryz.func37 rfl (by kernel_rfl) (by kernel_rfl) ?_
  refine gc_seq ?_
  refine gc_reg ?_
  have lXA := XA.lt
  have lXF := XF.lt
  refine ta 1 [.int .u64 1, .int .u64 1, .int .u64 1, .int .u64 0, .int .u64 0, .int .u64 0, .int .u64 0, .int .u64 0, .int .u64 0, .int .u64 16, .slice (some ⟨ba, 0, none⟩) 1 c, .slice (some ⟨bf, 0, none⟩) 1 c'] 28 (pg) ?_
  intro v1 g2 Xg2 hg2 B
  replace BB := joinB BB B
  replace XA := XA.keep B
  replace XF := XF.keep B
  clear B
  refine t 2 (.int .i64 0) ?_
  refine gl_nil ?_
  refine ge_then ?_
  refine gc_seq ?_
  refine gc_block ?_
  refine gc_seq ?_
  refine gc_reg ?_
  refine t 4 (pg g2) ?_
  refine tlr 5 [.int .u64 1, .int .u64 1, .int .u64 1, .int .u64 0, .int .u64 0, .int .u64 0, .int .u64 0, .int .u64 0, .int .u64 0, .int .u64 16] Xg2 0 ?_
  refine tc 6 56 #[.agg #[.int .u64 1, .int .u64 1, .int .u64 1, .int .u64 0, .int .u64 0, .int .u64 0, .int .u64 0, .int .u64 0, .int .u64 0, .int .u64 16]] (fit_y) ?_
  rintro _ v3 ⟨rfl, B⟩
  refine ⟨_, rfl, ?_⟩
  replace BB := joinB BB B
  replace XA := XA.keep B
  replace XF := XF.keep B
  replace Xg2 := Xg2.keep B
  clear B
  refine t 7 (.bool false) ?_
  refine t 3 (.bool false) ?_
  refine gl_nil ?_
  refine ge_then ?_
  refine gc_no ?_
  refine gc_seq ?_
  refine gc_reg ?_
  refine t 9 (pq g2 10) ?_
  refine tl 10 (.slice (some ⟨ba, 0, none⟩) 1 c) Xg2 10 ?_
  refine tc 11 57 #[.slice (some ⟨ba, 0, none⟩) 1 c, .func (.func 58) #[] #[]] (rise_p1 XA) ?_
  rintro _ v4 ⟨rfl, B⟩
  refine ⟨_, rfl, ?_⟩
  replace BB := joinB BB B
  replace XA := XA.keep B
  replace XF := XF.keep B
  replace Xg2 := Xg2.keep B
  clear B
  refine t 12 (.bool false) ?_
  refine t 13 (.bool false) ?_
  refine t 14 (pq g2 10) ?_
  refine tl 15 (.slice (some ⟨ba, 0, none⟩) 1 c) Xg2 10 ?_
  refine tc 16 59 #[.slice (some ⟨ba, 0, none⟩) 1 c, .func (.func 60) #[] #[]] (contains_p1 XA) ?_
  rintro _ v5 ⟨rfl, B⟩
  refine ⟨_, rfl, ?_⟩
  replace BB := joinB BB B
  replace XA := XA.keep B
  replace XF := XF.keep B
  replace Xg2 := Xg2.keep B
  clear B
  refine t 17 (.bool false) ?_
  refine t 8 (.bool false) ?_
  refine gl_nil ?_
  refine ge_then ?_
  refine gc_fr [(1, pg g2), (2, .int .i64 0), (8, .bool false)] (by kernel_rfl) ?_
  refine gc_no ?_
  refine gc_seq ?_
  refine gc_reg ?_
  refine t 19 (pq g2 10) ?_
  refine tl 20 (.slice (some ⟨ba, 0, none⟩) 1 c) Xg2 10 ?_
  refine tc 21 61 #[.slice (some ⟨ba, 0, none⟩) 1 c] (fit_p1 XA) ?_
  rintro _ v6 ⟨rfl, B⟩
  refine ⟨_, rfl, ?_⟩
  replace BB := joinB BB B
  replace XA := XA.keep B
  replace XF := XF.keep B
  replace Xg2 := Xg2.keep B
  clear B
  refine t 22 (.bool false) ?_
  refine t 18 (.bool false) ?_
  refine gl_nil ?_
  refine ge_then ?_
  refine gc_no ?_
  refine gc_seq ?_
  refine gc_reg ?_
  refine t 24 (pq g2 11) ?_
  refine tl 25 (.slice (some ⟨bf, 0, none⟩) 1 c') Xg2 11 ?_
  refine tc 26 62 #[.slice (some ⟨bf, 0, none⟩) 1 c', .func (.func 63) #[] #[]] (rise_f17 XF) ?_
  rintro _ v7 ⟨rfl, B⟩
  refine ⟨_, rfl, ?_⟩
  replace BB := joinB BB B
  replace XA := XA.keep B
  replace XF := XF.keep B
  replace Xg2 := Xg2.keep B
  clear B
  refine t 27 (.bool false) ?_
  refine t 23 (.bool false) ?_
  refine gl_nil ?_
  refine ge_then ?_
  refine gc_no ?_
  refine gc_skip ?_
  refine ge_bn ?_
  refine ge_then ?_
  refine gc_seq ?_
  refine gc_reg ?_
  refine t 2 (.int .i64 0) ?_
  refine gl_nil ?_
  refine ge_then ?_
  refine gc_ret ?_
  refine ge_ret (.int .i64 0) (rs1 2 (by kernel_rfl) (by kernel_rfl)) ?_
  exact ⟨rfl, BB⟩
theorem fault_a {w : World} {ba : Nat} {c c' nf : Nat} {d : Option Addr} (XA : Blk w ba [.int .u64 16, .int .u64 100, .int .u64 16, .int .u64 100] 43) : Calls Tryz.prog 37 #[.agg #[.int .u64 1, .int .u64 1, .int .u64 1, .int .u64 0, .int .u64 0, .int .u64 0, .int .u64 0, .int .u64 0, .int .u64 0, .int .u64 16, .slice (some ⟨ba, 0, none⟩) 2 c, .slice d nf c']] w fun e w' => e = .returned (.int .i64 213) ∧ Below w.heap.size w w' := by
  have BB := Below.refl w.heap.size w
  refine gc_enter (n := 28) Tryz.func37 rfl (by kernel_rfl) (by kernel_rfl) ?_
  refine gc_seq ?_
  refine gc_reg ?_
  have lXA := XA.lt
  refine ta 1 [.int .u64 1, .int .u64 1, .int .u64 1, .int .u64 0, .int .u64 0, .int .u64 0, .int .u64 0, .int .u64 0, .int .u64 0, .int .u64 16, .slice (some ⟨ba, 0, none⟩) 2 c, .slice d nf c'] 28 (pg) ?_
  intro v1 g2 Xg2 hg2 B
  replace BB := joinB BB B
  replace XA := XA.keep B
  clear B
  refine t 2 (.int .i64 0) ?_
  refine gl_nil ?_
  refine ge_then ?_
  refine gc_seq ?_
  refine gc_block ?_
  refine gc_seq ?_
  refine gc_reg ?_
  refine t 4 (pg g2) ?_
  refine tlr 5 [.int .u64 1, .int .u64 1, .int .u64 1, .int .u64 0, .int .u64 0, .int .u64 0, .int .u64 0, .int .u64 0, .int .u64 0, .int .u64 16] Xg2 0 ?_
  refine tc 6 56 #[.agg #[.int .u64 1, .int .u64 1, .int .u64 1, .int .u64 0, .int .u64 0, .int .u64 0, .int .u64 0, .int .u64 0, .int .u64 0, .int .u64 16]] (fit_y) ?_
  rintro _ v3 ⟨rfl, B⟩
  refine ⟨_, rfl, ?_⟩
  replace BB := joinB BB B
  replace XA := XA.keep B
  replace Xg2 := Xg2.keep B
  clear B
  refine t 7 (.bool false) ?_
  refine t 3 (.bool false) ?_
  refine gl_nil ?_
  refine ge_then ?_
  refine gc_no ?_
  refine gc_seq ?_
  refine gc_reg ?_
  refine t 9 (pq g2 10) ?_
  refine tl 10 (.slice (some ⟨ba, 0, none⟩) 2 c) Xg2 10 ?_
  refine tc 11 57 #[.slice (some ⟨ba, 0, none⟩) 2 c, .func (.func 58) #[] #[]] (rise_p2 XA) ?_
  rintro _ v4 ⟨rfl, B⟩
  refine ⟨_, rfl, ?_⟩
  replace BB := joinB BB B
  replace XA := XA.keep B
  replace Xg2 := Xg2.keep B
  clear B
  refine t 12 (.bool true) ?_
  refine t 13 (.bool true) ?_
  refine tn 14 ?_
  refine tn 15 ?_
  refine tn 16 ?_
  refine t 17 (.bool true) ?_
  refine t 8 (.bool true) ?_
  refine gl_nil ?_
  refine ge_then ?_
  refine gc_fr [(1, pg g2), (2, .int .i64 0), (8, .bool true)] (by kernel_rfl) ?_
  refine gc_yes ?_
  refine gc_seq ?_
  refine gc_reg ?_
  refine t 2 (.int .i64 213) ?_
  refine gl_nil ?_
  refine ge_then ?_
  refine gc_ret ?_
  refine ge_br ?_
  refine ge_tr ?_
  refine ge_ret (.int .i64 213) (rs1 2 (by kernel_rfl) (by kernel_rfl)) ?_
  exact ⟨rfl, BB⟩
theorem fault_p {w : World} {c c' na nf : Nat} {a d : Option Addr}  : Calls Tryz.prog 37 #[.agg #[.int .u64 0, .int .u64 1, .int .u64 1, .int .u64 0, .int .u64 0, .int .u64 0, .int .u64 0, .int .u64 0, .int .u64 0, .int .u64 16, .slice a na c, .slice d nf c']] w fun e w' => e = .returned (.int .i64 212) ∧ Below w.heap.size w w' := by
  have BB := Below.refl w.heap.size w
  refine gc_enter (n := 28) Tryz.func37 rfl (by kernel_rfl) (by kernel_rfl) ?_
  refine gc_seq ?_
  refine gc_reg ?_
  refine ta 1 [.int .u64 0, .int .u64 1, .int .u64 1, .int .u64 0, .int .u64 0, .int .u64 0, .int .u64 0, .int .u64 0, .int .u64 0, .int .u64 16, .slice a na c, .slice d nf c'] 28 (pg) ?_
  intro v1 g2 Xg2 hg2 B
  replace BB := joinB BB B
  clear B
  refine t 2 (.int .i64 0) ?_
  refine gl_nil ?_
  refine ge_then ?_
  refine gc_seq ?_
  refine gc_block ?_
  refine gc_seq ?_
  refine gc_reg ?_
  refine t 4 (pg g2) ?_
  refine tlr 5 [.int .u64 0, .int .u64 1, .int .u64 1, .int .u64 0, .int .u64 0, .int .u64 0, .int .u64 0, .int .u64 0, .int .u64 0, .int .u64 16] Xg2 0 ?_
  refine tc 6 56 #[.agg #[.int .u64 0, .int .u64 1, .int .u64 1, .int .u64 0, .int .u64 0, .int .u64 0, .int .u64 0, .int .u64 0, .int .u64 0, .int .u64 16]] (fit_n) ?_
  rintro _ v3 ⟨rfl, B⟩
  refine ⟨_, rfl, ?_⟩
  replace BB := joinB BB B
  replace Xg2 := Xg2.keep B
  clear B
  refine t 7 (.bool true) ?_
  refine t 3 (.bool true) ?_
  refine gl_nil ?_
  refine ge_then ?_
  refine gc_yes ?_
  refine gc_seq ?_
  refine gc_reg ?_
  refine t 2 (.int .i64 212) ?_
  refine gl_nil ?_
  refine ge_then ?_
  refine gc_ret ?_
  refine ge_br ?_
  refine ge_tr ?_
  refine ge_ret (.int .i64 212) (rs1 2 (by kernel_rfl) (by kernel_rfl)) ?_
  exact ⟨rfl, BB⟩
theorem begin_y {w0 : World} {ba bf c c' : Nat} (XA : Blk w0 ba [.int .u64 16, .int .u64 100] 43) (XF : Blk w0 bf [.int .u64 16, .int .u64 500, .int .u64 10] 45) : Calls Tryz.prog 38 #[.agg #[.int .u64 1, .int .u64 1, .int .u64 1, .int .u64 0, .int .u64 0, .int .u64 0, .int .u64 0, .int .u64 0, .int .u64 0, .int .u64 16, .slice (some ⟨ba, 0, none⟩) 1 c, .slice (some ⟨bf, 0, none⟩) 1 c']] w0 fun e w' => ∃ g K' n' N' B, e = .returned (.tuple #[pg g, .int .i64 0]) ∧ Sx B w' K' g e16 [] n' N' ∧ n' ≤ 30000 ∧ N' ≤ 30000 ∧ w0.heap.size ≤ B ∧ Below w0.heap.size w0 w' := by
  have BB := Below.refl w0.heap.size w0
  refine gc_enter (n := 57) Tryz.func38 rfl (by kernel_rfl) (by kernel_rfl) ?_
  refine gc_seq ?_
  refine gc_reg ?_
  refine ta 1 [.int .u64 1, .int .u64 1, .int .u64 1, .int .u64 0, .int .u64 0, .int .u64 0, .int .u64 0, .int .u64 0, .int .u64 0, .int .u64 16, .slice (some ⟨ba, 0, none⟩) 1 c, .slice (some ⟨bf, 0, none⟩) 1 c'] 28 (pg) ?_
  intro v1 g2 XG hg2 B
  replace XA := XA.keep B
  replace XF := XF.keep B
  replace BB := joinB BB B
  clear B
  refine t 2 (.pointer none) ?_
  refine t 3 (.int .i64 0) ?_
  refine gl_nil ?_
  refine ge_then ?_
  refine gc_seq ?_
  refine gc_reg ?_
  obtain ⟨B, hB⟩ : ∃ B, B = v1.heap.size := ⟨_, rfl⟩
  refine tc 11 64 #[] (snewG B hB) ?_
  rintro _ w ⟨g, K, rfl, S, kK, B2⟩
  refine ⟨_, rfl, ?_⟩
  have nXA : ¬ K ba := fun k => by
    have := kK _ k
    have := XA.lt
    omega
  replace XA := XA.keep B2
  have nXF : ¬ K bf := fun k => by
    have := kK _ k
    have := XF.lt
    omega
  replace XF := XF.keep B2
  have nXG : ¬ K g2 := fun k => by
    have := kK _ k
    have := XG.lt
    omega
  replace XG := XG.keep B2
  have zB := BB.size
  replace BB := joinB BB B2
  clear B2
  obtain ⟨n, n0⟩ : ∃ n : Nat, n = 0 := ⟨_, rfl⟩
  obtain ⟨N, N0⟩ : ∃ N : Nat, N = 0 := ⟨_, rfl⟩
  replace S : Sx B w K g [] [] n N := by
    rw [n0, N0]
    exact S
  have U := ut_of S
  refine t 4 (pg g) ?_
  refine gl_nil ?_
  refine ge_then ?_
  refine gc_seq ?_
  refine gc_reg ?_
  refine t 12 (pg g) ?_
  refine t 13 (pg g2) ?_
  refine tlr 14 [.int .u64 1, .int .u64 1, .int .u64 1, .int .u64 0, .int .u64 0, .int .u64 0, .int .u64 0, .int .u64 0, .int .u64 0, .int .u64 16] (XG.chg U.ta.cc nXG) 0 ?_
  refine tc 15 65 #[pg g, .agg #[.int .u64 1, .int .u64 1, .int .u64 1, .int .u64 0, .int .u64 0, .int .u64 0, .int .u64 0, .int .u64 0, .int .u64 0, .int .u64 16]] (setParams_l U.ta.sx (by omega) (by omega)) ?_
  rintro _ v6 ⟨K3, n4, N5, rfl, S, qn4, qN5, hK, hC⟩
  refine ⟨_, rfl, ?_⟩
  replace U := U.op S hK hC
  clear S hK hC
  refine gl_nil ?_
  refine ge_then ?_
  refine gc_seq ?_
  refine gc_reg ?_
  refine t 16 (pg g) ?_
  refine t 17 (.agg #[.int .u64 0, .int .u64 1]) ?_
  refine tc 18 66 #[pg g, .agg #[.int .u64 0, .int .u64 1]] (setChain_l U.ta.sx (by omega) (by omega)) ?_
  rintro _ v10 ⟨K7, n8, N9, rfl, S, qn8, qN9, hK, hC⟩
  refine ⟨_, rfl, ?_⟩
  replace U := U.op S hK hC
  clear S hK hC
  refine gl_nil ?_
  refine ge_then ?_
  refine gc_fr [(1, pg g2), (2, .pointer none), (3, .int .i64 0), (4, pg g)] (by kernel_rfl) ?_
  refine gc_seq ?_
  refine gc_seq ?_
  refine gc_reg ?_
  refine t 19 (pq g2 10) ?_
  refine tl 20 (.slice (some ⟨ba, 0, none⟩) 1 c) (XG.chg U.ta.cc nXG) 10 ?_
  refine t 21 (.int .i64 1) ?_
  refine t 22 (.int .i64 0) ?_
  refine gl_nil ?_
  refine ge_then ?_
  refine gc_block ?_
  refine gc_loop (fun s => 1 - s) (fun (s : Nat) => [(1, pg g2), (4, pg g), (20, .slice (some ⟨ba, 0, none⟩) 1 c), (21, .int .i64 1), (22, .int .i64 (s : Int))]) (fun s w' => (s = 0 ∧ ∃ K' n' N', Ut w K B g [] w' K' e2 n' N' [] [] ∧ n' ≤ n + 950 ∧ N' ≤ N + 950) ∨ (s = 1 ∧ ∃ K' n' N', Ut w K B g [] w' K' e3 n' N' [] [] ∧ n' ≤ n + 1010 ∧ N' ≤ N + 1010)) 0 (.inl ⟨rfl, ⟨_, _, _, U, by omega, by omega⟩⟩) (by kernel_rfl) ?_
  clear U
  rintro i v11 (⟨rfl, ⟨K12, n13, N14, U, qn13, qN14⟩⟩ | ⟨rfl, ⟨K15, n16, N17, U, qn16, qN17⟩⟩)
  · skip
    refine gc_seq ?_
    refine gc_reg ?_
    refine t 23 (.bool true) ?_
    refine gl_nil ?_
    refine ge_then ?_
    refine gc_seq ?_
    refine gc_yes ?_
    refine gc_skip ?_
    refine ge_then ?_
    refine gc_seq ?_
    refine gc_block ?_
    refine gc_seq ?_
    refine gc_reg ?_
    refine t 24 (pg ba) ?_
    refine tlr 25 [.int .u64 16, .int .u64 100] (XA.chg U.ta.cc nXA) 0 ?_
    refine ta 6 [.int .u64 0, .int .u64 0] 43 (pg) ?_
    intro v18 g19 Xg19 hg19 B
    replace U := U.new Xg19 hg19 B
    clear Xg19 hg19 B
    refine ts (U.bk 0 rfl) 0 (.agg #[.int .u64 16, .int .u64 100]) [.int .u64 16, .int .u64 100] [.int .u64 16, .int .u64 100] ?_
    intro v20 Y C
    replace U := U.put 0 rfl C Y (by decide)
    clear Y C
    refine gl_nil ?_
    refine ge_then ?_
    refine gc_reg ?_
    refine t 26 (pg g) ?_
    refine t 27 (pg g19) ?_
    refine tl 28 (.int .u64 16) (U.bk 0 rfl) 0 ?_
    refine t 29 (pq g19 1) ?_
    refine tl 30 (.int .u64 100) (U.bk 0 rfl) 1 ?_
    refine tc 31 67 #[pg g, .int .u64 16, .int .u64 100] (mv_lit (mint_any U.ta.sx ⟨by decide, by decide⟩ ⟨by decide, by decide⟩ (by omega) (by omega)) (show mintE e2 16 100 = e3 from rfl) (show mintR e2 16 100 = 0 by decide +kernel)) ?_
    rintro _ v25 ⟨rfl, K21, n22, N23, S, qn22, qN23, hK, hC⟩
    refine ⟨_, rfl, ?_⟩
    replace U := U.op S hK hC
    clear S hK hC
    refine gl_nil ?_
    refine ge_bn ?_
    refine ge_then ?_
    refine gc_reg ?_
    refine t 32 (.int .i64 1) ?_
    refine t 22 (.int .i64 1) ?_
    refine gl_nil ?_
    replace U := U.sel [] []
    exact ge_round (1 : Nat) (by decide) (.inr ⟨rfl, ⟨_, _, _, U, by omega, by omega⟩⟩) (by kernel_rfl)
  · skip
    refine gc_seq ?_
    refine gc_reg ?_
    refine t 23 (.bool false) ?_
    refine gl_nil ?_
    refine ge_then ?_
    refine gc_seq ?_
    refine gc_no ?_
    refine gc_exit ?_
    refine ge_tx ?_
    refine ge_tx ?_
    refine ge_bx ?_
    refine ge_then ?_
    refine gc_seq ?_
    refine gc_seq ?_
    refine gc_reg ?_
    refine t 33 (pq g2 11) ?_
    refine tl 34 (.slice (some ⟨bf, 0, none⟩) 1 c') (XG.chg U.ta.cc nXG) 11 ?_
    refine t 35 (.int .i64 1) ?_
    refine t 36 (.int .i64 0) ?_
    refine gl_nil ?_
    refine ge_then ?_
    refine gc_block ?_
    refine gc_loop (fun s => 1 - s) (fun (s : Nat) => [(4, pg g), (34, .slice (some ⟨bf, 0, none⟩) 1 c'), (35, .int .i64 1), (36, .int .i64 (s : Int))]) (fun s w' => (s = 0 ∧ ∃ K' n' N', Ut w K B g [] w' K' e3 n' N' [] [] ∧ n' ≤ n + 1360 ∧ N' ≤ N + 1360) ∨ (s = 1 ∧ ∃ K' n' N', Ut w K B g [] w' K' e12 n' N' [] [] ∧ n' ≤ n + 7860 ∧ N' ≤ N + 7860)) 0 (.inl ⟨rfl, ⟨_, _, _, U, by omega, by omega⟩⟩) (by kernel_rfl) ?_
    clear U
    rintro i v26 (⟨rfl, ⟨K27, n28, N29, U, qn28, qN29⟩⟩ | ⟨rfl, ⟨K30, n31, N32, U, qn31, qN32⟩⟩)
    · skip
      refine gc_seq ?_
      refine gc_reg ?_
      refine t 37 (.bool true) ?_
      refine gl_nil ?_
      refine ge_then ?_
      refine gc_seq ?_
      refine gc_yes ?_
      refine gc_skip ?_
      refine ge_then ?_
      refine gc_seq ?_
      refine gc_block ?_
      refine gc_seq ?_
      refine gc_reg ?_
      refine t 38 (pg bf) ?_
      refine tlr 39 [.int .u64 16, .int .u64 500, .int .u64 10] (XF.chg U.ta.cc nXF) 0 ?_
      refine ta 8 [.int .u64 0, .int .u64 0, .int .u64 0] 45 (pg) ?_
      intro v33 g34 Xg34 hg34 B
      replace U := U.new Xg34 hg34 B
      clear Xg34 hg34 B
      refine ts (U.bk 0 rfl) 0 (.agg #[.int .u64 16, .int .u64 500, .int .u64 10]) [.int .u64 16, .int .u64 500, .int .u64 10] [.int .u64 16, .int .u64 500, .int .u64 10] ?_
      intro v35 Y C
      replace U := U.put 0 rfl C Y (by decide)
      clear Y C
      refine gl_nil ?_
      refine ge_then ?_
      refine gc_seq ?_
      refine gc_reg ?_
      refine t 41 (pg g) ?_
      refine t 42 (pg g34) ?_
      refine tl 43 (.int .u64 16) (U.bk 0 rfl) 0 ?_
      refine t 44 (pq g34 1) ?_
      refine tl 45 (.int .u64 500) (U.bk 0 rfl) 1 ?_
      refine t 46 (pq g34 2) ?_
      refine tl 47 (.int .u64 10) (U.bk 0 rfl) 2 ?_
      refine tc 48 68 #[pg g, .int .u64 16, .int .u64 500, .int .u64 10] (create_l U.ta.sx  (by omega) (by omega)) ?_
      rintro _ v40 ⟨aq36, nq36, cq36, zq36, K37, n38, N39, rfl, S, qn38, qN39, hK, hC, Q0, mq36, h0⟩
      refine ⟨_, rfl, ?_⟩
      have fq36 := ne3 h0 U.ta.size
      have L := U.lt
      replace U := (U.op S hK hC).add L Q0 h0
      clear L S hK hC Q0 h0
      refine t 40 (.tuple #[.agg #[.slice aq36 nq36 cq36], .int .i64 0]) ?_
      refine t 49 (.agg #[.slice aq36 nq36 cq36]) ?_
      refine t 50 (.int .i64 0) ?_
      refine ta 9 [.slice none 0 0] 55 (pg) ?_
      intro v41 g42 Xg42 hg42 B
      replace U := U.new Xg42 hg42 B
      clear Xg42 hg42 B
      refine ts (U.bk 0 rfl) 0 (.agg #[.slice aq36 nq36 cq36]) [.slice aq36 nq36 cq36] [.slice aq36 nq36 cq36] ?_
      intro v43 Y C
      replace U := U.put 0 rfl C Y (by decide)
      clear Y C
      refine t 10 (.int .i64 0) ?_
      refine gl_nil ?_
      refine ge_then ?_
      refine gc_fr [(4, pg g), (8, pg g34), (9, pg g42), (10, .int .i64 0), (34, .slice (some ⟨bf, 0, none⟩) 1 c'), (35, .int .i64 1), (36, .int .i64 0), (37, .bool true), (38, pg bf), (39, .agg #[.int .u64 16, .int .u64 500, .int .u64 10]), (40, .tuple #[.agg #[.slice aq36 nq36 cq36], .int .i64 0]), (41, pg g), (42, pg g34), (43, .int .u64 16), (44, pq g34 1), (45, .int .u64 500), (46, pq g34 2), (47, .int .u64 10), (48, .tuple #[.agg #[.slice aq36 nq36 cq36], .int .i64 0]), (49, .agg #[.slice aq36 nq36 cq36]), (50, .int .i64 0)] (by kernel_rfl) ?_
      refine gc_seq ?_
      refine gc_reg ?_
      refine t 51 (.int .i64 0) ?_
      refine t 52 (.bool false) ?_
      refine gl_nil ?_
      refine ge_then ?_
      refine gc_no ?_
      refine gc_skip ?_
      refine ge_bn ?_
      refine ge_then ?_
      refine gc_reg ?_
      refine t 53 (.int .i64 1) ?_
      refine t 36 (.int .i64 1) ?_
      refine gl_nil ?_
      replace U := U.sel [] []
      exact ge_round (1 : Nat) (by decide) (.inr ⟨rfl, ⟨_, _, _, U, by omega, by omega⟩⟩) (by kernel_rfl)
    · skip
      refine gc_seq ?_
      refine gc_reg ?_
      refine t 37 (.bool false) ?_
      refine gl_nil ?_
      refine ge_then ?_
      refine gc_seq ?_
      refine gc_no ?_
      refine gc_exit ?_
      refine ge_tx ?_
      refine ge_tx ?_
      refine ge_bx ?_
      refine ge_then ?_
      refine gc_seq ?_
      refine gc_reg ?_
      refine t 54 (pg g) ?_
      refine tc 55 69 #[pg g] (elect_l U.ta.sx (by omega) (by omega)) ?_
      rintro _ v48 ⟨el47, K44, n45, N46, rfl, S, qn45, qN46, hK, hC⟩
      refine ⟨_, rfl, ?_⟩
      replace U := U.op S hK hC
      clear S hK hC
      refine gl_nil ?_
      refine ge_then ?_
      refine gc_seq ?_
      refine gc_reg ?_
      refine t 56 (pg g) ?_
      refine t 2 (pg g) ?_
      refine t 3 (.int .i64 0) ?_
      refine gl_nil ?_
      refine ge_then ?_
      refine gc_ret ?_
      refine ge_ret (.tuple #[pg g, .int .i64 0]) (rs2 2 3 (by kernel_rfl) (by kernel_rfl) (by kernel_rfl)) ?_
      exact ⟨g, _, _, _, B, rfl, U.ta.sx, by omega, by omega, by omega, BB.trans (U.ta.cc.below (fun b k => by have := kK b k; omega) BB.size)⟩
theorem begin_n {w0 : World} {ba bf c c' : Nat} (XA : Blk w0 ba [.int .u64 16, .int .u64 100] 43) (XF : Blk w0 bf [.int .u64 17, .int .u64 500, .int .u64 10] 45) : Calls Tryz.prog 38 #[.agg #[.int .u64 1, .int .u64 1, .int .u64 1, .int .u64 0, .int .u64 0, .int .u64 0, .int .u64 0, .int .u64 0, .int .u64 0, .int .u64 16, .slice (some ⟨ba, 0, none⟩) 1 c, .slice (some ⟨bf, 0, none⟩) 1 c']] w0 fun e w' => e = .returned (.tuple #[.pointer none, .int .i64 215]) ∧ Below w0.heap.size w0 w' := by
  have BB := Below.refl w0.heap.size w0
  refine gc_enter (n := 57) Tryz.func38 rfl (by kernel_rfl) (by kernel_rfl) ?_
  refine gc_seq ?_
  refine gc_reg ?_
  refine ta 1 [.int .u64 1, .int .u64 1, .int .u64 1, .int .u64 0, .int .u64 0, .int .u64 0, .int .u64 0, .int .u64 0, .int .u64 0, .int .u64 16, .slice (some ⟨ba, 0, none⟩) 1 c, .slice (some ⟨bf, 0, none⟩) 1 c'] 28 (pg) ?_
  intro v1 g2 XG hg2 B
  replace XA := XA.keep B
  replace XF := XF.keep B
  replace BB := joinB BB B
  clear B
  refine t 2 (.pointer none) ?_
  refine t 3 (.int .i64 0) ?_
  refine gl_nil ?_
  refine ge_then ?_
  refine gc_seq ?_
  refine gc_reg ?_
  obtain ⟨B, hB⟩ : ∃ B, B = v1.heap.size := ⟨_, rfl⟩
  refine tc 11 64 #[] (snewG B hB) ?_
  rintro _ w ⟨g, K, rfl, S, kK, B2⟩
  refine ⟨_, rfl, ?_⟩
  have nXA : ¬ K ba := fun k => by
    have := kK _ k
    have := XA.lt
    omega
  replace XA := XA.keep B2
  have nXF : ¬ K bf := fun k => by
    have := kK _ k
    have := XF.lt
    omega
  replace XF := XF.keep B2
  have nXG : ¬ K g2 := fun k => by
    have := kK _ k
    have := XG.lt
    omega
  replace XG := XG.keep B2
  have zB := BB.size
  replace BB := joinB BB B2
  clear B2
  obtain ⟨n, n0⟩ : ∃ n : Nat, n = 0 := ⟨_, rfl⟩
  obtain ⟨N, N0⟩ : ∃ N : Nat, N = 0 := ⟨_, rfl⟩
  replace S : Sx B w K g [] [] n N := by
    rw [n0, N0]
    exact S
  have U := ut_of S
  refine t 4 (pg g) ?_
  refine gl_nil ?_
  refine ge_then ?_
  refine gc_seq ?_
  refine gc_reg ?_
  refine t 12 (pg g) ?_
  refine t 13 (pg g2) ?_
  refine tlr 14 [.int .u64 1, .int .u64 1, .int .u64 1, .int .u64 0, .int .u64 0, .int .u64 0, .int .u64 0, .int .u64 0, .int .u64 0, .int .u64 16] (XG.chg U.ta.cc nXG) 0 ?_
  refine tc 15 65 #[pg g, .agg #[.int .u64 1, .int .u64 1, .int .u64 1, .int .u64 0, .int .u64 0, .int .u64 0, .int .u64 0, .int .u64 0, .int .u64 0, .int .u64 16]] (setParams_l U.ta.sx (by omega) (by omega)) ?_
  rintro _ v6 ⟨K3, n4, N5, rfl, S, qn4, qN5, hK, hC⟩
  refine ⟨_, rfl, ?_⟩
  replace U := U.op S hK hC
  clear S hK hC
  refine gl_nil ?_
  refine ge_then ?_
  refine gc_seq ?_
  refine gc_reg ?_
  refine t 16 (pg g) ?_
  refine t 17 (.agg #[.int .u64 0, .int .u64 1]) ?_
  refine tc 18 66 #[pg g, .agg #[.int .u64 0, .int .u64 1]] (setChain_l U.ta.sx (by omega) (by omega)) ?_
  rintro _ v10 ⟨K7, n8, N9, rfl, S, qn8, qN9, hK, hC⟩
  refine ⟨_, rfl, ?_⟩
  replace U := U.op S hK hC
  clear S hK hC
  refine gl_nil ?_
  refine ge_then ?_
  refine gc_fr [(1, pg g2), (2, .pointer none), (3, .int .i64 0), (4, pg g)] (by kernel_rfl) ?_
  refine gc_seq ?_
  refine gc_seq ?_
  refine gc_reg ?_
  refine t 19 (pq g2 10) ?_
  refine tl 20 (.slice (some ⟨ba, 0, none⟩) 1 c) (XG.chg U.ta.cc nXG) 10 ?_
  refine t 21 (.int .i64 1) ?_
  refine t 22 (.int .i64 0) ?_
  refine gl_nil ?_
  refine ge_then ?_
  refine gc_block ?_
  refine gc_loop (fun s => 1 - s) (fun (s : Nat) => [(1, pg g2), (4, pg g), (20, .slice (some ⟨ba, 0, none⟩) 1 c), (21, .int .i64 1), (22, .int .i64 (s : Int))]) (fun s w' => (s = 0 ∧ ∃ K' n' N', Ut w K B g [] w' K' e2 n' N' [] [] ∧ n' ≤ n + 950 ∧ N' ≤ N + 950) ∨ (s = 1 ∧ ∃ K' n' N', Ut w K B g [] w' K' e3 n' N' [] [] ∧ n' ≤ n + 1010 ∧ N' ≤ N + 1010)) 0 (.inl ⟨rfl, ⟨_, _, _, U, by omega, by omega⟩⟩) (by kernel_rfl) ?_
  clear U
  rintro i v11 (⟨rfl, ⟨K12, n13, N14, U, qn13, qN14⟩⟩ | ⟨rfl, ⟨K15, n16, N17, U, qn16, qN17⟩⟩)
  · skip
    refine gc_seq ?_
    refine gc_reg ?_
    refine t 23 (.bool true) ?_
    refine gl_nil ?_
    refine ge_then ?_
    refine gc_seq ?_
    refine gc_yes ?_
    refine gc_skip ?_
    refine ge_then ?_
    refine gc_seq ?_
    refine gc_block ?_
    refine gc_seq ?_
    refine gc_reg ?_
    refine t 24 (pg ba) ?_
    refine tlr 25 [.int .u64 16, .int .u64 100] (XA.chg U.ta.cc nXA) 0 ?_
    refine ta 6 [.int .u64 0, .int .u64 0] 43 (pg) ?_
    intro v18 g19 Xg19 hg19 B
    replace U := U.new Xg19 hg19 B
    clear Xg19 hg19 B
    refine ts (U.bk 0 rfl) 0 (.agg #[.int .u64 16, .int .u64 100]) [.int .u64 16, .int .u64 100] [.int .u64 16, .int .u64 100] ?_
    intro v20 Y C
    replace U := U.put 0 rfl C Y (by decide)
    clear Y C
    refine gl_nil ?_
    refine ge_then ?_
    refine gc_reg ?_
    refine t 26 (pg g) ?_
    refine t 27 (pg g19) ?_
    refine tl 28 (.int .u64 16) (U.bk 0 rfl) 0 ?_
    refine t 29 (pq g19 1) ?_
    refine tl 30 (.int .u64 100) (U.bk 0 rfl) 1 ?_
    refine tc 31 67 #[pg g, .int .u64 16, .int .u64 100] (mv_lit (mint_any U.ta.sx ⟨by decide, by decide⟩ ⟨by decide, by decide⟩ (by omega) (by omega)) (show mintE e2 16 100 = e3 from rfl) (show mintR e2 16 100 = 0 by decide +kernel)) ?_
    rintro _ v25 ⟨rfl, K21, n22, N23, S, qn22, qN23, hK, hC⟩
    refine ⟨_, rfl, ?_⟩
    replace U := U.op S hK hC
    clear S hK hC
    refine gl_nil ?_
    refine ge_bn ?_
    refine ge_then ?_
    refine gc_reg ?_
    refine t 32 (.int .i64 1) ?_
    refine t 22 (.int .i64 1) ?_
    refine gl_nil ?_
    replace U := U.sel [] []
    exact ge_round (1 : Nat) (by decide) (.inr ⟨rfl, ⟨_, _, _, U, by omega, by omega⟩⟩) (by kernel_rfl)
  · skip
    refine gc_seq ?_
    refine gc_reg ?_
    refine t 23 (.bool false) ?_
    refine gl_nil ?_
    refine ge_then ?_
    refine gc_seq ?_
    refine gc_no ?_
    refine gc_exit ?_
    refine ge_tx ?_
    refine ge_tx ?_
    refine ge_bx ?_
    refine ge_then ?_
    refine gc_seq ?_
    refine gc_seq ?_
    refine gc_reg ?_
    refine t 33 (pq g2 11) ?_
    refine tl 34 (.slice (some ⟨bf, 0, none⟩) 1 c') (XG.chg U.ta.cc nXG) 11 ?_
    refine t 35 (.int .i64 1) ?_
    refine t 36 (.int .i64 0) ?_
    refine gl_nil ?_
    refine ge_then ?_
    refine gc_block ?_
    refine gc_loop (fun s => 1 - s) (fun (s : Nat) => [(4, pg g), (34, .slice (some ⟨bf, 0, none⟩) 1 c'), (35, .int .i64 1), (36, .int .i64 (s : Int))]) (fun s w' => s = 0 ∧ ∃ K' n' N', Ut w K B g [] w' K' e3 n' N' [] [] ∧ n' ≤ n + 1360 ∧ N' ≤ N + 1360) 0 ⟨rfl, ⟨_, _, _, U, by omega, by omega⟩⟩ (by kernel_rfl) ?_
    clear U
    rintro i v26 ⟨rfl, ⟨K27, n28, N29, U, qn28, qN29⟩⟩
    refine gc_seq ?_
    refine gc_reg ?_
    refine t 37 (.bool true) ?_
    refine gl_nil ?_
    refine ge_then ?_
    refine gc_seq ?_
    refine gc_yes ?_
    refine gc_skip ?_
    refine ge_then ?_
    refine gc_seq ?_
    refine gc_block ?_
    refine gc_seq ?_
    refine gc_reg ?_
    refine t 38 (pg bf) ?_
    refine tlr 39 [.int .u64 17, .int .u64 500, .int .u64 10] (XF.chg U.ta.cc nXF) 0 ?_
    refine ta 8 [.int .u64 0, .int .u64 0, .int .u64 0] 45 (pg) ?_
    intro v30 g31 Xg31 hg31 B
    replace U := U.new Xg31 hg31 B
    clear Xg31 hg31 B
    refine ts (U.bk 0 rfl) 0 (.agg #[.int .u64 17, .int .u64 500, .int .u64 10]) [.int .u64 17, .int .u64 500, .int .u64 10] [.int .u64 17, .int .u64 500, .int .u64 10] ?_
    intro v32 Y C
    replace U := U.put 0 rfl C Y (by decide)
    clear Y C
    refine gl_nil ?_
    refine ge_then ?_
    refine gc_seq ?_
    refine gc_reg ?_
    refine t 41 (pg g) ?_
    refine t 42 (pg g31) ?_
    refine tl 43 (.int .u64 17) (U.bk 0 rfl) 0 ?_
    refine t 44 (pq g31 1) ?_
    refine tl 45 (.int .u64 500) (U.bk 0 rfl) 1 ?_
    refine t 46 (pq g31 2) ?_
    refine tl 47 (.int .u64 10) (U.bk 0 rfl) 2 ?_
    refine tc 48 68 #[pg g, .int .u64 17, .int .u64 500, .int .u64 10] (create_n U.ta.sx  (by omega) (by omega)) ?_
    rintro _ v36 ⟨K33, n34, N35, rfl, S, qn34, qN35, hK, hC⟩
    refine ⟨_, rfl, ?_⟩
    have L := U.lt
    replace U := U.op S hK hC
    clear L S hK hC
    refine t 40 (.tuple #[.agg #[.slice none 0 0], .int .i64 90]) ?_
    refine t 49 (.agg #[.slice none 0 0]) ?_
    refine t 50 (.int .i64 90) ?_
    refine ta 9 [.slice none 0 0] 55 (pg) ?_
    intro v37 g38 Xg38 hg38 B
    replace U := U.new Xg38 hg38 B
    clear Xg38 hg38 B
    refine ts (U.bk 0 rfl) 0 (.agg #[.slice none 0 0]) [.slice none 0 0] [.slice none 0 0] ?_
    intro v39 Y C
    replace U := U.put 0 rfl C Y (by decide)
    clear Y C
    refine t 10 (.int .i64 90) ?_
    refine gl_nil ?_
    refine ge_then ?_
    refine gc_fr [(4, pg g), (8, pg g31), (9, pg g38), (10, .int .i64 90), (34, .slice (some ⟨bf, 0, none⟩) 1 c'), (35, .int .i64 1), (36, .int .i64 0), (37, .bool true), (38, pg bf), (39, .agg #[.int .u64 17, .int .u64 500, .int .u64 10]), (40, .tuple #[.agg #[.slice none 0 0], .int .i64 90]), (41, pg g), (42, pg g31), (43, .int .u64 17), (44, pq g31 1), (45, .int .u64 500), (46, pq g31 2), (47, .int .u64 10), (48, .tuple #[.agg #[.slice none 0 0], .int .i64 90]), (49, .agg #[.slice none 0 0]), (50, .int .i64 90)] (by kernel_rfl) ?_
    refine gc_seq ?_
    refine gc_reg ?_
    refine t 51 (.int .i64 90) ?_
    refine t 52 (.bool true) ?_
    refine gl_nil ?_
    refine ge_then ?_
    refine gc_yes ?_
    refine gc_seq ?_
    refine gc_reg ?_
    refine t 2 (.pointer none) ?_
    refine t 3 (.int .i64 215) ?_
    refine gl_nil ?_
    refine ge_then ?_
    refine gc_ret ?_
    refine ge_br ?_
    refine ge_tr ?_
    refine ge_tr ?_
    refine ge_br ?_
    refine ge_tr ?_
    refine ge_ret (.tuple #[.pointer none, .int .i64 215]) (rs2 2 3 (by kernel_rfl) (by kernel_rfl) (by kernel_rfl)) ?_
    exact ⟨rfl, BB.trans (U.ta.cc.below (fun b k => by have := kK b k; omega) BB.size)⟩
end Fo
end Go.Proofs.YtpoifdokmjhclaaGreat
