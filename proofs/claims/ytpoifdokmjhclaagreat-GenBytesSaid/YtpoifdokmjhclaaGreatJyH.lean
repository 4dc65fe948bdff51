/- Several texts, joined: GnK. -/
import Derived.Test.YtpoifdokmjhclaaGreatJyG
import Derived.Test.YtpoifdokmjhclaaGreatJyp
namespace Go.Proofs.YtpoifdokmjhclaaGreat
namespace Fo
open Go.RowKit Go.Lib Pg Lim Gl Kv Bk Pw Sd Di
attribute [local go_sem] Oper.semAt_some
set_option maxRecDepth 100000
set_option linter.unusedVariables false
set_option linter.unusedSimpArgs false
set_option maxHeartbeats 4000000
theorem idOf_x {w : World} {a b : Int} : Calls Tryz.prog 58 #[.agg #[.int .u64 a, .int .u64 b]] w fun e w' => e = .returned (.int .u64 a) ∧ Below w.heap.size w w' := by
  have BB := Below.refl w.heap.size w
  refine gc_enter (n := 5) Tryz.func58 rfl (by kernel_rfl) (by kernel_rfl) ?_
  refine gc_seq ?_
  refine gc_reg ?_
  refine ta 1 [.int .u64 a, .int .u64 b] 43 (pg) ?_
  intro v1 g2 Xg2 hg2 B
  replace BB := joinB BB B
  clear B
  refine t 2 (.int .u64 0) ?_
  refine gl_nil ?_
  refine ge_then ?_
  refine gc_seq ?_
  refine gc_reg ?_
  refine t 3 (pg g2) ?_
  refine tl 4 (.int .u64 a) Xg2 0 ?_
  refine t 2 (.int .u64 a) ?_
  refine gl_nil ?_
  refine ge_then ?_
  refine gc_ret ?_
  refine ge_ret (.int .u64 a) (rs1 2 (by kernel_rfl) (by kernel_rfl)) ?_
  exact ⟨rfl, BB⟩
theorem opOf_x {w : World} {a b c : Int} : Calls Tryz.prog 63 #[.agg #[.int .u64 a, .int .u64 b, .int .u64 c]] w fun e w' => e = .returned (.int .u64 a) ∧ Below w.heap.size w w' := by
  have BB := Below.refl w.heap.size w
  refine gc_enter (n := 5) Tryz.func63 rfl (by kernel_rfl) (by kernel_rfl) ?_
  refine gc_seq ?_
  refine gc_reg ?_
  refine ta 1 [.int .u64 a, .int .u64 b, .int .u64 c] 45 (pg) ?_
  intro v1 g2 Xg2 hg2 B
  replace BB := joinB BB B
  clear B
  refine t 2 (.int .u64 0) ?_
  refine gl_nil ?_
  refine ge_then ?_
  refine gc_seq ?_
  refine gc_reg ?_
  refine t 3 (pg g2) ?_
  refine tl 4 (.int .u64 a) Xg2 0 ?_
  refine t 2 (.int .u64 a) ?_
  refine gl_nil ?_
  refine ge_then ?_
  refine gc_ret ?_
  refine ge_ret (.int .u64 a) (rs1 2 (by kernel_rfl) (by kernel_rfl)) ?_
  exact ⟨rfl, BB⟩
theorem isE_x {w : World}  : Calls Tryz.prog 60 #[.agg #[.int .u64 16, .int .u64 100]] w fun e w' => e = .returned (.bool false) ∧ Below w.heap.size w w' := by
  have BB := Below.refl w.heap.size w
  refine gc_enter (n := 6) Tryz.func60 rfl (by kernel_rfl) (by kernel_rfl) ?_
  refine gc_seq ?_
  refine gc_reg ?_
  refine ta 1 [.int .u64 16, .int .u64 100] 43 (pg) ?_
  intro v1 g2 Xg2 hg2 B
  replace BB := joinB BB B
  clear B
  refine t 2 (.bool false) ?_
  refine gl_nil ?_
  refine ge_then ?_
  refine gc_seq ?_
  refine gc_reg ?_
  refine t 3 (pq g2 1) ?_
  refine tl 4 (.int .u64 100) Xg2 1 ?_
  refine t 5 (.bool false) ?_
  refine t 2 (.bool false) ?_
  refine gl_nil ?_
  refine ge_then ?_
  refine gc_ret ?_
  refine ge_ret (.bool false) (rs1 2 (by kernel_rfl) (by kernel_rfl)) ?_
  exact ⟨rfl, BB⟩
theorem rise_p1 {w : World} {ba : Nat} {c : Nat} (XA : Blk w ba [.int .u64 16, .int .u64 100] 43) : Calls Tryz.prog 57 #[.slice (some ⟨ba, 0, none⟩) 1 c, .func (.func 58) #[] #[]] w fun e w' => e = .returned (.bool true) ∧ Below w.heap.size w w' := by
  have BB := Below.refl w.heap.size w
  refine gc_enter (n := 23) Tryz.func57 rfl (by kernel_rfl) (by kernel_rfl) ?_
  refine gc_seq ?_
  refine gc_reg ?_
  refine t 4 (.bool false) ?_
  refine gl_nil ?_
  refine ge_then ?_
  refine gc_seq ?_
  refine gc_reg ?_
  refine t 5 (.int .u64 15) ?_
  refine gl_nil ?_
  refine ge_then ?_
  refine gc_seq ?_
  refine gc_seq ?_
  refine gc_reg ?_
  refine t 8 (.slice (some ⟨ba, 0, none⟩) 1 c) ?_
  refine t 9 (.int .i64 1) ?_
  refine t 10 (.int .i64 0) ?_
  refine gl_nil ?_
  refine ge_then ?_
  refine gc_block ?_
  refine gc_loop (fun (s : Int × Int) => 1 - (s.2).toNat) (fun s => [(1, .func (.func 58) #[] #[]), (5, .int .u64 s.1), (8, .slice (some ⟨ba, 0, none⟩) 1 c), (9, .int .i64 1), (10, .int .i64 s.2)]) (fun s w' => (s = (15, 0) ∧ Below w.heap.size w w' ∧ Blk w' ba [.int .u64 16, .int .u64 100] 43) ∨ (s = (16, 1) ∧ Below w.heap.size w w' ∧ Blk w' ba [.int .u64 16, .int .u64 100] 43)) (15, 0) (.inl ⟨rfl, BB, XA⟩) (by kernel_rfl) ?_
  clear BB XA
  rintro s v1 (⟨rfl, BB, XA⟩ | ⟨rfl, BB, XA⟩)
  · have zB := BB.size
    refine gc_seq ?_
    refine gc_reg ?_
    refine t 11 (.bool true) ?_
    refine gl_nil ?_
    refine ge_then ?_
    refine gc_seq ?_
    refine gc_yes ?_
    refine gc_skip ?_
    refine ge_then ?_
    refine gc_seq ?_
    refine gc_block ?_
    refine gc_seq ?_
    refine gc_reg ?_
    refine t 12 (pg ba) ?_
    refine tlr 13 [.int .u64 16, .int .u64 100] XA 0 ?_
    have lXA := XA.lt
    refine ta 7 [.int .u64 0, .int .u64 0] 43 (pg) ?_
    intro v2 g3 Xg3 hg3 B
    replace BB := joinB BB B
    replace XA := XA.keep B
    clear B
    refine ts Xg3 0 (.agg #[.int .u64 16, .int .u64 100]) [.int .u64 16, .int .u64 100] [.int .u64 16, .int .u64 100] ?_
    intro v4 Y C
    replace BB := belowC BB C (by omega)
    replace XA := XA.chg C (show ba ≠ g3 by omega)
    clear C Xg3
    have Xg3 := Y
    clear Y
    refine gl_nil ?_
    refine ge_then ?_
    refine gc_seq ?_
    refine gc_seq ?_
    refine gc_reg ?_
    refine t 14 (.func (.func 58) #[] #[]) ?_
    refine tlr 15 [.int .u64 16, .int .u64 100] Xg3 0 ?_
    refine tc 16 58 #[.agg #[.int .u64 16, .int .u64 100]] (idOf_x) ?_
    rintro _ v5 ⟨rfl, B⟩
    refine ⟨_, rfl, ?_⟩
    replace BB := joinB BB B
    replace XA := XA.keep B
    replace Xg3 := Xg3.keep B
    clear B
    refine t 17 (.int .u64 15) ?_
    refine t 18 (.bool false) ?_
    refine gl_nil ?_
    refine ge_then ?_
    refine gc_no ?_
    refine gc_skip ?_
    refine ge_then ?_
    refine gc_reg ?_
    refine t 19 (.func (.func 58) #[] #[]) ?_
    refine tlr 20 [.int .u64 16, .int .u64 100] Xg3 0 ?_
    refine tc 21 58 #[.agg #[.int .u64 16, .int .u64 100]] (idOf_x) ?_
    rintro _ v6 ⟨rfl, B⟩
    refine ⟨_, rfl, ?_⟩
    replace BB := joinB BB B
    replace XA := XA.keep B
    replace Xg3 := Xg3.keep B
    clear B
    refine t 5 (.int .u64 16) ?_
    refine gl_nil ?_
    refine ge_bn ?_
    refine ge_then ?_
    refine gc_fr [(1, .func (.func 58) #[] #[]), (5, .int .u64 16), (7, pg g3), (8, .slice (some ⟨ba, 0, none⟩) 1 c), (9, .int .i64 1), (10, .int .i64 0), (11, .bool true), (12, pg ba), (13, .agg #[.int .u64 16, .int .u64 100]), (14, .func (.func 58) #[] #[]), (15, .agg #[.int .u64 16, .int .u64 100]), (16, .int .u64 16), (17, .int .u64 15), (18, .bool false), (19, .func (.func 58) #[] #[]), (20, .agg #[.int .u64 16, .int .u64 100]), (21, .int .u64 16)] (by kernel_rfl) ?_
    refine gc_reg ?_
    refine t 22 (.int .i64 1) ?_
    refine t 10 (.int .i64 1) ?_
    refine gl_nil ?_
    exact ge_round (16, 1) (by decide) (.inr ⟨rfl, BB, XA⟩) (by kernel_rfl)
  · have zB := BB.size
    refine gc_seq ?_
    refine gc_reg ?_
    refine t 11 (.bool false) ?_
    refine gl_nil ?_
    refine ge_then ?_
    refine gc_seq ?_
    refine gc_no ?_
    refine gc_exit ?_
    refine ge_tx ?_
    refine ge_tx ?_
    refine ge_bx ?_
    refine ge_then ?_
    refine gc_seq ?_
    refine gc_reg ?_
    refine t 4 (.bool true) ?_
    refine gl_nil ?_
    refine ge_then ?_
    refine gc_ret ?_
    refine ge_ret (.bool true) (rs1 4 (by kernel_rfl) (by kernel_rfl)) ?_
    exact ⟨rfl, BB⟩
theorem rise_p2 {w : World} {ba : Nat} {c : Nat} (XA : Blk w ba [.int .u64 16, .int .u64 100, .int .u64 16, .int .u64 100] 43) : Calls Tryz.prog 57 #[.slice (some ⟨ba, 0, none⟩) 2 c, .func (.func 58) #[] #[]] w fun e w' => e = .returned (.bool false) ∧ Below w.heap.size w w' := by
  have BB := Below.refl w.heap.size w
  refine gc_enter (n := 23) Tryz.func57 rfl (by kernel_rfl) (by kernel_rfl) ?_
  refine gc_seq ?_
  refine gc_reg ?_
  refine t 4 (.bool false) ?_
  refine gl_nil ?_
  refine ge_then ?_
  refine gc_seq ?_
  refine gc_reg ?_
  refine t 5 (.int .u64 15) ?_
  refine gl_nil ?_
  refine ge_then ?_
  refine gc_seq ?_
  refine gc_seq ?_
  refine gc_reg ?_
  refine t 8 (.slice (some ⟨ba, 0, none⟩) 2 c) ?_
  refine t 9 (.int .i64 2) ?_
  refine t 10 (.int .i64 0) ?_
  refine gl_nil ?_
  refine ge_then ?_
  refine gc_block ?_
  refine gc_loop (fun (s : Int × Int) => 1 - (s.2).toNat) (fun s => [(1, .func (.func 58) #[] #[]), (5, .int .u64 s.1), (8, .slice (some ⟨ba, 0, none⟩) 2 c), (9, .int .i64 2), (10, .int .i64 s.2)]) (fun s w' => (s = (15, 0) ∧ Below w.heap.size w w' ∧ Blk w' ba [.int .u64 16, .int .u64 100, .int .u64 16, .int .u64 100] 43) ∨ (s = (16, 1) ∧ Below w.heap.size w w' ∧ Blk w' ba [.int .u64 16, .int .u64 100, .int .u64 16, .int .u64 100] 43)) (15, 0) (.inl ⟨rfl, BB, XA⟩) (by kernel_rfl) ?_
  clear BB XA
  rintro s v1 (⟨rfl, BB, XA⟩ | ⟨rfl, BB, XA⟩)
  · have zB := BB.size
    refine gc_seq ?_
    refine gc_reg ?_
    refine t 11 (.bool true) ?_
    refine gl_nil ?_
    refine ge_then ?_
    refine gc_seq ?_
    refine gc_yes ?_
    refine gc_skip ?_
    refine ge_then ?_
    refine gc_seq ?_
    refine gc_block ?_
    refine gc_seq ?_
    refine gc_reg ?_
    refine t 12 (pg ba) ?_
    refine tlr 13 [.int .u64 16, .int .u64 100] XA 0 ?_
    have lXA := XA.lt
    refine ta 7 [.int .u64 0, .int .u64 0] 43 (pg) ?_
    intro v2 g3 Xg3 hg3 B
    replace BB := joinB BB B
    replace XA := XA.keep B
    clear B
    refine ts Xg3 0 (.agg #[.int .u64 16, .int .u64 100]) [.int .u64 16, .int .u64 100] [.int .u64 16, .int .u64 100] ?_
    intro v4 Y C
    replace BB := belowC BB C (by omega)
    replace XA := XA.chg C (show ba ≠ g3 by omega)
    clear C Xg3
    have Xg3 := Y
    clear Y
    refine gl_nil ?_
    refine ge_then ?_
    refine gc_seq ?_
    refine gc_seq ?_
    refine gc_reg ?_
    refine t 14 (.func (.func 58) #[] #[]) ?_
    refine tlr 15 [.int .u64 16, .int .u64 100] Xg3 0 ?_
    refine tc 16 58 #[.agg #[.int .u64 16, .int .u64 100]] (idOf_x) ?_
    rintro _ v5 ⟨rfl, B⟩
    refine ⟨_, rfl, ?_⟩
    replace BB := joinB BB B
    replace XA := XA.keep B
    replace Xg3 := Xg3.keep B
    clear B
    refine t 17 (.int .u64 15) ?_
    refine t 18 (.bool false) ?_
    refine gl_nil ?_
    refine ge_then ?_
    refine gc_no ?_
    refine gc_skip ?_
    refine ge_then ?_
    refine gc_reg ?_
    refine t 19 (.func (.func 58) #[] #[]) ?_
    refine tlr 20 [.int .u64 16, .int .u64 100] Xg3 0 ?_
    refine tc 21 58 #[.agg #[.int .u64 16, .int .u64 100]] (idOf_x) ?_
    rintro _ v6 ⟨rfl, B⟩
    refine ⟨_, rfl, ?_⟩
    replace BB := joinB BB B
    replace XA := XA.keep B
    replace Xg3 := Xg3.keep B
    clear B
    refine t 5 (.int .u64 16) ?_
    refine gl_nil ?_
    refine ge_bn ?_
    refine ge_then ?_
    refine gc_fr [(1, .func (.func 58) #[] #[]), (5, .int .u64 16), (7, pg g3), (8, .slice (some ⟨ba, 0, none⟩) 2 c), (9, .int .i64 2), (10, .int .i64 0), (11, .bool true), (12, pg ba), (13, .agg #[.int .u64 16, .int .u64 100]), (14, .func (.func 58) #[] #[]), (15, .agg #[.int .u64 16, .int .u64 100]), (16, .int .u64 16), (17, .int .u64 15), (18, .bool false), (19, .func (.func 58) #[] #[]), (20, .agg #[.int .u64 16, .int .u64 100]), (21, .int .u64 16)] (by kernel_rfl) ?_
    refine gc_reg ?_
    refine t 22 (.int .i64 1) ?_
    refine t 10 (.int .i64 1) ?_
    refine gl_nil ?_
    exact ge_round (16, 1) (by decide) (.inr ⟨rfl, BB, XA⟩) (by kernel_rfl)
  · have zB := BB.size
    refine gc_seq ?_
    refine gc_reg ?_
    refine t 11 (.bool true) ?_
    refine gl_nil ?_
    refine ge_then ?_
    refine gc_seq ?_
    refine gc_yes ?_
    refine gc_skip ?_
    refine ge_then ?_
    refine gc_seq ?_
    refine gc_block ?_
    refine gc_seq ?_
    refine gc_reg ?_
    refine t 12 (pq ba 2) ?_
    refine tlr 13 [.int .u64 16, .int .u64 100] XA 2 ?_
    have lXA := XA.lt
    refine ta 7 [.int .u64 0, .int .u64 0] 43 (pg) ?_
    intro v7 g8 Xg8 hg8 B
    replace BB := joinB BB B
    replace XA := XA.keep B
    clear B
    refine ts Xg8 0 (.agg #[.int .u64 16, .int .u64 100]) [.int .u64 16, .int .u64 100] [.int .u64 16, .int .u64 100] ?_
    intro v9 Y C
    replace BB := belowC BB C (by omega)
    replace XA := XA.chg C (show ba ≠ g8 by omega)
    clear C Xg8
    have Xg8 := Y
    clear Y
    refine gl_nil ?_
    refine ge_then ?_
    refine gc_seq ?_
    refine gc_seq ?_
    refine gc_reg ?_
    refine t 14 (.func (.func 58) #[] #[]) ?_
    refine tlr 15 [.int .u64 16, .int .u64 100] Xg8 0 ?_
    refine tc 16 58 #[.agg #[.int .u64 16, .int .u64 100]] (idOf_x) ?_
    rintro _ v10 ⟨rfl, B⟩
    refine ⟨_, rfl, ?_⟩
    replace BB := joinB BB B
    replace XA := XA.keep B
    replace Xg8 := Xg8.keep B
    clear B
    refine t 17 (.int .u64 16) ?_
    refine t 18 (.bool true) ?_
    refine gl_nil ?_
    refine ge_then ?_
    refine gc_yes ?_
    refine gc_seq ?_
    refine gc_reg ?_
    refine t 4 (.bool false) ?_
    refine gl_nil ?_
    refine ge_then ?_
    refine gc_ret ?_
    refine ge_tr ?_
    refine ge_br ?_
    refine ge_tr ?_
    refine ge_tr ?_
    refine ge_br ?_
    refine ge_tr ?_
    refine ge_ret (.bool false) (rs1 4 (by kernel_rfl) (by kernel_rfl)) ?_
    exact ⟨rfl, BB⟩
theorem rise_f16 {w : World} {bf : Nat} {c : Nat} (XF : Blk w bf [.int .u64 16, .int .u64 500, .int .u64 10] 45) : Calls Tryz.prog 62 #[.slice (some ⟨bf, 0, none⟩) 1 c, .func (.func 63) #[] #[]] w fun e w' => e = .returned (.bool true) ∧ Below w.heap.size w w' := by
  have BB := Below.refl w.heap.size w
  refine gc_enter (n := 23) Tryz.func62 rfl (by kernel_rfl) (by kernel_rfl) ?_
  refine gc_seq ?_
  refine gc_reg ?_
  refine t 4 (.bool false) ?_
  refine gl_nil ?_
  refine ge_then ?_
  refine gc_seq ?_
  refine gc_reg ?_
  refine t 5 (.int .u64 15) ?_
  refine gl_nil ?_
  refine ge_then ?_
  refine gc_seq ?_
  refine gc_seq ?_
  refine gc_reg ?_
  refine t 8 (.slice (some ⟨bf, 0, none⟩) 1 c) ?_
  refine t 9 (.int .i64 1) ?_
  refine t 10 (.int .i64 0) ?_
  refine gl_nil ?_
  refine ge_then ?_
  refine gc_block ?_
  refine gc_loop (fun (s : Int × Int) => 1 - (s.2).toNat) (fun s => [(1, .func (.func 63) #[] #[]), (5, .int .u64 s.1), (8, .slice (some ⟨bf, 0, none⟩) 1 c), (9, .int .i64 1), (10, .int .i64 s.2)]) (fun s w' => (s = (15, 0) ∧ Below w.heap.size w w' ∧ Blk w' bf [.int .u64 16, .int .u64 500, .int .u64 10] 45) ∨ (s = (16, 1) ∧ Below w.heap.size w w' ∧ Blk w' bf [.int .u64 16, .int .u64 500, .int .u64 10] 45)) (15, 0) (.inl ⟨rfl, BB, XF⟩) (by kernel_rfl) ?_
  clear BB XF
  rintro s v1 (⟨rfl, BB, XF⟩ | ⟨rfl, BB, XF⟩)
  · have zB := BB.size
    refine gc_seq ?_
    refine gc_reg ?_
    refine t 11 (.bool true) ?_
    refine gl_nil ?_
    refine ge_then ?_
    refine gc_seq ?_
    refine gc_yes ?_
    refine gc_skip ?_
    refine ge_then ?_
    refine gc_seq ?_
    refine gc_block ?_
    refine gc_seq ?_
    refine gc_reg ?_
    refine t 12 (pg bf) ?_
    refine tlr 13 [.int .u64 16, .int .u64 500, .int .u64 10] XF 0 ?_
    have lXF := XF.lt
    refine ta 7 [.int .u64 0, .int .u64 0, .int .u64 0] 45 (pg) ?_
    intro v2 g3 Xg3 hg3 B
    replace BB := joinB BB B
    replace XF := XF.keep B
    clear B
    refine ts Xg3 0 (.agg #[.int .u64 16, .int .u64 500, .int .u64 10]) [.int .u64 16, .int .u64 500, .int .u64 10] [.int .u64 16, .int .u64 500, .int .u64 10] ?_
    intro v4 Y C
    replace BB := belowC BB C (by omega)
    replace XF := XF.chg C (show bf ≠ g3 by omega)
    clear C Xg3
    have Xg3 := Y
    clear Y
    refine gl_nil ?_
    refine ge_then ?_
    refine gc_seq ?_
    refine gc_seq ?_
    refine gc_reg ?_
    refine t 14 (.func (.func 63) #[] #[]) ?_
    refine tlr 15 [.int .u64 16, .int .u64 500, .int .u64 10] Xg3 0 ?_
    refine tc 16 63 #[.agg #[.int .u64 16, .int .u64 500, .int .u64 10]] (opOf_x) ?_
    rintro _ v5 ⟨rfl, B⟩
    refine ⟨_, rfl, ?_⟩
    replace BB := joinB BB B
    replace XF := XF.keep B
    replace Xg3 := Xg3.keep B
    clear B
    refine t 17 (.int .u64 15) ?_
    refine t 18 (.bool false) ?_
    refine gl_nil ?_
    refine ge_then ?_
    refine gc_no ?_
    refine gc_skip ?_
    refine ge_then ?_
    refine gc_reg ?_
    refine t 19 (.func (.func 63) #[] #[]) ?_
    refine tlr 20 [.int .u64 16, .int .u64 500, .int .u64 10] Xg3 0 ?_
    refine tc 21 63 #[.agg #[.int .u64 16, .int .u64 500, .int .u64 10]] (opOf_x) ?_
    rintro _ v6 ⟨rfl, B⟩
    refine ⟨_, rfl, ?_⟩
    replace BB := joinB BB B
    replace XF := XF.keep B
    replace Xg3 := Xg3.keep B
    clear B
    refine t 5 (.int .u64 16) ?_
    refine gl_nil ?_
    refine ge_bn ?_
    refine ge_then ?_
    refine gc_fr [(1, .func (.func 63) #[] #[]), (5, .int .u64 16), (7, pg g3), (8, .slice (some ⟨bf, 0, none⟩) 1 c), (9, .int .i64 1), (10, .int .i64 0), (11, .bool true), (12, pg bf), (13, .agg #[.int .u64 16, .int .u64 500, .int .u64 10]), (14, .func (.func 63) #[] #[]), (15, .agg #[.int .u64 16, .int .u64 500, .int .u64 10]), (16, .int .u64 16), (17, .int .u64 15), (18, .bool false), (19, .func (.func 63) #[] #[]), (20, .agg #[.int .u64 16, .int .u64 500, .int .u64 10]), (21, .int .u64 16)] (by kernel_rfl) ?_
    refine gc_reg ?_
    refine t 22 (.int .i64 1) ?_
    refine t 10 (.int .i64 1) ?_
    refine gl_nil ?_
    exact ge_round (16, 1) (by decide) (.inr ⟨rfl, BB, XF⟩) (by kernel_rfl)
  · have zB := BB.size
    refine gc_seq ?_
    refine gc_reg ?_
    refine t 11 (.bool false) ?_
    refine gl_nil ?_
    refine ge_then ?_
    refine gc_seq ?_
    refine gc_no ?_
    refine gc_exit ?_
    refine ge_tx ?_
    refine ge_tx ?_
    refine ge_bx ?_
    refine ge_then ?_
    refine gc_seq ?_
    refine gc_reg ?_
    refine t 4 (.bool true) ?_
    refine gl_nil ?_
    refine ge_then ?_
    refine gc_ret ?_
    refine ge_ret (.bool true) (rs1 4 (by kernel_rfl) (by kernel_rfl)) ?_
    exact ⟨rfl, BB⟩
theorem rise_f17 {w : World} {bf : Nat} {c : Nat} (XF : Blk w bf [.int .u64 17, .int .u64 500, .int .u64 10] 45) : Calls Tryz.prog 62 #[.slice (some ⟨bf, 0, none⟩) 1 c, .func (.func 63) #[] #[]] w fun e w' => e = .returned (.bool true) ∧ Below w.heap.size w w' := by
  have BB := Below.refl w.heap.size w
  refine gc_enter (n := 23) Tryz.func62 rfl (by kernel_rfl) (by kernel_rfl) ?_
  refine gc_seq ?_
  refine gc_reg ?_
  refine t 4 (.bool false) ?_
  refine gl_nil ?_
  refine ge_then ?_
  refine gc_seq ?_
  refine gc_reg ?_
  refine t 5 (.int .u64 15) ?_
  refine gl_nil ?_
  refine ge_then ?_
  refine gc_seq ?_
  refine gc_seq ?_
  refine gc_reg ?_
  refine t 8 (.slice (some ⟨bf, 0, none⟩) 1 c) ?_
  refine t 9 (.int .i64 1) ?_
  refine t 10 (.int .i64 0) ?_
  refine gl_nil ?_
  refine ge_then ?_
  refine gc_block ?_
  refine gc_loop (fun (s : Int × Int) => 1 - (s.2).toNat) (fun s => [(1, .func (.func 63) #[] #[]), (5, .int .u64 s.1), (8, .slice (some ⟨bf, 0, none⟩) 1 c), (9, .int .i64 1), (10, .int .i64 s.2)]) (fun s w' => (s = (15, 0) ∧ Below w.heap.size w w' ∧ Blk w' bf [.int .u64 17, .int .u64 500, .int .u64 10] 45) ∨ (s = (17, 1) ∧ Below w.heap.size w w' ∧ Blk w' bf [.int .u64 17, .int .u64 500, .int .u64 10] 45)) (15, 0) (.inl ⟨rfl, BB, XF⟩) (by kernel_rfl) ?_
  clear BB XF
  rintro s v1 (⟨rfl, BB, XF⟩ | ⟨rfl, BB, XF⟩)
  · have zB := BB.size
    refine gc_seq ?_
    refine gc_reg ?_
    refine t 11 (.bool true) ?_
    refine gl_nil ?_
    refine ge_then ?_
    refine gc_seq ?_
    refine gc_yes ?_
    refine gc_skip ?_
    refine ge_then ?_
    refine gc_seq ?_
    refine gc_block ?_
    refine gc_seq ?_
    refine gc_reg ?_
    refine t 12 (pg bf) ?_
    refine tlr 13 [.int .u64 17, .int .u64 500, .int .u64 10] XF 0 ?_
    have lXF := XF.lt
    refine ta 7 [.int .u64 0, .int .u64 0, .int .u64 0] 45 (pg) ?_
    intro v2 g3 Xg3 hg3 B
    replace BB := joinB BB B
    replace XF := XF.keep B
    clear B
    refine ts Xg3 0 (.agg #[.int .u64 17, .int .u64 500, .int .u64 10]) [.int .u64 17, .int .u64 500, .int .u64 10] [.int .u64 17, .int .u64 500, .int .u64 10] ?_
    intro v4 Y C
    replace BB := belowC BB C (by omega)
    replace XF := XF.chg C (show bf ≠ g3 by omega)
    clear C Xg3
    have Xg3 := Y
    clear Y
    refine gl_nil ?_
    refine ge_then ?_
    refine gc_seq ?_
    refine gc_seq ?_
    refine gc_reg ?_
    refine t 14 (.func (.func 63) #[] #[]) ?_
    refine tlr 15 [.int .u64 17, .int .u64 500, .int .u64 10] Xg3 0 ?_
    refine tc 16 63 #[.agg #[.int .u64 17, .int .u64 500, .int .u64 10]] (opOf_x) ?_
    rintro _ v5 ⟨rfl, B⟩
    refine ⟨_, rfl, ?_⟩
    replace BB := joinB BB B
    replace XF := XF.keep B
    replace Xg3 := Xg3.keep B
    clear B
    refine t 17 (.int .u64 15) ?_
    refine t 18 (.bool false) ?_
    refine gl_nil ?_
    refine ge_then ?_
    refine gc_no ?_
    refine gc_skip ?_
    refine ge_then ?_
    refine gc_reg ?_
    refine t 19 (.func (.func 63) #[] #[]) ?_
    refine tlr 20 [.int .u64 17, .int .u64 500, .int .u64 10] Xg3 0 ?_
    refine tc 21 63 #[.agg #[.int .u64 17, .int .u64 500, .int .u64 10]] (opOf_x) ?_
    rintro _ v6 ⟨rfl, B⟩
    refine ⟨_, rfl, ?_⟩
    replace BB := joinB BB B
    replace XF := XF.keep B
    replace Xg3 := Xg3.keep B
    clear B
    refine t 5 (.int .u64 17) ?_
    refine gl_nil ?_
    refine ge_bn ?_
    refine ge_then ?_
    refine gc_fr [(1, .func (.func 63) #[] #[]), (5, .int .u64 17), (7, pg g3), (8, .slice (some ⟨bf, 0, none⟩) 1 c), (9, .int .i64 1), (10, .int .i64 0), (11, .bool true), (12, pg bf), (13, .agg #[.int .u64 17, .int .u64 500, .int .u64 10]), (14, .func (.func 63) #[] #[]), (15, .agg #[.int .u64 17, .int .u64 500, .int .u64 10]), (16, .int .u64 17), (17, .int .u64 15), (18, .bool false), (19, .func (.func 63) #[] #[]), (20, .agg #[.int .u64 17, .int .u64 500, .int .u64 10]), (21, .int .u64 17)] (by kernel_rfl) ?_
    refine gc_reg ?_
    refine t 22 (.int .i64 1) ?_
    refine t 10 (.int .i64 1) ?_
    refine gl_nil ?_
    exact ge_round (17, 1) (by decide) (.inr ⟨rfl, BB, XF⟩) (by kernel_rfl)
  · have zB := BB.size
    refine gc_seq ?_
    refine gc_reg ?_
    refine t 11 (.bool false) ?_
    refine gl_nil ?_
    refine ge_then ?_
    refine gc_seq ?_
    refine gc_no ?_
    refine gc_exit ?_
    refine ge_tx ?_
    refine ge_tx ?_
    refine ge_bx ?_
    refine ge_then ?_
    refine gc_seq ?_
    refine gc_reg ?_
    refine t 4 (.bool true) ?_
    refine gl_nil ?_
    refine ge_then ?_
    refine gc_ret ?_
    refine ge_ret (.bool true) (rs1 4 (by kernel_rfl) (by kernel_rfl)) ?_
    exact ⟨rfl, BB⟩
theorem fit_p1 {w : World} {ba : Nat} {c : Nat} (XA : Blk w ba [.int .u64 16, .int .u64 100] 43) : Calls Tryz.prog 61 #[.slice (some ⟨ba, 0, none⟩) 1 c] w fun e w' => e = .returned (.bool true) ∧ Below w.heap.size w w' := by
  have BB := Below.refl w.heap.size w
  refine gc_enter (n := 21) Tryz.func61 rfl (by kernel_rfl) (by kernel_rfl) ?_
  refine gc_seq ?_
  refine gc_reg ?_
  refine t 2 (.bool false) ?_
  refine gl_nil ?_
  refine ge_then ?_
  refine gc_seq ?_
  refine gc_reg ?_
  refine t 3 (.int .u64 1000000000000000000) ?_
  refine gl_nil ?_
  refine ge_then ?_
  refine gc_seq ?_
  refine gc_seq ?_
  refine gc_reg ?_
  refine t 6 (.slice (some ⟨ba, 0, none⟩) 1 c) ?_
  refine t 7 (.int .i64 1) ?_
  refine t 8 (.int .i64 0) ?_
  refine gl_nil ?_
  refine ge_then ?_
  refine gc_block ?_
  refine gc_loop (fun (s : Int × Int) => 1 - (s.2).toNat) (fun s => [(3, .int .u64 s.1), (6, .slice (some ⟨ba, 0, none⟩) 1 c), (7, .int .i64 1), (8, .int .i64 s.2)]) (fun s w' => (s = (1000000000000000000, 0) ∧ Below w.heap.size w w' ∧ Blk w' ba [.int .u64 16, .int .u64 100] 43) ∨ (s = (999999999999999900, 1) ∧ Below w.heap.size w w' ∧ Blk w' ba [.int .u64 16, .int .u64 100] 43)) (1000000000000000000, 0) (.inl ⟨rfl, BB, XA⟩) (by kernel_rfl) ?_
  clear BB XA
  rintro s v1 (⟨rfl, BB, XA⟩ | ⟨rfl, BB, XA⟩)
  · have zB := BB.size
    refine gc_seq ?_
    refine gc_reg ?_
    refine t 9 (.bool true) ?_
    refine gl_nil ?_
    refine ge_then ?_
    refine gc_seq ?_
    refine gc_yes ?_
    refine gc_skip ?_
    refine ge_then ?_
    refine gc_seq ?_
    refine gc_block ?_
    refine gc_seq ?_
    refine gc_reg ?_
    refine t 10 (pg ba) ?_
    refine tlr 11 [.int .u64 16, .int .u64 100] XA 0 ?_
    have lXA := XA.lt
    refine ta 5 [.int .u64 0, .int .u64 0] 43 (pg) ?_
    intro v2 g3 Xg3 hg3 B
    replace BB := joinB BB B
    replace XA := XA.keep B
    clear B
    refine ts Xg3 0 (.agg #[.int .u64 16, .int .u64 100]) [.int .u64 16, .int .u64 100] [.int .u64 16, .int .u64 100] ?_
    intro v4 Y C
    replace BB := belowC BB C (by omega)
    replace XA := XA.chg C (show ba ≠ g3 by omega)
    clear C Xg3
    have Xg3 := Y
    clear Y
    refine gl_nil ?_
    refine ge_then ?_
    refine gc_seq ?_
    refine gc_seq ?_
    refine gc_reg ?_
    refine t 12 (pq g3 1) ?_
    refine tl 13 (.int .u64 100) Xg3 1 ?_
    refine t 14 (.int .u64 1000000000000000000) ?_
    refine t 15 (.bool false) ?_
    refine gl_nil ?_
    refine ge_then ?_
    refine gc_no ?_
    refine gc_skip ?_
    refine ge_then ?_
    refine gc_reg ?_
    refine t 16 (.int .u64 1000000000000000000) ?_
    refine t 17 (pq g3 1) ?_
    refine tl 18 (.int .u64 100) Xg3 1 ?_
    refine t 19 (.int .u64 999999999999999900) ?_
    refine t 3 (.int .u64 999999999999999900) ?_
    refine gl_nil ?_
    refine ge_bn ?_
    refine ge_then ?_
    refine gc_fr [(3, .int .u64 999999999999999900), (5, pg g3), (6, .slice (some ⟨ba, 0, none⟩) 1 c), (7, .int .i64 1), (8, .int .i64 0), (9, .bool true), (10, pg ba), (11, .agg #[.int .u64 16, .int .u64 100]), (12, pq g3 1), (13, .int .u64 100), (14, .int .u64 1000000000000000000), (15, .bool false), (16, .int .u64 1000000000000000000), (17, pq g3 1), (18, .int .u64 100), (19, .int .u64 999999999999999900)] (by kernel_rfl) ?_
    refine gc_reg ?_
    refine t 20 (.int .i64 1) ?_
    refine t 8 (.int .i64 1) ?_
    refine gl_nil ?_
    exact ge_round (999999999999999900, 1) (by decide) (.inr ⟨rfl, BB, XA⟩) (by kernel_rfl)
  · have zB := BB.size
    refine gc_seq ?_
    refine gc_reg ?_
    refine t 9 (.bool false) ?_
    refine gl_nil ?_
    refine ge_then ?_
    refine gc_seq ?_
    refine gc_no ?_
    refine gc_exit ?_
    refine ge_tx ?_
    refine ge_tx ?_
    refine ge_bx ?_
    refine ge_then ?_
    refine gc_seq ?_
    refine gc_reg ?_
    refine t 2 (.bool true) ?_
    refine gl_nil ?_
    refine ge_then ?_
    refine gc_ret ?_
    refine ge_ret (.bool true) (rs1 2 (by kernel_rfl) (by kernel_rfl)) ?_
    exact ⟨rfl, BB⟩
theorem index_p1 {w : World} {ba : Nat} {c : Nat} (XA : Blk w ba [.int .u64 16, .int .u64 100] 43) : Calls Tryz.prog 84 #[.slice (some ⟨ba, 0, none⟩) 1 c, .func (.func 60) #[] #[]] w fun e w' => e = .returned (.int .i64 (-1)) ∧ Below w.heap.size w w' := by
  have BB := Below.refl w.heap.size w
  refine gc_enter (n := 19) Tryz.func84 rfl (by kernel_rfl) (by kernel_rfl) ?_
  refine gc_seq ?_
  refine gc_reg ?_
  refine t 4 (.int .i64 0) ?_
  refine gl_nil ?_
  refine ge_then ?_
  refine gc_seq ?_
  refine gc_seq ?_
  refine gc_reg ?_
  refine t 6 (.slice (some ⟨ba, 0, none⟩) 1 c) ?_
  refine t 7 (.int .i64 1) ?_
  refine t 8 (.int .i64 0) ?_
  refine gl_nil ?_
  refine ge_then ?_
  refine gc_block ?_
  refine gc_loop (fun (s : Int) => 1 - (s).toNat) (fun s => [(0, .slice (some ⟨ba, 0, none⟩) 1 c), (1, .func (.func 60) #[] #[]), (7, .int .i64 1), (8, .int .i64 s)]) (fun s w' => (s = (0) ∧ Below w.heap.size w w' ∧ Blk w' ba [.int .u64 16, .int .u64 100] 43) ∨ (s = (1) ∧ Below w.heap.size w w' ∧ Blk w' ba [.int .u64 16, .int .u64 100] 43)) (0) (.inl ⟨rfl, BB, XA⟩) (by kernel_rfl) ?_
  clear BB XA
  rintro s v1 (⟨rfl, BB, XA⟩ | ⟨rfl, BB, XA⟩)
  · have zB := BB.size
    refine gc_seq ?_
    refine gc_reg ?_
    refine t 9 (.bool true) ?_
    refine gl_nil ?_
    refine ge_then ?_
    refine gc_seq ?_
    refine gc_yes ?_
    refine gc_skip ?_
    refine ge_then ?_
    refine gc_seq ?_
    refine gc_block ?_
    refine gc_seq ?_
    refine gc_reg ?_
    refine t 10 (.int .i64 0) ?_
    refine t 5 (.int .i64 0) ?_
    refine gl_nil ?_
    refine ge_then ?_
    refine gc_seq ?_
    refine gc_reg ?_
    refine t 11 (.func (.func 60) #[] #[]) ?_
    refine t 12 (.slice (some ⟨ba, 0, none⟩) 1 c) ?_
    refine t 13 (.int .i64 0) ?_
    refine t 14 (pg ba) ?_
    refine tlr 15 [.int .u64 16, .int .u64 100] XA 0 ?_
    refine tc 16 60 #[.agg #[.int .u64 16, .int .u64 100]] (isE_x) ?_
    rintro _ v2 ⟨rfl, B⟩
    refine ⟨_, rfl, ?_⟩
    replace BB := joinB BB B
    replace XA := XA.keep B
    clear B
    refine gl_nil ?_
    refine ge_then ?_
    refine gc_no ?_
    refine gc_skip ?_
    refine ge_bn ?_
    refine ge_then ?_
    refine gc_reg ?_
    refine t 18 (.int .i64 1) ?_
    refine t 8 (.int .i64 1) ?_
    refine gl_nil ?_
    exact ge_round (1) (by decide) (.inr ⟨rfl, BB, XA⟩) (by kernel_rfl)
  · have zB := BB.size
    refine gc_seq ?_
    refine gc_reg ?_
    refine t 9 (.bool false) ?_
    refine gl_nil ?_
    refine ge_then ?_
    refine gc_seq ?_
    refine gc_no ?_
    refine gc_exit ?_
    refine ge_tx ?_
    refine ge_tx ?_
    refine ge_bx ?_
    refine ge_then ?_
    refine gc_seq ?_
    refine gc_reg ?_
    refine t 4 (.int .i64 (-1)) ?_
    refine gl_nil ?_
    refine ge_then ?_
    refine gc_ret ?_
    refine ge_ret (.int .i64 (-1)) (rs1 4 (by kernel_rfl) (by kernel_rfl)) ?_
    exact ⟨rfl, BB⟩
theorem contains_p1 {w : World} {ba : Nat} {c : Nat} (XA : Blk w ba [.int .u64 16, .int .u64 100] 43) : Calls Tryz.prog 59 #[.slice (some ⟨ba, 0, none⟩) 1 c, .func (.func 60) #[] #[]] w fun e w' => e = .returned (.bool false) ∧ Below w.heap.size w w' := by
  have BB := Below.refl w.heap.size w
  refine gc_enter (n := 9) Tryz.func59 rfl (by kernel_rfl) (by kernel_rfl) ?_
  refine gc_seq ?_
  refine gc_reg ?_
  refine t 4 (.bool false) ?_
  refine gl_nil ?_
  refine ge_then ?_
  refine gc_seq ?_
  refine gc_reg ?_
  refine t 5 (.slice (some ⟨ba, 0, none⟩) 1 c) ?_
  refine t 6 (.func (.func 60) #[] #[]) ?_
  refine tc 7 84 #[.slice (some ⟨ba, 0, none⟩) 1 c, .func (.func 60) #[] #[]] (index_p1 XA) ?_
  rintro _ v1 ⟨rfl, B⟩
  refine ⟨_, rfl, ?_⟩
  replace BB := joinB BB B
  replace XA := XA.keep B
  clear B
  refine t 8 (.bool false) ?_
  refine t 4 (.bool false) ?_
  refine gl_nil ?_
  refine ge_then ?_
  refine gc_ret ?_
  refine ge_ret (.bool false) (rs1 4 (by kernel_rfl) (by kernel_rfl)) ?_
  exact ⟨rfl, BB⟩
end Fo
end Go.Proofs.YtpoifdokmjhclaaGreat
