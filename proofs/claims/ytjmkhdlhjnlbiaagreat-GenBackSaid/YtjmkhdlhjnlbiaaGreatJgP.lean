/- Several texts, joined: GnL. -/
import Derived.Test.YtjmkhdlhjnlbiaaGreatJgO
namespace Go.Proofs.YtjmkhdlhjnlbiaaGreat
namespace Fo
open Go.RowKit Go.Lib Pg Lim Gl Kv Bk Pw Sd Di
attribute [local go_sem] Oper.semAt_some
set_option maxRecDepth 100000
set_option linter.unusedVariables false
set_option linter.unusedSimpArgs false
set_option maxHeartbeats 4000000
theorem fit_lit {w : World} {x0 x1 x2 x3 x4 x5 x6 x7 x8 x9 : Int} {r : Bool} (h : fit x0 x1 x2 x3 x4 x5 x6 x7 x8 x9 = r) : Calls Tryz.prog 43 #[.agg #[.int .u64 x0, .int .u64 x1, .int .u64 x2, .int .u64 x3, .int .u64 x4, .int .u64 x5, .int .u64 x6, .int .u64 x7, .int .u64 x8, .int .u64 x9]] w fun e w' => e = .returned (.bool r) ∧ Below w.heap.size w w' := by
  subst h
  exact fit_any
theorem snewG {w : World} (Bz : Nat) (hb : Bz = w.heap.size) : Calls Tryz.prog 51 #[] w fun e w' => ∃ g K, e = .returned (pg g) ∧ Sx Bz w' K g [] [] 0 0 ∧ (∀ b, K b → Bz ≤ b) ∧ Below w.heap.size w w' := by
  subst hb
  refine snew.mono ?_
  rintro e w' ⟨g, K, rfl, S, hK, B⟩
  exact ⟨g, K, rfl, ⟨S.mono (fun _ _ h => h.elim), B.size, hK⟩, hK, B⟩
theorem fault_16 {w : World} {ba bf : Nat} {c c' : Nat} (XA : Blk w ba [.int .u64 16, .int .u64 100] 39) (XF : Blk w bf [.int .u64 16, .int .u64 500, .int .u64 10] 41) : Calls Tryz.prog 27 #[.agg #[.int .u64 1, .int .u64 1, .int .u64 1, .int .u64 0, .int .u64 0, .int .u64 0, .int .u64 0, .int .u64 0, .int .u64 0, .int .u64 16, .slice (some ⟨ba, 0, none⟩) 1 c, .slice (some ⟨bf, 0, none⟩) 1 c']] w fun e w' => e = .returned (.int .i64 0) ∧ Below w.heap.size w w' := by
  have BB := Below.refl w.heap.size w
  refine gc_enter (n := 28) Tryz.func27 rfl (by kernel_rfl) (by kernel_rfl) ?_
  refine gc_seq ?_
  refine gc_reg ?_
  have lXA := XA.lt
  have lXF := XF.lt
  refine ta 1 [.int .u64 1, .int .u64 1, .int .u64 1, .int .u64 0, .int .u64 0, .int .u64 0, .int .u64 0, .int .u64 0, .int .u64 0, .int .u64 16, .slice (some ⟨ba, 0, none⟩) 1 c, .slice (some ⟨bf, 0, none⟩) 1 c'] 28 (pg) ?_
  intro v1 g2 Xg2 hg2 B
  replace BB := joinB BB B
  replace XA := XA.keep B
  replace XF := XF.keep B
  clear B
  refine t 2 (.int .i64 0) ?_
  refine gl_nil ?_
  refine ge_then ?_
  refine gc_seq ?_
  refine gc_block ?_
  refine gc_seq ?_
  refine gc_reg ?_
  refine t 4 (pg g2) ?_
  refine tlr 5 [.int .u64 1, .int .u64 1, .int .u64 1, .int .u64 0, .int .u64 0, .int .u64 0, .int .u64 0, .int .u64 0, .int .u64 0, .int .u64 16] Xg2 0 ?_
  refine tc 6 43 #[.agg #[.int .u64 1, .int .u64 1, .int .u64 1, .int .u64 0, .int .u64 0, .int .u64 0, .int .u64 0, .int .u64 0, .int .u64 0, .int .u64 16]] (fit_lit (show fit 1 1 1 0 0 0 0 0 0 16 = true by decide +kernel)) ?_
  rintro _ v3 ⟨rfl, B⟩
  refine ⟨_, rfl, ?_⟩
  replace BB := joinB BB B
  replace XA := XA.keep B
  replace XF := XF.keep B
  replace Xg2 := Xg2.keep B
  clear B
  refine t 7 (.bool false) ?_
  refine t 3 (.bool false) ?_
  refine gl_nil ?_
  refine ge_then ?_
  refine gc_no ?_
  refine gc_seq ?_
  refine gc_reg ?_
  refine t 9 (pq g2 10) ?_
  refine tl 10 (.slice (some ⟨ba, 0, none⟩) 1 c) Xg2 10 ?_
  refine tc 11 44 #[.slice (some ⟨ba, 0, none⟩) 1 c, .func (.func 45) #[] #[]] (rise_p1 XA) ?_
  rintro _ v4 ⟨rfl, B⟩
  refine ⟨_, rfl, ?_⟩
  replace BB := joinB BB B
  replace XA := XA.keep B
  replace XF := XF.keep B
  replace Xg2 := Xg2.keep B
  clear B
  refine t 12 (.bool false) ?_
  refine t 13 (.bool false) ?_
  refine t 14 (pq g2 10) ?_
  refine tl 15 (.slice (some ⟨ba, 0, none⟩) 1 c) Xg2 10 ?_
  refine tc 16 46 #[.slice (some ⟨ba, 0, none⟩) 1 c, .func (.func 47) #[] #[]] (contains_p1 XA) ?_
  rintro _ v5 ⟨rfl, B⟩
  refine ⟨_, rfl, ?_⟩
  replace BB := joinB BB B
  replace XA := XA.keep B
  replace XF := XF.keep B
  replace Xg2 := Xg2.keep B
  clear B
  refine t 17 (.bool false) ?_
  refine t 8 (.bool false) ?_
  refine gl_nil ?_
  refine ge_then ?_
  refine gc_fr [(1, pg g2), (2, .int .i64 0), (8, .bool false)] (by kernel_rfl) ?_
  refine gc_no ?_
  refine gc_seq ?_
  refine gc_reg ?_
  refine t 19 (pq g2 10) ?_
  refine tl 20 (.slice (some ⟨ba, 0, none⟩) 1 c) Xg2 10 ?_
  refine tc 21 48 #[.slice (some ⟨ba, 0, none⟩) 1 c] (fit_p1 XA) ?_
  rintro _ v6 ⟨rfl, B⟩
  refine ⟨_, rfl, ?_⟩
  replace BB := joinB BB B
  replace XA := XA.keep B
  replace XF := XF.keep B
  replace Xg2 := Xg2.keep B
  clear B
  refine t 22 (.bool false) ?_
  refine t 18 (.bool false) ?_
  refine gl_nil ?_
  refine ge_then ?_
  refine gc_no ?_
  refine gc_seq ?_
  refine gc_reg ?_
  refine t 24 (pq g2 11) ?_
  refine tl 25 (.slice (some ⟨bf, 0, none⟩) 1 c') Xg2 11 ?_
  refine tc 26 49 #[.slice (some ⟨bf, 0, none⟩) 1 c', .func (.func 50) #[] #[]] (rise_f16 XF) ?_
  rintro _ v7 ⟨rfl, B⟩
  refine ⟨_, rfl, ?_⟩
  replace BB := joinB BB B
  replace XA := XA.keep B
  replace XF := XF.keep B
  replace Xg2 := Xg2.keep B
  clear B
  refine t 27 (.bool false) ?_
  refine t 23 (.bool false) ?_
  refine gl_nil ?_
  refine ge_then ?_
  refine gc_no ?_
  refine gc_skip ?_
  refine ge_bn ?_
  refine ge_then ?_
  refine gc_seq ?_
  refine gc_reg ?_
  refine t 2 (.int .i64 0) ?_
  refine gl_nil ?_
  refine ge_then ?_
  refine gc_ret ?_
  refine ge_ret (.int .i64 0) (rs1 2 (by kernel_rfl) (by kernel_rfl)) ?_
  exact ⟨rfl, BB⟩
theorem fault_17 {w : World} {ba bf : Nat} {c c' : Nat} (XA : Blk w ba [.int .u64 16, .int .u64 100] 39) (XF : Blk w bf [.int .u64 17, .int .u64 500, .int .u64 10] 41) : Calls Tryz.prog 27 #[.agg #[.int .u64 1, .int .u64 1, .int .u64 1, .int .u64 0, .int .u64 0, .int .u64 0, .int .u64 0, .int .u64 0, .int .u64 0, .int .u64 16, .slice (some ⟨ba, 0, none⟩) 1 c, .slice (some ⟨bf, 0, none⟩) 1 c']] w fun e w' => e = .returned (.int .i64 0) ∧ Below w.heap.size w w' := by
  have BB := Below.refl w.heap.size w
  refine gc_enter (n := 28) Tryz.func27 rfl (by kernel_rfl) (by kernel_rfl) ?_
  refine gc_seq ?_
  refine gc_reg ?_
  have lXA := XA.lt
  have lXF := XF.lt
  refine ta 1 [.int .u64 1, .int .u64 1, .int .u64 1, .int .u64 0, .int .u64 0, .int .u64 0, .int .u64 0, .int .u64 0, .int .u64 0, .int .u64 16, .slice (some ⟨ba, 0, none⟩) 1 c, .slice (some ⟨bf, 0, none⟩) 1 c'] 28 (pg) ?_
  intro v1 g2 Xg2 hg2 B
  replace BB := joinB BB B
  replace XA := XA.keep B
  replace XF := XF.keep B
  clear B
  refine t 2 (.int .i64 0) ?_
  refine gl_nil ?_
  refine ge_then ?_
  refine gc_seq ?_
  refine gc_block ?_
  refine gc_seq ?_
  refine gc_reg ?_
  refine t 4 (pg g2) ?_
  refine tlr 5 [.int .u64 1, .int .u64 1, .int .u64 1, .int .u64 0, .int .u64 0, .int .u64 0, .int .u64 0, .int .u64 0, .int .u64 0, .int .u64 16] Xg2 0 ?_
  refine tc 6 43 #[.agg #[.int .u64 1, .int .u64 1, .int .u64 1, .int .u64 0, .int .u64 0, .int .u64 0, .int .u64 0, .int .u64 0, .int .u64 0, .int .u64 16]] (fit_lit (show fit 1 1 1 0 0 0 0 0 0 16 = true by decide +kernel)) ?_
  rintro _ v3 ⟨rfl, B⟩
  refine ⟨_, rfl, ?_⟩
  replace BB := joinB BB B
  replace XA := XA.keep B
  replace XF := XF.keep B
  replace Xg2 := Xg2.keep B
  clear B
  refine t 7 (.bool false) ?_
  refine t 3 (.bool false) ?_
  refine gl_nil ?_
  refine ge_then ?_
  refine gc_no ?_
  refine gc_seq ?_
  refine gc_reg ?_
  refine t 9 (pq g2 10) ?_
  refine tl 10 (.slice (some ⟨ba, 0, none⟩) 1 c) Xg2 10 ?_
  refine tc 11 44 #[.slice (some ⟨ba, 0, none⟩) 1 c, .func (.func 45) #[] #[]] (rise_p1 XA) ?_
  rintro _ v4 ⟨rfl, B⟩
  refine ⟨_, rfl, ?_⟩
  replace BB := joinB BB B
  replace XA := XA.keep B
  replace XF := XF.keep B
  replace Xg2 := Xg2.keep B
  clear B
  refine t 12 (.bool false) ?_
  refine t 13 (.bool false) ?_
  refine t 14 (pq g2 10) ?_
  refine tl 15 (.slice (some ⟨ba, 0, none⟩) 1 c) Xg2 10 ?_
  refine tc 16 46 #[.slice (some ⟨ba, 0, none⟩) 1 c, .func (.func 47) #[] #[]] (contains_p1 XA) ?_
  rintro _ v5 ⟨rfl, B⟩
  refine ⟨_, rfl, ?_⟩
  replace BB := joinB BB B
  replace XA := XA.keep B
  replace XF := XF.keep B
  replace Xg2 := Xg2.keep B
  clear B
  refine t 17 (.bool false) ?_
  refine t 8 (.bool false) ?_
  refine gl_nil ?_
  refine ge_then ?_
  refine gc_fr [(1, pg g2), (2, .int .i64 0), (8, .bool false)] (by kernel_rfl) ?_
  refine gc_no ?_
  refine gc_seq ?_
  refine gc_reg ?_
  refine t 19 (pq g2 10) ?_
  refine tl 20 (.slice (some ⟨ba, 0, none⟩) 1 c) Xg2 10 ?_
  refine tc 21 48 #[.slice (some ⟨ba, 0, none⟩) 1 c] (fit_p1 XA) ?_
  rintro _ v6 ⟨rfl, B⟩
  refine ⟨_, rfl, ?_⟩
  replace BB := joinB BB B
  replace XA := XA.keep B
  replace XF := XF.keep B
  replace Xg2 := Xg2.keep B
  clear B
  refine t 22 (.bool false) ?_
  refine t 18 (.bool false) ?_
  refine gl_nil ?_
  refine ge_then ?_
  refine gc_no ?_
  refine gc_seq ?_
  refine gc_reg ?_
  refine t 24 (pq g2 11) ?_
  refine tl 25 (.slice (some ⟨bf, 0, none⟩) 1 c') Xg2 11 ?_
  refine tc 26 49 #[.slice (some ⟨bf, 0, none⟩) 1 c', .func (.func 50) #[] #[]] (rise_f17 XF) ?_
  rintro _ v7 ⟨rfl, B⟩
  refine ⟨_, rfl, ?_⟩
  replace BB := joinB BB B
  replace XA := XA.keep B
  replace XF := XF.keep B
  replace Xg2 := Xg2.keep B
  clear B
  refine t 27 (.bool false) ?_
  refine t 23 (.bool false) ?_
  refine gl_nil ?_
  refine ge_then ?_
  refine gc_no ?_
  refine gc_skip ?_
  refine ge_bn ?_
  refine ge_then ?_
  refine gc_seq ?_
  refine gc_reg ?_
  refine t 2 (.int .i64 0) ?_
  refine gl_nil ?_
  refine ge_then ?_
  refine gc_ret ?_
  refine ge_ret (.int .i64 0) (rs1 2 (by kernel_rfl) (by kernel_rfl)) ?_
  exact ⟨rfl, BB⟩
theorem fault_a {w : World} {ba : Nat} {c c' nf : Nat} {d : Option Addr} (XA : Blk w ba [.int .u64 16, .int .u64 100, .int .u64 16, .int .u64 100] 39) : Calls Tryz.prog 27 #[.agg #[.int .u64 1, .int .u64 1, .int .u64 1, .int .u64 0, .int .u64 0, .int .u64 0, .int .u64 0, .int .u64 0, .int .u64 0, .int .u64 16, .slice (some ⟨ba, 0, none⟩) 2 c, .slice d nf c']] w fun e w' => e = .returned (.int .i64 213) ∧ Below w.heap.size w w' := by
  have BB := Below.refl w.heap.size w
  refine gc_enter (n := 28) Tryz.func27 rfl (by kernel_rfl) (by kernel_rfl) ?_
  refine gc_seq ?_
  refine gc_reg ?_
  have lXA := XA.lt
  refine ta 1 [.int .u64 1, .int .u64 1, .int .u64 1, .int .u64 0, .int .u64 0, .int .u64 0, .int .u64 0, .int .u64 0, .int .u64 0, .int .u64 16, .slice (some ⟨ba, 0, none⟩) 2 c, .slice d nf c'] 28 (pg) ?_
  intro v1 g2 Xg2 hg2 B
  replace BB := joinB BB B
  replace XA := XA.keep B
  clear B
  refine t 2 (.int .i64 0) ?_
  refine gl_nil ?_
  refine ge_then ?_
  refine gc_seq ?_
  refine gc_block ?_
  refine gc_seq ?_
  refine gc_reg ?_
  refine t 4 (pg g2) ?_
  refine tlr 5 [.int .u64 1, .int .u64 1, .int .u64 1, .int .u64 0, .int .u64 0, .int .u64 0, .int .u64 0, .int .u64 0, .int .u64 0, .int .u64 16] Xg2 0 ?_
  refine tc 6 43 #[.agg #[.int .u64 1, .int .u64 1, .int .u64 1, .int .u64 0, .int .u64 0, .int .u64 0, .int .u64 0, .int .u64 0, .int .u64 0, .int .u64 16]] (fit_lit (show fit 1 1 1 0 0 0 0 0 0 16 = true by decide +kernel)) ?_
  rintro _ v3 ⟨rfl, B⟩
  refine ⟨_, rfl, ?_⟩
  replace BB := joinB BB B
  replace XA := XA.keep B
  replace Xg2 := Xg2.keep B
  clear B
  refine t 7 (.bool false) ?_
  refine t 3 (.bool false) ?_
  refine gl_nil ?_
  refine ge_then ?_
  refine gc_no ?_
  refine gc_seq ?_
  refine gc_reg ?_
  refine t 9 (pq g2 10) ?_
  refine tl 10 (.slice (some ⟨ba, 0, none⟩) 2 c) Xg2 10 ?_
  refine tc 11 44 #[.slice (some ⟨ba, 0, none⟩) 2 c, .func (.func 45) #[] #[]] (rise_p2 XA) ?_
  rintro _ v4 ⟨rfl, B⟩
  refine ⟨_, rfl, ?_⟩
  replace BB := joinB BB B
  replace XA := XA.keep B
  replace Xg2 := Xg2.keep B
  clear B
  refine t 12 (.bool true) ?_
  refine t 13 (.bool true) ?_
  refine tn 14 ?_
  refine tn 15 ?_
  refine tn 16 ?_
  refine t 17 (.bool true) ?_
  refine t 8 (.bool true) ?_
  refine gl_nil ?_
  refine ge_then ?_
  refine gc_fr [(1, pg g2), (2, .int .i64 0), (8, .bool true)] (by kernel_rfl) ?_
  refine gc_yes ?_
  refine gc_seq ?_
  refine gc_reg ?_
  refine t 2 (.int .i64 213) ?_
  refine gl_nil ?_
  refine ge_then ?_
  refine gc_ret ?_
  refine ge_br ?_
  refine ge_tr ?_
  refine ge_ret (.int .i64 213) (rs1 2 (by kernel_rfl) (by kernel_rfl)) ?_
  exact ⟨rfl, BB⟩
theorem fault_p {w : World} {c c' na nf : Nat} {a d : Option Addr}  : Calls Tryz.prog 27 #[.agg #[.int .u64 0, .int .u64 1, .int .u64 1, .int .u64 0, .int .u64 0, .int .u64 0, .int .u64 0, .int .u64 0, .int .u64 0, .int .u64 16, .slice a na c, .slice d nf c']] w fun e w' => e = .returned (.int .i64 212) ∧ Below w.heap.size w w' := by
  have BB := Below.refl w.heap.size w
  refine gc_enter (n := 28) Tryz.func27 rfl (by kernel_rfl) (by kernel_rfl) ?_
  refine gc_seq ?_
  refine gc_reg ?_
  refine ta 1 [.int .u64 0, .int .u64 1, .int .u64 1, .int .u64 0, .int .u64 0, .int .u64 0, .int .u64 0, .int .u64 0, .int .u64 0, .int .u64 16, .slice a na c, .slice d nf c'] 28 (pg) ?_
  intro v1 g2 Xg2 hg2 B
  replace BB := joinB BB B
  clear B
  refine t 2 (.int .i64 0) ?_
  refine gl_nil ?_
  refine ge_then ?_
  refine gc_seq ?_
  refine gc_block ?_
  refine gc_seq ?_
  refine gc_reg ?_
  refine t 4 (pg g2) ?_
  refine tlr 5 [.int .u64 0, .int .u64 1, .int .u64 1, .int .u64 0, .int .u64 0, .int .u64 0, .int .u64 0, .int .u64 0, .int .u64 0, .int .u64 16] Xg2 0 ?_
  refine tc 6 43 #[.agg #[.int .u64 0, .int .u64 1, .int .u64 1, .int .u64 0, .int .u64 0, .int .u64 0, .int .u64 0, .int .u64 0, .int .u64 0, .int .u64 16]] (fit_lit (show fit 0 1 1 0 0 0 0 0 0 16 = false by decide +kernel)) ?_
  rintro _ v3 ⟨rfl, B⟩
  refine ⟨_, rfl, ?_⟩
  replace BB := joinB BB B
  replace Xg2 := Xg2.keep B
  clear B
  refine t 7 (.bool true) ?_
  refine t 3 (.bool true) ?_
  refine gl_nil ?_
  refine ge_then ?_
  refine gc_yes ?_
  refine gc_seq ?_
  refine gc_reg ?_
  refine t 2 (.int .i64 212) ?_
  refine gl_nil ?_
  refine ge_then ?_
  refine gc_ret ?_
  refine ge_br ?_
  refine ge_tr ?_
  refine ge_ret (.int .i64 212) (rs1 2 (by kernel_rfl) (by kernel_rfl)) ?_
  exact ⟨rfl, BB⟩
theorem begin_y {w0 : World} {ba bf c c' : Nat} (XA : Blk w0 ba [.int .u64 16, .int .u64 100] 39) (XF : Blk w0 bf [.int .u64 16, .int .u64 500, .int .u64 10] 41) : Calls Tryz.prog 28 #[.agg #[.int .u64 1, .int .u64 1, .int .u64 1, .int .u64 0, .int .u64 0, .int .u64 0, .int .u64 0, .int .u64 0, .int .u64 0, .int .u64 16, .slice (some ⟨ba, 0, none⟩) 1 c, .slice (some ⟨bf, 0, none⟩) 1 c']] w0 fun e w' => ∃ g K' n' N' B, e = .returned (.tuple #[pg g, .int .i64 0]) ∧ Sx B w' K' g e16 [] n' N' ∧ n' ≤ 30000 ∧ N' ≤ 30000 ∧ w0.heap.size ≤ B ∧ Below w0.heap.size w0 w' := by
  have BB := Below.refl w0.heap.size w0
  refine gc_enter (n := 57) Tryz.func28 rfl (by kernel_rfl) (by kernel_rfl) ?_
  refine gc_seq ?_
  refine gc_reg ?_
  refine ta 1 [.int .u64 1, .int .u64 1, .int .u64 1, .int .u64 0, .int .u64 0, .int .u64 0, .int .u64 0, .int .u64 0, .int .u64 0, .int .u64 16, .slice (some ⟨ba, 0, none⟩) 1 c, .slice (some ⟨bf, 0, none⟩) 1 c'] 28 (pg) ?_
  intro v1 g2 XG hg2 B
  replace XA := XA.keep B
  replace XF := XF.keep B
  replace BB := joinB BB B
  clear B
  refine t 2 (.pointer none) ?_
  refine t 3 (.int .i64 0) ?_
  refine gl_nil ?_
  refine ge_then ?_
  refine gc_seq ?_
  refine gc_reg ?_
  obtain ⟨B, hB⟩ : ∃ B, B = v1.heap.size := ⟨_, rfl⟩
  refine tc 11 51 #[] (snewG B hB) ?_
  rintro _ w ⟨g, K, rfl, S, kK, B2⟩
  refine ⟨_, rfl, ?_⟩
  have nXA : ¬ K ba := fun k => by
    have := kK _ k
    have := XA.lt
    omega
  replace XA := XA.keep B2
  have nXF : ¬ K bf := fun k => by
    have := kK _ k
    have := XF.lt
    omega
  replace XF := XF.keep B2
  have nXG : ¬ K g2 := fun k => by
    have := kK _ k
    have := XG.lt
    omega
  replace XG := XG.keep B2
  have zB := BB.size
  replace BB := joinB BB B2
  clear B2
  obtain ⟨n, n0⟩ : ∃ n : Nat, n = 0 := ⟨_, rfl⟩
  obtain ⟨N, N0⟩ : ∃ N : Nat, N = 0 := ⟨_, rfl⟩
  replace S : Sx B w K g [] [] n N := by
    rw [n0, N0]
    exact S
  have U := ut_of S
  refine t 4 (pg g) ?_
  refine gl_nil ?_
  refine ge_then ?_
  refine gc_seq ?_
  refine gc_reg ?_
  refine t 12 (pg g) ?_
  refine t 13 (pg g2) ?_
  refine tlr 14 [.int .u64 1, .int .u64 1, .int .u64 1, .int .u64 0, .int .u64 0, .int .u64 0, .int .u64 0, .int .u64 0, .int .u64 0, .int .u64 16] (XG.chg U.ta.cc nXG) 0 ?_
  refine tc 15 52 #[pg g, .agg #[.int .u64 1, .int .u64 1, .int .u64 1, .int .u64 0, .int .u64 0, .int .u64 0, .int .u64 0, .int .u64 0, .int .u64 0, .int .u64 16]] (setParams_l U.ta.sx (by omega) (by omega)) ?_
  rintro _ v6 ⟨K3, n4, N5, rfl, S, qn4, qN5, hK, hC⟩
  refine ⟨_, rfl, ?_⟩
  replace U := U.op S hK hC
  clear S hK hC
  refine gl_nil ?_
  refine ge_then ?_
  refine gc_seq ?_
  refine gc_reg ?_
  refine t 16 (pg g) ?_
  refine t 17 (.agg #[.int .u64 0, .int .u64 1]) ?_
  refine tc 18 53 #[pg g, .agg #[.int .u64 0, .int .u64 1]] (setChain_l U.ta.sx (by omega) (by omega)) ?_
  rintro _ v10 ⟨K7, n8, N9, rfl, S, qn8, qN9, hK, hC⟩
  refine ⟨_, rfl, ?_⟩
  replace U := U.op S hK hC
  clear S hK hC
  refine gl_nil ?_
  refine ge_then ?_
  refine gc_fr [(1, pg g2), (2, .pointer none), (3, .int .i64 0), (4, pg g)] (by kernel_rfl) ?_
  refine gc_seq ?_
  refine gc_seq ?_
  refine gc_reg ?_
  refine t 19 (pq g2 10) ?_
  refine tl 20 (.slice (some ⟨ba, 0, none⟩) 1 c) (XG.chg U.ta.cc nXG) 10 ?_
  refine t 21 (.int .i64 1) ?_
  refine t 22 (.int .i64 0) ?_
  refine gl_nil ?_
  refine ge_then ?_
  refine gc_block ?_
  refine gc_loop (fun s => 1 - s) (fun (s : Nat) => [(1, pg g2), (4, pg g), (20, .slice (some ⟨ba, 0, none⟩) 1 c), (21, .int .i64 1), (22, .int .i64 (s : Int))]) (fun s w' => (s = 0 ∧ ∃ K' n' N', Ut w K B g [] w' K' e2 n' N' [] [] ∧ n' ≤ n + 950 ∧ N' ≤ N + 950) ∨ (s = 1 ∧ ∃ K' n' N', Ut w K B g [] w' K' e3 n' N' [] [] ∧ n' ≤ n + 1010 ∧ N' ≤ N + 1010)) 0 (.inl ⟨rfl, ⟨_, _, _, U, by omega, by omega⟩⟩) (by kernel_rfl) ?_
  clear U
  rintro i v11 (⟨rfl, ⟨K12, n13, N14, U, qn13, qN14⟩⟩ | ⟨rfl, ⟨K15, n16, N17, U, qn16, qN17⟩⟩)
  · skip
    refine gc_seq ?_
    refine gc_reg ?_
    refine t 23 (.bool true) ?_
    refine gl_nil ?_
    refine ge_then ?_
    refine gc_seq ?_
    refine gc_yes ?_
    refine gc_skip ?_
    refine ge_then ?_
    refine gc_seq ?_
    refine gc_block ?_
    refine gc_seq ?_
    refine gc_reg ?_
    refine t 24 (pg ba) ?_
    refine tlr 25 [.int .u64 16, .int .u64 100] (XA.chg U.ta.cc nXA) 0 ?_
    refine ta 6 [.int .u64 0, .int .u64 0] 39 (pg) ?_
    intro v18 g19 Xg19 hg19 B
    replace U := U.new Xg19 hg19 B
    clear Xg19 hg19 B
    refine ts (U.bk 0 rfl) 0 (.agg #[.int .u64 16, .int .u64 100]) [.int .u64 16, .int .u64 100] [.int .u64 16, .int .u64 100] ?_
    intro v20 Y C
    replace U := U.put 0 rfl C Y (by decide)
    clear Y C
    refine gl_nil ?_
    refine ge_then ?_
    refine gc_reg ?_
    refine t 26 (pg g) ?_
    refine t 27 (pg g19) ?_
    refine tl 28 (.int .u64 16) (U.bk 0 rfl) 0 ?_
    refine t 29 (pq g19 1) ?_
    refine tl 30 (.int .u64 100) (U.bk 0 rfl) 1 ?_
    refine tc 31 54 #[pg g, .int .u64 16, .int .u64 100] (mv_lit (mint_any U.ta.sx ⟨by decide, by decide⟩ ⟨by decide, by decide⟩ (by omega) (by omega)) (show mintE e2 16 100 = e3 from rfl) (show mintR e2 16 100 = 0 by decide +kernel)) ?_
    rintro _ v25 ⟨rfl, K21, n22, N23, S, qn22, qN23, hK, hC⟩
    refine ⟨_, rfl, ?_⟩
    replace U := U.op S hK hC
    clear S hK hC
    refine gl_nil ?_
    refine ge_bn ?_
    refine ge_then ?_
    refine gc_reg ?_
    refine t 32 (.int .i64 1) ?_
    refine t 22 (.int .i64 1) ?_
    refine gl_nil ?_
    replace U := U.sel [] []
    exact ge_round (1 : Nat) (by decide) (.inr ⟨rfl, ⟨_, _, _, U, by omega, by omega⟩⟩) (by kernel_rfl)
  · skip
    refine gc_seq ?_
    refine gc_reg ?_
    refine t 23 (.bool false) ?_
    refine gl_nil ?_
    refine ge_then ?_
    refine gc_seq ?_
    refine gc_no ?_
    refine gc_exit ?_
    refine ge_tx ?_
    refine ge_tx ?_
    refine ge_bx ?_
    refine ge_then ?_
    refine gc_seq ?_
    refine gc_seq ?_
    refine gc_reg ?_
    refine t 33 (pq g2 11) ?_
    refine tl 34 (.slice (some ⟨bf, 0, none⟩) 1 c') (XG.chg U.ta.cc nXG) 11 ?_
    refine t 35 (.int .i64 1) ?_
    refine t 36 (.int .i64 0) ?_
    refine gl_nil ?_
    refine ge_then ?_
    refine gc_block ?_
    refine gc_loop (fun s => 1 - s) (fun (s : Nat) => [(4, pg g), (34, .slice (some ⟨bf, 0, none⟩) 1 c'), (35, .int .i64 1), (36, .int .i64 (s : Int))]) (fun s w' => (s = 0 ∧ ∃ K' n' N', Ut w K B g [] w' K' e3 n' N' [] [] ∧ n' ≤ n + 1360 ∧ N' ≤ N + 1360) ∨ (s = 1 ∧ ∃ K' n' N', Ut w K B g [] w' K' e12 n' N' [] [] ∧ n' ≤ n + 7860 ∧ N' ≤ N + 7860)) 0 (.inl ⟨rfl, ⟨_, _, _, U, by omega, by omega⟩⟩) (by kernel_rfl) ?_
    clear U
    rintro i v26 (⟨rfl, ⟨K27, n28, N29, U, qn28, qN29⟩⟩ | ⟨rfl, ⟨K30, n31, N32, U, qn31, qN32⟩⟩)
    · skip
      refine gc_seq ?_
      refine gc_reg ?_
      refine t 37 (.bool true) ?_
      refine gl_nil ?_
      refine ge_then ?_
      refine gc_seq ?_
      refine gc_yes ?_
      refine gc_skip ?_
      refine ge_then ?_
      refine gc_seq ?_
      refine gc_block ?_
      refine gc_seq ?_
      refine gc_reg ?_
      refine t 38 (pg bf) ?_
      refine tlr 39 [.int .u64 16, .int .u64 500, .int .u64 10] (XF.chg U.ta.cc nXF) 0 ?_
      refine ta 8 [.int .u64 0, .int .u64 0, .int .u64 0] 41 (pg) ?_
      intro v33 g34 Xg34 hg34 B
      replace U := U.new Xg34 hg34 B
      clear Xg34 hg34 B
      refine ts (U.bk 0 rfl) 0 (.agg #[.int .u64 16, .int .u64 500, .int .u64 10]) [.int .u64 16, .int .u64 500, .int .u64 10] [.int .u64 16, .int .u64 500, .int .u64 10] ?_
      intro v35 Y C
      replace U := U.put 0 rfl C Y (by decide)
      clear Y C
      refine gl_nil ?_
      refine ge_then ?_
      refine gc_seq ?_
      refine gc_reg ?_
      refine t 41 (pg g) ?_
      refine t 42 (pg g34) ?_
      refine tl 43 (.int .u64 16) (U.bk 0 rfl) 0 ?_
      refine t 44 (pq g34 1) ?_
      refine tl 45 (.int .u64 500) (U.bk 0 rfl) 1 ?_
      refine t 46 (pq g34 2) ?_
      refine tl 47 (.int .u64 10) (U.bk 0 rfl) 2 ?_
      refine tc 48 55 #[pg g, .int .u64 16, .int .u64 500, .int .u64 10] (create_l U.ta.sx  (by omega) (by omega)) ?_
      rintro _ v40 ⟨aq36, nq36, cq36, zq36, K37, n38, N39, rfl, S, qn38, qN39, hK, hC, Q0, mq36, h0⟩
      refine ⟨_, rfl, ?_⟩
      have fq36 := ne3 h0 U.ta.size
      have L := U.lt
      replace U := (U.op S hK hC).add L Q0 h0
      clear L S hK hC Q0 h0
      refine t 40 (.tuple #[.agg #[.slice aq36 nq36 cq36], .int .i64 0]) ?_
      refine t 49 (.agg #[.slice aq36 nq36 cq36]) ?_
      refine t 50 (.int .i64 0) ?_
      refine ta 9 [.slice none 0 0] 51 (pg) ?_
      intro v41 g42 Xg42 hg42 B
      replace U := U.new Xg42 hg42 B
      clear Xg42 hg42 B
      refine ts (U.bk 0 rfl) 0 (.agg #[.slice aq36 nq36 cq36]) [.slice aq36 nq36 cq36] [.slice aq36 nq36 cq36] ?_
      intro v43 Y C
      replace U := U.put 0 rfl C Y (by decide)
      clear Y C
      refine t 10 (.int .i64 0) ?_
      refine gl_nil ?_
      refine ge_then ?_
      refine gc_fr [(4, pg g), (8, pg g34), (9, pg g42), (10, .int .i64 0), (34, .slice (some ⟨bf, 0, none⟩) 1 c'), (35, .int .i64 1), (36, .int .i64 0), (37, .bool true), (38, pg bf), (39, .agg #[.int .u64 16, .int .u64 500, .int .u64 10]), (40, .tuple #[.agg #[.slice aq36 nq36 cq36], .int .i64 0]), (41, pg g), (42, pg g34), (43, .int .u64 16), (44, pq g34 1), (45, .int .u64 500), (46, pq g34 2), (47, .int .u64 10), (48, .tuple #[.agg #[.slice aq36 nq36 cq36], .int .i64 0]), (49, .agg #[.slice aq36 nq36 cq36]), (50, .int .i64 0)] (by kernel_rfl) ?_
      refine gc_seq ?_
      refine gc_reg ?_
      refine t 51 (.int .i64 0) ?_
      refine t 52 (.bool false) ?_
      refine gl_nil ?_
      refine ge_then ?_
      refine gc_no ?_
      refine gc_skip ?_
      refine ge_bn ?_
      refine ge_then ?_
      refine gc_reg ?_
      refine t 53 (.int .i64 1) ?_
      refine t 36 (.int .i64 1) ?_
      refine gl_nil ?_
      replace U := U.sel [] []
      exact ge_round (1 : Nat) (by decide) (.inr ⟨rfl, ⟨_, _, _, U, by omega, by omega⟩⟩) (by kernel_rfl)
    · skip
      refine gc_seq ?_
      refine gc_reg ?_
      refine t 37 (.bool false) ?_
      refine gl_nil ?_
      refine ge_then ?_
      refine gc_seq ?_
      refine gc_no ?_
      refine gc_exit ?_
      refine ge_tx ?_
      refine ge_tx ?_
      refine ge_bx ?_
      refine ge_then ?_
      refine gc_seq ?_
      refine gc_reg ?_
      refine t 54 (pg g) ?_
      refine tc 55 56 #[pg g] (elect_l U.ta.sx (by omega) (by omega)) ?_
      rintro _ v48 ⟨el47, K44, n45, N46, rfl, S, qn45, qN46, hK, hC⟩
      refine ⟨_, rfl, ?_⟩
      replace U := U.op S hK hC
      clear S hK hC
      refine gl_nil ?_
      refine ge_then ?_
      refine gc_seq ?_
      refine gc_reg ?_
      refine t 56 (pg g) ?_
      refine t 2 (pg g) ?_
      refine t 3 (.int .i64 0) ?_
      refine gl_nil ?_
      refine ge_then ?_
      refine gc_ret ?_
      refine ge_ret (.tuple #[pg g, .int .i64 0]) (rs2 2 3 (by kernel_rfl) (by kernel_rfl) (by kernel_rfl)) ?_
      exact ⟨g, _, _, _, B, rfl, U.ta.sx, by omega, by omega, by omega, BB.trans (U.ta.cc.below (fun b k => by have := kK b k; omega) BB.size)⟩
theorem begin_n {w0 : World} {ba bf c c' : Nat} (XA : Blk w0 ba [.int .u64 16, .int .u64 100] 39) (XF : Blk w0 bf [.int .u64 17, .int .u64 500, .int .u64 10] 41) : Calls Tryz.prog 28 #[.agg #[.int .u64 1, .int .u64 1, .int .u64 1, .int .u64 0, .int .u64 0, .int .u64 0, .int .u64 0, .int .u64 0, .int .u64 0, .int .u64 16, .slice (some ⟨ba, 0, none⟩) 1 c, .slice (some ⟨bf, 0, none⟩) 1 c']] w0 fun e w' => e = .returned (.tuple #[.pointer none, .int .i64 215]) ∧ Below w0.heap.size w0 w' := by
  have BB := Below.refl w0.heap.size w0
  refine gc_enter (n := 57) Tryz.func28 rfl (by kernel_rfl) (by kernel_rfl) ?_
  refine gc_seq ?_
  refine gc_reg ?_
  refine ta 1 [.int .u64 1, .int .u64 1, .int .u64 1, .int .u64 0, .int .u64 0, .int .u64 0, .int .u64 0, .int .u64 0, .int .u64 0, .int .u64 16, .slice (some ⟨ba, 0, none⟩) 1 c, .slice (some ⟨bf, 0, none⟩) 1 c'] 28 (pg) ?_
  intro v1 g2 XG hg2 B
  replace XA := XA.keep B
  replace XF := XF.keep B
  replace BB := joinB BB B
  clear B
  refine t 2 (.pointer none) ?_
  refine t 3 (.int .i64 0) ?_
  refine gl_nil ?_
  refine ge_then ?_
  refine gc_seq ?_
  refine gc_reg ?_
  obtain ⟨B, hB⟩ : ∃ B, B = v1.heap.size := ⟨_, rfl⟩
  refine tc 11 51 #[] (snewG B hB) ?_
  rintro _ w ⟨g, K, rfl, S, kK, B2⟩
  refine ⟨_, rfl, ?_⟩
  have nXA : ¬ K ba := fun k => by
    have := kK _ k
    have := XA.lt
    omega
  replace XA := XA.keep B2
  have nXF : ¬ K bf := fun k => by
    have := kK _ k
    have := XF.lt
    omega
  replace XF := XF.keep B2
  have nXG : ¬ K g2 := fun k => by
    have := kK _ k
    have := XG.lt
    omega
  replace XG := XG.keep B2
  have zB := BB.size
  replace BB := joinB BB B2
  clear B2
  obtain ⟨n, n0⟩ : ∃ n : Nat, n = 0 := ⟨_, rfl⟩
  obtain ⟨N, N0⟩ : ∃ N : Nat, N = 0 := ⟨_, rfl⟩
  replace S : Sx B w K g [] [] n N := by
    rw [n0, N0]
    exact S
  have U := ut_of S
  refine t 4 (pg g) ?_
  refine gl_nil ?_
  refine ge_then ?_
  refine gc_seq ?_
  refine gc_reg ?_
  refine t 12 (pg g) ?_
  refine t 13 (pg g2) ?_
  refine tlr 14 [.int .u64 1, .int .u64 1, .int .u64 1, .int .u64 0, .int .u64 0, .int .u64 0, .int .u64 0, .int .u64 0, .int .u64 0, .int .u64 16] (XG.chg U.ta.cc nXG) 0 ?_
  refine tc 15 52 #[pg g, .agg #[.int .u64 1, .int .u64 1, .int .u64 1, .int .u64 0, .int .u64 0, .int .u64 0, .int .u64 0, .int .u64 0, .int .u64 0, .int .u64 16]] (setParams_l U.ta.sx (by omega) (by omega)) ?_
  rintro _ v6 ⟨K3, n4, N5, rfl, S, qn4, qN5, hK, hC⟩
  refine ⟨_, rfl, ?_⟩
  replace U := U.op S hK hC
  clear S hK hC
  refine gl_nil ?_
  refine ge_then ?_
  refine gc_seq ?_
  refine gc_reg ?_
  refine t 16 (pg g) ?_
  refine t 17 (.agg #[.int .u64 0, .int .u64 1]) ?_
  refine tc 18 53 #[pg g, .agg #[.int .u64 0, .int .u64 1]] (setChain_l U.ta.sx (by omega) (by omega)) ?_
  rintro _ v10 ⟨K7, n8, N9, rfl, S, qn8, qN9, hK, hC⟩
  refine ⟨_, rfl, ?_⟩
  replace U := U.op S hK hC
  clear S hK hC
  refine gl_nil ?_
  refine ge_then ?_
  refine gc_fr [(1, pg g2), (2, .pointer none), (3, .int .i64 0), (4, pg g)] (by kernel_rfl) ?_
  refine gc_seq ?_
  refine gc_seq ?_
  refine gc_reg ?_
  refine t 19 (pq g2 10) ?_
  refine tl 20 (.slice (some ⟨ba, 0, none⟩) 1 c) (XG.chg U.ta.cc nXG) 10 ?_
  refine t 21 (.int .i64 1) ?_
  refine t 22 (.int .i64 0) ?_
  refine gl_nil ?_
  refine ge_then ?_
  refine gc_block ?_
  refine gc_loop (fun s => 1 - s) (fun (s : Nat) => [(1, pg g2), (4, pg g), (20, .slice (some ⟨ba, 0, none⟩) 1 c), (21, .int .i64 1), (22, .int .i64 (s : Int))]) (fun s w' => (s = 0 ∧ ∃ K' n' N', Ut w K B g [] w' K' e2 n' N' [] [] ∧ n' ≤ n + 950 ∧ N' ≤ N + 950) ∨ (s = 1 ∧ ∃ K' n' N', Ut w K B g [] w' K' e3 n' N' [] [] ∧ n' ≤ n + 1010 ∧ N' ≤ N + 1010)) 0 (.inl ⟨rfl, ⟨_, _, _, U, by omega, by omega⟩⟩) (by kernel_rfl) ?_
  clear U
  rintro i v11 (⟨rfl, ⟨K12, n13, N14, U, qn13, qN14⟩⟩ | ⟨rfl, ⟨K15, n16, N17, U, qn16, qN17⟩⟩)
  · skip
    refine gc_seq ?_
    refine gc_reg ?_
    refine t 23 (.bool true) ?_
    refine gl_nil ?_
    refine ge_then ?_
    refine gc_seq ?_
    refine gc_yes ?_
    refine gc_skip ?_
    refine ge_then ?_
    refine gc_seq ?_
    refine gc_block ?_
    refine gc_seq ?_
    refine gc_reg ?_
    refine t 24 (pg ba) ?_
    refine tlr 25 [.int .u64 16, .int .u64 100] (XA.chg U.ta.cc nXA) 0 ?_
    refine ta 6 [.int .u64 0, .int .u64 0] 39 (pg) ?_
    intro v18 g19 Xg19 hg19 B
    replace U := U.new Xg19 hg19 B
    clear Xg19 hg19 B
    refine ts (U.bk 0 rfl) 0 (.agg #[.int .u64 16, .int .u64 100]) [.int .u64 16, .int .u64 100] [.int .u64 16, .int .u64 100] ?_
    intro v20 Y C
    replace U := U.put 0 rfl C Y (by decide)
    clear Y C
    refine gl_nil ?_
    refine ge_then ?_
    refine gc_reg ?_
    refine t 26 (pg g) ?_
    refine t 27 (pg g19) ?_
    refine tl 28 (.int .u64 16) (U.bk 0 rfl) 0 ?_
    refine t 29 (pq g19 1) ?_
    refine tl 30 (.int .u64 100) (U.bk 0 rfl) 1 ?_
    refine tc 31 54 #[pg g, .int .u64 16, .int .u64 100] (mv_lit (mint_any U.ta.sx ⟨by decide, by decide⟩ ⟨by decide, by decide⟩ (by omega) (by omega)) (show mintE e2 16 100 = e3 from rfl) (show mintR e2 16 100 = 0 by decide +kernel)) ?_
    rintro _ v25 ⟨rfl, K21, n22, N23, S, qn22, qN23, hK, hC⟩
    refine ⟨_, rfl, ?_⟩
    replace U := U.op S hK hC
    clear S hK hC
    refine gl_nil ?_
    refine ge_bn ?_
    refine ge_then ?_
    refine gc_reg ?_
    refine t 32 (.int .i64 1) ?_
    refine t 22 (.int .i64 1) ?_
    refine gl_nil ?_
    replace U := U.sel [] []
    exact ge_round (1 : Nat) (by decide) (.inr ⟨rfl, ⟨_, _, _, U, by omega, by omega⟩⟩) (by kernel_rfl)
  · skip
    refine gc_seq ?_
    refine gc_reg ?_
    refine t 23 (.bool false) ?_
    refine gl_nil ?_
    refine ge_then ?_
    refine gc_seq ?_
    refine gc_no ?_
    refine gc_exit ?_
    refine ge_tx ?_
    refine ge_tx ?_
    refine ge_bx ?_
    refine ge_then ?_
    refine gc_seq ?_
    refine gc_seq ?_
    refine gc_reg ?_
    refine t 33 (pq g2 11) ?_
    refine tl 34 (.slice (some ⟨bf, 0, none⟩) 1 c') (XG.chg U.ta.cc nXG) 11 ?_
    refine t 35 (.int .i64 1) ?_
    refine t 36 (.int .i64 0) ?_
    refine gl_nil ?_
    refine ge_then ?_
    refine gc_block ?_
    refine gc_loop (fun s => 1 - s) (fun (s : Nat) => [(4, pg g), (34, .slice (some ⟨bf, 0, none⟩) 1 c'), (35, .int .i64 1), (36, .int .i64 (s : Int))]) (fun s w' => s = 0 ∧ ∃ K' n' N', Ut w K B g [] w' K' e3 n' N' [] [] ∧ n' ≤ n + 1360 ∧ N' ≤ N + 1360) 0 ⟨rfl, ⟨_, _, _, U, by omega, by omega⟩⟩ (by kernel_rfl) ?_
    clear U
    rintro i v26 ⟨rfl, ⟨K27, n28, N29, U, qn28, qN29⟩⟩
    refine gc_seq ?_
    refine gc_reg ?_
    refine t 37 (.bool true) ?_
    refine gl_nil ?_
    refine ge_then ?_
    refine gc_seq ?_
    refine gc_yes ?_
    refine gc_skip ?_
    refine ge_then ?_
    refine gc_seq ?_
    refine gc_block ?_
    refine gc_seq ?_
    refine gc_reg ?_
    refine t 38 (pg bf) ?_
    refine tlr 39 [.int .u64 17, .int .u64 500, .int .u64 10] (XF.chg U.ta.cc nXF) 0 ?_
    refine ta 8 [.int .u64 0, .int .u64 0, .int .u64 0] 41 (pg) ?_
    intro v30 g31 Xg31 hg31 B
    replace U := U.new Xg31 hg31 B
    clear Xg31 hg31 B
    refine ts (U.bk 0 rfl) 0 (.agg #[.int .u64 17, .int .u64 500, .int .u64 10]) [.int .u64 17, .int .u64 500, .int .u64 10] [.int .u64 17, .int .u64 500, .int .u64 10] ?_
    intro v32 Y C
    replace U := U.put 0 rfl C Y (by decide)
    clear Y C
    refine gl_nil ?_
    refine ge_then ?_
    refine gc_seq ?_
    refine gc_reg ?_
    refine t 41 (pg g) ?_
    refine t 42 (pg g31) ?_
    refine tl 43 (.int .u64 17) (U.bk 0 rfl) 0 ?_
    refine t 44 (pq g31 1) ?_
    refine tl 45 (.int .u64 500) (U.bk 0 rfl) 1 ?_
    refine t 46 (pq g31 2) ?_
    refine tl 47 (.int .u64 10) (U.bk 0 rfl) 2 ?_
    refine tc 48 55 #[pg g, .int .u64 17, .int .u64 500, .int .u64 10] (create_n U.ta.sx  (by omega) (by omega)) ?_
    rintro _ v36 ⟨K33, n34, N35, rfl, S, qn34, qN35, hK, hC⟩
    refine ⟨_, rfl, ?_⟩
    have L := U.lt
    replace U := U.op S hK hC
    clear L S hK hC
    refine t 40 (.tuple #[.agg #[.slice none 0 0], .int .i64 90]) ?_
    refine t 49 (.agg #[.slice none 0 0]) ?_
    refine t 50 (.int .i64 90) ?_
    refine ta 9 [.slice none 0 0] 51 (pg) ?_
    intro v37 g38 Xg38 hg38 B
    replace U := U.new Xg38 hg38 B
    clear Xg38 hg38 B
    refine ts (U.bk 0 rfl) 0 (.agg #[.slice none 0 0]) [.slice none 0 0] [.slice none 0 0] ?_
    intro v39 Y C
    replace U := U.put 0 rfl C Y (by decide)
    clear Y C
    refine t 10 (.int .i64 90) ?_
    refine gl_nil ?_
    refine ge_then ?_
    refine gc_fr [(4, pg g), (8, pg g31), (9, pg g38), (10, .int .i64 90), (34, .slice (some ⟨bf, 0, none⟩) 1 c'), (35, .int .i64 1), (36, .int .i64 0), (37, .bool true), (38, pg bf), (39, .agg #[.int .u64 17, .int .u64 500, .int .u64 10]), (40, .tuple #[.agg #[.slice none 0 0], .int .i64 90]), (41, pg g), (42, pg g31), (43, .int .u64 17), (44, pq g31 1), (45, .int .u64 500), (46, pq g31 2), (47, .int .u64 10), (48, .tuple #[.agg #[.slice none 0 0], .int .i64 90]), (49, .agg #[.slice none 0 0]), (50, .int .i64 90)] (by kernel_rfl) ?_
    refine gc_seq ?_
    refine gc_reg ?_
    refine t 51 (.int .i64 90) ?_
    refine t 52 (.bool true) ?_
    refine gl_nil ?_
    refine ge_then ?_
    refine gc_yes ?_
    refine gc_seq ?_
    refine gc_reg ?_
    refine t 2 (.pointer none) ?_
    refine t 3 (.int .i64 215) ?_
    refine gl_nil ?_
    refine ge_then ?_
    refine gc_ret ?_
    refine ge_br ?_
    refine ge_tr ?_
    refine ge_tr ?_
    refine ge_br ?_
    refine ge_tr ?_
    refine ge_ret (.tuple #[.pointer none, .int .i64 215]) (rs2 2 3 (by kernel_rfl) (by kernel_rfl) (by kernel_rfl)) ?_
    exact ⟨rfl, BB.trans (U.ta.cc.below (fun b k => by have := kK b k; omega) BB.size)⟩
end Fo
end Go.Proofs.YtjmkhdlhjnlbiaaGreat
