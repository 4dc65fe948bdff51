/- Several texts, joined: GnN. -/
import Derived.Test.YtpoifdokmjhclaaGreatJyn
import Derived.Test.YtpoifdokmjhclaaGreatJyd
namespace Go.Proofs.YtpoifdokmjhclaaGreat
namespace Gn
open Go.RowKit Go.Lib Pg Lim Gl Mg
attribute [local go_sem] Oper.semAt_some
set_option maxRecDepth 100000
set_option linter.unusedVariables false
set_option linter.unusedSimpArgs false
set_option maxHeartbeats 4000000
theorem neA {ρ : Operand → Value} {w : World} {o : Oper} (x0 x1 x2 x3 x4 x5 x6 x7 x8 x9 : Int) (ho : ∃ x y, o.op = .binOp .neq 24 x y 24 ∧ ρ x = .agg #[.int .u64 x0, .int .u64 x1, .int .u64 x2, .int .u64 x3, .int .u64 x4, .int .u64 x5, .int .u64 x6, .int .u64 x7, .int .u64 x8, .int .u64 x9] ∧ ρ y = .agg #[.int .u64 x0, .int .u64 x1, .int .u64 x2, .int .u64 x3, .int .u64 x4, .int .u64 x5, .int .u64 x6, .int .u64 x7, .int .u64 x8, .int .u64 x9] := by exact ⟨_, _, rfl, by kernel_rfl, by kernel_rfl⟩) : (execOp ρ o).run Tryz.prog w = .ok (.value (.bool false)) w := by
  obtain ⟨x, y, h, hx, hy⟩ := ho
  simp only [execOp, h, hx, hy]
  go_simp
theorem neP {ρ : Operand → Value} {w : World} {o : Oper} (x0 x1 : Int) (ho : ∃ x y, o.op = .binOp .neq 43 x y 43 ∧ ρ x = .agg #[.int .u64 x0, .int .u64 x1] ∧ ρ y = .agg #[.int .u64 x0, .int .u64 x1] := by exact ⟨_, _, rfl, by kernel_rfl, by kernel_rfl⟩) : (execOp ρ o).run Tryz.prog w = .ok (.value (.bool false)) w := by
  obtain ⟨x, y, h, hx, hy⟩ := ho
  simp only [execOp, h, hx, hy]
  go_simp
theorem neF3 {ρ : Operand → Value} {w : World} {o : Oper} (x0 x1 x2 : Int) (ho : ∃ x y, o.op = .binOp .neq 45 x y 45 ∧ ρ x = .agg #[.int .u64 x0, .int .u64 x1, .int .u64 x2] ∧ ρ y = .agg #[.int .u64 x0, .int .u64 x1, .int .u64 x2] := by exact ⟨_, _, rfl, by kernel_rfl, by kernel_rfl⟩) : (execOp ρ o).run Tryz.prog w = .ok (.value (.bool false)) w := by
  obtain ⟨x, y, h, hx, hy⟩ := ho
  simp only [execOp, h, hx, hy]
  go_simp
theorem same_t {w : World} {p0 p1 p2 p3 p4 p5 p6 p7 p8 p9 : Int} {A V : List Int} {na nv b1 o1 c1 b2 o2 c2 b3 o3 c3 b4 o4 c4 : Nat} {a1 a2 a3 a4 : Option Addr} (N1 : Nl w a1 na 2 b1 o1 A) (N2 : Nl w a2 nv 3 b2 o2 V) (N3 : Nl w a3 na 2 b3 o3 A) (N4 : Nl w a4 nv 3 b4 o4 V) (hna : na ≤ 1000) (hnv : nv ≤ 1000) : Calls Tryz.prog 13 #[.agg #[.int .u64 p0, .int .u64 p1, .int .u64 p2, .int .u64 p3, .int .u64 p4, .int .u64 p5, .int .u64 p6, .int .u64 p7, .int .u64 p8, .int .u64 p9, .slice a1 na c1, .slice a2 nv c2], .agg #[.int .u64 p0, .int .u64 p1, .int .u64 p2, .int .u64 p3, .int .u64 p4, .int .u64 p5, .int .u64 p6, .int .u64 p7, .int .u64 p8, .int .u64 p9, .slice a3 na c3, .slice a4 nv c4]] w fun e w' => e = .returned (.bool true) ∧ Below w.heap.size w w' := by
  have BB := Below.refl w.heap.size w
  refine gc_enter (n := 66) Tryz.func13 rfl (by kernel_rfl) (by kernel_rfl) ?_
  refine gc_seq ?_
  refine gc_reg ?_
  refine ta 2 [.int .u64 p0, .int .u64 p1, .int .u64 p2, .int .u64 p3, .int .u64 p4, .int .u64 p5, .int .u64 p6, .int .u64 p7, .int .u64 p8, .int .u64 p9, .slice a1 na c1, .slice a2 nv c2] 28 (pg) ?_
  intro v1 g2 Xg2 hg2 B
  replace BB := joinB BB B
  clear B
  have lXg2 := Xg2.lt
  refine ta 3 [.int .u64 p0, .int .u64 p1, .int .u64 p2, .int .u64 p3, .int .u64 p4, .int .u64 p5, .int .u64 p6, .int .u64 p7, .int .u64 p8, .int .u64 p9, .slice a3 na c3, .slice a4 nv c4] 28 (pg) ?_
  intro v3 g4 Xg4 hg4 B
  replace BB := joinB BB B
  replace Xg2 := Xg2.keep B
  clear B
  refine t 4 (.bool false) ?_
  refine gl_nil ?_
  refine ge_then ?_
  refine gc_seq ?_
  refine gc_seq ?_
  refine gc_reg ?_
  refine t 7 (pg g2) ?_
  refine tlr 8 [.int .u64 p0, .int .u64 p1, .int .u64 p2, .int .u64 p3, .int .u64 p4, .int .u64 p5, .int .u64 p6, .int .u64 p7, .int .u64 p8, .int .u64 p9] Xg2 0 ?_
  refine t 9 (pg g4) ?_
  refine tlr 10 [.int .u64 p0, .int .u64 p1, .int .u64 p2, .int .u64 p3, .int .u64 p4, .int .u64 p5, .int .u64 p6, .int .u64 p7, .int .u64 p8, .int .u64 p9] Xg4 0 ?_
  refine tr 11 (.bool false) (neA p0 p1 p2 p3 p4 p5 p6 p7 p8 p9) ?_
  refine t 12 (.bool false) ?_
  refine t 13 (pq g2 10) ?_
  refine tl 14 (.slice a1 na c1) Xg2 10 ?_
  refine t 15 (.int .i64 ((na : Nat) : Int)) ?_
  refine t 16 (pq g4 10) ?_
  refine tl 17 (.slice a3 na c3) Xg4 10 ?_
  refine t 18 (.int .i64 ((na : Nat) : Int)) ?_
  refine tq 19 (.bool (((na : Nat) : Int) != ((na : Nat) : Int))) (.bool false) (congrArg Value.bool (bne_self_eq_false _)) ?_
  refine t 20 (.bool false) ?_
  refine t 21 (.bool false) ?_
  refine t 22 (pq g2 11) ?_
  refine tl 23 (.slice a2 nv c2) Xg2 11 ?_
  refine t 24 (.int .i64 ((nv : Nat) : Int)) ?_
  refine t 25 (pq g4 11) ?_
  refine tl 26 (.slice a4 nv c4) Xg4 11 ?_
  refine t 27 (.int .i64 ((nv : Nat) : Int)) ?_
  refine tq 28 (.bool (((nv : Nat) : Int) != ((nv : Nat) : Int))) (.bool false) (congrArg Value.bool (bne_self_eq_false _)) ?_
  refine t 29 (.bool false) ?_
  refine gl_nil ?_
  refine ge_then ?_
  refine gc_fr [(2, pg g2), (3, pg g4), (4, .bool false), (29, .bool false)] (by kernel_rfl) ?_
  refine gc_no ?_
  refine gc_skip ?_
  refine ge_then ?_
  refine gc_seq ?_
  refine gc_seq ?_
  refine gc_reg ?_
  refine t 5 (.int .i64 0) ?_
  refine gl_nil ?_
  refine ge_then ?_
  refine gc_block ?_
  refine gc_loop (fun s => na - s) (fun (s : Nat) => [(2, pg g2), (3, pg g4), (5, .int .i64 (s : Int))]) (fun s w' => s ≤ na ∧ Below w.heap.size w w' ∧ Blk w' g2 [.int .u64 p0, .int .u64 p1, .int .u64 p2, .int .u64 p3, .int .u64 p4, .int .u64 p5, .int .u64 p6, .int .u64 p7, .int .u64 p8, .int .u64 p9, .slice a1 na c1, .slice a2 nv c2] 28 ∧ Blk w' g4 [.int .u64 p0, .int .u64 p1, .int .u64 p2, .int .u64 p3, .int .u64 p4, .int .u64 p5, .int .u64 p6, .int .u64 p7, .int .u64 p8, .int .u64 p9, .slice a3 na c3, .slice a4 nv c4] 28) (0 : Nat) ⟨Nat.zero_le _, BB, Xg2, Xg4⟩ (by kernel_rfl) ?_
  clear BB Xg2 Xg4
  rintro i v5 ⟨hi, BB, Xg2, Xg4⟩
  refine gc_seq ?_
  refine gc_seq ?_
  refine gc_reg ?_
  refine t 30 (.int .i64 (i : Int)) ?_
  refine t 31 (pq g2 10) ?_
  refine tl 32 (.slice a1 na c1) Xg2 10 ?_
  refine t 33 (.int .i64 ((na : Nat) : Int)) ?_
  by_cases ci : (i : Int) < ((na : Nat) : Int)
  · have hk_i : i < na := by omega
    refine tq 34 (.bool (decide ((i : Int) < ((na : Nat) : Int)))) (.bool true) (congrArg Value.bool (decide_eq_true ci)) ?_
    refine gl_nil ?_
    refine ge_then ?_
    refine gc_yes ?_
    refine gc_skip ?_
    refine ge_then ?_
    refine gc_seq ?_
    refine gc_block ?_
    refine gc_seq ?_
    replace BB := BB.drew
    replace Xg2 := Xg2.drew
    replace Xg4 := Xg4.drew
    refine gc_draw (fun w' => Blk w' g2 [.int .u64 p0, .int .u64 p1, .int .u64 p2, .int .u64 p3, .int .u64 p4, .int .u64 p5, .int .u64 p6, .int .u64 p7, .int .u64 p8, .int .u64 p9, .slice a1 na c1, .slice a2 nv c2] 28 ∧ Blk w' g4 [.int .u64 p0, .int .u64 p1, .int .u64 p2, .int .u64 p3, .int .u64 p4, .int .u64 p5, .int .u64 p6, .int .u64 p7, .int .u64 p8, .int .u64 p9, .slice a3 na c3, .slice a4 nv c4] 28 ∧ (Nl w' a1 na 2 b1 o1 A ∧ Nl w' a3 na 2 b3 o3 A)) (fun _ => false) ⟨Xg2, Xg4, ⟨N1.keep BB, N3.keep BB⟩⟩ ?_
    refine z 0 37 (pq g2 10) ?_
    refine zl 1 38 (.slice a1 na c1) (fun _ h => h.1) 10 ?_
    refine z 2 39 (.int .i64 (i : Int)) ?_
    refine zr 3 40 (pq b1 (o1 + i * 2)) (fun _ _ => run_ixa 2 b1 o1 na c1 i hk_i N1.ptr) ?_
    refine zr 4 41 (.agg #[.int .u64 (nth A (i * 2)), .int .u64 (nth A (i * 2 + 1))]) (fun _ h => run_ldP (h.2.2.1) hk_i (fun _ _ e => e)) ?_
    refine z 5 42 (pq g4 10) ?_
    refine zl 6 43 (.slice a3 na c3) (fun _ h => h.2.1) 10 ?_
    refine z 7 44 (.int .i64 (i : Int)) ?_
    refine zr 8 45 (pq b3 (o3 + i * 2)) (fun _ _ => run_ixa 2 b3 o3 na c3 i hk_i N3.ptr) ?_
    refine zr 9 46 (.agg #[.int .u64 (nth A (i * 2)), .int .u64 (nth A (i * 2 + 1))]) (fun _ h => run_ldP (h.2.2.2) hk_i (fun _ _ e => e)) ?_
    refine zr 10 47 (.bool false) (fun _ _ => neP (nth A (i * 2)) (nth A (i * 2 + 1))) ?_
    refine gz_done ?_
    refine ge_then ?_
    refine gc_fr [(2, pg g2), (3, pg g4), (5, .int .i64 (i : Int)), (30, .int .i64 (i : Int)), (31, pq g2 10), (32, .slice a1 na c1), (33, .int .i64 ((na : Nat) : Int)), (34, .bool true), (37, pq g2 10), (38, .slice a1 na c1), (39, .int .i64 (i : Int)), (40, pq b1 (o1 + i * 2)), (41, .agg #[.int .u64 (nth A (i * 2)), .int .u64 (nth A (i * 2 + 1))]), (42, pq g4 10), (43, .slice a3 na c3), (44, .int .i64 (i : Int)), (45, pq b3 (o3 + i * 2)), (46, .agg #[.int .u64 (nth A (i * 2)), .int .u64 (nth A (i * 2 + 1))]), (47, .bool false)] (by kernel_rfl) ?_
    refine gc_no ?_
    refine gc_skip ?_
    refine ge_bn ?_
    refine ge_then ?_
    refine gc_reg ?_
    refine t 35 (.int .i64 (i : Int)) ?_
    refine tq 36 (.int .i64 (IntKind.i64.wrap ((i : Int) + 1))) (.int .i64 ((i : Int) + 1)) (wi (by omega)) ?_
    refine t 5 (.int .i64 ((i : Int) + 1)) ?_
    refine gl_nil ?_
    exact ge_round (i + 1) (by show na - (i + 1) < na - i; omega) ⟨hk_i, BB, Xg2, Xg4⟩ (by kernel_rfl)
  · refine tq 34 (.bool (decide ((i : Int) < ((na : Nat) : Int)))) (.bool false) (congrArg Value.bool (decide_eq_false ci)) ?_
    refine gl_nil ?_
    refine ge_then ?_
    refine gc_no ?_
    refine gc_exit ?_
    refine ge_tx ?_
    refine ge_tx ?_
    refine ge_bx ?_
    refine ge_then ?_
    refine gc_seq ?_
    refine gc_seq ?_
    refine gc_reg ?_
    refine t 6 (.int .i64 0) ?_
    refine gl_nil ?_
    refine ge_then ?_
    refine gc_block ?_
    refine gc_loop (fun s => nv - s) (fun (s : Nat) => [(2, pg g2), (3, pg g4), (6, .int .i64 (s : Int))]) (fun s w' => s ≤ nv ∧ Below w.heap.size w w' ∧ Blk w' g2 [.int .u64 p0, .int .u64 p1, .int .u64 p2, .int .u64 p3, .int .u64 p4, .int .u64 p5, .int .u64 p6, .int .u64 p7, .int .u64 p8, .int .u64 p9, .slice a1 na c1, .slice a2 nv c2] 28 ∧ Blk w' g4 [.int .u64 p0, .int .u64 p1, .int .u64 p2, .int .u64 p3, .int .u64 p4, .int .u64 p5, .int .u64 p6, .int .u64 p7, .int .u64 p8, .int .u64 p9, .slice a3 na c3, .slice a4 nv c4] 28) (0 : Nat) ⟨Nat.zero_le _, BB, Xg2, Xg4⟩ (by kernel_rfl) ?_
    clear BB Xg2 Xg4
    rintro i v6 ⟨hi, BB, Xg2, Xg4⟩
    refine gc_seq ?_
    refine gc_seq ?_
    refine gc_reg ?_
    refine t 48 (.int .i64 (i : Int)) ?_
    refine t 49 (pq g2 11) ?_
    refine tl 50 (.slice a2 nv c2) Xg2 11 ?_
    refine t 51 (.int .i64 ((nv : Nat) : Int)) ?_
    by_cases ci : (i : Int) < ((nv : Nat) : Int)
    · have hk_i : i < nv := by omega
      refine tq 52 (.bool (decide ((i : Int) < ((nv : Nat) : Int)))) (.bool true) (congrArg Value.bool (decide_eq_true ci)) ?_
      refine gl_nil ?_
      refine ge_then ?_
      refine gc_yes ?_
      refine gc_skip ?_
      refine ge_then ?_
      refine gc_seq ?_
      refine gc_block ?_
      refine gc_seq ?_
      replace BB := BB.drew
      replace Xg2 := Xg2.drew
      replace Xg4 := Xg4.drew
      refine gc_draw (fun w' => Blk w' g2 [.int .u64 p0, .int .u64 p1, .int .u64 p2, .int .u64 p3, .int .u64 p4, .int .u64 p5, .int .u64 p6, .int .u64 p7, .int .u64 p8, .int .u64 p9, .slice a1 na c1, .slice a2 nv c2] 28 ∧ Blk w' g4 [.int .u64 p0, .int .u64 p1, .int .u64 p2, .int .u64 p3, .int .u64 p4, .int .u64 p5, .int .u64 p6, .int .u64 p7, .int .u64 p8, .int .u64 p9, .slice a3 na c3, .slice a4 nv c4] 28 ∧ (Nl w' a2 nv 3 b2 o2 V ∧ Nl w' a4 nv 3 b4 o4 V)) (fun _ => false) ⟨Xg2, Xg4, ⟨N2.keep BB, N4.keep BB⟩⟩ ?_
      refine z 0 55 (pq g2 11) ?_
      refine zl 1 56 (.slice a2 nv c2) (fun _ h => h.1) 11 ?_
      refine z 2 57 (.int .i64 (i : Int)) ?_
      refine zr 3 58 (pq b2 (o2 + i * 3)) (fun _ _ => run_ixa 3 b2 o2 nv c2 i hk_i N2.ptr) ?_
      refine zr 4 59 (.agg #[.int .u64 (nth V (i * 3)), .int .u64 (nth V (i * 3 + 1)), .int .u64 (nth V (i * 3 + 2))]) (fun _ h => run_ldF (h.2.2.1) hk_i (fun _ _ e => e)) ?_
      refine z 5 60 (pq g4 11) ?_
      refine zl 6 61 (.slice a4 nv c4) (fun _ h => h.2.1) 11 ?_
      refine z 7 62 (.int .i64 (i : Int)) ?_
      refine zr 8 63 (pq b4 (o4 + i * 3)) (fun _ _ => run_ixa 3 b4 o4 nv c4 i hk_i N4.ptr) ?_
      refine zr 9 64 (.agg #[.int .u64 (nth V (i * 3)), .int .u64 (nth V (i * 3 + 1)), .int .u64 (nth V (i * 3 + 2))]) (fun _ h => run_ldF (h.2.2.2) hk_i (fun _ _ e => e)) ?_
      refine zr 10 65 (.bool false) (fun _ _ => neF3 (nth V (i * 3)) (nth V (i * 3 + 1)) (nth V (i * 3 + 2))) ?_
      refine gz_done ?_
      refine ge_then ?_
      refine gc_fr [(2, pg g2), (3, pg g4), (6, .int .i64 (i : Int)), (48, .int .i64 (i : Int)), (49, pq g2 11), (50, .slice a2 nv c2), (51, .int .i64 ((nv : Nat) : Int)), (52, .bool true), (55, pq g2 11), (56, .slice a2 nv c2), (57, .int .i64 (i : Int)), (58, pq b2 (o2 + i * 3)), (59, .agg #[.int .u64 (nth V (i * 3)), .int .u64 (nth V (i * 3 + 1)), .int .u64 (nth V (i * 3 + 2))]), (60, pq g4 11), (61, .slice a4 nv c4), (62, .int .i64 (i : Int)), (63, pq b4 (o4 + i * 3)), (64, .agg #[.int .u64 (nth V (i * 3)), .int .u64 (nth V (i * 3 + 1)), .int .u64 (nth V (i * 3 + 2))]), (65, .bool false)] (by kernel_rfl) ?_
      refine gc_no ?_
      refine gc_skip ?_
      refine ge_bn ?_
      refine ge_then ?_
      refine gc_reg ?_
      refine t 53 (.int .i64 (i : Int)) ?_
      refine tq 54 (.int .i64 (IntKind.i64.wrap ((i : Int) + 1))) (.int .i64 ((i : Int) + 1)) (wi (by omega)) ?_
      refine t 6 (.int .i64 ((i : Int) + 1)) ?_
      refine gl_nil ?_
      exact ge_round (i + 1) (by show nv - (i + 1) < nv - i; omega) ⟨hk_i, BB, Xg2, Xg4⟩ (by kernel_rfl)
    · refine tq 52 (.bool (decide ((i : Int) < ((nv : Nat) : Int)))) (.bool false) (congrArg Value.bool (decide_eq_false ci)) ?_
      refine gl_nil ?_
      refine ge_then ?_
      refine gc_no ?_
      refine gc_exit ?_
      refine ge_tx ?_
      refine ge_tx ?_
      refine ge_bx ?_
      refine ge_then ?_
      refine gc_seq ?_
      refine gc_reg ?_
      refine t 4 (.bool true) ?_
      refine gl_nil ?_
      refine ge_then ?_
      refine gc_ret ?_
      refine ge_ret (.bool true) (rs1 4 (by kernel_rfl) (by kernel_rfl)) ?_
      exact ⟨rfl, BB⟩
end Gn
end Go.Proofs.YtpoifdokmjhclaaGreat
