/- Several texts, joined: KyMk. -/
import Derived.Test.YtidnifmehnjipaaGreatJal
import Derived.Test.YtidnifmehnjipaaGreatJaf
namespace Go.Proofs.YtidnifmehnjipaaGreat
namespace Ks
open Go.RowKit Go.Lib Pg Gl
attribute [local go_sem] Oper.semAt_some
set_option maxRecDepth 100000
set_option linter.unusedVariables false
set_option linter.unusedSimpArgs false
theorem fo_f {w : World} {k : Int} {n : Nat} {m0 m1 : Int} (hf : Ky.frm k = ((n : Int), m0, m1)) : Calls Tryz.prog 76 #[.int .i64 k] w fun e w' => e = .returned (.agg #[.int .i64 (n : Int), .int .u8 m0, .int .u8 m1]) ∧ Below w.heap.size w w' := by
  have u := Ky.formOf_any (w := w) (k := k)
  rw [hf] at u
  exact u
theorem usesA_b {w : World} {n x y : Int} {r : Bool} (h : decide (8 < n) = r) : Calls Tryz.prog 77 #[.agg #[.int .i64 n, .int .u8 x, .int .u8 y]] w fun e w' => e = .returned (.bool r) ∧ Below w.heap.size w w' := by
  subst h
  exact Ky.usesA_any (w := w) (n := n) (x := x) (y := y)
theorem usesB_b {w : World} {n x y : Int} {r : Bool} (h : decide (16 < n) = r) : Calls Tryz.prog 78 #[.agg #[.int .i64 n, .int .u8 x, .int .u8 y]] w fun e w' => e = .returned (.bool r) ∧ Below w.heap.size w w' := by
  subst h
  exact Ky.usesB_any (w := w) (n := n) (x := x) (y := y)
theorem turned_b {w : World} {k a : Int} (h0 : 0 ≤ a) (h1 : a < 18446744073709551616) : Calls Tryz.prog 80 #[.int .i64 k, .int .u64 a] w fun e w' => e = .returned (.int .u64 (Ky.tn k a)) ∧ Below w.heap.size w w' := by
  refine (Ky.turned_any h0 h1).mono ?_
  rintro e w' ⟨rfl, rfl⟩
  exact ⟨rfl, Below.refl _ _⟩
theorem run_eqf {ρ : Operand → Value} {w : World} {o : Oper} {n m0 m1 : Int} (hn : n ≠ 0) (ho : ∃ u v, o.op = .binOp .eql 154 u v 154 ∧ ρ u = .agg #[.int .i64 n, .int .u8 m0, .int .u8 m1] ∧ ρ v = .agg #[.int .i64 0, .int .u8 0, .int .u8 0] := by exact ⟨_, _, rfl, by kernel_rfl, by kernel_rfl⟩) : (execOp ρ o).run Tryz.prog w = .ok (.value (.bool false)) w := by
  obtain ⟨u, v, h, e1, e2⟩ := ho
  simp only [execOp, h, e1, e2]
  go_simp
  try simp [hn]
set_option maxHeartbeats 2000000 in
theorem mk_n {w : World} {k a b : Int} {n : Nat} {m0 m1 : Int} (hf : Ky.frm k = ((n : Int), m0, m1)) (hn : n ≤ 18) (h0 : 0 ≤ m0 ∧ m0 < 256) (h1 : 0 ≤ m1 ∧ m1 < 256) (ha : 0 ≤ a ∧ a < 18446744073709551616) (he : (n : Int) ≠ 0 ∧ (a ≠ 0 → 8 < (n : Int)) ∧ (b ≠ 0 → 16 < (n : Int))) : Calls Tryz.prog 32 #[.agg #[.int .i64 k, .int .u64 a, .int .u64 b]] w fun e w' => ∃ v, e = .returned (.tuple #[v, .int .i64 0]) ∧ OB w' (w.heap.size ≤ ·) v (Ky.mk k a b) ∧ Below w.heap.size w w' := by
  have BB := Below.refl w.heap.size w
  refine gc_enter (n := 46) Tryz.func32 rfl (by kernel_rfl) (by kernel_rfl) ?_
  refine gc_seq ?_
  refine gc_reg ?_
  refine ta 1 [.int .i64 k, .int .u64 a, .int .u64 b] 90 (pg) ?_
  intro v1 g2 Xg2 hg2 B
  have yg2 := Nat.le_trans BB.size hg2
  skip
  replace BB := joinB BB B
  clear B
  refine t 2 (.slice none 0 0) ?_
  refine t 3 (.int .i64 0) ?_
  refine gl_nil ?_
  refine ge_then ?_
  refine gc_seq ?_
  refine gc_reg ?_
  refine t 6 (pg g2) ?_
  refine tl 7 (.int .i64 k) Xg2 0 ?_
  refine tc 8 76 #[.int .i64 k] (fo_f hf) ?_
  rintro _ v3 ⟨rfl, B⟩
  refine ⟨_, rfl, ?_⟩
  replace BB := joinB BB B
  replace Xg2 := Xg2.keep B
  clear B
  have lXg2 := Xg2.lt
  refine ta 4 [.int .i64 0, .int .u8 0, .int .u8 0] 154 (pg) ?_
  intro v4 g5 Xg5 hg5 B
  have yg5 := Nat.le_trans BB.size hg5
  have lXg2g5 := Xg2.lt
  replace BB := joinB BB B
  replace Xg2 := Xg2.keep B
  clear B
  refine ts Xg5 0 (.agg #[.int .i64 (n : Int), .int .u8 m0, .int .u8 m1]) [.int .i64 (n : Int), .int .u8 m0, .int .u8 m1] [.int .i64 (n : Int), .int .u8 m0, .int .u8 m1] ?_
  intro v6 Y C
  replace BB := belowC BB C (by omega)
  replace Xg2 := Xg2.chg C (show g2 ≠ g5 by omega)
  clear C Xg5
  have Xg5 := Y
  clear Y
  refine gl_nil ?_
  refine ge_then ?_
  refine gc_join (fun (_ : Unit) => [(1, pg g2), (4, pg g5), (31, .bool false)]) (fun _ w' => Below w.heap.size w w' ∧ Blk w' g2 [.int .i64 k, .int .u64 a, .int .u64 b] 90 ∧ Blk w' g5 [.int .i64 (n : Int), .int .u8 m0, .int .u8 m1] 154) ?_ ?_
  · refine gc_seq ?_
    refine gc_reg ?_
    refine tlr 9 [.int .i64 (n : Int), .int .u8 m0, .int .u8 m1] Xg5 0 ?_
    refine t 10 (.agg #[.int .i64 0, .int .u8 0, .int .u8 0]) ?_
    refine tr 11 (.bool false) (run_eqf (n := (n : Int)) (m0 := m0) (m1 := m1) he.1) ?_
    refine t 12 (.bool false) ?_
    refine t 13 (pq g2 1) ?_
    refine tl 14 (.int .u64 a) Xg2 1 ?_
    by_cases c7 : (a : Int) = 0
    · refine tq 15 (.bool ((a : Int) != 0)) (.bool false) (congrArg Value.bool (bne_eq_false_iff_eq.2 c7)) ?_
      refine t 16 (.bool false) ?_
      refine tn 17 ?_
      refine tn 18 ?_
      refine tn 19 ?_
      refine t 20 (.bool false) ?_
      refine t 21 (.bool false) ?_
      refine t 22 (.bool false) ?_
      refine t 23 (pq g2 2) ?_
      refine tl 24 (.int .u64 b) Xg2 2 ?_
      by_cases c8 : (b : Int) = 0
      · refine tq 25 (.bool ((b : Int) != 0)) (.bool false) (congrArg Value.bool (bne_eq_false_iff_eq.2 c8)) ?_
        refine t 26 (.bool false) ?_
        refine tn 27 ?_
        refine tn 28 ?_
        refine tn 29 ?_
        refine t 30 (.bool false) ?_
        refine t 31 (.bool false) ?_
        refine gl_nil ?_
        refine ge_then ?_
        refine gc_fr [(1, pg g2), (2, .slice none 0 0), (3, .int .i64 0), (4, pg g5), (31, .bool false)] (by kernel_rfl) ?_
        refine gc_no ?_
        refine gc_skip ?_
        exact ge_join () ⟨BB, Xg2, Xg5⟩ (by kernel_rfl)
      · refine tq 25 (.bool ((b : Int) != 0)) (.bool true) (congrArg Value.bool (bne_iff_ne.2 c8)) ?_
        refine t 26 (.bool true) ?_
        refine tlr 27 [.int .i64 (n : Int), .int .u8 m0, .int .u8 m1] Xg5 0 ?_
        refine tc 28 78 #[.agg #[.int .i64 (n : Int), .int .u8 m0, .int .u8 m1]] (usesB_b (r := true) (by exact decide_eq_true (he.2.2 (by omega)))) ?_
        rintro _ v9 ⟨rfl, B⟩
        refine ⟨_, rfl, ?_⟩
        replace BB := joinB BB B
        replace Xg2 := Xg2.keep B
        replace Xg5 := Xg5.keep B
        clear B
        refine t 29 (.bool false) ?_
        refine t 30 (.bool false) ?_
        refine t 31 (.bool false) ?_
        refine gl_nil ?_
        refine ge_then ?_
        refine gc_fr [(1, pg g2), (2, .slice none 0 0), (3, .int .i64 0), (4, pg g5), (31, .bool false)] (by kernel_rfl) ?_
        refine gc_no ?_
        refine gc_skip ?_
        exact ge_join () ⟨BB, Xg2, Xg5⟩ (by kernel_rfl)
    · refine tq 15 (.bool ((a : Int) != 0)) (.bool true) (congrArg Value.bool (bne_iff_ne.2 c7)) ?_
      refine t 16 (.bool true) ?_
      refine tlr 17 [.int .i64 (n : Int), .int .u8 m0, .int .u8 m1] Xg5 0 ?_
      refine tc 18 77 #[.agg #[.int .i64 (n : Int), .int .u8 m0, .int .u8 m1]] (usesA_b (r := true) (by exact decide_eq_true (he.2.1 (by omega)))) ?_
      rintro _ v10 ⟨rfl, B⟩
      refine ⟨_, rfl, ?_⟩
      replace BB := joinB BB B
      replace Xg2 := Xg2.keep B
      replace Xg5 := Xg5.keep B
      clear B
      refine t 19 (.bool false) ?_
      refine t 20 (.bool false) ?_
      refine t 21 (.bool false) ?_
      refine t 22 (.bool false) ?_
      refine t 23 (pq g2 2) ?_
      refine tl 24 (.int .u64 b) Xg2 2 ?_
      by_cases c11 : (b : Int) = 0
      · refine tq 25 (.bool ((b : Int) != 0)) (.bool false) (congrArg Value.bool (bne_eq_false_iff_eq.2 c11)) ?_
        refine t 26 (.bool false) ?_
        refine tn 27 ?_
        refine tn 28 ?_
        refine tn 29 ?_
        refine t 30 (.bool false) ?_
        refine t 31 (.bool false) ?_
        refine gl_nil ?_
        refine ge_then ?_
        refine gc_fr [(1, pg g2), (2, .slice none 0 0), (3, .int .i64 0), (4, pg g5), (31, .bool false)] (by kernel_rfl) ?_
        refine gc_no ?_
        refine gc_skip ?_
        exact ge_join () ⟨BB, Xg2, Xg5⟩ (by kernel_rfl)
      · refine tq 25 (.bool ((b : Int) != 0)) (.bool true) (congrArg Value.bool (bne_iff_ne.2 c11)) ?_
        refine t 26 (.bool true) ?_
        refine tlr 27 [.int .i64 (n : Int), .int .u8 m0, .int .u8 m1] Xg5 0 ?_
        refine tc 28 78 #[.agg #[.int .i64 (n : Int), .int .u8 m0, .int .u8 m1]] (usesB_b (r := true) (by exact decide_eq_true (he.2.2 (by omega)))) ?_
        rintro _ v12 ⟨rfl, B⟩
        refine ⟨_, rfl, ?_⟩
        replace BB := joinB BB B
        replace Xg2 := Xg2.keep B
        replace Xg5 := Xg5.keep B
        clear B
        refine t 29 (.bool false) ?_
        refine t 30 (.bool false) ?_
        refine t 31 (.bool false) ?_
        refine gl_nil ?_
        refine ge_then ?_
        refine gc_fr [(1, pg g2), (2, .slice none 0 0), (3, .int .i64 0), (4, pg g5), (31, .bool false)] (by kernel_rfl) ?_
        refine gc_no ?_
        refine gc_skip ?_
        exact ge_join () ⟨BB, Xg2, Xg5⟩ (by kernel_rfl)
  clear Xg2 Xg5 BB
  rintro _ v13 ⟨BB, Xg2, Xg5⟩
  refine gc_seq ?_
  replace BB := BB.drew
  replace Xg2 := Xg2.drew
  replace Xg5 := Xg5.drew
  refine gc_draw (fun w' => Blk w' g5 [.int .i64 (n : Int), .int .u8 m0, .int .u8 m1] 154 ∧ Blk w' g2 [.int .i64 k, .int .u64 a, .int .u64 b] 90) (fun _ => false) ⟨Xg5, Xg2⟩ ?_
  refine zlr 0 32 [.int .i64 (n : Int), .int .u8 m0, .int .u8 m1] (fun _ h => h.1) 0 ?_
  refine z 1 33 (pg g2) ?_
  refine zl 2 34 (.int .i64 k) (fun _ h => h.2) 0 ?_
  refine z 3 35 (pq g2 1) ?_
  refine zl 4 36 (.int .u64 a) (fun _ h => h.2) 1 ?_
  refine zc 5 37 80 #[.int .i64 k, .int .u64 a] (turned_b ha.1 ha.2) ?_
  rintro _ v14 ⟨rfl, B⟩
  replace BB := joinB BB B
  replace Xg2 := Xg2.keep B
  replace Xg5 := Xg5.keep B
  clear B
  refine ⟨_, rfl, ⟨Xg5, Xg2⟩, ?_⟩
  obtain ⟨T, hT⟩ : ∃ T, T = (v14).heap.size := ⟨_, rfl⟩
  have hTw : w.heap.size ≤ T := by rw [hT]; exact BB.size
  refine zc 6 38 79 #[.agg #[.int .i64 (n : Int), .int .u8 m0, .int .u8 m1], .int .u64 (Ky.tn k a)] (Ky.begin_any (n := n) (a := Ky.tn k a) (by omega) h0 h1) ?_
  rintro _ v15 ⟨u, rfl, U, B⟩
  rw [← hT] at U
  have Bs := B.size
  replace BB := joinB BB B
  replace Xg2 := Xg2.keep B
  replace Xg5 := Xg5.keep B
  clear B
  have hTs : T ≤ _ := Nat.le_trans (Nat.le_of_eq hT) Bs
  refine ⟨_, rfl, ⟨Xg5, Xg2⟩, ?_⟩
  refine z 7 5 (u) ?_
  refine gz_done ?_
  refine ge_then ?_
  refine gc_seq ?_
  refine gc_seq ?_
  refine gc_reg ?_
  refine tlr 39 [.int .i64 (n : Int), .int .u8 m0, .int .u8 m1] Xg5 0 ?_
  by_cases c16 : (16 : Int) < n
  · refine tc 40 78 #[.agg #[.int .i64 (n : Int), .int .u8 m0, .int .u8 m1]] (usesB_b (r := true) (decide_eq_true c16)) ?_
    rintro _ v17 ⟨rfl, B⟩
    refine ⟨_, rfl, ?_⟩
    replace BB := joinB BB B
    replace Xg2 := Xg2.keep B
    replace Xg5 := Xg5.keep B
    replace U := U.keep B
    replace hTs := Nat.le_trans hTs B.size
    clear B
    refine gl_nil ?_
    refine ge_then ?_
    refine gc_yes ?_
    refine gc_reg ?_
    refine t 41 (u) ?_
    refine t 42 (pq g2 2) ?_
    refine tl 43 (.int .u64 b) Xg2 2 ?_
    clear Xg2
    clear Xg5
    refine tc 44 81 #[u, .int .u64 b] (Ky.appendNumber_any U hTs (Nat.le_trans (Ky.mkb_len _ _) (by decide))) ?_
    rintro _ v18 ⟨u2, rfl, U2, B2⟩
    refine ⟨_, rfl, ?_⟩
    replace BB := BB.trans (B2.mono hTw)
    clear U
    refine t 5 (u2) ?_
    refine gl_nil ?_
    refine ge_then ?_
    refine gc_fr [(5, u2)] (by kernel_rfl) ?_
    refine gc_seq ?_
    refine gc_reg ?_
    refine t 45 (u2) ?_
    refine t 2 (u2) ?_
    refine t 3 (.int .i64 0) ?_
    refine gl_nil ?_
    refine ge_then ?_
    refine gc_ret ?_
    refine ge_ret (.tuple #[u2, .int .i64 0]) (rs2 2 3 (by kernel_rfl) (by kernel_rfl) (by kernel_rfl)) ?_
    refine ⟨_, rfl, ?_, BB⟩
    rw [show Ky.mk k a b = _ by unfold Ky.mk; rw [hf, if_pos (show (16 : Int) < (n : Int) from c16)]]
    exact (U2).mono (fun b _ h => Nat.le_trans hTw h)
  · refine tc 40 78 #[.agg #[.int .i64 (n : Int), .int .u8 m0, .int .u8 m1]] (usesB_b (r := false) (decide_eq_false c16)) ?_
    rintro _ v19 ⟨rfl, B⟩
    refine ⟨_, rfl, ?_⟩
    replace BB := joinB BB B
    replace Xg2 := Xg2.keep B
    replace Xg5 := Xg5.keep B
    replace U := U.keep B
    replace hTs := Nat.le_trans hTs B.size
    clear B
    refine gl_nil ?_
    refine ge_then ?_
    refine gc_no ?_
    refine gc_skip ?_
    refine ge_then ?_
    refine gc_seq ?_
    refine gc_reg ?_
    refine t 45 (u) ?_
    refine t 2 (u) ?_
    refine t 3 (.int .i64 0) ?_
    refine gl_nil ?_
    refine ge_then ?_
    refine gc_fr [(2, u), (3, .int .i64 0)] (by kernel_rfl) ?_
    refine gc_ret ?_
    refine ge_ret (.tuple #[u, .int .i64 0]) (rs2 2 3 (by kernel_rfl) (by kernel_rfl) (by kernel_rfl)) ?_
    refine ⟨_, rfl, ?_, BB⟩
    rw [show Ky.mk k a b = _ by unfold Ky.mk; rw [hf, if_neg (show ¬ (16 : Int) < (n : Int) from c16), List.append_nil]]
    exact (U).mono (fun b _ h => Nat.le_trans hTw h)
theorem mk_g {w : World} {k a b : Int} (ha : 0 ≤ a ∧ a < 18446744073709551616) (hE : Ky.mkE k a b = false) : Calls Tryz.prog 32 #[.agg #[.int .i64 k, .int .u64 a, .int .u64 b]] w fun e w' => ∃ v, e = .returned (.tuple #[v, .int .i64 0]) ∧ OB w' (w.heap.size ≤ ·) v (Ky.mk k a b) ∧ Below w.heap.size w w' := by
  obtain ⟨n, m0, m1, hf, hn, hm0, hm1, hz⟩ := Ky.frm_shape k
  unfold Ky.mkE at hE
  rw [hf] at hE
  simp at hE
  exact mk_n hf hn hm0 hm1 ha ⟨by omega, fun h => by omega, fun h => by omega⟩
end Ks
end Go.Proofs.YtidnifmehnjipaaGreat
