/- Several texts, joined: SoE, SoF, SoG, SoH. -/
import Derived.Test.YtemkjdanemddpaaGreatJaa
namespace Go.Proofs.YtemkjdanemddpaaGreat
namespace So
open Go.RowKit Go.Lib Pg Gl
set_option maxRecDepth 100000
set_option linter.unusedVariables false
set_option linter.unusedSimpArgs false
set_option maxHeartbeats 4000000
structure PaE (w : World) (g N a b : Nat) (f : Nat → Int) (e : Ending) (w' : World) : Prop where
  ex : ∃ (m : Nat) (q : Bool) (h : Nat → Int), e = .returned (.tuple #[.int .i64 ((m : Nat) : Int), .bool q]) ∧ Sr w g N w' h ∧ (a ≤ m ∧ m < b) ∧ Pm a b f h ∧ (∀ k, a ≤ k → k < m → h k < h m) ∧ ∀ k, m < k → k < b → h m ≤ h k
theorem partition_any {w : World} {g N n c a b p : Nat} {f : Nat → Int} (X : Blk w g (cs N f) 31) (hn : n ≤ N) (hN : n ≤ 1000000000) (hp : a ≤ p ∧ p < b) (hb : b ≤ n) : Calls Tryz.prog 106 #[.slice (some ⟨g, 0, none⟩) n c, .int .i64 (a : Int), .int .i64 (b : Int), .int .i64 (p : Int)] w (PaE w g N a b f) := by
  have R := sr_of X
  refine gc_enter (n := 168) Tryz.func106 rfl (by kernel_rfl) (by kernel_rfl) ?_
  refine gc_seq ?_
  refine gc_reg ?_
  refine t 8 (.int .i64 0) ?_
  refine t 9 (.bool false) ?_
  refine gl_nil ?_
  refine ge_then ?_
  refine gc_seq ?_
  replace R := R.drew
  refine gc_draw (fun w' => Blk w' g (cs N f) 31) (fun i => decide (12 ≤ i)) R.blk ?_
  refine zp 0 12 (.slice (some ⟨g, 0, none⟩) n c) ?_
  refine zp 1 13 (.int .i64 (a : Int)) ?_
  refine zp 2 14 (.slice (some ⟨g, 0, none⟩) n c) ?_
  refine zp 3 15 (.int .i64 (p : Int)) ?_
  refine zp 4 16 (.slice (some ⟨g, 0, none⟩) n c) ?_
  refine zp 5 17 (.int .i64 (p : Int)) ?_
  refine zp 6 18 (pq g p) ?_ (hrun := fun _ => congr_v (by simp) (run_ixs 1 g 0 n c p (by omega)))
  refine zl 7 19 (.int .u64 (f p)) (fun _ h => h) p (hv := cs_at (by omega)) ?_
  refine zp 8 20 (.slice (some ⟨g, 0, none⟩) n c) ?_
  refine zp 9 21 (.int .i64 (a : Int)) ?_
  refine zp 10 22 (pq g a) ?_ (hrun := fun _ => congr_v (by simp) (run_ixs 1 g 0 n c a (by omega)))
  refine zl 11 23 (.int .u64 (f a)) (fun _ h => h) a (hv := cs_at (by omega)) ?_
  refine gz_late ?_
  refine yt 12 24 (pq g a) ?_ (hrun := congr_v (by simp) (run_ixs 1 g 0 n c a (by omega)))
  refine ys 13 R.blk a (.int .u64 (f p)) [.int .u64 (f p)] (cs N (pu f a (f p))) ?_ (hb := cs_fit (by omega)) (he := cs_put (by omega))
  intro v1 Y C
  replace R := R.put C Y
  clear Y C
  refine yt 14 25 (pq g p) ?_ (hrun := congr_v (by simp) (run_ixs 1 g 0 n c p (by omega)))
  refine ys 15 R.blk p (.int .u64 (f a)) [.int .u64 (f a)] (cs N (sw f a p)) ?_ (hb := cs_fit (by omega)) (he := cs_sw (by omega))
  intro v2 Y C
  replace R := R.put C Y
  clear Y C
  refine gy_done ?_
  refine ge_then ?_
  refine gc_fr [(0, .slice (some ⟨g, 0, none⟩) n c), (1, .int .i64 (a : Int)), (2, .int .i64 (b : Int)), (8, .int .i64 0), (9, .bool false)] (by kernel_rfl) ?_
  refine gc_seq ?_
  obtain ⟨f1, hf1⟩ : ∃ f1, f1 = sw f a p := ⟨_, rfl⟩
  rw [← hf1] at R
  have q1 : Pm a b f f1 := by rw [hf1]; exact Pm.sw ⟨by omega, by omega⟩ ⟨by omega, by omega⟩
  have P : Pt a b (a + 1) (b - 1) f1 := Pt.start (by omega)
  refine gc_reg ?_
  refine t 26 (.int .i64 (a : Int)) ?_
  refine tq 27 (.int .i64 (IntKind.i64.wrap ((a : Int) + 1))) (.int .i64 ((a + 1 : Nat) : Int)) ((wi (by omega)).trans (congrArg (Value.int .i64) (by omega))) ?_
  refine t 28 (.int .i64 (b : Int)) ?_
  refine tq 29 (.int .i64 (IntKind.i64.wrap ((b : Int) - 1))) (.int .i64 ((b - 1 : Nat) : Int)) ((wi (by omega)).trans (congrArg (Value.int .i64) (by omega))) ?_
  refine t 10 (.int .i64 ((a + 1 : Nat) : Int)) ?_
  refine t 11 (.int .i64 ((b - 1 : Nat) : Int)) ?_
  refine gl_nil ?_
  refine ge_then ?_
  refine gc_join (fun (x : Nat) => [(0, .slice (some ⟨g, 0, none⟩) n c), (1, .int .i64 (a : Int)), (10, .int .i64 (x : Int)), (11, .int .i64 ((b - 1 : Nat) : Int))]) (fun x w' => Sr w g N w' f1 ∧ Pt a b x (b - 1) f1 ∧ ((b - 1) < x ∨ f1 a ≤ f1 x)) ?_ ?_
  · refine gc_block ?_
    refine gc_loop (fun x => (b - 1) + 1 - x) (fun (x : Nat) => [(0, .slice (some ⟨g, 0, none⟩) n c), (1, .int .i64 (a : Int)), (10, .int .i64 (x : Int)), (11, .int .i64 ((b - 1 : Nat) : Int))]) (fun x w' => Sr w g N w' f1 ∧ Pt a b x (b - 1) f1) (a + 1 : Nat) ⟨R, P⟩ (by kernel_rfl) ?_
    clear R
    rintro i2 v3 ⟨R, P⟩
    have hbd := P.bd
    refine gc_seq ?_
    refine gc_seq ?_
    replace R := R.drew
    refine gc_draw (fun w' => Blk w' g (cs N f1) 31) (fun _ => false) R.blk ?_
    refine z 0 30 (.int .i64 (i2 : Int)) ?_
    refine z 1 31 (.int .i64 ((b - 1 : Nat) : Int)) ?_
    by_cases c4 : (i2 : Int) ≤ ((b - 1 : Nat) : Int)
    · refine zq 2 32 (.bool (decide ((i2 : Int) ≤ ((b - 1 : Nat) : Int)))) (.bool true) (congrArg Value.bool (decide_eq_true c4)) ?_
      refine z 3 33 (.bool true) ?_
      refine z 4 34 (.slice (some ⟨g, 0, none⟩) n c) ?_
      refine z 5 35 (.int .i64 (i2 : Int)) ?_
      refine zr 6 36 (pq g i2) (fun _ _ => congr_v (by simp) (run_ixs 1 g 0 n c i2 (by omega))) ?_
      refine zl 7 37 (.int .u64 (f1 i2)) (fun _ h => h) i2 (hv := cs_at (by omega)) ?_
      refine z 8 38 (.slice (some ⟨g, 0, none⟩) n c) ?_
      refine z 9 39 (.int .i64 (a : Int)) ?_
      refine zr 10 40 (pq g a) (fun _ _ => congr_v (by simp) (run_ixs 1 g 0 n c a (by omega))) ?_
      refine zl 11 41 (.int .u64 (f1 a)) (fun _ h => h) a (hv := cs_at (by omega)) ?_
      refine zc 12 42 104 #[.int .u64 (f1 i2), .int .u64 (f1 a)] (less_any) ?_
      rintro _ v5 ⟨rfl, B⟩
      replace R := R.keep B
      clear B
      refine ⟨_, rfl, R.blk, ?_⟩
      refine z 13 43 (.bool (decide (f1 i2 < f1 a))) ?_
      refine gz_done ?_
      refine ge_then ?_
      refine gc_fr [(0, .slice (some ⟨g, 0, none⟩) n c), (1, .int .i64 (a : Int)), (10, .int .i64 (i2 : Int)), (11, .int .i64 ((b - 1 : Nat) : Int)), (30, .int .i64 (i2 : Int)), (31, .int .i64 ((b - 1 : Nat) : Int)), (32, .bool true), (33, .bool true), (34, .slice (some ⟨g, 0, none⟩) n c), (35, .int .i64 (i2 : Int)), (36, pq g i2), (37, .int .u64 (f1 i2)), (38, .slice (some ⟨g, 0, none⟩) n c), (39, .int .i64 (a : Int)), (40, pq g a), (41, .int .u64 (f1 a)), (42, .bool (decide (f1 i2 < f1 a))), (43, .bool (decide (f1 i2 < f1 a)))] (by kernel_rfl) ?_
      rcases Bool.eq_false_or_eq_true (decide (f1 i2 < f1 a)) with b6 | b6
      · have d7 : f1 i2 < f1 a := of_decide_eq_true b6
        refine gc_yes (hc := congrArg Value.bool b6) ?_
        refine gc_skip ?_
        refine ge_then ?_
        refine gc_block ?_
        refine gc_reg ?_
        refine t 44 (.int .i64 (i2 : Int)) ?_
        refine tq 45 (.int .i64 (IntKind.i64.wrap ((i2 : Int) + 1))) (.int .i64 ((i2 + 1 : Nat) : Int)) ((wi (by omega)).trans (congrArg (Value.int .i64) (by omega))) ?_
        refine t 10 (.int .i64 ((i2 + 1 : Nat) : Int)) ?_
        refine gl_nil ?_
        refine ge_bn ?_
        exact ge_round (i2 + 1) (by show (b - 1) + 1 - (i2 + 1) < (b - 1) + 1 - i2; omega) ⟨R, P.inc (by omega) d7⟩ (by kernel_rfl)
      · have d8 : f1 a ≤ f1 i2 := Int.not_lt.1 (of_decide_eq_false b6)
        refine gc_no (hc := congrArg Value.bool b6) ?_
        refine gc_exit ?_
        refine ge_tx ?_
        refine ge_tx ?_
        refine ge_bx ?_
        exact ge_join (i2 : Nat) ⟨R, P, .inr d8⟩ (by kernel_rfl)
    · refine zq 2 32 (.bool (decide ((i2 : Int) ≤ ((b - 1 : Nat) : Int)))) (.bool false) (congrArg Value.bool (decide_eq_false c4)) ?_
      refine z 3 33 (.bool false) ?_
      refine zn 4 34 ?_
      refine zn 5 35 ?_
      refine zn 6 36 ?_
      refine zn 7 37 ?_
      refine zn 8 38 ?_
      refine zn 9 39 ?_
      refine zn 10 40 ?_
      refine zn 11 41 ?_
      refine zn 12 42 ?_
      refine z 13 43 (.bool false) ?_
      refine gz_done ?_
      refine ge_then ?_
      refine gc_fr [(0, .slice (some ⟨g, 0, none⟩) n c), (1, .int .i64 (a : Int)), (10, .int .i64 (i2 : Int)), (11, .int .i64 ((b - 1 : Nat) : Int)), (30, .int .i64 (i2 : Int)), (31, .int .i64 ((b - 1 : Nat) : Int)), (32, .bool false), (33, .bool false), (34, undef), (35, undef), (36, undef), (37, undef), (38, undef), (39, undef), (40, undef), (41, undef), (42, undef), (43, .bool false)] (by kernel_rfl) ?_
      refine gc_no ?_
      refine gc_exit ?_
      refine ge_tx ?_
      refine ge_tx ?_
      refine ge_bx ?_
      exact ge_join (i2 : Nat) ⟨R, P, .inl (by omega)⟩ (by kernel_rfl)
  clear R
  rintro i v9 ⟨R, P, hi⟩
  have hbd := P.bd
  refine gc_join (fun (x : Nat) => [(0, .slice (some ⟨g, 0, none⟩) n c), (1, .int .i64 (a : Int)), (10, .int .i64 (i : Int)), (11, .int .i64 (x : Int))]) (fun x w' => Sr w g N w' f1 ∧ Pt a b i x f1 ∧ (x < i ∨ f1 a ≤ f1 i) ∧ (x < i ∨ f1 x < f1 a) ∧ x ≤ (b - 1)) ?_ ?_
  · refine gc_block ?_
    refine gc_loop (fun x => x) (fun (x : Nat) => [(0, .slice (some ⟨g, 0, none⟩) n c), (1, .int .i64 (a : Int)), (10, .int .i64 (i : Int)), (11, .int .i64 (x : Int))]) (fun x w' => Sr w g N w' f1 ∧ Pt a b i x f1 ∧ (x < i ∨ f1 a ≤ f1 i) ∧ x ≤ (b - 1)) (b - 1 : Nat) ⟨R, P, hi, Nat.le_refl _⟩ (by kernel_rfl) ?_
    clear R
    rintro j2 v10 ⟨R, P, hi2, hj0⟩
    have hbd := P.bd
    refine gc_seq ?_
    refine gc_seq ?_
    replace R := R.drew
    refine gc_draw (fun w' => Blk w' g (cs N f1) 31) (fun _ => false) R.blk ?_
    refine z 0 46 (.int .i64 (i : Int)) ?_
    refine z 1 47 (.int .i64 (j2 : Int)) ?_
    by_cases c11 : (i : Int) ≤ (j2 : Int)
    · refine zq 2 48 (.bool (decide ((i : Int) ≤ (j2 : Int)))) (.bool true) (congrArg Value.bool (decide_eq_true c11)) ?_
      refine z 3 49 (.bool true) ?_
      refine z 4 50 (.slice (some ⟨g, 0, none⟩) n c) ?_
      refine z 5 51 (.int .i64 (j2 : Int)) ?_
      refine zr 6 52 (pq g j2) (fun _ _ => congr_v (by simp) (run_ixs 1 g 0 n c j2 (by omega))) ?_
      refine zl 7 53 (.int .u64 (f1 j2)) (fun _ h => h) j2 (hv := cs_at (by omega)) ?_
      refine z 8 54 (.slice (some ⟨g, 0, none⟩) n c) ?_
      refine z 9 55 (.int .i64 (a : Int)) ?_
      refine zr 10 56 (pq g a) (fun _ _ => congr_v (by simp) (run_ixs 1 g 0 n c a (by omega))) ?_
      refine zl 11 57 (.int .u64 (f1 a)) (fun _ h => h) a (hv := cs_at (by omega)) ?_
      refine zc 12 58 104 #[.int .u64 (f1 j2), .int .u64 (f1 a)] (less_any) ?_
      rintro _ v12 ⟨rfl, B⟩
      replace R := R.keep B
      clear B
      refine ⟨_, rfl, R.blk, ?_⟩
      refine z 13 59 (.bool (!(decide (f1 j2 < f1 a)))) ?_
      refine z 14 60 (.bool (!(decide (f1 j2 < f1 a)))) ?_
      refine gz_done ?_
      refine ge_then ?_
      refine gc_fr [(0, .slice (some ⟨g, 0, none⟩) n c), (1, .int .i64 (a : Int)), (10, .int .i64 (i : Int)), (11, .int .i64 (j2 : Int)), (46, .int .i64 (i : Int)), (47, .int .i64 (j2 : Int)), (48, .bool true), (49, .bool true), (50, .slice (some ⟨g, 0, none⟩) n c), (51, .int .i64 (j2 : Int)), (52, pq g j2), (53, .int .u64 (f1 j2)), (54, .slice (some ⟨g, 0, none⟩) n c), (55, .int .i64 (a : Int)), (56, pq g a), (57, .int .u64 (f1 a)), (58, .bool (decide (f1 j2 < f1 a))), (59, .bool (!(decide (f1 j2 < f1 a)))), (60, .bool (!(decide (f1 j2 < f1 a))))] (by kernel_rfl) ?_
      rcases Bool.eq_false_or_eq_true (!(decide (f1 j2 < f1 a))) with b13 | b13
      · have d14 : f1 a ≤ f1 j2 := Int.not_lt.1 (of_decide_eq_false (by simpa using b13 : decide (f1 j2 < f1 a) = false))
        refine gc_yes (hc := congrArg Value.bool b13) ?_
        refine gc_skip ?_
        refine ge_then ?_
        refine gc_block ?_
        refine gc_reg ?_
        refine t 61 (.int .i64 (j2 : Int)) ?_
        refine tq 62 (.int .i64 (IntKind.i64.wrap ((j2 : Int) - 1))) (.int .i64 ((j2 - 1 : Nat) : Int)) ((wi (by omega)).trans (congrArg (Value.int .i64) (by omega))) ?_
        refine t 11 (.int .i64 ((j2 - 1 : Nat) : Int)) ?_
        refine gl_nil ?_
        refine ge_bn ?_
        exact ge_round (j2 - 1) (by show j2 - 1 < j2; omega) ⟨R, P.dec (by omega) d14, hi2.imp_left (by omega), by show j2 - 1 ≤ _; omega⟩ (by kernel_rfl)
      · have d15 : f1 j2 < f1 a := of_decide_eq_true (by simpa using b13 : decide (f1 j2 < f1 a) = true)
        refine gc_no (hc := congrArg Value.bool b13) ?_
        refine gc_exit ?_
        refine ge_tx ?_
        refine ge_tx ?_
        refine ge_bx ?_
        exact ge_join (j2 : Nat) ⟨R, P, hi2, .inr d15, hj0⟩ (by kernel_rfl)
    · refine zq 2 48 (.bool (decide ((i : Int) ≤ (j2 : Int)))) (.bool false) (congrArg Value.bool (decide_eq_false c11)) ?_
      refine z 3 49 (.bool false) ?_
      refine zn 4 50 ?_
      refine zn 5 51 ?_
      refine zn 6 52 ?_
      refine zn 7 53 ?_
      refine zn 8 54 ?_
      refine zn 9 55 ?_
      refine zn 10 56 ?_
      refine zn 11 57 ?_
      refine zn 12 58 ?_
      refine zn 13 59 ?_
      refine z 14 60 (.bool false) ?_
      refine gz_done ?_
      refine ge_then ?_
      refine gc_fr [(0, .slice (some ⟨g, 0, none⟩) n c), (1, .int .i64 (a : Int)), (10, .int .i64 (i : Int)), (11, .int .i64 (j2 : Int)), (46, .int .i64 (i : Int)), (47, .int .i64 (j2 : Int)), (48, .bool false), (49, .bool false), (50, undef), (51, undef), (52, undef), (53, undef), (54, undef), (55, undef), (56, undef), (57, undef), (58, undef), (59, undef), (60, .bool false)] (by kernel_rfl) ?_
      refine gc_no ?_
      refine gc_exit ?_
      refine ge_tx ?_
      refine ge_tx ?_
      refine ge_bx ?_
      exact ge_join (j2 : Nat) ⟨R, P, hi2, .inl (by omega), hj0⟩ (by kernel_rfl)
  clear R
  rintro j v16 ⟨R, P, hi3, hj, hj0⟩
  have hbd := P.bd
  refine gc_seq ?_
  refine gc_seq ?_
  refine gc_reg ?_
  refine t 63 (.int .i64 (i : Int)) ?_
  refine t 64 (.int .i64 (j : Int)) ?_
  by_cases c17 : (j : Int) < (i : Int)
  · refine tq 65 (.bool (decide ((j : Int) < (i : Int)))) (.bool true) (congrArg Value.bool (decide_eq_true c17)) ?_
    refine gl_nil ?_
    refine ge_then ?_
    refine gc_yes ?_
    refine gc_seq ?_
    replace R := R.drew
    refine gc_draw (fun w' => Blk w' g (cs N f1) 31) (fun i => decide (12 ≤ i)) R.blk ?_
    refine zp 0 66 (.slice (some ⟨g, 0, none⟩) n c) ?_
    refine zp 1 67 (.int .i64 (j : Int)) ?_
    refine zp 2 68 (.slice (some ⟨g, 0, none⟩) n c) ?_
    refine zp 3 69 (.int .i64 (a : Int)) ?_
    refine zp 4 70 (.slice (some ⟨g, 0, none⟩) n c) ?_
    refine zp 5 71 (.int .i64 (a : Int)) ?_
    refine zp 6 72 (pq g a) ?_ (hrun := fun _ => congr_v (by simp) (run_ixs 1 g 0 n c a (by omega)))
    refine zl 7 73 (.int .u64 (f1 a)) (fun _ h => h) a (hv := cs_at (by omega)) ?_
    refine zp 8 74 (.slice (some ⟨g, 0, none⟩) n c) ?_
    refine zp 9 75 (.int .i64 (j : Int)) ?_
    refine zp 10 76 (pq g j) ?_ (hrun := fun _ => congr_v (by simp) (run_ixs 1 g 0 n c j (by omega)))
    refine zl 11 77 (.int .u64 (f1 j)) (fun _ h => h) j (hv := cs_at (by omega)) ?_
    refine gz_late ?_
    refine yt 12 78 (pq g j) ?_ (hrun := congr_v (by simp) (run_ixs 1 g 0 n c j (by omega)))
    refine ys 13 R.blk j (.int .u64 (f1 a)) [.int .u64 (f1 a)] (cs N (pu f1 j (f1 a))) ?_ (hb := cs_fit (by omega)) (he := cs_put (by omega))
    intro v18 Y C
    replace R := R.put C Y
    clear Y C
    refine yt 14 79 (pq g a) ?_ (hrun := congr_v (by simp) (run_ixs 1 g 0 n c a (by omega)))
    refine ys 15 R.blk a (.int .u64 (f1 j)) [.int .u64 (f1 j)] (cs N (sw f1 j a)) ?_ (hb := cs_fit (by omega)) (he := cs_sw (by omega))
    intro v19 Y C
    replace R := R.put C Y
    clear Y C
    refine gy_done ?_
    refine ge_then ?_
    refine gc_fr [(0, .slice (some ⟨g, 0, none⟩) n c), (1, .int .i64 (a : Int)), (10, .int .i64 (i : Int)), (11, .int .i64 (j : Int))] (by kernel_rfl) ?_
    refine gc_seq ?_
    refine gc_reg ?_
    refine t 80 (.int .i64 (j : Int)) ?_
    refine t 8 (.int .i64 (j : Int)) ?_
    refine t 9 (.bool true) ?_
    refine gl_nil ?_
    refine ge_then ?_
    refine gc_ret ?_
    refine ge_tr ?_
    refine ge_ret (.tuple #[.int .i64 (j : Int), .bool true]) (rs2 8 9 (by kernel_rfl) (by kernel_rfl) (by kernel_rfl)) ?_
    obtain ⟨z1, z2, z3⟩ := P.done (by omega)
    exact ⟨_, _, _, rfl, R, z1, q1.trans (Pm.sw ⟨by omega, by omega⟩ ⟨by omega, by omega⟩), z2, z3⟩
  · refine tq 65 (.bool (decide ((j : Int) < (i : Int)))) (.bool false) (congrArg Value.bool (decide_eq_false c17)) ?_
    refine gl_nil ?_
    refine ge_then ?_
    refine gc_no ?_
    refine gc_skip ?_
    refine ge_then ?_
    refine gc_seq ?_
    replace R := R.drew
    refine gc_draw (fun w' => Blk w' g (cs N f1) 31) (fun i => decide (12 ≤ i)) R.blk ?_
    refine zp 0 81 (.slice (some ⟨g, 0, none⟩) n c) ?_
    refine zp 1 82 (.int .i64 (i : Int)) ?_
    refine zp 2 83 (.slice (some ⟨g, 0, none⟩) n c) ?_
    refine zp 3 84 (.int .i64 (j : Int)) ?_
    refine zp 4 85 (.slice (some ⟨g, 0, none⟩) n c) ?_
    refine zp 5 86 (.int .i64 (j : Int)) ?_
    refine zp 6 87 (pq g j) ?_ (hrun := fun _ => congr_v (by simp) (run_ixs 1 g 0 n c j (by omega)))
    refine zl 7 88 (.int .u64 (f1 j)) (fun _ h => h) j (hv := cs_at (by omega)) ?_
    refine zp 8 89 (.slice (some ⟨g, 0, none⟩) n c) ?_
    refine zp 9 90 (.int .i64 (i : Int)) ?_
    refine zp 10 91 (pq g i) ?_ (hrun := fun _ => congr_v (by simp) (run_ixs 1 g 0 n c i (by omega)))
    refine zl 11 92 (.int .u64 (f1 i)) (fun _ h => h) i (hv := cs_at (by omega)) ?_
    refine gz_late ?_
    refine yt 12 93 (pq g i) ?_ (hrun := congr_v (by simp) (run_ixs 1 g 0 n c i (by omega)))
    refine ys 13 R.blk i (.int .u64 (f1 j)) [.int .u64 (f1 j)] (cs N (pu f1 i (f1 j))) ?_ (hb := cs_fit (by omega)) (he := cs_put (by omega))
    intro v20 Y C
    replace R := R.put C Y
    clear Y C
    refine yt 14 94 (pq g j) ?_ (hrun := congr_v (by simp) (run_ixs 1 g 0 n c j (by omega)))
    refine ys 15 R.blk j (.int .u64 (f1 i)) [.int .u64 (f1 i)] (cs N (sw f1 i j)) ?_ (hb := cs_fit (by omega)) (he := cs_sw (by omega))
    intro v21 Y C
    replace R := R.put C Y
    clear Y C
    refine gy_done ?_
    refine ge_then ?_
    refine gc_fr [(0, .slice (some ⟨g, 0, none⟩) n c), (1, .int .i64 (a : Int)), (10, .int .i64 (i : Int)), (11, .int .i64 (j : Int))] (by kernel_rfl) ?_
    refine gc_seq ?_
    refine gc_reg ?_
    refine t 95 (.int .i64 (i : Int)) ?_
    refine tq 96 (.int .i64 (IntKind.i64.wrap ((i : Int) + 1))) (.int .i64 ((i + 1 : Nat) : Int)) ((wi (by omega)).trans (congrArg (Value.int .i64) (by omega))) ?_
    refine t 10 (.int .i64 ((i + 1 : Nat) : Int)) ?_
    refine gl_nil ?_
    refine ge_then ?_
    refine gc_seq ?_
    refine gc_reg ?_
    refine t 97 (.int .i64 (j : Int)) ?_
    refine tq 98 (.int .i64 (IntKind.i64.wrap ((j : Int) - 1))) (.int .i64 ((j - 1 : Nat) : Int)) ((wi (by omega)).trans (congrArg (Value.int .i64) (by omega))) ?_
    refine t 11 (.int .i64 ((j - 1 : Nat) : Int)) ?_
    refine gl_nil ?_
    refine ge_then ?_
    refine gc_seq ?_
    refine gc_block ?_
    refine gc_loop (fun x => x.2.1) (fun (x : Nat × Nat × (Nat → Int)) => [(0, .slice (some ⟨g, 0, none⟩) n c), (1, .int .i64 (a : Int)), (10, .int .i64 (x.1 : Int)), (11, .int .i64 (x.2.1 : Int))]) (fun x w' => Sr w g N w' x.2.2 ∧ Pt a b x.1 x.2.1 x.2.2 ∧ Pm a b f x.2.2) ((i + 1, j - 1, (sw f1 i j)) : Nat × Nat × (Nat → Int)) ⟨R, P.swp (by omega) (hi3.resolve_left (by omega)) (hj.resolve_left (by omega)), q1.trans (Pm.sw ⟨by omega, by omega⟩ ⟨by omega, by omega⟩)⟩ (by kernel_rfl) ?_
    clear R
    rintro ⟨i0, j0, f2⟩ v22 ⟨R, P, q2⟩
    dsimp only at R P q2
    have hbd := P.bd
    refine gc_block ?_
    refine gc_join (fun (x : Nat) => [(0, .slice (some ⟨g, 0, none⟩) n c), (1, .int .i64 (a : Int)), (10, .int .i64 (x : Int)), (11, .int .i64 (j0 : Int))]) (fun x w' => Sr w g N w' f2 ∧ Pt a b x j0 f2 ∧ (j0 < x ∨ f2 a ≤ f2 x)) ?_ ?_
    · refine gc_block ?_
      refine gc_loop (fun x => j0 + 1 - x) (fun (x : Nat) => [(0, .slice (some ⟨g, 0, none⟩) n c), (1, .int .i64 (a : Int)), (10, .int .i64 (x : Int)), (11, .int .i64 (j0 : Int))]) (fun x w' => Sr w g N w' f2 ∧ Pt a b x j0 f2) (i0 : Nat) ⟨R, P⟩ (by kernel_rfl) ?_
      clear R
      rintro i2 v23 ⟨R, P⟩
      have hbd := P.bd
      refine gc_seq ?_
      refine gc_seq ?_
      replace R := R.drew
      refine gc_draw (fun w' => Blk w' g (cs N f2) 31) (fun _ => false) R.blk ?_
      refine z 0 99 (.int .i64 (i2 : Int)) ?_
      refine z 1 100 (.int .i64 (j0 : Int)) ?_
      by_cases c24 : (i2 : Int) ≤ (j0 : Int)
      · refine zq 2 101 (.bool (decide ((i2 : Int) ≤ (j0 : Int)))) (.bool true) (congrArg Value.bool (decide_eq_true c24)) ?_
        refine z 3 102 (.bool true) ?_
        refine z 4 103 (.slice (some ⟨g, 0, none⟩) n c) ?_
        refine z 5 104 (.int .i64 (i2 : Int)) ?_
        refine zr 6 105 (pq g i2) (fun _ _ => congr_v (by simp) (run_ixs 1 g 0 n c i2 (by omega))) ?_
        refine zl 7 106 (.int .u64 (f2 i2)) (fun _ h => h) i2 (hv := cs_at (by omega)) ?_
        refine z 8 107 (.slice (some ⟨g, 0, none⟩) n c) ?_
        refine z 9 108 (.int .i64 (a : Int)) ?_
        refine zr 10 109 (pq g a) (fun _ _ => congr_v (by simp) (run_ixs 1 g 0 n c a (by omega))) ?_
        refine zl 11 110 (.int .u64 (f2 a)) (fun _ h => h) a (hv := cs_at (by omega)) ?_
        refine zc 12 111 104 #[.int .u64 (f2 i2), .int .u64 (f2 a)] (less_any) ?_
        rintro _ v25 ⟨rfl, B⟩
        replace R := R.keep B
        clear B
        refine ⟨_, rfl, R.blk, ?_⟩
        refine z 13 112 (.bool (decide (f2 i2 < f2 a))) ?_
        refine gz_done ?_
        refine ge_then ?_
        refine gc_fr [(0, .slice (some ⟨g, 0, none⟩) n c), (1, .int .i64 (a : Int)), (10, .int .i64 (i2 : Int)), (11, .int .i64 (j0 : Int)), (99, .int .i64 (i2 : Int)), (100, .int .i64 (j0 : Int)), (101, .bool true), (102, .bool true), (103, .slice (some ⟨g, 0, none⟩) n c), (104, .int .i64 (i2 : Int)), (105, pq g i2), (106, .int .u64 (f2 i2)), (107, .slice (some ⟨g, 0, none⟩) n c), (108, .int .i64 (a : Int)), (109, pq g a), (110, .int .u64 (f2 a)), (111, .bool (decide (f2 i2 < f2 a))), (112, .bool (decide (f2 i2 < f2 a)))] (by kernel_rfl) ?_
        rcases Bool.eq_false_or_eq_true (decide (f2 i2 < f2 a)) with b26 | b26
        · have d27 : f2 i2 < f2 a := of_decide_eq_true b26
          refine gc_yes (hc := congrArg Value.bool b26) ?_
          refine gc_skip ?_
          refine ge_then ?_
          refine gc_block ?_
          refine gc_reg ?_
          refine t 113 (.int .i64 (i2 : Int)) ?_
          refine tq 114 (.int .i64 (IntKind.i64.wrap ((i2 : Int) + 1))) (.int .i64 ((i2 + 1 : Nat) : Int)) ((wi (by omega)).trans (congrArg (Value.int .i64) (by omega))) ?_
          refine t 10 (.int .i64 ((i2 + 1 : Nat) : Int)) ?_
          refine gl_nil ?_
          refine ge_bn ?_
          exact ge_round (i2 + 1) (by show j0 + 1 - (i2 + 1) < j0 + 1 - i2; omega) ⟨R, P.inc (by omega) d27⟩ (by kernel_rfl)
        · have d28 : f2 a ≤ f2 i2 := Int.not_lt.1 (of_decide_eq_false b26)
          refine gc_no (hc := congrArg Value.bool b26) ?_
          refine gc_exit ?_
          refine ge_tx ?_
          refine ge_tx ?_
          refine ge_bx ?_
          exact ge_join (i2 : Nat) ⟨R, P, .inr d28⟩ (by kernel_rfl)
      · refine zq 2 101 (.bool (decide ((i2 : Int) ≤ (j0 : Int)))) (.bool false) (congrArg Value.bool (decide_eq_false c24)) ?_
        refine z 3 102 (.bool false) ?_
        refine zn 4 103 ?_
        refine zn 5 104 ?_
        refine zn 6 105 ?_
        refine zn 7 106 ?_
        refine zn 8 107 ?_
        refine zn 9 108 ?_
        refine zn 10 109 ?_
        refine zn 11 110 ?_
        refine zn 12 111 ?_
        refine z 13 112 (.bool false) ?_
        refine gz_done ?_
        refine ge_then ?_
        refine gc_fr [(0, .slice (some ⟨g, 0, none⟩) n c), (1, .int .i64 (a : Int)), (10, .int .i64 (i2 : Int)), (11, .int .i64 (j0 : Int)), (99, .int .i64 (i2 : Int)), (100, .int .i64 (j0 : Int)), (101, .bool false), (102, .bool false), (103, undef), (104, undef), (105, undef), (106, undef), (107, undef), (108, undef), (109, undef), (110, undef), (111, undef), (112, .bool false)] (by kernel_rfl) ?_
        refine gc_no ?_
        refine gc_exit ?_
        refine ge_tx ?_
        refine ge_tx ?_
        refine ge_bx ?_
        exact ge_join (i2 : Nat) ⟨R, P, .inl (by omega)⟩ (by kernel_rfl)
    clear R
    rintro i v29 ⟨R, P, hi⟩
    have hbd := P.bd
    refine gc_join (fun (x : Nat) => [(0, .slice (some ⟨g, 0, none⟩) n c), (1, .int .i64 (a : Int)), (10, .int .i64 (i : Int)), (11, .int .i64 (x : Int))]) (fun x w' => Sr w g N w' f2 ∧ Pt a b i x f2 ∧ (x < i ∨ f2 a ≤ f2 i) ∧ (x < i ∨ f2 x < f2 a) ∧ x ≤ j0) ?_ ?_
    · refine gc_block ?_
      refine gc_loop (fun x => x) (fun (x : Nat) => [(0, .slice (some ⟨g, 0, none⟩) n c), (1, .int .i64 (a : Int)), (10, .int .i64 (i : Int)), (11, .int .i64 (x : Int))]) (fun x w' => Sr w g N w' f2 ∧ Pt a b i x f2 ∧ (x < i ∨ f2 a ≤ f2 i) ∧ x ≤ j0) (j0 : Nat) ⟨R, P, hi, Nat.le_refl _⟩ (by kernel_rfl) ?_
      clear R
      rintro j2 v30 ⟨R, P, hi2, hj0⟩
      have hbd := P.bd
      refine gc_seq ?_
      refine gc_seq ?_
      replace R := R.drew
      refine gc_draw (fun w' => Blk w' g (cs N f2) 31) (fun _ => false) R.blk ?_
      refine z 0 115 (.int .i64 (i : Int)) ?_
      refine z 1 116 (.int .i64 (j2 : Int)) ?_
      by_cases c31 : (i : Int) ≤ (j2 : Int)
      · refine zq 2 117 (.bool (decide ((i : Int) ≤ (j2 : Int)))) (.bool true) (congrArg Value.bool (decide_eq_true c31)) ?_
        refine z 3 118 (.bool true) ?_
        refine z 4 119 (.slice (some ⟨g, 0, none⟩) n c) ?_
        refine z 5 120 (.int .i64 (j2 : Int)) ?_
        refine zr 6 121 (pq g j2) (fun _ _ => congr_v (by simp) (run_ixs 1 g 0 n c j2 (by omega))) ?_
        refine zl 7 122 (.int .u64 (f2 j2)) (fun _ h => h) j2 (hv := cs_at (by omega)) ?_
        refine z 8 123 (.slice (some ⟨g, 0, none⟩) n c) ?_
        refine z 9 124 (.int .i64 (a : Int)) ?_
        refine zr 10 125 (pq g a) (fun _ _ => congr_v (by simp) (run_ixs 1 g 0 n c a (by omega))) ?_
        refine zl 11 126 (.int .u64 (f2 a)) (fun _ h => h) a (hv := cs_at (by omega)) ?_
        refine zc 12 127 104 #[.int .u64 (f2 j2), .int .u64 (f2 a)] (less_any) ?_
        rintro _ v32 ⟨rfl, B⟩
        replace R := R.keep B
        clear B
        refine ⟨_, rfl, R.blk, ?_⟩
        refine z 13 128 (.bool (!(decide (f2 j2 < f2 a)))) ?_
        refine z 14 129 (.bool (!(decide (f2 j2 < f2 a)))) ?_
        refine gz_done ?_
        refine ge_then ?_
        refine gc_fr [(0, .slice (some ⟨g, 0, none⟩) n c), (1, .int .i64 (a : Int)), (10, .int .i64 (i : Int)), (11, .int .i64 (j2 : Int)), (115, .int .i64 (i : Int)), (116, .int .i64 (j2 : Int)), (117, .bool true), (118, .bool true), (119, .slice (some ⟨g, 0, none⟩) n c), (120, .int .i64 (j2 : Int)), (121, pq g j2), (122, .int .u64 (f2 j2)), (123, .slice (some ⟨g, 0, none⟩) n c), (124, .int .i64 (a : Int)), (125, pq g a), (126, .int .u64 (f2 a)), (127, .bool (decide (f2 j2 < f2 a))), (128, .bool (!(decide (f2 j2 < f2 a)))), (129, .bool (!(decide (f2 j2 < f2 a))))] (by kernel_rfl) ?_
        rcases Bool.eq_false_or_eq_true (!(decide (f2 j2 < f2 a))) with b33 | b33
        · have d34 : f2 a ≤ f2 j2 := Int.not_lt.1 (of_decide_eq_false (by simpa using b33 : decide (f2 j2 < f2 a) = false))
          refine gc_yes (hc := congrArg Value.bool b33) ?_
          refine gc_skip ?_
          refine ge_then ?_
          refine gc_block ?_
          refine gc_reg ?_
          refine t 130 (.int .i64 (j2 : Int)) ?_
          refine tq 131 (.int .i64 (IntKind.i64.wrap ((j2 : Int) - 1))) (.int .i64 ((j2 - 1 : Nat) : Int)) ((wi (by omega)).trans (congrArg (Value.int .i64) (by omega))) ?_
          refine t 11 (.int .i64 ((j2 - 1 : Nat) : Int)) ?_
          refine gl_nil ?_
          refine ge_bn ?_
          exact ge_round (j2 - 1) (by show j2 - 1 < j2; omega) ⟨R, P.dec (by omega) d34, hi2.imp_left (by omega), by show j2 - 1 ≤ _; omega⟩ (by kernel_rfl)
        · have d35 : f2 j2 < f2 a := of_decide_eq_true (by simpa using b33 : decide (f2 j2 < f2 a) = true)
          refine gc_no (hc := congrArg Value.bool b33) ?_
          refine gc_exit ?_
          refine ge_tx ?_
          refine ge_tx ?_
          refine ge_bx ?_
          exact ge_join (j2 : Nat) ⟨R, P, hi2, .inr d35, hj0⟩ (by kernel_rfl)
      · refine zq 2 117 (.bool (decide ((i : Int) ≤ (j2 : Int)))) (.bool false) (congrArg Value.bool (decide_eq_false c31)) ?_
        refine z 3 118 (.bool false) ?_
        refine zn 4 119 ?_
        refine zn 5 120 ?_
        refine zn 6 121 ?_
        refine zn 7 122 ?_
        refine zn 8 123 ?_
        refine zn 9 124 ?_
        refine zn 10 125 ?_
        refine zn 11 126 ?_
        refine zn 12 127 ?_
        refine zn 13 128 ?_
        refine z 14 129 (.bool false) ?_
        refine gz_done ?_
        refine ge_then ?_
        refine gc_fr [(0, .slice (some ⟨g, 0, none⟩) n c), (1, .int .i64 (a : Int)), (10, .int .i64 (i : Int)), (11, .int .i64 (j2 : Int)), (115, .int .i64 (i : Int)), (116, .int .i64 (j2 : Int)), (117, .bool false), (118, .bool false), (119, undef), (120, undef), (121, undef), (122, undef), (123, undef), (124, undef), (125, undef), (126, undef), (127, undef), (128, undef), (129, .bool false)] (by kernel_rfl) ?_
        refine gc_no ?_
        refine gc_exit ?_
        refine ge_tx ?_
        refine ge_tx ?_
        refine ge_bx ?_
        exact ge_join (j2 : Nat) ⟨R, P, hi2, .inl (by omega), hj0⟩ (by kernel_rfl)
    clear R
    rintro j v36 ⟨R, P, hi3, hj, hj0⟩
    have hbd := P.bd
    refine gc_seq ?_
    refine gc_seq ?_
    refine gc_reg ?_
    refine t 132 (.int .i64 (i : Int)) ?_
    refine t 133 (.int .i64 (j : Int)) ?_
    by_cases c37 : (j : Int) < (i : Int)
    · refine tq 134 (.bool (decide ((j : Int) < (i : Int)))) (.bool true) (congrArg Value.bool (decide_eq_true c37)) ?_
      refine gl_nil ?_
      refine ge_then ?_
      refine gc_yes ?_
      refine gc_exit ?_
      refine ge_tx ?_
      refine ge_by ?_
      refine ge_tx ?_
      refine ge_bx ?_
      refine ge_then ?_
      refine gc_seq ?_
      replace R := R.drew
      refine gc_draw (fun w' => Blk w' g (cs N f2) 31) (fun i => decide (12 ≤ i)) R.blk ?_
      refine zp 0 153 (.slice (some ⟨g, 0, none⟩) n c) ?_
      refine zp 1 154 (.int .i64 (j : Int)) ?_
      refine zp 2 155 (.slice (some ⟨g, 0, none⟩) n c) ?_
      refine zp 3 156 (.int .i64 (a : Int)) ?_
      refine zp 4 157 (.slice (some ⟨g, 0, none⟩) n c) ?_
      refine zp 5 158 (.int .i64 (a : Int)) ?_
      refine zp 6 159 (pq g a) ?_ (hrun := fun _ => congr_v (by simp) (run_ixs 1 g 0 n c a (by omega)))
      refine zl 7 160 (.int .u64 (f2 a)) (fun _ h => h) a (hv := cs_at (by omega)) ?_
      refine zp 8 161 (.slice (some ⟨g, 0, none⟩) n c) ?_
      refine zp 9 162 (.int .i64 (j : Int)) ?_
      refine zp 10 163 (pq g j) ?_ (hrun := fun _ => congr_v (by simp) (run_ixs 1 g 0 n c j (by omega)))
      refine zl 11 164 (.int .u64 (f2 j)) (fun _ h => h) j (hv := cs_at (by omega)) ?_
      refine gz_late ?_
      refine yt 12 165 (pq g j) ?_ (hrun := congr_v (by simp) (run_ixs 1 g 0 n c j (by omega)))
      refine ys 13 R.blk j (.int .u64 (f2 a)) [.int .u64 (f2 a)] (cs N (pu f2 j (f2 a))) ?_ (hb := cs_fit (by omega)) (he := cs_put (by omega))
      intro v38 Y C
      replace R := R.put C Y
      clear Y C
      refine yt 14 166 (pq g a) ?_ (hrun := congr_v (by simp) (run_ixs 1 g 0 n c a (by omega)))
      refine ys 15 R.blk a (.int .u64 (f2 j)) [.int .u64 (f2 j)] (cs N (sw f2 j a)) ?_ (hb := cs_fit (by omega)) (he := cs_sw (by omega))
      intro v39 Y C
      replace R := R.put C Y
      clear Y C
      refine gy_done ?_
      refine ge_then ?_
      refine gc_fr [(11, .int .i64 (j : Int))] (by kernel_rfl) ?_
      refine gc_seq ?_
      refine gc_reg ?_
      refine t 167 (.int .i64 (j : Int)) ?_
      refine t 8 (.int .i64 (j : Int)) ?_
      refine t 9 (.bool false) ?_
      refine gl_nil ?_
      refine ge_then ?_
      refine gc_ret ?_
      refine ge_ret (.tuple #[.int .i64 (j : Int), .bool false]) (rs2 8 9 (by kernel_rfl) (by kernel_rfl) (by kernel_rfl)) ?_
      obtain ⟨z1, z2, z3⟩ := P.done (by omega)
      exact ⟨_, _, _, rfl, R, z1, q2.trans (Pm.sw ⟨by omega, by omega⟩ ⟨by omega, by omega⟩), z2, z3⟩
    · refine tq 134 (.bool (decide ((j : Int) < (i : Int)))) (.bool false) (congrArg Value.bool (decide_eq_false c37)) ?_
      refine gl_nil ?_
      refine ge_then ?_
      refine gc_no ?_
      refine gc_skip ?_
      refine ge_then ?_
      refine gc_seq ?_
      replace R := R.drew
      refine gc_draw (fun w' => Blk w' g (cs N f2) 31) (fun i => decide (12 ≤ i)) R.blk ?_
      refine zp 0 135 (.slice (some ⟨g, 0, none⟩) n c) ?_
      refine zp 1 136 (.int .i64 (i : Int)) ?_
      refine zp 2 137 (.slice (some ⟨g, 0, none⟩) n c) ?_
      refine zp 3 138 (.int .i64 (j : Int)) ?_
      refine zp 4 139 (.slice (some ⟨g, 0, none⟩) n c) ?_
      refine zp 5 140 (.int .i64 (j : Int)) ?_
      refine zp 6 141 (pq g j) ?_ (hrun := fun _ => congr_v (by simp) (run_ixs 1 g 0 n c j (by omega)))
      refine zl 7 142 (.int .u64 (f2 j)) (fun _ h => h) j (hv := cs_at (by omega)) ?_
      refine zp 8 143 (.slice (some ⟨g, 0, none⟩) n c) ?_
      refine zp 9 144 (.int .i64 (i : Int)) ?_
      refine zp 10 145 (pq g i) ?_ (hrun := fun _ => congr_v (by simp) (run_ixs 1 g 0 n c i (by omega)))
      refine zl 11 146 (.int .u64 (f2 i)) (fun _ h => h) i (hv := cs_at (by omega)) ?_
      refine gz_late ?_
      refine yt 12 147 (pq g i) ?_ (hrun := congr_v (by simp) (run_ixs 1 g 0 n c i (by omega)))
      refine ys 13 R.blk i (.int .u64 (f2 j)) [.int .u64 (f2 j)] (cs N (pu f2 i (f2 j))) ?_ (hb := cs_fit (by omega)) (he := cs_put (by omega))
      intro v40 Y C
      replace R := R.put C Y
      clear Y C
      refine yt 14 148 (pq g j) ?_ (hrun := congr_v (by simp) (run_ixs 1 g 0 n c j (by omega)))
      refine ys 15 R.blk j (.int .u64 (f2 i)) [.int .u64 (f2 i)] (cs N (sw f2 i j)) ?_ (hb := cs_fit (by omega)) (he := cs_sw (by omega))
      intro v41 Y C
      replace R := R.put C Y
      clear Y C
      refine gy_done ?_
      refine ge_then ?_
      refine gc_fr [(0, .slice (some ⟨g, 0, none⟩) n c), (1, .int .i64 (a : Int)), (10, .int .i64 (i : Int)), (11, .int .i64 (j : Int)), (132, .int .i64 (i : Int)), (133, .int .i64 (j : Int)), (134, .bool false), (135, .slice (some ⟨g, 0, none⟩) n c), (136, .int .i64 (i : Int)), (137, .slice (some ⟨g, 0, none⟩) n c), (138, .int .i64 (j : Int)), (139, .slice (some ⟨g, 0, none⟩) n c), (140, .int .i64 (j : Int)), (141, pq g j), (142, .int .u64 (f2 j)), (143, .slice (some ⟨g, 0, none⟩) n c), (144, .int .i64 (i : Int)), (145, pq g i), (146, .int .u64 (f2 i)), (147, pq g i), (148, pq g j)] (by kernel_rfl) ?_
      refine gc_seq ?_
      refine gc_reg ?_
      refine t 149 (.int .i64 (i : Int)) ?_
      refine tq 150 (.int .i64 (IntKind.i64.wrap ((i : Int) + 1))) (.int .i64 ((i + 1 : Nat) : Int)) ((wi (by omega)).trans (congrArg (Value.int .i64) (by omega))) ?_
      refine t 10 (.int .i64 ((i + 1 : Nat) : Int)) ?_
      refine gl_nil ?_
      refine ge_then ?_
      refine gc_reg ?_
      refine t 151 (.int .i64 (j : Int)) ?_
      refine tq 152 (.int .i64 (IntKind.i64.wrap ((j : Int) - 1))) (.int .i64 ((j - 1 : Nat) : Int)) ((wi (by omega)).trans (congrArg (Value.int .i64) (by omega))) ?_
      refine t 11 (.int .i64 ((j - 1 : Nat) : Int)) ?_
      refine gl_nil ?_
      refine ge_bn ?_
      exact ge_round (i + 1, j - 1, (sw f2 i j)) (by show j - 1 < j0; omega) ⟨R, P.swp (by omega) (hi3.resolve_left (by omega)) (hj.resolve_left (by omega)), q2.trans (Pm.sw ⟨by omega, by omega⟩ ⟨by omega, by omega⟩)⟩ (by kernel_rfl)
end So
end Go.Proofs.YtemkjdanemddpaaGreat

namespace Go.Proofs.YtemkjdanemddpaaGreat
namespace So
open Go.RowKit Go.Lib Pg Gl
set_option maxRecDepth 100000
set_option linter.unusedVariables false
set_option linter.unusedSimpArgs false
set_option maxHeartbeats 4000000
structure PqE (w : World) (g N a b p : Nat) (f : Nat → Int) (e : Ending) (w' : World) : Prop where
  ex : ∃ (m : Nat) (h : Nat → Int), e = .returned (.int .i64 (m : Int)) ∧ Sr w g N w' h ∧ (a < m ∧ m ≤ b) ∧ Pm a b f h ∧ (∀ k, a ≤ k → k < m → h k = f p) ∧ ∀ k, m ≤ k → k < b → f p < h k
theorem partEqual_any {w : World} {g N n c a b p : Nat} {f : Nat → Int} (X : Blk w g (cs N f) 31) (hn : n ≤ N) (hN : n ≤ 1000000000) (hp : a ≤ p ∧ p < b) (hb : b ≤ n) (hlow : ∀ k, a ≤ k → k < b → f p ≤ f k) : Calls Tryz.prog 105 #[.slice (some ⟨g, 0, none⟩) n c, .int .i64 (a : Int), .int .i64 (b : Int), .int .i64 (p : Int)] w (PqE w g N a b p f) := by
  have R := sr_of X
  refine gc_enter (n := 84) Tryz.func105 rfl (by kernel_rfl) (by kernel_rfl) ?_
  refine gc_seq ?_
  refine gc_reg ?_
  refine t 8 (.int .i64 0) ?_
  refine gl_nil ?_
  refine ge_then ?_
  refine gc_seq ?_
  replace R := R.drew
  refine gc_draw (fun w' => Blk w' g (cs N f) 31) (fun i => decide (12 ≤ i)) R.blk ?_
  refine zp 0 11 (.slice (some ⟨g, 0, none⟩) n c) ?_
  refine zp 1 12 (.int .i64 (a : Int)) ?_
  refine zp 2 13 (.slice (some ⟨g, 0, none⟩) n c) ?_
  refine zp 3 14 (.int .i64 (p : Int)) ?_
  refine zp 4 15 (.slice (some ⟨g, 0, none⟩) n c) ?_
  refine zp 5 16 (.int .i64 (p : Int)) ?_
  refine zp 6 17 (pq g p) ?_ (hrun := fun _ => congr_v (by simp) (run_ixs 1 g 0 n c p (by omega)))
  refine zl 7 18 (.int .u64 (f p)) (fun _ h => h) p (hv := cs_at (by omega)) ?_
  refine zp 8 19 (.slice (some ⟨g, 0, none⟩) n c) ?_
  refine zp 9 20 (.int .i64 (a : Int)) ?_
  refine zp 10 21 (pq g a) ?_ (hrun := fun _ => congr_v (by simp) (run_ixs 1 g 0 n c a (by omega)))
  refine zl 11 22 (.int .u64 (f a)) (fun _ h => h) a (hv := cs_at (by omega)) ?_
  refine gz_late ?_
  refine yt 12 23 (pq g a) ?_ (hrun := congr_v (by simp) (run_ixs 1 g 0 n c a (by omega)))
  refine ys 13 R.blk a (.int .u64 (f p)) [.int .u64 (f p)] (cs N (pu f a (f p))) ?_ (hb := cs_fit (by omega)) (he := cs_put (by omega))
  intro v1 Y C
  replace R := R.put C Y
  clear Y C
  refine yt 14 24 (pq g p) ?_ (hrun := congr_v (by simp) (run_ixs 1 g 0 n c p (by omega)))
  refine ys 15 R.blk p (.int .u64 (f a)) [.int .u64 (f a)] (cs N (sw f a p)) ?_ (hb := cs_fit (by omega)) (he := cs_sw (by omega))
  intro v2 Y C
  replace R := R.put C Y
  clear Y C
  refine gy_done ?_
  refine ge_then ?_
  refine gc_fr [(0, .slice (some ⟨g, 0, none⟩) n c), (1, .int .i64 (a : Int)), (2, .int .i64 (b : Int)), (8, .int .i64 0)] (by kernel_rfl) ?_
  refine gc_seq ?_
  obtain ⟨f1, hf1⟩ : ∃ f1, f1 = sw f a p := ⟨_, rfl⟩
  rw [← hf1] at R
  have q1 : Pm a b f f1 := by rw [hf1]; exact Pm.sw ⟨by omega, by omega⟩ ⟨by omega, by omega⟩
  have ha1 : f1 a = f p := by rw [hf1]; exact sw_l
  refine gc_reg ?_
  refine t 25 (.int .i64 (a : Int)) ?_
  refine tq 26 (.int .i64 (IntKind.i64.wrap ((a : Int) + 1))) (.int .i64 ((a + 1 : Nat) : Int)) ((wi (by omega)).trans (congrArg (Value.int .i64) (by omega))) ?_
  refine t 27 (.int .i64 (b : Int)) ?_
  refine tq 28 (.int .i64 (IntKind.i64.wrap ((b : Int) - 1))) (.int .i64 ((b - 1 : Nat) : Int)) ((wi (by omega)).trans (congrArg (Value.int .i64) (by omega))) ?_
  refine t 9 (.int .i64 ((a + 1 : Nat) : Int)) ?_
  refine t 10 (.int .i64 ((b - 1 : Nat) : Int)) ?_
  refine gl_nil ?_
  refine ge_then ?_
  refine gc_seq ?_
  refine gc_block ?_
  refine gc_loop (fun x => x.2.1) (fun (x : Nat × Nat × (Nat → Int)) => [(0, .slice (some ⟨g, 0, none⟩) n c), (1, .int .i64 (a : Int)), (9, .int .i64 (x.1 : Int)), (10, .int .i64 (x.2.1 : Int))]) (fun x w' => Sr w g N w' x.2.2 ∧ Pe a b x.1 x.2.1 x.2.2 ∧ Pm a b f x.2.2 ∧ x.2.2 a = f p) ((a + 1, b - 1, f1) : Nat × Nat × (Nat → Int)) ⟨R, Pe.start (by omega), q1, ha1⟩ (by kernel_rfl) ?_
  clear R
  rintro ⟨i0, j0, f2⟩ v3 ⟨R, P, q2, ha2⟩
  dsimp only at R P q2 ha2
  have hbd := P.bd
  refine gc_block ?_
  refine gc_join (fun (x : Nat) => [(0, .slice (some ⟨g, 0, none⟩) n c), (1, .int .i64 (a : Int)), (9, .int .i64 (x : Int)), (10, .int .i64 (j0 : Int))]) (fun x w' => Sr w g N w' f2 ∧ Pe a b x j0 f2 ∧ (j0 < x ∨ f2 a < f2 x)) ?_ ?_
  · refine gc_block ?_
    refine gc_loop (fun x => j0 + 1 - x) (fun (x : Nat) => [(0, .slice (some ⟨g, 0, none⟩) n c), (1, .int .i64 (a : Int)), (9, .int .i64 (x : Int)), (10, .int .i64 (j0 : Int))]) (fun x w' => Sr w g N w' f2 ∧ Pe a b x j0 f2) (i0 : Nat) ⟨R, P⟩ (by kernel_rfl) ?_
    clear R
    rintro i2 v4 ⟨R, P⟩
    have hbd := P.bd
    refine gc_seq ?_
    refine gc_seq ?_
    replace R := R.drew
    refine gc_draw (fun w' => Blk w' g (cs N f2) 31) (fun _ => false) R.blk ?_
    refine z 0 29 (.int .i64 (i2 : Int)) ?_
    refine z 1 30 (.int .i64 (j0 : Int)) ?_
    by_cases c5 : (i2 : Int) ≤ (j0 : Int)
    · refine zq 2 31 (.bool (decide ((i2 : Int) ≤ (j0 : Int)))) (.bool true) (congrArg Value.bool (decide_eq_true c5)) ?_
      refine z 3 32 (.bool true) ?_
      refine z 4 33 (.slice (some ⟨g, 0, none⟩) n c) ?_
      refine z 5 34 (.int .i64 (a : Int)) ?_
      refine zr 6 35 (pq g a) (fun _ _ => congr_v (by simp) (run_ixs 1 g 0 n c a (by omega))) ?_
      refine zl 7 36 (.int .u64 (f2 a)) (fun _ h => h) a (hv := cs_at (by omega)) ?_
      refine z 8 37 (.slice (some ⟨g, 0, none⟩) n c) ?_
      refine z 9 38 (.int .i64 (i2 : Int)) ?_
      refine zr 10 39 (pq g i2) (fun _ _ => congr_v (by simp) (run_ixs 1 g 0 n c i2 (by omega))) ?_
      refine zl 11 40 (.int .u64 (f2 i2)) (fun _ h => h) i2 (hv := cs_at (by omega)) ?_
      refine zc 12 41 104 #[.int .u64 (f2 a), .int .u64 (f2 i2)] (less_any) ?_
      rintro _ v6 ⟨rfl, B⟩
      replace R := R.keep B
      clear B
      refine ⟨_, rfl, R.blk, ?_⟩
      refine z 13 42 (.bool (!(decide (f2 a < f2 i2)))) ?_
      refine z 14 43 (.bool (!(decide (f2 a < f2 i2)))) ?_
      refine gz_done ?_
      refine ge_then ?_
      refine gc_fr [(0, .slice (some ⟨g, 0, none⟩) n c), (1, .int .i64 (a : Int)), (9, .int .i64 (i2 : Int)), (10, .int .i64 (j0 : Int)), (29, .int .i64 (i2 : Int)), (30, .int .i64 (j0 : Int)), (31, .bool true), (32, .bool true), (33, .slice (some ⟨g, 0, none⟩) n c), (34, .int .i64 (a : Int)), (35, pq g a), (36, .int .u64 (f2 a)), (37, .slice (some ⟨g, 0, none⟩) n c), (38, .int .i64 (i2 : Int)), (39, pq g i2), (40, .int .u64 (f2 i2)), (41, .bool (decide (f2 a < f2 i2))), (42, .bool (!(decide (f2 a < f2 i2)))), (43, .bool (!(decide (f2 a < f2 i2))))] (by kernel_rfl) ?_
      rcases Bool.eq_false_or_eq_true (!(decide (f2 a < f2 i2))) with b7 | b7
      · have d8 : f2 i2 ≤ f2 a := Int.not_lt.1 (of_decide_eq_false (by simpa using b7 : decide (f2 a < f2 i2) = false))
        refine gc_yes (hc := congrArg Value.bool b7) ?_
        refine gc_skip ?_
        refine ge_then ?_
        refine gc_block ?_
        refine gc_reg ?_
        refine t 44 (.int .i64 (i2 : Int)) ?_
        refine tq 45 (.int .i64 (IntKind.i64.wrap ((i2 : Int) + 1))) (.int .i64 ((i2 + 1 : Nat) : Int)) ((wi (by omega)).trans (congrArg (Value.int .i64) (by omega))) ?_
        refine t 9 (.int .i64 ((i2 + 1 : Nat) : Int)) ?_
        refine gl_nil ?_
        refine ge_bn ?_
        exact ge_round (i2 + 1) (by show j0 + 1 - (i2 + 1) < j0 + 1 - i2; omega) ⟨R, P.inc (by omega) d8⟩ (by kernel_rfl)
      · have d9 : f2 a < f2 i2 := of_decide_eq_true (by simpa using b7 : decide (f2 a < f2 i2) = true)
        refine gc_no (hc := congrArg Value.bool b7) ?_
        refine gc_exit ?_
        refine ge_tx ?_
        refine ge_tx ?_
        refine ge_bx ?_
        exact ge_join (i2 : Nat) ⟨R, P, .inr d9⟩ (by kernel_rfl)
    · refine zq 2 31 (.bool (decide ((i2 : Int) ≤ (j0 : Int)))) (.bool false) (congrArg Value.bool (decide_eq_false c5)) ?_
      refine z 3 32 (.bool false) ?_
      refine zn 4 33 ?_
      refine zn 5 34 ?_
      refine zn 6 35 ?_
      refine zn 7 36 ?_
      refine zn 8 37 ?_
      refine zn 9 38 ?_
      refine zn 10 39 ?_
      refine zn 11 40 ?_
      refine zn 12 41 ?_
      refine zn 13 42 ?_
      refine z 14 43 (.bool false) ?_
      refine gz_done ?_
      refine ge_then ?_
      refine gc_fr [(0, .slice (some ⟨g, 0, none⟩) n c), (1, .int .i64 (a : Int)), (9, .int .i64 (i2 : Int)), (10, .int .i64 (j0 : Int)), (29, .int .i64 (i2 : Int)), (30, .int .i64 (j0 : Int)), (31, .bool false), (32, .bool false), (33, undef), (34, undef), (35, undef), (36, undef), (37, undef), (38, undef), (39, undef), (40, undef), (41, undef), (42, undef), (43, .bool false)] (by kernel_rfl) ?_
      refine gc_no ?_
      refine gc_exit ?_
      refine ge_tx ?_
      refine ge_tx ?_
      refine ge_bx ?_
      exact ge_join (i2 : Nat) ⟨R, P, .inl (by omega)⟩ (by kernel_rfl)
  clear R
  rintro i v10 ⟨R, P, hi⟩
  have hbd := P.bd
  refine gc_join (fun (x : Nat) => [(0, .slice (some ⟨g, 0, none⟩) n c), (1, .int .i64 (a : Int)), (9, .int .i64 (i : Int)), (10, .int .i64 (x : Int))]) (fun x w' => Sr w g N w' f2 ∧ Pe a b i x f2 ∧ (x < i ∨ f2 a < f2 i) ∧ (x < i ∨ f2 x ≤ f2 a) ∧ x ≤ j0) ?_ ?_
  · refine gc_block ?_
    refine gc_loop (fun x => x) (fun (x : Nat) => [(0, .slice (some ⟨g, 0, none⟩) n c), (1, .int .i64 (a : Int)), (9, .int .i64 (i : Int)), (10, .int .i64 (x : Int))]) (fun x w' => Sr w g N w' f2 ∧ Pe a b i x f2 ∧ (x < i ∨ f2 a < f2 i) ∧ x ≤ j0) (j0 : Nat) ⟨R, P, hi, Nat.le_refl _⟩ (by kernel_rfl) ?_
    clear R
    rintro j2 v11 ⟨R, P, hi2, hj0⟩
    have hbd := P.bd
    refine gc_seq ?_
    refine gc_seq ?_
    replace R := R.drew
    refine gc_draw (fun w' => Blk w' g (cs N f2) 31) (fun _ => false) R.blk ?_
    refine z 0 46 (.int .i64 (i : Int)) ?_
    refine z 1 47 (.int .i64 (j2 : Int)) ?_
    by_cases c12 : (i : Int) ≤ (j2 : Int)
    · refine zq 2 48 (.bool (decide ((i : Int) ≤ (j2 : Int)))) (.bool true) (congrArg Value.bool (decide_eq_true c12)) ?_
      refine z 3 49 (.bool true) ?_
      refine z 4 50 (.slice (some ⟨g, 0, none⟩) n c) ?_
      refine z 5 51 (.int .i64 (a : Int)) ?_
      refine zr 6 52 (pq g a) (fun _ _ => congr_v (by simp) (run_ixs 1 g 0 n c a (by omega))) ?_
      refine zl 7 53 (.int .u64 (f2 a)) (fun _ h => h) a (hv := cs_at (by omega)) ?_
      refine z 8 54 (.slice (some ⟨g, 0, none⟩) n c) ?_
      refine z 9 55 (.int .i64 (j2 : Int)) ?_
      refine zr 10 56 (pq g j2) (fun _ _ => congr_v (by simp) (run_ixs 1 g 0 n c j2 (by omega))) ?_
      refine zl 11 57 (.int .u64 (f2 j2)) (fun _ h => h) j2 (hv := cs_at (by omega)) ?_
      refine zc 12 58 104 #[.int .u64 (f2 a), .int .u64 (f2 j2)] (less_any) ?_
      rintro _ v13 ⟨rfl, B⟩
      replace R := R.keep B
      clear B
      refine ⟨_, rfl, R.blk, ?_⟩
      refine z 13 59 (.bool (decide (f2 a < f2 j2))) ?_
      refine gz_done ?_
      refine ge_then ?_
      refine gc_fr [(0, .slice (some ⟨g, 0, none⟩) n c), (1, .int .i64 (a : Int)), (9, .int .i64 (i : Int)), (10, .int .i64 (j2 : Int)), (46, .int .i64 (i : Int)), (47, .int .i64 (j2 : Int)), (48, .bool true), (49, .bool true), (50, .slice (some ⟨g, 0, none⟩) n c), (51, .int .i64 (a : Int)), (52, pq g a), (53, .int .u64 (f2 a)), (54, .slice (some ⟨g, 0, none⟩) n c), (55, .int .i64 (j2 : Int)), (56, pq g j2), (57, .int .u64 (f2 j2)), (58, .bool (decide (f2 a < f2 j2))), (59, .bool (decide (f2 a < f2 j2)))] (by kernel_rfl) ?_
      rcases Bool.eq_false_or_eq_true (decide (f2 a < f2 j2)) with b14 | b14
      · have d15 : f2 a < f2 j2 := of_decide_eq_true b14
        refine gc_yes (hc := congrArg Value.bool b14) ?_
        refine gc_skip ?_
        refine ge_then ?_
        refine gc_block ?_
        refine gc_reg ?_
        refine t 60 (.int .i64 (j2 : Int)) ?_
        refine tq 61 (.int .i64 (IntKind.i64.wrap ((j2 : Int) - 1))) (.int .i64 ((j2 - 1 : Nat) : Int)) ((wi (by omega)).trans (congrArg (Value.int .i64) (by omega))) ?_
        refine t 10 (.int .i64 ((j2 - 1 : Nat) : Int)) ?_
        refine gl_nil ?_
        refine ge_bn ?_
        exact ge_round (j2 - 1) (by show j2 - 1 < j2; omega) ⟨R, P.dec (by omega) d15, hi2.imp_left (by omega), by show j2 - 1 ≤ _; omega⟩ (by kernel_rfl)
      · have d16 : f2 j2 ≤ f2 a := Int.not_lt.1 (of_decide_eq_false b14)
        refine gc_no (hc := congrArg Value.bool b14) ?_
        refine gc_exit ?_
        refine ge_tx ?_
        refine ge_tx ?_
        refine ge_bx ?_
        exact ge_join (j2 : Nat) ⟨R, P, hi2, .inr d16, hj0⟩ (by kernel_rfl)
    · refine zq 2 48 (.bool (decide ((i : Int) ≤ (j2 : Int)))) (.bool false) (congrArg Value.bool (decide_eq_false c12)) ?_
      refine z 3 49 (.bool false) ?_
      refine zn 4 50 ?_
      refine zn 5 51 ?_
      refine zn 6 52 ?_
      refine zn 7 53 ?_
      refine zn 8 54 ?_
      refine zn 9 55 ?_
      refine zn 10 56 ?_
      refine zn 11 57 ?_
      refine zn 12 58 ?_
      refine z 13 59 (.bool false) ?_
      refine gz_done ?_
      refine ge_then ?_
      refine gc_fr [(0, .slice (some ⟨g, 0, none⟩) n c), (1, .int .i64 (a : Int)), (9, .int .i64 (i : Int)), (10, .int .i64 (j2 : Int)), (46, .int .i64 (i : Int)), (47, .int .i64 (j2 : Int)), (48, .bool false), (49, .bool false), (50, undef), (51, undef), (52, undef), (53, undef), (54, undef), (55, undef), (56, undef), (57, undef), (58, undef), (59, .bool false)] (by kernel_rfl) ?_
      refine gc_no ?_
      refine gc_exit ?_
      refine ge_tx ?_
      refine ge_tx ?_
      refine ge_bx ?_
      exact ge_join (j2 : Nat) ⟨R, P, hi2, .inl (by omega), hj0⟩ (by kernel_rfl)
  clear R
  rintro j v17 ⟨R, P, hi3, hj, hj0⟩
  have hbd := P.bd
  refine gc_seq ?_
  refine gc_seq ?_
  refine gc_reg ?_
  refine t 62 (.int .i64 (i : Int)) ?_
  refine t 63 (.int .i64 (j : Int)) ?_
  by_cases c18 : (j : Int) < (i : Int)
  · refine tq 64 (.bool (decide ((j : Int) < (i : Int)))) (.bool true) (congrArg Value.bool (decide_eq_true c18)) ?_
    refine gl_nil ?_
    refine ge_then ?_
    refine gc_yes ?_
    refine gc_exit ?_
    refine ge_tx ?_
    refine ge_by ?_
    refine ge_tx ?_
    refine ge_bx ?_
    refine ge_then ?_
    refine gc_seq ?_
    refine gc_reg ?_
    refine t 83 (.int .i64 (i : Int)) ?_
    refine t 8 (.int .i64 (i : Int)) ?_
    refine gl_nil ?_
    refine ge_then ?_
    refine gc_ret ?_
    refine ge_ret (.int .i64 (i : Int)) (rs1 8 (by kernel_rfl) (by kernel_rfl)) ?_
    exact ⟨i, _, rfl, R, ⟨by omega, by omega⟩, q2, fun k h1 h2 => by have := P.lo k h1 h2; have := (q2.all (P := fun v => f p ≤ v) hlow) k h1 (by omega); omega, fun k h1 h2 => by have := P.hi k (by omega) h2; omega⟩
  · refine tq 64 (.bool (decide ((j : Int) < (i : Int)))) (.bool false) (congrArg Value.bool (decide_eq_false c18)) ?_
    refine gl_nil ?_
    refine ge_then ?_
    refine gc_no ?_
    refine gc_skip ?_
    refine ge_then ?_
    refine gc_seq ?_
    replace R := R.drew
    refine gc_draw (fun w' => Blk w' g (cs N f2) 31) (fun i => decide (12 ≤ i)) R.blk ?_
    refine zp 0 65 (.slice (some ⟨g, 0, none⟩) n c) ?_
    refine zp 1 66 (.int .i64 (i : Int)) ?_
    refine zp 2 67 (.slice (some ⟨g, 0, none⟩) n c) ?_
    refine zp 3 68 (.int .i64 (j : Int)) ?_
    refine zp 4 69 (.slice (some ⟨g, 0, none⟩) n c) ?_
    refine zp 5 70 (.int .i64 (j : Int)) ?_
    refine zp 6 71 (pq g j) ?_ (hrun := fun _ => congr_v (by simp) (run_ixs 1 g 0 n c j (by omega)))
    refine zl 7 72 (.int .u64 (f2 j)) (fun _ h => h) j (hv := cs_at (by omega)) ?_
    refine zp 8 73 (.slice (some ⟨g, 0, none⟩) n c) ?_
    refine zp 9 74 (.int .i64 (i : Int)) ?_
    refine zp 10 75 (pq g i) ?_ (hrun := fun _ => congr_v (by simp) (run_ixs 1 g 0 n c i (by omega)))
    refine zl 11 76 (.int .u64 (f2 i)) (fun _ h => h) i (hv := cs_at (by omega)) ?_
    refine gz_late ?_
    refine yt 12 77 (pq g i) ?_ (hrun := congr_v (by simp) (run_ixs 1 g 0 n c i (by omega)))
    refine ys 13 R.blk i (.int .u64 (f2 j)) [.int .u64 (f2 j)] (cs N (pu f2 i (f2 j))) ?_ (hb := cs_fit (by omega)) (he := cs_put (by omega))
    intro v19 Y C
    replace R := R.put C Y
    clear Y C
    refine yt 14 78 (pq g j) ?_ (hrun := congr_v (by simp) (run_ixs 1 g 0 n c j (by omega)))
    refine ys 15 R.blk j (.int .u64 (f2 i)) [.int .u64 (f2 i)] (cs N (sw f2 i j)) ?_ (hb := cs_fit (by omega)) (he := cs_sw (by omega))
    intro v20 Y C
    replace R := R.put C Y
    clear Y C
    refine gy_done ?_
    refine ge_then ?_
    refine gc_fr [(0, .slice (some ⟨g, 0, none⟩) n c), (1, .int .i64 (a : Int)), (9, .int .i64 (i : Int)), (10, .int .i64 (j : Int)), (62, .int .i64 (i : Int)), (63, .int .i64 (j : Int)), (64, .bool false), (65, .slice (some ⟨g, 0, none⟩) n c), (66, .int .i64 (i : Int)), (67, .slice (some ⟨g, 0, none⟩) n c), (68, .int .i64 (j : Int)), (69, .slice (some ⟨g, 0, none⟩) n c), (70, .int .i64 (j : Int)), (71, pq g j), (72, .int .u64 (f2 j)), (73, .slice (some ⟨g, 0, none⟩) n c), (74, .int .i64 (i : Int)), (75, pq g i), (76, .int .u64 (f2 i)), (77, pq g i), (78, pq g j)] (by kernel_rfl) ?_
    refine gc_seq ?_
    refine gc_reg ?_
    refine t 79 (.int .i64 (i : Int)) ?_
    refine tq 80 (.int .i64 (IntKind.i64.wrap ((i : Int) + 1))) (.int .i64 ((i + 1 : Nat) : Int)) ((wi (by omega)).trans (congrArg (Value.int .i64) (by omega))) ?_
    refine t 9 (.int .i64 ((i + 1 : Nat) : Int)) ?_
    refine gl_nil ?_
    refine ge_then ?_
    refine gc_reg ?_
    refine t 81 (.int .i64 (j : Int)) ?_
    refine tq 82 (.int .i64 (IntKind.i64.wrap ((j : Int) - 1))) (.int .i64 ((j - 1 : Nat) : Int)) ((wi (by omega)).trans (congrArg (Value.int .i64) (by omega))) ?_
    refine t 10 (.int .i64 ((j - 1 : Nat) : Int)) ?_
    refine gl_nil ?_
    refine ge_bn ?_
    exact ge_round (i + 1, j - 1, (sw f2 i j)) (by show j - 1 < j0; omega) ⟨R, P.swp (by omega) (hi3.resolve_left (by omega)) (hj.resolve_left (by omega)), q2.trans (Pm.sw ⟨by omega, by omega⟩ ⟨by omega, by omega⟩), by show sw f2 i j a = f p; rw [sw_o (by omega) (by omega)]; exact ha2⟩ (by kernel_rfl)
structure PmE (w : World) (g N a b : Nat) (f : Nat → Int) (e : Ending) (w' : World) : Prop where
  ex : ∃ h, e = .returned (.tuple #[]) ∧ Sr w g N w' h ∧ Pm a b f h
theorem reverse_any {w : World} {g N n c a b : Nat} {f : Nat → Int} (X : Blk w g (cs N f) 31) (hn : n ≤ N) (hN : n ≤ 1000000000) (hab : a < b) (hb : b ≤ n) : Calls Tryz.prog 102 #[.slice (some ⟨g, 0, none⟩) n c, .int .i64 (a : Int), .int .i64 (b : Int)] w (PmE w g N a b f) := by
  have R := sr_of X
  refine gc_enter (n := 32) Tryz.func102 rfl (by kernel_rfl) (by kernel_rfl) ?_
  refine gc_seq ?_
  refine gc_reg ?_
  refine t 8 (.int .i64 (a : Int)) ?_
  refine t 6 (.int .i64 (a : Int)) ?_
  refine gl_nil ?_
  refine ge_then ?_
  refine gc_seq ?_
  refine gc_reg ?_
  refine t 9 (.int .i64 (b : Int)) ?_
  refine tq 10 (.int .i64 (IntKind.i64.wrap ((b : Int) - 1))) (.int .i64 ((b - 1 : Nat) : Int)) ((wi (by omega)).trans (congrArg (Value.int .i64) (by omega))) ?_
  refine t 7 (.int .i64 ((b - 1 : Nat) : Int)) ?_
  refine gl_nil ?_
  refine ge_then ?_
  refine gc_block ?_
  refine gc_loop (fun x => x.2.1) (fun (x : Nat × Nat × (Nat → Int)) => [(0, .slice (some ⟨g, 0, none⟩) n c), (6, .int .i64 (x.1 : Int)), (7, .int .i64 (x.2.1 : Int))]) (fun x w' => Sr w g N w' x.2.2 ∧ (a ≤ x.1 ∧ x.2.1 < b) ∧ Pm a b f x.2.2) ((a, b - 1, f) : Nat × Nat × (Nat → Int)) ⟨R, ⟨Nat.le_refl _, by show b - 1 < b; omega⟩, Pm.refl⟩ (by kernel_rfl) ?_
  clear R
  rintro ⟨i, j, f1⟩ v1 ⟨R, hij, q1⟩
  dsimp only at R hij q1
  refine gc_seq ?_
  refine gc_seq ?_
  refine gc_reg ?_
  refine t 11 (.int .i64 (i : Int)) ?_
  refine t 12 (.int .i64 (j : Int)) ?_
  by_cases c2 : (i : Int) < (j : Int)
  · refine tq 13 (.bool (decide ((i : Int) < (j : Int)))) (.bool true) (congrArg Value.bool (decide_eq_true c2)) ?_
    refine gl_nil ?_
    refine ge_then ?_
    refine gc_yes ?_
    refine gc_skip ?_
    refine ge_then ?_
    refine gc_block ?_
    refine gc_seq ?_
    replace R := R.drew
    refine gc_draw (fun w' => Blk w' g (cs N f1) 31) (fun i => decide (12 ≤ i)) R.blk ?_
    refine zp 0 14 (.slice (some ⟨g, 0, none⟩) n c) ?_
    refine zp 1 15 (.int .i64 (i : Int)) ?_
    refine zp 2 16 (.slice (some ⟨g, 0, none⟩) n c) ?_
    refine zp 3 17 (.int .i64 (j : Int)) ?_
    refine zp 4 18 (.slice (some ⟨g, 0, none⟩) n c) ?_
    refine zp 5 19 (.int .i64 (j : Int)) ?_
    refine zp 6 20 (pq g j) ?_ (hrun := fun _ => congr_v (by simp) (run_ixs 1 g 0 n c j (by omega)))
    refine zl 7 21 (.int .u64 (f1 j)) (fun _ h => h) j (hv := cs_at (by omega)) ?_
    refine zp 8 22 (.slice (some ⟨g, 0, none⟩) n c) ?_
    refine zp 9 23 (.int .i64 (i : Int)) ?_
    refine zp 10 24 (pq g i) ?_ (hrun := fun _ => congr_v (by simp) (run_ixs 1 g 0 n c i (by omega)))
    refine zl 11 25 (.int .u64 (f1 i)) (fun _ h => h) i (hv := cs_at (by omega)) ?_
    refine gz_late ?_
    refine yt 12 26 (pq g i) ?_ (hrun := congr_v (by simp) (run_ixs 1 g 0 n c i (by omega)))
    refine ys 13 R.blk i (.int .u64 (f1 j)) [.int .u64 (f1 j)] (cs N (pu f1 i (f1 j))) ?_ (hb := cs_fit (by omega)) (he := cs_put (by omega))
    intro v3 Y C
    replace R := R.put C Y
    clear Y C
    refine yt 14 27 (pq g j) ?_ (hrun := congr_v (by simp) (run_ixs 1 g 0 n c j (by omega)))
    refine ys 15 R.blk j (.int .u64 (f1 i)) [.int .u64 (f1 i)] (cs N (sw f1 i j)) ?_ (hb := cs_fit (by omega)) (he := cs_sw (by omega))
    intro v4 Y C
    replace R := R.put C Y
    clear Y C
    refine gy_done ?_
    refine ge_then ?_
    refine gc_fr [(0, .slice (some ⟨g, 0, none⟩) n c), (6, .int .i64 (i : Int)), (7, .int .i64 (j : Int)), (11, .int .i64 (i : Int)), (12, .int .i64 (j : Int)), (13, .bool true), (14, .slice (some ⟨g, 0, none⟩) n c), (15, .int .i64 (i : Int)), (16, .slice (some ⟨g, 0, none⟩) n c), (17, .int .i64 (j : Int)), (18, .slice (some ⟨g, 0, none⟩) n c), (19, .int .i64 (j : Int)), (20, pq g j), (21, .int .u64 (f1 j)), (22, .slice (some ⟨g, 0, none⟩) n c), (23, .int .i64 (i : Int)), (24, pq g i), (25, .int .u64 (f1 i)), (26, pq g i), (27, pq g j)] (by kernel_rfl) ?_
    refine gc_seq ?_
    refine gc_reg ?_
    refine t 28 (.int .i64 (i : Int)) ?_
    refine tq 29 (.int .i64 (IntKind.i64.wrap ((i : Int) + 1))) (.int .i64 ((i + 1 : Nat) : Int)) ((wi (by omega)).trans (congrArg (Value.int .i64) (by omega))) ?_
    refine t 6 (.int .i64 ((i + 1 : Nat) : Int)) ?_
    refine gl_nil ?_
    refine ge_then ?_
    refine gc_reg ?_
    refine t 30 (.int .i64 (j : Int)) ?_
    refine tq 31 (.int .i64 (IntKind.i64.wrap ((j : Int) - 1))) (.int .i64 ((j - 1 : Nat) : Int)) ((wi (by omega)).trans (congrArg (Value.int .i64) (by omega))) ?_
    refine t 7 (.int .i64 ((j - 1 : Nat) : Int)) ?_
    refine gl_nil ?_
    refine ge_bn ?_
    exact ge_round (i + 1, j - 1, (sw f1 i j)) (by show j - 1 < j; omega) ⟨R, ⟨by show a ≤ i + 1; omega, by show j - 1 < b; omega⟩, q1.trans (Pm.sw ⟨by omega, by omega⟩ ⟨by omega, by omega⟩)⟩ (by kernel_rfl)
  · refine tq 13 (.bool (decide ((i : Int) < (j : Int)))) (.bool false) (congrArg Value.bool (decide_eq_false c2)) ?_
    refine gl_nil ?_
    refine ge_then ?_
    refine gc_no ?_
    refine gc_exit ?_
    refine ge_tx ?_
    refine ge_tx ?_
    refine ge_bx ?_
    refine ge_end (.tuple #[]) (rs0 (by kernel_rfl)) ?_
    exact ⟨_, rfl, R, q1⟩
end So
end Go.Proofs.YtemkjdanemddpaaGreat

namespace Go.Proofs.YtemkjdanemddpaaGreat
namespace So
open Go.RowKit Go.Lib Pg Gl
set_option maxRecDepth 100000
set_option linter.unusedVariables false
set_option linter.unusedSimpArgs false
set_option maxHeartbeats 4000000
theorem run_quoi {ρ : Operand → Value} {w : World} {o : Oper} (p q : Int) (hp : 0 ≤ p ∧ p < 4611686018427387904) (hq : 0 < q ∧ q < 4611686018427387904) (ho : ∃ u v, o.op = .binOp .quo 3 u v 3 ∧ ρ u = .int .i64 p ∧ ρ v = .int .i64 q := by exact ⟨_, _, rfl, by kernel_rfl, by kernel_rfl⟩) : (execOp ρ o).run Tryz.prog w = .ok (.value (.int .i64 (p / q))) w := by
  obtain ⟨u, v, h, h1, h2⟩ := ho
  have e : p.tdiv q = p / q := Int.tdiv_eq_ediv_of_nonneg hp.1
  have e1 := Int.ediv_nonneg hp.1 (show (0 : Int) ≤ q by omega)
  have e2 : p / q ≤ p := Int.ediv_le_self q hp.1
  have e4 : ¬ q = 0 := by omega
  have e5 : ¬ q = -1 := by omega
  have e3 : IntKind.i64.wrap (p / q) = p / q := by rw [IntKind.wrap_i64]; omega
  simp only [execOp, h, h1, h2]
  go_simp
  try simp [e, e3, e4, e5]
/-- the greatest stand at the end; the rest is a heap -/
structure Hs (a b x : Nat) (f : Nat → Int) : Prop where
  le : a + x ≤ b
  hp : Heap a 0 x f
  st : Srt (a + x) b f
  ov : ∀ k q, k < x → a + x ≤ q → q < b → f (a + k) ≤ f q
section
variable {a b x : Nat} {f h : Nat → Int}
theorem Hs.start (hab : a ≤ b) (h1 : Heap a 0 (b - a) f) : Hs a b (b - a) f := ⟨by omega, h1, srt_one (by omega), fun k q _ _ _ => by omega⟩
theorem Hs.swp (s : Hs a b x f) (hx : 1 ≤ x) : Heap a 1 (x - 1) (sw f a (a + (x - 1))) := fun i c h1 h2 h3 => by
  rw [sw_o (by omega) (by omega), sw_o (by omega) (by omega)]
  exact s.hp i c (Nat.zero_le _) h2 (by omega)
theorem Hs.step (s : Hs a b x f) (hx : 1 ≤ x) (p : Pm (a + 0) (a + (x - 1)) (sw f a (a + (x - 1))) h) (h1 : Heap a 0 (x - 1) h) : Hs a b (x - 1) h := by
  have hle := s.le
  have top := s.hp.top
  have em : h (a + (x - 1)) = f a := (p.out _ (.inr (Nat.le_refl _))).trans sw_r
  have eo : ∀ q, a + x ≤ q → h q = f q := fun q hq => (p.out q (.inr (by omega))).trans (sw_o (by omega) (by omega))
  have lo : ∀ k, a ≤ k → k < a + (x - 1) → h k ≤ f a := fun k c1 c2 => by
    refine p.all (P := fun v => v ≤ f a) (fun q c3 c4 => ?_) k (by omega) c2
    by_cases e : q = a
    · subst e
      rw [sw_l]
      exact top (x - 1) (by omega)
    · rw [sw_o e (by omega)]
      have := top (q - a) (by omega)
      rwa [show a + (q - a) = q by omega] at this
  have lt : ∀ k q, a ≤ k → k < a + (x - 1) → a + x ≤ q → q < b → h k ≤ f q := fun k q c1 c2 c3 c4 => Int.le_trans (lo k c1 c2) (by have := s.ov 0 q (by omega) c3 c4; exact this)
  refine ⟨by omega, h1, fun i j c1 c2 c3 => ?_, fun k q c1 c2 c3 => ?_⟩
  · by_cases e : i = a + (x - 1)
    · subst e
      rw [em]
      by_cases e2 : j = a + (x - 1)
      · subst e2; rw [em]; exact Int.le_refl _
      · rw [eo j (by omega)]
        exact s.ov 0 j (by omega) (by omega) c3
    · rw [eo i (by omega), eo j (by omega)]
      exact s.st i j (by omega) c2 c3
  · by_cases e : q = a + (x - 1)
    · subst e
      rw [em]
      exact lo _ (by omega) (by omega)
    · rw [eo q (by omega)]
      exact lt _ q (by omega) (by omega) (by omega) c3
theorem Hs.done (s : Hs a b 0 f) : Srt a b f := s.st
theorem heap_low (hx : b ≤ 2 * x + 1) : Heap a x b f := fun i c h1 h2 h3 => by omega
end
structure SiE (w : World) (g N lo hi o : Nat) (f : Nat → Int) (e : Ending) (w' : World) : Prop where
  ex : ∃ h, e = .returned (.tuple #[]) ∧ Sr w g N w' h ∧ Pm (o + lo) (o + hi) f h ∧ Heap o lo hi h
theorem sift_any {w : World} {g N n c lo hi o : Nat} {f : Nat → Int} (X : Blk w g (cs N f) 31) (hn : n ≤ N) (hN : n ≤ 1000000000) (hHp : Heap o (lo + 1) hi f) (hh : o + hi ≤ n) (hlo : lo ≤ n) : Calls Tryz.prog 122 #[.slice (some ⟨g, 0, none⟩) n c, .int .i64 (lo : Int), .int .i64 (hi : Int), .int .i64 (o : Int)] w (SiE w g N lo hi o f) := by
  have R := sr_of X
  refine gc_enter (n := 76) Tryz.func122 rfl (by kernel_rfl) (by kernel_rfl) ?_
  refine gc_seq ?_
  refine gc_reg ?_
  refine t 10 (.int .i64 (lo : Int)) ?_
  refine t 8 (.int .i64 (lo : Int)) ?_
  refine gl_nil ?_
  refine ge_then ?_
  refine gc_block ?_
  refine gc_loop (fun x => hi - x.1) (fun (x : Nat × (Nat → Int)) => [(0, .slice (some ⟨g, 0, none⟩) n c), (1, .int .i64 (lo : Int)), (2, .int .i64 (hi : Int)), (3, .int .i64 (o : Int)), (8, .int .i64 (x.1 : Int))]) (fun x w' => Sr w g N w' x.2 ∧ Hp o lo hi x.1 x.2 ∧ (lo ≤ x.1 ∧ x.1 ≤ n) ∧ Pm (o + lo) (o + hi) f x.2) ((lo, f) : Nat × (Nat → Int)) ⟨R, Hp.start hHp, ⟨Nat.le_refl _, hlo⟩, Pm.refl⟩ (by kernel_rfl) ?_
  clear R
  rintro ⟨r, f1⟩ v1 ⟨R, hH, ⟨hr, hrn⟩, q1⟩
  dsimp only at R hH hr hrn q1
  refine gc_block ?_
  refine gc_seq ?_
  refine gc_reg ?_
  refine t 11 (.int .i64 (r : Int)) ?_
  refine tq 12 (.int .i64 (IntKind.i64.wrap (2 * (r : Int)))) (.int .i64 ((2 * r : Nat) : Int)) ((wi (by omega)).trans (congrArg (Value.int .i64) (by omega))) ?_
  refine tq 13 (.int .i64 (IntKind.i64.wrap (((2 * r : Nat) : Int) + 1))) (.int .i64 (((2 * r) + 1 : Nat) : Int)) ((wi (by omega)).trans (congrArg (Value.int .i64) (by omega))) ?_
  refine t 9 (.int .i64 (((2 * r) + 1 : Nat) : Int)) ?_
  refine gl_nil ?_
  refine ge_then ?_
  refine gc_seq ?_
  refine gc_seq ?_
  refine gc_reg ?_
  refine t 14 (.int .i64 (((2 * r) + 1 : Nat) : Int)) ?_
  refine t 15 (.int .i64 (hi : Int)) ?_
  by_cases c2 : (hi : Int) ≤ (((2 * r) + 1 : Nat) : Int)
  · refine tq 16 (.bool (decide ((hi : Int) ≤ (((2 * r) + 1 : Nat) : Int)))) (.bool true) (congrArg Value.bool (decide_eq_true c2)) ?_
    refine gl_nil ?_
    refine ge_then ?_
    refine gc_yes ?_
    refine gc_exit ?_
    refine ge_tx ?_
    refine ge_by ?_
    refine ge_tx ?_
    refine ge_bx ?_
    refine ge_end (.tuple #[]) (rs0 (by kernel_rfl)) ?_
    exact ⟨_, rfl, R, q1, hH.done fun c2 h1 h2 => by omega⟩
  · refine tq 16 (.bool (decide ((hi : Int) ≤ (((2 * r) + 1 : Nat) : Int)))) (.bool false) (congrArg Value.bool (decide_eq_false c2)) ?_
    refine gl_nil ?_
    refine ge_then ?_
    refine gc_no ?_
    refine gc_skip ?_
    refine ge_then ?_
    refine gc_join (fun (x : Nat) => [(0, .slice (some ⟨g, 0, none⟩) n c), (1, .int .i64 (lo : Int)), (2, .int .i64 (hi : Int)), (3, .int .i64 (o : Int)), (8, .int .i64 (r : Int)), (9, .int .i64 (x : Int))]) (fun x w' => Sr w g N w' f1 ∧ (x = 2 * r + 1 ∨ x = 2 * r + 2) ∧ x < hi ∧ ∀ d, (d = 2 * r + 1 ∨ d = 2 * r + 2) → d < hi → f1 (o + d) ≤ f1 (o + x)) ?_ ?_
    · refine gc_seq ?_
      replace R := R.drew
      refine gc_draw (fun w' => Blk w' g (cs N f1) 31) (fun _ => false) R.blk ?_
      refine z 0 17 (.int .i64 (((2 * r) + 1 : Nat) : Int)) ?_
      refine zq 1 18 (.int .i64 (IntKind.i64.wrap ((((2 * r) + 1 : Nat) : Int) + 1))) (.int .i64 ((((2 * r) + 1) + 1 : Nat) : Int)) ((wi (by omega)).trans (congrArg (Value.int .i64) (by omega))) ?_
      refine z 2 19 (.int .i64 (hi : Int)) ?_
      by_cases c3 : ((((2 * r) + 1) + 1 : Nat) : Int) < (hi : Int)
      · refine zq 3 20 (.bool (decide (((((2 * r) + 1) + 1 : Nat) : Int) < (hi : Int)))) (.bool true) (congrArg Value.bool (decide_eq_true c3)) ?_
        refine z 4 21 (.bool true) ?_
        refine z 5 22 (.slice (some ⟨g, 0, none⟩) n c) ?_
        refine z 6 23 (.int .i64 (o : Int)) ?_
        refine z 7 24 (.int .i64 (((2 * r) + 1 : Nat) : Int)) ?_
        refine zq 8 25 (.int .i64 (IntKind.i64.wrap ((o : Int) + (((2 * r) + 1 : Nat) : Int)))) (.int .i64 ((o + ((2 * r) + 1) : Nat) : Int)) ((wi (by omega)).trans (congrArg (Value.int .i64) (by omega))) ?_
        refine zr 9 26 (pq g (o + ((2 * r) + 1))) (fun _ _ => congr_v (by simp) (run_ixs 1 g 0 n c (o + ((2 * r) + 1)) (by omega))) ?_
        refine zl 10 27 (.int .u64 (f1 (o + ((2 * r) + 1)))) (fun _ h => h) (o + ((2 * r) + 1)) (hv := cs_at (by omega)) ?_
        refine z 11 28 (.slice (some ⟨g, 0, none⟩) n c) ?_
        refine z 12 29 (.int .i64 (o : Int)) ?_
        refine z 13 30 (.int .i64 (((2 * r) + 1 : Nat) : Int)) ?_
        refine zq 14 31 (.int .i64 (IntKind.i64.wrap ((o : Int) + (((2 * r) + 1 : Nat) : Int)))) (.int .i64 ((o + ((2 * r) + 1) : Nat) : Int)) ((wi (by omega)).trans (congrArg (Value.int .i64) (by omega))) ?_
        refine zq 15 32 (.int .i64 (IntKind.i64.wrap (((o + ((2 * r) + 1) : Nat) : Int) + 1))) (.int .i64 (((o + ((2 * r) + 1)) + 1 : Nat) : Int)) ((wi (by omega)).trans (congrArg (Value.int .i64) (by omega))) ?_
        refine zr 16 33 (pq g ((o + ((2 * r) + 1)) + 1)) (fun _ _ => congr_v (by simp) (run_ixs 1 g 0 n c ((o + ((2 * r) + 1)) + 1) (by omega))) ?_
        refine zl 17 34 (.int .u64 (f1 ((o + ((2 * r) + 1)) + 1))) (fun _ h => h) ((o + ((2 * r) + 1)) + 1) (hv := cs_at (by omega)) ?_
        refine zc 18 35 104 #[.int .u64 (f1 (o + ((2 * r) + 1))), .int .u64 (f1 ((o + ((2 * r) + 1)) + 1))] (less_any) ?_
        rintro _ v4 ⟨rfl, B⟩
        replace R := R.keep B
        clear B
        refine ⟨_, rfl, R.blk, ?_⟩
        refine z 19 36 (.bool (decide (f1 (o + ((2 * r) + 1)) < f1 ((o + ((2 * r) + 1)) + 1)))) ?_
        refine gz_done ?_
        refine ge_then ?_
        refine gc_fr [(0, .slice (some ⟨g, 0, none⟩) n c), (1, .int .i64 (lo : Int)), (2, .int .i64 (hi : Int)), (3, .int .i64 (o : Int)), (8, .int .i64 (r : Int)), (9, .int .i64 (((2 * r) + 1 : Nat) : Int)), (11, .int .i64 (r : Int)), (12, .int .i64 ((2 * r : Nat) : Int)), (13, .int .i64 (((2 * r) + 1 : Nat) : Int)), (14, .int .i64 (((2 * r) + 1 : Nat) : Int)), (15, .int .i64 (hi : Int)), (16, .bool false), (17, .int .i64 (((2 * r) + 1 : Nat) : Int)), (18, .int .i64 ((((2 * r) + 1) + 1 : Nat) : Int)), (19, .int .i64 (hi : Int)), (20, .bool true), (21, .bool true), (22, .slice (some ⟨g, 0, none⟩) n c), (23, .int .i64 (o : Int)), (24, .int .i64 (((2 * r) + 1 : Nat) : Int)), (25, .int .i64 ((o + ((2 * r) + 1) : Nat) : Int)), (26, pq g (o + ((2 * r) + 1))), (27, .int .u64 (f1 (o + ((2 * r) + 1)))), (28, .slice (some ⟨g, 0, none⟩) n c), (29, .int .i64 (o : Int)), (30, .int .i64 (((2 * r) + 1 : Nat) : Int)), (31, .int .i64 ((o + ((2 * r) + 1) : Nat) : Int)), (32, .int .i64 (((o + ((2 * r) + 1)) + 1 : Nat) : Int)), (33, pq g ((o + ((2 * r) + 1)) + 1)), (34, .int .u64 (f1 ((o + ((2 * r) + 1)) + 1))), (35, .bool (decide (f1 (o + ((2 * r) + 1)) < f1 ((o + ((2 * r) + 1)) + 1)))), (36, .bool (decide (f1 (o + ((2 * r) + 1)) < f1 ((o + ((2 * r) + 1)) + 1))))] (by kernel_rfl) ?_
        rcases Bool.eq_false_or_eq_true (decide (f1 (o + ((2 * r) + 1)) < f1 ((o + ((2 * r) + 1)) + 1))) with b5 | b5
        · have d6 : f1 (o + ((2 * r) + 1)) < f1 ((o + ((2 * r) + 1)) + 1) := of_decide_eq_true b5
          refine gc_yes (hc := congrArg Value.bool b5) ?_
          refine gc_reg ?_
          refine t 37 (.int .i64 (((2 * r) + 1 : Nat) : Int)) ?_
          refine tq 38 (.int .i64 (IntKind.i64.wrap ((((2 * r) + 1 : Nat) : Int) + 1))) (.int .i64 ((((2 * r) + 1) + 1 : Nat) : Int)) ((wi (by omega)).trans (congrArg (Value.int .i64) (by omega))) ?_
          refine t 9 (.int .i64 ((((2 * r) + 1) + 1 : Nat) : Int)) ?_
          refine gl_nil ?_
          exact ge_join (((2 * r) + 1) + 1 : Nat) ⟨R, .inr (by omega), by omega, by rintro d (rfl | rfl) hd; exact Int.le_of_lt d6; exact Int.le_refl _⟩ (by kernel_rfl)
        · have d7 : f1 ((o + ((2 * r) + 1)) + 1) ≤ f1 (o + ((2 * r) + 1)) := Int.not_lt.1 (of_decide_eq_false b5)
          refine gc_no (hc := congrArg Value.bool b5) ?_
          refine gc_skip ?_
          exact ge_join ((2 * r) + 1 : Nat) ⟨R, .inl rfl, by omega, by rintro d (rfl | rfl) hd; exact Int.le_refl _; exact d7⟩ (by kernel_rfl)
      · refine zq 3 20 (.bool (decide (((((2 * r) + 1) + 1 : Nat) : Int) < (hi : Int)))) (.bool false) (congrArg Value.bool (decide_eq_false c3)) ?_
        refine z 4 21 (.bool false) ?_
        refine zn 5 22 ?_
        refine zn 6 23 ?_
        refine zn 7 24 ?_
        refine zn 8 25 ?_
        refine zn 9 26 ?_
        refine zn 10 27 ?_
        refine zn 11 28 ?_
        refine zn 12 29 ?_
        refine zn 13 30 ?_
        refine zn 14 31 ?_
        refine zn 15 32 ?_
        refine zn 16 33 ?_
        refine zn 17 34 ?_
        refine zn 18 35 ?_
        refine z 19 36 (.bool false) ?_
        refine gz_done ?_
        refine ge_then ?_
        refine gc_fr [(0, .slice (some ⟨g, 0, none⟩) n c), (1, .int .i64 (lo : Int)), (2, .int .i64 (hi : Int)), (3, .int .i64 (o : Int)), (8, .int .i64 (r : Int)), (9, .int .i64 (((2 * r) + 1 : Nat) : Int)), (11, .int .i64 (r : Int)), (12, .int .i64 ((2 * r : Nat) : Int)), (13, .int .i64 (((2 * r) + 1 : Nat) : Int)), (14, .int .i64 (((2 * r) + 1 : Nat) : Int)), (15, .int .i64 (hi : Int)), (16, .bool false), (17, .int .i64 (((2 * r) + 1 : Nat) : Int)), (18, .int .i64 ((((2 * r) + 1) + 1 : Nat) : Int)), (19, .int .i64 (hi : Int)), (20, .bool false), (21, .bool false), (22, undef), (23, undef), (24, undef), (25, undef), (26, undef), (27, undef), (28, undef), (29, undef), (30, undef), (31, undef), (32, undef), (33, undef), (34, undef), (35, undef), (36, .bool false)] (by kernel_rfl) ?_
        refine gc_no ?_
        refine gc_skip ?_
        exact ge_join ((2 * r) + 1 : Nat) ⟨R, .inl rfl, by omega, by rintro d (rfl | rfl) hd; exact Int.le_refl _; omega⟩ (by kernel_rfl)
    clear R
    rintro c1 v8 ⟨R, hc, hch, hmx⟩
    refine gc_seq ?_
    refine gc_seq ?_
    replace R := R.drew
    refine gc_draw (fun w' => Blk w' g (cs N f1) 31) (fun _ => false) R.blk ?_
    refine z 0 39 (.slice (some ⟨g, 0, none⟩) n c) ?_
    refine z 1 40 (.int .i64 (o : Int)) ?_
    refine z 2 41 (.int .i64 (r : Int)) ?_
    refine zq 3 42 (.int .i64 (IntKind.i64.wrap ((o : Int) + (r : Int)))) (.int .i64 ((o + r : Nat) : Int)) ((wi (by omega)).trans (congrArg (Value.int .i64) (by omega))) ?_
    refine zr 4 43 (pq g (o + r)) (fun _ _ => congr_v (by simp) (run_ixs 1 g 0 n c (o + r) (by omega))) ?_
    refine zl 5 44 (.int .u64 (f1 (o + r))) (fun _ h => h) (o + r) (hv := cs_at (by omega)) ?_
    refine z 6 45 (.slice (some ⟨g, 0, none⟩) n c) ?_
    refine z 7 46 (.int .i64 (o : Int)) ?_
    refine z 8 47 (.int .i64 (c1 : Int)) ?_
    refine zq 9 48 (.int .i64 (IntKind.i64.wrap ((o : Int) + (c1 : Int)))) (.int .i64 ((o + c1 : Nat) : Int)) ((wi (by omega)).trans (congrArg (Value.int .i64) (by omega))) ?_
    refine zr 10 49 (pq g (o + c1)) (fun _ _ => congr_v (by simp) (run_ixs 1 g 0 n c (o + c1) (by omega))) ?_
    refine zl 11 50 (.int .u64 (f1 (o + c1))) (fun _ h => h) (o + c1) (hv := cs_at (by omega)) ?_
    refine zc 12 51 104 #[.int .u64 (f1 (o + r)), .int .u64 (f1 (o + c1))] (less_any) ?_
    rintro _ v9 ⟨rfl, B⟩
    replace R := R.keep B
    clear B
    refine ⟨_, rfl, R.blk, ?_⟩
    refine z 13 52 (.bool (!(decide (f1 (o + r) < f1 (o + c1))))) ?_
    refine gz_done ?_
    refine ge_then ?_
    refine gc_fr [(0, .slice (some ⟨g, 0, none⟩) n c), (1, .int .i64 (lo : Int)), (2, .int .i64 (hi : Int)), (3, .int .i64 (o : Int)), (8, .int .i64 (r : Int)), (9, .int .i64 (c1 : Int)), (39, .slice (some ⟨g, 0, none⟩) n c), (40, .int .i64 (o : Int)), (41, .int .i64 (r : Int)), (42, .int .i64 ((o + r : Nat) : Int)), (43, pq g (o + r)), (44, .int .u64 (f1 (o + r))), (45, .slice (some ⟨g, 0, none⟩) n c), (46, .int .i64 (o : Int)), (47, .int .i64 (c1 : Int)), (48, .int .i64 ((o + c1 : Nat) : Int)), (49, pq g (o + c1)), (50, .int .u64 (f1 (o + c1))), (51, .bool (decide (f1 (o + r) < f1 (o + c1)))), (52, .bool (!(decide (f1 (o + r) < f1 (o + c1)))))] (by kernel_rfl) ?_
    rcases Bool.eq_false_or_eq_true (!(decide (f1 (o + r) < f1 (o + c1)))) with b10 | b10
    · have d11 : f1 (o + c1) ≤ f1 (o + r) := Int.not_lt.1 (of_decide_eq_false (by simpa using b10 : decide (f1 (o + r) < f1 (o + c1)) = false))
      refine gc_yes (hc := congrArg Value.bool b10) ?_
      refine gc_ret ?_
      refine ge_tr ?_
      refine ge_br ?_
      refine ge_tr ?_
      refine ge_br ?_
      refine ge_ret (.tuple #[]) (rs0 (by kernel_rfl)) ?_
      exact ⟨_, rfl, R, q1, hH.done fun c2 h1 h2 => Int.le_trans (hmx c2 h1 h2) d11⟩
    · have d12 : f1 (o + r) < f1 (o + c1) := of_decide_eq_true (by simpa using b10 : decide (f1 (o + r) < f1 (o + c1)) = true)
      refine gc_no (hc := congrArg Value.bool b10) ?_
      refine gc_skip ?_
      refine ge_then ?_
      refine gc_seq ?_
      replace R := R.drew
      refine gc_draw (fun w' => Blk w' g (cs N f1) 31) (fun i => decide (20 ≤ i)) R.blk ?_
      refine zp 0 53 (.slice (some ⟨g, 0, none⟩) n c) ?_
      refine zp 1 54 (.int .i64 (o : Int)) ?_
      refine zp 2 55 (.int .i64 (r : Int)) ?_
      refine zp 3 56 (.int .i64 ((o + r : Nat) : Int)) ?_ (hrun := fun _ => congr_v (v := .int .i64 (IntKind.i64.wrap ((o : Int) + (r : Int)))) ((wi (by omega)).trans (congrArg (Value.int .i64) (by omega))) (by kernel_rfl))
      refine zp 4 57 (.slice (some ⟨g, 0, none⟩) n c) ?_
      refine zp 5 58 (.int .i64 (o : Int)) ?_
      refine zp 6 59 (.int .i64 (c1 : Int)) ?_
      refine zp 7 60 (.int .i64 ((o + c1 : Nat) : Int)) ?_ (hrun := fun _ => congr_v (v := .int .i64 (IntKind.i64.wrap ((o : Int) + (c1 : Int)))) ((wi (by omega)).trans (congrArg (Value.int .i64) (by omega))) (by kernel_rfl))
      refine zp 8 61 (.slice (some ⟨g, 0, none⟩) n c) ?_
      refine zp 9 62 (.int .i64 (o : Int)) ?_
      refine zp 10 63 (.int .i64 (c1 : Int)) ?_
      refine zp 11 64 (.int .i64 ((o + c1 : Nat) : Int)) ?_ (hrun := fun _ => congr_v (v := .int .i64 (IntKind.i64.wrap ((o : Int) + (c1 : Int)))) ((wi (by omega)).trans (congrArg (Value.int .i64) (by omega))) (by kernel_rfl))
      refine zp 12 65 (pq g (o + c1)) ?_ (hrun := fun _ => congr_v (by simp) (run_ixs 1 g 0 n c (o + c1) (by omega)))
      refine zl 13 66 (.int .u64 (f1 (o + c1))) (fun _ h => h) (o + c1) (hv := cs_at (by omega)) ?_
      refine zp 14 67 (.slice (some ⟨g, 0, none⟩) n c) ?_
      refine zp 15 68 (.int .i64 (o : Int)) ?_
      refine zp 16 69 (.int .i64 (r : Int)) ?_
      refine zp 17 70 (.int .i64 ((o + r : Nat) : Int)) ?_ (hrun := fun _ => congr_v (v := .int .i64 (IntKind.i64.wrap ((o : Int) + (r : Int)))) ((wi (by omega)).trans (congrArg (Value.int .i64) (by omega))) (by kernel_rfl))
      refine zp 18 71 (pq g (o + r)) ?_ (hrun := fun _ => congr_v (by simp) (run_ixs 1 g 0 n c (o + r) (by omega)))
      refine zl 19 72 (.int .u64 (f1 (o + r))) (fun _ h => h) (o + r) (hv := cs_at (by omega)) ?_
      refine gz_late ?_
      refine yt 20 73 (pq g (o + r)) ?_ (hrun := congr_v (by simp) (run_ixs 1 g 0 n c (o + r) (by omega)))
      refine ys 21 R.blk (o + r) (.int .u64 (f1 (o + c1))) [.int .u64 (f1 (o + c1))] (cs N (pu f1 (o + r) (f1 (o + c1)))) ?_ (hb := cs_fit (by omega)) (he := cs_put (by omega))
      intro v13 Y C
      replace R := R.put C Y
      clear Y C
      refine yt 22 74 (pq g (o + c1)) ?_ (hrun := congr_v (by simp) (run_ixs 1 g 0 n c (o + c1) (by omega)))
      refine ys 23 R.blk (o + c1) (.int .u64 (f1 (o + r))) [.int .u64 (f1 (o + r))] (cs N (sw f1 (o + r) (o + c1))) ?_ (hb := cs_fit (by omega)) (he := cs_sw (by omega))
      intro v14 Y C
      replace R := R.put C Y
      clear Y C
      refine gy_done ?_
      refine ge_then ?_
      refine gc_fr [(0, .slice (some ⟨g, 0, none⟩) n c), (1, .int .i64 (lo : Int)), (2, .int .i64 (hi : Int)), (3, .int .i64 (o : Int)), (8, .int .i64 (r : Int)), (9, .int .i64 (c1 : Int)), (39, .slice (some ⟨g, 0, none⟩) n c), (40, .int .i64 (o : Int)), (41, .int .i64 (r : Int)), (42, .int .i64 ((o + r : Nat) : Int)), (43, pq g (o + r)), (44, .int .u64 (f1 (o + r))), (45, .slice (some ⟨g, 0, none⟩) n c), (46, .int .i64 (o : Int)), (47, .int .i64 (c1 : Int)), (48, .int .i64 ((o + c1 : Nat) : Int)), (49, pq g (o + c1)), (50, .int .u64 (f1 (o + c1))), (51, .bool (decide (f1 (o + r) < f1 (o + c1)))), (52, .bool (!(decide (f1 (o + r) < f1 (o + c1))))), (53, .slice (some ⟨g, 0, none⟩) n c), (54, .int .i64 (o : Int)), (55, .int .i64 (r : Int)), (56, .int .i64 ((o + r : Nat) : Int)), (57, .slice (some ⟨g, 0, none⟩) n c), (58, .int .i64 (o : Int)), (59, .int .i64 (c1 : Int)), (60, .int .i64 ((o + c1 : Nat) : Int)), (61, .slice (some ⟨g, 0, none⟩) n c), (62, .int .i64 (o : Int)), (63, .int .i64 (c1 : Int)), (64, .int .i64 ((o + c1 : Nat) : Int)), (65, pq g (o + c1)), (66, .int .u64 (f1 (o + c1))), (67, .slice (some ⟨g, 0, none⟩) n c), (68, .int .i64 (o : Int)), (69, .int .i64 (r : Int)), (70, .int .i64 ((o + r : Nat) : Int)), (71, pq g (o + r)), (72, .int .u64 (f1 (o + r))), (73, pq g (o + r)), (74, pq g (o + c1))] (by kernel_rfl) ?_
      refine gc_reg ?_
      refine t 75 (.int .i64 (c1 : Int)) ?_
      refine t 8 (.int .i64 (c1 : Int)) ?_
      refine gl_nil ?_
      refine ge_bn ?_
      exact ge_round (c1, (sw f1 (o + r) (o + c1))) (by show hi - c1 < hi - r; omega) ⟨R, hH.step hr ⟨hc, hch⟩ hmx d12, ⟨by show lo ≤ c1; omega, by show c1 ≤ n; omega⟩, q1.trans (Pm.sw ⟨by omega, by omega⟩ ⟨by omega, by omega⟩)⟩ (by kernel_rfl)
end So
end Go.Proofs.YtemkjdanemddpaaGreat

namespace Go.Proofs.YtemkjdanemddpaaGreat
namespace So
open Go.RowKit Go.Lib Pg Gl
set_option maxRecDepth 100000
set_option linter.unusedVariables false
set_option linter.unusedSimpArgs false
set_option maxHeartbeats 4000000
theorem heap_any {w : World} {g N n c a b : Nat} {f : Nat → Int} (X : Blk w g (cs N f) 31) (hn : n ≤ N) (hN : n ≤ 1000000000) (hab : a < b) (hb : b ≤ n) : Calls Tryz.prog 99 #[.slice (some ⟨g, 0, none⟩) n c, .int .i64 (a : Int), .int .i64 (b : Int)] w (SoE w g N a b f) := by
  have R := sr_of X
  refine gc_enter (n := 56) Tryz.func99 rfl (by kernel_rfl) (by kernel_rfl) ?_
  refine gc_seq ?_
  refine gc_reg ?_
  refine t 11 (.int .i64 (a : Int)) ?_
  refine t 6 (.int .i64 (a : Int)) ?_
  refine gl_nil ?_
  refine ge_then ?_
  refine gc_seq ?_
  refine gc_reg ?_
  refine t 7 (.int .i64 0) ?_
  refine gl_nil ?_
  refine ge_then ?_
  refine gc_seq ?_
  refine gc_reg ?_
  refine t 12 (.int .i64 (b : Int)) ?_
  refine t 13 (.int .i64 (a : Int)) ?_
  refine tq 14 (.int .i64 (IntKind.i64.wrap ((b : Int) - (a : Int)))) (.int .i64 ((b - a : Nat) : Int)) ((wi (by omega)).trans (congrArg (Value.int .i64) (by omega))) ?_
  refine t 8 (.int .i64 ((b - a : Nat) : Int)) ?_
  refine gl_nil ?_
  refine ge_then ?_
  refine gc_seq ?_
  refine gc_seq ?_
  refine gc_reg ?_
  refine t 15 (.int .i64 ((b - a : Nat) : Int)) ?_
  refine tq 16 (.int .i64 (IntKind.i64.wrap (((b - a : Nat) : Int) - 1))) (.int .i64 (((b - a) - 1 : Nat) : Int)) ((wi (by omega)).trans (congrArg (Value.int .i64) (by omega))) ?_
  obtain ⟨x0, hx0⟩ : ∃ x0 : Nat, x0 = (b - a - 1) / 2 + 1 := ⟨_, rfl⟩
  refine tr 17 (.int .i64 ((x0 : Int) - 1)) (congr_v (congrArg (Value.int .i64) (show (((b - a) - 1 : Nat) : Int) / 2 = (x0 : Int) - 1 by omega)) (run_quoi (((b - a) - 1 : Nat) : Int) 2 ⟨by omega, by omega⟩ ⟨by decide, by decide⟩)) ?_
  refine t 9 (.int .i64 ((x0 : Int) - 1)) ?_
  refine gl_nil ?_
  refine ge_then ?_
  refine gc_fr [(0, .slice (some ⟨g, 0, none⟩) n c), (6, .int .i64 (a : Int)), (7, .int .i64 0), (8, .int .i64 ((b - a : Nat) : Int)), (9, .int .i64 ((x0 : Int) - 1))] (by kernel_rfl) ?_
  refine gc_block ?_
  refine gc_loop (fun x => x.1) (fun (x : Nat × (Nat → Int)) => [(0, .slice (some ⟨g, 0, none⟩) n c), (6, .int .i64 (a : Int)), (7, .int .i64 0), (8, .int .i64 ((b - a : Nat) : Int)), (9, .int .i64 ((x.1 : Int) - 1))]) (fun x w' => Sr w g N w' x.2 ∧ x.1 ≤ b - a ∧ Heap a x.1 (b - a) x.2 ∧ Pm a b f x.2) ((x0, f) : Nat × (Nat → Int)) ⟨R, by show x0 ≤ b - a; omega, heap_low (by show b - a ≤ 2 * x0 + 1; omega), Pm.refl⟩ (by kernel_rfl) ?_
  clear R
  rintro ⟨x, f1⟩ v1 ⟨R, hx, hH, q1⟩
  dsimp only at R hx hH q1
  refine gc_seq ?_
  refine gc_seq ?_
  refine gc_reg ?_
  refine t 18 (.int .i64 ((x : Int) - 1)) ?_
  by_cases c2 : (0 : Int) ≤ (x : Int) - 1
  · refine tq 19 (.bool (decide ((0 : Int) ≤ (x : Int) - 1))) (.bool true) (congrArg Value.bool (decide_eq_true c2)) ?_
    refine gl_nil ?_
    refine ge_then ?_
    refine gc_yes ?_
    refine gc_skip ?_
    refine ge_then ?_
    refine gc_seq ?_
    refine gc_block ?_
    refine gc_reg ?_
    refine t 22 (.slice (some ⟨g, 0, none⟩) n c) ?_
    refine t 23 (.int .i64 ((x : Int) - 1)) ?_
    refine t 24 (.int .i64 ((b - a : Nat) : Int)) ?_
    refine t 25 (.int .i64 (a : Int)) ?_
    refine tc 26 122 #[.slice (some ⟨g, 0, none⟩) n c, .int .i64 ((x : Int) - 1), .int .i64 ((b - a : Nat) : Int), .int .i64 (a : Int)] (by rw [show ((x : Int) - 1) = ((x - 1 : Nat) : Int) by omega]; exact sift_any (lo := x - 1) R.blk hn hN (by rw [show x - 1 + 1 = x by omega]; exact hH) (by omega) (by omega)) ?_
    rintro _ v3 ⟨f2, rfl, R2, p2, hH2⟩
    refine ⟨_, rfl, ?_⟩
    replace R := R.call R2
    have q2 : Pm a b f f2 := q1.trans (p2.mono (by omega) (by omega) (by omega))
    clear R2
    refine gl_nil ?_
    refine ge_bn ?_
    refine ge_then ?_
    refine gc_reg ?_
    refine t 20 (.int .i64 ((x : Int) - 1)) ?_
    refine tq 21 (.int .i64 (IntKind.i64.wrap ((x : Int) - 1 - 1))) (.int .i64 (((x - 1 : Nat) : Int) - 1)) ((wi (by omega)).trans (congrArg (Value.int .i64) (by omega))) ?_
    refine t 9 (.int .i64 (((x - 1 : Nat) : Int) - 1)) ?_
    refine gl_nil ?_
    exact ge_round (x - 1, f2) (by show x - 1 < x; omega) ⟨R, by show x - 1 ≤ b - a; omega, hH2, q2⟩ (by kernel_rfl)
  · refine tq 19 (.bool (decide ((0 : Int) ≤ (x : Int) - 1))) (.bool false) (congrArg Value.bool (decide_eq_false c2)) ?_
    refine gl_nil ?_
    refine ge_then ?_
    refine gc_no ?_
    refine gc_exit ?_
    refine ge_tx ?_
    refine ge_tx ?_
    refine ge_bx ?_
    refine ge_then ?_
    refine gc_seq ?_
    refine gc_reg ?_
    refine t 27 (.int .i64 ((b - a : Nat) : Int)) ?_
    refine tq 28 (.int .i64 (IntKind.i64.wrap (((b - a : Nat) : Int) - 1))) (.int .i64 (((b - a : Nat) : Int) - 1)) (wi (by omega)) ?_
    refine t 10 (.int .i64 (((b - a : Nat) : Int) - 1)) ?_
    refine gl_nil ?_
    refine ge_then ?_
    refine gc_block ?_
    refine gc_loop (fun x => x.1) (fun (x : Nat × (Nat → Int)) => [(0, .slice (some ⟨g, 0, none⟩) n c), (6, .int .i64 (a : Int)), (7, .int .i64 0), (8, .int .i64 ((b - a : Nat) : Int)), (10, .int .i64 ((x.1 : Int) - 1))]) (fun x w' => Sr w g N w' x.2 ∧ Hs a b x.1 x.2 ∧ Pm a b f x.2) ((b - a, f1) : Nat × (Nat → Int)) ⟨R, Hs.start (by omega) (by rw [show x = 0 by omega] at hH; exact hH), q1⟩ (by kernel_rfl) ?_
    clear R
    rintro ⟨x, f1⟩ v4 ⟨R, hS, q1⟩
    dsimp only at R hS q1
    have hxl := hS.le
    refine gc_seq ?_
    refine gc_seq ?_
    refine gc_reg ?_
    refine t 29 (.int .i64 ((x : Int) - 1)) ?_
    by_cases c5 : (0 : Int) ≤ (x : Int) - 1
    · refine tq 30 (.bool (decide ((0 : Int) ≤ (x : Int) - 1))) (.bool true) (congrArg Value.bool (decide_eq_true c5)) ?_
      refine gl_nil ?_
      refine ge_then ?_
      refine gc_yes ?_
      refine gc_skip ?_
      refine ge_then ?_
      refine gc_seq ?_
      refine gc_block ?_
      refine gc_seq ?_
      replace R := R.drew
      refine gc_draw (fun w' => Blk w' g (cs N f1) 31) (fun i => decide (16 ≤ i)) R.blk ?_
      refine zp 0 33 (.slice (some ⟨g, 0, none⟩) n c) ?_
      refine zp 1 34 (.int .i64 (a : Int)) ?_
      refine zp 2 35 (.slice (some ⟨g, 0, none⟩) n c) ?_
      refine zp 3 36 (.int .i64 (a : Int)) ?_
      refine zp 4 37 (.int .i64 ((x : Int) - 1)) ?_
      refine zp 5 38 (.int .i64 ((a + (x - 1) : Nat) : Int)) ?_ (hrun := fun _ => congr_v (v := .int .i64 (IntKind.i64.wrap ((a : Int) + ((x : Int) - 1)))) ((wi (by omega)).trans (congrArg (Value.int .i64) (by omega))) (by kernel_rfl))
      refine zp 6 39 (.slice (some ⟨g, 0, none⟩) n c) ?_
      refine zp 7 40 (.int .i64 (a : Int)) ?_
      refine zp 8 41 (.int .i64 ((x : Int) - 1)) ?_
      refine zp 9 42 (.int .i64 ((a + (x - 1) : Nat) : Int)) ?_ (hrun := fun _ => congr_v (v := .int .i64 (IntKind.i64.wrap ((a : Int) + ((x : Int) - 1)))) ((wi (by omega)).trans (congrArg (Value.int .i64) (by omega))) (by kernel_rfl))
      refine zp 10 43 (pq g (a + (x - 1))) ?_ (hrun := fun _ => congr_v (by simp) (run_ixs 1 g 0 n c (a + (x - 1)) (by omega)))
      refine zl 11 44 (.int .u64 (f1 (a + (x - 1)))) (fun _ h => h) (a + (x - 1)) (hv := cs_at (by omega)) ?_
      refine zp 12 45 (.slice (some ⟨g, 0, none⟩) n c) ?_
      refine zp 13 46 (.int .i64 (a : Int)) ?_
      refine zp 14 47 (pq g a) ?_ (hrun := fun _ => congr_v (by simp) (run_ixs 1 g 0 n c a (by omega)))
      refine zl 15 48 (.int .u64 (f1 a)) (fun _ h => h) a (hv := cs_at (by omega)) ?_
      refine gz_late ?_
      refine yt 16 49 (pq g a) ?_ (hrun := congr_v (by simp) (run_ixs 1 g 0 n c a (by omega)))
      refine ys 17 R.blk a (.int .u64 (f1 (a + (x - 1)))) [.int .u64 (f1 (a + (x - 1)))] (cs N (pu f1 a (f1 (a + (x - 1))))) ?_ (hb := cs_fit (by omega)) (he := cs_put (by omega))
      intro v6 Y C
      replace R := R.put C Y
      clear Y C
      refine yt 18 50 (pq g (a + (x - 1))) ?_ (hrun := congr_v (by simp) (run_ixs 1 g 0 n c (a + (x - 1)) (by omega)))
      refine ys 19 R.blk (a + (x - 1)) (.int .u64 (f1 a)) [.int .u64 (f1 a)] (cs N (sw f1 a (a + (x - 1)))) ?_ (hb := cs_fit (by omega)) (he := cs_sw (by omega))
      intro v7 Y C
      replace R := R.put C Y
      clear Y C
      refine gy_done ?_
      refine ge_then ?_
      refine gc_fr [(0, .slice (some ⟨g, 0, none⟩) n c), (6, .int .i64 (a : Int)), (7, .int .i64 0), (8, .int .i64 ((b - a : Nat) : Int)), (10, .int .i64 ((x : Int) - 1)), (29, .int .i64 ((x : Int) - 1)), (30, .bool true), (33, .slice (some ⟨g, 0, none⟩) n c), (34, .int .i64 (a : Int)), (35, .slice (some ⟨g, 0, none⟩) n c), (36, .int .i64 (a : Int)), (37, .int .i64 ((x : Int) - 1)), (38, .int .i64 ((a + (x - 1) : Nat) : Int)), (39, .slice (some ⟨g, 0, none⟩) n c), (40, .int .i64 (a : Int)), (41, .int .i64 ((x : Int) - 1)), (42, .int .i64 ((a + (x - 1) : Nat) : Int)), (43, pq g (a + (x - 1))), (44, .int .u64 (f1 (a + (x - 1)))), (45, .slice (some ⟨g, 0, none⟩) n c), (46, .int .i64 (a : Int)), (47, pq g a), (48, .int .u64 (f1 a)), (49, pq g a), (50, pq g (a + (x - 1)))] (by kernel_rfl) ?_
      refine gc_reg ?_
      refine t 51 (.slice (some ⟨g, 0, none⟩) n c) ?_
      refine t 52 (.int .i64 0) ?_
      refine t 53 (.int .i64 ((x : Int) - 1)) ?_
      refine t 54 (.int .i64 (a : Int)) ?_
      refine tc 55 122 #[.slice (some ⟨g, 0, none⟩) n c, .int .i64 0, .int .i64 ((x : Int) - 1), .int .i64 (a : Int)] (by rw [show ((x : Int) - 1) = ((x - 1 : Nat) : Int) by omega]; exact sift_any (lo := 0) R.blk hn hN (hS.swp (by omega)) (by omega) (by omega)) ?_
      rintro _ v8 ⟨f2, rfl, R2, p2, hH2⟩
      refine ⟨_, rfl, ?_⟩
      replace R := R.call R2
      have hS2 := hS.step (by omega) p2 hH2
      have q2 : Pm a b f f2 := (q1.trans (Pm.sw ⟨by omega, by omega⟩ ⟨by omega, by omega⟩)).trans (p2.mono (by omega) (by omega) (by omega))
      clear R2
      refine gl_nil ?_
      refine ge_bn ?_
      refine ge_then ?_
      refine gc_reg ?_
      refine t 31 (.int .i64 ((x : Int) - 1)) ?_
      refine tq 32 (.int .i64 (IntKind.i64.wrap ((x : Int) - 1 - 1))) (.int .i64 (((x - 1 : Nat) : Int) - 1)) ((wi (by omega)).trans (congrArg (Value.int .i64) (by omega))) ?_
      refine t 10 (.int .i64 (((x - 1 : Nat) : Int) - 1)) ?_
      refine gl_nil ?_
      exact ge_round (x - 1, f2) (by show x - 1 < x; omega) ⟨R, hS2, q2⟩ (by kernel_rfl)
    · refine tq 30 (.bool (decide ((0 : Int) ≤ (x : Int) - 1))) (.bool false) (congrArg Value.bool (decide_eq_false c5)) ?_
      refine gl_nil ?_
      refine ge_then ?_
      refine gc_no ?_
      refine gc_exit ?_
      refine ge_tx ?_
      refine ge_tx ?_
      refine ge_bx ?_
      refine ge_end (.tuple #[]) (rs0 (by kernel_rfl)) ?_
      obtain rfl : x = 0 := by omega
      exact ⟨_, rfl, R, q1, hS.done⟩
end So
end Go.Proofs.YtemkjdanemddpaaGreat
