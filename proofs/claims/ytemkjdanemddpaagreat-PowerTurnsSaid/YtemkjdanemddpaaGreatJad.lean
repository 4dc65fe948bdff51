/- Several texts, joined: SoK. -/
import Derived.Test.YtemkjdanemddpaaGreatJac
namespace Go.Proofs.YtemkjdanemddpaaGreat
namespace So
open Go.RowKit Go.Lib Pg Gl
set_option maxRecDepth 100000
set_option linter.unusedVariables false
set_option linter.unusedSimpArgs false
set_option maxHeartbeats 4000000
/-- the one ahead of a is no greater than those from a to b -/
def Low (a b : Nat) (f : Nat → Int) : Prop := a = 0 ∨ ∀ k, a ≤ k → k < b → f (a - 1) ≤ f k
theorem Low.pm {a b : Nat} {f h : Nat → Int} (l : Low a b f) (p : Pm a b f h) : Low a b h := by
  rcases l with e | e
  · exact .inl e
  · by_cases c : a = 0
    · exact .inl c
    · refine .inr (p.all (P := fun v => h (a - 1) ≤ v) fun k h1 h2 => ?_)
      rw [p.out (a - 1) (.inl (by omega))]
      exact e k h1 h2
theorem Low.lt {a b k : Nat} {f : Nat → Int} (l : Low a b f) (h1 : a ≤ k ∧ k < b ∧ 1 ≤ k) (h2 : f k < f (k - 1)) : a < k := by
  rcases Nat.eq_or_lt_of_le h1.1 with c | c
  · subst c
    rcases l with e | e
    · omega
    · have := e a (Nat.le_refl _) h1.2.1
      omega
  · exact c
theorem Srt.next {a i : Nat} {f : Nat → Int} (s : Srt a i f) (ha : a + 1 ≤ i) (h : f (i - 1) ≤ f i) : Srt a (i + 1) f := s.snoc fun k h1 h2 => Int.le_trans (s k (i - 1) h1 (by omega) (by omega)) h
theorem Srt.far {a i p q : Nat} {f : Nat → Int} (s : Srt a i f) (hp : i ≤ p) (hq : i ≤ q) : Srt a i (sw f p q) := fun k l h1 h2 h3 => by
  rw [sw_o (by omega) (by omega), sw_o (by omega) (by omega)]
  exact s k l h1 h2 h3
structure PiE (w : World) (g N a b : Nat) (f : Nat → Int) (e : Ending) (w' : World) : Prop where
  ex : ∃ (q : Bool) (h : Nat → Int), e = .returned (.bool q) ∧ Sr w g N w' h ∧ Pm a b f h ∧ (q = true → Srt a b h)
theorem partialIns_any {w : World} {g N n c a b : Nat} {f : Nat → Int} (X : Blk w g (cs N f) 31) (hn : n ≤ N) (hN : n ≤ 1000000000) (hab : a < b) (hb : b ≤ n) (hlow : Low a b f) : Calls Tryz.prog 103 #[.slice (some ⟨g, 0, none⟩) n c, .int .i64 (a : Int), .int .i64 (b : Int)] w (PiE w g N a b f) := by
  have R := sr_of X
  refine gc_enter (n := 133) Tryz.func103 rfl (by kernel_rfl) (by kernel_rfl) ?_
  refine gc_seq ?_
  refine gc_reg ?_
  refine t 6 (.bool false) ?_
  refine gl_nil ?_
  refine ge_then ?_
  refine gc_seq ?_
  refine gc_reg ?_
  refine t 11 (.int .i64 (a : Int)) ?_
  refine tq 12 (.int .i64 (IntKind.i64.wrap ((a : Int) + 1))) (.int .i64 ((a + 1 : Nat) : Int)) ((wi (by omega)).trans (congrArg (Value.int .i64) (by omega))) ?_
  refine t 7 (.int .i64 ((a + 1 : Nat) : Int)) ?_
  refine gl_nil ?_
  refine ge_then ?_
  refine gc_seq ?_
  refine gc_seq ?_
  refine gc_reg ?_
  refine t 8 (.int .i64 0) ?_
  refine gl_nil ?_
  refine ge_then ?_
  refine gc_block ?_
  refine gc_loop (fun x => 5 - x.1) (fun (x : Nat × Nat × (Nat → Int)) => [(0, .slice (some ⟨g, 0, none⟩) n c), (1, .int .i64 (a : Int)), (2, .int .i64 (b : Int)), (7, .int .i64 (x.2.1 : Int)), (8, .int .i64 (x.1 : Int))]) (fun x w' => Sr w g N w' x.2.2 ∧ (a + 1 ≤ x.2.1 ∧ x.2.1 ≤ b ∧ x.1 ≤ 5) ∧ Srt a x.2.1 x.2.2 ∧ Pm a b f x.2.2) ((0, a + 1, f) : Nat × Nat × (Nat → Int)) ⟨R, ⟨Nat.le_refl _, by show a + 1 ≤ b; omega, by show 0 ≤ 5; omega⟩, srt_one (Nat.le_refl _), Pm.refl⟩ (by kernel_rfl) ?_
  clear R
  rintro ⟨jj, i0, f1⟩ v1 ⟨R, hi0, hs, q1⟩
  dsimp only at R hi0 hs q1
  refine gc_seq ?_
  refine gc_seq ?_
  refine gc_reg ?_
  refine t 13 (.int .i64 (jj : Int)) ?_
  by_cases c2 : (jj : Int) < 5
  · refine tq 14 (.bool (decide ((jj : Int) < 5))) (.bool true) (congrArg Value.bool (decide_eq_true c2)) ?_
    refine gl_nil ?_
    refine ge_then ?_
    refine gc_yes ?_
    refine gc_skip ?_
    refine ge_then ?_
    refine gc_join (fun (x : Nat × (Nat → Int)) => [(0, .slice (some ⟨g, 0, none⟩) n c), (1, .int .i64 (a : Int)), (2, .int .i64 (b : Int)), (7, .int .i64 (x.1 : Int)), (8, .int .i64 (jj : Int))]) (fun x w' => Sr w g N w' x.2 ∧ (a + 1 ≤ x.1 ∧ x.1 ≤ b) ∧ Srt a x.1 x.2 ∧ Pm a b f x.2) ?_ ?_
    · refine gc_block ?_
      refine gc_join (fun (x : Nat) => [(0, .slice (some ⟨g, 0, none⟩) n c), (1, .int .i64 (a : Int)), (2, .int .i64 (b : Int)), (7, .int .i64 (x : Int)), (8, .int .i64 (jj : Int))]) (fun x w' => Sr w g N w' f1 ∧ (a + 1 ≤ x ∧ x ≤ b) ∧ Srt a x f1 ∧ (x = b ∨ f1 x < f1 (x - 1))) ?_ ?_
      · refine gc_block ?_
        refine gc_loop (fun x => b - x) (fun (x : Nat) => [(0, .slice (some ⟨g, 0, none⟩) n c), (1, .int .i64 (a : Int)), (2, .int .i64 (b : Int)), (7, .int .i64 (x : Int)), (8, .int .i64 (jj : Int))]) (fun x w' => Sr w g N w' f1 ∧ (a + 1 ≤ x ∧ x ≤ b) ∧ Srt a x f1) (i0 : Nat) ⟨R, ⟨by omega, by omega⟩, hs⟩ (by kernel_rfl) ?_
        clear R
        rintro i2 v3 ⟨R, hi2, hs2⟩
        refine gc_seq ?_
        refine gc_seq ?_
        replace R := R.drew
        refine gc_draw (fun w' => Blk w' g (cs N f1) 31) (fun _ => false) R.blk ?_
        refine z 0 17 (.int .i64 (i2 : Int)) ?_
        refine z 1 18 (.int .i64 (b : Int)) ?_
        by_cases c4 : (i2 : Int) < (b : Int)
        · refine zq 2 19 (.bool (decide ((i2 : Int) < (b : Int)))) (.bool true) (congrArg Value.bool (decide_eq_true c4)) ?_
          refine z 3 20 (.bool true) ?_
          refine z 4 21 (.slice (some ⟨g, 0, none⟩) n c) ?_
          refine z 5 22 (.int .i64 (i2 : Int)) ?_
          refine zr 6 23 (pq g i2) (fun _ _ => congr_v (by simp) (run_ixs 1 g 0 n c i2 (by omega))) ?_
          refine zl 7 24 (.int .u64 (f1 i2)) (fun _ h => h) i2 (hv := cs_at (by omega)) ?_
          refine z 8 25 (.slice (some ⟨g, 0, none⟩) n c) ?_
          refine z 9 26 (.int .i64 (i2 : Int)) ?_
          refine zq 10 27 (.int .i64 (IntKind.i64.wrap ((i2 : Int) - 1))) (.int .i64 ((i2 - 1 : Nat) : Int)) ((wi (by omega)).trans (congrArg (Value.int .i64) (by omega))) ?_
          refine zr 11 28 (pq g (i2 - 1)) (fun _ _ => congr_v (by simp) (run_ixs 1 g 0 n c (i2 - 1) (by omega))) ?_
          refine zl 12 29 (.int .u64 (f1 (i2 - 1))) (fun _ h => h) (i2 - 1) (hv := cs_at (by omega)) ?_
          refine zc 13 30 104 #[.int .u64 (f1 i2), .int .u64 (f1 (i2 - 1))] (less_any) ?_
          rintro _ v5 ⟨rfl, B⟩
          replace R := R.keep B
          clear B
          refine ⟨_, rfl, R.blk, ?_⟩
          refine z 14 31 (.bool (!(decide (f1 i2 < f1 (i2 - 1))))) ?_
          refine z 15 32 (.bool (!(decide (f1 i2 < f1 (i2 - 1))))) ?_
          refine gz_done ?_
          refine ge_then ?_
          refine gc_fr [(0, .slice (some ⟨g, 0, none⟩) n c), (1, .int .i64 (a : Int)), (2, .int .i64 (b : Int)), (7, .int .i64 (i2 : Int)), (8, .int .i64 (jj : Int)), (17, .int .i64 (i2 : Int)), (18, .int .i64 (b : Int)), (19, .bool true), (20, .bool true), (21, .slice (some ⟨g, 0, none⟩) n c), (22, .int .i64 (i2 : Int)), (23, pq g i2), (24, .int .u64 (f1 i2)), (25, .slice (some ⟨g, 0, none⟩) n c), (26, .int .i64 (i2 : Int)), (27, .int .i64 ((i2 - 1 : Nat) : Int)), (28, pq g (i2 - 1)), (29, .int .u64 (f1 (i2 - 1))), (30, .bool (decide (f1 i2 < f1 (i2 - 1)))), (31, .bool (!(decide (f1 i2 < f1 (i2 - 1))))), (32, .bool (!(decide (f1 i2 < f1 (i2 - 1)))))] (by kernel_rfl) ?_
          rcases Bool.eq_false_or_eq_true (!(decide (f1 i2 < f1 (i2 - 1)))) with b6 | b6
          · have d7 : f1 (i2 - 1) ≤ f1 i2 := Int.not_lt.1 (of_decide_eq_false (by simpa using b6 : decide (f1 i2 < f1 (i2 - 1)) = false))
            refine gc_yes (hc := congrArg Value.bool b6) ?_
            refine gc_skip ?_
            refine ge_then ?_
            refine gc_block ?_
            refine gc_reg ?_
            refine t 33 (.int .i64 (i2 : Int)) ?_
            refine tq 34 (.int .i64 (IntKind.i64.wrap ((i2 : Int) + 1))) (.int .i64 ((i2 + 1 : Nat) : Int)) ((wi (by omega)).trans (congrArg (Value.int .i64) (by omega))) ?_
            refine t 7 (.int .i64 ((i2 + 1 : Nat) : Int)) ?_
            refine gl_nil ?_
            refine ge_bn ?_
            exact ge_round (i2 + 1) (by show b - (i2 + 1) < b - i2; omega) ⟨R, ⟨by omega, by omega⟩, hs2.next (by omega) d7⟩ (by kernel_rfl)
          · have d8 : f1 i2 < f1 (i2 - 1) := of_decide_eq_true (by simpa using b6 : decide (f1 i2 < f1 (i2 - 1)) = true)
            refine gc_no (hc := congrArg Value.bool b6) ?_
            refine gc_exit ?_
            refine ge_tx ?_
            refine ge_tx ?_
            refine ge_bx ?_
            exact ge_join (i2 : Nat) ⟨R, hi2, hs2, .inr d8⟩ (by kernel_rfl)
        · refine zq 2 19 (.bool (decide ((i2 : Int) < (b : Int)))) (.bool false) (congrArg Value.bool (decide_eq_false c4)) ?_
          refine z 3 20 (.bool false) ?_
          refine zn 4 21 ?_
          refine zn 5 22 ?_
          refine zn 6 23 ?_
          refine zn 7 24 ?_
          refine zn 8 25 ?_
          refine zn 9 26 ?_
          refine zn 10 27 ?_
          refine zn 11 28 ?_
          refine zn 12 29 ?_
          refine zn 13 30 ?_
          refine zn 14 31 ?_
          refine z 15 32 (.bool false) ?_
          refine gz_done ?_
          refine ge_then ?_
          refine gc_fr [(0, .slice (some ⟨g, 0, none⟩) n c), (1, .int .i64 (a : Int)), (2, .int .i64 (b : Int)), (7, .int .i64 (i2 : Int)), (8, .int .i64 (jj : Int)), (17, .int .i64 (i2 : Int)), (18, .int .i64 (b : Int)), (19, .bool false), (20, .bool false), (21, undef), (22, undef), (23, undef), (24, undef), (25, undef), (26, undef), (27, undef), (28, undef), (29, undef), (30, undef), (31, undef), (32, .bool false)] (by kernel_rfl) ?_
          refine gc_no ?_
          refine gc_exit ?_
          refine ge_tx ?_
          refine ge_tx ?_
          refine ge_bx ?_
          exact ge_join (i2 : Nat) ⟨R, hi2, hs2, .inl (by omega)⟩ (by kernel_rfl)
      clear R
      rintro i v9 ⟨R, hi, hs3, hc⟩
      refine gc_seq ?_
      refine gc_seq ?_
      refine gc_reg ?_
      refine t 35 (.int .i64 (i : Int)) ?_
      refine t 36 (.int .i64 (b : Int)) ?_
      by_cases c10 : (i : Int) = (b : Int)
      · refine tq 37 (.bool ((i : Int) == (b : Int))) (.bool true) (congrArg Value.bool (beq_iff_eq.2 c10)) ?_
        refine gl_nil ?_
        refine ge_then ?_
        refine gc_yes ?_
        refine gc_seq ?_
        refine gc_reg ?_
        refine t 6 (.bool true) ?_
        refine gl_nil ?_
        refine ge_then ?_
        refine gc_ret ?_
        refine ge_tr ?_
        refine ge_br ?_
        refine ge_tr ?_
        refine ge_tr ?_
        refine ge_br ?_
        refine ge_tr ?_
        refine ge_ret (.bool true) (rs1 6 (by kernel_rfl) (by kernel_rfl)) ?_
        exact ⟨true, _, rfl, R, q1, fun _ => by rw [show b = i by omega]; exact hs3⟩
      · refine tq 37 (.bool ((i : Int) == (b : Int))) (.bool false) (congrArg Value.bool (beq_eq_false_iff_ne.2 c10)) ?_
        refine gl_nil ?_
        refine ge_then ?_
        refine gc_no ?_
        refine gc_skip ?_
        refine ge_then ?_
        refine gc_seq ?_
        refine gc_seq ?_
        refine gc_reg ?_
        refine t 38 (.int .i64 (b : Int)) ?_
        refine t 39 (.int .i64 (a : Int)) ?_
        refine tq 40 (.int .i64 (IntKind.i64.wrap ((b : Int) - (a : Int)))) (.int .i64 ((b - a : Nat) : Int)) ((wi (by omega)).trans (congrArg (Value.int .i64) (by omega))) ?_
        by_cases c11 : ((b - a : Nat) : Int) < 50
        · refine tq 41 (.bool (decide (((b - a : Nat) : Int) < 50))) (.bool true) (congrArg Value.bool (decide_eq_true c11)) ?_
          refine gl_nil ?_
          refine ge_then ?_
          refine gc_yes ?_
          refine gc_seq ?_
          refine gc_reg ?_
          refine t 6 (.bool false) ?_
          refine gl_nil ?_
          refine ge_then ?_
          refine gc_ret ?_
          refine ge_tr ?_
          refine ge_br ?_
          refine ge_tr ?_
          refine ge_tr ?_
          refine ge_br ?_
          refine ge_tr ?_
          refine ge_ret (.bool false) (rs1 6 (by kernel_rfl) (by kernel_rfl)) ?_
          exact ⟨false, _, rfl, R, q1, fun h => by cases h⟩
        · refine tq 41 (.bool (decide (((b - a : Nat) : Int) < 50))) (.bool false) (congrArg Value.bool (decide_eq_false c11)) ?_
          refine gl_nil ?_
          refine ge_then ?_
          refine gc_no ?_
          refine gc_skip ?_
          refine ge_then ?_
          refine gc_seq ?_
          replace R := R.drew
          refine gc_draw (fun w' => Blk w' g (cs N f1) 31) (fun i => decide (14 ≤ i)) R.blk ?_
          refine zp 0 42 (.slice (some ⟨g, 0, none⟩) n c) ?_
          refine zp 1 43 (.int .i64 (i : Int)) ?_
          refine zp 2 44 (.slice (some ⟨g, 0, none⟩) n c) ?_
          refine zp 3 45 (.int .i64 (i : Int)) ?_
          refine zp 4 46 (.int .i64 ((i - 1 : Nat) : Int)) ?_ (hrun := fun _ => congr_v (v := .int .i64 (IntKind.i64.wrap ((i : Int) - 1))) ((wi (by omega)).trans (congrArg (Value.int .i64) (by omega))) (by kernel_rfl))
          refine zp 5 47 (.slice (some ⟨g, 0, none⟩) n c) ?_
          refine zp 6 48 (.int .i64 (i : Int)) ?_
          refine zp 7 49 (.int .i64 ((i - 1 : Nat) : Int)) ?_ (hrun := fun _ => congr_v (v := .int .i64 (IntKind.i64.wrap ((i : Int) - 1))) ((wi (by omega)).trans (congrArg (Value.int .i64) (by omega))) (by kernel_rfl))
          refine zp 8 50 (pq g (i - 1)) ?_ (hrun := fun _ => congr_v (by simp) (run_ixs 1 g 0 n c (i - 1) (by omega)))
          refine zl 9 51 (.int .u64 (f1 (i - 1))) (fun _ h => h) (i - 1) (hv := cs_at (by omega)) ?_
          refine zp 10 52 (.slice (some ⟨g, 0, none⟩) n c) ?_
          refine zp 11 53 (.int .i64 (i : Int)) ?_
          refine zp 12 54 (pq g i) ?_ (hrun := fun _ => congr_v (by simp) (run_ixs 1 g 0 n c i (by omega)))
          refine zl 13 55 (.int .u64 (f1 i)) (fun _ h => h) i (hv := cs_at (by omega)) ?_
          refine gz_late ?_
          refine yt 14 56 (pq g i) ?_ (hrun := congr_v (by simp) (run_ixs 1 g 0 n c i (by omega)))
          refine ys 15 R.blk i (.int .u64 (f1 (i - 1))) [.int .u64 (f1 (i - 1))] (cs N (pu f1 i (f1 (i - 1)))) ?_ (hb := cs_fit (by omega)) (he := cs_put (by omega))
          intro v12 Y C
          replace R := R.put C Y
          clear Y C
          refine yt 16 57 (pq g (i - 1)) ?_ (hrun := congr_v (by simp) (run_ixs 1 g 0 n c (i - 1) (by omega)))
          refine ys 17 R.blk (i - 1) (.int .u64 (f1 i)) [.int .u64 (f1 i)] (cs N (sw f1 i (i - 1))) ?_ (hb := cs_fit (by omega)) (he := cs_sw (by omega))
          intro v13 Y C
          replace R := R.put C Y
          clear Y C
          refine gy_done ?_
          refine ge_then ?_
          refine gc_fr [(0, .slice (some ⟨g, 0, none⟩) n c), (1, .int .i64 (a : Int)), (2, .int .i64 (b : Int)), (7, .int .i64 (i : Int)), (8, .int .i64 (jj : Int)), (35, .int .i64 (i : Int)), (36, .int .i64 (b : Int)), (37, .bool false), (38, .int .i64 (b : Int)), (39, .int .i64 (a : Int)), (40, .int .i64 ((b - a : Nat) : Int)), (41, .bool false), (42, .slice (some ⟨g, 0, none⟩) n c), (43, .int .i64 (i : Int)), (44, .slice (some ⟨g, 0, none⟩) n c), (45, .int .i64 (i : Int)), (46, .int .i64 ((i - 1 : Nat) : Int)), (47, .slice (some ⟨g, 0, none⟩) n c), (48, .int .i64 (i : Int)), (49, .int .i64 ((i - 1 : Nat) : Int)), (50, pq g (i - 1)), (51, .int .u64 (f1 (i - 1))), (52, .slice (some ⟨g, 0, none⟩) n c), (53, .int .i64 (i : Int)), (54, pq g i), (55, .int .u64 (f1 i)), (56, pq g i), (57, pq g (i - 1))] (by kernel_rfl) ?_
          obtain ⟨f2, hf2⟩ : ∃ f2, f2 = sw f1 i (i - 1) := ⟨_, rfl⟩
          rw [← hf2] at R
          have q2 : Pm a b f f2 := by rw [hf2]; exact q1.trans (Pm.sw ⟨by omega, by omega⟩ ⟨by omega, by omega⟩)
          have hs5 : Srt a (i - 1) f2 := by rw [hf2]; exact (hs3.sub (Nat.le_refl _) (Nat.sub_le _ _)).far (by omega) (by omega)
          refine gc_join (fun (x : Nat → Int) => [(0, .slice (some ⟨g, 0, none⟩) n c), (1, .int .i64 (a : Int)), (2, .int .i64 (b : Int)), (7, .int .i64 (i : Int)), (8, .int .i64 (jj : Int))]) (fun x w' => Sr w g N w' x ∧ Srt a i x ∧ Pm a b f x) ?_ ?_
          · refine gc_seq ?_
            refine gc_reg ?_
            refine t 58 (.int .i64 (i : Int)) ?_
            refine t 59 (.int .i64 (a : Int)) ?_
            refine tq 60 (.int .i64 (IntKind.i64.wrap ((i : Int) - (a : Int)))) (.int .i64 ((i - a : Nat) : Int)) ((wi (by omega)).trans (congrArg (Value.int .i64) (by omega))) ?_
            by_cases c14 : (2 : Int) ≤ ((i - a : Nat) : Int)
            · refine tq 61 (.bool (decide ((2 : Int) ≤ ((i - a : Nat) : Int)))) (.bool true) (congrArg Value.bool (decide_eq_true c14)) ?_
              refine gl_nil ?_
              refine ge_then ?_
              refine gc_yes ?_
              refine gc_seq ?_
              refine gc_reg ?_
              refine t 62 (.int .i64 (i : Int)) ?_
              refine tq 63 (.int .i64 (IntKind.i64.wrap ((i : Int) - 1))) (.int .i64 ((i - 1 : Nat) : Int)) ((wi (by omega)).trans (congrArg (Value.int .i64) (by omega))) ?_
              refine t 9 (.int .i64 ((i - 1 : Nat) : Int)) ?_
              refine gl_nil ?_
              refine ge_then ?_
              refine gc_block ?_
              refine gc_loop (fun x => x.1) (fun (x : Nat × (Nat → Int)) => [(0, .slice (some ⟨g, 0, none⟩) n c), (1, .int .i64 (a : Int)), (2, .int .i64 (b : Int)), (7, .int .i64 (i : Int)), (8, .int .i64 (jj : Int)), (9, .int .i64 (x.1 : Int))]) (fun x w' => Sr w g N w' x.2 ∧ Ins a (i - 1) x.1 x.2 ∧ Pm a b f x.2) ((i - 1, f2) : Nat × (Nat → Int)) ⟨R, Ins.start hs5 (by omega), q2⟩ (by kernel_rfl) ?_
              clear R
              rintro ⟨j3, f3⟩ v15 ⟨R, hI, q3⟩
              dsimp only at R hI q3
              have hle := hI.le
              refine gc_seq ?_
              refine gc_seq ?_
              refine gc_reg ?_
              refine t 64 (.int .i64 (j3 : Int)) ?_
              by_cases c16 : (1 : Int) ≤ (j3 : Int)
              · refine tq 65 (.bool (decide ((1 : Int) ≤ (j3 : Int)))) (.bool true) (congrArg Value.bool (decide_eq_true c16)) ?_
                refine gl_nil ?_
                refine ge_then ?_
                refine gc_yes ?_
                refine gc_skip ?_
                refine ge_then ?_
                refine gc_seq ?_
                refine gc_block ?_
                refine gc_seq ?_
                refine gc_seq ?_
                replace R := R.drew
                refine gc_draw (fun w' => Blk w' g (cs N f3) 31) (fun _ => false) R.blk ?_
                refine z 0 68 (.slice (some ⟨g, 0, none⟩) n c) ?_
                refine z 1 69 (.int .i64 (j3 : Int)) ?_
                refine zr 2 70 (pq g j3) (fun _ _ => congr_v (by simp) (run_ixs 1 g 0 n c j3 (by omega))) ?_
                refine zl 3 71 (.int .u64 (f3 j3)) (fun _ h => h) j3 (hv := cs_at (by omega)) ?_
                refine z 4 72 (.slice (some ⟨g, 0, none⟩) n c) ?_
                refine z 5 73 (.int .i64 (j3 : Int)) ?_
                refine zq 6 74 (.int .i64 (IntKind.i64.wrap ((j3 : Int) - 1))) (.int .i64 ((j3 - 1 : Nat) : Int)) ((wi (by omega)).trans (congrArg (Value.int .i64) (by omega))) ?_
                refine zr 7 75 (pq g (j3 - 1)) (fun _ _ => congr_v (by simp) (run_ixs 1 g 0 n c (j3 - 1) (by omega))) ?_
                refine zl 8 76 (.int .u64 (f3 (j3 - 1))) (fun _ h => h) (j3 - 1) (hv := cs_at (by omega)) ?_
                refine zc 9 77 104 #[.int .u64 (f3 j3), .int .u64 (f3 (j3 - 1))] (less_any) ?_
                rintro _ v17 ⟨rfl, B⟩
                replace R := R.keep B
                clear B
                refine ⟨_, rfl, R.blk, ?_⟩
                refine z 10 78 (.bool (!(decide (f3 j3 < f3 (j3 - 1))))) ?_
                refine gz_done ?_
                refine ge_then ?_
                refine gc_fr [(0, .slice (some ⟨g, 0, none⟩) n c), (1, .int .i64 (a : Int)), (2, .int .i64 (b : Int)), (7, .int .i64 (i : Int)), (8, .int .i64 (jj : Int)), (9, .int .i64 (j3 : Int)), (64, .int .i64 (j3 : Int)), (65, .bool true), (68, .slice (some ⟨g, 0, none⟩) n c), (69, .int .i64 (j3 : Int)), (70, pq g j3), (71, .int .u64 (f3 j3)), (72, .slice (some ⟨g, 0, none⟩) n c), (73, .int .i64 (j3 : Int)), (74, .int .i64 ((j3 - 1 : Nat) : Int)), (75, pq g (j3 - 1)), (76, .int .u64 (f3 (j3 - 1))), (77, .bool (decide (f3 j3 < f3 (j3 - 1)))), (78, .bool (!(decide (f3 j3 < f3 (j3 - 1)))))] (by kernel_rfl) ?_
                rcases Bool.eq_false_or_eq_true (!(decide (f3 j3 < f3 (j3 - 1)))) with b18 | b18
                · have d19 : f3 (j3 - 1) ≤ f3 j3 := Int.not_lt.1 (of_decide_eq_false (by simpa using b18 : decide (f3 j3 < f3 (j3 - 1)) = false))
                  refine gc_yes (hc := congrArg Value.bool b18) ?_
                  refine gc_exit ?_
                  refine ge_tx ?_
                  refine ge_by ?_
                  refine ge_tx ?_
                  refine ge_tx ?_
                  refine ge_bx ?_
                  exact ge_join (f3 : Nat → Int) ⟨R, by rw [show i = i - 1 + 1 by omega]; exact hI.done (.inr d19), q3⟩ (by kernel_rfl)
                · have d20 : f3 j3 < f3 (j3 - 1) := of_decide_eq_true (by simpa using b18 : decide (f3 j3 < f3 (j3 - 1)) = true)
                  refine gc_no (hc := congrArg Value.bool b18) ?_
                  refine gc_skip ?_
                  refine ge_then ?_
                  have hlt : a < j3 := (hlow.pm q3).lt ⟨by omega, by omega, by omega⟩ d20
                  replace R := R.drew
                  refine gc_draw (fun w' => Blk w' g (cs N f3) 31) (fun i => decide (14 ≤ i)) R.blk ?_
                  refine zp 0 79 (.slice (some ⟨g, 0, none⟩) n c) ?_
                  refine zp 1 80 (.int .i64 (j3 : Int)) ?_
                  refine zp 2 81 (.slice (some ⟨g, 0, none⟩) n c) ?_
                  refine zp 3 82 (.int .i64 (j3 : Int)) ?_
                  refine zp 4 83 (.int .i64 ((j3 - 1 : Nat) : Int)) ?_ (hrun := fun _ => congr_v (v := .int .i64 (IntKind.i64.wrap ((j3 : Int) - 1))) ((wi (by omega)).trans (congrArg (Value.int .i64) (by omega))) (by kernel_rfl))
                  refine zp 5 84 (.slice (some ⟨g, 0, none⟩) n c) ?_
                  refine zp 6 85 (.int .i64 (j3 : Int)) ?_
                  refine zp 7 86 (.int .i64 ((j3 - 1 : Nat) : Int)) ?_ (hrun := fun _ => congr_v (v := .int .i64 (IntKind.i64.wrap ((j3 : Int) - 1))) ((wi (by omega)).trans (congrArg (Value.int .i64) (by omega))) (by kernel_rfl))
                  refine zp 8 87 (pq g (j3 - 1)) ?_ (hrun := fun _ => congr_v (by simp) (run_ixs 1 g 0 n c (j3 - 1) (by omega)))
                  refine zl 9 88 (.int .u64 (f3 (j3 - 1))) (fun _ h => h) (j3 - 1) (hv := cs_at (by omega)) ?_
                  refine zp 10 89 (.slice (some ⟨g, 0, none⟩) n c) ?_
                  refine zp 11 90 (.int .i64 (j3 : Int)) ?_
                  refine zp 12 91 (pq g j3) ?_ (hrun := fun _ => congr_v (by simp) (run_ixs 1 g 0 n c j3 (by omega)))
                  refine zl 13 92 (.int .u64 (f3 j3)) (fun _ h => h) j3 (hv := cs_at (by omega)) ?_
                  refine gz_late ?_
                  refine yt 14 93 (pq g j3) ?_ (hrun := congr_v (by simp) (run_ixs 1 g 0 n c j3 (by omega)))
                  refine ys 15 R.blk j3 (.int .u64 (f3 (j3 - 1))) [.int .u64 (f3 (j3 - 1))] (cs N (pu f3 j3 (f3 (j3 - 1)))) ?_ (hb := cs_fit (by omega)) (he := cs_put (by omega))
                  intro v21 Y C
                  replace R := R.put C Y
                  clear Y C
                  refine yt 16 94 (pq g (j3 - 1)) ?_ (hrun := congr_v (by simp) (run_ixs 1 g 0 n c (j3 - 1) (by omega)))
                  refine ys 17 R.blk (j3 - 1) (.int .u64 (f3 j3)) [.int .u64 (f3 j3)] (cs N (sw f3 j3 (j3 - 1))) ?_ (hb := cs_fit (by omega)) (he := cs_sw (by omega))
                  intro v22 Y C
                  replace R := R.put C Y
                  clear Y C
                  refine gy_done ?_
                  refine ge_bn ?_
                  refine ge_then ?_
                  refine gc_fr [(0, .slice (some ⟨g, 0, none⟩) n c), (1, .int .i64 (a : Int)), (2, .int .i64 (b : Int)), (7, .int .i64 (i : Int)), (8, .int .i64 (jj : Int)), (9, .int .i64 (j3 : Int)), (64, .int .i64 (j3 : Int)), (65, .bool true), (68, .slice (some ⟨g, 0, none⟩) n c), (69, .int .i64 (j3 : Int)), (70, pq g j3), (71, .int .u64 (f3 j3)), (72, .slice (some ⟨g, 0, none⟩) n c), (73, .int .i64 (j3 : Int)), (74, .int .i64 ((j3 - 1 : Nat) : Int)), (75, pq g (j3 - 1)), (76, .int .u64 (f3 (j3 - 1))), (77, .bool (decide (f3 j3 < f3 (j3 - 1)))), (78, .bool (!(decide (f3 j3 < f3 (j3 - 1))))), (79, .slice (some ⟨g, 0, none⟩) n c), (80, .int .i64 (j3 : Int)), (81, .slice (some ⟨g, 0, none⟩) n c), (82, .int .i64 (j3 : Int)), (83, .int .i64 ((j3 - 1 : Nat) : Int)), (84, .slice (some ⟨g, 0, none⟩) n c), (85, .int .i64 (j3 : Int)), (86, .int .i64 ((j3 - 1 : Nat) : Int)), (87, pq g (j3 - 1)), (88, .int .u64 (f3 (j3 - 1))), (89, .slice (some ⟨g, 0, none⟩) n c), (90, .int .i64 (j3 : Int)), (91, pq g j3), (92, .int .u64 (f3 j3)), (93, pq g j3), (94, pq g (j3 - 1))] (by kernel_rfl) ?_
                  refine gc_reg ?_
                  refine t 66 (.int .i64 (j3 : Int)) ?_
                  refine tq 67 (.int .i64 (IntKind.i64.wrap ((j3 : Int) - 1))) (.int .i64 ((j3 - 1 : Nat) : Int)) ((wi (by omega)).trans (congrArg (Value.int .i64) (by omega))) ?_
                  refine t 9 (.int .i64 ((j3 - 1 : Nat) : Int)) ?_
                  refine gl_nil ?_
                  exact ge_round (j3 - 1, (sw f3 j3 (j3 - 1))) (by show j3 - 1 < j3; omega) ⟨R, hI.step hlt d20, q3.trans (Pm.sw ⟨by omega, by omega⟩ ⟨by omega, by omega⟩)⟩ (by kernel_rfl)
              · refine tq 65 (.bool (decide ((1 : Int) ≤ (j3 : Int)))) (.bool false) (congrArg Value.bool (decide_eq_false c16)) ?_
                refine gl_nil ?_
                refine ge_then ?_
                refine gc_no ?_
                refine gc_exit ?_
                refine ge_tx ?_
                refine ge_tx ?_
                refine ge_bx ?_
                exact ge_join (f3 : Nat → Int) ⟨R, by rw [show i = i - 1 + 1 by omega]; exact hI.done (.inl (by omega)), q3⟩ (by kernel_rfl)
            · refine tq 61 (.bool (decide ((2 : Int) ≤ ((i - a : Nat) : Int)))) (.bool false) (congrArg Value.bool (decide_eq_false c14)) ?_
              refine gl_nil ?_
              refine ge_then ?_
              refine gc_no ?_
              refine gc_skip ?_
              exact ge_join (f2 : Nat → Int) ⟨R, srt_one (by omega), q2⟩ (by kernel_rfl)
          clear R
          rintro f5 v23 ⟨R, hs6, q5⟩
          refine gc_seq ?_
          refine gc_reg ?_
          refine t 95 (.int .i64 (b : Int)) ?_
          refine t 96 (.int .i64 (i : Int)) ?_
          refine tq 97 (.int .i64 (IntKind.i64.wrap ((b : Int) - (i : Int)))) (.int .i64 ((b - i : Nat) : Int)) ((wi (by omega)).trans (congrArg (Value.int .i64) (by omega))) ?_
          by_cases c24 : (2 : Int) ≤ ((b - i : Nat) : Int)
          · refine tq 98 (.bool (decide ((2 : Int) ≤ ((b - i : Nat) : Int)))) (.bool true) (congrArg Value.bool (decide_eq_true c24)) ?_
            refine gl_nil ?_
            refine ge_then ?_
            refine gc_yes ?_
            refine gc_seq ?_
            refine gc_reg ?_
            refine t 99 (.int .i64 (i : Int)) ?_
            refine tq 100 (.int .i64 (IntKind.i64.wrap ((i : Int) + 1))) (.int .i64 ((i + 1 : Nat) : Int)) ((wi (by omega)).trans (congrArg (Value.int .i64) (by omega))) ?_
            refine t 10 (.int .i64 ((i + 1 : Nat) : Int)) ?_
            refine gl_nil ?_
            refine ge_then ?_
            refine gc_block ?_
            refine gc_loop (fun x => b - x.1) (fun (x : Nat × (Nat → Int)) => [(0, .slice (some ⟨g, 0, none⟩) n c), (1, .int .i64 (a : Int)), (2, .int .i64 (b : Int)), (7, .int .i64 (i : Int)), (8, .int .i64 (jj : Int)), (10, .int .i64 (x.1 : Int))]) (fun x w' => Sr w g N w' x.2 ∧ (i + 1 ≤ x.1 ∧ x.1 ≤ b) ∧ Srt a i x.2 ∧ Pm a b f x.2) ((i + 1, f5) : Nat × (Nat → Int)) ⟨R, ⟨Nat.le_refl _, by show i + 1 ≤ b; omega⟩, hs6, q5⟩ (by kernel_rfl) ?_
            clear R
            rintro ⟨j4, f6⟩ v25 ⟨R, hj4, hs7, q6⟩
            dsimp only at R hj4 hs7 q6
            refine gc_seq ?_
            refine gc_seq ?_
            refine gc_reg ?_
            refine t 101 (.int .i64 (j4 : Int)) ?_
            refine t 102 (.int .i64 (b : Int)) ?_
            by_cases c26 : (j4 : Int) < (b : Int)
            · refine tq 103 (.bool (decide ((j4 : Int) < (b : Int)))) (.bool true) (congrArg Value.bool (decide_eq_true c26)) ?_
              refine gl_nil ?_
              refine ge_then ?_
              refine gc_yes ?_
              refine gc_skip ?_
              refine ge_then ?_
              refine gc_seq ?_
              refine gc_block ?_
              refine gc_seq ?_
              refine gc_seq ?_
              replace R := R.drew
              refine gc_draw (fun w' => Blk w' g (cs N f6) 31) (fun _ => false) R.blk ?_
              refine z 0 106 (.slice (some ⟨g, 0, none⟩) n c) ?_
              refine z 1 107 (.int .i64 (j4 : Int)) ?_
              refine zr 2 108 (pq g j4) (fun _ _ => congr_v (by simp) (run_ixs 1 g 0 n c j4 (by omega))) ?_
              refine zl 3 109 (.int .u64 (f6 j4)) (fun _ h => h) j4 (hv := cs_at (by omega)) ?_
              refine z 4 110 (.slice (some ⟨g, 0, none⟩) n c) ?_
              refine z 5 111 (.int .i64 (j4 : Int)) ?_
              refine zq 6 112 (.int .i64 (IntKind.i64.wrap ((j4 : Int) - 1))) (.int .i64 ((j4 - 1 : Nat) : Int)) ((wi (by omega)).trans (congrArg (Value.int .i64) (by omega))) ?_
              refine zr 7 113 (pq g (j4 - 1)) (fun _ _ => congr_v (by simp) (run_ixs 1 g 0 n c (j4 - 1) (by omega))) ?_
              refine zl 8 114 (.int .u64 (f6 (j4 - 1))) (fun _ h => h) (j4 - 1) (hv := cs_at (by omega)) ?_
              refine zc 9 115 104 #[.int .u64 (f6 j4), .int .u64 (f6 (j4 - 1))] (less_any) ?_
              rintro _ v27 ⟨rfl, B⟩
              replace R := R.keep B
              clear B
              refine ⟨_, rfl, R.blk, ?_⟩
              refine z 10 116 (.bool (!(decide (f6 j4 < f6 (j4 - 1))))) ?_
              refine gz_done ?_
              refine ge_then ?_
              refine gc_fr [(0, .slice (some ⟨g, 0, none⟩) n c), (1, .int .i64 (a : Int)), (2, .int .i64 (b : Int)), (7, .int .i64 (i : Int)), (8, .int .i64 (jj : Int)), (10, .int .i64 (j4 : Int)), (101, .int .i64 (j4 : Int)), (102, .int .i64 (b : Int)), (103, .bool true), (106, .slice (some ⟨g, 0, none⟩) n c), (107, .int .i64 (j4 : Int)), (108, pq g j4), (109, .int .u64 (f6 j4)), (110, .slice (some ⟨g, 0, none⟩) n c), (111, .int .i64 (j4 : Int)), (112, .int .i64 ((j4 - 1 : Nat) : Int)), (113, pq g (j4 - 1)), (114, .int .u64 (f6 (j4 - 1))), (115, .bool (decide (f6 j4 < f6 (j4 - 1)))), (116, .bool (!(decide (f6 j4 < f6 (j4 - 1)))))] (by kernel_rfl) ?_
              rcases Bool.eq_false_or_eq_true (!(decide (f6 j4 < f6 (j4 - 1)))) with b28 | b28
              · have d29 : f6 (j4 - 1) ≤ f6 j4 := Int.not_lt.1 (of_decide_eq_false (by simpa using b28 : decide (f6 j4 < f6 (j4 - 1)) = false))
                refine gc_yes (hc := congrArg Value.bool b28) ?_
                refine gc_exit ?_
                refine ge_tx ?_
                refine ge_by ?_
                refine ge_tx ?_
                refine ge_tx ?_
                refine ge_bx ?_
                refine ge_bn ?_
                exact ge_join ((i, f6) : Nat × (Nat → Int)) ⟨R, ⟨by show a + 1 ≤ i; omega, by show i ≤ b; omega⟩, hs7, q6⟩ (by kernel_rfl)
              · have d30 : f6 j4 < f6 (j4 - 1) := of_decide_eq_true (by simpa using b28 : decide (f6 j4 < f6 (j4 - 1)) = true)
                refine gc_no (hc := congrArg Value.bool b28) ?_
                refine gc_skip ?_
                refine ge_then ?_
                replace R := R.drew
                refine gc_draw (fun w' => Blk w' g (cs N f6) 31) (fun i => decide (14 ≤ i)) R.blk ?_
                refine zp 0 117 (.slice (some ⟨g, 0, none⟩) n c) ?_
                refine zp 1 118 (.int .i64 (j4 : Int)) ?_
                refine zp 2 119 (.slice (some ⟨g, 0, none⟩) n c) ?_
                refine zp 3 120 (.int .i64 (j4 : Int)) ?_
                refine zp 4 121 (.int .i64 ((j4 - 1 : Nat) : Int)) ?_ (hrun := fun _ => congr_v (v := .int .i64 (IntKind.i64.wrap ((j4 : Int) - 1))) ((wi (by omega)).trans (congrArg (Value.int .i64) (by omega))) (by kernel_rfl))
                refine zp 5 122 (.slice (some ⟨g, 0, none⟩) n c) ?_
                refine zp 6 123 (.int .i64 (j4 : Int)) ?_
                refine zp 7 124 (.int .i64 ((j4 - 1 : Nat) : Int)) ?_ (hrun := fun _ => congr_v (v := .int .i64 (IntKind.i64.wrap ((j4 : Int) - 1))) ((wi (by omega)).trans (congrArg (Value.int .i64) (by omega))) (by kernel_rfl))
                refine zp 8 125 (pq g (j4 - 1)) ?_ (hrun := fun _ => congr_v (by simp) (run_ixs 1 g 0 n c (j4 - 1) (by omega)))
                refine zl 9 126 (.int .u64 (f6 (j4 - 1))) (fun _ h => h) (j4 - 1) (hv := cs_at (by omega)) ?_
                refine zp 10 127 (.slice (some ⟨g, 0, none⟩) n c) ?_
                refine zp 11 128 (.int .i64 (j4 : Int)) ?_
                refine zp 12 129 (pq g j4) ?_ (hrun := fun _ => congr_v (by simp) (run_ixs 1 g 0 n c j4 (by omega)))
                refine zl 13 130 (.int .u64 (f6 j4)) (fun _ h => h) j4 (hv := cs_at (by omega)) ?_
                refine gz_late ?_
                refine yt 14 131 (pq g j4) ?_ (hrun := congr_v (by simp) (run_ixs 1 g 0 n c j4 (by omega)))
                refine ys 15 R.blk j4 (.int .u64 (f6 (j4 - 1))) [.int .u64 (f6 (j4 - 1))] (cs N (pu f6 j4 (f6 (j4 - 1)))) ?_ (hb := cs_fit (by omega)) (he := cs_put (by omega))
                intro v31 Y C
                replace R := R.put C Y
                clear Y C
                refine yt 16 132 (pq g (j4 - 1)) ?_ (hrun := congr_v (by simp) (run_ixs 1 g 0 n c (j4 - 1) (by omega)))
                refine ys 17 R.blk (j4 - 1) (.int .u64 (f6 j4)) [.int .u64 (f6 j4)] (cs N (sw f6 j4 (j4 - 1))) ?_ (hb := cs_fit (by omega)) (he := cs_sw (by omega))
                intro v32 Y C
                replace R := R.put C Y
                clear Y C
                refine gy_done ?_
                refine ge_bn ?_
                refine ge_then ?_
                refine gc_fr [(0, .slice (some ⟨g, 0, none⟩) n c), (1, .int .i64 (a : Int)), (2, .int .i64 (b : Int)), (7, .int .i64 (i : Int)), (8, .int .i64 (jj : Int)), (10, .int .i64 (j4 : Int)), (101, .int .i64 (j4 : Int)), (102, .int .i64 (b : Int)), (103, .bool true), (106, .slice (some ⟨g, 0, none⟩) n c), (107, .int .i64 (j4 : Int)), (108, pq g j4), (109, .int .u64 (f6 j4)), (110, .slice (some ⟨g, 0, none⟩) n c), (111, .int .i64 (j4 : Int)), (112, .int .i64 ((j4 - 1 : Nat) : Int)), (113, pq g (j4 - 1)), (114, .int .u64 (f6 (j4 - 1))), (115, .bool (decide (f6 j4 < f6 (j4 - 1)))), (116, .bool (!(decide (f6 j4 < f6 (j4 - 1))))), (117, .slice (some ⟨g, 0, none⟩) n c), (118, .int .i64 (j4 : Int)), (119, .slice (some ⟨g, 0, none⟩) n c), (120, .int .i64 (j4 : Int)), (121, .int .i64 ((j4 - 1 : Nat) : Int)), (122, .slice (some ⟨g, 0, none⟩) n c), (123, .int .i64 (j4 : Int)), (124, .int .i64 ((j4 - 1 : Nat) : Int)), (125, pq g (j4 - 1)), (126, .int .u64 (f6 (j4 - 1))), (127, .slice (some ⟨g, 0, none⟩) n c), (128, .int .i64 (j4 : Int)), (129, pq g j4), (130, .int .u64 (f6 j4)), (131, pq g j4), (132, pq g (j4 - 1))] (by kernel_rfl) ?_
                refine gc_reg ?_
                refine t 104 (.int .i64 (j4 : Int)) ?_
                refine tq 105 (.int .i64 (IntKind.i64.wrap ((j4 : Int) + 1))) (.int .i64 ((j4 + 1 : Nat) : Int)) ((wi (by omega)).trans (congrArg (Value.int .i64) (by omega))) ?_
                refine t 10 (.int .i64 ((j4 + 1 : Nat) : Int)) ?_
                refine gl_nil ?_
                exact ge_round (j4 + 1, (sw f6 j4 (j4 - 1))) (by show b - (j4 + 1) < b - j4; omega) ⟨R, ⟨by show i + 1 ≤ j4 + 1; omega, by show j4 + 1 ≤ b; omega⟩, hs7.far (by omega) (by omega), q6.trans (Pm.sw ⟨by omega, by omega⟩ ⟨by omega, by omega⟩)⟩ (by kernel_rfl)
            · refine tq 103 (.bool (decide ((j4 : Int) < (b : Int)))) (.bool false) (congrArg Value.bool (decide_eq_false c26)) ?_
              refine gl_nil ?_
              refine ge_then ?_
              refine gc_no ?_
              refine gc_exit ?_
              refine ge_tx ?_
              refine ge_tx ?_
              refine ge_bx ?_
              refine ge_bn ?_
              exact ge_join ((i, f6) : Nat × (Nat → Int)) ⟨R, ⟨by show a + 1 ≤ i; omega, by show i ≤ b; omega⟩, hs7, q6⟩ (by kernel_rfl)
          · refine tq 98 (.bool (decide ((2 : Int) ≤ ((b - i : Nat) : Int)))) (.bool false) (congrArg Value.bool (decide_eq_false c24)) ?_
            refine gl_nil ?_
            refine ge_then ?_
            refine gc_no ?_
            refine gc_skip ?_
            refine ge_bn ?_
            exact ge_join ((i, f5) : Nat × (Nat → Int)) ⟨R, ⟨by show a + 1 ≤ i; omega, by show i ≤ b; omega⟩, hs6, q5⟩ (by kernel_rfl)
    clear R
    rintro ⟨i9, f4⟩ v33 ⟨R, hi9, hs4, q4⟩
    dsimp only at R hi9 hs4 q4
    refine gc_reg ?_
    refine t 15 (.int .i64 (jj : Int)) ?_
    refine tq 16 (.int .i64 (IntKind.i64.wrap ((jj : Int) + 1))) (.int .i64 ((jj + 1 : Nat) : Int)) ((wi (by omega)).trans (congrArg (Value.int .i64) (by omega))) ?_
    refine t 8 (.int .i64 ((jj + 1 : Nat) : Int)) ?_
    refine gl_nil ?_
    exact ge_round (jj + 1, i9, f4) (by show 5 - (jj + 1) < 5 - jj; omega) ⟨R, ⟨by show a + 1 ≤ i9; omega, by show i9 ≤ b; omega, by show jj + 1 ≤ 5; omega⟩, hs4, q4⟩ (by kernel_rfl)
  · refine tq 14 (.bool (decide ((jj : Int) < 5))) (.bool false) (congrArg Value.bool (decide_eq_false c2)) ?_
    refine gl_nil ?_
    refine ge_then ?_
    refine gc_no ?_
    refine gc_exit ?_
    refine ge_tx ?_
    refine ge_tx ?_
    refine ge_bx ?_
    refine ge_then ?_
    refine gc_seq ?_
    refine gc_reg ?_
    refine t 6 (.bool false) ?_
    refine gl_nil ?_
    refine ge_then ?_
    refine gc_ret ?_
    refine ge_ret (.bool false) (rs1 6 (by kernel_rfl) (by kernel_rfl)) ?_
    exact ⟨false, _, rfl, R, q1, fun h => by cases h⟩
end So
end Go.Proofs.YtemkjdanemddpaaGreat
