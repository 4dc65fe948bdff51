/- Several texts, joined: SoM. -/
import Derived.Test.YtemkjdanemddpaaGreatJae
namespace Go.Proofs.YtemkjdanemddpaaGreat
namespace So
open Go.RowKit Go.Lib Pg Gl
set_option maxRecDepth 100000
set_option linter.unusedVariables false
set_option linter.unusedSimpArgs false
set_option maxHeartbeats 4000000
/-- pdqsort under way: from a to b is left -/
structure Pdq (w : World) (g N a0 b0 : Nat) (f : Nat → Int) (a b : Nat) (h : Nat → Int) (w' : World) : Prop where
  r : Sr w g N w' h
  bd : a0 ≤ a ∧ a ≤ b ∧ b ≤ b0
  rest : Rest a0 b0 a b h
  low : Low a b h
  pm : Pm a0 b0 f h
section
variable {w w1 w2 : World} {g N a0 b0 a b m p : Nat} {f h h2 : Nat → Int}
theorem Pdq.keep (d : Pdq w g N a0 b0 f a b h w1) (B : Below w1.heap.size w1 w2) : Pdq w g N a0 b0 f a b h w2 := ⟨d.r.keep B, d.bd, d.rest, d.low, d.pm⟩
theorem Pdq.perm (d : Pdq w g N a0 b0 f a b h w1) (R : Sr w1 g N w2 h2) (q : Pm a b h h2) : Pdq w g N a0 b0 f a b h2 w2 := ⟨d.r.call R, d.bd, d.rest.pm q, d.low.pm q, d.pm.trans (q.mono d.bd.2.1 d.bd.1 d.bd.2.2)⟩
theorem Pdq.done (d : Pdq w g N a0 b0 f a b h w1) (s : Srt a b h) : SoE w g N a0 b0 f (.returned (.tuple #[])) w1 := ⟨h, rfl, d.r, d.pm, d.rest h Pm.refl s⟩
theorem Low.sub (l : Low a b h) (hm : m ≤ b) : Low a m h := l.imp id (fun e k h1 h2 => e k h1 (by omega))
theorem Low.eq (l : Low a b h) (ha : 0 < a) (d : h p ≤ h (a - 1)) : ∀ k, a ≤ k → k < b → h p ≤ h k := fun k h1 h2 => by
  rcases l with e | e
  · omega
  · exact Int.le_trans d (e k h1 h2)
theorem Pdq.skip {v : Int} (d : Pdq w g N a0 b0 f a b h w1) (R : Sr w1 g N w2 h2) (hm : a < m ∧ m ≤ b) (q : Pm a b h h2) (e : ∀ k, a ≤ k → k < m → h2 k = v) (l : ∀ k, m ≤ k → k < b → v < h2 k) : Pdq w g N a0 b0 f m b h2 w2 := by
  have d2 := d.perm R q
  have hb := d.bd
  refine ⟨d2.r, by omega, d2.rest.skip ⟨by omega, hm.2⟩ e (fun k h1 h3 => Int.le_of_lt (l k h1 h3)), .inr fun k h1 h3 => ?_, d2.pm⟩
  rw [e (m - 1) (by omega) (by omega)]
  exact Int.le_of_lt (l k h1 h3)
theorem Pdq.right (d : Pdq w g N a0 b0 f a b h w1) (R : Sr w1 g N w2 h2) (hm : a ≤ m ∧ m < b) (lo : ∀ k, a ≤ k → k < m → h k < h m) (hi : ∀ k, m < k → k < b → h m ≤ h k) (q : Pm a m h h2) (s : Srt a m h2) : Pdq w g N a0 b0 f (m + 1) b h2 w2 := by
  have hb := d.bd
  refine ⟨d.r.call R, by omega, d.rest.right hm lo hi q s, .inr fun k h1 h3 => ?_, d.pm.trans (q.mono hm.1 hb.1 (by omega))⟩
  rw [Nat.add_sub_cancel, q.out m (.inr (Nat.le_refl _)), q.out k (.inr (by omega))]
  exact hi k (by omega) h3
theorem Pdq.left (d : Pdq w g N a0 b0 f a b h w1) (R : Sr w1 g N w2 h2) (hm : a ≤ m ∧ m < b) (lo : ∀ k, a ≤ k → k < m → h k < h m) (hi : ∀ k, m < k → k < b → h m ≤ h k) (q : Pm (m + 1) b h h2) (s : Srt (m + 1) b h2) : Pdq w g N a0 b0 f a m h2 w2 := by
  have hb := d.bd
  refine ⟨d.r.call R, by omega, d.rest.left hm lo hi q s, (d.low.sub (Nat.le_of_lt hm.2)).imp id (fun e k h1 h3 => ?_), d.pm.trans (q.mono (by omega) (by omega) hb.2.2)⟩
  rw [q.out k (.inl (by omega)), q.out (a - 1) (.inl (by omega))]
  exact e k h1 h3
end
theorem len_le {n : Nat} (h : n ≤ 1000000000) : bitLen n ≤ 1000 := by
  rcases Nat.eq_zero_or_pos n with e | e
  · subst e; decide
  · have h1 := (pow_two (L := n) e).1
    have := small_k (k := bitLen n) (by omega)
    omega
theorem pdq_L {g N n c : Nat} (hn : n ≤ N) (hN : n ≤ 1000000000) (L : Nat) : ∀ (w : World) (a0 b0 l0 : Nat) (f : Nat → Int), b0 - a0 < L → a0 ≤ b0 → b0 ≤ n → l0 ≤ 1000 → Low a0 b0 f → Blk w g (cs N f) 31 → Calls Tryz.prog 82 #[.slice (some ⟨g, 0, none⟩) n c, .int .i64 (a0 : Int), .int .i64 (b0 : Int), .int .i64 (l0 : Int)] w (SoE w g N a0 b0 f) := by
  induction L with
  | zero => intro w a0 b0 l0 f h; omega
  | succ L ih =>
    intro w a0 b0 l0 f hL hab hbn hl0 hlow X
    have D : Pdq w g N a0 b0 f a0 b0 f w := ⟨sr_of X, ⟨Nat.le_refl _, hab, Nat.le_refl _⟩, rest_all, hlow, Pm.refl⟩
    refine gc_enter (n := 134) Tryz.func82 rfl (by kernel_rfl) (by kernel_rfl) ?_
    refine gc_seq ?_
    refine gc_reg ?_
    refine t 8 (.bool true) ?_
    refine gl_nil ?_
    refine ge_then ?_
    refine gc_seq ?_
    refine gc_reg ?_
    refine t 9 (.bool true) ?_
    refine gl_nil ?_
    refine ge_then ?_
    refine gc_block ?_
    refine gc_loop (fun x => x.2.1 - x.1) (fun (x : Nat × Nat × Nat × Bool × Bool × (Nat → Int)) => [(0, .slice (some ⟨g, 0, none⟩) n c), (1, .int .i64 (x.1 : Int)), (2, .int .i64 (x.2.1 : Int)), (3, .int .i64 (x.2.2.1 : Int)), (8, .bool x.2.2.2.1), (9, .bool x.2.2.2.2.1)]) (fun x w' => Pdq w g N a0 b0 f x.1 x.2.1 x.2.2.2.2.2 w' ∧ x.2.2.1 ≤ 1000) ((a0, b0, l0, true, true, f) : Nat × Nat × Nat × Bool × Bool × (Nat → Int)) ⟨D, hl0⟩ (by kernel_rfl) ?_
    clear D
    rintro ⟨a, b, l, wb, wp, h1⟩ v1 ⟨D, hl⟩
    dsimp only at D hl
    have hbd := D.bd
    refine gc_block ?_
    refine gc_seq ?_
    refine gc_reg ?_
    refine t 19 (.int .i64 (b : Int)) ?_
    refine t 20 (.int .i64 (a : Int)) ?_
    refine tq 21 (.int .i64 (IntKind.i64.wrap ((b : Int) - (a : Int)))) (.int .i64 ((b - a : Nat) : Int)) ((wi (by omega)).trans (congrArg (Value.int .i64) (by omega))) ?_
    refine t 10 (.int .i64 ((b - a : Nat) : Int)) ?_
    refine gl_nil ?_
    refine ge_then ?_
    refine gc_seq ?_
    refine gc_seq ?_
    refine gc_reg ?_
    refine t 22 (.int .i64 ((b - a : Nat) : Int)) ?_
    by_cases c2 : ((b - a : Nat) : Int) ≤ 12
    · refine tq 23 (.bool (decide (((b - a : Nat) : Int) ≤ 12))) (.bool true) (congrArg Value.bool (decide_eq_true c2)) ?_
      refine gl_nil ?_
      refine ge_then ?_
      refine gc_yes ?_
      refine gc_seq ?_
      refine gc_reg ?_
      refine t 24 (.slice (some ⟨g, 0, none⟩) n c) ?_
      refine t 25 (.int .i64 (a : Int)) ?_
      refine t 26 (.int .i64 (b : Int)) ?_
      refine tc 27 98 #[.slice (some ⟨g, 0, none⟩) n c, .int .i64 (a : Int), .int .i64 (b : Int)] (insertion_any D.r.blk hn hN (by omega) (by omega)) ?_
      rintro _ v3 ⟨h2, rfl, R2, p2, s2⟩
      refine ⟨_, rfl, ?_⟩
      replace D := D.perm R2 p2
      have sz := s2
      refine gl_nil ?_
      refine ge_then ?_
      refine gc_ret ?_
      refine ge_tr ?_
      refine ge_br ?_
      refine ge_tr ?_
      refine ge_br ?_
      refine ge_ret (.tuple #[]) (rs0 (by kernel_rfl)) ?_
      exact D.done sz
    · refine tq 23 (.bool (decide (((b - a : Nat) : Int) ≤ 12))) (.bool false) (congrArg Value.bool (decide_eq_false c2)) ?_
      refine gl_nil ?_
      refine ge_then ?_
      refine gc_no ?_
      refine gc_skip ?_
      refine ge_then ?_
      refine gc_seq ?_
      refine gc_seq ?_
      refine gc_reg ?_
      refine t 28 (.int .i64 (l : Int)) ?_
      by_cases c4 : (l : Int) = 0
      · refine tq 29 (.bool ((l : Int) == 0)) (.bool true) (congrArg Value.bool (beq_iff_eq.2 c4)) ?_
        refine gl_nil ?_
        refine ge_then ?_
        refine gc_yes ?_
        refine gc_seq ?_
        refine gc_reg ?_
        refine t 30 (.slice (some ⟨g, 0, none⟩) n c) ?_
        refine t 31 (.int .i64 (a : Int)) ?_
        refine t 32 (.int .i64 (b : Int)) ?_
        refine tc 33 99 #[.slice (some ⟨g, 0, none⟩) n c, .int .i64 (a : Int), .int .i64 (b : Int)] (heap_any D.r.blk hn hN (by omega) (by omega)) ?_
        rintro _ v5 ⟨h2, rfl, R2, p2, s2⟩
        refine ⟨_, rfl, ?_⟩
        replace D := D.perm R2 p2
        have sz := s2
        refine gl_nil ?_
        refine ge_then ?_
        refine gc_fr [(0, .slice (some ⟨g, 0, none⟩) n c), (1, .int .i64 (a : Int)), (2, .int .i64 (b : Int)), (3, .int .i64 (l : Int)), (8, .bool wb), (9, .bool wp), (10, .int .i64 ((b - a : Nat) : Int)), (19, .int .i64 (b : Int)), (20, .int .i64 (a : Int)), (21, .int .i64 ((b - a : Nat) : Int)), (22, .int .i64 ((b - a : Nat) : Int)), (23, .bool false), (28, .int .i64 (l : Int)), (29, .bool true), (30, .slice (some ⟨g, 0, none⟩) n c), (31, .int .i64 (a : Int)), (32, .int .i64 (b : Int))] (by kernel_rfl) ?_
        refine gc_ret ?_
        refine ge_tr ?_
        refine ge_br ?_
        refine ge_tr ?_
        refine ge_br ?_
        refine ge_ret (.tuple #[]) (rs0 (by kernel_rfl)) ?_
        exact D.done sz
      · refine tq 29 (.bool ((l : Int) == 0)) (.bool false) (congrArg Value.bool (beq_eq_false_iff_ne.2 c4)) ?_
        refine gl_nil ?_
        refine ge_then ?_
        refine gc_no ?_
        refine gc_skip ?_
        refine ge_then ?_
        refine gc_join (fun (x : Nat × (Nat → Int)) => [(0, .slice (some ⟨g, 0, none⟩) n c), (1, .int .i64 (a : Int)), (2, .int .i64 (b : Int)), (3, .int .i64 (x.1 : Int)), (8, .bool wb), (9, .bool wp), (10, .int .i64 ((b - a : Nat) : Int))]) (fun x w' => Pdq w g N a0 b0 f a b x.2 w' ∧ x.1 ≤ 1000) ?_ ?_
        · refine gc_seq ?_
          refine gc_reg ?_
          refine t 34 (.bool wb) ?_
          refine t 35 (.bool (!wb)) ?_
          refine gl_nil ?_
          refine ge_then ?_
          rcases Bool.eq_false_or_eq_true (!wb) with b6 | b6
          · refine gc_yes (hc := congrArg Value.bool b6) ?_
            refine gc_seq ?_
            refine gc_reg ?_
            refine t 36 (.slice (some ⟨g, 0, none⟩) n c) ?_
            refine t 37 (.int .i64 (a : Int)) ?_
            refine t 38 (.int .i64 (b : Int)) ?_
            refine tc 39 100 #[.slice (some ⟨g, 0, none⟩) n c, .int .i64 (a : Int), .int .i64 (b : Int)] (break_any D.r.blk hn hN (by omega) (by omega)) ?_
            rintro _ v7 ⟨h2, rfl, R2, p2⟩
            refine ⟨_, rfl, ?_⟩
            replace D := D.perm R2 p2
            clear R2
            refine gl_nil ?_
            refine ge_then ?_
            refine gc_fr [(0, .slice (some ⟨g, 0, none⟩) n c), (1, .int .i64 (a : Int)), (2, .int .i64 (b : Int)), (3, .int .i64 (l : Int)), (8, .bool wb), (9, .bool wp), (10, .int .i64 ((b - a : Nat) : Int)), (19, .int .i64 (b : Int)), (20, .int .i64 (a : Int)), (21, .int .i64 ((b - a : Nat) : Int)), (22, .int .i64 ((b - a : Nat) : Int)), (23, .bool false), (28, .int .i64 (l : Int)), (29, .bool false), (34, .bool wb), (35, .bool (!wb)), (36, .slice (some ⟨g, 0, none⟩) n c), (37, .int .i64 (a : Int)), (38, .int .i64 (b : Int))] (by kernel_rfl) ?_
            refine gc_reg ?_
            refine t 40 (.int .i64 (l : Int)) ?_
            refine tq 41 (.int .i64 (IntKind.i64.wrap ((l : Int) - 1))) (.int .i64 ((l - 1 : Nat) : Int)) ((wi (by omega)).trans (congrArg (Value.int .i64) (by omega))) ?_
            refine t 3 (.int .i64 ((l - 1 : Nat) : Int)) ?_
            refine gl_nil ?_
            exact ge_join ((l - 1, h2) : Nat × (Nat → Int)) ⟨D, by show l - 1 ≤ 1000; omega⟩ (by kernel_rfl)
          · refine gc_no (hc := congrArg Value.bool b6) ?_
            refine gc_skip ?_
            exact ge_join ((l, h1) : Nat × (Nat → Int)) ⟨D, by show l ≤ 1000; omega⟩ (by kernel_rfl)
        clear D
        rintro ⟨l2, h3⟩ v8 ⟨D, hl2⟩
        dsimp only at D hl2
        refine gc_seq ?_
        refine gc_reg ?_
        refine t 43 (.slice (some ⟨g, 0, none⟩) n c) ?_
        refine t 44 (.int .i64 (a : Int)) ?_
        refine t 45 (.int .i64 (b : Int)) ?_
        refine tc 46 101 #[.slice (some ⟨g, 0, none⟩) n c, .int .i64 (a : Int), .int .i64 (b : Int)] (pivot_any D.r.blk hn hN (by omega) (by omega)) ?_
        rintro _ v9 ⟨pv, tv, rfl, hpv, htv, B⟩
        refine ⟨_, rfl, ?_⟩
        replace D := D.keep B
        clear B
        refine t 42 (.tuple #[.int .i64 (pv : Int), .int .i64 tv]) ?_
        refine t 47 (.int .i64 (pv : Int)) ?_
        refine t 48 (.int .i64 tv) ?_
        refine t 11 (.int .i64 (pv : Int)) ?_
        refine t 12 (.int .i64 tv) ?_
        refine gl_nil ?_
        refine ge_then ?_
        refine gc_join (fun (x : Nat × Int × (Nat → Int)) => [(0, .slice (some ⟨g, 0, none⟩) n c), (1, .int .i64 (a : Int)), (2, .int .i64 (b : Int)), (3, .int .i64 (l2 : Int)), (8, .bool wb), (9, .bool wp), (10, .int .i64 ((b - a : Nat) : Int)), (11, .int .i64 (x.1 : Int)), (12, .int .i64 x.2.1)]) (fun x w' => Pdq w g N a0 b0 f a b x.2.2 w' ∧ (a ≤ x.1 ∧ x.1 < b)) ?_ ?_
        · refine gc_seq ?_
          refine gc_reg ?_
          refine t 49 (.int .i64 tv) ?_
          by_cases c10 : (tv : Int) = 2
          · refine tq 50 (.bool ((tv : Int) == 2)) (.bool true) (congrArg Value.bool (beq_iff_eq.2 c10)) ?_
            refine gl_nil ?_
            refine ge_then ?_
            refine gc_yes ?_
            refine gc_seq ?_
            refine gc_reg ?_
            refine t 51 (.slice (some ⟨g, 0, none⟩) n c) ?_
            refine t 52 (.int .i64 (a : Int)) ?_
            refine t 53 (.int .i64 (b : Int)) ?_
            refine tc 54 102 #[.slice (some ⟨g, 0, none⟩) n c, .int .i64 (a : Int), .int .i64 (b : Int)] (reverse_any D.r.blk hn hN (by omega) (by omega)) ?_
            rintro _ v11 ⟨h4, rfl, R4, p4⟩
            refine ⟨_, rfl, ?_⟩
            replace D := D.perm R4 p4
            clear R4
            refine gl_nil ?_
            refine ge_then ?_
            refine gc_fr [(0, .slice (some ⟨g, 0, none⟩) n c), (1, .int .i64 (a : Int)), (2, .int .i64 (b : Int)), (3, .int .i64 (l2 : Int)), (8, .bool wb), (9, .bool wp), (10, .int .i64 ((b - a : Nat) : Int)), (11, .int .i64 (pv : Int)), (12, .int .i64 tv), (42, .tuple #[.int .i64 (pv : Int), .int .i64 tv]), (43, .slice (some ⟨g, 0, none⟩) n c), (44, .int .i64 (a : Int)), (45, .int .i64 (b : Int)), (46, .tuple #[.int .i64 (pv : Int), .int .i64 tv]), (47, .int .i64 (pv : Int)), (48, .int .i64 tv), (49, .int .i64 tv), (50, .bool true), (51, .slice (some ⟨g, 0, none⟩) n c), (52, .int .i64 (a : Int)), (53, .int .i64 (b : Int))] (by kernel_rfl) ?_
            refine gc_seq ?_
            refine gc_reg ?_
            refine t 55 (.int .i64 (b : Int)) ?_
            refine tq 56 (.int .i64 (IntKind.i64.wrap ((b : Int) - 1))) (.int .i64 ((b - 1 : Nat) : Int)) ((wi (by omega)).trans (congrArg (Value.int .i64) (by omega))) ?_
            refine t 57 (.int .i64 (pv : Int)) ?_
            refine t 58 (.int .i64 (a : Int)) ?_
            refine tq 59 (.int .i64 (IntKind.i64.wrap ((pv : Int) - (a : Int)))) (.int .i64 ((pv - a : Nat) : Int)) ((wi (by omega)).trans (congrArg (Value.int .i64) (by omega))) ?_
            refine tq 60 (.int .i64 (IntKind.i64.wrap (((b - 1 : Nat) : Int) - ((pv - a : Nat) : Int)))) (.int .i64 (((b - 1) - (pv - a) : Nat) : Int)) ((wi (by omega)).trans (congrArg (Value.int .i64) (by omega))) ?_
            refine t 11 (.int .i64 (((b - 1) - (pv - a) : Nat) : Int)) ?_
            refine gl_nil ?_
            refine ge_then ?_
            refine gc_reg ?_
            refine t 12 (.int .i64 1) ?_
            refine gl_nil ?_
            exact ge_join (((b - 1) - (pv - a), 1, h4) : Nat × Int × (Nat → Int)) ⟨D, by show a ≤ _ ∧ _ < b; omega⟩ (by kernel_rfl)
          · refine tq 50 (.bool ((tv : Int) == 2)) (.bool false) (congrArg Value.bool (beq_eq_false_iff_ne.2 c10)) ?_
            refine gl_nil ?_
            refine ge_then ?_
            refine gc_no ?_
            refine gc_skip ?_
            exact ge_join ((pv, tv, h3) : Nat × Int × (Nat → Int)) ⟨D, by show a ≤ _ ∧ _ < b; omega⟩ (by kernel_rfl)
        clear D hpv htv
        rintro ⟨p, tt, h4⟩ v12 ⟨D, hp⟩
        dsimp only at D hp
        refine gc_join (fun (x : Nat → Int) => [(0, .slice (some ⟨g, 0, none⟩) n c), (1, .int .i64 (a : Int)), (2, .int .i64 (b : Int)), (3, .int .i64 (l2 : Int)), (8, .bool wb), (9, .bool wp), (10, .int .i64 ((b - a : Nat) : Int)), (11, .int .i64 (p : Int))]) (fun x w' => Pdq w g N a0 b0 f a b x w') ?_ ?_
        · refine gc_seq ?_
          refine gc_reg ?_
          refine t 61 (.bool wb) ?_
          by_cases c13 : wb = true
          · refine tq 62 (.bool wb) (.bool true) (congrArg Value.bool c13) ?_
            refine t 63 (.bool wp) ?_
            refine t 64 (.bool wp) ?_
            by_cases c14 : wp = true
            · refine tq 65 (.bool wp) (.bool true) (congrArg Value.bool c14) ?_
              refine t 66 (.int .i64 tt) ?_
              by_cases c15 : (tt : Int) = 1
              · refine tq 67 (.bool ((tt : Int) == 1)) (.bool true) (congrArg Value.bool (beq_iff_eq.2 c15)) ?_
                refine t 68 (.bool true) ?_
                refine gl_nil ?_
                refine ge_then ?_
                refine gc_yes ?_
                refine gc_seq ?_
                refine gc_reg ?_
                refine t 69 (.slice (some ⟨g, 0, none⟩) n c) ?_
                refine t 70 (.int .i64 (a : Int)) ?_
                refine t 71 (.int .i64 (b : Int)) ?_
                refine tc 72 103 #[.slice (some ⟨g, 0, none⟩) n c, .int .i64 (a : Int), .int .i64 (b : Int)] (partialIns_any D.r.blk hn hN (by omega) (by omega) D.low) ?_
                rintro _ v16 ⟨q5, h5, rfl, R5, p5, s5⟩
                refine ⟨_, rfl, ?_⟩
                replace D := D.perm R5 p5
                clear R5
                refine gl_nil ?_
                refine ge_then ?_
                refine gc_fr [(0, .slice (some ⟨g, 0, none⟩) n c), (1, .int .i64 (a : Int)), (2, .int .i64 (b : Int)), (3, .int .i64 (l2 : Int)), (8, .bool wb), (9, .bool wp), (10, .int .i64 ((b - a : Nat) : Int)), (11, .int .i64 (p : Int)), (12, .int .i64 tt), (61, .bool wb), (62, .bool true), (63, .bool wp), (64, .bool wp), (65, .bool true), (66, .int .i64 tt), (67, .bool true), (68, .bool true), (69, .slice (some ⟨g, 0, none⟩) n c), (70, .int .i64 (a : Int)), (71, .int .i64 (b : Int)), (72, .bool q5)] (by kernel_rfl) ?_
                rcases Bool.eq_false_or_eq_true (q5) with b17 | b17
                · refine gc_yes (hc := congrArg Value.bool b17) ?_
                  refine gc_ret ?_
                  refine ge_tr ?_
                  refine ge_br ?_
                  refine ge_tr ?_
                  refine ge_br ?_
                  refine ge_ret (.tuple #[]) (rs0 (by kernel_rfl)) ?_
                  exact D.done (s5 b17)
                · refine gc_no (hc := congrArg Value.bool b17) ?_
                  refine gc_skip ?_
                  exact ge_join (h5 : Nat → Int) D (by kernel_rfl)
              · refine tq 67 (.bool ((tt : Int) == 1)) (.bool false) (congrArg Value.bool (beq_eq_false_iff_ne.2 c15)) ?_
                refine t 68 (.bool false) ?_
                refine gl_nil ?_
                refine ge_then ?_
                refine gc_no ?_
                refine gc_skip ?_
                exact ge_join (h4 : Nat → Int) D (by kernel_rfl)
            · refine tq 65 (.bool wp) (.bool false) (congrArg Value.bool (Bool.eq_false_iff.2 c14)) ?_
              refine tn 66 ?_
              refine tn 67 ?_
              refine t 68 (.bool false) ?_
              refine gl_nil ?_
              refine ge_then ?_
              refine gc_no ?_
              refine gc_skip ?_
              exact ge_join (h4 : Nat → Int) D (by kernel_rfl)
          · refine tq 62 (.bool wb) (.bool false) (congrArg Value.bool (Bool.eq_false_iff.2 c13)) ?_
            refine tn 63 ?_
            refine t 64 (.bool false) ?_
            refine t 65 (.bool false) ?_
            refine tn 66 ?_
            refine tn 67 ?_
            refine t 68 (.bool false) ?_
            refine gl_nil ?_
            refine ge_then ?_
            refine gc_no ?_
            refine gc_skip ?_
            exact ge_join (h4 : Nat → Int) D (by kernel_rfl)
        clear D
        rintro h5 v18 D
        refine gc_seq ?_
        refine gc_seq ?_
        replace D := D.keep (Below.refl _ _).drew
        refine gc_draw (fun w' => Blk w' g (cs N h5) 31) (fun _ => false) D.r.blk ?_
        refine z 0 73 (.int .i64 (a : Int)) ?_
        by_cases c19 : (0 : Int) < (a : Int)
        · refine zq 1 74 (.bool (decide ((0 : Int) < (a : Int)))) (.bool true) (congrArg Value.bool (decide_eq_true c19)) ?_
          refine z 2 75 (.bool true) ?_
          refine z 3 76 (.slice (some ⟨g, 0, none⟩) n c) ?_
          refine z 4 77 (.int .i64 (a : Int)) ?_
          refine zq 5 78 (.int .i64 (IntKind.i64.wrap ((a : Int) - 1))) (.int .i64 ((a - 1 : Nat) : Int)) ((wi (by omega)).trans (congrArg (Value.int .i64) (by omega))) ?_
          refine zr 6 79 (pq g (a - 1)) (fun _ _ => congr_v (by simp) (run_ixs 1 g 0 n c (a - 1) (by omega))) ?_
          refine zl 7 80 (.int .u64 (h5 (a - 1))) (fun _ h => h) (a - 1) (hv := cs_at (by omega)) ?_
          refine z 8 81 (.slice (some ⟨g, 0, none⟩) n c) ?_
          refine z 9 82 (.int .i64 (p : Int)) ?_
          refine zr 10 83 (pq g p) (fun _ _ => congr_v (by simp) (run_ixs 1 g 0 n c p (by omega))) ?_
          refine zl 11 84 (.int .u64 (h5 p)) (fun _ h => h) p (hv := cs_at (by omega)) ?_
          refine zc 12 85 104 #[.int .u64 (h5 (a - 1)), .int .u64 (h5 p)] (less_any) ?_
          rintro _ v20 ⟨rfl, B⟩
          replace D := D.keep B
          clear B
          refine ⟨_, rfl, D.r.blk, ?_⟩
          refine z 13 86 (.bool (!(decide (h5 (a - 1) < h5 p)))) ?_
          refine z 14 87 (.bool (!(decide (h5 (a - 1) < h5 p)))) ?_
          refine gz_done ?_
          refine ge_then ?_
          refine gc_fr [(0, .slice (some ⟨g, 0, none⟩) n c), (1, .int .i64 (a : Int)), (2, .int .i64 (b : Int)), (3, .int .i64 (l2 : Int)), (8, .bool wb), (9, .bool wp), (10, .int .i64 ((b - a : Nat) : Int)), (11, .int .i64 (p : Int)), (73, .int .i64 (a : Int)), (74, .bool true), (75, .bool true), (76, .slice (some ⟨g, 0, none⟩) n c), (77, .int .i64 (a : Int)), (78, .int .i64 ((a - 1 : Nat) : Int)), (79, pq g (a - 1)), (80, .int .u64 (h5 (a - 1))), (81, .slice (some ⟨g, 0, none⟩) n c), (82, .int .i64 (p : Int)), (83, pq g p), (84, .int .u64 (h5 p)), (85, .bool (decide (h5 (a - 1) < h5 p))), (86, .bool (!(decide (h5 (a - 1) < h5 p)))), (87, .bool (!(decide (h5 (a - 1) < h5 p))))] (by kernel_rfl) ?_
          rcases Bool.eq_false_or_eq_true (!(decide (h5 (a - 1) < h5 p))) with b21 | b21
          · have d22 : h5 p ≤ h5 (a - 1) := Int.not_lt.1 (of_decide_eq_false (by simpa using b21 : decide (h5 (a - 1) < h5 p) = false))
            refine gc_yes (hc := congrArg Value.bool b21) ?_
            refine gc_seq ?_
            refine gc_reg ?_
            refine t 88 (.slice (some ⟨g, 0, none⟩) n c) ?_
            refine t 89 (.int .i64 (a : Int)) ?_
            refine t 90 (.int .i64 (b : Int)) ?_
            refine t 91 (.int .i64 (p : Int)) ?_
            refine tc 92 105 #[.slice (some ⟨g, 0, none⟩) n c, .int .i64 (a : Int), .int .i64 (b : Int), .int .i64 (p : Int)] (partEqual_any D.r.blk hn hN hp (by omega) (D.low.eq (by omega) d22)) ?_
            rintro _ v23 ⟨m, h6, rfl, R6, hm, p6, e6, g6⟩
            refine ⟨_, rfl, ?_⟩
            have D6 := D.skip R6 hm p6 e6 g6
            clear D
            have D := D6
            clear D6 R6
            refine t 13 (.int .i64 (m : Int)) ?_
            refine gl_nil ?_
            refine ge_then ?_
            refine gc_seq ?_
            refine gc_reg ?_
            refine t 93 (.int .i64 (m : Int)) ?_
            refine t 1 (.int .i64 (m : Int)) ?_
            refine gl_nil ?_
            refine ge_then ?_
            refine gc_exit ?_
            refine ge_tx ?_
            refine ge_bx ?_
            exact ge_round ((m, b, l2, wb, wp, h6) : Nat × Nat × Nat × Bool × Bool × (Nat → Int)) (by show b - (m) < b - a; omega) ⟨D, by show l2 ≤ 1000; omega⟩ (by kernel_rfl)
          · have d24 : h5 (a - 1) < h5 p := of_decide_eq_true (by simpa using b21 : decide (h5 (a - 1) < h5 p) = true)
            refine gc_no (hc := congrArg Value.bool b21) ?_
            refine gc_skip ?_
            refine ge_then ?_
            refine gc_seq ?_
            refine gc_reg ?_
            refine t 95 (.slice (some ⟨g, 0, none⟩) n c) ?_
            refine t 96 (.int .i64 (a : Int)) ?_
            refine t 97 (.int .i64 (b : Int)) ?_
            refine t 98 (.int .i64 (p : Int)) ?_
            refine tc 99 106 #[.slice (some ⟨g, 0, none⟩) n c, .int .i64 (a : Int), .int .i64 (b : Int), .int .i64 (p : Int)] (partition_any D.r.blk hn hN hp (by omega)) ?_
            rintro _ v25 ⟨m, q6, h6, rfl, R6, hm, p6, lo6, hi6⟩
            refine ⟨_, rfl, ?_⟩
            replace D := D.perm R6 p6
            clear R6
            refine t 94 (.tuple #[.int .i64 (m : Int), .bool q6]) ?_
            refine t 100 (.int .i64 (m : Int)) ?_
            refine t 101 (.bool q6) ?_
            refine t 14 (.int .i64 (m : Int)) ?_
            refine t 15 (.bool q6) ?_
            refine gl_nil ?_
            refine ge_then ?_
            refine gc_seq ?_
            refine gc_reg ?_
            refine t 102 (.bool q6) ?_
            refine t 9 (.bool q6) ?_
            refine gl_nil ?_
            refine ge_then ?_
            refine gc_fr [(0, .slice (some ⟨g, 0, none⟩) n c), (1, .int .i64 (a : Int)), (2, .int .i64 (b : Int)), (3, .int .i64 (l2 : Int)), (8, .bool wb), (9, .bool q6), (10, .int .i64 ((b - a : Nat) : Int)), (11, .int .i64 (p : Int)), (14, .int .i64 (m : Int)), (15, .bool q6), (73, .int .i64 (a : Int)), (74, .bool true), (75, .bool true), (76, .slice (some ⟨g, 0, none⟩) n c), (77, .int .i64 (a : Int)), (78, .int .i64 ((a - 1 : Nat) : Int)), (79, pq g (a - 1)), (80, .int .u64 (h5 (a - 1))), (81, .slice (some ⟨g, 0, none⟩) n c), (82, .int .i64 (p : Int)), (83, pq g p), (84, .int .u64 (h5 p)), (85, .bool (decide (h5 (a - 1) < h5 p))), (86, .bool (!(decide (h5 (a - 1) < h5 p)))), (87, .bool (!(decide (h5 (a - 1) < h5 p)))), (94, .tuple #[.int .i64 (m : Int), .bool q6]), (95, .slice (some ⟨g, 0, none⟩) n c), (96, .int .i64 (a : Int)), (97, .int .i64 (b : Int)), (98, .int .i64 (p : Int)), (99, .tuple #[.int .i64 (m : Int), .bool q6]), (100, .int .i64 (m : Int)), (101, .bool q6), (102, .bool q6)] (by kernel_rfl) ?_
            refine gc_seq ?_
            refine gc_reg ?_
            refine t 103 (.int .i64 (m : Int)) ?_
            refine t 104 (.int .i64 (a : Int)) ?_
            refine tq 105 (.int .i64 (IntKind.i64.wrap ((m : Int) - (a : Int)))) (.int .i64 ((m - a : Nat) : Int)) ((wi (by omega)).trans (congrArg (Value.int .i64) (by omega))) ?_
            refine t 106 (.int .i64 (b : Int)) ?_
            refine t 107 (.int .i64 (m : Int)) ?_
            refine tq 108 (.int .i64 (IntKind.i64.wrap ((b : Int) - (m : Int)))) (.int .i64 ((b - m : Nat) : Int)) ((wi (by omega)).trans (congrArg (Value.int .i64) (by omega))) ?_
            refine t 16 (.int .i64 ((m - a : Nat) : Int)) ?_
            refine t 17 (.int .i64 ((b - m : Nat) : Int)) ?_
            refine gl_nil ?_
            refine ge_then ?_
            refine gc_seq ?_
            refine gc_reg ?_
            refine t 109 (.int .i64 ((b - a : Nat) : Int)) ?_
            refine tr 110 (.int .i64 (((b - a) / 8 : Nat) : Int)) (congr_v (congrArg (Value.int .i64) (show ((b - a : Nat) : Int) / 8 = (((b - a) / 8 : Nat) : Int) by omega)) (run_quoi ((b - a : Nat) : Int) 8 ⟨by omega, by omega⟩ ⟨by decide, by decide⟩)) ?_
            refine t 18 (.int .i64 (((b - a) / 8 : Nat) : Int)) ?_
            refine gl_nil ?_
            refine ge_then ?_
            refine gc_seq ?_
            refine gc_reg ?_
            refine t 111 (.int .i64 ((m - a : Nat) : Int)) ?_
            refine t 112 (.int .i64 ((b - m : Nat) : Int)) ?_
            by_cases c26 : ((m - a : Nat) : Int) < ((b - m : Nat) : Int)
            · refine tq 113 (.bool (decide (((m - a : Nat) : Int) < ((b - m : Nat) : Int)))) (.bool true) (congrArg Value.bool (decide_eq_true c26)) ?_
              refine gl_nil ?_
              refine ge_then ?_
              refine gc_fr [(0, .slice (some ⟨g, 0, none⟩) n c), (1, .int .i64 (a : Int)), (2, .int .i64 (b : Int)), (3, .int .i64 (l2 : Int)), (8, .bool wb), (9, .bool q6), (10, .int .i64 ((b - a : Nat) : Int)), (11, .int .i64 (p : Int)), (14, .int .i64 (m : Int)), (15, .bool q6), (16, .int .i64 ((m - a : Nat) : Int)), (17, .int .i64 ((b - m : Nat) : Int)), (18, .int .i64 (((b - a) / 8 : Nat) : Int)), (73, .int .i64 (a : Int)), (74, .bool true), (75, .bool true), (76, .slice (some ⟨g, 0, none⟩) n c), (77, .int .i64 (a : Int)), (78, .int .i64 ((a - 1 : Nat) : Int)), (79, pq g (a - 1)), (80, .int .u64 (h5 (a - 1))), (81, .slice (some ⟨g, 0, none⟩) n c), (82, .int .i64 (p : Int)), (83, pq g p), (84, .int .u64 (h5 p)), (85, .bool (decide (h5 (a - 1) < h5 p))), (86, .bool (!(decide (h5 (a - 1) < h5 p)))), (87, .bool (!(decide (h5 (a - 1) < h5 p)))), (94, .tuple #[.int .i64 (m : Int), .bool q6]), (95, .slice (some ⟨g, 0, none⟩) n c), (96, .int .i64 (a : Int)), (97, .int .i64 (b : Int)), (98, .int .i64 (p : Int)), (99, .tuple #[.int .i64 (m : Int), .bool q6]), (100, .int .i64 (m : Int)), (101, .bool q6), (102, .bool q6), (103, .int .i64 (m : Int)), (104, .int .i64 (a : Int)), (105, .int .i64 ((m - a : Nat) : Int)), (106, .int .i64 (b : Int)), (107, .int .i64 (m : Int)), (108, .int .i64 ((b - m : Nat) : Int)), (109, .int .i64 ((b - a : Nat) : Int)), (110, .int .i64 (((b - a) / 8 : Nat) : Int)), (111, .int .i64 ((m - a : Nat) : Int)), (112, .int .i64 ((b - m : Nat) : Int)), (113, .bool true)] (by kernel_rfl) ?_
              refine gc_yes ?_
              refine gc_seq ?_
              refine gc_reg ?_
              refine t 114 (.int .i64 ((m - a : Nat) : Int)) ?_
              refine t 115 (.int .i64 (((b - a) / 8 : Nat) : Int)) ?_
              refine t 116 (.bool (decide ((((b - a) / 8 : Nat) : Int) ≤ ((m - a : Nat) : Int)))) ?_
              refine t 8 (.bool (decide ((((b - a) / 8 : Nat) : Int) ≤ ((m - a : Nat) : Int)))) ?_
              refine gl_nil ?_
              refine ge_then ?_
              refine gc_seq ?_
              refine gc_reg ?_
              refine t 117 (.slice (some ⟨g, 0, none⟩) n c) ?_
              refine t 118 (.int .i64 (a : Int)) ?_
              refine t 119 (.int .i64 (m : Int)) ?_
              refine t 120 (.int .i64 (l2 : Int)) ?_
              refine tc 121 82 #[.slice (some ⟨g, 0, none⟩) n c, .int .i64 (a : Int), .int .i64 (m : Int), .int .i64 (l2 : Int)] (ih _ a m _ _ (by omega) (by omega) (by omega) hl2 (D.low.sub (by omega)) D.r.blk) ?_
              rintro _ v27 ⟨h7, rfl, R7, p7, s7⟩
              refine ⟨_, rfl, ?_⟩
              have D7 := D.right R7 hm lo6 hi6 p7 s7
              clear D R7
              refine gl_nil ?_
              refine ge_then ?_
              refine gc_reg ?_
              refine t 122 (.int .i64 (m : Int)) ?_
              refine tq 123 (.int .i64 (IntKind.i64.wrap ((m : Int) + 1))) (.int .i64 ((m + 1 : Nat) : Int)) ((wi (by omega)).trans (congrArg (Value.int .i64) (by omega))) ?_
              refine t 1 (.int .i64 ((m + 1 : Nat) : Int)) ?_
              refine gl_nil ?_
              refine ge_bn ?_
              exact ge_round ((m + 1, b, l2, (decide ((((b - a) / 8 : Nat) : Int) ≤ ((m - a : Nat) : Int))), q6, h7) : Nat × Nat × Nat × Bool × Bool × (Nat → Int)) (by show b - (m + 1) < b - a; omega) ⟨D7, by show l2 ≤ 1000; omega⟩ (by kernel_rfl)
            · refine tq 113 (.bool (decide (((m - a : Nat) : Int) < ((b - m : Nat) : Int)))) (.bool false) (congrArg Value.bool (decide_eq_false c26)) ?_
              refine gl_nil ?_
              refine ge_then ?_
              refine gc_fr [(0, .slice (some ⟨g, 0, none⟩) n c), (1, .int .i64 (a : Int)), (2, .int .i64 (b : Int)), (3, .int .i64 (l2 : Int)), (8, .bool wb), (9, .bool q6), (10, .int .i64 ((b - a : Nat) : Int)), (11, .int .i64 (p : Int)), (14, .int .i64 (m : Int)), (15, .bool q6), (16, .int .i64 ((m - a : Nat) : Int)), (17, .int .i64 ((b - m : Nat) : Int)), (18, .int .i64 (((b - a) / 8 : Nat) : Int)), (73, .int .i64 (a : Int)), (74, .bool true), (75, .bool true), (76, .slice (some ⟨g, 0, none⟩) n c), (77, .int .i64 (a : Int)), (78, .int .i64 ((a - 1 : Nat) : Int)), (79, pq g (a - 1)), (80, .int .u64 (h5 (a - 1))), (81, .slice (some ⟨g, 0, none⟩) n c), (82, .int .i64 (p : Int)), (83, pq g p), (84, .int .u64 (h5 p)), (85, .bool (decide (h5 (a - 1) < h5 p))), (86, .bool (!(decide (h5 (a - 1) < h5 p)))), (87, .bool (!(decide (h5 (a - 1) < h5 p)))), (94, .tuple #[.int .i64 (m : Int), .bool q6]), (95, .slice (some ⟨g, 0, none⟩) n c), (96, .int .i64 (a : Int)), (97, .int .i64 (b : Int)), (98, .int .i64 (p : Int)), (99, .tuple #[.int .i64 (m : Int), .bool q6]), (100, .int .i64 (m : Int)), (101, .bool q6), (102, .bool q6), (103, .int .i64 (m : Int)), (104, .int .i64 (a : Int)), (105, .int .i64 ((m - a : Nat) : Int)), (106, .int .i64 (b : Int)), (107, .int .i64 (m : Int)), (108, .int .i64 ((b - m : Nat) : Int)), (109, .int .i64 ((b - a : Nat) : Int)), (110, .int .i64 (((b - a) / 8 : Nat) : Int)), (111, .int .i64 ((m - a : Nat) : Int)), (112, .int .i64 ((b - m : Nat) : Int)), (113, .bool false)] (by kernel_rfl) ?_
              refine gc_no ?_
              refine gc_seq ?_
              refine gc_reg ?_
              refine t 124 (.int .i64 ((b - m : Nat) : Int)) ?_
              refine t 125 (.int .i64 (((b - a) / 8 : Nat) : Int)) ?_
              refine t 126 (.bool (decide ((((b - a) / 8 : Nat) : Int) ≤ ((b - m : Nat) : Int)))) ?_
              refine t 8 (.bool (decide ((((b - a) / 8 : Nat) : Int) ≤ ((b - m : Nat) : Int)))) ?_
              refine gl_nil ?_
              refine ge_then ?_
              refine gc_seq ?_
              refine gc_reg ?_
              refine t 127 (.slice (some ⟨g, 0, none⟩) n c) ?_
              refine t 128 (.int .i64 (m : Int)) ?_
              refine tq 129 (.int .i64 (IntKind.i64.wrap ((m : Int) + 1))) (.int .i64 ((m + 1 : Nat) : Int)) ((wi (by omega)).trans (congrArg (Value.int .i64) (by omega))) ?_
              refine t 130 (.int .i64 (b : Int)) ?_
              refine t 131 (.int .i64 (l2 : Int)) ?_
              refine tc 132 82 #[.slice (some ⟨g, 0, none⟩) n c, .int .i64 ((m + 1 : Nat) : Int), .int .i64 (b : Int), .int .i64 (l2 : Int)] (ih _ (m + 1) b _ _ (by omega) (by omega) (by omega) hl2 (.inr fun k h1 h2 => by rw [Nat.add_sub_cancel]; exact hi6 k (by omega) h2) D.r.blk) ?_
              rintro _ v28 ⟨h7, rfl, R7, p7, s7⟩
              refine ⟨_, rfl, ?_⟩
              have D7 := D.left R7 hm lo6 hi6 p7 s7
              clear D R7
              refine gl_nil ?_
              refine ge_then ?_
              refine gc_reg ?_
              refine t 133 (.int .i64 (m : Int)) ?_
              refine t 2 (.int .i64 (m : Int)) ?_
              refine gl_nil ?_
              refine ge_bn ?_
              exact ge_round ((a, m, l2, (decide ((((b - a) / 8 : Nat) : Int) ≤ ((b - m : Nat) : Int))), q6, h7) : Nat × Nat × Nat × Bool × Bool × (Nat → Int)) (by show m - (a) < b - a; omega) ⟨D7, by show l2 ≤ 1000; omega⟩ (by kernel_rfl)
        · refine zq 1 74 (.bool (decide ((0 : Int) < (a : Int)))) (.bool false) (congrArg Value.bool (decide_eq_false c19)) ?_
          refine z 2 75 (.bool false) ?_
          refine zn 3 76 ?_
          refine zn 4 77 ?_
          refine zn 5 78 ?_
          refine zn 6 79 ?_
          refine zn 7 80 ?_
          refine zn 8 81 ?_
          refine zn 9 82 ?_
          refine zn 10 83 ?_
          refine zn 11 84 ?_
          refine zn 12 85 ?_
          refine zn 13 86 ?_
          refine z 14 87 (.bool false) ?_
          refine gz_done ?_
          refine ge_then ?_
          refine gc_fr [(0, .slice (some ⟨g, 0, none⟩) n c), (1, .int .i64 (a : Int)), (2, .int .i64 (b : Int)), (3, .int .i64 (l2 : Int)), (8, .bool wb), (9, .bool wp), (10, .int .i64 ((b - a : Nat) : Int)), (11, .int .i64 (p : Int)), (73, .int .i64 (a : Int)), (74, .bool false), (75, .bool false), (76, undef), (77, undef), (78, undef), (79, undef), (80, undef), (81, undef), (82, undef), (83, undef), (84, undef), (85, undef), (86, undef), (87, .bool false)] (by kernel_rfl) ?_
          refine gc_no ?_
          refine gc_skip ?_
          refine ge_then ?_
          refine gc_seq ?_
          refine gc_reg ?_
          refine t 95 (.slice (some ⟨g, 0, none⟩) n c) ?_
          refine t 96 (.int .i64 (a : Int)) ?_
          refine t 97 (.int .i64 (b : Int)) ?_
          refine t 98 (.int .i64 (p : Int)) ?_
          refine tc 99 106 #[.slice (some ⟨g, 0, none⟩) n c, .int .i64 (a : Int), .int .i64 (b : Int), .int .i64 (p : Int)] (partition_any D.r.blk hn hN hp (by omega)) ?_
          rintro _ v29 ⟨m, q6, h6, rfl, R6, hm, p6, lo6, hi6⟩
          refine ⟨_, rfl, ?_⟩
          replace D := D.perm R6 p6
          clear R6
          refine t 94 (.tuple #[.int .i64 (m : Int), .bool q6]) ?_
          refine t 100 (.int .i64 (m : Int)) ?_
          refine t 101 (.bool q6) ?_
          refine t 14 (.int .i64 (m : Int)) ?_
          refine t 15 (.bool q6) ?_
          refine gl_nil ?_
          refine ge_then ?_
          refine gc_seq ?_
          refine gc_reg ?_
          refine t 102 (.bool q6) ?_
          refine t 9 (.bool q6) ?_
          refine gl_nil ?_
          refine ge_then ?_
          refine gc_fr [(0, .slice (some ⟨g, 0, none⟩) n c), (1, .int .i64 (a : Int)), (2, .int .i64 (b : Int)), (3, .int .i64 (l2 : Int)), (8, .bool wb), (9, .bool q6), (10, .int .i64 ((b - a : Nat) : Int)), (11, .int .i64 (p : Int)), (14, .int .i64 (m : Int)), (15, .bool q6), (73, .int .i64 (a : Int)), (74, .bool false), (75, .bool false), (76, undef), (77, undef), (78, undef), (79, undef), (80, undef), (81, undef), (82, undef), (83, undef), (84, undef), (85, undef), (86, undef), (87, .bool false), (94, .tuple #[.int .i64 (m : Int), .bool q6]), (95, .slice (some ⟨g, 0, none⟩) n c), (96, .int .i64 (a : Int)), (97, .int .i64 (b : Int)), (98, .int .i64 (p : Int)), (99, .tuple #[.int .i64 (m : Int), .bool q6]), (100, .int .i64 (m : Int)), (101, .bool q6), (102, .bool q6)] (by kernel_rfl) ?_
          refine gc_seq ?_
          refine gc_reg ?_
          refine t 103 (.int .i64 (m : Int)) ?_
          refine t 104 (.int .i64 (a : Int)) ?_
          refine tq 105 (.int .i64 (IntKind.i64.wrap ((m : Int) - (a : Int)))) (.int .i64 ((m - a : Nat) : Int)) ((wi (by omega)).trans (congrArg (Value.int .i64) (by omega))) ?_
          refine t 106 (.int .i64 (b : Int)) ?_
          refine t 107 (.int .i64 (m : Int)) ?_
          refine tq 108 (.int .i64 (IntKind.i64.wrap ((b : Int) - (m : Int)))) (.int .i64 ((b - m : Nat) : Int)) ((wi (by omega)).trans (congrArg (Value.int .i64) (by omega))) ?_
          refine t 16 (.int .i64 ((m - a : Nat) : Int)) ?_
          refine t 17 (.int .i64 ((b - m : Nat) : Int)) ?_
          refine gl_nil ?_
          refine ge_then ?_
          refine gc_seq ?_
          refine gc_reg ?_
          refine t 109 (.int .i64 ((b - a : Nat) : Int)) ?_
          refine tr 110 (.int .i64 (((b - a) / 8 : Nat) : Int)) (congr_v (congrArg (Value.int .i64) (show ((b - a : Nat) : Int) / 8 = (((b - a) / 8 : Nat) : Int) by omega)) (run_quoi ((b - a : Nat) : Int) 8 ⟨by omega, by omega⟩ ⟨by decide, by decide⟩)) ?_
          refine t 18 (.int .i64 (((b - a) / 8 : Nat) : Int)) ?_
          refine gl_nil ?_
          refine ge_then ?_
          refine gc_seq ?_
          refine gc_reg ?_
          refine t 111 (.int .i64 ((m - a : Nat) : Int)) ?_
          refine t 112 (.int .i64 ((b - m : Nat) : Int)) ?_
          by_cases c30 : ((m - a : Nat) : Int) < ((b - m : Nat) : Int)
          · refine tq 113 (.bool (decide (((m - a : Nat) : Int) < ((b - m : Nat) : Int)))) (.bool true) (congrArg Value.bool (decide_eq_true c30)) ?_
            refine gl_nil ?_
            refine ge_then ?_
            refine gc_fr [(0, .slice (some ⟨g, 0, none⟩) n c), (1, .int .i64 (a : Int)), (2, .int .i64 (b : Int)), (3, .int .i64 (l2 : Int)), (8, .bool wb), (9, .bool q6), (10, .int .i64 ((b - a : Nat) : Int)), (11, .int .i64 (p : Int)), (14, .int .i64 (m : Int)), (15, .bool q6), (16, .int .i64 ((m - a : Nat) : Int)), (17, .int .i64 ((b - m : Nat) : Int)), (18, .int .i64 (((b - a) / 8 : Nat) : Int)), (73, .int .i64 (a : Int)), (74, .bool false), (75, .bool false), (76, undef), (77, undef), (78, undef), (79, undef), (80, undef), (81, undef), (82, undef), (83, undef), (84, undef), (85, undef), (86, undef), (87, .bool false), (94, .tuple #[.int .i64 (m : Int), .bool q6]), (95, .slice (some ⟨g, 0, none⟩) n c), (96, .int .i64 (a : Int)), (97, .int .i64 (b : Int)), (98, .int .i64 (p : Int)), (99, .tuple #[.int .i64 (m : Int), .bool q6]), (100, .int .i64 (m : Int)), (101, .bool q6), (102, .bool q6), (103, .int .i64 (m : Int)), (104, .int .i64 (a : Int)), (105, .int .i64 ((m - a : Nat) : Int)), (106, .int .i64 (b : Int)), (107, .int .i64 (m : Int)), (108, .int .i64 ((b - m : Nat) : Int)), (109, .int .i64 ((b - a : Nat) : Int)), (110, .int .i64 (((b - a) / 8 : Nat) : Int)), (111, .int .i64 ((m - a : Nat) : Int)), (112, .int .i64 ((b - m : Nat) : Int)), (113, .bool true)] (by kernel_rfl) ?_
            refine gc_yes ?_
            refine gc_seq ?_
            refine gc_reg ?_
            refine t 114 (.int .i64 ((m - a : Nat) : Int)) ?_
            refine t 115 (.int .i64 (((b - a) / 8 : Nat) : Int)) ?_
            refine t 116 (.bool (decide ((((b - a) / 8 : Nat) : Int) ≤ ((m - a : Nat) : Int)))) ?_
            refine t 8 (.bool (decide ((((b - a) / 8 : Nat) : Int) ≤ ((m - a : Nat) : Int)))) ?_
            refine gl_nil ?_
            refine ge_then ?_
            refine gc_seq ?_
            refine gc_reg ?_
            refine t 117 (.slice (some ⟨g, 0, none⟩) n c) ?_
            refine t 118 (.int .i64 (a : Int)) ?_
            refine t 119 (.int .i64 (m : Int)) ?_
            refine t 120 (.int .i64 (l2 : Int)) ?_
            refine tc 121 82 #[.slice (some ⟨g, 0, none⟩) n c, .int .i64 (a : Int), .int .i64 (m : Int), .int .i64 (l2 : Int)] (ih _ a m _ _ (by omega) (by omega) (by omega) hl2 (D.low.sub (by omega)) D.r.blk) ?_
            rintro _ v31 ⟨h7, rfl, R7, p7, s7⟩
            refine ⟨_, rfl, ?_⟩
            have D7 := D.right R7 hm lo6 hi6 p7 s7
            clear D R7
            refine gl_nil ?_
            refine ge_then ?_
            refine gc_reg ?_
            refine t 122 (.int .i64 (m : Int)) ?_
            refine tq 123 (.int .i64 (IntKind.i64.wrap ((m : Int) + 1))) (.int .i64 ((m + 1 : Nat) : Int)) ((wi (by omega)).trans (congrArg (Value.int .i64) (by omega))) ?_
            refine t 1 (.int .i64 ((m + 1 : Nat) : Int)) ?_
            refine gl_nil ?_
            refine ge_bn ?_
            exact ge_round ((m + 1, b, l2, (decide ((((b - a) / 8 : Nat) : Int) ≤ ((m - a : Nat) : Int))), q6, h7) : Nat × Nat × Nat × Bool × Bool × (Nat → Int)) (by show b - (m + 1) < b - a; omega) ⟨D7, by show l2 ≤ 1000; omega⟩ (by kernel_rfl)
          · refine tq 113 (.bool (decide (((m - a : Nat) : Int) < ((b - m : Nat) : Int)))) (.bool false) (congrArg Value.bool (decide_eq_false c30)) ?_
            refine gl_nil ?_
            refine ge_then ?_
            refine gc_fr [(0, .slice (some ⟨g, 0, none⟩) n c), (1, .int .i64 (a : Int)), (2, .int .i64 (b : Int)), (3, .int .i64 (l2 : Int)), (8, .bool wb), (9, .bool q6), (10, .int .i64 ((b - a : Nat) : Int)), (11, .int .i64 (p : Int)), (14, .int .i64 (m : Int)), (15, .bool q6), (16, .int .i64 ((m - a : Nat) : Int)), (17, .int .i64 ((b - m : Nat) : Int)), (18, .int .i64 (((b - a) / 8 : Nat) : Int)), (73, .int .i64 (a : Int)), (74, .bool false), (75, .bool false), (76, undef), (77, undef), (78, undef), (79, undef), (80, undef), (81, undef), (82, undef), (83, undef), (84, undef), (85, undef), (86, undef), (87, .bool false), (94, .tuple #[.int .i64 (m : Int), .bool q6]), (95, .slice (some ⟨g, 0, none⟩) n c), (96, .int .i64 (a : Int)), (97, .int .i64 (b : Int)), (98, .int .i64 (p : Int)), (99, .tuple #[.int .i64 (m : Int), .bool q6]), (100, .int .i64 (m : Int)), (101, .bool q6), (102, .bool q6), (103, .int .i64 (m : Int)), (104, .int .i64 (a : Int)), (105, .int .i64 ((m - a : Nat) : Int)), (106, .int .i64 (b : Int)), (107, .int .i64 (m : Int)), (108, .int .i64 ((b - m : Nat) : Int)), (109, .int .i64 ((b - a : Nat) : Int)), (110, .int .i64 (((b - a) / 8 : Nat) : Int)), (111, .int .i64 ((m - a : Nat) : Int)), (112, .int .i64 ((b - m : Nat) : Int)), (113, .bool false)] (by kernel_rfl) ?_
            refine gc_no ?_
            refine gc_seq ?_
            refine gc_reg ?_
            refine t 124 (.int .i64 ((b - m : Nat) : Int)) ?_
            refine t 125 (.int .i64 (((b - a) / 8 : Nat) : Int)) ?_
            refine t 126 (.bool (decide ((((b - a) / 8 : Nat) : Int) ≤ ((b - m : Nat) : Int)))) ?_
            refine t 8 (.bool (decide ((((b - a) / 8 : Nat) : Int) ≤ ((b - m : Nat) : Int)))) ?_
            refine gl_nil ?_
            refine ge_then ?_
            refine gc_seq ?_
            refine gc_reg ?_
            refine t 127 (.slice (some ⟨g, 0, none⟩) n c) ?_
            refine t 128 (.int .i64 (m : Int)) ?_
            refine tq 129 (.int .i64 (IntKind.i64.wrap ((m : Int) + 1))) (.int .i64 ((m + 1 : Nat) : Int)) ((wi (by omega)).trans (congrArg (Value.int .i64) (by omega))) ?_
            refine t 130 (.int .i64 (b : Int)) ?_
            refine t 131 (.int .i64 (l2 : Int)) ?_
            refine tc 132 82 #[.slice (some ⟨g, 0, none⟩) n c, .int .i64 ((m + 1 : Nat) : Int), .int .i64 (b : Int), .int .i64 (l2 : Int)] (ih _ (m + 1) b _ _ (by omega) (by omega) (by omega) hl2 (.inr fun k h1 h2 => by rw [Nat.add_sub_cancel]; exact hi6 k (by omega) h2) D.r.blk) ?_
            rintro _ v32 ⟨h7, rfl, R7, p7, s7⟩
            refine ⟨_, rfl, ?_⟩
            have D7 := D.left R7 hm lo6 hi6 p7 s7
            clear D R7
            refine gl_nil ?_
            refine ge_then ?_
            refine gc_reg ?_
            refine t 133 (.int .i64 (m : Int)) ?_
            refine t 2 (.int .i64 (m : Int)) ?_
            refine gl_nil ?_
            refine ge_bn ?_
            exact ge_round ((a, m, l2, (decide ((((b - a) / 8 : Nat) : Int) ≤ ((b - m : Nat) : Int))), q6, h7) : Nat × Nat × Nat × Bool × Bool × (Nat → Int)) (by show m - (a) < b - a; omega) ⟨D7, by show l2 ≤ 1000; omega⟩ (by kernel_rfl)
theorem sort_any {w : World} {g N n c : Nat} {f : Nat → Int} (X : Blk w g (cs N f) 31) (hn : n ≤ N) (hN : n ≤ 1000000000) : Calls Tryz.prog 56 #[.slice (some ⟨g, 0, none⟩) n c] w (SoE w g N 0 n f) := by
  have BB := Below.refl w.heap.size w
  refine gc_enter (n := 11) Tryz.func56 rfl (by kernel_rfl) (by kernel_rfl) ?_
  refine gc_seq ?_
  refine gc_reg ?_
  refine t 3 (.slice (some ⟨g, 0, none⟩) n c) ?_
  refine t 4 (.int .i64 ((n : Nat) : Int)) ?_
  refine t 2 (.int .i64 ((n : Nat) : Int)) ?_
  refine gl_nil ?_
  refine ge_then ?_
  refine gc_reg ?_
  refine t 5 (.slice (some ⟨g, 0, none⟩) n c) ?_
  refine t 6 (.int .i64 ((n : Nat) : Int)) ?_
  refine t 7 (.int .i64 ((n : Nat) : Int)) ?_
  refine tr 8 (.int .u64 ((n : Nat) : Int)) (cvB ((n : Nat) : Int) ⟨by omega, by omega⟩) ?_
  refine tc 9 83 #[.int .u64 ((n : Nat) : Int)] (len_any (x := ((n : Nat) : Int)) (by omega) (by omega)) ?_
  rintro _ v1 ⟨rfl, B⟩
  refine ⟨_, rfl, ?_⟩
  replace BB := joinB BB B
  clear B
  refine tc 10 82 #[.slice (some ⟨g, 0, none⟩) n c, .int .i64 0, .int .i64 ((n : Nat) : Int), .int .i64 ((bitLen n : Nat) : Int)] (pdq_L hn hN (n + 1) _ 0 n (bitLen n) f (by omega) (Nat.zero_le _) (Nat.le_refl _) (len_le (by omega)) (.inl rfl) (X.keep BB)) ?_
  rintro _ v2 ⟨h2, rfl, R2, p2, s2⟩
  refine ⟨_, rfl, ?_⟩
  have R := (sr_of X).keep BB
  replace R := R.call R2
  refine gl_nil ?_
  refine ge_end (.tuple #[]) (rs0 (by kernel_rfl)) ?_
  exact ⟨h2, rfl, R, p2, s2⟩
end So
end Go.Proofs.YtemkjdanemddpaaGreat
