/- Several texts, joined: SoI, SoJ. -/
import Derived.Test.YtemkjdanemddpaaGreatJab
namespace Go.Proofs.YtemkjdanemddpaaGreat
namespace So
open Go.RowKit Go.Lib Pg Gl
set_option maxRecDepth 100000
set_option linter.unusedVariables false
set_option linter.unusedSimpArgs false
set_option maxHeartbeats 4000000
theorem chg_b {w w1 w2 : World} {F : Nat → Prop} (c : Chg F w w1) (b : Below w1.heap.size w1 w2) : Chg F w w2 := c.trans (Chg.of (F := fun _ => False) b) (fun _ _ x => x.elim)
structure O2E (w : World) (gs a b : Nat) (s : Int) (e : Ending) (w' : World) : Prop where
  ex : ∃ (x y : Nat) (t : Int), e = .returned (.tuple #[.int .i64 (x : Int), .int .i64 (y : Int)]) ∧ ((x = a ∧ y = b) ∨ (x = b ∧ y = a)) ∧ Blk w' gs [.int .i64 t] 3 ∧ (0 ≤ t ∧ t ≤ s + 1) ∧ Chg (· = gs) w w'
theorem order2_any {w : World} {g gs N n c : Nat} {f : Nat → Int} {s : Int} {a b : Nat} (X : Blk w g (cs N f) 31) (Y : Blk w gs [.int .i64 s] 3) (hne : ¬ g = gs) (hn : n ≤ N) (hN : n ≤ 1000000000) (hs : 0 ≤ s ∧ s ≤ 1000000) (ha : a < n) (hb : b < n) : Calls Tryz.prog 134 #[.slice (some ⟨g, 0, none⟩) n c, .int .i64 (a : Int), .int .i64 (b : Int), pg gs] w (O2E w gs a b s) := by
  have CH := Chg.of (F := (· = gs)) (Below.refl w.heap.size w)
  refine gc_enter (n := 28) Tryz.func134 rfl (by kernel_rfl) (by kernel_rfl) ?_
  refine gc_seq ?_
  refine gc_reg ?_
  refine t 8 (.int .i64 0) ?_
  refine t 9 (.int .i64 0) ?_
  refine gl_nil ?_
  refine ge_then ?_
  refine gc_seq ?_
  refine gc_seq ?_
  replace X := X.drew
  replace Y := Y.drew
  replace CH := CH.drew
  refine gc_draw (fun w' => Blk w' g (cs N f) 31) (fun _ => false) X ?_
  refine z 0 10 (.slice (some ⟨g, 0, none⟩) n c) ?_
  refine z 1 11 (.int .i64 (b : Int)) ?_
  refine zr 2 12 (pq g b) (fun _ _ => congr_v (by simp) (run_ixs 1 g 0 n c b (by omega))) ?_
  refine zl 3 13 (.int .u64 (f b)) (fun _ h => h) b (hv := cs_at (by omega)) ?_
  refine z 4 14 (.slice (some ⟨g, 0, none⟩) n c) ?_
  refine z 5 15 (.int .i64 (a : Int)) ?_
  refine zr 6 16 (pq g a) (fun _ _ => congr_v (by simp) (run_ixs 1 g 0 n c a (by omega))) ?_
  refine zl 7 17 (.int .u64 (f a)) (fun _ h => h) a (hv := cs_at (by omega)) ?_
  refine zc 8 18 104 #[.int .u64 (f b), .int .u64 (f a)] (less_any) ?_
  rintro _ v1 ⟨rfl, B⟩
  replace X := X.keep B
  replace Y := Y.keep B
  replace CH := chg_b CH B
  clear B
  refine ⟨_, rfl, X, ?_⟩
  refine gz_done ?_
  refine ge_then ?_
  refine gc_fr [(1, .int .i64 (a : Int)), (2, .int .i64 (b : Int)), (3, pg gs), (8, .int .i64 0), (9, .int .i64 0), (18, .bool (decide (f b < f a)))] (by kernel_rfl) ?_
  rcases Bool.eq_false_or_eq_true (decide (f b < f a)) with b2 | b2
  · have d3 : f b < f a := of_decide_eq_true b2
    refine gc_yes (hc := congrArg Value.bool b2) ?_
    refine gc_seq ?_
    refine gc_reg ?_
    refine t 19 (pg gs) ?_
    refine t 20 (pg gs) ?_
    refine tl 21 (.int .i64 s) Y 0 ?_
    refine tq 22 (.int .i64 (IntKind.i64.wrap (s + 1))) (.int .i64 (s + 1)) (wi (by omega)) ?_
    refine t 23 (pg gs) ?_
    refine ts Y 0 (.int .i64 (s + 1)) [.int .i64 (s + 1)] [.int .i64 (s + 1)] ?_
    intro v4 Y2 C
    replace X := X.chg C hne
    replace CH := CH.trans C (fun _ _ x => x)
    clear Y C
    have Y := Y2
    clear Y2
    refine gl_nil ?_
    refine ge_then ?_
    refine gc_seq ?_
    refine gc_reg ?_
    refine t 24 (.int .i64 (b : Int)) ?_
    refine t 25 (.int .i64 (a : Int)) ?_
    refine t 8 (.int .i64 (b : Int)) ?_
    refine t 9 (.int .i64 (a : Int)) ?_
    refine gl_nil ?_
    refine ge_then ?_
    refine gc_ret ?_
    refine ge_tr ?_
    refine ge_ret (.tuple #[.int .i64 (b : Int), .int .i64 (a : Int)]) (rs2 8 9 (by kernel_rfl) (by kernel_rfl) (by kernel_rfl)) ?_
    exact ⟨_, _, _, rfl, .inr ⟨rfl, rfl⟩, Y, by omega, CH⟩
  · have d5 : f a ≤ f b := Int.not_lt.1 (of_decide_eq_false b2)
    refine gc_no (hc := congrArg Value.bool b2) ?_
    refine gc_skip ?_
    refine ge_then ?_
    refine gc_seq ?_
    refine gc_reg ?_
    refine t 26 (.int .i64 (a : Int)) ?_
    refine t 27 (.int .i64 (b : Int)) ?_
    refine t 8 (.int .i64 (a : Int)) ?_
    refine t 9 (.int .i64 (b : Int)) ?_
    refine gl_nil ?_
    refine ge_then ?_
    refine gc_ret ?_
    refine ge_ret (.tuple #[.int .i64 (a : Int), .int .i64 (b : Int)]) (rs2 8 9 (by kernel_rfl) (by kernel_rfl) (by kernel_rfl)) ?_
    exact ⟨_, _, _, rfl, .inl ⟨rfl, rfl⟩, Y, by omega, CH⟩
structure MeE (w : World) (gs a b d : Nat) (s : Int) (m : Nat) (e : Ending) (w' : World) : Prop where
  ex : ∃ (x : Nat) (t : Int), e = .returned (.int .i64 (x : Int)) ∧ (x = a ∨ x = b ∨ x = d) ∧ Blk w' gs [.int .i64 t] 3 ∧ (0 ≤ t ∧ t ≤ s + 3) ∧ Chg (· = gs) w w'
theorem median_any {w : World} {g gs N n c : Nat} {f : Nat → Int} {s : Int} {a b d m : Nat} (X : Blk w g (cs N f) 31) (Y : Blk w gs [.int .i64 s] 3) (hne : ¬ g = gs) (hn : n ≤ N) (hN : n ≤ 1000000000) (hs : 0 ≤ s ∧ s ≤ 900000) (ha : a < n) (hb : b < n) (hd : d < n) : Calls Tryz.prog 126 #[.slice (some ⟨g, 0, none⟩) n c, .int .i64 (a : Int), .int .i64 (b : Int), .int .i64 (d : Int), pg gs] w (MeE w gs a b d s m) := by
  have CH := Chg.of (F := (· = gs)) (Below.refl w.heap.size w)
  refine gc_enter (n := 36) Tryz.func126 rfl (by kernel_rfl) (by kernel_rfl) ?_
  refine gc_seq ?_
  refine gc_reg ?_
  refine t 10 (.int .i64 0) ?_
  refine gl_nil ?_
  refine ge_then ?_
  refine gc_seq ?_
  refine gc_reg ?_
  refine t 12 (.slice (some ⟨g, 0, none⟩) n c) ?_
  refine t 13 (.int .i64 (a : Int)) ?_
  refine t 14 (.int .i64 (b : Int)) ?_
  refine t 15 (pg gs) ?_
  refine tc 16 134 #[.slice (some ⟨g, 0, none⟩) n c, .int .i64 (a : Int), .int .i64 (b : Int), pg gs] (order2_any X Y hne hn hN (by omega) (by omega) (by omega)) ?_
  rintro _ v2 ⟨xo1, yo1, to1, rfl, ho1, Y2, bo1, C⟩
  refine ⟨_, rfl, ?_⟩
  replace X := X.chg C hne
  replace CH := CH.trans C (fun _ _ x => x)
  clear Y C
  have Y := Y2
  clear Y2
  refine t 11 (.tuple #[.int .i64 (xo1 : Int), .int .i64 (yo1 : Int)]) ?_
  refine t 17 (.int .i64 (xo1 : Int)) ?_
  refine t 18 (.int .i64 (yo1 : Int)) ?_
  refine t 1 (.int .i64 (xo1 : Int)) ?_
  refine t 2 (.int .i64 (yo1 : Int)) ?_
  refine gl_nil ?_
  refine ge_then ?_
  refine gc_fr [(0, .slice (some ⟨g, 0, none⟩) n c), (1, .int .i64 (xo1 : Int)), (2, .int .i64 (yo1 : Int)), (3, .int .i64 (d : Int)), (4, pg gs), (10, .int .i64 0)] (by kernel_rfl) ?_
  refine gc_seq ?_
  refine gc_reg ?_
  refine t 20 (.slice (some ⟨g, 0, none⟩) n c) ?_
  refine t 21 (.int .i64 (yo1 : Int)) ?_
  refine t 22 (.int .i64 (d : Int)) ?_
  refine t 23 (pg gs) ?_
  refine tc 24 134 #[.slice (some ⟨g, 0, none⟩) n c, .int .i64 (yo1 : Int), .int .i64 (d : Int), pg gs] (order2_any X Y hne hn hN (by omega) (by omega) (by omega)) ?_
  rintro _ v4 ⟨xo3, yo3, to3, rfl, ho3, Y2, bo3, C⟩
  refine ⟨_, rfl, ?_⟩
  replace X := X.chg C hne
  replace CH := CH.trans C (fun _ _ x => x)
  clear Y C
  have Y := Y2
  clear Y2
  refine t 19 (.tuple #[.int .i64 (xo3 : Int), .int .i64 (yo3 : Int)]) ?_
  refine t 25 (.int .i64 (xo3 : Int)) ?_
  refine t 26 (.int .i64 (yo3 : Int)) ?_
  refine t 2 (.int .i64 (xo3 : Int)) ?_
  refine t 3 (.int .i64 (yo3 : Int)) ?_
  refine gl_nil ?_
  refine ge_then ?_
  refine gc_seq ?_
  refine gc_reg ?_
  refine t 28 (.slice (some ⟨g, 0, none⟩) n c) ?_
  refine t 29 (.int .i64 (xo1 : Int)) ?_
  refine t 30 (.int .i64 (xo3 : Int)) ?_
  refine t 31 (pg gs) ?_
  refine tc 32 134 #[.slice (some ⟨g, 0, none⟩) n c, .int .i64 (xo1 : Int), .int .i64 (xo3 : Int), pg gs] (order2_any X Y hne hn hN (by omega) (by omega) (by omega)) ?_
  rintro _ v6 ⟨xo5, yo5, to5, rfl, ho5, Y2, bo5, C⟩
  refine ⟨_, rfl, ?_⟩
  replace X := X.chg C hne
  replace CH := CH.trans C (fun _ _ x => x)
  clear Y C
  have Y := Y2
  clear Y2
  refine t 27 (.tuple #[.int .i64 (xo5 : Int), .int .i64 (yo5 : Int)]) ?_
  refine t 33 (.int .i64 (xo5 : Int)) ?_
  refine t 34 (.int .i64 (yo5 : Int)) ?_
  refine t 1 (.int .i64 (xo5 : Int)) ?_
  refine t 2 (.int .i64 (yo5 : Int)) ?_
  refine gl_nil ?_
  refine ge_then ?_
  refine gc_fr [(2, .int .i64 (yo5 : Int)), (10, .int .i64 0)] (by kernel_rfl) ?_
  refine gc_seq ?_
  refine gc_reg ?_
  refine t 35 (.int .i64 (yo5 : Int)) ?_
  refine t 10 (.int .i64 (yo5 : Int)) ?_
  refine gl_nil ?_
  refine ge_then ?_
  refine gc_ret ?_
  refine ge_ret (.int .i64 (yo5 : Int)) (rs1 10 (by kernel_rfl) (by kernel_rfl)) ?_
  exact ⟨_, _, rfl, by omega, Y, by omega, CH⟩
structure MaE (w : World) (gs a : Nat) (s : Int) (e : Ending) (w' : World) : Prop where
  ex : ∃ (x : Nat) (t : Int), e = .returned (.int .i64 (x : Int)) ∧ (a - 1 ≤ x ∧ x ≤ a + 1) ∧ Blk w' gs [.int .i64 t] 3 ∧ (0 ≤ t ∧ t ≤ s + 3) ∧ Chg (· = gs) w w'
theorem medAdj_any {w : World} {g gs N n c : Nat} {f : Nat → Int} {s : Int} {a : Nat} (X : Blk w g (cs N f) 31) (Y : Blk w gs [.int .i64 s] 3) (hne : ¬ g = gs) (hn : n ≤ N) (hN : n ≤ 1000000000) (hs : 0 ≤ s ∧ s ≤ 800000) (ha : 1 ≤ a ∧ a + 1 < n) : Calls Tryz.prog 125 #[.slice (some ⟨g, 0, none⟩) n c, .int .i64 (a : Int), pg gs] w (MaE w gs a s) := by
  have CH := Chg.of (F := (· = gs)) (Below.refl w.heap.size w)
  refine gc_enter (n := 15) Tryz.func125 rfl (by kernel_rfl) (by kernel_rfl) ?_
  refine gc_seq ?_
  refine gc_reg ?_
  refine t 6 (.int .i64 0) ?_
  refine gl_nil ?_
  refine ge_then ?_
  refine gc_seq ?_
  refine gc_reg ?_
  refine t 7 (.slice (some ⟨g, 0, none⟩) n c) ?_
  refine t 8 (.int .i64 (a : Int)) ?_
  refine tq 9 (.int .i64 (IntKind.i64.wrap ((a : Int) - 1))) (.int .i64 ((a - 1 : Nat) : Int)) ((wi (by omega)).trans (congrArg (Value.int .i64) (by omega))) ?_
  refine t 10 (.int .i64 (a : Int)) ?_
  refine t 11 (.int .i64 (a : Int)) ?_
  refine tq 12 (.int .i64 (IntKind.i64.wrap ((a : Int) + 1))) (.int .i64 ((a + 1 : Nat) : Int)) ((wi (by omega)).trans (congrArg (Value.int .i64) (by omega))) ?_
  refine t 13 (pg gs) ?_
  refine tc 14 126 #[.slice (some ⟨g, 0, none⟩) n c, .int .i64 ((a - 1 : Nat) : Int), .int .i64 (a : Int), .int .i64 ((a + 1 : Nat) : Int), pg gs] (median_any (m := 0) X Y hne hn hN (by omega) (by omega) (by omega) (by omega)) ?_
  rintro _ v2 ⟨xo1, to1, rfl, ho1, Y2, bo1, C⟩
  refine ⟨_, rfl, ?_⟩
  replace X := X.chg C hne
  replace CH := CH.trans C (fun _ _ x => x)
  clear Y C
  have Y := Y2
  clear Y2
  refine t 6 (.int .i64 (xo1 : Int)) ?_
  refine gl_nil ?_
  refine ge_then ?_
  refine gc_fr [(6, .int .i64 (xo1 : Int))] (by kernel_rfl) ?_
  refine gc_ret ?_
  refine ge_ret (.int .i64 (xo1 : Int)) (rs1 6 (by kernel_rfl) (by kernel_rfl)) ?_
  exact ⟨_, _, rfl, by omega, Y, by omega, CH⟩
end So
end Go.Proofs.YtemkjdanemddpaaGreat

namespace Go.Proofs.YtemkjdanemddpaaGreat
namespace So
open Go.RowKit Go.Lib Pg Gl
set_option maxRecDepth 100000
set_option linter.unusedVariables false
set_option linter.unusedSimpArgs false
set_option maxHeartbeats 4000000
structure CpE (w : World) (a b : Nat) (e : Ending) (w' : World) : Prop where
  ex : ∃ (x : Nat) (t : Int), e = .returned (.tuple #[.int .i64 (x : Int), .int .i64 t]) ∧ (a ≤ x ∧ x < b) ∧ (0 ≤ t ∧ t ≤ 2) ∧ Below w.heap.size w w'
theorem pivot_any {w : World} {g N n c a b : Nat} {f : Nat → Int} (X : Blk w g (cs N f) 31) (hn : n ≤ N) (hN : n ≤ 1000000000) (hab : a + 12 < b) (hb : b ≤ n) : Calls Tryz.prog 101 #[.slice (some ⟨g, 0, none⟩) n c, .int .i64 (a : Int), .int .i64 (b : Int)] w (CpE w a b) := by
  have BB := Below.refl w.heap.size w
  have lX := X.lt
  refine gc_enter (n := 57) Tryz.func101 rfl (by kernel_rfl) (by kernel_rfl) ?_
  refine gc_seq ?_
  refine gc_reg ?_
  refine t 6 (.int .i64 0) ?_
  refine t 7 (.int .i64 0) ?_
  refine gl_nil ?_
  refine ge_then ?_
  refine gc_seq ?_
  refine gc_reg ?_
  refine t 13 (.int .i64 (b : Int)) ?_
  refine t 14 (.int .i64 (a : Int)) ?_
  refine tq 15 (.int .i64 (IntKind.i64.wrap ((b : Int) - (a : Int)))) (.int .i64 ((b - a : Nat) : Int)) ((wi (by omega)).trans (congrArg (Value.int .i64) (by omega))) ?_
  refine t 8 (.int .i64 ((b - a : Nat) : Int)) ?_
  refine gl_nil ?_
  refine ge_then ?_
  refine gc_seq ?_
  refine gc_reg ?_
  refine ta 9 [.int .i64 0] 3 (pg) ?_
  intro v1 gs Y hgs B
  replace X := X.keep B
  have hne : ¬ g = gs := by omega
  replace BB := joinB BB B
  clear B
  refine gl_nil ?_
  refine ge_then ?_
  refine gc_seq ?_
  refine gc_reg ?_
  refine t 16 (.int .i64 (a : Int)) ?_
  refine t 17 (.int .i64 ((b - a : Nat) : Int)) ?_
  refine tr 18 (.int .i64 (((b - a) / 4 : Nat) : Int)) (congr_v (congrArg (Value.int .i64) (show ((b - a : Nat) : Int) / 4 = (((b - a) / 4 : Nat) : Int) by omega)) (run_quoi ((b - a : Nat) : Int) 4 ⟨by omega, by omega⟩ ⟨by decide, by decide⟩)) ?_
  refine tq 19 (.int .i64 (IntKind.i64.wrap ((((b - a) / 4 : Nat) : Int) * 1))) (.int .i64 ((((b - a) / 4) * 1 : Nat) : Int)) ((wi (by omega)).trans (congrArg (Value.int .i64) (by omega))) ?_
  refine tq 20 (.int .i64 (IntKind.i64.wrap ((a : Int) + ((((b - a) / 4) * 1 : Nat) : Int)))) (.int .i64 ((a + (((b - a) / 4) * 1) : Nat) : Int)) ((wi (by omega)).trans (congrArg (Value.int .i64) (by omega))) ?_
  refine t 10 (.int .i64 ((a + (((b - a) / 4) * 1) : Nat) : Int)) ?_
  refine gl_nil ?_
  refine ge_then ?_
  refine gc_fr [(0, .slice (some ⟨g, 0, none⟩) n c), (1, .int .i64 (a : Int)), (6, .int .i64 0), (7, .int .i64 0), (8, .int .i64 ((b - a : Nat) : Int)), (9, pg gs), (10, .int .i64 ((a + (((b - a) / 4) * 1) : Nat) : Int))] (by kernel_rfl) ?_
  refine gc_seq ?_
  refine gc_reg ?_
  refine t 21 (.int .i64 (a : Int)) ?_
  refine t 22 (.int .i64 ((b - a : Nat) : Int)) ?_
  refine tr 23 (.int .i64 (((b - a) / 4 : Nat) : Int)) (congr_v (congrArg (Value.int .i64) (show ((b - a : Nat) : Int) / 4 = (((b - a) / 4 : Nat) : Int) by omega)) (run_quoi ((b - a : Nat) : Int) 4 ⟨by omega, by omega⟩ ⟨by decide, by decide⟩)) ?_
  refine tq 24 (.int .i64 (IntKind.i64.wrap ((((b - a) / 4 : Nat) : Int) * 2))) (.int .i64 ((((b - a) / 4) * 2 : Nat) : Int)) ((wi (by omega)).trans (congrArg (Value.int .i64) (by omega))) ?_
  refine tq 25 (.int .i64 (IntKind.i64.wrap ((a : Int) + ((((b - a) / 4) * 2 : Nat) : Int)))) (.int .i64 ((a + (((b - a) / 4) * 2) : Nat) : Int)) ((wi (by omega)).trans (congrArg (Value.int .i64) (by omega))) ?_
  refine t 11 (.int .i64 ((a + (((b - a) / 4) * 2) : Nat) : Int)) ?_
  refine gl_nil ?_
  refine ge_then ?_
  refine gc_seq ?_
  refine gc_reg ?_
  refine t 26 (.int .i64 (a : Int)) ?_
  refine t 27 (.int .i64 ((b - a : Nat) : Int)) ?_
  refine tr 28 (.int .i64 (((b - a) / 4 : Nat) : Int)) (congr_v (congrArg (Value.int .i64) (show ((b - a : Nat) : Int) / 4 = (((b - a) / 4 : Nat) : Int) by omega)) (run_quoi ((b - a : Nat) : Int) 4 ⟨by omega, by omega⟩ ⟨by decide, by decide⟩)) ?_
  refine tq 29 (.int .i64 (IntKind.i64.wrap ((((b - a) / 4 : Nat) : Int) * 3))) (.int .i64 ((((b - a) / 4) * 3 : Nat) : Int)) ((wi (by omega)).trans (congrArg (Value.int .i64) (by omega))) ?_
  refine tq 30 (.int .i64 (IntKind.i64.wrap ((a : Int) + ((((b - a) / 4) * 3 : Nat) : Int)))) (.int .i64 ((a + (((b - a) / 4) * 3) : Nat) : Int)) ((wi (by omega)).trans (congrArg (Value.int .i64) (by omega))) ?_
  refine t 12 (.int .i64 ((a + (((b - a) / 4) * 3) : Nat) : Int)) ?_
  refine gl_nil ?_
  refine ge_then ?_
  refine gc_fr [(0, .slice (some ⟨g, 0, none⟩) n c), (6, .int .i64 0), (7, .int .i64 0), (8, .int .i64 ((b - a : Nat) : Int)), (9, pg gs), (10, .int .i64 ((a + (((b - a) / 4) * 1) : Nat) : Int)), (11, .int .i64 ((a + (((b - a) / 4) * 2) : Nat) : Int)), (12, .int .i64 ((a + (((b - a) / 4) * 3) : Nat) : Int))] (by kernel_rfl) ?_
  refine gc_seq ?_
  refine gc_seq ?_
  refine gc_reg ?_
  refine t 31 (.int .i64 ((b - a : Nat) : Int)) ?_
  have t2 : (8 : Int) ≤ ((b - a : Nat) : Int) := by omega
  refine tq 32 (.bool (decide ((8 : Int) ≤ ((b - a : Nat) : Int)))) (.bool true) (congrArg Value.bool (decide_eq_true t2)) ?_
  refine gl_nil ?_
  refine ge_then ?_
  refine gc_yes ?_
  refine gc_seq ?_
  refine gc_seq ?_
  refine gc_reg ?_
  refine t 33 (.int .i64 ((b - a : Nat) : Int)) ?_
  by_cases c3 : (50 : Int) ≤ ((b - a : Nat) : Int)
  · refine tq 34 (.bool (decide ((50 : Int) ≤ ((b - a : Nat) : Int)))) (.bool true) (congrArg Value.bool (decide_eq_true c3)) ?_
    refine gl_nil ?_
    refine ge_then ?_
    refine gc_yes ?_
    refine gc_seq ?_
    refine gc_reg ?_
    refine t 35 (.slice (some ⟨g, 0, none⟩) n c) ?_
    refine t 36 (.int .i64 ((a + (((b - a) / 4) * 1) : Nat) : Int)) ?_
    refine tc 37 125 #[.slice (some ⟨g, 0, none⟩) n c, .int .i64 ((a + (((b - a) / 4) * 1) : Nat) : Int), pg gs] (medAdj_any X Y hne hn hN (by omega) (by omega)) ?_
    rintro _ v5 ⟨xo4, to4, rfl, ho4, Y2, bo4, C⟩
    refine ⟨_, rfl, ?_⟩
    replace X := X.chg C hne
    replace BB := belowC BB C hgs
    clear Y C
    have Y := Y2
    clear Y2
    refine t 10 (.int .i64 (xo4 : Int)) ?_
    refine gl_nil ?_
    refine ge_then ?_
    refine gc_seq ?_
    refine gc_reg ?_
    refine t 38 (.slice (some ⟨g, 0, none⟩) n c) ?_
    refine t 39 (.int .i64 ((a + (((b - a) / 4) * 2) : Nat) : Int)) ?_
    refine tc 40 125 #[.slice (some ⟨g, 0, none⟩) n c, .int .i64 ((a + (((b - a) / 4) * 2) : Nat) : Int), pg gs] (medAdj_any X Y hne hn hN (by omega) (by omega)) ?_
    rintro _ v7 ⟨xo6, to6, rfl, ho6, Y2, bo6, C⟩
    refine ⟨_, rfl, ?_⟩
    replace X := X.chg C hne
    replace BB := belowC BB C hgs
    clear Y C
    have Y := Y2
    clear Y2
    refine t 11 (.int .i64 (xo6 : Int)) ?_
    refine gl_nil ?_
    refine ge_then ?_
    refine gc_fr [(0, .slice (some ⟨g, 0, none⟩) n c), (6, .int .i64 0), (7, .int .i64 0), (9, pg gs), (10, .int .i64 (xo4 : Int)), (11, .int .i64 (xo6 : Int)), (12, .int .i64 ((a + (((b - a) / 4) * 3) : Nat) : Int))] (by kernel_rfl) ?_
    refine gc_reg ?_
    refine t 41 (.slice (some ⟨g, 0, none⟩) n c) ?_
    refine t 42 (.int .i64 ((a + (((b - a) / 4) * 3) : Nat) : Int)) ?_
    refine tc 43 125 #[.slice (some ⟨g, 0, none⟩) n c, .int .i64 ((a + (((b - a) / 4) * 3) : Nat) : Int), pg gs] (medAdj_any X Y hne hn hN (by omega) (by omega)) ?_
    rintro _ v9 ⟨xo8, to8, rfl, ho8, Y2, bo8, C⟩
    refine ⟨_, rfl, ?_⟩
    replace X := X.chg C hne
    replace BB := belowC BB C hgs
    clear Y C
    have Y := Y2
    clear Y2
    refine t 12 (.int .i64 (xo8 : Int)) ?_
    refine gl_nil ?_
    refine ge_then ?_
    refine gc_reg ?_
    refine t 44 (.slice (some ⟨g, 0, none⟩) n c) ?_
    refine t 45 (.int .i64 (xo4 : Int)) ?_
    refine t 46 (.int .i64 (xo6 : Int)) ?_
    refine t 47 (.int .i64 (xo8 : Int)) ?_
    refine tc 48 126 #[.slice (some ⟨g, 0, none⟩) n c, .int .i64 (xo4 : Int), .int .i64 (xo6 : Int), .int .i64 (xo8 : Int), pg gs] (median_any (m := 0) X Y hne hn hN (by omega) (by omega) (by omega) (by omega)) ?_
    rintro _ v11 ⟨xo10, to10, rfl, ho10, Y2, bo10, C⟩
    refine ⟨_, rfl, ?_⟩
    replace X := X.chg C hne
    replace BB := belowC BB C hgs
    clear Y C
    have Y := Y2
    clear Y2
    refine t 11 (.int .i64 (xo10 : Int)) ?_
    refine gl_nil ?_
    refine ge_then ?_
    refine gc_seq ?_
    refine gc_reg ?_
    refine tl 49 (.int .i64 to10) Y 0 ?_
    refine gl_nil ?_
    refine ge_then ?_
    refine gc_block ?_
    refine gc_seq ?_
    refine gc_reg ?_
    by_cases c12 : (to10 : Int) = 0
    · refine tq 52 (.bool ((to10 : Int) == 0)) (.bool true) (congrArg Value.bool (beq_iff_eq.2 c12)) ?_
      refine t 51 (.bool true) ?_
      refine gl_nil ?_
      refine ge_then ?_
      refine gc_fr [(6, .int .i64 0), (7, .int .i64 0), (11, .int .i64 (xo10 : Int)), (49, .int .i64 to10), (51, .bool true)] (by kernel_rfl) ?_
      refine gc_yes ?_
      refine gc_seq ?_
      refine gc_reg ?_
      refine t 53 (.int .i64 (xo10 : Int)) ?_
      refine t 6 (.int .i64 (xo10 : Int)) ?_
      refine t 7 (.int .i64 1) ?_
      refine gl_nil ?_
      refine ge_then ?_
      refine gc_ret ?_
      refine ge_br ?_
      refine ge_ret (.tuple #[.int .i64 (xo10 : Int), .int .i64 1]) (rs2 6 7 (by kernel_rfl) (by kernel_rfl) (by kernel_rfl)) ?_
      exact ⟨_, _, rfl, by omega, by omega, BB⟩
    · refine tq 52 (.bool ((to10 : Int) == 0)) (.bool false) (congrArg Value.bool (beq_eq_false_iff_ne.2 c12)) ?_
      refine t 51 (.bool false) ?_
      refine gl_nil ?_
      refine ge_then ?_
      refine gc_fr [(6, .int .i64 0), (7, .int .i64 0), (11, .int .i64 (xo10 : Int)), (49, .int .i64 to10), (51, .bool false)] (by kernel_rfl) ?_
      refine gc_no ?_
      refine gc_seq ?_
      refine gc_reg ?_
      by_cases c13 : (to10 : Int) = 12
      · refine tq 55 (.bool ((to10 : Int) == 12)) (.bool true) (congrArg Value.bool (beq_iff_eq.2 c13)) ?_
        refine t 54 (.bool true) ?_
        refine gl_nil ?_
        refine ge_then ?_
        refine gc_yes ?_
        refine gc_seq ?_
        refine gc_reg ?_
        refine t 56 (.int .i64 (xo10 : Int)) ?_
        refine t 6 (.int .i64 (xo10 : Int)) ?_
        refine t 7 (.int .i64 2) ?_
        refine gl_nil ?_
        refine ge_then ?_
        refine gc_ret ?_
        refine ge_br ?_
        refine ge_ret (.tuple #[.int .i64 (xo10 : Int), .int .i64 2]) (rs2 6 7 (by kernel_rfl) (by kernel_rfl) (by kernel_rfl)) ?_
        exact ⟨_, _, rfl, by omega, by omega, BB⟩
      · refine tq 55 (.bool ((to10 : Int) == 12)) (.bool false) (congrArg Value.bool (beq_eq_false_iff_ne.2 c13)) ?_
        refine t 54 (.bool false) ?_
        refine gl_nil ?_
        refine ge_then ?_
        refine gc_no ?_
        refine gc_seq ?_
        refine gc_reg ?_
        refine t 50 (.int .i64 (xo10 : Int)) ?_
        refine t 6 (.int .i64 (xo10 : Int)) ?_
        refine t 7 (.int .i64 0) ?_
        refine gl_nil ?_
        refine ge_then ?_
        refine gc_ret ?_
        refine ge_br ?_
        refine ge_ret (.tuple #[.int .i64 (xo10 : Int), .int .i64 0]) (rs2 6 7 (by kernel_rfl) (by kernel_rfl) (by kernel_rfl)) ?_
        exact ⟨_, _, rfl, by omega, by omega, BB⟩
  · refine tq 34 (.bool (decide ((50 : Int) ≤ ((b - a : Nat) : Int)))) (.bool false) (congrArg Value.bool (decide_eq_false c3)) ?_
    refine gl_nil ?_
    refine ge_then ?_
    refine gc_no ?_
    refine gc_skip ?_
    refine ge_then ?_
    refine gc_reg ?_
    refine t 44 (.slice (some ⟨g, 0, none⟩) n c) ?_
    refine t 45 (.int .i64 ((a + (((b - a) / 4) * 1) : Nat) : Int)) ?_
    refine t 46 (.int .i64 ((a + (((b - a) / 4) * 2) : Nat) : Int)) ?_
    refine t 47 (.int .i64 ((a + (((b - a) / 4) * 3) : Nat) : Int)) ?_
    refine tc 48 126 #[.slice (some ⟨g, 0, none⟩) n c, .int .i64 ((a + (((b - a) / 4) * 1) : Nat) : Int), .int .i64 ((a + (((b - a) / 4) * 2) : Nat) : Int), .int .i64 ((a + (((b - a) / 4) * 3) : Nat) : Int), pg gs] (median_any (m := 0) X Y hne hn hN (by omega) (by omega) (by omega) (by omega)) ?_
    rintro _ v15 ⟨xo14, to14, rfl, ho14, Y2, bo14, C⟩
    refine ⟨_, rfl, ?_⟩
    replace X := X.chg C hne
    replace BB := belowC BB C hgs
    clear Y C
    have Y := Y2
    clear Y2
    refine t 11 (.int .i64 (xo14 : Int)) ?_
    refine gl_nil ?_
    refine ge_then ?_
    refine gc_seq ?_
    refine gc_reg ?_
    refine tl 49 (.int .i64 to14) Y 0 ?_
    refine gl_nil ?_
    refine ge_then ?_
    refine gc_block ?_
    refine gc_seq ?_
    refine gc_reg ?_
    by_cases c16 : (to14 : Int) = 0
    · refine tq 52 (.bool ((to14 : Int) == 0)) (.bool true) (congrArg Value.bool (beq_iff_eq.2 c16)) ?_
      refine t 51 (.bool true) ?_
      refine gl_nil ?_
      refine ge_then ?_
      refine gc_fr [(6, .int .i64 0), (7, .int .i64 0), (11, .int .i64 (xo14 : Int)), (49, .int .i64 to14), (51, .bool true)] (by kernel_rfl) ?_
      refine gc_yes ?_
      refine gc_seq ?_
      refine gc_reg ?_
      refine t 53 (.int .i64 (xo14 : Int)) ?_
      refine t 6 (.int .i64 (xo14 : Int)) ?_
      refine t 7 (.int .i64 1) ?_
      refine gl_nil ?_
      refine ge_then ?_
      refine gc_ret ?_
      refine ge_br ?_
      refine ge_ret (.tuple #[.int .i64 (xo14 : Int), .int .i64 1]) (rs2 6 7 (by kernel_rfl) (by kernel_rfl) (by kernel_rfl)) ?_
      exact ⟨_, _, rfl, by omega, by omega, BB⟩
    · refine tq 52 (.bool ((to14 : Int) == 0)) (.bool false) (congrArg Value.bool (beq_eq_false_iff_ne.2 c16)) ?_
      refine t 51 (.bool false) ?_
      refine gl_nil ?_
      refine ge_then ?_
      refine gc_fr [(6, .int .i64 0), (7, .int .i64 0), (11, .int .i64 (xo14 : Int)), (49, .int .i64 to14), (51, .bool false)] (by kernel_rfl) ?_
      refine gc_no ?_
      refine gc_seq ?_
      refine gc_reg ?_
      by_cases c17 : (to14 : Int) = 12
      · refine tq 55 (.bool ((to14 : Int) == 12)) (.bool true) (congrArg Value.bool (beq_iff_eq.2 c17)) ?_
        refine t 54 (.bool true) ?_
        refine gl_nil ?_
        refine ge_then ?_
        refine gc_yes ?_
        refine gc_seq ?_
        refine gc_reg ?_
        refine t 56 (.int .i64 (xo14 : Int)) ?_
        refine t 6 (.int .i64 (xo14 : Int)) ?_
        refine t 7 (.int .i64 2) ?_
        refine gl_nil ?_
        refine ge_then ?_
        refine gc_ret ?_
        refine ge_br ?_
        refine ge_ret (.tuple #[.int .i64 (xo14 : Int), .int .i64 2]) (rs2 6 7 (by kernel_rfl) (by kernel_rfl) (by kernel_rfl)) ?_
        exact ⟨_, _, rfl, by omega, by omega, BB⟩
      · refine tq 55 (.bool ((to14 : Int) == 12)) (.bool false) (congrArg Value.bool (beq_eq_false_iff_ne.2 c17)) ?_
        refine t 54 (.bool false) ?_
        refine gl_nil ?_
        refine ge_then ?_
        refine gc_no ?_
        refine gc_seq ?_
        refine gc_reg ?_
        refine t 50 (.int .i64 (xo14 : Int)) ?_
        refine t 6 (.int .i64 (xo14 : Int)) ?_
        refine t 7 (.int .i64 0) ?_
        refine gl_nil ?_
        refine ge_then ?_
        refine gc_ret ?_
        refine ge_br ?_
        refine ge_ret (.tuple #[.int .i64 (xo14 : Int), .int .i64 0]) (rs2 6 7 (by kernel_rfl) (by kernel_rfl) (by kernel_rfl)) ?_
        exact ⟨_, _, rfl, by omega, by omega, BB⟩
end So
end Go.Proofs.YtemkjdanemddpaaGreat
