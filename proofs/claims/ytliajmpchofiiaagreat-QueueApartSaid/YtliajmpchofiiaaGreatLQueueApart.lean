/- gleanlaw12.QueueApart. -/
import Derived.Test.YtliajmpchofiiaaGreatJax
namespace Go.Proofs.YtliajmpchofiiaaGreat
namespace Qu
open Go.RowKit Go.Lib Pg Lim Gl Kv Bk Pw
attribute [local go_sem] Oper.semAt_some
set_option maxRecDepth 100000
set_option linter.unusedVariables false
set_option linter.unusedSimpArgs false
set_option maxHeartbeats 2000000
theorem queueApart_walk {w : World} {ao a7 : Option Addr} {n c pb po_ n7 c7 z7_ : Nat} {st : Nat → Sq} {xa y x7 : Int} (SS : StpQ w ao n pb po_ st) (hy : Uq y) (NS : Nk w (fun b => w.heap.size ≤ b) z7_ a7 n7 c7 x7) (hx7 : 0 ≤ x7) : Calls Tryz.prog 6 #[.slice ao n c, .int .i64 xa, .int .u64 y, .agg #[.slice a7 n7 c7]] w fun e w' => e = .returned (.bool true) ∧ Below w.heap.size w w' := by
  have BB := Below.refl w.heap.size w
  have hfew := SS.few
  refine gc_enter (n := 161) Tryz.func6 rfl (by kernel_rfl) (by kernel_rfl) ?_
  refine gc_seq ?_
  refine gc_reg ?_
  refine ta 7 [.slice a7 n7 c7] 49 (pg) ?_
  intro v1 g2 Xg2 hg2 B
  have yg2 := Nat.le_trans BB.size hg2
  replace BB := joinB BB B
  clear B
  refine t 8 (.bool false) ?_
  refine gl_nil ?_
  refine ge_then ?_
  refine gc_seq ?_
  refine gc_seq ?_
  refine gc_reg ?_
  refine tc 25 11 #[] (known12) ?_
  rintro _ v3 ⟨rfl, B⟩
  refine ⟨_, rfl, ?_⟩
  replace BB := joinB BB B
  replace Xg2 := Xg2.keep B
  clear B
  refine t 26 (.bool false) ?_
  refine gl_nil ?_
  refine ge_then ?_
  refine gc_no ?_
  refine gc_skip ?_
  refine ge_then ?_
  refine gc_seq ?_
  refine gc_seq ?_
  refine gc_reg ?_
  refine t 27 (.slice ao n c) ?_
  refine tc 28 12 #[.slice ao n c] (light_any (SS.keep BB)) ?_
  rintro _ v4 ⟨lb, rfl, hlb, B⟩
  refine ⟨_, rfl, ?_⟩
  replace BB := joinB BB B
  replace Xg2 := Xg2.keep B
  clear B
  cases lb
  · skip
    refine t 29 (.bool true) ?_
    refine t 30 (.bool true) ?_
    refine tn 31 ?_
    refine tn 32 ?_
    refine tn 33 ?_
    refine t 34 (.bool true) ?_
    refine t 35 (.bool true) ?_
    refine tn 36 ?_
    refine tn 37 ?_
    refine tn 38 ?_
    refine tn 39 ?_
    refine t 40 (.bool true) ?_
    refine gl_nil ?_
    refine ge_then ?_
    refine gc_fr [(0, .slice ao n c), (1, .int .i64 xa), (2, .int .u64 y), (7, pg g2), (8, .bool false), (40, .bool true)] (by kernel_rfl) ?_
    refine gc_yes ?_
    refine gc_seq ?_
    refine gc_reg ?_
    refine t 8 (.bool true) ?_
    refine gl_nil ?_
    refine ge_then ?_
    refine gc_ret ?_
    refine ge_tr ?_
    refine ge_ret (.bool true) (rs1 8 (by kernel_rfl) (by kernel_rfl)) ?_
    exact ⟨rfl, BB⟩
  · obtain ⟨h150, h30⟩ := hlb rfl
    refine t 29 (.bool false) ?_
    refine t 30 (.bool false) ?_
    refine t 31 (.slice ao n c) ?_
    refine t 32 (.int .i64 ((n : Nat) : Int)) ?_
    by_cases c5 : ((n : Nat) : Int) = 0
    · refine tq 33 (.bool (((n : Nat) : Int) == 0)) (.bool true) (congrArg Value.bool (beq_iff_eq.2 c5)) ?_
      refine t 34 (.bool true) ?_
      refine t 35 (.bool true) ?_
      refine tn 36 ?_
      refine tn 37 ?_
      refine tn 38 ?_
      refine tn 39 ?_
      refine t 40 (.bool true) ?_
      refine gl_nil ?_
      refine ge_then ?_
      refine gc_fr [(0, .slice ao n c), (1, .int .i64 xa), (2, .int .u64 y), (7, pg g2), (8, .bool false), (40, .bool true)] (by kernel_rfl) ?_
      refine gc_yes ?_
      refine gc_seq ?_
      refine gc_reg ?_
      refine t 8 (.bool true) ?_
      refine gl_nil ?_
      refine ge_then ?_
      refine gc_ret ?_
      refine ge_tr ?_
      refine ge_ret (.bool true) (rs1 8 (by kernel_rfl) (by kernel_rfl)) ?_
      exact ⟨rfl, BB⟩
    · refine tq 33 (.bool (((n : Nat) : Int) == 0)) (.bool false) (congrArg Value.bool (beq_eq_false_iff_ne.2 c5)) ?_
      refine t 34 (.bool false) ?_
      refine t 35 (.bool false) ?_
      refine t 36 (pg g2) ?_
      refine tl 37 (.slice a7 n7 c7) Xg2 0 ?_
      refine t 38 (.int .i64 ((n7 : Nat) : Int)) ?_
      by_cases cs7 : (30 : Int) < ((n7 : Nat) : Int)
      · refine tq 39 (.bool (decide ((30 : Int) < ((n7 : Nat) : Int)))) (.bool true) (congrArg Value.bool (decide_eq_true cs7)) ?_
        refine t 40 (.bool true) ?_
        refine gl_nil ?_
        refine ge_then ?_
        refine gc_fr [(0, .slice ao n c), (1, .int .i64 xa), (2, .int .u64 y), (7, pg g2), (8, .bool false), (40, .bool true)] (by kernel_rfl) ?_
        refine gc_yes ?_
        refine gc_seq ?_
        refine gc_reg ?_
        refine t 8 (.bool true) ?_
        refine gl_nil ?_
        refine ge_then ?_
        refine gc_ret ?_
        refine ge_tr ?_
        refine ge_ret (.bool true) (rs1 8 (by kernel_rfl) (by kernel_rfl)) ?_
        exact ⟨rfl, BB⟩
      · have h7 : n7 ≤ 30 := by omega
        refine tq 39 (.bool (decide ((30 : Int) < ((n7 : Nat) : Int)))) (.bool false) (congrArg Value.bool (decide_eq_false cs7)) ?_
        refine t 40 (.bool false) ?_
        refine gl_nil ?_
        refine ge_then ?_
        refine gc_fr [(0, .slice ao n c), (1, .int .i64 xa), (2, .int .u64 y), (7, pg g2), (8, .bool false), (40, .bool false)] (by kernel_rfl) ?_
        refine gc_no ?_
        refine gc_skip ?_
        refine ge_then ?_
        refine gc_seq ?_
        refine gc_reg ?_
        have l7x := Xg2.lt
        refine tc 41 14 #[.int .u64 1] (begun_any) ?_
        rintro _ v6 ⟨Bz, g0, K0, rfl, S0, hwB0, hK0, B0⟩
        refine ⟨_, rfl, ?_⟩
        have hwB := Nat.le_trans BB.size hwB0
        replace BB := joinB BB B0
        replace Xg2 := Xg2.keep B0
        clear B0
        have A := S0.at
        clear S0
        refine t 9 (pg g0) ?_
        refine gl_nil ?_
        refine ge_then ?_
        refine gc_seq ?_
        refine gc_seq ?_
        refine gc_reg ?_
        refine t 10 (.int .i64 0) ?_
        refine gl_nil ?_
        refine ge_then ?_
        refine gc_block ?_
        have z7 := BB.size
        have n7x : ¬ K0 g2 := fun hb => by have := hK0 _ hb; omega
        refine gc_loop (fun s => n - s) (fun (s : Nat) => [(0, .slice ao n c), (1, .int .i64 xa), (2, .int .u64 y), (7, pg g2), (9, pg g0), (10, .int .i64 (s : Int))]) (fun s w' => s ≤ n ∧ Below w.heap.size w w' ∧ ∃ K E nn NN, Sx Bz w' K g0 E [] nn NN ∧ nn ≤ 1 + s * 20 ∧ NN ≤ 2 + s * 20 ∧ Qs E (1 + (s : Int)) (qes 1 st s) ∧ Blk w' g2 [.slice a7 n7 c7] 49 ∧ ¬ K g2) (0 : Nat) ⟨Nat.zero_le _, BB, _, bgE 1, 1, 2, A.sx, by omega, by omega, bg_qs0 (by decide), Xg2, n7x⟩ (by kernel_rfl) ?_
        clear BB
        clear Xg2
        clear A
        rintro i v7 ⟨hi, BB, K, E, nn, NN, S, hnn, hNN, Q, Xg2, nXg2⟩
        have A := S.at
        clear S
        refine gc_seq ?_
        refine gc_seq ?_
        refine gc_reg ?_
        refine t 42 (.int .i64 (i : Int)) ?_
        refine t 43 (.slice ao n c) ?_
        refine t 44 (.int .i64 ((n : Nat) : Int)) ?_
        by_cases ci : (i : Int) < ((n : Nat) : Int)
        · have hk_i : i < n := by omega
          have rr := SS.rng i hk_i
          refine tq 45 (.bool (decide ((i : Int) < ((n : Nat) : Int)))) (.bool true) (congrArg Value.bool (decide_eq_true ci)) ?_
          refine gl_nil ?_
          refine ge_then ?_
          refine gc_yes ?_
          refine gc_skip ?_
          refine ge_then ?_
          refine gc_seq ?_
          refine gc_block ?_
          refine gc_seq ?_
          refine gc_reg ?_
          refine t 48 (.slice ao n c) ?_
          refine t 49 (.int .i64 (i : Int)) ?_
          refine tr 50 (pq pb (po_ + i * 16)) (run_ixa 16 pb po_ n c i hk_i SS.ptr) ?_
          refine t 51 (pq pb (po_ + i * 16)) ?_
          refine tr 52 (.int .i64 (st i).w) (run_lI SS hk_i BB) ?_
          refine tr 53 (.int .i64 (Int.tmod ((st i).w) 2)) (run_rem2) ?_
          by_cases c8 : (Int.tmod ((st i).w) 2 : Int) = 0
          · refine tq 54 (.bool ((Int.tmod ((st i).w) 2 : Int) == 0)) (.bool true) (congrArg Value.bool (beq_iff_eq.2 c8)) ?_
            refine gl_nil ?_
            refine ge_then ?_
            refine gc_yes ?_
            refine gc_reg ?_
            refine t 55 (pg g0) ?_
            refine t 56 (.slice ao n c) ?_
            refine t 57 (.int .i64 (i : Int)) ?_
            refine tr 58 (pq pb (po_ + i * 16)) (run_ixa 16 pb po_ n c i hk_i SS.ptr) ?_
            refine t 59 (pq pb (po_ + i * 16 + 3)) ?_
            refine tr 60 (.agg #[.int .u64 (st i).u0, .int .u64 (st i).u1, .int .u64 (st i).u2, .int .u64 (st i).u3, .int .u64 (st i).u4, .int .u64 (st i).u5]) (run_lU SS hk_i BB) ?_
            refine tc 61 18 #[pg g0, .agg #[.int .u64 (st i).u0, .int .u64 (st i).u1, .int .u64 (st i).u2, .int .u64 (st i).u3, .int .u64 (st i).u4, .int .u64 (st i).u5]] (unbond_any A.sx rr.u0 rr.u1 rr.u3 (by omega) (by omega)) ?_
            rintro _ v10 ⟨rfl, K9, S, hK, hC⟩
            refine ⟨_, rfl, ?_⟩
            replace BB := belowO BB hC (fun b hb => Nat.le_trans hwB (A.sx.kb b hb))
            have mXg2 := not_op Xg2 nXg2 hK
            replace Xg2 := Xg2.chg hC nXg2
            replace nXg2 := mXg2
            clear mXg2
            replace A := A.op S hK hC
            clear S hK hC
            refine gl_nil ?_
            refine ge_bn ?_
            refine ge_then ?_
            refine gc_fr [(0, .slice ao n c), (1, .int .i64 xa), (2, .int .u64 y), (7, pg g2), (9, pg g0), (10, .int .i64 (i : Int)), (42, .int .i64 (i : Int)), (43, .slice ao n c), (44, .int .i64 ((n : Nat) : Int)), (45, .bool true), (48, .slice ao n c), (49, .int .i64 (i : Int)), (50, pq pb (po_ + i * 16)), (51, pq pb (po_ + i * 16)), (52, .int .i64 (st i).w), (53, .int .i64 (Int.tmod ((st i).w) 2)), (54, .bool true), (55, pg g0), (56, .slice ao n c), (57, .int .i64 (i : Int)), (58, pq pb (po_ + i * 16)), (59, pq pb (po_ + i * 16 + 3)), (60, .agg #[.int .u64 (st i).u0, .int .u64 (st i).u1, .int .u64 (st i).u2, .int .u64 (st i).u3, .int .u64 (st i).u4, .int .u64 (st i).u5])] (by kernel_rfl) ?_
            refine gc_reg ?_
            refine t 46 (.int .i64 (i : Int)) ?_
            refine tq 47 (.int .i64 (IntKind.i64.wrap ((i : Int) + 1))) (.int .i64 ((i : Int) + 1)) (wi (by omega)) ?_
            refine t 10 (.int .i64 ((i : Int) + 1)) ?_
            refine gl_nil ?_
            exact ge_round (i + 1) (by show n - (i + 1) < n - i; omega) ⟨hk_i, BB, _, _, _, _, A.sx, by omega, by omega, Q.stepU c8 (by omega) (by omega) rr, Xg2, nXg2⟩ (by kernel_rfl)
          · refine tq 54 (.bool ((Int.tmod ((st i).w) 2 : Int) == 0)) (.bool false) (congrArg Value.bool (beq_eq_false_iff_ne.2 c8)) ?_
            refine gl_nil ?_
            refine ge_then ?_
            refine gc_no ?_
            refine gc_reg ?_
            refine t 62 (pg g0) ?_
            refine t 63 (.slice ao n c) ?_
            refine t 64 (.int .i64 (i : Int)) ?_
            refine tr 65 (pq pb (po_ + i * 16)) (run_ixa 16 pb po_ n c i hk_i SS.ptr) ?_
            refine t 66 (pq pb (po_ + i * 16 + 9)) ?_
            refine tr 67 (.agg #[.int .u64 (st i).m0, .int .u64 (st i).m1, .int .u64 (st i).m2, .int .u64 (st i).m3, .int .u64 (st i).m4, .int .u64 (st i).m5, .slice (Sq.a (st i)) (Sq.l (st i)) (Sq.c (st i))]) (run_lM SS hk_i BB) ?_
            refine tc 68 20 #[pg g0, .agg #[.int .u64 (st i).m0, .int .u64 (st i).m1, .int .u64 (st i).m2, .int .u64 (st i).m3, .int .u64 (st i).m4, .int .u64 (st i).m5, .slice (Sq.a (st i)) (Sq.l (st i)) (Sq.c (st i))]] (move_any A.sx rr.m0 rr.m1 rr.m4 (SS.nk hk_i BB (fun b hb => Nat.le_trans hwB (A.sx.kb b hb))) (Nat.le_trans (h30 i hk_i) (by decide)) (by omega) (by omega)) ?_
            rintro _ v12 ⟨rfl, K11, S, hK, hC⟩
            refine ⟨_, rfl, ?_⟩
            replace BB := belowO BB hC (fun b hb => Nat.le_trans hwB (A.sx.kb b hb))
            have mXg2 := not_op Xg2 nXg2 hK
            replace Xg2 := Xg2.chg hC nXg2
            replace nXg2 := mXg2
            clear mXg2
            replace A := A.op S hK hC
            clear S hK hC
            refine gl_nil ?_
            refine ge_bn ?_
            refine ge_then ?_
            refine gc_fr [(0, .slice ao n c), (1, .int .i64 xa), (2, .int .u64 y), (7, pg g2), (9, pg g0), (10, .int .i64 (i : Int)), (42, .int .i64 (i : Int)), (43, .slice ao n c), (44, .int .i64 ((n : Nat) : Int)), (45, .bool true), (48, .slice ao n c), (49, .int .i64 (i : Int)), (50, pq pb (po_ + i * 16)), (51, pq pb (po_ + i * 16)), (52, .int .i64 (st i).w), (53, .int .i64 (Int.tmod ((st i).w) 2)), (54, .bool false), (62, pg g0), (63, .slice ao n c), (64, .int .i64 (i : Int)), (65, pq pb (po_ + i * 16)), (66, pq pb (po_ + i * 16 + 9)), (67, .agg #[.int .u64 (st i).m0, .int .u64 (st i).m1, .int .u64 (st i).m2, .int .u64 (st i).m3, .int .u64 (st i).m4, .int .u64 (st i).m5, .slice (Sq.a (st i)) (Sq.l (st i)) (Sq.c (st i))])] (by kernel_rfl) ?_
            refine gc_reg ?_
            refine t 46 (.int .i64 (i : Int)) ?_
            refine tq 47 (.int .i64 (IntKind.i64.wrap ((i : Int) + 1))) (.int .i64 ((i : Int) + 1)) (wi (by omega)) ?_
            refine t 10 (.int .i64 ((i : Int) + 1)) ?_
            refine gl_nil ?_
            exact ge_round (i + 1) (by show n - (i + 1) < n - i; omega) ⟨hk_i, BB, _, _, _, _, A.sx, by omega, by omega, Q.stepM c8 (by omega) (by omega) rr, Xg2, nXg2⟩ (by kernel_rfl)
        · have hin : i = n := by omega
          rw [hin] at Q
          refine tq 45 (.bool (decide ((i : Int) < ((n : Nat) : Int)))) (.bool false) (congrArg Value.bool (decide_eq_false ci)) ?_
          refine gl_nil ?_
          refine ge_then ?_
          refine gc_no ?_
          refine gc_exit ?_
          refine ge_tx ?_
          refine ge_tx ?_
          refine ge_bx ?_
          refine ge_then ?_
          refine gc_seq ?_
          refine gc_reg ?_
          refine t 69 (pg g0) ?_
          have l7 := Xg2.lt
          refine tc 70 35 #[pg g0] (copyQ A.sx (by omega)) ?_
          rintro _ v13 ⟨g1, K2, rfl, C2, hK2, B⟩
          refine ⟨_, rfl, ?_⟩
          have dj : ∀ b, _ → ¬ K2 b := fun b hb h2 => Nat.lt_irrefl _ (Nat.lt_of_lt_of_le (A.sx.sa.lt (b := b) hb) (hK2 b h2))
          have szC := B.size
          have uXg2 : ¬ K2 g2 := fun h2 => by have := hK2 _ h2; omega
          replace BB := joinB BB B
          replace A := A.keep B
          replace Xg2 := Xg2.keep B
          clear B
          refine t 11 (pg g1) ?_
          refine gl_nil ?_
          refine ge_then ?_
          refine gc_seq ?_
          refine gc_reg ?_
          refine t 71 (.int .i64 xa) ?_
          refine t 72 (.slice ao n c) ?_
          refine t 73 (.int .i64 ((n : Nat) : Int)) ?_
          refine tc 74 36 #[.int .i64 xa, .int .i64 ((n : Nat) : Int)] (place_by xa n (by omega) (by omega) _) ?_
          rintro _ v14 ⟨p, hp, rfl, hw⟩
          refine ⟨_, rfl, ?_⟩
          subst hw
          obtain ⟨ee, hee⟩ : ∃ e, qe 1 (st p) p = e := ⟨_, rfl⟩
          have he : ee ∈ qes 1 st n := qes_mem.2 ⟨p, hp, hee.symm⟩
          have hei : ee.id = (1 + (p : Int)) := by rw [← hee, qe_id]
          obtain ⟨kk, hek⟩ : ∃ k, ee.k = k := ⟨_, rfl⟩
          have hkk : kk = 12 ∨ kk = 13 := hek ▸ (Q.good ee he).1
          have hql : (qes 1 st n).length = n := qes_len _ _ _
          have hid : Uq (1 + (p : Int)) := ⟨by omega, by omega⟩
          have hab : (decide (kk = 12) == decide (kk = 13)) = false := by rcases hkk with h | h <;> rw [h] <;> rfl
          have hnx : (1 + (n : Int)) ≤ 18446744073709551616 := by omega
          refine tq 75 (.int .i64 (IntKind.i64.wrap (1 + (p : Int)))) (.int .i64 (1 + (p : Int))) (wi (by omega)) ?_
          refine tr 76 (.int .u64 (1 + (p : Int))) (run_cv (1 + (p : Int)) ⟨by omega, by omega⟩) ?_
          refine t 12 (.int .u64 (1 + (p : Int))) ?_
          refine gl_nil ?_
          refine ge_then ?_
          refine gc_fr [(0, .slice ao n c), (2, .int .u64 y), (7, pg g2), (9, pg g0), (11, pg g1), (12, .int .u64 (1 + (p : Int)))] (by kernel_rfl) ?_
          refine gc_seq ?_
          replace BB := BB.drew
          replace A := A.drew
          replace Xg2 := Xg2.drew
          replace C2 := C2.keep (Below.refl _ _).drew
          refine gc_draw (fun w' => Blk w' g2 [.slice a7 n7 c7] 49 ∧ Below w.heap.size w w') (fun _ => false) ⟨Xg2, BB⟩ ?_
          refine z 0 77 (pg g0) ?_
          refine z 1 78 (.int .u64 (1 + (p : Int))) ?_
          refine z 2 79 (.int .u64 y) ?_
          refine z 4 81 (pg g0) ?_
          refine z 5 82 (.int .u64 (1 + (p : Int))) ?_
          refine zlr 6 83 [.slice a7 n7 c7] (fun _ h => h.1) 0 ?_
          have Q1 := Q.less hid hy hnx (A.sx.oct _)
          refine zc 3 80 22 #[pg g0, .int .u64 (1 + (p : Int)), .int .u64 y] (SxF.cast (less_any A.sx hid (by omega) (by omega)) rfl (congrArg Value.bool (Q.ap1 hnx he hei hek (.inl rfl)))) ?_
          rintro _ v19 ⟨rfl, K15, n16, N17, S, qn16, qN17, hK, hC⟩
          replace BB := belowO BB hC (fun b hb => Nat.le_trans hwB (A.sx.kb b hb))
          have mXg2 := not_op Xg2 nXg2 hK
          replace Xg2 := Xg2.chg hC nXg2
          replace nXg2 := mXg2
          clear mXg2
          have dj2 := djQ C2 dj hK
          replace C2 := besideQ C2 A.sx hC dj
          replace dj := dj2
          clear dj2
          replace A := A.op S hK hC
          clear S hK hC
          refine ⟨_, rfl, ⟨Xg2, BB⟩, ?_⟩
          have Q2 := Q1.few hid hx7 hnx (A.sx.oct _)
          refine zc 7 84 24 #[pg g0, .int .u64 (1 + (p : Int)), .agg #[.slice a7 n7 c7]] (SxF.cast (fewer_any A.sx hid (nk_up NS BB (fun b hb => Nat.le_trans hwB (A.sx.kb b hb))) (Nat.le_trans h7 (by decide)) (by omega) (by omega)) rfl (congrArg Value.bool (Q1.ap1 hnx he hei hek (.inr rfl)))) ?_
          rintro _ v24 ⟨rfl, K20, n21, N22, S, qn21, qN22, hK, hC⟩
          replace BB := belowO BB hC (fun b hb => Nat.le_trans hwB (A.sx.kb b hb))
          have mXg2 := not_op Xg2 nXg2 hK
          replace Xg2 := Xg2.chg hC nXg2
          replace nXg2 := mXg2
          clear mXg2
          have dj2 := djQ C2 dj hK
          replace C2 := besideQ C2 A.sx hC dj
          replace dj := dj2
          clear dj2
          replace A := A.op S hK hC
          clear S hK hC
          refine ⟨_, rfl, ⟨Xg2, BB⟩, ?_⟩
          refine z 8 13 (.bool (decide (kk = 12))) ?_
          refine z 9 14 (.bool (decide (kk = 13))) ?_
          refine gz_done ?_
          refine ge_then ?_
          refine gc_seq ?_
          refine gc_reg ?_
          refine t 15 (.int .i64 12) ?_
          refine gl_nil ?_
          refine ge_then ?_
          refine gc_join (fun (_ : Unit) => [(0, .slice ao n c), (9, pg g0), (11, pg g1), (12, .int .u64 (1 + (p : Int))), (13, .bool (decide (kk = 12))), (14, .bool (decide (kk = 13))), (15, .int .i64 kk)]) (fun _ w' => w' = v24) ?_ ?_
          · refine gc_seq ?_
            refine gc_reg ?_
            refine t 85 (.bool (decide (kk = 13))) ?_
            refine gl_nil ?_
            refine ge_then ?_
            refine gc_fr [(0, .slice ao n c), (9, pg g0), (11, pg g1), (12, .int .u64 (1 + (p : Int))), (13, .bool (decide (kk = 12))), (14, .bool (decide (kk = 13))), (15, .int .i64 12), (85, .bool (decide (kk = 13)))] (by kernel_rfl) ?_
            rcases Bool.eq_false_or_eq_true (decide (kk = 13)) with b25 | b25
            · refine gc_yes (hc := congrArg Value.bool b25) ?_
              refine gc_reg ?_
              refine t 15 (.int .i64 13) ?_
              refine gl_nil ?_
              have hk2 := of_decide_eq_true b25
              subst hk2
              exact ge_join () rfl (by kernel_rfl)
            · refine gc_no (hc := congrArg Value.bool b25) ?_
              refine gc_skip ?_
              have hk2 : kk = 12 := hkk.resolve_right (of_decide_eq_false b25)
              subst hk2
              exact ge_join () rfl (by kernel_rfl)
          rintro ⟨⟩ _ rfl
          refine gc_seq ?_
          refine gc_seq ?_
          refine gc_reg ?_
          refine t 86 (.bool (decide (kk = 12))) ?_
          refine t 87 (.bool (decide (kk = 13))) ?_
          refine tq 88 (.bool (decide (kk = 12) == decide (kk = 13))) (.bool false) (congrArg Value.bool hab) ?_
          refine t 89 (.bool false) ?_
          refine t 90 (pg g0) ?_
          refine t 91 (.int .u64 (1 + (p : Int))) ?_
          refine t 92 (.int .i64 kk) ?_
          refine tr 93 (.agg #[.int .u64 (1 + (p : Int)), .int .i64 kk]) (run_bE) ?_
          obtain ⟨d1, Q3, d3⟩ := Q2.ap3 hnx (by omega) he hei hek
          refine tc 94 26 #[pg g0, .agg #[.int .u64 (1 + (p : Int)), .int .i64 kk]] (SxF.cast (drop_any A.sx hid (by omega) (by omega)) rfl (congrArg Value.bool d1)) ?_
          rintro _ v30 ⟨rfl, K26, n27, N28, S, qn27, qN28, hK, hC⟩
          refine ⟨_, rfl, ?_⟩
          replace BB := belowO BB hC (fun b hb => Nat.le_trans hwB (A.sx.kb b hb))
          have mXg2 := not_op Xg2 nXg2 hK
          replace Xg2 := Xg2.chg hC nXg2
          replace nXg2 := mXg2
          clear mXg2
          have dj2 := djQ C2 dj hK
          replace C2 := besideQ C2 A.sx hC dj
          replace dj := dj2
          clear dj2
          replace A := A.op S hK hC
          clear S hK hC
          refine t 95 (.bool false) ?_
          refine t 96 (.bool false) ?_
          refine gl_nil ?_
          refine ge_then ?_
          refine gc_no ?_
          refine gc_skip ?_
          refine ge_then ?_
          refine gc_seq ?_
          refine gc_seq ?_
          refine gc_reg ?_
          refine t 16 (.int .u64 1) ?_
          refine gl_nil ?_
          refine ge_then ?_
          refine gc_fr [(0, .slice ao n c), (9, pg g0), (11, pg g1), (12, .int .u64 (1 + (p : Int))), (16, .int .u64 1)] (by kernel_rfl) ?_
          refine gc_block ?_
          obtain ⟨E3, hE3⟩ : ∃ e, dropE (fewM (lessU E (1 + (p : Int)) y) (1 + (p : Int)) x7) (1 + (p : Int)) kk = e := ⟨_, rfl⟩
          have d4 : ∀ c i : Int, c = 12 ∨ c = 13 → Uq i → i ≠ (1 + (p : Int)) → Kv.look E3 (Ky.mk c i 0) = Kv.look E (Ky.mk c i 0) := fun c i hc hi hne => by rw [← hE3, d3 c i hc hi hne, few_look Q1.rise hid hi (.inl hne) hc, less_look Q.rise hid hi (.inl hne) hc]
          rw [hE3] at Q3 A
          clear d3
          have d3 := d4
          clear d4
          refine gc_loop (fun s => n - s) (fun (s : Nat) => [(0, .slice ao n c), (9, pg g0), (11, pg g1), (12, .int .u64 (1 + (p : Int))), (16, .int .u64 (1 + (s : Int)))]) (fun s w' => s ≤ n ∧ Below w.heap.size w w' ∧ ∃ K nn N2 K2 m2, Sx Bz w' K g0 E3 [] nn N2 ∧ Sx Bz w' K2 g1 E [] m2 NN ∧ (∀ b, K b → ¬ K2 b) ∧ nn ≤ 20000 + s * 10 ∧ N2 ≤ 5000 ∧ m2 ≤ s * 10) (0 : Nat) ⟨Nat.zero_le _, BB, _, _, _, _, _, A.sx, C2, dj, by omega, by omega, by omega⟩ (by kernel_rfl) ?_
          clear BB
          clear A
          clear Xg2
          clear C2
          clear dj
          rintro j v31 ⟨hj, BB, K, n3, N3, K2, m3, S, C2, dj, hn3, hN3, hm3⟩
          have A := S.at
          clear S
          refine gc_seq ?_
          refine gc_seq ?_
          refine gc_reg ?_
          refine t 97 (.int .u64 (1 + (j : Int))) ?_
          refine t 98 (.slice ao n c) ?_
          refine t 99 (.int .i64 ((n : Nat) : Int)) ?_
          refine tr 100 (.int .u64 (n : Int)) (run_cv (n : Int) ⟨by omega, by omega⟩) ?_
          by_cases cl : (1 + (j : Int) : Int) ≤ (n : Int)
          · have hj1 : Uq (1 + (j : Int)) := ⟨by omega, by omega⟩
            refine tq 101 (.bool (decide ((1 + (j : Int) : Int) ≤ (n : Int)))) (.bool true) (congrArg Value.bool (decide_eq_true cl)) ?_
            refine gl_nil ?_
            refine ge_then ?_
            refine gc_yes ?_
            refine gc_skip ?_
            refine ge_then ?_
            refine gc_seq ?_
            refine gc_block ?_
            refine gc_seq ?_
            refine gc_reg ?_
            refine t 105 (pg g0) ?_
            refine t 106 (.int .u64 (1 + (j : Int))) ?_
            refine tc 107 37 #[pg g0, .int .u64 (1 + (j : Int))] (unbonding_any A.sx hj1 (by omega) (by omega)) ?_
            rintro _ v33 ⟨rfl, K32, S, hK, hC⟩
            refine ⟨_, rfl, ?_⟩
            replace BB := belowO BB hC (fun b hb => Nat.le_trans hwB (A.sx.kb b hb))
            have dj2 := djQ C2 dj hK
            replace C2 := besideQ C2 A.sx hC dj
            replace dj := dj2
            clear dj2
            replace A := A.op S hK hC
            clear S hK hC
            refine t 104 (.tuple #[.agg #[.int .u64 (uX (got E3 (Ky.mk 12 (1 + (j : Int)) 0)) 0), .int .u64 (uX (got E3 (Ky.mk 12 (1 + (j : Int)) 0)) 1), .int .u64 (uX (got E3 (Ky.mk 12 (1 + (j : Int)) 0)) 2), .int .u64 (uX (got E3 (Ky.mk 12 (1 + (j : Int)) 0)) 3), .int .u64 (uX (got E3 (Ky.mk 12 (1 + (j : Int)) 0)) 4), .int .u64 (uX (got E3 (Ky.mk 12 (1 + (j : Int)) 0)) 5)], .bool (Kv.look E3 (Ky.mk 12 (1 + (j : Int)) 0)).isSome]) ?_
            refine t 108 (.agg #[.int .u64 (uX (got E3 (Ky.mk 12 (1 + (j : Int)) 0)) 0), .int .u64 (uX (got E3 (Ky.mk 12 (1 + (j : Int)) 0)) 1), .int .u64 (uX (got E3 (Ky.mk 12 (1 + (j : Int)) 0)) 2), .int .u64 (uX (got E3 (Ky.mk 12 (1 + (j : Int)) 0)) 3), .int .u64 (uX (got E3 (Ky.mk 12 (1 + (j : Int)) 0)) 4), .int .u64 (uX (got E3 (Ky.mk 12 (1 + (j : Int)) 0)) 5)]) ?_
            refine t 109 (.bool (Kv.look E3 (Ky.mk 12 (1 + (j : Int)) 0)).isSome) ?_
            refine ta 17 [.int .u64 0, .int .u64 0, .int .u64 0, .int .u64 0, .int .u64 0, .int .u64 0] 46 (pg) ?_
            intro v34 g35 Xg35 hg35 B
            have uXg35 := newQ C2 hg35
            have yg35 := Nat.le_trans BB.size hg35
            have zg35 := Nat.le_trans A.size hg35
            have nXg35 := A.new hg35
            replace BB := joinB BB B
            replace A := A.keep B
            replace C2 := C2.keep B
            clear B
            refine ts Xg35 0 (.agg #[.int .u64 (uX (got E3 (Ky.mk 12 (1 + (j : Int)) 0)) 0), .int .u64 (uX (got E3 (Ky.mk 12 (1 + (j : Int)) 0)) 1), .int .u64 (uX (got E3 (Ky.mk 12 (1 + (j : Int)) 0)) 2), .int .u64 (uX (got E3 (Ky.mk 12 (1 + (j : Int)) 0)) 3), .int .u64 (uX (got E3 (Ky.mk 12 (1 + (j : Int)) 0)) 4), .int .u64 (uX (got E3 (Ky.mk 12 (1 + (j : Int)) 0)) 5)]) [.int .u64 (uX (got E3 (Ky.mk 12 (1 + (j : Int)) 0)) 0), .int .u64 (uX (got E3 (Ky.mk 12 (1 + (j : Int)) 0)) 1), .int .u64 (uX (got E3 (Ky.mk 12 (1 + (j : Int)) 0)) 2), .int .u64 (uX (got E3 (Ky.mk 12 (1 + (j : Int)) 0)) 3), .int .u64 (uX (got E3 (Ky.mk 12 (1 + (j : Int)) 0)) 4), .int .u64 (uX (got E3 (Ky.mk 12 (1 + (j : Int)) 0)) 5)] [.int .u64 (uX (got E3 (Ky.mk 12 (1 + (j : Int)) 0)) 0), .int .u64 (uX (got E3 (Ky.mk 12 (1 + (j : Int)) 0)) 1), .int .u64 (uX (got E3 (Ky.mk 12 (1 + (j : Int)) 0)) 2), .int .u64 (uX (got E3 (Ky.mk 12 (1 + (j : Int)) 0)) 3), .int .u64 (uX (got E3 (Ky.mk 12 (1 + (j : Int)) 0)) 4), .int .u64 (uX (got E3 (Ky.mk 12 (1 + (j : Int)) 0)) 5)] ?_
            intro v36 Y C
            replace BB := belowC BB C (by omega)
            replace A := Bk.At.cell A Xg35 C zg35 nXg35 (by decide)
            replace C2 := cellQ C2 Xg35 C uXg35 (by decide)
            clear C Xg35
            have Xg35 := Y
            clear Y
            refine t 18 (.bool (Kv.look E3 (Ky.mk 12 (1 + (j : Int)) 0)).isSome) ?_
            refine gl_nil ?_
            refine ge_then ?_
            refine gc_fr [(0, .slice ao n c), (9, pg g0), (11, pg g1), (12, .int .u64 (1 + (p : Int))), (16, .int .u64 (1 + (j : Int))), (17, pg g35), (18, .bool (Kv.look E3 (Ky.mk 12 (1 + (j : Int)) 0)).isSome), (97, .int .u64 (1 + (j : Int))), (98, .slice ao n c), (99, .int .i64 ((n : Nat) : Int)), (100, .int .u64 (n : Int)), (101, .bool true), (104, .tuple #[.agg #[.int .u64 (uX (got E3 (Ky.mk 12 (1 + (j : Int)) 0)) 0), .int .u64 (uX (got E3 (Ky.mk 12 (1 + (j : Int)) 0)) 1), .int .u64 (uX (got E3 (Ky.mk 12 (1 + (j : Int)) 0)) 2), .int .u64 (uX (got E3 (Ky.mk 12 (1 + (j : Int)) 0)) 3), .int .u64 (uX (got E3 (Ky.mk 12 (1 + (j : Int)) 0)) 4), .int .u64 (uX (got E3 (Ky.mk 12 (1 + (j : Int)) 0)) 5)], .bool (Kv.look E3 (Ky.mk 12 (1 + (j : Int)) 0)).isSome]), (105, pg g0), (106, .int .u64 (1 + (j : Int))), (107, .tuple #[.agg #[.int .u64 (uX (got E3 (Ky.mk 12 (1 + (j : Int)) 0)) 0), .int .u64 (uX (got E3 (Ky.mk 12 (1 + (j : Int)) 0)) 1), .int .u64 (uX (got E3 (Ky.mk 12 (1 + (j : Int)) 0)) 2), .int .u64 (uX (got E3 (Ky.mk 12 (1 + (j : Int)) 0)) 3), .int .u64 (uX (got E3 (Ky.mk 12 (1 + (j : Int)) 0)) 4), .int .u64 (uX (got E3 (Ky.mk 12 (1 + (j : Int)) 0)) 5)], .bool (Kv.look E3 (Ky.mk 12 (1 + (j : Int)) 0)).isSome]), (108, .agg #[.int .u64 (uX (got E3 (Ky.mk 12 (1 + (j : Int)) 0)) 0), .int .u64 (uX (got E3 (Ky.mk 12 (1 + (j : Int)) 0)) 1), .int .u64 (uX (got E3 (Ky.mk 12 (1 + (j : Int)) 0)) 2), .int .u64 (uX (got E3 (Ky.mk 12 (1 + (j : Int)) 0)) 3), .int .u64 (uX (got E3 (Ky.mk 12 (1 + (j : Int)) 0)) 4), .int .u64 (uX (got E3 (Ky.mk 12 (1 + (j : Int)) 0)) 5)]), (109, .bool (Kv.look E3 (Ky.mk 12 (1 + (j : Int)) 0)).isSome)] (by kernel_rfl) ?_
            refine gc_seq ?_
            refine gc_reg ?_
            refine t 111 (pg g1) ?_
            refine t 112 (.int .u64 (1 + (j : Int))) ?_
            refine tc 113 37 #[pg g1, .int .u64 (1 + (j : Int))] (unbonding_any C2 hj1 (by omega) (by omega)) ?_
            rintro _ v38 ⟨rfl, K37, S, hK, hC⟩
            refine ⟨_, rfl, ?_⟩
            replace BB := belowO BB hC (fun b hb => Nat.le_trans hwB (C2.kb b hb))
            have mXg35 := not_op Xg35 uXg35 hK
            replace Xg35 := Xg35.chg hC uXg35
            replace uXg35 := mXg35
            clear mXg35
            have dj2 := djS (djQ A.sx (djS dj) hK)
            have A2 := (besideQ A.sx C2 hC (djS dj)).at
            clear A
            have A := A2
            clear A2
            replace dj := dj2
            clear dj2
            clear C2
            have C2 := S
            clear S hK hC
            refine t 110 (.tuple #[.agg #[.int .u64 (uX (got E (Ky.mk 12 (1 + (j : Int)) 0)) 0), .int .u64 (uX (got E (Ky.mk 12 (1 + (j : Int)) 0)) 1), .int .u64 (uX (got E (Ky.mk 12 (1 + (j : Int)) 0)) 2), .int .u64 (uX (got E (Ky.mk 12 (1 + (j : Int)) 0)) 3), .int .u64 (uX (got E (Ky.mk 12 (1 + (j : Int)) 0)) 4), .int .u64 (uX (got E (Ky.mk 12 (1 + (j : Int)) 0)) 5)], .bool (Kv.look E (Ky.mk 12 (1 + (j : Int)) 0)).isSome]) ?_
            refine t 114 (.agg #[.int .u64 (uX (got E (Ky.mk 12 (1 + (j : Int)) 0)) 0), .int .u64 (uX (got E (Ky.mk 12 (1 + (j : Int)) 0)) 1), .int .u64 (uX (got E (Ky.mk 12 (1 + (j : Int)) 0)) 2), .int .u64 (uX (got E (Ky.mk 12 (1 + (j : Int)) 0)) 3), .int .u64 (uX (got E (Ky.mk 12 (1 + (j : Int)) 0)) 4), .int .u64 (uX (got E (Ky.mk 12 (1 + (j : Int)) 0)) 5)]) ?_
            refine t 115 (.bool (Kv.look E (Ky.mk 12 (1 + (j : Int)) 0)).isSome) ?_
            have lXg35 := Xg35.lt
            refine ta 19 [.int .u64 0, .int .u64 0, .int .u64 0, .int .u64 0, .int .u64 0, .int .u64 0] 46 (pg) ?_
            intro v39 g40 Xg40 hg40 B
            have uXg40 := newQ C2 hg40
            have yg40 := Nat.le_trans BB.size hg40
            have zg40 := Nat.le_trans A.size hg40
            have nXg40 := A.new hg40
            replace BB := joinB BB B
            replace A := A.keep B
            replace C2 := C2.keep B
            replace Xg35 := Xg35.keep B
            clear B
            refine ts Xg40 0 (.agg #[.int .u64 (uX (got E (Ky.mk 12 (1 + (j : Int)) 0)) 0), .int .u64 (uX (got E (Ky.mk 12 (1 + (j : Int)) 0)) 1), .int .u64 (uX (got E (Ky.mk 12 (1 + (j : Int)) 0)) 2), .int .u64 (uX (got E (Ky.mk 12 (1 + (j : Int)) 0)) 3), .int .u64 (uX (got E (Ky.mk 12 (1 + (j : Int)) 0)) 4), .int .u64 (uX (got E (Ky.mk 12 (1 + (j : Int)) 0)) 5)]) [.int .u64 (uX (got E (Ky.mk 12 (1 + (j : Int)) 0)) 0), .int .u64 (uX (got E (Ky.mk 12 (1 + (j : Int)) 0)) 1), .int .u64 (uX (got E (Ky.mk 12 (1 + (j : Int)) 0)) 2), .int .u64 (uX (got E (Ky.mk 12 (1 + (j : Int)) 0)) 3), .int .u64 (uX (got E (Ky.mk 12 (1 + (j : Int)) 0)) 4), .int .u64 (uX (got E (Ky.mk 12 (1 + (j : Int)) 0)) 5)] [.int .u64 (uX (got E (Ky.mk 12 (1 + (j : Int)) 0)) 0), .int .u64 (uX (got E (Ky.mk 12 (1 + (j : Int)) 0)) 1), .int .u64 (uX (got E (Ky.mk 12 (1 + (j : Int)) 0)) 2), .int .u64 (uX (got E (Ky.mk 12 (1 + (j : Int)) 0)) 3), .int .u64 (uX (got E (Ky.mk 12 (1 + (j : Int)) 0)) 4), .int .u64 (uX (got E (Ky.mk 12 (1 + (j : Int)) 0)) 5)] ?_
            intro v41 Y C
            replace BB := belowC BB C (by omega)
            replace A := Bk.At.cell A Xg40 C zg40 nXg40 (by decide)
            replace C2 := cellQ C2 Xg40 C uXg40 (by decide)
            replace Xg35 := Xg35.chg C (show g35 ≠ g40 by omega)
            clear C Xg40
            have Xg40 := Y
            clear Y
            refine t 20 (.bool (Kv.look E (Ky.mk 12 (1 + (j : Int)) 0)).isSome) ?_
            refine gl_nil ?_
            refine ge_then ?_
            refine gc_seq ?_
            refine gc_reg ?_
            refine t 117 (pg g0) ?_
            refine t 118 (.int .u64 (1 + (j : Int))) ?_
            have szPm := fun b hb => C2.sa.lt (b := b) hb
            refine tc 119 38 #[pg g0, .int .u64 (1 + (j : Int))] (moving_any A.sx hj1 (by omega) (by omega)) ?_
            rintro _ v43 ⟨am, nm, cm, rfl, zm, K42, S, hK, hC, Qm, mm, hzm⟩
            refine ⟨_, rfl, ?_⟩
            have uQm := hzm.imp_right fun h1 h2 => Nat.lt_irrefl _ (Nat.lt_of_lt_of_le (szPm _ h2) h1)
            clear szPm
            replace BB := belowO BB hC (fun b hb => Nat.le_trans hwB (A.sx.kb b hb))
            have mXg35 := not_op Xg35 nXg35 hK
            replace Xg35 := Xg35.chg hC nXg35
            replace nXg35 := mXg35
            clear mXg35
            have mXg40 := not_op Xg40 nXg40 hK
            replace Xg40 := Xg40.chg hC nXg40
            replace nXg40 := mXg40
            clear mXg40
            have dj2 := djQ C2 dj hK
            replace C2 := besideQ C2 A.sx hC dj
            replace dj := dj2
            clear dj2
            replace A := A.op S hK hC
            clear S hK hC
            refine t 116 (.tuple #[.agg #[.int .u64 (mX (got E3 (Ky.mk 13 (1 + (j : Int)) 0)) 0), .int .u64 (mX (got E3 (Ky.mk 13 (1 + (j : Int)) 0)) 1), .int .u64 (mX (got E3 (Ky.mk 13 (1 + (j : Int)) 0)) 2), .int .u64 (mX (got E3 (Ky.mk 13 (1 + (j : Int)) 0)) 3), .int .u64 (mX (got E3 (Ky.mk 13 (1 + (j : Int)) 0)) 4), .int .u64 (mX (got E3 (Ky.mk 13 (1 + (j : Int)) 0)) 5), .slice am nm cm], .bool (Kv.look E3 (Ky.mk 13 (1 + (j : Int)) 0)).isSome]) ?_
            refine t 120 (.agg #[.int .u64 (mX (got E3 (Ky.mk 13 (1 + (j : Int)) 0)) 0), .int .u64 (mX (got E3 (Ky.mk 13 (1 + (j : Int)) 0)) 1), .int .u64 (mX (got E3 (Ky.mk 13 (1 + (j : Int)) 0)) 2), .int .u64 (mX (got E3 (Ky.mk 13 (1 + (j : Int)) 0)) 3), .int .u64 (mX (got E3 (Ky.mk 13 (1 + (j : Int)) 0)) 4), .int .u64 (mX (got E3 (Ky.mk 13 (1 + (j : Int)) 0)) 5), .slice am nm cm]) ?_
            refine t 121 (.bool (Kv.look E3 (Ky.mk 13 (1 + (j : Int)) 0)).isSome) ?_
            have lXg35 := Xg35.lt
            have lXg40 := Xg40.lt
            have lQm := Qm.lt
            refine ta 21 [.int .u64 0, .int .u64 0, .int .u64 0, .int .u64 0, .int .u64 0, .int .u64 0, .slice none 0 0] 51 (pg) ?_
            intro v44 g45 Xg45 hg45 B
            have uXg45 := newQ C2 hg45
            have yg45 := Nat.le_trans BB.size hg45
            have zg45 := Nat.le_trans A.size hg45
            have nXg45 := A.new hg45
            replace BB := joinB BB B
            replace A := A.keep B
            replace C2 := C2.keep B
            replace Xg35 := Xg35.keep B
            replace Xg40 := Xg40.keep B
            replace Qm := Qm.keep B
            clear B
            refine ts Xg45 0 (.agg #[.int .u64 (mX (got E3 (Ky.mk 13 (1 + (j : Int)) 0)) 0), .int .u64 (mX (got E3 (Ky.mk 13 (1 + (j : Int)) 0)) 1), .int .u64 (mX (got E3 (Ky.mk 13 (1 + (j : Int)) 0)) 2), .int .u64 (mX (got E3 (Ky.mk 13 (1 + (j : Int)) 0)) 3), .int .u64 (mX (got E3 (Ky.mk 13 (1 + (j : Int)) 0)) 4), .int .u64 (mX (got E3 (Ky.mk 13 (1 + (j : Int)) 0)) 5), .slice am nm cm]) [.int .u64 (mX (got E3 (Ky.mk 13 (1 + (j : Int)) 0)) 0), .int .u64 (mX (got E3 (Ky.mk 13 (1 + (j : Int)) 0)) 1), .int .u64 (mX (got E3 (Ky.mk 13 (1 + (j : Int)) 0)) 2), .int .u64 (mX (got E3 (Ky.mk 13 (1 + (j : Int)) 0)) 3), .int .u64 (mX (got E3 (Ky.mk 13 (1 + (j : Int)) 0)) 4), .int .u64 (mX (got E3 (Ky.mk 13 (1 + (j : Int)) 0)) 5), .slice am nm cm] [.int .u64 (mX (got E3 (Ky.mk 13 (1 + (j : Int)) 0)) 0), .int .u64 (mX (got E3 (Ky.mk 13 (1 + (j : Int)) 0)) 1), .int .u64 (mX (got E3 (Ky.mk 13 (1 + (j : Int)) 0)) 2), .int .u64 (mX (got E3 (Ky.mk 13 (1 + (j : Int)) 0)) 3), .int .u64 (mX (got E3 (Ky.mk 13 (1 + (j : Int)) 0)) 4), .int .u64 (mX (got E3 (Ky.mk 13 (1 + (j : Int)) 0)) 5), .slice am nm cm] ?_
            intro v46 Y C
            replace BB := belowC BB C (by omega)
            replace A := Bk.At.cell A Xg45 C zg45 nXg45 (by decide)
            replace C2 := cellQ C2 Xg45 C uXg45 (by decide)
            replace Xg35 := Xg35.chg C (show g35 ≠ g45 by omega)
            replace Xg40 := Xg40.chg C (show g40 ≠ g45 by omega)
            replace Qm := Qm.cell C (show nm = 0 ∨ zm ≠ g45 by omega)
            clear C Xg45
            have Xg45 := Y
            clear Y
            refine t 22 (.bool (Kv.look E3 (Ky.mk 13 (1 + (j : Int)) 0)).isSome) ?_
            refine gl_nil ?_
            refine ge_then ?_
            refine gc_fr [(0, .slice ao n c), (9, pg g0), (11, pg g1), (12, .int .u64 (1 + (p : Int))), (16, .int .u64 (1 + (j : Int))), (17, pg g35), (18, .bool (Kv.look E3 (Ky.mk 12 (1 + (j : Int)) 0)).isSome), (19, pg g40), (20, .bool (Kv.look E (Ky.mk 12 (1 + (j : Int)) 0)).isSome), (21, pg g45), (22, .bool (Kv.look E3 (Ky.mk 13 (1 + (j : Int)) 0)).isSome), (97, .int .u64 (1 + (j : Int))), (98, .slice ao n c), (99, .int .i64 ((n : Nat) : Int)), (100, .int .u64 (n : Int)), (101, .bool true), (104, .tuple #[.agg #[.int .u64 (uX (got E3 (Ky.mk 12 (1 + (j : Int)) 0)) 0), .int .u64 (uX (got E3 (Ky.mk 12 (1 + (j : Int)) 0)) 1), .int .u64 (uX (got E3 (Ky.mk 12 (1 + (j : Int)) 0)) 2), .int .u64 (uX (got E3 (Ky.mk 12 (1 + (j : Int)) 0)) 3), .int .u64 (uX (got E3 (Ky.mk 12 (1 + (j : Int)) 0)) 4), .int .u64 (uX (got E3 (Ky.mk 12 (1 + (j : Int)) 0)) 5)], .bool (Kv.look E3 (Ky.mk 12 (1 + (j : Int)) 0)).isSome]), (105, pg g0), (106, .int .u64 (1 + (j : Int))), (107, .tuple #[.agg #[.int .u64 (uX (got E3 (Ky.mk 12 (1 + (j : Int)) 0)) 0), .int .u64 (uX (got E3 (Ky.mk 12 (1 + (j : Int)) 0)) 1), .int .u64 (uX (got E3 (Ky.mk 12 (1 + (j : Int)) 0)) 2), .int .u64 (uX (got E3 (Ky.mk 12 (1 + (j : Int)) 0)) 3), .int .u64 (uX (got E3 (Ky.mk 12 (1 + (j : Int)) 0)) 4), .int .u64 (uX (got E3 (Ky.mk 12 (1 + (j : Int)) 0)) 5)], .bool (Kv.look E3 (Ky.mk 12 (1 + (j : Int)) 0)).isSome]), (108, .agg #[.int .u64 (uX (got E3 (Ky.mk 12 (1 + (j : Int)) 0)) 0), .int .u64 (uX (got E3 (Ky.mk 12 (1 + (j : Int)) 0)) 1), .int .u64 (uX (got E3 (Ky.mk 12 (1 + (j : Int)) 0)) 2), .int .u64 (uX (got E3 (Ky.mk 12 (1 + (j : Int)) 0)) 3), .int .u64 (uX (got E3 (Ky.mk 12 (1 + (j : Int)) 0)) 4), .int .u64 (uX (got E3 (Ky.mk 12 (1 + (j : Int)) 0)) 5)]), (109, .bool (Kv.look E3 (Ky.mk 12 (1 + (j : Int)) 0)).isSome), (110, .tuple #[.agg #[.int .u64 (uX (got E (Ky.mk 12 (1 + (j : Int)) 0)) 0), .int .u64 (uX (got E (Ky.mk 12 (1 + (j : Int)) 0)) 1), .int .u64 (uX (got E (Ky.mk 12 (1 + (j : Int)) 0)) 2), .int .u64 (uX (got E (Ky.mk 12 (1 + (j : Int)) 0)) 3), .int .u64 (uX (got E (Ky.mk 12 (1 + (j : Int)) 0)) 4), .int .u64 (uX (got E (Ky.mk 12 (1 + (j : Int)) 0)) 5)], .bool (Kv.look E (Ky.mk 12 (1 + (j : Int)) 0)).isSome]), (111, pg g1), (112, .int .u64 (1 + (j : Int))), (113, .tuple #[.agg #[.int .u64 (uX (got E (Ky.mk 12 (1 + (j : Int)) 0)) 0), .int .u64 (uX (got E (Ky.mk 12 (1 + (j : Int)) 0)) 1), .int .u64 (uX (got E (Ky.mk 12 (1 + (j : Int)) 0)) 2), .int .u64 (uX (got E (Ky.mk 12 (1 + (j : Int)) 0)) 3), .int .u64 (uX (got E (Ky.mk 12 (1 + (j : Int)) 0)) 4), .int .u64 (uX (got E (Ky.mk 12 (1 + (j : Int)) 0)) 5)], .bool (Kv.look E (Ky.mk 12 (1 + (j : Int)) 0)).isSome]), (114, .agg #[.int .u64 (uX (got E (Ky.mk 12 (1 + (j : Int)) 0)) 0), .int .u64 (uX (got E (Ky.mk 12 (1 + (j : Int)) 0)) 1), .int .u64 (uX (got E (Ky.mk 12 (1 + (j : Int)) 0)) 2), .int .u64 (uX (got E (Ky.mk 12 (1 + (j : Int)) 0)) 3), .int .u64 (uX (got E (Ky.mk 12 (1 + (j : Int)) 0)) 4), .int .u64 (uX (got E (Ky.mk 12 (1 + (j : Int)) 0)) 5)]), (115, .bool (Kv.look E (Ky.mk 12 (1 + (j : Int)) 0)).isSome), (116, .tuple #[.agg #[.int .u64 (mX (got E3 (Ky.mk 13 (1 + (j : Int)) 0)) 0), .int .u64 (mX (got E3 (Ky.mk 13 (1 + (j : Int)) 0)) 1), .int .u64 (mX (got E3 (Ky.mk 13 (1 + (j : Int)) 0)) 2), .int .u64 (mX (got E3 (Ky.mk 13 (1 + (j : Int)) 0)) 3), .int .u64 (mX (got E3 (Ky.mk 13 (1 + (j : Int)) 0)) 4), .int .u64 (mX (got E3 (Ky.mk 13 (1 + (j : Int)) 0)) 5), .slice am nm cm], .bool (Kv.look E3 (Ky.mk 13 (1 + (j : Int)) 0)).isSome]), (117, pg g0), (118, .int .u64 (1 + (j : Int))), (119, .tuple #[.agg #[.int .u64 (mX (got E3 (Ky.mk 13 (1 + (j : Int)) 0)) 0), .int .u64 (mX (got E3 (Ky.mk 13 (1 + (j : Int)) 0)) 1), .int .u64 (mX (got E3 (Ky.mk 13 (1 + (j : Int)) 0)) 2), .int .u64 (mX (got E3 (Ky.mk 13 (1 + (j : Int)) 0)) 3), .int .u64 (mX (got E3 (Ky.mk 13 (1 + (j : Int)) 0)) 4), .int .u64 (mX (got E3 (Ky.mk 13 (1 + (j : Int)) 0)) 5), .slice am nm cm], .bool (Kv.look E3 (Ky.mk 13 (1 + (j : Int)) 0)).isSome]), (120, .agg #[.int .u64 (mX (got E3 (Ky.mk 13 (1 + (j : Int)) 0)) 0), .int .u64 (mX (got E3 (Ky.mk 13 (1 + (j : Int)) 0)) 1), .int .u64 (mX (got E3 (Ky.mk 13 (1 + (j : Int)) 0)) 2), .int .u64 (mX (got E3 (Ky.mk 13 (1 + (j : Int)) 0)) 3), .int .u64 (mX (got E3 (Ky.mk 13 (1 + (j : Int)) 0)) 4), .int .u64 (mX (got E3 (Ky.mk 13 (1 + (j : Int)) 0)) 5), .slice am nm cm]), (121, .bool (Kv.look E3 (Ky.mk 13 (1 + (j : Int)) 0)).isSome)] (by kernel_rfl) ?_
            refine gc_seq ?_
            refine gc_reg ?_
            refine t 123 (pg g1) ?_
            refine t 124 (.int .u64 (1 + (j : Int))) ?_
            have szP6b := fun b hb => A.sx.sa.lt (b := b) hb
            refine tc 125 38 #[pg g1, .int .u64 (1 + (j : Int))] (moving_any C2 hj1 (by omega) (by omega)) ?_
            rintro _ v48 ⟨a6b, n6b, c6b, rfl, z6b, K47, S, hK, hC, Q6b, m6b, hz6b⟩
            refine ⟨_, rfl, ?_⟩
            have uQ6b := hz6b.imp_right fun h1 h2 => Nat.lt_irrefl _ (Nat.lt_of_lt_of_le (szP6b _ h2) h1)
            clear szP6b
            replace BB := belowO BB hC (fun b hb => Nat.le_trans hwB (C2.kb b hb))
            have mXg35 := not_op Xg35 uXg35 hK
            replace Xg35 := Xg35.chg hC uXg35
            replace uXg35 := mXg35
            clear mXg35
            have mXg40 := not_op Xg40 uXg40 hK
            replace Xg40 := Xg40.chg hC uXg40
            replace uXg40 := mXg40
            clear mXg40
            have mQm := uqQ Qm uQm hK
            replace Qm := offQ Qm uQm hC
            replace uQm := mQm
            clear mQm
            have mXg45 := not_op Xg45 uXg45 hK
            replace Xg45 := Xg45.chg hC uXg45
            replace uXg45 := mXg45
            clear mXg45
            have dj2 := djS (djQ A.sx (djS dj) hK)
            have A2 := (besideQ A.sx C2 hC (djS dj)).at
            clear A
            have A := A2
            clear A2
            replace dj := dj2
            clear dj2
            clear C2
            have C2 := S
            clear S hK hC
            refine t 122 (.tuple #[.agg #[.int .u64 (mX (got E (Ky.mk 13 (1 + (j : Int)) 0)) 0), .int .u64 (mX (got E (Ky.mk 13 (1 + (j : Int)) 0)) 1), .int .u64 (mX (got E (Ky.mk 13 (1 + (j : Int)) 0)) 2), .int .u64 (mX (got E (Ky.mk 13 (1 + (j : Int)) 0)) 3), .int .u64 (mX (got E (Ky.mk 13 (1 + (j : Int)) 0)) 4), .int .u64 (mX (got E (Ky.mk 13 (1 + (j : Int)) 0)) 5), .slice a6b n6b c6b], .bool (Kv.look E (Ky.mk 13 (1 + (j : Int)) 0)).isSome]) ?_
            refine t 126 (.agg #[.int .u64 (mX (got E (Ky.mk 13 (1 + (j : Int)) 0)) 0), .int .u64 (mX (got E (Ky.mk 13 (1 + (j : Int)) 0)) 1), .int .u64 (mX (got E (Ky.mk 13 (1 + (j : Int)) 0)) 2), .int .u64 (mX (got E (Ky.mk 13 (1 + (j : Int)) 0)) 3), .int .u64 (mX (got E (Ky.mk 13 (1 + (j : Int)) 0)) 4), .int .u64 (mX (got E (Ky.mk 13 (1 + (j : Int)) 0)) 5), .slice a6b n6b c6b]) ?_
            refine t 127 (.bool (Kv.look E (Ky.mk 13 (1 + (j : Int)) 0)).isSome) ?_
            have lXg35 := Xg35.lt
            have lXg40 := Xg40.lt
            have lQm := Qm.lt
            have lXg45 := Xg45.lt
            have lQ6b := Q6b.lt
            refine ta 23 [.int .u64 0, .int .u64 0, .int .u64 0, .int .u64 0, .int .u64 0, .int .u64 0, .slice none 0 0] 51 (pg) ?_
            intro v49 g50 Xg50 hg50 B
            have uXg50 := newQ C2 hg50
            have yg50 := Nat.le_trans BB.size hg50
            have zg50 := Nat.le_trans A.size hg50
            have nXg50 := A.new hg50
            replace BB := joinB BB B
            replace A := A.keep B
            replace C2 := C2.keep B
            replace Xg35 := Xg35.keep B
            replace Xg40 := Xg40.keep B
            replace Qm := Qm.keep B
            replace Xg45 := Xg45.keep B
            replace Q6b := Q6b.keep B
            clear B
            refine ts Xg50 0 (.agg #[.int .u64 (mX (got E (Ky.mk 13 (1 + (j : Int)) 0)) 0), .int .u64 (mX (got E (Ky.mk 13 (1 + (j : Int)) 0)) 1), .int .u64 (mX (got E (Ky.mk 13 (1 + (j : Int)) 0)) 2), .int .u64 (mX (got E (Ky.mk 13 (1 + (j : Int)) 0)) 3), .int .u64 (mX (got E (Ky.mk 13 (1 + (j : Int)) 0)) 4), .int .u64 (mX (got E (Ky.mk 13 (1 + (j : Int)) 0)) 5), .slice a6b n6b c6b]) [.int .u64 (mX (got E (Ky.mk 13 (1 + (j : Int)) 0)) 0), .int .u64 (mX (got E (Ky.mk 13 (1 + (j : Int)) 0)) 1), .int .u64 (mX (got E (Ky.mk 13 (1 + (j : Int)) 0)) 2), .int .u64 (mX (got E (Ky.mk 13 (1 + (j : Int)) 0)) 3), .int .u64 (mX (got E (Ky.mk 13 (1 + (j : Int)) 0)) 4), .int .u64 (mX (got E (Ky.mk 13 (1 + (j : Int)) 0)) 5), .slice a6b n6b c6b] [.int .u64 (mX (got E (Ky.mk 13 (1 + (j : Int)) 0)) 0), .int .u64 (mX (got E (Ky.mk 13 (1 + (j : Int)) 0)) 1), .int .u64 (mX (got E (Ky.mk 13 (1 + (j : Int)) 0)) 2), .int .u64 (mX (got E (Ky.mk 13 (1 + (j : Int)) 0)) 3), .int .u64 (mX (got E (Ky.mk 13 (1 + (j : Int)) 0)) 4), .int .u64 (mX (got E (Ky.mk 13 (1 + (j : Int)) 0)) 5), .slice a6b n6b c6b] ?_
            intro v51 Y C
            replace BB := belowC BB C (by omega)
            replace A := Bk.At.cell A Xg50 C zg50 nXg50 (by decide)
            replace C2 := cellQ C2 Xg50 C uXg50 (by decide)
            replace Xg35 := Xg35.chg C (show g35 ≠ g50 by omega)
            replace Xg40 := Xg40.chg C (show g40 ≠ g50 by omega)
            replace Qm := Qm.cell C (show nm = 0 ∨ zm ≠ g50 by omega)
            replace Xg45 := Xg45.chg C (show g45 ≠ g50 by omega)
            replace Q6b := Q6b.cell C (show n6b = 0 ∨ z6b ≠ g50 by omega)
            clear C Xg50
            have Xg50 := Y
            clear Y
            refine t 24 (.bool (Kv.look E (Ky.mk 13 (1 + (j : Int)) 0)).isSome) ?_
            refine gl_nil ?_
            refine ge_then ?_
            refine gc_seq ?_
            refine gc_seq ?_
            refine gc_reg ?_
            refine t 128 (.int .u64 (1 + (j : Int))) ?_
            refine t 129 (.int .u64 (1 + (p : Int))) ?_
            by_cases cj : j = p
            · have hjp : (1 + (j : Int)) = (1 + (p : Int)) := by omega
              have hn12 : Kv.look E3 (Ky.mk 12 (1 + (j : Int)) 0) = none := by rw [hjp]; exact Q3.gone hid (.inl rfl)
              have hn13 : Kv.look E3 (Ky.mk 13 (1 + (j : Int)) 0) = none := by rw [hjp]; exact Q3.gone hid (.inr rfl)
              rw [hn12, hn13]
              have t52 : ((1 + (j : Int) : Int) = 1 + (p : Int)) := by omega
              refine tq 130 (.bool ((1 + (j : Int) : Int) == 1 + (p : Int))) (.bool true) (congrArg Value.bool (beq_iff_eq.2 t52)) ?_
              refine gl_nil ?_
              refine ge_then ?_
              refine gc_yes ?_
              refine gc_seq ?_
              refine gc_seq ?_
              refine gc_reg ?_
              refine t 131 (.bool false) ?_
              refine t 132 (.bool false) ?_
              refine t 133 (.bool false) ?_
              refine t 134 (.bool false) ?_
              refine gl_nil ?_
              refine ge_then ?_
              refine gc_fr [(0, .slice ao n c), (9, pg g0), (11, pg g1), (12, .int .u64 (1 + (p : Int))), (16, .int .u64 (1 + (j : Int))), (17, pg g35), (18, .bool false), (19, pg g40), (20, .bool (Kv.look E (Ky.mk 12 (1 + (j : Int)) 0)).isSome), (21, pg g45), (22, .bool false), (23, pg g50), (24, .bool (Kv.look E (Ky.mk 13 (1 + (j : Int)) 0)).isSome), (97, .int .u64 (1 + (j : Int))), (98, .slice ao n c), (99, .int .i64 ((n : Nat) : Int)), (100, .int .u64 (n : Int)), (101, .bool true), (104, .tuple #[.agg #[.int .u64 (uX (got E3 (Ky.mk 12 (1 + (j : Int)) 0)) 0), .int .u64 (uX (got E3 (Ky.mk 12 (1 + (j : Int)) 0)) 1), .int .u64 (uX (got E3 (Ky.mk 12 (1 + (j : Int)) 0)) 2), .int .u64 (uX (got E3 (Ky.mk 12 (1 + (j : Int)) 0)) 3), .int .u64 (uX (got E3 (Ky.mk 12 (1 + (j : Int)) 0)) 4), .int .u64 (uX (got E3 (Ky.mk 12 (1 + (j : Int)) 0)) 5)], .bool false]), (105, pg g0), (106, .int .u64 (1 + (j : Int))), (107, .tuple #[.agg #[.int .u64 (uX (got E3 (Ky.mk 12 (1 + (j : Int)) 0)) 0), .int .u64 (uX (got E3 (Ky.mk 12 (1 + (j : Int)) 0)) 1), .int .u64 (uX (got E3 (Ky.mk 12 (1 + (j : Int)) 0)) 2), .int .u64 (uX (got E3 (Ky.mk 12 (1 + (j : Int)) 0)) 3), .int .u64 (uX (got E3 (Ky.mk 12 (1 + (j : Int)) 0)) 4), .int .u64 (uX (got E3 (Ky.mk 12 (1 + (j : Int)) 0)) 5)], .bool false]), (108, .agg #[.int .u64 (uX (got E3 (Ky.mk 12 (1 + (j : Int)) 0)) 0), .int .u64 (uX (got E3 (Ky.mk 12 (1 + (j : Int)) 0)) 1), .int .u64 (uX (got E3 (Ky.mk 12 (1 + (j : Int)) 0)) 2), .int .u64 (uX (got E3 (Ky.mk 12 (1 + (j : Int)) 0)) 3), .int .u64 (uX (got E3 (Ky.mk 12 (1 + (j : Int)) 0)) 4), .int .u64 (uX (got E3 (Ky.mk 12 (1 + (j : Int)) 0)) 5)]), (109, .bool false), (110, .tuple #[.agg #[.int .u64 (uX (got E (Ky.mk 12 (1 + (j : Int)) 0)) 0), .int .u64 (uX (got E (Ky.mk 12 (1 + (j : Int)) 0)) 1), .int .u64 (uX (got E (Ky.mk 12 (1 + (j : Int)) 0)) 2), .int .u64 (uX (got E (Ky.mk 12 (1 + (j : Int)) 0)) 3), .int .u64 (uX (got E (Ky.mk 12 (1 + (j : Int)) 0)) 4), .int .u64 (uX (got E (Ky.mk 12 (1 + (j : Int)) 0)) 5)], .bool (Kv.look E (Ky.mk 12 (1 + (j : Int)) 0)).isSome]), (111, pg g1), (112, .int .u64 (1 + (j : Int))), (113, .tuple #[.agg #[.int .u64 (uX (got E (Ky.mk 12 (1 + (j : Int)) 0)) 0), .int .u64 (uX (got E (Ky.mk 12 (1 + (j : Int)) 0)) 1), .int .u64 (uX (got E (Ky.mk 12 (1 + (j : Int)) 0)) 2), .int .u64 (uX (got E (Ky.mk 12 (1 + (j : Int)) 0)) 3), .int .u64 (uX (got E (Ky.mk 12 (1 + (j : Int)) 0)) 4), .int .u64 (uX (got E (Ky.mk 12 (1 + (j : Int)) 0)) 5)], .bool (Kv.look E (Ky.mk 12 (1 + (j : Int)) 0)).isSome]), (114, .agg #[.int .u64 (uX (got E (Ky.mk 12 (1 + (j : Int)) 0)) 0), .int .u64 (uX (got E (Ky.mk 12 (1 + (j : Int)) 0)) 1), .int .u64 (uX (got E (Ky.mk 12 (1 + (j : Int)) 0)) 2), .int .u64 (uX (got E (Ky.mk 12 (1 + (j : Int)) 0)) 3), .int .u64 (uX (got E (Ky.mk 12 (1 + (j : Int)) 0)) 4), .int .u64 (uX (got E (Ky.mk 12 (1 + (j : Int)) 0)) 5)]), (115, .bool (Kv.look E (Ky.mk 12 (1 + (j : Int)) 0)).isSome), (116, .tuple #[.agg #[.int .u64 (mX (got E3 (Ky.mk 13 (1 + (j : Int)) 0)) 0), .int .u64 (mX (got E3 (Ky.mk 13 (1 + (j : Int)) 0)) 1), .int .u64 (mX (got E3 (Ky.mk 13 (1 + (j : Int)) 0)) 2), .int .u64 (mX (got E3 (Ky.mk 13 (1 + (j : Int)) 0)) 3), .int .u64 (mX (got E3 (Ky.mk 13 (1 + (j : Int)) 0)) 4), .int .u64 (mX (got E3 (Ky.mk 13 (1 + (j : Int)) 0)) 5), .slice am nm cm], .bool false]), (117, pg g0), (118, .int .u64 (1 + (j : Int))), (119, .tuple #[.agg #[.int .u64 (mX (got E3 (Ky.mk 13 (1 + (j : Int)) 0)) 0), .int .u64 (mX (got E3 (Ky.mk 13 (1 + (j : Int)) 0)) 1), .int .u64 (mX (got E3 (Ky.mk 13 (1 + (j : Int)) 0)) 2), .int .u64 (mX (got E3 (Ky.mk 13 (1 + (j : Int)) 0)) 3), .int .u64 (mX (got E3 (Ky.mk 13 (1 + (j : Int)) 0)) 4), .int .u64 (mX (got E3 (Ky.mk 13 (1 + (j : Int)) 0)) 5), .slice am nm cm], .bool false]), (120, .agg #[.int .u64 (mX (got E3 (Ky.mk 13 (1 + (j : Int)) 0)) 0), .int .u64 (mX (got E3 (Ky.mk 13 (1 + (j : Int)) 0)) 1), .int .u64 (mX (got E3 (Ky.mk 13 (1 + (j : Int)) 0)) 2), .int .u64 (mX (got E3 (Ky.mk 13 (1 + (j : Int)) 0)) 3), .int .u64 (mX (got E3 (Ky.mk 13 (1 + (j : Int)) 0)) 4), .int .u64 (mX (got E3 (Ky.mk 13 (1 + (j : Int)) 0)) 5), .slice am nm cm]), (121, .bool false), (122, .tuple #[.agg #[.int .u64 (mX (got E (Ky.mk 13 (1 + (j : Int)) 0)) 0), .int .u64 (mX (got E (Ky.mk 13 (1 + (j : Int)) 0)) 1), .int .u64 (mX (got E (Ky.mk 13 (1 + (j : Int)) 0)) 2), .int .u64 (mX (got E (Ky.mk 13 (1 + (j : Int)) 0)) 3), .int .u64 (mX (got E (Ky.mk 13 (1 + (j : Int)) 0)) 4), .int .u64 (mX (got E (Ky.mk 13 (1 + (j : Int)) 0)) 5), .slice a6b n6b c6b], .bool (Kv.look E (Ky.mk 13 (1 + (j : Int)) 0)).isSome]), (123, pg g1), (124, .int .u64 (1 + (j : Int))), (125, .tuple #[.agg #[.int .u64 (mX (got E (Ky.mk 13 (1 + (j : Int)) 0)) 0), .int .u64 (mX (got E (Ky.mk 13 (1 + (j : Int)) 0)) 1), .int .u64 (mX (got E (Ky.mk 13 (1 + (j : Int)) 0)) 2), .int .u64 (mX (got E (Ky.mk 13 (1 + (j : Int)) 0)) 3), .int .u64 (mX (got E (Ky.mk 13 (1 + (j : Int)) 0)) 4), .int .u64 (mX (got E (Ky.mk 13 (1 + (j : Int)) 0)) 5), .slice a6b n6b c6b], .bool (Kv.look E (Ky.mk 13 (1 + (j : Int)) 0)).isSome]), (126, .agg #[.int .u64 (mX (got E (Ky.mk 13 (1 + (j : Int)) 0)) 0), .int .u64 (mX (got E (Ky.mk 13 (1 + (j : Int)) 0)) 1), .int .u64 (mX (got E (Ky.mk 13 (1 + (j : Int)) 0)) 2), .int .u64 (mX (got E (Ky.mk 13 (1 + (j : Int)) 0)) 3), .int .u64 (mX (got E (Ky.mk 13 (1 + (j : Int)) 0)) 4), .int .u64 (mX (got E (Ky.mk 13 (1 + (j : Int)) 0)) 5), .slice a6b n6b c6b]), (127, .bool (Kv.look E (Ky.mk 13 (1 + (j : Int)) 0)).isSome), (128, .int .u64 (1 + (j : Int))), (129, .int .u64 (1 + (p : Int))), (130, .bool true), (131, .bool false), (132, .bool false), (133, .bool false), (134, .bool false)] (by kernel_rfl) ?_
              refine gc_no ?_
              refine gc_skip ?_
              refine ge_then ?_
              refine gc_exit ?_
              refine ge_tx ?_
              refine ge_bx ?_
              refine ge_then ?_
              refine gc_reg ?_
              refine t 102 (.int .u64 (1 + (j : Int))) ?_
              refine tq 103 (.int .u64 (IntKind.u64.wrap ((1 + (j : Int)) + 1))) (.int .u64 (1 + ((j + 1 : Nat) : Int))) (congrArg (Value.int .u64) (by rw [IntKind.wrap_u64]; omega)) ?_
              refine t 16 (.int .u64 (1 + ((j + 1 : Nat) : Int))) ?_
              refine gl_nil ?_
              exact ge_round (j + 1) (by show n - (j + 1) < n - j; omega) ⟨by omega, BB, _, _, _, _, _, A.sx, C2, dj, by omega, by omega, by omega⟩ (by kernel_rfl)
            · have hjp : (1 + (j : Int)) ≠ (1 + (p : Int)) := by omega
              have hl12 := d3 12 (1 + (j : Int)) (.inl rfl) hj1 hjp
              have hl13 := d3 13 (1 + (j : Int)) (.inr rfl) hj1 hjp
              have hg12 : got E3 (Ky.mk 12 (1 + (j : Int)) 0) = got E (Ky.mk 12 (1 + (j : Int)) 0) := by unfold got; rw [hl12]
              have hg13 : got E3 (Ky.mk 13 (1 + (j : Int)) 0) = got E (Ky.mk 13 (1 + (j : Int)) 0) := by unfold got; rw [hl13]
              rw [hl12, hl13]
              rw [hg12] at Xg35
              rw [hg13] at Xg45 Qm
              have t53 : ¬ ((1 + (j : Int) : Int) = 1 + (p : Int)) := by omega
              refine tq 130 (.bool ((1 + (j : Int) : Int) == 1 + (p : Int))) (.bool false) (congrArg Value.bool (beq_eq_false_iff_ne.2 t53)) ?_
              refine gl_nil ?_
              refine ge_then ?_
              refine gc_no ?_
              refine gc_skip ?_
              refine ge_then ?_
              refine gc_seq ?_
              refine gc_reg ?_
              refine tlr 135 [.int .u64 (uX (got E (Ky.mk 12 (1 + (j : Int)) 0)) 0), .int .u64 (uX (got E (Ky.mk 12 (1 + (j : Int)) 0)) 1), .int .u64 (uX (got E (Ky.mk 12 (1 + (j : Int)) 0)) 2), .int .u64 (uX (got E (Ky.mk 12 (1 + (j : Int)) 0)) 3), .int .u64 (uX (got E (Ky.mk 12 (1 + (j : Int)) 0)) 4), .int .u64 (uX (got E (Ky.mk 12 (1 + (j : Int)) 0)) 5)] Xg35 0 ?_
              refine tlr 136 [.int .u64 (uX (got E (Ky.mk 12 (1 + (j : Int)) 0)) 0), .int .u64 (uX (got E (Ky.mk 12 (1 + (j : Int)) 0)) 1), .int .u64 (uX (got E (Ky.mk 12 (1 + (j : Int)) 0)) 2), .int .u64 (uX (got E (Ky.mk 12 (1 + (j : Int)) 0)) 3), .int .u64 (uX (got E (Ky.mk 12 (1 + (j : Int)) 0)) 4), .int .u64 (uX (got E (Ky.mk 12 (1 + (j : Int)) 0)) 5)] Xg40 0 ?_
              refine tr 137 (.bool false) (run_nqU (x0 := uX (got E (Ky.mk 12 (1 + (j : Int)) 0)) 0) (x1 := uX (got E (Ky.mk 12 (1 + (j : Int)) 0)) 1) (x2 := uX (got E (Ky.mk 12 (1 + (j : Int)) 0)) 2) (x3 := uX (got E (Ky.mk 12 (1 + (j : Int)) 0)) 3) (x4 := uX (got E (Ky.mk 12 (1 + (j : Int)) 0)) 4) (x5 := uX (got E (Ky.mk 12 (1 + (j : Int)) 0)) 5)) ?_
              refine t 138 (.bool false) ?_
              refine t 139 (.bool (Kv.look E (Ky.mk 12 (1 + (j : Int)) 0)).isSome) ?_
              refine t 140 (.bool (Kv.look E (Ky.mk 12 (1 + (j : Int)) 0)).isSome) ?_
              refine tq 141 (.bool ((Kv.look E (Ky.mk 12 (1 + (j : Int)) 0)).isSome != (Kv.look E (Ky.mk 12 (1 + (j : Int)) 0)).isSome)) (.bool false) (congrArg Value.bool (bne_self_eq_false _)) ?_
              refine t 142 (.bool false) ?_
              refine t 143 (.bool false) ?_
              refine tlr 144 [.int .u64 (mX (got E (Ky.mk 13 (1 + (j : Int)) 0)) 0), .int .u64 (mX (got E (Ky.mk 13 (1 + (j : Int)) 0)) 1), .int .u64 (mX (got E (Ky.mk 13 (1 + (j : Int)) 0)) 2), .int .u64 (mX (got E (Ky.mk 13 (1 + (j : Int)) 0)) 3), .int .u64 (mX (got E (Ky.mk 13 (1 + (j : Int)) 0)) 4), .int .u64 (mX (got E (Ky.mk 13 (1 + (j : Int)) 0)) 5), .slice am nm cm] Xg45 0 ?_
              refine tlr 145 [.int .u64 (mX (got E (Ky.mk 13 (1 + (j : Int)) 0)) 0), .int .u64 (mX (got E (Ky.mk 13 (1 + (j : Int)) 0)) 1), .int .u64 (mX (got E (Ky.mk 13 (1 + (j : Int)) 0)) 2), .int .u64 (mX (got E (Ky.mk 13 (1 + (j : Int)) 0)) 3), .int .u64 (mX (got E (Ky.mk 13 (1 + (j : Int)) 0)) 4), .int .u64 (mX (got E (Ky.mk 13 (1 + (j : Int)) 0)) 5), .slice a6b n6b c6b] Xg50 0 ?_
              refine tc 146 39 #[.agg #[.int .u64 (mX (got E (Ky.mk 13 (1 + (j : Int)) 0)) 0), .int .u64 (mX (got E (Ky.mk 13 (1 + (j : Int)) 0)) 1), .int .u64 (mX (got E (Ky.mk 13 (1 + (j : Int)) 0)) 2), .int .u64 (mX (got E (Ky.mk 13 (1 + (j : Int)) 0)) 3), .int .u64 (mX (got E (Ky.mk 13 (1 + (j : Int)) 0)) 4), .int .u64 (mX (got E (Ky.mk 13 (1 + (j : Int)) 0)) 5), .slice am nm cm], .agg #[.int .u64 (mX (got E (Ky.mk 13 (1 + (j : Int)) 0)) 0), .int .u64 (mX (got E (Ky.mk 13 (1 + (j : Int)) 0)) 1), .int .u64 (mX (got E (Ky.mk 13 (1 + (j : Int)) 0)) 2), .int .u64 (mX (got E (Ky.mk 13 (1 + (j : Int)) 0)) 3), .int .u64 (mX (got E (Ky.mk 13 (1 + (j : Int)) 0)) 4), .int .u64 (mX (got E (Ky.mk 13 (1 + (j : Int)) 0)) 5), .slice a6b n6b c6b]] (move_same Qm.o Q6b.o (Nat.le_trans mm (by decide)) (Nat.le_trans m6b (by decide))) ?_
              rintro _ v54 ⟨rfl, B⟩
              refine ⟨_, rfl, ?_⟩
              replace BB := joinB BB B
              replace A := A.keep B
              replace C2 := C2.keep B
              replace Xg35 := Xg35.keep B
              replace Xg40 := Xg40.keep B
              replace Qm := Qm.keep B
              replace Xg45 := Xg45.keep B
              replace Q6b := Q6b.keep B
              replace Xg50 := Xg50.keep B
              clear B
              clear Qm
              clear Q6b
              refine t 147 (.bool false) ?_
              refine t 148 (.bool false) ?_
              refine t 149 (.bool false) ?_
              refine t 150 (.bool (Kv.look E (Ky.mk 13 (1 + (j : Int)) 0)).isSome) ?_
              refine t 151 (.bool (Kv.look E (Ky.mk 13 (1 + (j : Int)) 0)).isSome) ?_
              refine tq 152 (.bool ((Kv.look E (Ky.mk 13 (1 + (j : Int)) 0)).isSome != (Kv.look E (Ky.mk 13 (1 + (j : Int)) 0)).isSome)) (.bool false) (congrArg Value.bool (bne_self_eq_false _)) ?_
              refine t 153 (.bool false) ?_
              refine gl_nil ?_
              refine ge_then ?_
              refine gc_fr [(0, .slice ao n c), (9, pg g0), (11, pg g1), (12, .int .u64 (1 + (p : Int))), (16, .int .u64 (1 + (j : Int))), (17, pg g35), (18, .bool (Kv.look E (Ky.mk 12 (1 + (j : Int)) 0)).isSome), (19, pg g40), (20, .bool (Kv.look E (Ky.mk 12 (1 + (j : Int)) 0)).isSome), (21, pg g45), (22, .bool (Kv.look E (Ky.mk 13 (1 + (j : Int)) 0)).isSome), (23, pg g50), (24, .bool (Kv.look E (Ky.mk 13 (1 + (j : Int)) 0)).isSome), (97, .int .u64 (1 + (j : Int))), (98, .slice ao n c), (99, .int .i64 ((n : Nat) : Int)), (100, .int .u64 (n : Int)), (101, .bool true), (104, .tuple #[.agg #[.int .u64 (uX (got E3 (Ky.mk 12 (1 + (j : Int)) 0)) 0), .int .u64 (uX (got E3 (Ky.mk 12 (1 + (j : Int)) 0)) 1), .int .u64 (uX (got E3 (Ky.mk 12 (1 + (j : Int)) 0)) 2), .int .u64 (uX (got E3 (Ky.mk 12 (1 + (j : Int)) 0)) 3), .int .u64 (uX (got E3 (Ky.mk 12 (1 + (j : Int)) 0)) 4), .int .u64 (uX (got E3 (Ky.mk 12 (1 + (j : Int)) 0)) 5)], .bool (Kv.look E (Ky.mk 12 (1 + (j : Int)) 0)).isSome]), (105, pg g0), (106, .int .u64 (1 + (j : Int))), (107, .tuple #[.agg #[.int .u64 (uX (got E3 (Ky.mk 12 (1 + (j : Int)) 0)) 0), .int .u64 (uX (got E3 (Ky.mk 12 (1 + (j : Int)) 0)) 1), .int .u64 (uX (got E3 (Ky.mk 12 (1 + (j : Int)) 0)) 2), .int .u64 (uX (got E3 (Ky.mk 12 (1 + (j : Int)) 0)) 3), .int .u64 (uX (got E3 (Ky.mk 12 (1 + (j : Int)) 0)) 4), .int .u64 (uX (got E3 (Ky.mk 12 (1 + (j : Int)) 0)) 5)], .bool (Kv.look E (Ky.mk 12 (1 + (j : Int)) 0)).isSome]), (108, .agg #[.int .u64 (uX (got E3 (Ky.mk 12 (1 + (j : Int)) 0)) 0), .int .u64 (uX (got E3 (Ky.mk 12 (1 + (j : Int)) 0)) 1), .int .u64 (uX (got E3 (Ky.mk 12 (1 + (j : Int)) 0)) 2), .int .u64 (uX (got E3 (Ky.mk 12 (1 + (j : Int)) 0)) 3), .int .u64 (uX (got E3 (Ky.mk 12 (1 + (j : Int)) 0)) 4), .int .u64 (uX (got E3 (Ky.mk 12 (1 + (j : Int)) 0)) 5)]), (109, .bool (Kv.look E (Ky.mk 12 (1 + (j : Int)) 0)).isSome), (110, .tuple #[.agg #[.int .u64 (uX (got E (Ky.mk 12 (1 + (j : Int)) 0)) 0), .int .u64 (uX (got E (Ky.mk 12 (1 + (j : Int)) 0)) 1), .int .u64 (uX (got E (Ky.mk 12 (1 + (j : Int)) 0)) 2), .int .u64 (uX (got E (Ky.mk 12 (1 + (j : Int)) 0)) 3), .int .u64 (uX (got E (Ky.mk 12 (1 + (j : Int)) 0)) 4), .int .u64 (uX (got E (Ky.mk 12 (1 + (j : Int)) 0)) 5)], .bool (Kv.look E (Ky.mk 12 (1 + (j : Int)) 0)).isSome]), (111, pg g1), (112, .int .u64 (1 + (j : Int))), (113, .tuple #[.agg #[.int .u64 (uX (got E (Ky.mk 12 (1 + (j : Int)) 0)) 0), .int .u64 (uX (got E (Ky.mk 12 (1 + (j : Int)) 0)) 1), .int .u64 (uX (got E (Ky.mk 12 (1 + (j : Int)) 0)) 2), .int .u64 (uX (got E (Ky.mk 12 (1 + (j : Int)) 0)) 3), .int .u64 (uX (got E (Ky.mk 12 (1 + (j : Int)) 0)) 4), .int .u64 (uX (got E (Ky.mk 12 (1 + (j : Int)) 0)) 5)], .bool (Kv.look E (Ky.mk 12 (1 + (j : Int)) 0)).isSome]), (114, .agg #[.int .u64 (uX (got E (Ky.mk 12 (1 + (j : Int)) 0)) 0), .int .u64 (uX (got E (Ky.mk 12 (1 + (j : Int)) 0)) 1), .int .u64 (uX (got E (Ky.mk 12 (1 + (j : Int)) 0)) 2), .int .u64 (uX (got E (Ky.mk 12 (1 + (j : Int)) 0)) 3), .int .u64 (uX (got E (Ky.mk 12 (1 + (j : Int)) 0)) 4), .int .u64 (uX (got E (Ky.mk 12 (1 + (j : Int)) 0)) 5)]), (115, .bool (Kv.look E (Ky.mk 12 (1 + (j : Int)) 0)).isSome), (116, .tuple #[.agg #[.int .u64 (mX (got E3 (Ky.mk 13 (1 + (j : Int)) 0)) 0), .int .u64 (mX (got E3 (Ky.mk 13 (1 + (j : Int)) 0)) 1), .int .u64 (mX (got E3 (Ky.mk 13 (1 + (j : Int)) 0)) 2), .int .u64 (mX (got E3 (Ky.mk 13 (1 + (j : Int)) 0)) 3), .int .u64 (mX (got E3 (Ky.mk 13 (1 + (j : Int)) 0)) 4), .int .u64 (mX (got E3 (Ky.mk 13 (1 + (j : Int)) 0)) 5), .slice am nm cm], .bool (Kv.look E (Ky.mk 13 (1 + (j : Int)) 0)).isSome]), (117, pg g0), (118, .int .u64 (1 + (j : Int))), (119, .tuple #[.agg #[.int .u64 (mX (got E3 (Ky.mk 13 (1 + (j : Int)) 0)) 0), .int .u64 (mX (got E3 (Ky.mk 13 (1 + (j : Int)) 0)) 1), .int .u64 (mX (got E3 (Ky.mk 13 (1 + (j : Int)) 0)) 2), .int .u64 (mX (got E3 (Ky.mk 13 (1 + (j : Int)) 0)) 3), .int .u64 (mX (got E3 (Ky.mk 13 (1 + (j : Int)) 0)) 4), .int .u64 (mX (got E3 (Ky.mk 13 (1 + (j : Int)) 0)) 5), .slice am nm cm], .bool (Kv.look E (Ky.mk 13 (1 + (j : Int)) 0)).isSome]), (120, .agg #[.int .u64 (mX (got E3 (Ky.mk 13 (1 + (j : Int)) 0)) 0), .int .u64 (mX (got E3 (Ky.mk 13 (1 + (j : Int)) 0)) 1), .int .u64 (mX (got E3 (Ky.mk 13 (1 + (j : Int)) 0)) 2), .int .u64 (mX (got E3 (Ky.mk 13 (1 + (j : Int)) 0)) 3), .int .u64 (mX (got E3 (Ky.mk 13 (1 + (j : Int)) 0)) 4), .int .u64 (mX (got E3 (Ky.mk 13 (1 + (j : Int)) 0)) 5), .slice am nm cm]), (121, .bool (Kv.look E (Ky.mk 13 (1 + (j : Int)) 0)).isSome), (122, .tuple #[.agg #[.int .u64 (mX (got E (Ky.mk 13 (1 + (j : Int)) 0)) 0), .int .u64 (mX (got E (Ky.mk 13 (1 + (j : Int)) 0)) 1), .int .u64 (mX (got E (Ky.mk 13 (1 + (j : Int)) 0)) 2), .int .u64 (mX (got E (Ky.mk 13 (1 + (j : Int)) 0)) 3), .int .u64 (mX (got E (Ky.mk 13 (1 + (j : Int)) 0)) 4), .int .u64 (mX (got E (Ky.mk 13 (1 + (j : Int)) 0)) 5), .slice a6b n6b c6b], .bool (Kv.look E (Ky.mk 13 (1 + (j : Int)) 0)).isSome]), (123, pg g1), (124, .int .u64 (1 + (j : Int))), (125, .tuple #[.agg #[.int .u64 (mX (got E (Ky.mk 13 (1 + (j : Int)) 0)) 0), .int .u64 (mX (got E (Ky.mk 13 (1 + (j : Int)) 0)) 1), .int .u64 (mX (got E (Ky.mk 13 (1 + (j : Int)) 0)) 2), .int .u64 (mX (got E (Ky.mk 13 (1 + (j : Int)) 0)) 3), .int .u64 (mX (got E (Ky.mk 13 (1 + (j : Int)) 0)) 4), .int .u64 (mX (got E (Ky.mk 13 (1 + (j : Int)) 0)) 5), .slice a6b n6b c6b], .bool (Kv.look E (Ky.mk 13 (1 + (j : Int)) 0)).isSome]), (126, .agg #[.int .u64 (mX (got E (Ky.mk 13 (1 + (j : Int)) 0)) 0), .int .u64 (mX (got E (Ky.mk 13 (1 + (j : Int)) 0)) 1), .int .u64 (mX (got E (Ky.mk 13 (1 + (j : Int)) 0)) 2), .int .u64 (mX (got E (Ky.mk 13 (1 + (j : Int)) 0)) 3), .int .u64 (mX (got E (Ky.mk 13 (1 + (j : Int)) 0)) 4), .int .u64 (mX (got E (Ky.mk 13 (1 + (j : Int)) 0)) 5), .slice a6b n6b c6b]), (127, .bool (Kv.look E (Ky.mk 13 (1 + (j : Int)) 0)).isSome), (128, .int .u64 (1 + (j : Int))), (129, .int .u64 (1 + (p : Int))), (130, .bool false), (135, .agg #[.int .u64 (uX (got E (Ky.mk 12 (1 + (j : Int)) 0)) 0), .int .u64 (uX (got E (Ky.mk 12 (1 + (j : Int)) 0)) 1), .int .u64 (uX (got E (Ky.mk 12 (1 + (j : Int)) 0)) 2), .int .u64 (uX (got E (Ky.mk 12 (1 + (j : Int)) 0)) 3), .int .u64 (uX (got E (Ky.mk 12 (1 + (j : Int)) 0)) 4), .int .u64 (uX (got E (Ky.mk 12 (1 + (j : Int)) 0)) 5)]), (136, .agg #[.int .u64 (uX (got E (Ky.mk 12 (1 + (j : Int)) 0)) 0), .int .u64 (uX (got E (Ky.mk 12 (1 + (j : Int)) 0)) 1), .int .u64 (uX (got E (Ky.mk 12 (1 + (j : Int)) 0)) 2), .int .u64 (uX (got E (Ky.mk 12 (1 + (j : Int)) 0)) 3), .int .u64 (uX (got E (Ky.mk 12 (1 + (j : Int)) 0)) 4), .int .u64 (uX (got E (Ky.mk 12 (1 + (j : Int)) 0)) 5)]), (137, .bool false), (138, .bool false), (139, .bool (Kv.look E (Ky.mk 12 (1 + (j : Int)) 0)).isSome), (140, .bool (Kv.look E (Ky.mk 12 (1 + (j : Int)) 0)).isSome), (141, .bool false), (142, .bool false), (143, .bool false), (144, .agg #[.int .u64 (mX (got E (Ky.mk 13 (1 + (j : Int)) 0)) 0), .int .u64 (mX (got E (Ky.mk 13 (1 + (j : Int)) 0)) 1), .int .u64 (mX (got E (Ky.mk 13 (1 + (j : Int)) 0)) 2), .int .u64 (mX (got E (Ky.mk 13 (1 + (j : Int)) 0)) 3), .int .u64 (mX (got E (Ky.mk 13 (1 + (j : Int)) 0)) 4), .int .u64 (mX (got E (Ky.mk 13 (1 + (j : Int)) 0)) 5), .slice am nm cm]), (145, .agg #[.int .u64 (mX (got E (Ky.mk 13 (1 + (j : Int)) 0)) 0), .int .u64 (mX (got E (Ky.mk 13 (1 + (j : Int)) 0)) 1), .int .u64 (mX (got E (Ky.mk 13 (1 + (j : Int)) 0)) 2), .int .u64 (mX (got E (Ky.mk 13 (1 + (j : Int)) 0)) 3), .int .u64 (mX (got E (Ky.mk 13 (1 + (j : Int)) 0)) 4), .int .u64 (mX (got E (Ky.mk 13 (1 + (j : Int)) 0)) 5), .slice a6b n6b c6b]), (146, .bool true), (147, .bool false), (148, .bool false), (149, .bool false), (150, .bool (Kv.look E (Ky.mk 13 (1 + (j : Int)) 0)).isSome), (151, .bool (Kv.look E (Ky.mk 13 (1 + (j : Int)) 0)).isSome), (152, .bool false), (153, .bool false)] (by kernel_rfl) ?_
              refine gc_no ?_
              refine gc_skip ?_
              refine ge_bn ?_
              refine ge_then ?_
              refine gc_reg ?_
              refine t 102 (.int .u64 (1 + (j : Int))) ?_
              refine tq 103 (.int .u64 (IntKind.u64.wrap ((1 + (j : Int)) + 1))) (.int .u64 (1 + ((j + 1 : Nat) : Int))) (congrArg (Value.int .u64) (by rw [IntKind.wrap_u64]; omega)) ?_
              refine t 16 (.int .u64 (1 + ((j + 1 : Nat) : Int))) ?_
              refine gl_nil ?_
              exact ge_round (j + 1) (by show n - (j + 1) < n - j; omega) ⟨by omega, BB, _, _, _, _, _, A.sx, C2, dj, by omega, by omega, by omega⟩ (by kernel_rfl)
          · refine tq 101 (.bool (decide ((1 + (j : Int) : Int) ≤ (n : Int)))) (.bool false) (congrArg Value.bool (decide_eq_false cl)) ?_
            refine gl_nil ?_
            refine ge_then ?_
            refine gc_no ?_
            refine gc_exit ?_
            refine ge_tx ?_
            refine ge_tx ?_
            refine ge_bx ?_
            refine ge_then ?_
            refine gc_seq ?_
            refine gc_reg ?_
            refine t 154 (pg g0) ?_
            have lgnd := A.sx.sa.lt A.sx.sa.top
            refine tc 155 32 #[pg g0, .int .u64 18446744073709551615] (due_x A.sx (by decide) Q3.keys (by omega) (by omega)) ?_
            rintro _ v55 ⟨dv, nd, rfl, UD, S, qnda, qndb, qndc, C⟩
            refine ⟨_, rfl, ?_⟩
            have hC := C.mono (fun b _ (e : b = g0) => e ▸ A.sx.sa.top)
            replace BB := belowO BB hC (fun b hb => Nat.le_trans hwB (A.sx.kb b hb))
            have dj2 := djQ C2 dj (fun _ h => .inl h)
            replace C2 := besideQ C2 A.sx hC dj
            replace dj := dj2
            clear dj2
            replace A := A.op S (fun _ h => .inl h) hC
            clear S hC C
            obtain ⟨da, dc, rfl⟩ := UD.shape
            obtain ⟨dl, hdl⟩ : ∃ m, (upto E3 (p14 18446744073709551615)).length = m := ⟨_, rfl⟩
            have hdn : dl + 1 = n := by rw [← hdl, Q3.dueLen hnx]; have := less1A_len Q.ids he; rw [hei] at this; omega
            rw [hdl] at UD ⊢
            refine t 156 (.int .i64 ((dl : Nat) : Int)) ?_
            refine t 157 (.slice ao n c) ?_
            refine t 158 (.int .i64 ((n : Nat) : Int)) ?_
            refine tq 159 (.int .i64 (IntKind.i64.wrap (((n : Nat) : Int) - 1))) (.int .i64 (((n : Nat) : Int) - 1)) (wi (by omega)) ?_
            have t56 : ((dl : Nat) : Int) = ((n : Nat) : Int) - 1 := by omega
            refine tq 160 (.bool (((dl : Nat) : Int) == ((n : Nat) : Int) - 1)) (.bool true) (congrArg Value.bool (beq_iff_eq.2 t56)) ?_
            refine t 8 (.bool true) ?_
            refine gl_nil ?_
            refine ge_then ?_
            refine gc_fr [(8, .bool true)] (by kernel_rfl) ?_
            refine gc_ret ?_
            refine ge_ret (.bool true) (rs1 8 (by kernel_rfl) (by kernel_rfl)) ?_
            exact ⟨rfl, BB⟩
end Qu
end Go.Proofs.YtliajmpchofiiaaGreat
