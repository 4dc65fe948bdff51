/- gleanlaw13.F1Counts. -/
import Derived.Test.YtjejmkcjflhoiaaGreatDoorJax
import Derived.Test.YtjejmkcjflhoiaaGreatDoorJaB
namespace Go.Proofs.YtjejmkcjflhoiaaGreatDoor
namespace Fo
open Go.RowKit Go.Lib Pg Lim Gl Kv Bk Pw
attribute [local go_sem] Oper.semAt_some
set_option maxRecDepth 100000
set_option linter.unusedVariables false
set_option linter.unusedSimpArgs false
set_option maxHeartbeats 4000000
theorem f1Counts_walk {w : World} {tok : Int} {ao : Option Addr} {cnt cp pb po : Nat} {sw sa sn : Nat → Int} {aa : Nat → Option Addr} {ns cc : Nat → Nat} {xs : Nat → Int} (htok : 0 ≤ tok ∧ tok < 18446744073709551616) (SA : StpF w ao cnt pb po sw sa sn aa ns cc xs) : Calls Tryz.prog 3 #[.int .u64 tok, .slice ao cnt cp] w fun e w' => e = .returned (.bool true) ∧ Below w.heap.size w w' := by
  obtain ⟨nn, hnn⟩ : ∃ nn : Int, nn = 1 + tok % 1000000 := ⟨_, rfl⟩
  have hn1 : 1 ≤ nn ∧ nn ≤ 1000000 := by omega
  obtain ⟨T, hTe⟩ : ∃ T : Int, T = nn * U36 := ⟨_, rfl⟩
  have hT : T ≤ 1000000 * U36 := by rw [hTe]; exact Int.mul_le_mul_of_nonneg_right hn1.2 (by decide)
  have I0 := st0_iv hn1
  rw [← hTe] at I0
  have hfew := SA.few.1
  have BB := Below.refl w.heap.size w
  refine gc_enter (n := 70) Tryz.func3 rfl (by kernel_rfl) (by kernel_rfl) ?_
  refine gc_seq ?_
  refine gc_reg ?_
  refine t 4 (.bool false) ?_
  refine gl_nil ?_
  refine ge_then ?_
  refine gc_seq ?_
  refine gc_seq ?_
  refine gc_reg ?_
  refine tc 9 5 #[] (known13) ?_
  rintro _ v1 ⟨rfl, B⟩
  refine ⟨_, rfl, ?_⟩
  replace BB := joinB BB B
  clear B
  refine t 10 (.bool false) ?_
  refine gl_nil ?_
  refine ge_then ?_
  refine gc_no ?_
  refine gc_skip ?_
  refine ge_then ?_
  refine gc_seq ?_
  refine gc_seq ?_
  refine gc_reg ?_
  refine t 11 (.slice ao cnt cp) ?_
  refine tc 12 6 #[.slice ao cnt cp] (light_any (SA.keep BB)) ?_
  rintro _ v2 ⟨b1, rfl, hb1, B⟩
  refine ⟨_, rfl, ?_⟩
  replace BB := joinB BB B
  clear B
  cases b1
  · skip
    refine t 13 (.bool true) ?_
    refine gl_nil ?_
    refine ge_then ?_
    refine gc_yes ?_
    refine gc_seq ?_
    refine gc_reg ?_
    refine t 4 (.bool true) ?_
    refine gl_nil ?_
    refine ge_then ?_
    refine gc_ret ?_
    refine ge_tr ?_
    refine ge_ret (.bool true) (rs1 4 (by kernel_rfl) (by kernel_rfl)) ?_
    exact ⟨rfl, BB⟩
  · have hs := hb1 rfl
    refine t 13 (.bool false) ?_
    refine gl_nil ?_
    refine ge_then ?_
    refine gc_no ?_
    refine gc_skip ?_
    refine ge_then ?_
    refine gc_seq ?_
    refine gc_reg ?_
    refine t 14 (.int .u64 tok) ?_
    refine tc 15 7 #[.int .u64 tok] (begun_any htok hnn) ?_
    rintro _ v3 ⟨Bz, g0, gr, gd, gh, rfl, RU⟩
    refine ⟨_, rfl, ?_⟩
    replace RU := RU.base BB
    clear BB
    refine t 5 (pg gr) ?_
    refine gl_nil ?_
    refine ge_then ?_
    refine gc_seq ?_
    refine gc_seq ?_
    refine gc_reg ?_
    refine t 6 (.int .i64 0) ?_
    refine gl_nil ?_
    refine ge_then ?_
    refine gc_fr [(1, .slice ao cnt cp), (4, .bool false), (5, pg gr), (6, .int .i64 0)] (by kernel_rfl) ?_
    refine gc_block ?_
    refine gc_loop (fun i => cnt - i) (fun (i : Nat) => [(1, .slice ao cnt cp), (5, pg gr), (6, .int .i64 (i : Int))]) (fun i w' => i ≤ cnt ∧ ∃ s, Ru w Bz g0 gr gd gh T w' s (4 * i) ∧ Iv T s (4 * i)) (0 : Nat) ⟨Nat.zero_le _, _, hTe ▸ RU, I0⟩ (by kernel_rfl) ?_
    clear RU
    rintro i v4 ⟨hi, s, RU, I⟩
    refine gc_seq ?_
    refine gc_seq ?_
    refine gc_reg ?_
    refine t 16 (.int .i64 (i : Int)) ?_
    refine t 17 (.slice ao cnt cp) ?_
    refine t 18 (.int .i64 ((cnt : Nat) : Int)) ?_
    by_cases ci : (i : Int) < ((cnt : Nat) : Int)
    · have hk : i < cnt := by omega
      refine tq 19 (.bool (decide ((i : Int) < ((cnt : Nat) : Int)))) (.bool true) (congrArg Value.bool (decide_eq_true ci)) ?_
      refine gl_nil ?_
      refine ge_then ?_
      refine gc_yes ?_
      refine gc_skip ?_
      refine ge_then ?_
      refine gc_seq ?_
      refine gc_block ?_
      refine gc_seq ?_
      refine gc_reg ?_
      refine t 22 (pg gr) ?_
      refine t 23 (.slice ao cnt cp) ?_
      refine t 24 (.int .i64 (i : Int)) ?_
      refine tr 25 (pq pb (po + i * 4)) (run_ixa 4 pb po cnt cp i hk SA.ptr) ?_
      refine tr 26 (.agg #[.int .i64 (sw i), .int .i64 (sa i), .int .u64 (sn i), .slice (aa i) (ns i) (cc i)]) (SA.load hk RU.bb) ?_
      obtain ⟨zd, rD⟩ := nk_nat (SA.nat i hk)
      have RB := RU.bb
      refine tc 27 8 #[pg gr, .agg #[.int .i64 (sw i), .int .i64 (sa i), .int .u64 (sn i), .slice (aa i) (ns i) (cc i)]] (does_any RU I (by omega) hT (SA.un i hk) rD (hs.2 i hk)) ?_
      rintro _ v5 ⟨s2, rfl, ST, RU⟩
      refine ⟨_, rfl, ?_⟩
      replace I := ST.iv I
      refine gl_nil ?_
      refine ge_then ?_
      refine gc_seq ?_
      obtain ⟨K, E, n, N, a0, n0, c0, z0, a1, n1, c1, z1, a2, n2, c2, z2, a3, n3, c3, z3, a4, n4, c4, z4, a5, n5, c5, z5, a6, n6, c6, z6, x2, x3, fu, ft, U, F, ⟨hsv, htv⟩, ⟨bn, bN⟩, ⟨m0, m1, m2, m3, m4, m5, m6⟩, hul, htl⟩ := RU.ex
      clear RU
      refine gc_reg ?_
      refine t 29 (pg gr) ?_
      refine t 30 (pg gr) ?_
      refine t 31 (pg gr) ?_
      refine tl 32 (pg g0) (U.bk 0 rfl) 0 ?_
      obtain ⟨h7, e7⟩ : ∃ a, numK E 7 16 = a := ⟨_, rfl⟩
      have h9 := F.num7
      rw [e7, Lh_len] at h9
      have h8 := num_le (h := s2.hd) 4
      have hCl := I.C
      refine tc 33 9 #[pg g0, .int .u64 16] (count_v U.sx (id := 16) ⟨by decide, by decide⟩ (by omega) (by omega) e7 F.num8) ?_
      rintro _ v6 ⟨K1, n1_, rfl, S, q1, hK, hC⟩
      refine ⟨_, rfl, ?_⟩
      replace U := U.op S hK hC
      clear S hK hC
      refine t 28 (.tuple #[.int .i64 ((h7 : Nat) : Int), .int .i64 ((s2.C.length : Nat) : Int)]) ?_
      refine t 34 (.int .i64 ((h7 : Nat) : Int)) ?_
      refine t 35 (.int .i64 ((s2.C.length : Nat) : Int)) ?_
      refine t 7 (.int .i64 ((h7 : Nat) : Int)) ?_
      refine t 8 (.int .i64 ((s2.C.length : Nat) : Int)) ?_
      refine gl_nil ?_
      refine ge_then ?_
      refine gc_fr [(1, .slice ao cnt cp), (5, pg gr), (6, .int .i64 (i : Int)), (7, .int .i64 ((h7 : Nat) : Int)), (8, .int .i64 ((s2.C.length : Nat) : Int)), (16, .int .i64 (i : Int)), (17, .slice ao cnt cp), (18, .int .i64 ((cnt : Nat) : Int)), (19, .bool true), (22, pg gr), (23, .slice ao cnt cp), (24, .int .i64 (i : Int)), (25, pq pb (po + i * 4)), (26, .agg #[.int .i64 (sw i), .int .i64 (sa i), .int .u64 (sn i), .slice (aa i) (ns i) (cc i)]), (28, .tuple #[.int .i64 ((h7 : Nat) : Int), .int .i64 ((s2.C.length : Nat) : Int)]), (29, pg gr), (30, pg gr), (31, pg gr), (32, pg g0), (33, .tuple #[.int .i64 ((h7 : Nat) : Int), .int .i64 ((s2.C.length : Nat) : Int)]), (34, .int .i64 ((h7 : Nat) : Int)), (35, .int .i64 ((s2.C.length : Nat) : Int))] (by kernel_rfl) ?_
      refine gc_seq ?_
      replace U := U.drew
      refine gc_draw (fun w' => Blk w' gr (rC g0 gd gh s2.tk (s2.la + 1) ((s2.C.length : Nat) : Int) (.slice a0 n0 c0) (.slice a1 n1 c1) (.slice a2 n2 c2) (.slice a3 n3 c3) (.slice a4 n4 c4) (.slice a5 n5 c5) (.slice a6 n6 c6)) 43) (fun _ => false) (U.bk 0 rfl) ?_
      refine z 0 36 (.int .i64 ((s2.C.length : Nat) : Int)) ?_
      refine z 1 37 (pg gr) ?_
      refine z 2 38 (pg gr) ?_
      refine z 3 39 (pq gr 13) ?_
      refine zl 4 40 (.int .i64 ((s2.C.length : Nat) : Int)) (fun _ h => h) 13 ?_
      refine zq 5 41 (.bool (((s2.C.length : Nat) : Int) != ((s2.C.length : Nat) : Int))) (.bool false) (congrArg Value.bool (bne_self_eq_false _)) ?_
      refine z 6 42 (.bool false) ?_
      refine z 7 43 (.int .i64 ((h7 : Nat) : Int)) ?_
      refine z 8 44 (pg gr) ?_
      refine z 11 47 (pg gr) ?_
      refine z 12 48 (pg gr) ?_
      refine z 13 49 (pq gr 13) ?_
      refine zl 14 50 (.int .i64 ((s2.C.length : Nat) : Int)) (fun _ h => h) 13 ?_
      refine zc 9 45 10 #[pg gr] (holding_any (U.bk 0 rfl) (U.bk 2 rfl)) ?_
      rintro _ v7 ⟨rfl, B⟩
      replace U := U.keep B
      clear B
      refine ⟨_, rfl, (U.bk 0 rfl), ?_⟩
      refine zq 10 46 (.int .i64 (IntKind.i64.wrap (1 + ((num s2.hd 4 : Nat) : Int)))) (.int .i64 (1 + ((num s2.hd 4 : Nat) : Int))) (wi (by omega)) ?_
      refine zq 15 51 (.int .i64 (IntKind.i64.wrap ((1 + ((num s2.hd 4 : Nat) : Int)) + ((s2.C.length : Nat) : Int)))) (.int .i64 ((1 + ((num s2.hd 4 : Nat) : Int)) + ((s2.C.length : Nat) : Int))) (wi (by omega)) ?_
      have t8 : ¬ (((1 + ((num s2.hd 4 : Nat) : Int)) + ((s2.C.length : Nat) : Int) : Int) < ((h7 : Nat) : Int)) := by omega
      refine zq 16 52 (.bool (decide (((1 + ((num s2.hd 4 : Nat) : Int)) + ((s2.C.length : Nat) : Int) : Int) < ((h7 : Nat) : Int)))) (.bool false) (congrArg Value.bool (decide_eq_false t8)) ?_
      refine z 17 53 (.bool false) ?_
      refine z 18 54 (.bool false) ?_
      refine z 19 55 (.int .i64 ((h7 : Nat) : Int)) ?_
      have t9 : ¬ (((h7 : Nat) : Int) < 1) := by omega
      refine zq 20 56 (.bool (decide (((h7 : Nat) : Int) < 1))) (.bool false) (congrArg Value.bool (decide_eq_false t9)) ?_
      refine z 21 57 (.bool false) ?_
      refine gz_done ?_
      refine ge_then ?_
      refine gc_fr [(1, .slice ao cnt cp), (5, pg gr), (6, .int .i64 (i : Int)), (7, .int .i64 ((h7 : Nat) : Int)), (8, .int .i64 ((s2.C.length : Nat) : Int)), (16, .int .i64 (i : Int)), (17, .slice ao cnt cp), (18, .int .i64 ((cnt : Nat) : Int)), (19, .bool true), (22, pg gr), (23, .slice ao cnt cp), (24, .int .i64 (i : Int)), (25, pq pb (po + i * 4)), (26, .agg #[.int .i64 (sw i), .int .i64 (sa i), .int .u64 (sn i), .slice (aa i) (ns i) (cc i)]), (28, .tuple #[.int .i64 ((h7 : Nat) : Int), .int .i64 ((s2.C.length : Nat) : Int)]), (29, pg gr), (30, pg gr), (31, pg gr), (32, pg g0), (33, .tuple #[.int .i64 ((h7 : Nat) : Int), .int .i64 ((s2.C.length : Nat) : Int)]), (34, .int .i64 ((h7 : Nat) : Int)), (35, .int .i64 ((s2.C.length : Nat) : Int)), (36, .int .i64 ((s2.C.length : Nat) : Int)), (37, pg gr), (38, pg gr), (39, pq gr 13), (40, .int .i64 ((s2.C.length : Nat) : Int)), (41, .bool false), (42, .bool false), (43, .int .i64 ((h7 : Nat) : Int)), (44, pg gr), (45, .int .i64 ((num s2.hd 4 : Nat) : Int)), (46, .int .i64 (1 + ((num s2.hd 4 : Nat) : Int))), (47, pg gr), (48, pg gr), (49, pq gr 13), (50, .int .i64 ((s2.C.length : Nat) : Int)), (51, .int .i64 ((1 + ((num s2.hd 4 : Nat) : Int)) + ((s2.C.length : Nat) : Int))), (52, .bool false), (53, .bool false), (54, .bool false), (55, .int .i64 ((h7 : Nat) : Int)), (56, .bool false), (57, .bool false)] (by kernel_rfl) ?_
      refine gc_no ?_
      refine gc_skip ?_
      refine ge_bn ?_
      refine ge_then ?_
      refine gc_reg ?_
      refine t 20 (.int .i64 (i : Int)) ?_
      refine tq 21 (.int .i64 (IntKind.i64.wrap ((i : Int) + 1))) (.int .i64 ((i : Int) + 1)) (wi (by omega)) ?_
      refine t 6 (.int .i64 ((i : Int) + 1)) ?_
      refine gl_nil ?_
      exact ge_round (i + 1) (by show cnt - (i + 1) < cnt - i; omega) ⟨hk, s2, ⟨_, _, _, _, a0, n0, c0, z0, a1, n1, c1, z1, a2, n2, c2, z2, a3, n3, c3, z3, a4, n4, c4, z4, a5, n5, c5, z5, a6, n6, c6, z6, _, _, fu, ft, U.pick 0 rfl (mem7 (mem_at 0 rfl) (mem_at 1 rfl) (mem_at 2 rfl) (mem_at 3 rfl) (mem_at 4 rfl) (mem_at 5 rfl) (mem_at 6 rfl) (mem_end 7 rfl)), F, ⟨hsv, htv⟩, ⟨by omega, by omega⟩, ⟨by omega, by omega, by omega, by omega, by omega, by omega, by omega⟩, hul, fun j => Nat.le_trans (htl j) (by omega)⟩, I.mono (by omega)⟩ (by kernel_rfl)
    · refine tq 19 (.bool (decide ((i : Int) < ((cnt : Nat) : Int)))) (.bool false) (congrArg Value.bool (decide_eq_false ci)) ?_
      refine gl_nil ?_
      refine ge_then ?_
      refine gc_no ?_
      refine gc_exit ?_
      refine ge_tx ?_
      refine ge_tx ?_
      refine ge_bx ?_
      refine ge_then ?_
      refine gc_seq ?_
      obtain ⟨K, E, n, N, a0, n0, c0, z0, a1, n1, c1, z1, a2, n2, c2, z2, a3, n3, c3, z3, a4, n4, c4, z4, a5, n5, c5, z5, a6, n6, c6, z6, x2, x3, fu, ft, U, F, ⟨hsv, htv⟩, ⟨bn, bN⟩, ⟨m0, m1, m2, m3, m4, m5, m6⟩, hul, htl⟩ := RU.ex
      clear RU
      refine gc_reg ?_
      refine t 58 (pg gr) ?_
      refine t 59 (pg gr) ?_
      refine t 60 (pg gr) ?_
      refine tl 61 (pg g0) (U.bk 0 rfl) 0 ?_
      refine tc 62 11 #[pg g0, .int .u64 16] (gone_v U.sx (id := 16) ⟨by decide, by decide⟩ (by omega) (by omega) F.gone) ?_
      rintro _ v10 ⟨K1, n9, N9, rfl, S, q1, Q1, hK, hC⟩
      refine ⟨_, rfl, ?_⟩
      replace U := U.op S hK hC
      clear S hK hC
      refine gl_nil ?_
      refine ge_then ?_
      refine gc_seq ?_
      refine gc_reg ?_
      refine t 63 (pg gr) ?_
      refine t 64 (pg gr) ?_
      refine t 65 (pg gr) ?_
      refine tl 66 (pg g0) (U.bk 0 rfl) 0 ?_
      refine tc 67 12 #[pg g0] (dumpF (m := 0) U.sx (by omega) rfl) ?_
      rintro _ v11 ⟨da, dc, rfl, B⟩
      refine ⟨_, rfl, ?_⟩
      replace U := U.keep B
      clear B
      refine t 68 (.int .i64 0) ?_
      refine t 69 (.bool true) ?_
      refine t 4 (.bool true) ?_
      refine gl_nil ?_
      refine ge_then ?_
      refine gc_fr [(4, .bool true)] (by kernel_rfl) ?_
      refine gc_ret ?_
      refine ge_ret (.bool true) (rs1 4 (by kernel_rfl) (by kernel_rfl)) ?_
      exact ⟨rfl, U.bb⟩
end Fo
namespace f1Counts
open Go.RowKit Go.Lib Lim Fo
theorem walk (y0 : Int) (a1 : Option Addr) (len1 cap1 : Nat) (w : World) (wy0 : (Lit.int .u64 y0).wf = true) (w1 : StpsIn w a1 len1) :
    Calls Tryz.prog 3 #[.int .u64 y0, .slice a1 len1 cap1] w fun e w' => e = .returned (.bool true) ∧ Below w.heap.size w w' := by
  obtain ⟨b, o, sw, sa, sn, aa, ns, cc, xs, SA⟩ := w1
  exact f1Counts_walk (u64r wy0) SA
end f1Counts
end Go.Proofs.YtjejmkcjflhoiaaGreatDoor
