/- Several texts, joined: FoAd, FoAe. -/
import Derived.Test.YtjejmkcjflhoiaaGreatDoorJaB
namespace Go.Proofs.YtjejmkcjflhoiaaGreatDoor
namespace Fo
open Go.RowKit Go.Lib Pg Lim Gl Kv Bk Pw
attribute [local go_sem] Oper.semAt_some
set_option maxRecDepth 100000
set_option linter.unusedVariables false
set_option linter.unusedSimpArgs false
set_option maxHeartbeats 4000000
theorem rstc {n : Nat} {l : Gl.Fr} {P : Program} {w : World} {fn : Func} (j k : Nat) {T : TypeId} {g : Nat} {u v : Value} (h : fn.results = #[.tmp j, .cell k T]) (hu : lk l j = some u) (hv : lk l k = some (.pointer (some ⟨g, 0, none⟩))) (hl : (loadVar T ⟨g, 0, none⟩).run P w = .ok v w) (a : Act) (r : Rd n [] l a) : (results fn a.tmps).run P w = .ok (.tuple #[u, v]) w := by
  have h1 := r.gD hu
  have h2 := r.gD hv
  simp at h1 h2
  simp [results, h, h1, h2, asAddr, hl]
structure TrE (w : World) (n : Nat) (V : Int) (e : Ending) (w' : World) : Prop where
  ex : ∃ u a k d z, e = .returned (.tuple #[u, .agg #[.slice a k d]]) ∧ Nf w' z a k d V ∧ (k = 0 ∨ w.heap.size ≤ z) ∧ k ≤ n ∧ Below w.heap.size w w'
theorem eTrunc {w : World} {a0 : Option Addr} {n0 c0 : Nat} {x0 : Int} (h0 : NatA w a0 n0 c0 x0) (k0 : n0 ≤ 1000000) : Calls Tryz.prog 26 #[.agg #[.slice a0 n0 c0]] w (TrE w (2 * n0 + 100) (x0 % U36)) := by
  have BB := Below.refl w.heap.size w
  refine gc_enter (n := 18) Tryz.func26 rfl (by kernel_rfl) (by kernel_rfl) ?_
  refine gc_seq ?_
  refine gc_reg ?_
  refine ta 1 [.slice a0 n0 c0] 32 (pg) ?_
  intro v1 g2 Xg2 hg2 B
  replace BB := joinB BB B
  clear B
  refine t 2 (.slice none 0 0) ?_
  have lXg2 := Xg2.lt
  refine ta 3 [.slice none 0 0] 32 (pg) ?_
  intro v3 g4 Xg4 hg4 B
  replace BB := joinB BB B
  replace Xg2 := Xg2.keep B
  clear B
  refine gl_nil ?_
  refine ge_then ?_
  refine gc_seq ?_
  replace BB := BB.drew
  replace Xg2 := Xg2.drew
  replace Xg4 := Xg4.drew
  refine gc_draw (fun w' => Blk w' g2 [.slice a0 n0 c0] 32) (fun _ => false) Xg2 ?_
  refine z 0 8 (pg g2) ?_
  refine zl 1 9 (.slice a0 n0 c0) (fun _ h => h) 0 ?_
  have lXg2 := Xg2.lt
  have lXg4 := Xg4.lt
  refine zc 2 10 59 #[] (dUnit) ?_
  rintro _ v6 ⟨aq5, nq5, cq5, rfl, Nq5, mq5, B⟩
  replace BB := joinB BB B
  replace Xg2 := Xg2.keep B
  replace Xg4 := Xg4.keep B
  clear B
  refine ⟨_, rfl, Xg2, ?_⟩
  have lXg2 := Xg2.lt
  have lXg4 := Xg4.lt
  refine zc 3 11 58 #[.slice a0 n0 c0, .slice aq5 nq5 cq5] (nfDiv (h0.keep BB) Nq5.a (by omega) (by omega)) ?_
  rintro _ v8 ⟨aq7, nq7, cq7, zq7, bq7, rq7, dq7, yq7, rfl, Nq7, Rq7, hq7, gq7, mq7, kq7, B⟩
  replace BB := joinB BB B
  replace Xg2 := Xg2.keep B
  replace Xg4 := Xg4.keep B
  replace Nq5 := Nq5.keep B
  clear B
  refine ⟨_, rfl, Xg2, ?_⟩
  refine z 4 7 (.tuple #[.slice aq7 nq7 cq7, .slice bq7 rq7 dq7, .int .i64 (divE U36)]) ?_
  refine z 5 12 (.slice aq7 nq7 cq7) ?_
  refine z 6 13 (.slice bq7 rq7 dq7) ?_
  refine z 7 14 (.int .i64 (divE U36)) ?_
  refine z 8 4 (.slice aq7 nq7 cq7) ?_
  refine z 9 5 (.slice bq7 rq7 dq7) ?_
  refine z 10 6 (.int .i64 (divE U36)) ?_
  refine gz_done ?_
  refine ge_then ?_
  refine gc_fr [(2, .slice none 0 0), (3, pg g4), (4, .slice aq7 nq7 cq7), (5, .slice bq7 rq7 dq7)] (by kernel_rfl) ?_
  refine gc_seq ?_
  refine gc_reg ?_
  refine t 15 (.slice aq7 nq7 cq7) ?_
  refine t 16 (.slice bq7 rq7 dq7) ?_
  refine t 17 (.agg #[.slice bq7 rq7 dq7]) ?_
  refine t 2 (.slice aq7 nq7 cq7) ?_
  refine ts Xg4 0 (.agg #[.slice bq7 rq7 dq7]) [.slice bq7 rq7 dq7] [.slice bq7 rq7 dq7] ?_
  intro v9 Y C
  replace BB := belowC BB C (by omega)
  replace Xg2 := Xg2.chg C (show g2 ≠ g4 by omega)
  clear Nq5
  replace Nq7 := Nq7.cell C (show nq7 = 0 ∨ zq7 ≠ g4 by omega)
  replace Rq7 := Rq7.cell C (show rq7 = 0 ∨ yq7 ≠ g4 by omega)
  clear C Xg4
  have Xg4 := Y
  clear Y
  refine gl_nil ?_
  refine ge_then ?_
  refine gc_ret ?_
  refine ge_ret (.tuple #[.slice aq7 nq7 cq7, .agg #[.slice bq7 rq7 dq7]]) (rstc 2 3 (T := 32) (by kernel_rfl) (by kernel_rfl) (by kernel_rfl) (lr Xg4 0)) ?_
  exact ⟨_, _, _, _, _, rfl, Rq7.eqv (if_neg (by decide)), by omega, by omega, BB⟩
structure CrE (w0 : World) (B g0 gr gd gh k : Nat) (E : Ents) (n N : Nat) (bs : List Bx) (qs : List Nx) (tk la cuts x0 x1 x3 : Int) (v4 v5 v6 : Value) (n0 n2 n3 : Nat) (e : Ending) (w' : World) : Prop where
  ex : ∃ b0 k0 d0 y0 b1 k1 d1 y1 b2 k2 d2 y2 b3 k3 d3 y3 K' n' N' r1 r2, e = .returned (.tuple #[]) ∧ Un w0 B g0 w' K' (closeE E 16 (la + 1) tk x1) n' N' (bs.set k (gr, rC g0 gd gh tk (la + 1 + 1) cuts (.slice b0 k0 d0) (.slice none 0 0) (.slice b2 k2 d2) (.slice b3 k3 d3) v4 v5 v6, 43)) ((0, none, 0, 0, 0) :: (y3, b3, k3, d3, x3) :: (y2, b2, k2, d2, r2) :: (y1, b1, k1, d1, r1) :: (y0, b0, k0, d0, x0) :: qs) ∧ n' ≤ n + 20 ∧ N' ≤ N + 20 ∧ k0 ≤ n0 + 1 ∧ k2 ≤ n2 + 1 ∧ k3 ≤ n3 + 1
theorem close_run {w0 w : World} {B g0 gr gd gh n N k : Nat} {K : Nat → Prop} {E : Ents} {bs : List Bx} {qs : List Nx} {tk la cuts : Int} {v4 v5 v6 : Value} {a0 : Option Addr} {n0 c0 z0 : Nat} {x0 : Int} {a1 : Option Addr} {n1 c1 z1 : Nat} {x1 : Int} {a2 : Option Addr} {n2 c2 z2 : Nat} {x2 : Int} {a3 : Option Addr} {n3 c3 z3 : Nat} {x3 : Int} (U : Un w0 B g0 w K E n N bs qs) (hi : bs[k]? = some (gr, rC g0 gd gh tk (la + 1) cuts (.slice a0 n0 c0) (.slice a1 n1 c1) (.slice a2 n2 c2) (.slice a3 n3 c3) v4 v5 v6, 43)) (h0 : (z0, a0, n0, c0, x0) ∈ qs) (m0 : n0 ≤ 100000) (h1 : (z1, a1, n1, c1, x1) ∈ qs) (m1 : n1 ≤ 100000) (h2 : (z2, a2, n2, c2, x2) ∈ qs) (m2 : n2 ≤ 100000) (h3 : (z3, a3, n3, c3, x3) ∈ qs) (m3 : n3 ≤ 100000) (htk : 0 ≤ tk ∧ tk < 18446744073709551616) (hla : 0 ≤ la ∧ la ≤ 1000000) (hn : n ≤ 1000000000000000000) (hN : N ≤ 90000000) : Calls Tryz.prog 28 #[pg gr] w (CrE w0 B g0 gr gd gh k E n N bs qs tk la cuts x0 x1 x3 v4 v5 v6 n0 n2 n3) := by
  refine gc_enter (n := 17) Tryz.func28 rfl (by kernel_rfl) (by kernel_rfl) ?_
  replace U := U.drew
  refine gc_draw (fun w' => Blk w' gr (rC g0 gd gh tk (la + 1) cuts (.slice a0 n0 c0) (.slice a1 n1 c1) (.slice a2 n2 c2) (.slice a3 n3 c3) v4 v5 v6) 43) (fun i => decide (13 ≤ i)) (U.bk k hi) ?_
  refine zp 0 3 (pg gr) ?_
  refine zp 1 4 (pg gr) ?_
  refine zp 2 5 (pg gr) ?_
  refine zp 3 6 (pg gr) ?_
  refine zl 4 7 (pg g0) (fun _ h => h) 0 ?_
  refine zp 5 8 (pg gr) ?_
  refine zp 6 9 (pg gr) ?_
  refine zp 7 10 (pq gr 1) ?_
  refine zlr 8 11 [.int .u64 0, .int .u64 tk, .slice a0 n0 c0, .bool false, .int .u64 0, .bool false, .int .u64 (la + 1), .slice a1 n1 c1, .slice a2 n2 c2, .slice a3 n3 c3] (fun _ h => h) 1 ?_
  refine zc 9 12 20 #[pg g0, .int .u64 16, .agg #[.int .u64 0, .int .u64 tk, .slice a0 n0 c0, .bool false, .int .u64 0, .bool false, .int .u64 (la + 1), .slice a1 n1 c1, .slice a2 n2 c2, .slice a3 n3 c3]] (ClE.cast (E' := closeE E 16 (la + 1) tk x1) (pq := la + 1 + 1) (close_any U.sx (id := 16) ⟨by decide, by decide⟩ ⟨by omega, by omega⟩ (U.q _ h0).nk (by omega) (U.q _ h1).nk (by omega) (U.q _ h2).nk (by omega) (U.q _ h3).nk (by omega) (by omega) (by omega)) (by omega) rfl) ?_
  rintro _ v8 ⟨aq1, nq1, cq1, zq1, aq2, nq2, cq2, zq2, aq3, nq3, cq3, zq3, aq4, nq4, cq4, zq4, K5, n6, N7, rfl, S, qn6, qN7, hK, hC, Q0, mq1, h0, Q1, mq2, h1, Q2, mq3, h2, Q3, mq4, h3⟩
  have L := U.lt
  replace U := ((((U.op S hK hC).add L Q0 h0).add L Q1 h1).add L Q2 h2).add L Q3 h3
  clear L S hK hC Q0 h0 Q1 h1 Q2 h2 Q3 h3
  refine ⟨_, rfl, (U.bk k hi), ?_⟩
  refine zp 10 2 (.tuple #[.agg #[.int .u64 0, .int .u64 tk, .slice aq1 nq1 cq1, .bool false, .int .u64 0, .bool false, .int .u64 (la + 1 + 1), .slice none 0 0, .slice aq3 nq3 cq3, .slice aq4 nq4 cq4], .agg #[.slice aq2 nq2 cq2]]) ?_
  refine zp 11 13 (.agg #[.int .u64 0, .int .u64 tk, .slice aq1 nq1 cq1, .bool false, .int .u64 0, .bool false, .int .u64 (la + 1 + 1), .slice none 0 0, .slice aq3 nq3 cq3, .slice aq4 nq4 cq4]) ?_
  refine zp 12 14 (.agg #[.slice aq2 nq2 cq2]) ?_
  refine gz_late ?_
  refine yt 13 15 (pg gr) ?_
  refine yt 14 16 (pq gr 1) ?_
  refine ys 15 (U.bk k hi) 1 (.agg #[.int .u64 0, .int .u64 tk, .slice aq1 nq1 cq1, .bool false, .int .u64 0, .bool false, .int .u64 (la + 1 + 1), .slice none 0 0, .slice aq3 nq3 cq3, .slice aq4 nq4 cq4]) [.int .u64 0, .int .u64 tk, .slice aq1 nq1 cq1, .bool false, .int .u64 0, .bool false, .int .u64 (la + 1 + 1), .slice none 0 0, .slice aq3 nq3 cq3, .slice aq4 nq4 cq4] (rC g0 gd gh tk (la + 1 + 1) cuts (.slice aq1 nq1 cq1) (.slice none 0 0) (.slice aq3 nq3 cq3) (.slice aq4 nq4 cq4) v4 v5 v6) ?_
  intro v9 Y C
  have U2 := U.put k hi C Y
  clear C
  refine gy_done ?_
  refine ge_end (.tuple #[]) (rs0 (by kernel_rfl)) ?_
  exact ⟨aq1, nq1, cq1, zq1, aq2, nq2, cq2, zq2, aq3, nq3, cq3, zq3, aq4, nq4, cq4, zq4, _, _, _, _, _, rfl, U2.nil, by omega, by omega, by omega, by omega, by omega⟩
structure JA where
  g : Nat
  a : Option Addr
  k : Nat
  d : Nat
  z : Nat
  n : Nat
  N : Nat
theorem does_any {w0 w : World} {B g0 gr gd gh m : Nat} {T wh aj sn xd : Int} {s : St} {ad : Option Addr} {nd cd zd : Nat} (h : Ru w0 B g0 gr gd gh T w s m) (I : Iv T s m) (hm : m ≤ 900) (hT : T ≤ 1000000 * U36) (hsN : 0 ≤ sn ∧ sn < 18446744073709551616) (rD : Nk w0 (fun b => w0.heap.size ≤ b) zd ad nd cd xd) (hnd : nd ≤ 6) : Calls Tryz.prog 8 #[pg gr, .agg #[.int .i64 wh, .int .i64 aj, .int .u64 sn, .slice ad nd cd]] w fun e w' => ∃ s', e = .returned (.tuple #[]) ∧ Dstp T s s' ∧ Ru w0 B g0 gr gd gh T w' s' (m + 3) := by
  obtain ⟨K, E, n, N, a0, n0, c0, z0, a1, n1, c1, z1, a2, n2, c2, z2, a3, n3, c3, z3, a4, n4, c4, z4, a5, n5, c5, z5, a6, n6, c6, z6, x2, x3, fu, ft, U, F, ⟨hsv, htv⟩, ⟨bn, bN⟩, ⟨m0, m1, m2, m3, m4, m5, m6⟩, hul, htl⟩ := h.ex
  have htk := I.tk
  have hla := I.la
  have hcu := I.cur
  have hCl := I.C
  have hfr := I.sh.1
  have hfT := I.fre
  have hsn := hsum_nn (h := s.hd) I.sh.2
  clear h
  refine gc_enter (n := 219) Tryz.func8 rfl (by kernel_rfl) (by kernel_rfl) ?_
  refine gc_seq ?_
  refine gc_reg ?_
  refine ta 3 [.int .i64 wh, .int .i64 aj, .int .u64 sn, .slice ad nd cd] 34 (pg) ?_
  intro v1 g2 Xg2 hg2 B
  replace U := U.new Xg2 hg2 B
  clear Xg2 hg2 B
  refine gl_nil ?_
  refine ge_then ?_
  refine gc_seq ?_
  refine gc_reg ?_
  refine t 11 (pq g2 1) ?_
  refine tl 12 (.int .i64 aj) (U.bk 0 rfl) 1 ?_
  refine tc 13 25 #[.int .i64 aj, .int .i64 4] (Ky.place_val aj 4 (by decide) (by decide) _) ?_
  rintro _ v3 ⟨rfl, hw⟩
  refine ⟨_, rfl, ?_⟩
  subst hw
  obtain ⟨ix, hiy⟩ : ∃ ix, Ky.plk aj 4 = ix := ⟨_, rfl⟩
  have hix : ix < 4 := hiy ▸ Ky.plk_lt aj (by decide)
  rw [hiy]
  clear hiy
  obtain ⟨z7, a7, n7, c7, hu⟩ : ∃ z a n c, fu ix = (z, a, n, c, s.sh ix) := ⟨_, _, _, _, by rw [← hsv ix]⟩
  obtain ⟨z8, a8, n8, c8, ht⟩ : ∃ z a n c, ft ix = (z, a, n, c, s.st ix) := ⟨_, _, _, _, by rw [← htv ix]⟩
  have m7 := hul ix
  rw [hu] at m7
  have m8 := htl ix
  rw [ht] at m8
  dsimp only at m7 m8
  have hp : s.pe ix = s.pe ix := rfl
  have hafl : (aft s.C (s.pe ix)).length ≤ s.C.length := List.length_filter_le _ _
  refine t 4 (.int .i64 (ix : Int)) ?_
  refine gl_nil ?_
  refine ge_then ?_
  refine gc_seq ?_
  refine gc_reg ?_
  refine t 14 (pg g2) ?_
  refine tl 15 (.int .i64 wh) (U.bk 0 rfl) 0 ?_
  refine gl_nil ?_
  refine ge_then ?_
  refine gc_block ?_
  refine gc_join (fun (b : Bool) => [(0, pg gr), (3, pg g2), (4, .int .i64 (ix : Int)), (15, .int .i64 wh), (16, .bool b)]) (fun _ w' => v3 = w') ?_ ?_
  · refine gc_seq ?_
    refine gc_reg ?_
    by_cases c4 : (wh : Int) = 0
    · refine tq 17 (.bool ((wh : Int) == 0)) (.bool true) (congrArg Value.bool (beq_iff_eq.2 c4)) ?_
      refine t 16 (.bool true) ?_
      refine gl_nil ?_
      refine ge_then ?_
      refine gc_yes ?_
      refine gc_skip ?_
      exact ge_join true rfl (by kernel_rfl)
    · refine tq 17 (.bool ((wh : Int) == 0)) (.bool false) (congrArg Value.bool (beq_eq_false_iff_ne.2 c4)) ?_
      refine t 16 (.bool false) ?_
      refine gl_nil ?_
      refine ge_then ?_
      refine gc_no ?_
      refine gc_seq ?_
      refine gc_reg ?_
      by_cases c5 : (wh : Int) = 1
      · refine tq 18 (.bool ((wh : Int) == 1)) (.bool true) (congrArg Value.bool (beq_iff_eq.2 c5)) ?_
        refine t 16 (.bool true) ?_
        refine gl_nil ?_
        refine ge_then ?_
        refine gc_fr [(0, pg gr), (3, pg g2), (4, .int .i64 (ix : Int)), (15, .int .i64 wh), (16, .bool true)] (by kernel_rfl) ?_
        refine gc_yes ?_
        refine gc_skip ?_
        exact ge_join true rfl (by kernel_rfl)
      · refine tq 18 (.bool ((wh : Int) == 1)) (.bool false) (congrArg Value.bool (beq_eq_false_iff_ne.2 c5)) ?_
        refine t 16 (.bool false) ?_
        refine gl_nil ?_
        refine ge_then ?_
        refine gc_fr [(0, pg gr), (3, pg g2), (4, .int .i64 (ix : Int)), (15, .int .i64 wh), (16, .bool false)] (by kernel_rfl) ?_
        refine gc_no ?_
        refine gc_reg ?_
        by_cases c6 : (wh : Int) = 2
        · refine tq 19 (.bool ((wh : Int) == 2)) (.bool true) (congrArg Value.bool (beq_iff_eq.2 c6)) ?_
          refine t 16 (.bool true) ?_
          refine gl_nil ?_
          exact ge_join true rfl (by kernel_rfl)
        · refine tq 19 (.bool ((wh : Int) == 2)) (.bool false) (congrArg Value.bool (beq_eq_false_iff_ne.2 c6)) ?_
          refine t 16 (.bool false) ?_
          refine gl_nil ?_
          exact ge_join false rfl (by kernel_rfl)
  rintro b16 _ rfl
  rcases Bool.eq_false_or_eq_true (b16) with b7 | b7
  · refine gc_yes (hc := congrArg Value.bool b7) ?_
    refine gc_seq ?_
    refine gc_reg ?_
    refine t 21 (pq g2 3) ?_
    refine tlr 22 [.slice ad nd cd] (U.bk 0 rfl) 3 ?_
    refine tc 23 26 #[.agg #[.slice ad nd cd]] (eTrunc (U.raw rD).nat (by omega)) ?_
    rintro _ v9 ⟨tv, aq8, nq8, cq8, zq8, rfl, M, h, mq8, B⟩
    refine ⟨_, rfl, ?_⟩
    replace U := U.num M h B
    clear M h B
    refine t 20 (.tuple #[tv, .agg #[.slice aq8 nq8 cq8]]) ?_
    refine t 24 (tv) ?_
    refine t 25 (.agg #[.slice aq8 nq8 cq8]) ?_
    refine ta 6 [.slice none 0 0] 32 (pg) ?_
    intro v10 g11 Xg11 hg11 B
    replace U := U.new Xg11 hg11 B
    clear Xg11 hg11 B
    refine t 5 (tv) ?_
    refine ts (U.bk 0 rfl) 0 (.agg #[.slice aq8 nq8 cq8]) [.slice aq8 nq8 cq8] [.slice aq8 nq8 cq8] ?_
    intro v13 Y C
    replace U := U.put 0 rfl C Y
    clear Y C
    refine gl_nil ?_
    refine ge_then ?_
    refine gc_seq ?_
    refine gc_reg ?_
    refine tlr 26 [.slice aq8 nq8 cq8] (U.bk 0 rfl) 0 ?_
    refine t 27 (pq g2 2) ?_
    refine tl 28 (.int .u64 sn) (U.bk 1 rfl) 2 ?_
    refine tr 29 (.int .u64 (sn % 1000)) (run_remu sn 1000 hsN ⟨by decide, by decide⟩) ?_
    refine tq 30 (.int .u64 (IntKind.u64.wrap (1 + (sn % 1000)))) (.int .u64 (1 + (sn % 1000))) (wu (by omega)) ?_
    refine tc 31 27 #[.agg #[.slice aq8 nq8 cq8], .int .u64 (1 + (sn % 1000))] (eTimes (U.nq 0 rfl).nat (by omega) ⟨by omega, by omega⟩) ?_
    rintro _ v15 ⟨aq14, nq14, cq14, zq14, rfl, M, h, mq14, B⟩
    refine ⟨_, rfl, ?_⟩
    replace U := U.num M h B
    clear M h B
    refine ts (U.bk 0 rfl) 0 (.agg #[.slice aq14 nq14 cq14]) [.slice aq14 nq14 cq14] [.slice aq14 nq14 cq14] ?_
    intro v17 Y C
    replace U := U.put 0 rfl C Y
    clear Y C
    refine gl_nil ?_
    refine ge_then ?_
    refine gc_fr [(0, pg gr), (6, pg g11)] (by kernel_rfl) ?_
    replace U := U.drew
    refine gc_draw (fun w' => Blk w' gr (rC g0 gd gh s.tk (s.la + 1) ((s.C.length : Nat) : Int) (.slice a0 n0 c0) (.slice a1 n1 c1) (.slice a2 n2 c2) (.slice a3 n3 c3) (.slice a4 n4 c4) (.slice a5 n5 c5) (.slice a6 n6 c6)) 43 ∧ Blk w' g11 [.slice aq14 nq14 cq14] 32) (fun i => decide (15 ≤ i)) ⟨(U.bk 2 rfl), (U.bk 0 rfl)⟩ ?_
    refine zp 0 32 (pg gr) ?_
    refine zp 1 33 (pg gr) ?_
    refine zp 2 34 (pg gr) ?_
    refine zp 3 35 (pg gr) ?_
    refine zp 4 36 (pq gr 1) ?_
    refine zp 5 37 (pq gr 8) ?_
    refine zlr 6 38 [.slice a1 n1 c1] (fun _ h => h.1) 8 ?_
    refine zlr 7 39 [.slice aq14 nq14 cq14] (fun _ h => h.2) 0 ?_
    refine zp 9 41 (pg gr) ?_
    refine zp 10 42 (pg gr) ?_
    refine zp 11 43 (pq gr 14) ?_
    refine zlr 12 44 [.slice a4 n4 c4] (fun _ h => h.1) 14 ?_
    refine gz_ready [8, 13] ?_
    refine ga_call 8 (some 40) 13 #[.agg #[.slice a1 n1 c1], .agg #[.slice aq14 nq14 cq14]] (eAdd (U.nq 3 rfl).nat (by omega) (U.nq 0 rfl).nat (by omega)) ?_ ?_
    · rintro _ v19 ⟨aq18, nq18, cq18, zq18, rfl, M, h, mq18, B⟩
      replace U := U.num M h B
      clear M h B
      refine ⟨_, rfl, ⟨(U.bk 2 rfl), (U.bk 0 rfl)⟩, ?_⟩
      skip
      refine zw 13 45 (.agg #[.slice aq14 nq14 cq14]) _ (run_ldr (off := 0) (vs := [.slice aq14 nq14 cq14]) (U.bk 0 rfl) rfl ⟨_, _, rfl, by kernel_rfl, by kernel_rfl⟩) ⟨(U.bk 2 rfl), (U.bk 0 rfl)⟩ ?_
      refine zc 14 46 13 #[.agg #[.slice a4 n4 c4], .agg #[.slice aq14 nq14 cq14]] (eAdd (U.nq 7 rfl).nat (by omega) (U.nq 1 rfl).nat (by omega)) ?_
      rintro _ v21 ⟨aq20, nq20, cq20, zq20, rfl, M, h, mq20, B⟩
      replace U := U.num M h B
      clear M h B
      refine ⟨_, rfl, ⟨(U.bk 2 rfl), (U.bk 0 rfl)⟩, ?_⟩
      refine gz_late ?_
      refine yt 15 47 (pg gr) ?_
      refine yt 16 48 (pq gr 1) ?_
      refine yt 17 49 (pq gr 8) ?_
      refine ys 18 (U.bk 2 rfl) 8 (.agg #[.slice aq18 nq18 cq18]) [.slice aq18 nq18 cq18] (rC g0 gd gh s.tk (s.la + 1) ((s.C.length : Nat) : Int) (.slice a0 n0 c0) (.slice aq18 nq18 cq18) (.slice a2 n2 c2) (.slice a3 n3 c3) (.slice a4 n4 c4) (.slice a5 n5 c5) (.slice a6 n6 c6)) ?_
      intro v22 Y C
      replace U := U.put 2 rfl C Y
      clear Y C
      refine yt 19 50 (pg gr) ?_
      refine yt 20 51 (pq gr 14) ?_
      refine ys 21 (U.bk 2 rfl) 14 (.agg #[.slice aq20 nq20 cq20]) [.slice aq20 nq20 cq20] (rC g0 gd gh s.tk (s.la + 1) ((s.C.length : Nat) : Int) (.slice a0 n0 c0) (.slice aq18 nq18 cq18) (.slice a2 n2 c2) (.slice a3 n3 c3) (.slice aq20 nq20 cq20) (.slice a5 n5 c5) (.slice a6 n6 c6)) ?_
      intro v23 Y C
      replace U := U.put 2 rfl C Y
      clear Y C
      refine gy_done ?_
      refine ge_bn ?_
      refine ge_end (.tuple #[]) (rs0 (by kernel_rfl)) ?_
      have hrr : 0 ≤ xd % U36 * (1 + sn % 1000) ∧ xd % U36 * (1 + sn % 1000) ≤ 1000 * U36 := by
        have h1 := Int.emod_nonneg xd (show U36 ≠ 0 by decide)
        have h2 := Int.emod_lt_of_pos xd (show 0 < U36 by decide)
        have h3 := Int.mul_le_mul_of_nonneg_left (show 1 + sn % 1000 ≤ 1000 by omega) h1
        exact ⟨Int.mul_nonneg h1 (by omega), by omega⟩
      exact ⟨_, rfl, (.give _ hrr), ⟨_, _, _, _, a0, n0, c0, z0, aq18, nq18, cq18, zq18, a2, n2, c2, z2, a3, n3, c3, z3, aq20, nq20, cq20, zq20, a5, n5, c5, z5, a6, n6, c6, z6, x2, x3, fu, ft, U.pick 2 rfl (mem7 (mem_at 4 rfl) (mem_at 1 rfl) (mem_at 6 rfl) (mem_at 7 rfl) (mem_at 0 rfl) (mem_at 9 rfl) (mem_at 10 rfl) (mem_end 11 rfl)), F, ⟨hsv, htv⟩, by omega, by omega, hul, fun j => Nat.le_trans (htl j) (by omega)⟩⟩
    skip
    refine ga_val 13 (some 45) (.agg #[.slice aq14 nq14 cq14]) _ (run_ldr (off := 0) (vs := [.slice aq14 nq14 cq14]) (U.bk 0 rfl) rfl ⟨_, _, rfl, by kernel_rfl, by kernel_rfl⟩) ⟨(U.bk 2 rfl), (U.bk 0 rfl)⟩ ?_ ?_
    · skip
      refine zc 8 40 13 #[.agg #[.slice a1 n1 c1], .agg #[.slice aq14 nq14 cq14]] (eAdd (U.nq 3 rfl).nat (by omega) (U.nq 0 rfl).nat (by omega)) ?_
      rintro _ v25 ⟨aq24, nq24, cq24, zq24, rfl, M, h, mq24, B⟩
      replace U := U.num M h B
      clear M h B
      refine ⟨_, rfl, ⟨(U.bk 2 rfl), (U.bk 0 rfl)⟩, ?_⟩
      refine zc 14 46 13 #[.agg #[.slice a4 n4 c4], .agg #[.slice aq14 nq14 cq14]] (eAdd (U.nq 7 rfl).nat (by omega) (U.nq 1 rfl).nat (by omega)) ?_
      rintro _ v27 ⟨aq26, nq26, cq26, zq26, rfl, M, h, mq26, B⟩
      replace U := U.num M h B
      clear M h B
      refine ⟨_, rfl, ⟨(U.bk 2 rfl), (U.bk 0 rfl)⟩, ?_⟩
      refine gz_late ?_
      refine yt 15 47 (pg gr) ?_
      refine yt 16 48 (pq gr 1) ?_
      refine yt 17 49 (pq gr 8) ?_
      refine ys 18 (U.bk 2 rfl) 8 (.agg #[.slice aq24 nq24 cq24]) [.slice aq24 nq24 cq24] (rC g0 gd gh s.tk (s.la + 1) ((s.C.length : Nat) : Int) (.slice a0 n0 c0) (.slice aq24 nq24 cq24) (.slice a2 n2 c2) (.slice a3 n3 c3) (.slice a4 n4 c4) (.slice a5 n5 c5) (.slice a6 n6 c6)) ?_
      intro v28 Y C
      replace U := U.put 2 rfl C Y
      clear Y C
      refine yt 19 50 (pg gr) ?_
      refine yt 20 51 (pq gr 14) ?_
      refine ys 21 (U.bk 2 rfl) 14 (.agg #[.slice aq26 nq26 cq26]) [.slice aq26 nq26 cq26] (rC g0 gd gh s.tk (s.la + 1) ((s.C.length : Nat) : Int) (.slice a0 n0 c0) (.slice aq24 nq24 cq24) (.slice a2 n2 c2) (.slice a3 n3 c3) (.slice aq26 nq26 cq26) (.slice a5 n5 c5) (.slice a6 n6 c6)) ?_
      intro v29 Y C
      replace U := U.put 2 rfl C Y
      clear Y C
      refine gy_done ?_
      refine ge_bn ?_
      refine ge_end (.tuple #[]) (rs0 (by kernel_rfl)) ?_
      have hrr : 0 ≤ xd % U36 * (1 + sn % 1000) ∧ xd % U36 * (1 + sn % 1000) ≤ 1000 * U36 := by
        have h1 := Int.emod_nonneg xd (show U36 ≠ 0 by decide)
        have h2 := Int.emod_lt_of_pos xd (show 0 < U36 by decide)
        have h3 := Int.mul_le_mul_of_nonneg_left (show 1 + sn % 1000 ≤ 1000 by omega) h1
        exact ⟨Int.mul_nonneg h1 (by omega), by omega⟩
      exact ⟨_, rfl, (.give _ hrr), ⟨_, _, _, _, a0, n0, c0, z0, aq24, nq24, cq24, zq24, a2, n2, c2, z2, a3, n3, c3, z3, aq26, nq26, cq26, zq26, a5, n5, c5, z5, a6, n6, c6, z6, x2, x3, fu, ft, U.pick 2 rfl (mem7 (mem_at 4 rfl) (mem_at 1 rfl) (mem_at 6 rfl) (mem_at 7 rfl) (mem_at 0 rfl) (mem_at 9 rfl) (mem_at 10 rfl) (mem_end 11 rfl)), F, ⟨hsv, htv⟩, by omega, by omega, hul, fun j => Nat.le_trans (htl j) (by omega)⟩⟩
    exact ga_nil
  · refine gc_no (hc := congrArg Value.bool b7) ?_
    refine gc_join (fun (b : Bool) => [(0, pg gr), (3, pg g2), (4, .int .i64 (ix : Int)), (15, .int .i64 wh), (52, .bool b)]) (fun _ w' => v3 = w') ?_ ?_
    · refine gc_seq ?_
      refine gc_reg ?_
      by_cases c30 : (wh : Int) = 3
      · refine tq 53 (.bool ((wh : Int) == 3)) (.bool true) (congrArg Value.bool (beq_iff_eq.2 c30)) ?_
        refine t 52 (.bool true) ?_
        refine gl_nil ?_
        refine ge_then ?_
        refine gc_yes ?_
        refine gc_skip ?_
        exact ge_join true rfl (by kernel_rfl)
      · refine tq 53 (.bool ((wh : Int) == 3)) (.bool false) (congrArg Value.bool (beq_eq_false_iff_ne.2 c30)) ?_
        refine t 52 (.bool false) ?_
        refine gl_nil ?_
        refine ge_then ?_
        refine gc_no ?_
        refine gc_reg ?_
        by_cases c31 : (wh : Int) = 4
        · refine tq 54 (.bool ((wh : Int) == 4)) (.bool true) (congrArg Value.bool (beq_iff_eq.2 c31)) ?_
          refine t 52 (.bool true) ?_
          refine gl_nil ?_
          exact ge_join true rfl (by kernel_rfl)
        · refine tq 54 (.bool ((wh : Int) == 4)) (.bool false) (congrArg Value.bool (beq_eq_false_iff_ne.2 c31)) ?_
          refine t 52 (.bool false) ?_
          refine gl_nil ?_
          exact ge_join false rfl (by kernel_rfl)
    rintro b52 _ rfl
    rcases Bool.eq_false_or_eq_true (b52) with b32 | b32
    · refine gc_yes (hc := congrArg Value.bool b32) ?_
      refine gc_reg ?_
      refine t 55 (pg gr) ?_
      have F34 := F.close (tk := s.tk) (cur := s.cur) (by omega) I.div.1 (I.lim (by omega))
      refine tc 56 28 #[pg gr] (close_run (k := 1) U rfl (mem_at 0 rfl) (by omega) (mem_at 1 rfl) (by omega) (mem_at 2 rfl) (by omega) (mem_at 3 rfl) (by omega) ⟨by omega, by omega⟩ ⟨by omega, by omega⟩ (by omega) (by omega)) ?_
      rintro _ v35 ⟨b0c33, k0c33, d0c33, y0c33, b1c33, k1c33, d1c33, y1c33, b2c33, k2c33, d2c33, y2c33, b3c33, k3c33, d3c33, y3c33, Kc33, nc33, Nc33, r1c33, r2c33, rfl, U9, qc33, Qc33, p0c33, p2c33, p3c33⟩
      refine ⟨_, rfl, ?_⟩
      clear U
      have U := U9
      clear U9
      dsimp only [List.set] at U
      refine gl_nil ?_
      refine ge_bn ?_
      refine ge_end (.tuple #[]) (rs0 (by kernel_rfl)) ?_
      exact ⟨_, rfl, .clo, ⟨_, _, _, _, b0c33, k0c33, d0c33, y0c33, none, 0, 0, 0, b2c33, k2c33, d2c33, y2c33, b3c33, k3c33, d3c33, y3c33, a4, n4, c4, z4, a5, n5, c5, z5, a6, n6, c6, z6, r2c33, x3, fu, ft, U.pick 1 rfl (mem7 (mem_at 4 rfl) (mem_at 0 rfl) (mem_at 2 rfl) (mem_at 1 rfl) (mem_at 9 rfl) (mem_at 10 rfl) (mem_at 11 rfl) (mem_end 12 rfl)), F34, ⟨hsv, htv⟩, by omega, by omega, hul, fun j => Nat.le_trans (htl j) (by omega)⟩⟩
    · refine gc_no (hc := congrArg Value.bool b32) ?_
      refine gc_join (fun (b : Bool) => [(0, pg gr), (3, pg g2), (4, .int .i64 (ix : Int)), (15, .int .i64 wh), (57, .bool b)]) (fun _ w' => v3 = w') ?_ ?_
      · refine gc_seq ?_
        refine gc_reg ?_
        by_cases c36 : (wh : Int) = 5
        · refine tq 58 (.bool ((wh : Int) == 5)) (.bool true) (congrArg Value.bool (beq_iff_eq.2 c36)) ?_
          refine t 57 (.bool true) ?_
          refine gl_nil ?_
          refine ge_then ?_
          refine gc_yes ?_
          refine gc_skip ?_
          exact ge_join true rfl (by kernel_rfl)
        · refine tq 58 (.bool ((wh : Int) == 5)) (.bool false) (congrArg Value.bool (beq_eq_false_iff_ne.2 c36)) ?_
          refine t 57 (.bool false) ?_
          refine gl_nil ?_
          refine ge_then ?_
          refine gc_no ?_
          refine gc_seq ?_
          refine gc_reg ?_
          by_cases c37 : (wh : Int) = 6
          · refine tq 59 (.bool ((wh : Int) == 6)) (.bool true) (congrArg Value.bool (beq_iff_eq.2 c37)) ?_
            refine t 57 (.bool true) ?_
            refine gl_nil ?_
            refine ge_then ?_
            refine gc_yes ?_
            refine gc_skip ?_
            exact ge_join true rfl (by kernel_rfl)
          · refine tq 59 (.bool ((wh : Int) == 6)) (.bool false) (congrArg Value.bool (beq_eq_false_iff_ne.2 c37)) ?_
            refine t 57 (.bool false) ?_
            refine gl_nil ?_
            refine ge_then ?_
            refine gc_no ?_
            refine gc_reg ?_
            by_cases c38 : (wh : Int) = 7
            · refine tq 60 (.bool ((wh : Int) == 7)) (.bool true) (congrArg Value.bool (beq_iff_eq.2 c38)) ?_
              refine t 57 (.bool true) ?_
              refine gl_nil ?_
              exact ge_join true rfl (by kernel_rfl)
            · refine tq 60 (.bool ((wh : Int) == 7)) (.bool false) (congrArg Value.bool (beq_eq_false_iff_ne.2 c38)) ?_
              refine t 57 (.bool false) ?_
              refine gl_nil ?_
              exact ge_join false rfl (by kernel_rfl)
      rintro b57 _ rfl
      rcases Bool.eq_false_or_eq_true (b57) with b39 | b39
      · refine gc_yes (hc := congrArg Value.bool b39) ?_
        refine gc_seq ?_
        refine gc_reg ?_
        refine t 61 (pg gr) ?_
        have F41 := F.close (tk := s.tk) (cur := s.cur) (by omega) I.div.1 (I.lim (by omega))
        refine tc 62 28 #[pg gr] (close_run (k := 1) U rfl (mem_at 0 rfl) (by omega) (mem_at 1 rfl) (by omega) (mem_at 2 rfl) (by omega) (mem_at 3 rfl) (by omega) ⟨by omega, by omega⟩ ⟨by omega, by omega⟩ (by omega) (by omega)) ?_
        rintro _ v42 ⟨b0c40, k0c40, d0c40, y0c40, b1c40, k1c40, d1c40, y1c40, b2c40, k2c40, d2c40, y2c40, b3c40, k3c40, d3c40, y3c40, Kc40, nc40, Nc40, r1c40, r2c40, rfl, U9, qc40, Qc40, p0c40, p2c40, p3c40⟩
        refine ⟨_, rfl, ?_⟩
        clear U
        have U := U9
        clear U9
        dsimp only [List.set] at U
        refine gl_nil ?_
        refine ge_then ?_
        refine gc_seq ?_
        refine gc_seq ?_
        refine gc_reg ?_
        refine t 63 (pg gr) ?_
        refine t 64 (pg gr) ?_
        refine t 65 (pq gr 12) ?_
        refine tl 66 (.slice (some ⟨gh, 0, none⟩) 4 4) (U.bk 1 rfl) 12 ?_
        refine t 67 (.int .i64 (ix : Int)) ?_
        refine tr 68 (pq gh ix) (congr_v (by simp) (run_ixs 1 gh 0 4 4 ix hix)) ?_
        refine tl 69 (.bool (s.hd ix)) (U.bk 3 rfl) ix (hv := hC_at hix) ?_
        refine gl_nil ?_
        refine ge_then ?_
        rcases Bool.eq_false_or_eq_true (s.hd ix) with b43 | b43
        · refine gc_yes (hc := congrArg Value.bool b43) ?_
          refine gc_join (fun (j : JA) => [(0, pg gr), (4, .int .i64 (ix : Int)), (7, pg j.g)]) (fun (j : JA) w' => Un w0 B g0 w' Kc40 (closeE E 16 (s.la + 1) s.tk s.cur) j.n j.N [(j.g, [.slice j.a j.k j.d], 32), (g2, [.int .i64 wh, .int .i64 aj, .int .u64 sn, .slice ad nd cd], 34), (gr, (rC g0 gd gh s.tk (s.la + 1 + 1) ((s.C.length : Nat) : Int) (.slice b0c40 k0c40 d0c40) (.slice none 0 0) (.slice b2c40 k2c40 d2c40) (.slice b3c40 k3c40 d3c40) (.slice a4 n4 c4) (.slice a5 n5 c5) (.slice a6 n6 c6)), 43), (gd, dC fu s.pe ft, 53), (gh, hC s.hd, 4)] ((j.z, j.a, j.k, j.d, cmV (upd s.R (s.la + 1) (s.R s.la + s.cur / s.tk)) (aft s.C (s.pe ix)) (s.pe ix) (s.la + 1) (s.st ix)) :: (0, none, 0, 0, 0) :: (y3c40, b3c40, k3c40, d3c40, x3) :: (y2c40, b2c40, k2c40, d2c40, r2c40) :: (y1c40, b1c40, k1c40, d1c40, r1c40) :: (y0c40, b0c40, k0c40, d0c40, T) :: (z0, a0, n0, c0, T) :: (z1, a1, n1, c1, s.cur) :: (z2, a2, n2, c2, x2) :: (z3, a3, n3, c3, x3) :: (z4, a4, n4, c4, s.giv) :: (z5, a5, n5, c5, s.fre) :: (z6, a6, n6, c6, s.all) :: dQ fu ft) ∧ j.n ≤ nc40 + 3000 ∧ j.N ≤ Nc40 ∧ j.k ≤ 3000000000) ?_ ?_
          · replace U := U.drew
            refine gc_draw (fun w' => Blk w' gr (rC g0 gd gh s.tk (s.la + 1 + 1) ((s.C.length : Nat) : Int) (.slice b0c40 k0c40 d0c40) (.slice none 0 0) (.slice b2c40 k2c40 d2c40) (.slice b3c40 k3c40 d3c40) (.slice a4 n4 c4) (.slice a5 n5 c5) (.slice a6 n6 c6)) 43 ∧ Blk w' gd (dC fu s.pe ft) 53) (fun _ => false) ⟨(U.bk 1 rfl), (U.bk 2 rfl)⟩ ?_
            refine z 0 71 (pg gr) ?_
            refine z 1 72 (pg gr) ?_
            refine z 2 73 (pg gr) ?_
            refine zl 3 74 (pg g0) (fun _ h => h.1) 0 ?_
            refine z 4 75 (pg gr) ?_
            refine z 5 76 (pg gr) ?_
            refine z 6 77 (pq gr 1) ?_
            refine zlr 7 78 [.int .u64 0, .int .u64 s.tk, .slice b0c40 k0c40 d0c40, .bool false, .int .u64 0, .bool false, .int .u64 (s.la + 1 + 1), .slice none 0 0, .slice b2c40 k2c40 d2c40, .slice b3c40 k3c40 d3c40] (fun _ h => h.1) 1 ?_
            refine z 8 79 (pg gr) ?_
            refine z 9 80 (pg gr) ?_
            refine z 10 81 (pq gr 11) ?_
            refine zl 11 82 (.slice (some ⟨gd, 0, none⟩) 4 4) (fun _ h => h.1) 11 ?_
            refine z 12 83 (.int .i64 (ix : Int)) ?_
            refine zr 13 84 (pq gd (ix * 3)) (fun _ _ => congr_v (by simp) (run_ixs 3 gd 0 4 4 ix hix)) ?_
            refine zr 14 85 (.agg #[.slice a7 n7 c7, .int .u64 (s.pe ix), .slice a8 n8 c8]) (fun _ h => run_ldr (vs := [.slice a7 n7 c7, .int .u64 (s.pe ix), .slice a8 n8 c8]) h.2 (dC_at hix hu hp ht) ⟨_, _, rfl, by kernel_rfl, by kernel_rfl⟩) ?_
            refine gz_ready [15, 19] ?_
            refine ga_call 15 (some 86) 14 #[pg g0, .int .u64 16, .agg #[.int .u64 0, .int .u64 s.tk, .slice b0c40 k0c40 d0c40, .bool false, .int .u64 0, .bool false, .int .u64 (s.la + 1 + 1), .slice none 0 0, .slice b2c40 k2c40 d2c40, .slice b3c40 k3c40 d3c40], .agg #[.slice a7 n7 c7, .int .u64 (s.pe ix), .slice a8 n8 c8]] (claim_fs (la := s.la + 1) U.sx F41 (U.nq (ix + 4 + 12) (dQ_t (s := fu) hix ht)) (by omega) (Lh_mem hix b43) (by omega) (by omega) (by omega) (by omega)) ?_ ?_
            · rintro _ v45 ⟨aq44, nq44, cq44, zq44, rfl, S, C, Q, mq44, h⟩
              have L := U.lt
              replace U := (U.ask S C).add L Q h
              clear L S C Q h
              refine ⟨_, rfl, ⟨(U.bk 1 rfl), (U.bk 2 rfl)⟩, ?_⟩
              refine z 16 70 (.tuple #[.agg #[.slice aq44 nq44 cq44], .int .i64 (((aft s.C (s.pe ix)).length : Nat) : Int)]) ?_
              refine z 17 87 (.agg #[.slice aq44 nq44 cq44]) ?_
              refine z 18 88 (.int .i64 (((aft s.C (s.pe ix)).length : Nat) : Int)) ?_
              refine za 19 7 [.slice none 0 0] 32 (pg) ?_
              intro v46 g47 Xg47 hg47 B
              replace U := U.new Xg47 hg47 B
              clear Xg47 hg47 B
              refine ⟨⟨(U.bk 2 rfl), (U.bk 3 rfl)⟩, ?_⟩
              refine zs 20 (U.bk 0 rfl) 0 (.agg #[.slice aq44 nq44 cq44]) [.slice aq44 nq44 cq44] [.slice aq44 nq44 cq44] ?_
              intro v49 Y C
              replace U := U.put 0 rfl C Y
              clear Y C
              refine ⟨⟨(U.bk 2 rfl), (U.bk 3 rfl)⟩, ?_⟩
              refine z 21 8 (.int .i64 (((aft s.C (s.pe ix)).length : Nat) : Int)) ?_
              refine gz_done ?_
              exact ge_join (⟨g47, aq44, nq44, cq44, zq44, _, _⟩ : JA) ⟨U.pick 0 rfl (List.forall_mem_cons.2 ⟨mem_at 0 rfl, mem_end 1 rfl⟩), by (try dsimp only); omega, by (try dsimp only); omega, by (try dsimp only); omega⟩ (by kernel_rfl)
            refine zaa 19 7 [.slice none 0 0] 32 (pg) ?_ ?_
            · intro v50 g51 Xg51 hg51 B
              replace U := U.new Xg51 hg51 B
              clear Xg51 hg51 B
              refine ⟨⟨(U.bk 2 rfl), (U.bk 3 rfl)⟩, ?_⟩
              refine zc 15 86 14 #[pg g0, .int .u64 16, .agg #[.int .u64 0, .int .u64 s.tk, .slice b0c40 k0c40 d0c40, .bool false, .int .u64 0, .bool false, .int .u64 (s.la + 1 + 1), .slice none 0 0, .slice b2c40 k2c40 d2c40, .slice b3c40 k3c40 d3c40], .agg #[.slice a7 n7 c7, .int .u64 (s.pe ix), .slice a8 n8 c8]] (claim_fs (la := s.la + 1) U.sx F41 (U.nq (ix + 4 + 12) (dQ_t (s := fu) hix ht)) (by omega) (Lh_mem hix b43) (by omega) (by omega) (by omega) (by omega)) ?_
              rintro _ v53 ⟨aq52, nq52, cq52, zq52, rfl, S, C, Q, mq52, h⟩
              have L := U.lt
              replace U := (U.ask S C).add L Q h
              clear L S C Q h
              refine ⟨_, rfl, ⟨(U.bk 2 rfl), (U.bk 3 rfl)⟩, ?_⟩
              refine z 16 70 (.tuple #[.agg #[.slice aq52 nq52 cq52], .int .i64 (((aft s.C (s.pe ix)).length : Nat) : Int)]) ?_
              refine z 17 87 (.agg #[.slice aq52 nq52 cq52]) ?_
              refine z 18 88 (.int .i64 (((aft s.C (s.pe ix)).length : Nat) : Int)) ?_
              refine zs 20 (U.bk 0 rfl) 0 (.agg #[.slice aq52 nq52 cq52]) [.slice aq52 nq52 cq52] [.slice aq52 nq52 cq52] ?_
              intro v55 Y C
              replace U := U.put 0 rfl C Y
              clear Y C
              refine ⟨⟨(U.bk 2 rfl), (U.bk 3 rfl)⟩, ?_⟩
              refine z 21 8 (.int .i64 (((aft s.C (s.pe ix)).length : Nat) : Int)) ?_
              refine gz_done ?_
              exact ge_join (⟨g51, aq52, nq52, cq52, zq52, _, _⟩ : JA) ⟨U.pick 0 rfl (List.forall_mem_cons.2 ⟨mem_at 0 rfl, mem_end 1 rfl⟩), by (try dsimp only); omega, by (try dsimp only); omega, by (try dsimp only); omega⟩ (by kernel_rfl)
            exact ga_nil
          clear U
          rintro ⟨gx1, ax1, kx1, dx1, zx1, nx1, Nx1⟩ v56 ⟨U, qx1, Qx1, px1⟩
          dsimp only at U qx1 Qx1 px1
          refine gc_seq ?_
          replace U := U.drew
          refine gc_draw (fun w' => Blk w' gr (rC g0 gd gh s.tk (s.la + 1 + 1) ((s.C.length : Nat) : Int) (.slice b0c40 k0c40 d0c40) (.slice none 0 0) (.slice b2c40 k2c40 d2c40) (.slice b3c40 k3c40 d3c40) (.slice a4 n4 c4) (.slice a5 n5 c5) (.slice a6 n6 c6)) 43 ∧ Blk w' gx1 [.slice ax1 kx1 dx1] 32) (fun i => decide (7 ≤ i)) ⟨(U.bk 2 rfl), (U.bk 0 rfl)⟩ ?_
          refine zp 0 89 (pg gr) ?_
          refine zp 1 90 (pg gr) ?_
          refine zp 2 91 (pg gr) ?_
          refine zp 3 92 (pq gr 16) ?_
          refine zlr 4 93 [.slice a6 n6 c6] (fun _ h => h.1) 16 ?_
          refine zlr 5 94 [.slice ax1 kx1 dx1] (fun _ h => h.2) 0 ?_
          refine zc 6 95 13 #[.agg #[.slice a6 n6 c6], .agg #[.slice ax1 kx1 dx1]] (eAdd (U.nq 12 rfl).nat (by omega) (U.nq 0 rfl).nat (by omega)) ?_
          rintro _ v58 ⟨aq57, nq57, cq57, zq57, rfl, M, h, mq57, B⟩
          replace U := U.num M h B
          clear M h B
          refine ⟨_, rfl, ⟨(U.bk 2 rfl), (U.bk 0 rfl)⟩, ?_⟩
          refine gz_late ?_
          refine yt 7 96 (pg gr) ?_
          refine yt 8 97 (pq gr 16) ?_
          refine ys 9 (U.bk 2 rfl) 16 (.agg #[.slice aq57 nq57 cq57]) [.slice aq57 nq57 cq57] (rC g0 gd gh s.tk (s.la + 1 + 1) ((s.C.length : Nat) : Int) (.slice b0c40 k0c40 d0c40) (.slice none 0 0) (.slice b2c40 k2c40 d2c40) (.slice b3c40 k3c40 d3c40) (.slice a4 n4 c4) (.slice a5 n5 c5) (.slice aq57 nq57 cq57)) ?_
          intro v59 Y C
          replace U := U.put 2 rfl C Y
          clear Y C
          refine gy_done ?_
          refine ge_then ?_
          refine gc_seq ?_
          replace U := U.drew
          refine gc_draw (fun w' => Blk w' gr (rC g0 gd gh s.tk (s.la + 1 + 1) ((s.C.length : Nat) : Int) (.slice b0c40 k0c40 d0c40) (.slice none 0 0) (.slice b2c40 k2c40 d2c40) (.slice b3c40 k3c40 d3c40) (.slice a4 n4 c4) (.slice a5 n5 c5) (.slice aq57 nq57 cq57)) 43 ∧ Blk w' gd (dC fu s.pe ft) 53) (fun _ => false) ⟨(U.bk 2 rfl), (U.bk 3 rfl)⟩ ?_
          refine z 0 98 (pg gr) ?_
          refine z 1 99 (pg gr) ?_
          refine z 2 100 (pg gr) ?_
          refine zl 3 101 (pg g0) (fun _ h => h.1) 0 ?_
          refine z 4 102 (pg gr) ?_
          refine z 5 103 (pg gr) ?_
          refine z 6 104 (pq gr 11) ?_
          refine zl 7 105 (.slice (some ⟨gd, 0, none⟩) 4 4) (fun _ h => h.1) 11 ?_
          refine z 8 106 (.int .i64 (ix : Int)) ?_
          refine zr 9 107 (pq gd (ix * 3)) (fun _ _ => congr_v (by simp) (run_ixs 3 gd 0 4 4 ix hix)) ?_
          refine zr 10 108 (.agg #[.slice a7 n7 c7, .int .u64 (s.pe ix), .slice a8 n8 c8]) (fun _ h => run_ldr (vs := [.slice a7 n7 c7, .int .u64 (s.pe ix), .slice a8 n8 c8]) h.2 (dC_at hix hu hp ht) ⟨_, _, rfl, by kernel_rfl, by kernel_rfl⟩) ?_
          have F60 := (F41.free (Lh_mem hix b43)).perm (Lh_free hix b43)
          refine zc 11 109 24 #[pg g0, .int .u64 16, .agg #[.slice a7 n7 c7, .int .u64 (s.pe ix), .slice a8 n8 c8]] (free_any U.sx (id := 16) ⟨by decide, by decide⟩ (U.nq (ix + 14) (dQ_s (t := ft) hix hu)).nk (by omega) (U.nq (ix + 4 + 14) (dQ_t (s := fu) hix ht)).nk (by omega) (by omega) (by omega)) ?_
          rintro _ v64 ⟨rfl, K61, n62, N63, S, qn62, qN63, hK, hC⟩
          replace U := U.op S hK hC
          clear S hK hC
          refine ⟨_, rfl, ⟨(U.bk 2 rfl), (U.bk 3 rfl)⟩, ?_⟩
          refine gz_done ?_
          refine ge_then ?_
          refine gc_fr [(0, pg gr), (4, .int .i64 (ix : Int))] (by kernel_rfl) ?_
          refine gc_seq ?_
          replace U := U.drew
          refine gc_draw (fun w' => Blk w' gr (rC g0 gd gh s.tk (s.la + 1 + 1) ((s.C.length : Nat) : Int) (.slice b0c40 k0c40 d0c40) (.slice none 0 0) (.slice b2c40 k2c40 d2c40) (.slice b3c40 k3c40 d3c40) (.slice a4 n4 c4) (.slice a5 n5 c5) (.slice aq57 nq57 cq57)) 43 ∧ Blk w' gd (dC fu s.pe ft) 53) (fun i => decide (19 ≤ i)) ⟨(U.bk 2 rfl), (U.bk 3 rfl)⟩ ?_
          refine zp 0 110 (pg gr) ?_
          refine zp 1 111 (pg gr) ?_
          refine zp 2 112 (pg gr) ?_
          refine zp 3 113 (pq gr 12) ?_
          refine zl 4 114 (.slice (some ⟨gh, 0, none⟩) 4 4) (fun _ h => h.1) 12 ?_
          refine zp 5 115 (.int .i64 (ix : Int)) ?_
          refine zp 6 116 (pg gr) ?_
          refine zp 7 117 (pg gr) ?_
          refine zp 8 118 (pq gr 15) ?_
          refine zlr 9 119 [.slice a5 n5 c5] (fun _ h => h.1) 15 ?_
          refine zp 10 120 (pg gr) ?_
          refine zp 11 121 (pg gr) ?_
          refine zp 12 122 (pq gr 11) ?_
          refine zl 13 123 (.slice (some ⟨gd, 0, none⟩) 4 4) (fun _ h => h.1) 11 ?_
          refine zp 14 124 (.int .i64 (ix : Int)) ?_
          refine zr 15 125 (pq gd (ix * 3)) (fun _ _ => congr_v (by simp) (run_ixs 3 gd 0 4 4 ix hix)) ?_
          refine zp 16 126 (pq gd (ix * 3)) ?_
          refine zr 17 127 (.agg #[.slice a7 n7 c7]) (fun _ h => run_ldr (vs := [.slice a7 n7 c7]) h.2 (dC_s hix hu) ⟨_, _, rfl, by kernel_rfl, by kernel_rfl⟩) ?_
          refine zc 18 128 13 #[.agg #[.slice a5 n5 c5], .agg #[.slice a7 n7 c7]] (eAdd (U.nq 12 rfl).nat (by omega) (U.nq (ix + 14) (dQ_s (t := ft) hix hu)).nat (by omega)) ?_
          rintro _ v66 ⟨aq65, nq65, cq65, zq65, rfl, M, h, mq65, B⟩
          replace U := U.num M h B
          clear M h B
          refine ⟨_, rfl, ⟨(U.bk 2 rfl), (U.bk 3 rfl)⟩, ?_⟩
          refine gz_late ?_
          refine yt 19 129 (pg gr) ?_
          refine yt 20 130 (pq gr 15) ?_
          refine ys 21 (U.bk 2 rfl) 15 (.agg #[.slice aq65 nq65 cq65]) [.slice aq65 nq65 cq65] (rC g0 gd gh s.tk (s.la + 1 + 1) ((s.C.length : Nat) : Int) (.slice b0c40 k0c40 d0c40) (.slice none 0 0) (.slice b2c40 k2c40 d2c40) (.slice b3c40 k3c40 d3c40) (.slice a4 n4 c4) (.slice aq65 nq65 cq65) (.slice aq57 nq57 cq57)) ?_
          intro v67 Y C
          replace U := U.put 2 rfl C Y
          clear Y C
          refine yt 22 131 (pq gh ix) ?_ (hrun := congr_v (by simp) (run_ixs 1 gh 0 4 4 ix hix))
          refine ys 23 (U.bk 4 rfl) ix (.bool false) [.bool false] (hC (up s.hd ix false)) ?_ (hb := hC_fit hix) (he := hC_put hix)
          intro v68 Y C
          replace U := U.put 4 rfl C Y
          clear Y C
          refine gy_done ?_
          refine ge_then ?_
          refine gc_fr [(0, pg gr), (4, .int .i64 (ix : Int))] (by kernel_rfl) ?_
          refine gc_ret ?_
          refine ge_tr ?_
          refine ge_br ?_
          refine ge_ret (.tuple #[]) (rs0 (by kernel_rfl)) ?_
          have hk5 : nq65 ≤ 50 := Nat.le_trans (nO_len (s := 3) ((U.nq 0 rfl).to _ (fun _ => rfl)) (by have h1 := hsum_ge (f := s.sh) hix b43 I.sh.2; have h2 : (1000000 * U36 : Int) < 18446744073709551616 ^ 3 := (by decide); omega)) (by decide)
          exact ⟨_, rfl, (.leave ix hix b43), ⟨_, _, _, _, b0c40, k0c40, d0c40, y0c40, none, 0, 0, 0, b2c40, k2c40, d2c40, y2c40, b3c40, k3c40, d3c40, y3c40, a4, n4, c4, z4, aq65, nq65, cq65, zq65, aq57, nq57, cq57, zq57, r2c40, x3, fu, ft, U.pick 2 rfl (mem7 (mem_at 7 rfl) (mem_at 3 rfl) (mem_at 5 rfl) (mem_at 4 rfl) (mem_at 12 rfl) (mem_at 0 rfl) (mem_at 1 rfl) (mem_end 15 rfl)), F60, ⟨hsv, htv⟩, by omega, by omega, hul, fun j => Nat.le_trans (htl j) (by omega)⟩⟩
        · refine gc_no (hc := congrArg Value.bool b43) ?_
          refine gc_skip ?_
          refine ge_then ?_
          obtain ⟨zz, hzz⟩ : ∃ zz : Int, zz = s.fre * (1 + sn % 99) / 100 := ⟨_, rfl⟩
          have hzz1 : 0 ≤ zz := by rw [hzz]; exact Int.ediv_nonneg (Int.mul_nonneg hfr (by omega)) (by decide)
          have hzz2 : zz ≤ s.fre := by
            have h9 : s.fre * (1 + sn % 99) ≤ s.fre * 100 := Int.mul_le_mul_of_nonneg_left (by omega) hfr
            omega
          refine gc_join (fun (j : JA) => [(0, pg gr), (4, .int .i64 (ix : Int)), (9, pg j.g)]) (fun (j : JA) w' => Un w0 B g0 w' Kc40 (closeE E 16 (s.la + 1) s.tk s.cur) j.n j.N [(j.g, [.slice j.a j.k j.d], 32), (g2, [.int .i64 wh, .int .i64 aj, .int .u64 sn, .slice ad nd cd], 34), (gr, (rC g0 gd gh s.tk (s.la + 1 + 1) ((s.C.length : Nat) : Int) (.slice b0c40 k0c40 d0c40) (.slice none 0 0) (.slice b2c40 k2c40 d2c40) (.slice b3c40 k3c40 d3c40) (.slice a4 n4 c4) (.slice a5 n5 c5) (.slice a6 n6 c6)), 43), (gd, dC fu s.pe ft, 53), (gh, hC s.hd, 4)] ((j.z, j.a, j.k, j.d, zz) :: (0, none, 0, 0, 0) :: (y3c40, b3c40, k3c40, d3c40, x3) :: (y2c40, b2c40, k2c40, d2c40, r2c40) :: (y1c40, b1c40, k1c40, d1c40, r1c40) :: (y0c40, b0c40, k0c40, d0c40, T) :: (z0, a0, n0, c0, T) :: (z1, a1, n1, c1, s.cur) :: (z2, a2, n2, c2, x2) :: (z3, a3, n3, c3, x3) :: (z4, a4, n4, c4, s.giv) :: (z5, a5, n5, c5, s.fre) :: (z6, a6, n6, c6, s.all) :: dQ fu ft) ∧ j.n ≤ nc40 + 3000 ∧ j.N ≤ Nc40 ∧ j.k ≤ 53) ?_ ?_
          · replace U := U.drew
            refine gc_draw (fun w' => Blk w' gr (rC g0 gd gh s.tk (s.la + 1 + 1) ((s.C.length : Nat) : Int) (.slice b0c40 k0c40 d0c40) (.slice none 0 0) (.slice b2c40 k2c40 d2c40) (.slice b3c40 k3c40 d3c40) (.slice a4 n4 c4) (.slice a5 n5 c5) (.slice a6 n6 c6)) 43 ∧ Blk w' g2 [.int .i64 wh, .int .i64 aj, .int .u64 sn, .slice ad nd cd] 34) (fun _ => false) ⟨(U.bk 1 rfl), (U.bk 0 rfl)⟩ ?_
            refine z 0 133 (pg gr) ?_
            refine z 1 134 (pg gr) ?_
            refine z 2 135 (pq gr 15) ?_
            refine zlr 3 136 [.slice a5 n5 c5] (fun _ h => h.1) 15 ?_
            refine z 4 137 (pq g2 2) ?_
            refine zl 5 138 (.int .u64 sn) (fun _ h => h.2) 2 ?_
            refine zr 6 139 (.int .u64 (sn % 99)) (fun _ _ => run_remu sn 99 hsN ⟨by decide, by decide⟩) ?_
            refine zq 7 140 (.int .u64 (IntKind.u64.wrap (1 + (sn % 99)))) (.int .u64 (1 + (sn % 99))) (wu (by omega)) ?_
            refine gz_ready [8, 13] ?_
            refine ga_call 8 (some 141) 27 #[.agg #[.slice a5 n5 c5], .int .u64 (1 + (sn % 99))] (eTimes (U.nq 10 rfl).nat (by omega) ⟨by omega, by omega⟩) ?_ ?_
            · rintro _ v70 ⟨aq69, nq69, cq69, zq69, rfl, M, h, mq69, B⟩
              replace U := U.num M h B
              clear M h B
              refine ⟨_, rfl, ⟨(U.bk 1 rfl), (U.bk 0 rfl)⟩, ?_⟩
              refine gz_ready [9, 13] ?_
              refine ga_call 9 (some 142) 29 #[.agg #[.slice aq69 nq69 cq69], .int .u64 100] (eOver (y := 100) (U.nq 0 rfl).nat (by omega) ⟨by decide, by decide⟩) ?_ ?_
              · rintro _ v72 ⟨aq71, nq71, cq71, zq71, rfl, M, h, mq71, B⟩
                replace U := U.num M h B
                clear M h B
                replace U := U.val 0 rfl hzz.symm
                refine ⟨_, rfl, ⟨(U.bk 1 rfl), (U.bk 0 rfl)⟩, ?_⟩
                refine z 10 132 (.tuple #[.agg #[.slice aq71 nq71 cq71], .int .i64 (dvZ 100)]) ?_
                refine z 11 143 (.agg #[.slice aq71 nq71 cq71]) ?_
                refine z 12 144 (.int .i64 (dvZ 100)) ?_
                refine za 13 9 [.slice none 0 0] 32 (pg) ?_
                intro v73 g74 Xg74 hg74 B
                replace U := U.new Xg74 hg74 B
                clear Xg74 hg74 B
                refine ⟨⟨(U.bk 2 rfl), (U.bk 1 rfl)⟩, ?_⟩
                refine zs 14 (U.bk 0 rfl) 0 (.agg #[.slice aq71 nq71 cq71]) [.slice aq71 nq71 cq71] [.slice aq71 nq71 cq71] ?_
                intro v76 Y C
                replace U := U.put 0 rfl C Y
                clear Y C
                refine ⟨⟨(U.bk 2 rfl), (U.bk 1 rfl)⟩, ?_⟩
                refine z 15 10 (.int .i64 (dvZ 100)) ?_
                refine gz_done ?_
                exact ge_join (⟨g74, aq71, nq71, cq71, zq71, _, _⟩ : JA) ⟨U.pick 0 rfl (List.forall_mem_cons.2 ⟨mem_at 0 rfl, mem_end 2 rfl⟩), by (try dsimp only); omega, by (try dsimp only); omega, by (try dsimp only); omega⟩ (by kernel_rfl)
              refine zaa 13 9 [.slice none 0 0] 32 (pg) ?_ ?_
              · intro v77 g78 Xg78 hg78 B
                replace U := U.new Xg78 hg78 B
                clear Xg78 hg78 B
                refine ⟨⟨(U.bk 2 rfl), (U.bk 1 rfl)⟩, ?_⟩
                refine zc 9 142 29 #[.agg #[.slice aq69 nq69 cq69], .int .u64 100] (eOver (y := 100) (U.nq 0 rfl).nat (by omega) ⟨by decide, by decide⟩) ?_
                rintro _ v80 ⟨aq79, nq79, cq79, zq79, rfl, M, h, mq79, B⟩
                replace U := U.num M h B
                clear M h B
                replace U := U.val 0 rfl hzz.symm
                refine ⟨_, rfl, ⟨(U.bk 2 rfl), (U.bk 1 rfl)⟩, ?_⟩
                refine z 10 132 (.tuple #[.agg #[.slice aq79 nq79 cq79], .int .i64 (dvZ 100)]) ?_
                refine z 11 143 (.agg #[.slice aq79 nq79 cq79]) ?_
                refine z 12 144 (.int .i64 (dvZ 100)) ?_
                refine zs 14 (U.bk 0 rfl) 0 (.agg #[.slice aq79 nq79 cq79]) [.slice aq79 nq79 cq79] [.slice aq79 nq79 cq79] ?_
                intro v82 Y C
                replace U := U.put 0 rfl C Y
                clear Y C
                refine ⟨⟨(U.bk 2 rfl), (U.bk 1 rfl)⟩, ?_⟩
                refine z 15 10 (.int .i64 (dvZ 100)) ?_
                refine gz_done ?_
                exact ge_join (⟨g78, aq79, nq79, cq79, zq79, _, _⟩ : JA) ⟨U.pick 0 rfl (List.forall_mem_cons.2 ⟨mem_at 0 rfl, mem_end 2 rfl⟩), by (try dsimp only); omega, by (try dsimp only); omega, by (try dsimp only); omega⟩ (by kernel_rfl)
              exact ga_nil
            refine zaa 13 9 [.slice none 0 0] 32 (pg) ?_ ?_
            · intro v83 g84 Xg84 hg84 B
              replace U := U.new Xg84 hg84 B
              clear Xg84 hg84 B
              refine ⟨⟨(U.bk 2 rfl), (U.bk 1 rfl)⟩, ?_⟩
              refine zc 8 141 27 #[.agg #[.slice a5 n5 c5], .int .u64 (1 + (sn % 99))] (eTimes (U.nq 10 rfl).nat (by omega) ⟨by omega, by omega⟩) ?_
              rintro _ v86 ⟨aq85, nq85, cq85, zq85, rfl, M, h, mq85, B⟩
              replace U := U.num M h B
              clear M h B
              refine ⟨_, rfl, ⟨(U.bk 2 rfl), (U.bk 1 rfl)⟩, ?_⟩
              refine zc 9 142 29 #[.agg #[.slice aq85 nq85 cq85], .int .u64 100] (eOver (y := 100) (U.nq 0 rfl).nat (by omega) ⟨by decide, by decide⟩) ?_
              rintro _ v88 ⟨aq87, nq87, cq87, zq87, rfl, M, h, mq87, B⟩
              replace U := U.num M h B
              clear M h B
              replace U := U.val 0 rfl hzz.symm
              refine ⟨_, rfl, ⟨(U.bk 2 rfl), (U.bk 1 rfl)⟩, ?_⟩
              refine z 10 132 (.tuple #[.agg #[.slice aq87 nq87 cq87], .int .i64 (dvZ 100)]) ?_
              refine z 11 143 (.agg #[.slice aq87 nq87 cq87]) ?_
              refine z 12 144 (.int .i64 (dvZ 100)) ?_
              refine zs 14 (U.bk 0 rfl) 0 (.agg #[.slice aq87 nq87 cq87]) [.slice aq87 nq87 cq87] [.slice aq87 nq87 cq87] ?_
              intro v90 Y C
              replace U := U.put 0 rfl C Y
              clear Y C
              refine ⟨⟨(U.bk 2 rfl), (U.bk 1 rfl)⟩, ?_⟩
              refine z 15 10 (.int .i64 (dvZ 100)) ?_
              refine gz_done ?_
              exact ge_join (⟨g84, aq87, nq87, cq87, zq87, _, _⟩ : JA) ⟨U.pick 0 rfl (List.forall_mem_cons.2 ⟨mem_at 0 rfl, mem_end 2 rfl⟩), by (try dsimp only); omega, by (try dsimp only); omega, by (try dsimp only); omega⟩ (by kernel_rfl)
            exact ga_nil
          clear U
          rintro ⟨gx9, ax9, kx9, dx9, zx9, nx9, Nx9⟩ v91 ⟨U, qx9, Qx9, px9⟩
          dsimp only at U qx9 Qx9 px9
          refine gc_seq ?_
          replace U := U.drew
          refine gc_draw (fun w' => Blk w' gr (rC g0 gd gh s.tk (s.la + 1 + 1) ((s.C.length : Nat) : Int) (.slice b0c40 k0c40 d0c40) (.slice none 0 0) (.slice b2c40 k2c40 d2c40) (.slice b3c40 k3c40 d3c40) (.slice a4 n4 c4) (.slice a5 n5 c5) (.slice a6 n6 c6)) 43 ∧ Blk w' gx9 [.slice ax9 kx9 dx9] 32) (fun _ => false) ⟨(U.bk 2 rfl), (U.bk 0 rfl)⟩ ?_
          refine z 0 145 (pg gr) ?_
          refine z 1 146 (pg gr) ?_
          refine z 2 147 (pq gr 11) ?_
          refine zl 3 148 (.slice (some ⟨gd, 0, none⟩) 4 4) (fun _ h => h.1) 11 ?_
          refine z 4 149 (.int .i64 (ix : Int)) ?_
          refine z 5 150 (pg gr) ?_
          refine z 6 151 (pg gr) ?_
          refine z 7 152 (pg gr) ?_
          refine zl 8 153 (pg g0) (fun _ h => h.1) 0 ?_
          refine z 9 154 (pg gr) ?_
          refine z 10 155 (pg gr) ?_
          refine z 11 156 (pq gr 1) ?_
          refine zlr 12 157 [.int .u64 0, .int .u64 s.tk, .slice b0c40 k0c40 d0c40, .bool false, .int .u64 0, .bool false, .int .u64 (s.la + 1 + 1), .slice none 0 0, .slice b2c40 k2c40 d2c40, .slice b3c40 k3c40 d3c40] (fun _ h => h.1) 1 ?_
          refine zlr 13 158 [.slice ax9 kx9 dx9] (fun _ h => h.2) 0 ?_
          refine zr 14 159 (.agg #[.slice ax9 kx9 dx9, .int .u64 0, .slice none 0 0]) (by intro _ _; kernel_rfl) ?_
          have F92 := (F41.hold (by rw [Lh_len]; have := num_le (h := s.hd) 4; omega)).perm (Lh_hold hix b43)
          refine zc 15 160 19 #[pg g0, .int .u64 16, .agg #[.int .u64 0, .int .u64 s.tk, .slice b0c40 k0c40 d0c40, .bool false, .int .u64 0, .bool false, .int .u64 (s.la + 1 + 1), .slice none 0 0, .slice b2c40 k2c40 d2c40, .slice b3c40 k3c40 d3c40], .agg #[.slice ax9 kx9 dx9, .int .u64 0, .slice none 0 0]] (HoE.cast (E' := referE (closeE E 16 (s.la + 1) s.tk s.cur) 16 (s.la + 1)) (p := s.la + 1) (xs := zz * (s.tk * U36) / T) (hold_any U.sx (id := 16) ⟨by decide, by decide⟩ ⟨by omega, by omega⟩ (U.nq 5 rfl).nk (by omega) (nq_nil _ _).nk (by omega) (U.nq 3 rfl).nk (by omega) (U.nq 2 rfl).nk (by omega) (U.nq 0 rfl).nk (by omega) (nq_nil _ _).nk (by omega) (by omega) (by omega)) (by omega) rfl rfl) ?_
          rintro _ v98 ⟨aq93, nq93, cq93, zq93, aq94, nq94, cq94, zq94, K95, n96, N97, rfl, S, qn96, qN97, hK, hC, Q0, mq93, h0, Q1, mq94, h1⟩
          have L := U.lt
          replace U := ((U.op S hK hC).add L Q0 h0).add L Q1 h1
          clear L S hK hC Q0 h0 Q1 h1
          refine ⟨_, rfl, ⟨(U.bk 2 rfl), (U.bk 0 rfl)⟩, ?_⟩
          refine zr 16 161 (pq gd (ix * 3)) (fun _ _ => congr_v (by simp) (run_ixs 3 gd 0 4 4 ix hix)) ?_
          refine zs 17 (U.bk 3 rfl) (ix * 3) (.agg #[.slice aq93 nq93 cq93, .int .u64 (s.la + 1), .slice aq94 nq94 cq94]) [.slice aq93 nq93 cq93, .int .u64 (s.la + 1), .slice aq94 nq94 cq94] (dC (up fu ix (zq93, aq93, nq93, cq93, zz)) (up s.pe ix (s.la + 1)) (up ft ix (zq94, aq94, nq94, cq94, zz * (s.tk * U36) / T))) ?_ (hb := dC_fit hix) (he := dC_put (x := (zq93, aq93, nq93, cq93, zz)) (y := (zq94, aq94, nq94, cq94, zz * (s.tk * U36) / T)) hix)
          intro v99 Y C
          replace U := U.put 3 rfl C Y
          clear Y C
          refine ⟨⟨(U.bk 2 rfl), (U.bk 0 rfl)⟩, ?_⟩
          refine gz_done ?_
          refine ge_then ?_
          refine gc_fr [(0, pg gr), (4, .int .i64 (ix : Int)), (9, pg gx9)] (by kernel_rfl) ?_
          refine gc_seq ?_
          replace U := U.drew
          refine gc_draw (fun w' => Blk w' gr (rC g0 gd gh s.tk (s.la + 1 + 1) ((s.C.length : Nat) : Int) (.slice b0c40 k0c40 d0c40) (.slice none 0 0) (.slice b2c40 k2c40 d2c40) (.slice b3c40 k3c40 d3c40) (.slice a4 n4 c4) (.slice a5 n5 c5) (.slice a6 n6 c6)) 43 ∧ Blk w' gx9 [.slice ax9 kx9 dx9] 32) (fun i => decide (10 ≤ i)) ⟨(U.bk 2 rfl), (U.bk 0 rfl)⟩ ?_
          refine zp 0 163 (pg gr) ?_
          refine zp 1 164 (pg gr) ?_
          refine zp 2 165 (pg gr) ?_
          refine zp 3 166 (pq gr 15) ?_
          refine zlr 4 167 [.slice a5 n5 c5] (fun _ h => h.1) 15 ?_
          refine zlr 5 168 [.slice ax9 kx9 dx9] (fun _ h => h.2) 0 ?_
          refine zc 6 169 30 #[.agg #[.slice a5 n5 c5], .agg #[.slice ax9 kx9 dx9]] (eSub (U.nq 13 rfl).nat (by omega) (U.nq 2 rfl).nat (by omega)) ?_
          rintro _ v101 ⟨aq100, nq100, cq100, zq100, rfl, M, h, mq100, B⟩
          replace U := U.num M h B
          clear M h B
          replace U := U.val 0 rfl (if_pos hzz2)
          refine ⟨_, rfl, ⟨(U.bk 2 rfl), (U.bk 0 rfl)⟩, ?_⟩
          refine zp 7 162 (.tuple #[.agg #[.slice aq100 nq100 cq100], .int .i64 (sbE s.fre zz)]) ?_
          refine zp 8 170 (.agg #[.slice aq100 nq100 cq100]) ?_
          refine zp 9 171 (.int .i64 (sbE s.fre zz)) ?_
          refine gz_late ?_
          refine yt 10 172 (pg gr) ?_
          refine yt 11 173 (pq gr 15) ?_
          refine ys 12 (U.bk 2 rfl) 15 (.agg #[.slice aq100 nq100 cq100]) [.slice aq100 nq100 cq100] (rC g0 gd gh s.tk (s.la + 1 + 1) ((s.C.length : Nat) : Int) (.slice b0c40 k0c40 d0c40) (.slice none 0 0) (.slice b2c40 k2c40 d2c40) (.slice b3c40 k3c40 d3c40) (.slice a4 n4 c4) (.slice aq100 nq100 cq100) (.slice a6 n6 c6)) ?_
          intro v102 Y C
          replace U := U.put 2 rfl C Y
          clear Y C
          refine gy_done ?_
          refine ge_then ?_
          refine gc_fr [(0, pg gr), (4, .int .i64 (ix : Int))] (by kernel_rfl) ?_
          refine gc_reg ?_
          refine t 174 (pg gr) ?_
          refine t 175 (pg gr) ?_
          refine t 176 (pq gr 12) ?_
          refine tl 177 (.slice (some ⟨gh, 0, none⟩) 4 4) (U.bk 2 rfl) 12 ?_
          refine t 178 (.int .i64 (ix : Int)) ?_
          refine tr 179 (pq gh ix) (congr_v (by simp) (run_ixs 1 gh 0 4 4 ix hix)) ?_
          refine ts (U.bk 4 rfl) ix (.bool true) [.bool true] (hC (up s.hd ix true)) ?_ (hb := hC_fit hix) (he := hC_put hix)
          intro v103 Y C
          replace U := U.put 4 rfl C Y
          clear Y C
          refine gl_nil ?_
          refine ge_bn ?_
          refine ge_end (.tuple #[]) (rs0 (by kernel_rfl)) ?_
          exact ⟨_, rfl, (.join ix zz hix b43 ⟨hzz1, hzz2⟩), ⟨_, _, _, _, b0c40, k0c40, d0c40, y0c40, none, 0, 0, 0, b2c40, k2c40, d2c40, y2c40, b3c40, k3c40, d3c40, y3c40, a4, n4, c4, z4, aq100, nq100, cq100, zq100, a6, n6, c6, z6, r2c40, x3, (up fu ix (zq93, aq93, nq93, cq93, zz)), (up ft ix (zq94, aq94, nq94, cq94, zz * (s.tk * U36) / T)), U.pick 2 rfl (mem7 (mem_at 8 rfl) (mem_at 4 rfl) (mem_at 6 rfl) (mem_at 5 rfl) (mem_at 13 rfl) (mem_at 0 rfl) (mem_at 15 rfl) (mem_up (mem_at 2 rfl) (mem_at 1 rfl) (mem_end 16 rfl))), F92, ⟨up_val hsv rfl, up_val htv rfl⟩, by omega, by omega, up_len hul (show nq93 ≤ 60 by omega), up_len (fun j => Nat.le_trans (htl j) (by omega)) (show nq94 ≤ 200 + 2 * (m + 3) by omega)⟩⟩
      · refine gc_no (hc := congrArg Value.bool b39) ?_
        refine gc_seq ?_
        refine gc_reg ?_
        by_cases c104 : (wh : Int) = 8
        · refine tq 181 (.bool ((wh : Int) == 8)) (.bool true) (congrArg Value.bool (beq_iff_eq.2 c104)) ?_
          refine t 180 (.bool true) ?_
          refine gl_nil ?_
          refine ge_then ?_
          refine gc_yes ?_
          refine gc_seq ?_
          refine gc_reg ?_
          refine t 182 (pg gr) ?_
          refine t 183 (pg gr) ?_
          refine t 184 (pq gr 1) ?_
          refine t 185 (pq gr 2) ?_
          refine tl 186 (.int .u64 s.tk) (U.bk 1 rfl) 2 ?_
          by_cases c105 : (1 : Int) < s.tk
          · refine tq 187 (.bool (decide ((1 : Int) < s.tk))) (.bool true) (congrArg Value.bool (decide_eq_true c105)) ?_
            refine gl_nil ?_
            refine ge_then ?_
            refine gc_yes ?_
            refine gc_seq ?_
            refine gc_reg ?_
            refine t 188 (pg gr) ?_
            have F107 := F.close (tk := s.tk) (cur := s.cur) (by omega) I.div.1 (I.lim (by omega))
            refine tc 189 28 #[pg gr] (close_run (k := 1) U rfl (mem_at 0 rfl) (by omega) (mem_at 1 rfl) (by omega) (mem_at 2 rfl) (by omega) (mem_at 3 rfl) (by omega) ⟨by omega, by omega⟩ ⟨by omega, by omega⟩ (by omega) (by omega)) ?_
            rintro _ v108 ⟨b0c106, k0c106, d0c106, y0c106, b1c106, k1c106, d1c106, y1c106, b2c106, k2c106, d2c106, y2c106, b3c106, k3c106, d3c106, y3c106, Kc106, nc106, Nc106, r1c106, r2c106, rfl, U9, qc106, Qc106, p0c106, p2c106, p3c106⟩
            refine ⟨_, rfl, ?_⟩
            clear U
            have U := U9
            clear U9
            dsimp only [List.set] at U
            refine gl_nil ?_
            refine ge_then ?_
            refine gc_seq ?_
            replace U := U.drew
            refine gc_draw (fun w' => Blk w' gr (rC g0 gd gh s.tk (s.la + 1 + 1) ((s.C.length : Nat) : Int) (.slice b0c106 k0c106 d0c106) (.slice none 0 0) (.slice b2c106 k2c106 d2c106) (.slice b3c106 k3c106 d3c106) (.slice a4 n4 c4) (.slice a5 n5 c5) (.slice a6 n6 c6)) 43 ∧ Blk w' g2 [.int .i64 wh, .int .i64 aj, .int .u64 sn, .slice ad nd cd] 34) (fun i => decide (20 ≤ i)) ⟨(U.bk 1 rfl), (U.bk 0 rfl)⟩ ?_
            refine zp 0 190 (pg gr) ?_
            refine zp 1 191 (pg gr) ?_
            refine zp 2 192 (pg gr) ?_
            refine zp 3 193 (pg gr) ?_
            refine zl 4 194 (pg g0) (fun _ h => h.1) 0 ?_
            refine zp 5 195 (pg gr) ?_
            refine zp 6 196 (pg gr) ?_
            refine zp 7 197 (pq gr 1) ?_
            refine zlr 8 198 [.int .u64 0, .int .u64 s.tk, .slice b0c106 k0c106 d0c106, .bool false, .int .u64 0, .bool false, .int .u64 (s.la + 1 + 1), .slice none 0 0, .slice b2c106 k2c106 d2c106, .slice b3c106 k3c106 d3c106] (fun _ h => h.1) 1 ?_
            refine zp 9 199 (pq g2 2) ?_
            refine zl 10 200 (.int .u64 sn) (fun _ h => h.2) 2 ?_
            refine zp 11 201 (pg gr) ?_
            refine zp 12 202 (pg gr) ?_
            refine zp 13 203 (pq gr 1) ?_
            refine zp 14 204 (pq gr 2) ?_
            refine zl 15 205 (.int .u64 s.tk) (fun _ h => h.1) 2 ?_
            refine zq 16 206 (.int .u64 (IntKind.u64.wrap (s.tk - 1))) (.int .u64 (s.tk - 1)) (wu (by omega)) ?_
            refine zr 17 207 (.int .u64 (sn % (s.tk - 1))) (fun _ _ => run_remu sn (s.tk - 1) hsN ⟨by omega, by omega⟩) ?_
            have e1 := Int.emod_nonneg sn (show s.tk - 1 ≠ 0 by omega)
            have e2 := Int.emod_lt_of_pos sn (show 0 < s.tk - 1 by omega)
            obtain ⟨tt, htt⟩ : ∃ tt : Int, tt = 1 + sn % (s.tk - 1) := ⟨_, rfl⟩
            refine zq 18 208 (.int .u64 (IntKind.u64.wrap (1 + sn % (s.tk - 1)))) (.int .u64 tt) (congrArg (Value.int .u64) (by rw [IntKind.wrap_u64]; omega)) ?_
            have F109 := F107.cut (b := s.tk) (a := tt) ⟨by omega, by omega⟩ ⟨by omega, by omega⟩ (fun c hc => by have := (F.hC c hc).1.2; omega) (by rw [Lh_len]; have := num_le (h := s.hd) 4; omega)
            refine zc 19 209 23 #[pg g0, .int .u64 16, .agg #[.int .u64 0, .int .u64 s.tk, .slice b0c106 k0c106 d0c106, .bool false, .int .u64 0, .bool false, .int .u64 (s.la + 1 + 1), .slice none 0 0, .slice b2c106 k2c106 d2c106, .slice b3c106 k3c106 d3c106], .int .u64 tt] (CuE.cast (E' := cutE (closeE E 16 (s.la + 1) s.tk s.cur) 16 (s.la + 1) s.tk tt) (p := s.la + 1) (cut_any (af := tt) U.sx (id := 16) ⟨by decide, by decide⟩ (U.nq 4 rfl).nk (by omega) (nq_nil _ _).nk (by omega) (U.nq 2 rfl).nk (by omega) (U.nq 1 rfl).nk (by omega) (by omega) (by omega)) (by omega) rfl) ?_
            rintro _ v117 ⟨aq110, nq110, cq110, zq110, aq111, nq111, cq111, zq111, aq112, nq112, cq112, zq112, aq113, nq113, cq113, zq113, K114, n115, N116, rfl, S, qn115, qN116, hK, hC, Q0, mq110, h0, Q1, mq111, h1, Q2, mq112, h2, Q3, mq113, h3⟩
            have L := U.lt
            replace U := ((((U.op S hK hC).add L Q0 h0).add L Q1 h1).add L Q2 h2).add L Q3 h3
            clear L S hK hC Q0 h0 Q1 h1 Q2 h2 Q3 h3
            refine ⟨_, rfl, ⟨(U.bk 1 rfl), (U.bk 0 rfl)⟩, ?_⟩
            refine gz_late ?_
            refine yt 20 210 (pg gr) ?_
            refine yt 21 211 (pq gr 1) ?_
            refine ys 22 (U.bk 1 rfl) 1 (.agg #[.int .u64 0, .int .u64 tt, .slice aq110 nq110 cq110, .bool false, .int .u64 0, .bool false, .int .u64 (s.la + 1 + 1), .slice aq111 nq111 cq111, .slice aq112 nq112 cq112, .slice aq113 nq113 cq113]) [.int .u64 0, .int .u64 tt, .slice aq110 nq110 cq110, .bool false, .int .u64 0, .bool false, .int .u64 (s.la + 1 + 1), .slice aq111 nq111 cq111, .slice aq112 nq112 cq112, .slice aq113 nq113 cq113] (rC g0 gd gh tt (s.la + 1 + 1) ((s.C.length : Nat) : Int) (.slice aq110 nq110 cq110) (.slice aq111 nq111 cq111) (.slice aq112 nq112 cq112) (.slice aq113 nq113 cq113) (.slice a4 n4 c4) (.slice a5 n5 c5) (.slice a6 n6 c6)) ?_
            intro v118 Y C
            replace U := U.put 1 rfl C Y
            clear Y C
            refine gy_done ?_
            refine ge_then ?_
            refine gc_fr [(0, pg gr)] (by kernel_rfl) ?_
            refine gc_reg ?_
            refine t 212 (pg gr) ?_
            refine t 213 (pg gr) ?_
            refine t 214 (pq gr 13) ?_
            refine tl 215 (.int .i64 ((s.C.length : Nat) : Int)) (U.bk 1 rfl) 13 ?_
            refine tq 216 (.int .i64 (IntKind.i64.wrap (((s.C.length : Nat) : Int) + 1))) (.int .i64 (((s.C.length : Nat) : Int) + 1)) (wi (by omega)) ?_
            refine t 217 (pg gr) ?_
            refine t 218 (pq gr 13) ?_
            refine ts (U.bk 1 rfl) 13 (.int .i64 (((s.C.length : Nat) : Int) + 1)) [.int .i64 (((s.C.length : Nat) : Int) + 1)] (rC g0 gd gh tt (s.la + 1 + 1) (((s.C.length : Nat) : Int) + 1) (.slice aq110 nq110 cq110) (.slice aq111 nq111 cq111) (.slice aq112 nq112 cq112) (.slice aq113 nq113 cq113) (.slice a4 n4 c4) (.slice a5 n5 c5) (.slice a6 n6 c6)) ?_
            intro v119 Y C
            replace U := U.put 1 rfl C Y
            clear Y C
            refine gl_nil ?_
            refine ge_bn ?_
            refine ge_end (.tuple #[]) (rs0 (by kernel_rfl)) ?_
            have hcl : (((s.C ++ [(s.la + 1, s.tk, tt)]).length : Nat) : Int) = ((s.C.length : Nat) : Int) + 1 := by rw [List.length_append]; rfl
            rw [← hcl] at U
            exact ⟨_, rfl, (.cut tt ⟨by omega, by omega⟩), ⟨_, _, _, _, aq110, nq110, cq110, zq110, aq111, nq111, cq111, zq111, aq112, nq112, cq112, zq112, aq113, nq113, cq113, zq113, a4, n4, c4, z4, a5, n5, c5, z5, a6, n6, c6, z6, r2c106, x3, fu, ft, U.pick 1 rfl (mem7 (mem_at 3 rfl) (mem_at 2 rfl) (mem_at 1 rfl) (mem_at 0 rfl) (mem_at 13 rfl) (mem_at 14 rfl) (mem_at 15 rfl) (mem_end 16 rfl)), F109, ⟨hsv, htv⟩, by omega, by omega, hul, fun j => Nat.le_trans (htl j) (by omega)⟩⟩
          · refine tq 187 (.bool (decide ((1 : Int) < s.tk))) (.bool false) (congrArg Value.bool (decide_eq_false c105)) ?_
            refine gl_nil ?_
            refine ge_then ?_
            refine gc_no ?_
            refine gc_skip ?_
            refine ge_bn ?_
            refine ge_end (.tuple #[]) (rs0 (by kernel_rfl)) ?_
            exact ⟨_, rfl, .skip, ⟨_, _, _, _, a0, n0, c0, z0, a1, n1, c1, z1, a2, n2, c2, z2, a3, n3, c3, z3, a4, n4, c4, z4, a5, n5, c5, z5, a6, n6, c6, z6, x2, x3, fu, ft, U.pick 1 rfl (mem7 (mem_at 0 rfl) (mem_at 1 rfl) (mem_at 2 rfl) (mem_at 3 rfl) (mem_at 4 rfl) (mem_at 5 rfl) (mem_at 6 rfl) (mem_end 7 rfl)), F, ⟨hsv, htv⟩, by omega, by omega, hul, fun j => Nat.le_trans (htl j) (by omega)⟩⟩
        · refine tq 181 (.bool ((wh : Int) == 8)) (.bool false) (congrArg Value.bool (beq_eq_false_iff_ne.2 c104)) ?_
          refine t 180 (.bool false) ?_
          refine gl_nil ?_
          refine ge_then ?_
          refine gc_no ?_
          refine gc_skip ?_
          refine ge_bn ?_
          refine ge_end (.tuple #[]) (rs0 (by kernel_rfl)) ?_
          exact ⟨_, rfl, .skip, ⟨_, _, _, _, a0, n0, c0, z0, a1, n1, c1, z1, a2, n2, c2, z2, a3, n3, c3, z3, a4, n4, c4, z4, a5, n5, c5, z5, a6, n6, c6, z6, x2, x3, fu, ft, U.pick 1 rfl (mem7 (mem_at 0 rfl) (mem_at 1 rfl) (mem_at 2 rfl) (mem_at 3 rfl) (mem_at 4 rfl) (mem_at 5 rfl) (mem_at 6 rfl) (mem_end 7 rfl)), F, ⟨hsv, htv⟩, by omega, by omega, hul, fun j => Nat.le_trans (htl j) (by omega)⟩⟩
end Fo
end Go.Proofs.YtjejmkcjflhoiaaGreatDoor

namespace Go.Proofs.YtjejmkcjflhoiaaGreatDoor
namespace Fo
open Go.RowKit Go.Lib Pg Lim Gl Kv Bk Pw
attribute [local go_sem] Oper.semAt_some
set_option maxRecDepth 100000
set_option linter.unusedVariables false
set_option linter.unusedSimpArgs false
set_option maxHeartbeats 4000000
theorem Un.more {w0 w : World} {B g0 n N g : Nat} {K : Nat → Prop} {E : Ents} {bs : List Bx} {cs : List Value} {t : TypeId} (h : Un w0 B g0 w K E n N bs []) (X : Blk w g cs t) (nk : ¬ K g) (y : w0.heap.size ≤ g) (ne : ∀ p ∈ bs, g ≠ p.1) : Un w0 B g0 w K E n N ((g, cs, t) :: bs) [] := ⟨h.bb, h.lo, h.sx, List.forall_mem_cons.2 ⟨⟨X, nk, y⟩, h.b⟩, h.q, fun _ _ _ h => (List.not_mem_nil h).elim, List.pairwise_cons.2 ⟨ne, h.d⟩⟩
theorem mem_one {z : Nx} {l : List Nx} (h : z ∈ l) : ∀ r ∈ dQ (fun _ => z) (fun _ => z), r ∈ l := fun r hr => by
  unfold dQ at hr
  simp only [List.mem_cons, List.not_mem_nil, or_false, or_self] at hr
  exact hr ▸ h
def st0 (n : Int) : St := ⟨n, 0, fun _ => 0, [], fun _ => false, fun _ => 0, fun _ => 0, fun _ => 0, 0, 0, n * U36, 0⟩
def d0 : List Value := dC (fun _ => (0, none, 0, 0, 0)) (fun _ => 0) (fun _ => (0, none, 0, 0, 0))
def h0 : List Value := hC (fun _ => false)
def r0 (g0 gd gh : Nat) : List Value := rC g0 gd gh 0 0 0 (.slice none 0 0) (.slice none 0 0) (.slice none 0 0) (.slice none 0 0) (.slice none 0 0) (.slice none 0 0) (.slice none 0 0)
structure JB where
  K : Nat → Prop
  B : Nat
  g0 : Nat
  gr : Nat
  gd : Nat
  gh : Nat
theorem begun_any {w : World} {tok nn : Int} (htok : 0 ≤ tok ∧ tok < 18446744073709551616) (hnn : nn = 1 + tok % 1000000) : Calls Tryz.prog 7 #[.int .u64 tok] w fun e w' => ∃ B g0 gr gd gh, e = .returned (pg gr) ∧ Ru w B g0 gr gd gh (nn * U36) w' (st0 nn) 0 := by
  have hn1 : 1 ≤ nn ∧ nn ≤ 1000000 := by omega
  have BB := Below.refl w.heap.size w
  refine gc_enter (n := 31) Tryz.func7 rfl (by kernel_rfl) (by kernel_rfl) ?_
  refine gc_seq ?_
  refine gc_reg ?_
  refine t 2 (.pointer none) ?_
  refine gl_nil ?_
  refine ge_then ?_
  refine gc_join (fun (j : JB) => [(0, .int .u64 tok), (3, pg j.gr)]) (fun (j : JB) w' => Un w j.B j.g0 w' j.K [] 0 0 [(j.gr, r0 j.g0 j.gd j.gh, 43), (j.gd, d0, 53), (j.gh, h0, 4)] []) ?_ ?_
  · replace BB := BB.drew
    refine gc_draw (fun _ => True) (fun _ => false) trivial ?_
    refine gz_ready [0, 1, 2] ?_
    obtain ⟨Bz, hBz⟩ : ∃ Bz, Bz = (w.drew).heap.size := ⟨_, rfl⟩
    have hwB : w.heap.size ≤ Bz := by rw [hBz]; exact BB.size
    refine ga_call 0 (some 5) 16 #[] (snewF Bz hBz) ?_ ?_
    · rintro _ v1 ⟨g0, K0, rfl, S0, hK0, B0⟩
      replace BB := joinB BB B0
      clear B0
      have U := un_of BB (B := Bz) hwB S0
      clear BB S0
      refine ⟨_, rfl, trivial, ?_⟩
      refine gz_ready [1, 2] ?_
      refine zaa 1 6 d0 53 (sg 4) ?_ ?_
      · intro v2 g3 Xg3 hg3 B
        replace U := U.new Xg3 hg3 B
        clear Xg3 hg3 B
        refine ⟨trivial, ?_⟩
        refine za 2 7 h0 4 (sg 4) ?_
        intro v4 g5 Xg5 hg5 B
        replace U := U.new Xg5 hg5 B
        clear Xg5 hg5 B
        refine ⟨trivial, ?_⟩
        refine zr 3 8 (.agg (r0 g0 g3 g5).toArray) (by intro _ _; kernel_rfl) ?_
        refine za 4 9 (r0 g0 g3 g5) 43 (pg) ?_
        intro v6 g7 Xg7 hg7 B
        replace U := U.new Xg7 hg7 B
        clear Xg7 hg7 B
        refine ⟨trivial, ?_⟩
        refine z 5 3 (pg g7) ?_
        refine gz_done ?_
        exact ge_join (⟨_, Bz, g0, g7, g3, g5⟩ : JB) (U.sel [0, 2, 1] []) (by kernel_rfl)
      refine zaa 2 7 h0 4 (sg 4) ?_ ?_
      · intro v8 g9 Xg9 hg9 B
        replace U := U.new Xg9 hg9 B
        clear Xg9 hg9 B
        refine ⟨trivial, ?_⟩
        refine za 1 6 d0 53 (sg 4) ?_
        intro v10 g11 Xg11 hg11 B
        replace U := U.new Xg11 hg11 B
        clear Xg11 hg11 B
        refine ⟨trivial, ?_⟩
        refine zr 3 8 (.agg (r0 g0 g11 g9).toArray) (by intro _ _; kernel_rfl) ?_
        refine za 4 9 (r0 g0 g11 g9) 43 (pg) ?_
        intro v12 g13 Xg13 hg13 B
        replace U := U.new Xg13 hg13 B
        clear Xg13 hg13 B
        refine ⟨trivial, ?_⟩
        refine z 5 3 (pg g13) ?_
        refine gz_done ?_
        exact ge_join (⟨_, Bz, g0, g13, g11, g9⟩ : JB) (U.sel [0, 1, 2] []) (by kernel_rfl)
      exact ga_nil
    refine zaa 1 6 d0 53 (sg 4) ?_ ?_
    · intro v14 g15 Xg15 hg15 B
      have yg15 := Nat.le_trans BB.size hg15
      replace BB := joinB BB B
      clear B
      refine ⟨trivial, ?_⟩
      refine gz_ready [0, 2] ?_
      obtain ⟨Bz, hBz⟩ : ∃ Bz, Bz = (v14).heap.size := ⟨_, rfl⟩
      have hwB : w.heap.size ≤ Bz := by rw [hBz]; exact BB.size
      have mXg15 := Xg15.lt
      refine ga_call 0 (some 5) 16 #[] (snewF Bz hBz) ?_ ?_
      · rintro _ v16 ⟨g0, K0, rfl, S0, hK0, B0⟩
        replace BB := joinB BB B0
        replace Xg15 := Xg15.keep B0
        clear B0
        have U := un_of BB (B := Bz) hwB S0
        clear BB S0
        replace U := U.more Xg15 (fun q => by have h1 := hK0 _ q; have h2 := mXg15; omega) yg15 (fun _ h => (List.not_mem_nil h).elim)
        clear Xg15
        refine ⟨_, rfl, trivial, ?_⟩
        refine za 2 7 h0 4 (sg 4) ?_
        intro v17 g18 Xg18 hg18 B
        replace U := U.new Xg18 hg18 B
        clear Xg18 hg18 B
        refine ⟨trivial, ?_⟩
        refine zr 3 8 (.agg (r0 g0 g15 g18).toArray) (by intro _ _; kernel_rfl) ?_
        refine za 4 9 (r0 g0 g15 g18) 43 (pg) ?_
        intro v19 g20 Xg20 hg20 B
        replace U := U.new Xg20 hg20 B
        clear Xg20 hg20 B
        refine ⟨trivial, ?_⟩
        refine z 5 3 (pg g20) ?_
        refine gz_done ?_
        exact ge_join (⟨_, Bz, g0, g20, g15, g18⟩ : JB) (U.sel [0, 2, 1] []) (by kernel_rfl)
      have lXg15 := Xg15.lt
      refine zaa 2 7 h0 4 (sg 4) ?_ ?_
      · intro v21 g22 Xg22 hg22 B
        have yg22 := Nat.le_trans BB.size hg22
        replace BB := joinB BB B
        replace Xg15 := Xg15.keep B
        clear B
        refine ⟨trivial, ?_⟩
        obtain ⟨Bz, hBz⟩ : ∃ Bz, Bz = (v21).heap.size := ⟨_, rfl⟩
        have hwB : w.heap.size ≤ Bz := by rw [hBz]; exact BB.size
        have mXg15 := Xg15.lt
        have mXg22 := Xg22.lt
        refine zc 0 5 16 #[] (snewF Bz hBz) ?_
        rintro _ v23 ⟨g0, K0, rfl, S0, hK0, B0⟩
        replace BB := joinB BB B0
        replace Xg15 := Xg15.keep B0
        replace Xg22 := Xg22.keep B0
        clear B0
        have U := un_of BB (B := Bz) hwB S0
        clear BB S0
        replace U := U.more Xg15 (fun q => by have h1 := hK0 _ q; have h2 := mXg15; omega) yg15 (fun _ h => (List.not_mem_nil h).elim)
        clear Xg15
        replace U := U.more Xg22 (fun q => by have h1 := hK0 _ q; have h2 := mXg22; omega) yg22 (List.forall_mem_cons.2 ⟨show g22 ≠ g15 by omega, fun _ h => (List.not_mem_nil h).elim⟩)
        clear Xg22
        refine ⟨_, rfl, trivial, ?_⟩
        refine zr 3 8 (.agg (r0 g0 g15 g22).toArray) (by intro _ _; kernel_rfl) ?_
        refine za 4 9 (r0 g0 g15 g22) 43 (pg) ?_
        intro v24 g25 Xg25 hg25 B
        replace U := U.new Xg25 hg25 B
        clear Xg25 hg25 B
        refine ⟨trivial, ?_⟩
        refine z 5 3 (pg g25) ?_
        refine gz_done ?_
        exact ge_join (⟨_, Bz, g0, g25, g15, g22⟩ : JB) (U.sel [0, 2, 1] []) (by kernel_rfl)
      exact ga_nil
    refine zaa 2 7 h0 4 (sg 4) ?_ ?_
    · intro v26 g27 Xg27 hg27 B
      have yg27 := Nat.le_trans BB.size hg27
      replace BB := joinB BB B
      clear B
      refine ⟨trivial, ?_⟩
      refine gz_ready [0, 1] ?_
      obtain ⟨Bz, hBz⟩ : ∃ Bz, Bz = (v26).heap.size := ⟨_, rfl⟩
      have hwB : w.heap.size ≤ Bz := by rw [hBz]; exact BB.size
      have mXg27 := Xg27.lt
      refine ga_call 0 (some 5) 16 #[] (snewF Bz hBz) ?_ ?_
      · rintro _ v28 ⟨g0, K0, rfl, S0, hK0, B0⟩
        replace BB := joinB BB B0
        replace Xg27 := Xg27.keep B0
        clear B0
        have U := un_of BB (B := Bz) hwB S0
        clear BB S0
        replace U := U.more Xg27 (fun q => by have h1 := hK0 _ q; have h2 := mXg27; omega) yg27 (fun _ h => (List.not_mem_nil h).elim)
        clear Xg27
        refine ⟨_, rfl, trivial, ?_⟩
        refine za 1 6 d0 53 (sg 4) ?_
        intro v29 g30 Xg30 hg30 B
        replace U := U.new Xg30 hg30 B
        clear Xg30 hg30 B
        refine ⟨trivial, ?_⟩
        refine zr 3 8 (.agg (r0 g0 g30 g27).toArray) (by intro _ _; kernel_rfl) ?_
        refine za 4 9 (r0 g0 g30 g27) 43 (pg) ?_
        intro v31 g32 Xg32 hg32 B
        replace U := U.new Xg32 hg32 B
        clear Xg32 hg32 B
        refine ⟨trivial, ?_⟩
        refine z 5 3 (pg g32) ?_
        refine gz_done ?_
        exact ge_join (⟨_, Bz, g0, g32, g30, g27⟩ : JB) (U.sel [0, 1, 2] []) (by kernel_rfl)
      have lXg27 := Xg27.lt
      refine zaa 1 6 d0 53 (sg 4) ?_ ?_
      · intro v33 g34 Xg34 hg34 B
        have yg34 := Nat.le_trans BB.size hg34
        replace BB := joinB BB B
        replace Xg27 := Xg27.keep B
        clear B
        refine ⟨trivial, ?_⟩
        obtain ⟨Bz, hBz⟩ : ∃ Bz, Bz = (v33).heap.size := ⟨_, rfl⟩
        have hwB : w.heap.size ≤ Bz := by rw [hBz]; exact BB.size
        have mXg27 := Xg27.lt
        have mXg34 := Xg34.lt
        refine zc 0 5 16 #[] (snewF Bz hBz) ?_
        rintro _ v35 ⟨g0, K0, rfl, S0, hK0, B0⟩
        replace BB := joinB BB B0
        replace Xg27 := Xg27.keep B0
        replace Xg34 := Xg34.keep B0
        clear B0
        have U := un_of BB (B := Bz) hwB S0
        clear BB S0
        replace U := U.more Xg27 (fun q => by have h1 := hK0 _ q; have h2 := mXg27; omega) yg27 (fun _ h => (List.not_mem_nil h).elim)
        clear Xg27
        replace U := U.more Xg34 (fun q => by have h1 := hK0 _ q; have h2 := mXg34; omega) yg34 (List.forall_mem_cons.2 ⟨show g34 ≠ g27 by omega, fun _ h => (List.not_mem_nil h).elim⟩)
        clear Xg34
        refine ⟨_, rfl, trivial, ?_⟩
        refine zr 3 8 (.agg (r0 g0 g34 g27).toArray) (by intro _ _; kernel_rfl) ?_
        refine za 4 9 (r0 g0 g34 g27) 43 (pg) ?_
        intro v36 g37 Xg37 hg37 B
        replace U := U.new Xg37 hg37 B
        clear Xg37 hg37 B
        refine ⟨trivial, ?_⟩
        refine z 5 3 (pg g37) ?_
        refine gz_done ?_
        exact ge_join (⟨_, Bz, g0, g37, g34, g27⟩ : JB) (U.sel [0, 1, 2] []) (by kernel_rfl)
      exact ga_nil
    exact ga_nil
  rintro ⟨K, Bz, g0, gr, gd, gh⟩ v38 U
  dsimp only at U
  refine gc_seq ?_
  refine gc_reg ?_
  refine t 10 (.int .u64 tok) ?_
  refine tr 11 (.int .u64 (tok % 1000000)) (run_remu tok 1000000 htok ⟨by decide, by decide⟩) ?_
  refine tq 12 (.int .u64 (IntKind.u64.wrap (1 + tok % 1000000))) (.int .u64 nn) (congrArg (Value.int .u64) (by rw [IntKind.wrap_u64]; omega)) ?_
  refine t 4 (.int .u64 nn) ?_
  refine gl_nil ?_
  refine ge_then ?_
  refine gc_seq ?_
  replace U := U.drew
  refine gc_draw (fun w' => Blk w' gr [pg g0, .int .u64 0, .int .u64 0, .slice none 0 0, .bool false, .int .u64 0, .bool false, .int .u64 0, .slice none 0 0, .slice none 0 0, .slice none 0 0, .slice (some ⟨gd, 0, none⟩) 4 4, .slice (some ⟨gh, 0, none⟩) 4 4, .int .i64 0, .slice none 0 0, .slice none 0 0, .slice none 0 0] 43) (fun i => decide (10 ≤ i)) (U.bk 0 rfl) ?_
  refine zp 0 13 (pg gr) ?_
  refine zp 1 14 (pg gr) ?_
  refine zp 2 15 (pg gr) ?_
  refine zp 3 16 (pg gr) ?_
  refine zl 4 17 (pg g0) (fun _ h => h) 0 ?_
  refine zp 5 18 (.int .u64 nn) ?_
  refine zp 6 19 (.int .u64 nn) ?_
  refine zc 7 20 18 #[.int .u64 nn] (eOf (y := nn) ⟨by omega, by omega⟩) ?_
  rintro _ v40 ⟨aq39, nq39, cq39, zq39, rfl, M, h, mq39, B⟩
  replace U := U.num M h B
  clear M h B
  refine ⟨_, rfl, (U.bk 0 rfl), ?_⟩
  refine zr 8 21 (.agg #[.int .u64 0, .int .u64 nn, .slice aq39 nq39 cq39, .bool false, .int .u64 0, .bool false, .int .u64 0, .slice none 0 0, .slice none 0 0, .slice none 0 0]) (by intro _ _; kernel_rfl) ?_
  refine zc 9 22 17 #[pg g0, .int .u64 16, .agg #[.int .u64 0, .int .u64 nn, .slice aq39 nq39 cq39, .bool false, .int .u64 0, .bool false, .int .u64 0, .slice none 0 0, .slice none 0 0, .slice none 0 0]] (start_any U.sx (id := 16) ⟨by decide, by decide⟩ (U.nq 0 rfl).nk (by omega) (nq_nil _ _).nk (by omega) (nq_nil _ _).nk (by omega) (nq_nil _ _).nk (by omega) (by omega) (by omega)) ?_
  rintro _ v47 ⟨aq41, nq41, cq41, zq41, aq42, nq42, cq42, zq42, aq43, nq43, cq43, zq43, K44, n45, N46, rfl, S, qn45, qN46, hK, hC, Q0, mq41, h0, Q1, mq42, h1, Q2, mq43, h2⟩
  have L := U.lt
  replace U := (((U.op S hK hC).add L Q0 h0).add L Q1 h1).add L Q2 h2
  clear L S hK hC Q0 h0 Q1 h1 Q2 h2
  refine ⟨_, rfl, (U.bk 0 rfl), ?_⟩
  refine gz_late ?_
  refine yt 10 23 (pg gr) ?_
  refine yt 11 24 (pq gr 1) ?_
  refine ys 12 (U.bk 0 rfl) 1 (.agg #[.int .u64 0, .int .u64 nn, .slice aq41 nq41 cq41, .bool false, .int .u64 0, .bool false, .int .u64 1, .slice none 0 0, .slice aq42 nq42 cq42, .slice aq43 nq43 cq43]) [.int .u64 0, .int .u64 nn, .slice aq41 nq41 cq41, .bool false, .int .u64 0, .bool false, .int .u64 1, .slice none 0 0, .slice aq42 nq42 cq42, .slice aq43 nq43 cq43] [pg g0, .int .u64 0, .int .u64 nn, .slice aq41 nq41 cq41, .bool false, .int .u64 0, .bool false, .int .u64 1, .slice none 0 0, .slice aq42 nq42 cq42, .slice aq43 nq43 cq43, .slice (some ⟨gd, 0, none⟩) 4 4, .slice (some ⟨gh, 0, none⟩) 4 4, .int .i64 0, .slice none 0 0, .slice none 0 0, .slice none 0 0] ?_
  intro v48 Y C
  replace U := U.put 0 rfl C Y
  clear Y C
  refine gy_done ?_
  refine ge_then ?_
  refine gc_fr [(3, pg gr), (4, .int .u64 nn)] (by kernel_rfl) ?_
  refine gc_seq ?_
  refine gc_reg ?_
  refine t 25 (pg gr) ?_
  refine t 26 (.int .u64 nn) ?_
  refine tc 27 18 #[.int .u64 nn] (eOf (y := nn) ⟨by omega, by omega⟩) ?_
  rintro _ v50 ⟨aq49, nq49, cq49, zq49, rfl, M, h, mq49, B⟩
  refine ⟨_, rfl, ?_⟩
  replace U := U.num M h B
  clear M h B
  refine t 28 (pg gr) ?_
  refine t 29 (pq gr 15) ?_
  refine ts (U.bk 0 rfl) 15 (.agg #[.slice aq49 nq49 cq49]) [.slice aq49 nq49 cq49] [pg g0, .int .u64 0, .int .u64 nn, .slice aq41 nq41 cq41, .bool false, .int .u64 0, .bool false, .int .u64 1, .slice none 0 0, .slice aq42 nq42 cq42, .slice aq43 nq43 cq43, .slice (some ⟨gd, 0, none⟩) 4 4, .slice (some ⟨gh, 0, none⟩) 4 4, .int .i64 0, .slice none 0 0, .slice aq49 nq49 cq49, .slice none 0 0] ?_
  intro v51 Y C
  replace U := U.put 0 rfl C Y
  clear Y C
  refine gl_nil ?_
  refine ge_then ?_
  refine gc_seq ?_
  refine gc_reg ?_
  refine t 30 (pg gr) ?_
  refine t 2 (pg gr) ?_
  refine gl_nil ?_
  refine ge_then ?_
  refine gc_ret ?_
  refine ge_ret (pg gr) (rs1 2 (by kernel_rfl) (by kernel_rfl)) ?_
  replace U := U.nil
  exact ⟨Bz, g0, gr, gd, gh, rfl, ⟨_, _, _, _, aq41, nq41, cq41, zq41, none, 0, 0, 0, aq42, nq42, cq42, zq42, aq43, nq43, cq43, zq43, none, 0, 0, 0, aq49, nq49, cq49, zq49, none, 0, 0, 0, _, _, (fun _ => (0, none, 0, 0, 0)), (fun _ => (0, none, 0, 0, 0)), U.pick 0 (by kernel_rfl) (mem7 (mem_at 4 rfl) (mem_at 0 rfl) (mem_at 3 rfl) (mem_at 2 rfl) (mem_at 0 rfl) (mem_at 1 rfl) (mem_at 0 rfl) (mem_one (mem_at 0 rfl))), fs_start (by decide), ⟨fun _ => rfl, fun _ => rfl⟩, by omega, by omega, fun _ => Nat.zero_le _, fun _ => Nat.zero_le _⟩⟩
theorem st0_iv {n : Int} (h : 1 ≤ n ∧ n ≤ 1000000) : Iv (n * U36) (st0 n) 0 := by
  have h0 : (0 : Int) ≤ n * U36 := Int.mul_nonneg (by omega) (by decide)
  exact ⟨h, ⟨Int.le_refl _, Int.le_refl _⟩, Int.le_refl _, by show (0 : Int) + 0 ≤ ((0 : Nat) : Int) * _; simp, Nat.le_refl _, ⟨h0, fun _ => Int.le_refl _⟩, by show n * U36 + hsum _ _ = _; unfold hsum; simp [st0]⟩
structure StpF (w : World) (ao : Option Addr) (n b o : Nat) (sw sa sn : Nat → Int) (aa : Nat → Option Addr) (ns cc : Nat → Nat) (xs : Nat → Int) : Prop where
  ptr : 0 < n → ao = some ⟨b, o, none⟩
  c0 : ∀ i, i < n → w.cell? ⟨b, o + i * 4, none⟩ = some (.int .i64 (sw i))
  c1 : ∀ i, i < n → w.cell? ⟨b, o + i * 4 + 1, none⟩ = some (.int .i64 (sa i))
  c2 : ∀ i, i < n → w.cell? ⟨b, o + i * 4 + 2, none⟩ = some (.int .u64 (sn i))
  c3 : ∀ i, i < n → w.cell? ⟨b, o + i * 4 + 3, none⟩ = some (.slice (aa i) (ns i) (cc i))
  un : ∀ i, i < n → 0 ≤ sn i ∧ sn i < 18446744073709551616
  nat : ∀ i, i < n → NatA w (aa i) (ns i) (cc i) (xs i)
  few : n ≤ 9223372036854775807 ∧ ∀ i, i < n → ns i ≤ 9223372036854775807
def StpsIn (w : World) (ao : Option Addr) (n : Nat) : Prop := ∃ b o sw sa sn aa ns cc xs, StpF w ao n b o sw sa sn aa ns cc xs
theorem StpF.keep {w V : World} {ao : Option Addr} {cnt pb po : Nat} {sw sa sn : Nat → Int} {aa : Nat → Option Addr} {ns cc : Nat → Nat} {xs : Nat → Int} (SA : StpF w ao cnt pb po sw sa sn aa ns cc xs) (B : Below w.heap.size w V) : StpF V ao cnt pb po sw sa sn aa ns cc xs := ⟨SA.ptr, fun i hi => cellB B (SA.c0 i hi), fun i hi => cellB B (SA.c1 i hi), fun i hi => cellB B (SA.c2 i hi), fun i hi => cellB B (SA.c3 i hi), SA.un, fun i hi => (SA.nat i hi).keep B, SA.few⟩
theorem ld_stp {w : World} {g o : Nat} {a b c d : Value} (c0 : w.cell? ⟨g, o, none⟩ = some a) (c1 : w.cell? ⟨g, o + 1, none⟩ = some b) (c2 : w.cell? ⟨g, o + 2, none⟩ = some c) (c3 : w.cell? ⟨g, o + 3, none⟩ = some d) : (loadVar 34 ⟨g, o, none⟩).run Tryz.prog w = .ok (.agg #[a, b, c, d]) w := by go_simp
theorem StpF.load {ρ : Operand → Value} {o : Oper} {w W : World} {ao : Option Addr} {cnt pb po : Nat} {sw sa sn : Nat → Int} {aa : Nat → Option Addr} {ns cc : Nat → Nat} {xs : Nat → Int} {i : Nat} (SA : StpF w ao cnt pb po sw sa sn aa ns cc xs) (hi : i < cnt) (B : Below w.heap.size w W) (ho : ∃ p, o.op = .load 34 p ∧ ρ p = .pointer (some ⟨pb, po + i * 4, none⟩) := by exact ⟨_, rfl, by kernel_rfl⟩) : (execOp ρ o).run Tryz.prog W = .ok (.value (.agg #[.int .i64 (sw i), .int .i64 (sa i), .int .u64 (sn i), .slice (aa i) (ns i) (cc i)])) W := by
  obtain ⟨p, h, hp⟩ := ho
  have := ld_stp (cellB B (SA.c0 i hi)) (cellB B (SA.c1 i hi)) (cellB B (SA.c2 i hi)) (cellB B (SA.c3 i hi))
  simp only [execOp, h, hp]
  simp [Instr.loadAt, Instr.sureAddr, Result.andThen, this]
theorem all_six {ns : Nat → Nat} {i : Nat} (h : ∀ j, j < i → ns j ≤ 6) (hi : ns i ≤ 6) : ∀ j, j < i + 1 → ns j ≤ 6 := fun j hj => by
  rcases Nat.lt_or_ge j i with q | q
  · exact h j q
  · obtain rfl : j = i := by omega
    exact hi
theorem lightF_any {w : World} {ao : Option Addr} {cnt cp pb po : Nat} {sw sa sn : Nat → Int} {aa : Nat → Option Addr} {ns cc : Nat → Nat} {xs : Nat → Int} (SA : StpF w ao cnt pb po sw sa sn aa ns cc xs) : Calls Tryz.prog 6 #[.slice ao cnt cp] w fun e w' => ∃ b : Bool, e = .returned (.bool b) ∧ (b = true → cnt ≤ 100 ∧ ∀ i, i < cnt → ns i ≤ 6) ∧ Below w.heap.size w w' := by
  have BB := Below.refl w.heap.size w
  refine gc_enter (n := 25) Tryz.func6 rfl (by kernel_rfl) (by kernel_rfl) ?_
  have hfew := SA.few.1
  refine gc_seq ?_
  refine gc_reg ?_
  refine t 2 (.bool false) ?_
  refine gl_nil ?_
  refine ge_then ?_
  refine gc_seq ?_
  refine gc_seq ?_
  refine gc_reg ?_
  refine t 3 (.int .i64 0) ?_
  refine gl_nil ?_
  refine ge_then ?_
  refine gc_block ?_
  refine gc_loop (fun s => cnt - s) (fun (s : Nat) => [(0, .slice ao cnt cp), (3, .int .i64 (s : Int))]) (fun s w' => (s ≤ cnt ∧ ∀ j, j < s → ns j ≤ 6) ∧ Below w.heap.size w w') (0 : Nat) ⟨⟨Nat.zero_le _, fun _ h => absurd h (Nat.not_lt_zero _)⟩, BB⟩ (by kernel_rfl) ?_
  clear BB
  rintro i v1 ⟨⟨hi, hall⟩, BB⟩
  refine gc_seq ?_
  refine gc_seq ?_
  refine gc_reg ?_
  refine t 4 (.int .i64 (i : Int)) ?_
  refine t 5 (.slice ao cnt cp) ?_
  refine t 6 (.int .i64 ((cnt : Nat) : Int)) ?_
  by_cases ci : (i : Int) < ((cnt : Nat) : Int)
  · have hk : i < cnt := by omega
    refine tq 7 (.bool (decide ((i : Int) < ((cnt : Nat) : Int)))) (.bool true) (congrArg Value.bool (decide_eq_true ci)) ?_
    refine t 8 (.bool true) ?_
    refine t 9 (.int .i64 (i : Int)) ?_
    by_cases c2 : (i : Int) ≤ 100
    · refine tq 10 (.bool (decide ((i : Int) ≤ 100))) (.bool true) (congrArg Value.bool (decide_eq_true c2)) ?_
      refine t 11 (.bool true) ?_
      refine gl_nil ?_
      refine ge_then ?_
      refine gc_yes ?_
      refine gc_skip ?_
      refine ge_then ?_
      refine gc_seq ?_
      refine gc_block ?_
      refine gc_seq ?_
      refine gc_reg ?_
      refine t 14 (.slice ao cnt cp) ?_
      refine t 15 (.int .i64 (i : Int)) ?_
      refine tr 16 (pq pb (po + i * 4)) (run_ixa 4 pb po cnt cp i hk SA.ptr) ?_
      refine t 17 (pq pb (po + i * 4 + 3)) ?_
      refine t 18 (pq pb (po + i * 4 + 3)) ?_
      refine tr 19 (.slice (aa i) (ns i) (cc i)) (run_ldn (cellB BB (SA.c3 i hk))) ?_
      refine t 20 (.int .i64 ((ns i : Nat) : Int)) ?_
      by_cases c3 : (6 : Int) < ((ns i : Nat) : Int)
      · refine tq 21 (.bool (decide ((6 : Int) < ((ns i : Nat) : Int)))) (.bool true) (congrArg Value.bool (decide_eq_true c3)) ?_
        refine gl_nil ?_
        refine ge_then ?_
        refine gc_fr [(0, .slice ao cnt cp), (3, .int .i64 (i : Int)), (4, .int .i64 (i : Int)), (5, .slice ao cnt cp), (6, .int .i64 ((cnt : Nat) : Int)), (7, .bool true), (8, .bool true), (9, .int .i64 (i : Int)), (10, .bool true), (11, .bool true), (14, .slice ao cnt cp), (15, .int .i64 (i : Int)), (16, pq pb (po + i * 4)), (17, pq pb (po + i * 4 + 3)), (18, pq pb (po + i * 4 + 3)), (19, .slice (aa i) (ns i) (cc i)), (20, .int .i64 ((ns i : Nat) : Int)), (21, .bool true)] (by kernel_rfl) ?_
        refine gc_yes ?_
        refine gc_seq ?_
        refine gc_reg ?_
        refine t 2 (.bool false) ?_
        refine gl_nil ?_
        refine ge_then ?_
        refine gc_ret ?_
        refine ge_br ?_
        refine ge_tr ?_
        refine ge_tr ?_
        refine ge_br ?_
        refine ge_tr ?_
        refine ge_ret (.bool false) (rs1 2 (by kernel_rfl) (by kernel_rfl)) ?_
        exact ⟨false, rfl, (fun h => by cases h), BB⟩
      · refine tq 21 (.bool (decide ((6 : Int) < ((ns i : Nat) : Int)))) (.bool false) (congrArg Value.bool (decide_eq_false c3)) ?_
        refine gl_nil ?_
        refine ge_then ?_
        refine gc_fr [(0, .slice ao cnt cp), (3, .int .i64 (i : Int)), (4, .int .i64 (i : Int)), (5, .slice ao cnt cp), (6, .int .i64 ((cnt : Nat) : Int)), (7, .bool true), (8, .bool true), (9, .int .i64 (i : Int)), (10, .bool true), (11, .bool true), (14, .slice ao cnt cp), (15, .int .i64 (i : Int)), (16, pq pb (po + i * 4)), (17, pq pb (po + i * 4 + 3)), (18, pq pb (po + i * 4 + 3)), (19, .slice (aa i) (ns i) (cc i)), (20, .int .i64 ((ns i : Nat) : Int)), (21, .bool false)] (by kernel_rfl) ?_
        refine gc_no ?_
        refine gc_skip ?_
        refine ge_bn ?_
        refine ge_then ?_
        refine gc_reg ?_
        refine t 12 (.int .i64 (i : Int)) ?_
        refine tq 13 (.int .i64 (IntKind.i64.wrap ((i : Int) + 1))) (.int .i64 ((i : Int) + 1)) (wi (by omega)) ?_
        refine t 3 (.int .i64 ((i : Int) + 1)) ?_
        refine gl_nil ?_
        exact ge_round (i + 1) (by show cnt - (i + 1) < cnt - i; omega) ⟨⟨hk, all_six hall (by omega)⟩, BB⟩ (by kernel_rfl)
    · refine tq 10 (.bool (decide ((i : Int) ≤ 100))) (.bool false) (congrArg Value.bool (decide_eq_false c2)) ?_
      refine t 11 (.bool false) ?_
      refine gl_nil ?_
      refine ge_then ?_
      refine gc_no ?_
      refine gc_exit ?_
      refine ge_tx ?_
      refine ge_tx ?_
      refine ge_bx ?_
      refine ge_then ?_
      refine gc_seq ?_
      refine gc_reg ?_
      refine t 22 (.slice ao cnt cp) ?_
      refine t 23 (.int .i64 ((cnt : Nat) : Int)) ?_
      by_cases c4 : ((cnt : Nat) : Int) ≤ 100
      · refine tq 24 (.bool (decide (((cnt : Nat) : Int) ≤ 100))) (.bool true) (congrArg Value.bool (decide_eq_true c4)) ?_
        refine t 2 (.bool true) ?_
        refine gl_nil ?_
        refine ge_then ?_
        refine gc_fr [(2, .bool true)] (by kernel_rfl) ?_
        refine gc_ret ?_
        refine ge_ret (.bool true) (rs1 2 (by kernel_rfl) (by kernel_rfl)) ?_
        exact ⟨true, rfl, fun _ => ⟨by omega, fun j hj => hall j (by omega)⟩, BB⟩
      · refine tq 24 (.bool (decide (((cnt : Nat) : Int) ≤ 100))) (.bool false) (congrArg Value.bool (decide_eq_false c4)) ?_
        refine t 2 (.bool false) ?_
        refine gl_nil ?_
        refine ge_then ?_
        refine gc_fr [(2, .bool false)] (by kernel_rfl) ?_
        refine gc_ret ?_
        refine ge_ret (.bool false) (rs1 2 (by kernel_rfl) (by kernel_rfl)) ?_
        exact ⟨false, rfl, (fun h => by cases h), BB⟩
  · refine tq 7 (.bool (decide ((i : Int) < ((cnt : Nat) : Int)))) (.bool false) (congrArg Value.bool (decide_eq_false ci)) ?_
    refine t 8 (.bool false) ?_
    refine tn 9 ?_
    refine tn 10 ?_
    refine t 11 (.bool false) ?_
    refine gl_nil ?_
    refine ge_then ?_
    refine gc_no ?_
    refine gc_exit ?_
    refine ge_tx ?_
    refine ge_tx ?_
    refine ge_bx ?_
    refine ge_then ?_
    refine gc_seq ?_
    refine gc_reg ?_
    refine t 22 (.slice ao cnt cp) ?_
    refine t 23 (.int .i64 ((cnt : Nat) : Int)) ?_
    by_cases c5 : ((cnt : Nat) : Int) ≤ 100
    · refine tq 24 (.bool (decide (((cnt : Nat) : Int) ≤ 100))) (.bool true) (congrArg Value.bool (decide_eq_true c5)) ?_
      refine t 2 (.bool true) ?_
      refine gl_nil ?_
      refine ge_then ?_
      refine gc_fr [(2, .bool true)] (by kernel_rfl) ?_
      refine gc_ret ?_
      refine ge_ret (.bool true) (rs1 2 (by kernel_rfl) (by kernel_rfl)) ?_
      exact ⟨true, rfl, fun _ => ⟨by omega, fun j hj => hall j (by omega)⟩, BB⟩
    · refine tq 24 (.bool (decide (((cnt : Nat) : Int) ≤ 100))) (.bool false) (congrArg Value.bool (decide_eq_false c5)) ?_
      refine t 2 (.bool false) ?_
      refine gl_nil ?_
      refine ge_then ?_
      refine gc_fr [(2, .bool false)] (by kernel_rfl) ?_
      refine gc_ret ?_
      refine ge_ret (.bool false) (rs1 2 (by kernel_rfl) (by kernel_rfl)) ?_
      exact ⟨false, rfl, (fun h => by cases h), BB⟩
end Fo
end Go.Proofs.YtjejmkcjflhoiaaGreatDoor
