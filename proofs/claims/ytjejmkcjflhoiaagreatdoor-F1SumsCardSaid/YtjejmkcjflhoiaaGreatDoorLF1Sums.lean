/- gleanlaw13.F1Sums. -/
import Derived.Test.YtjejmkcjflhoiaaGreatDoorJaD
import Derived.Test.YtjejmkcjflhoiaaGreatDoorJaC
namespace Go.Proofs.YtjejmkcjflhoiaaGreatDoor
namespace Fo
open Go.RowKit Go.Lib Pg Lim Gl Kv Bk Pw
attribute [local go_sem] Oper.semAt_some
set_option maxRecDepth 100000
set_option linter.unusedVariables false
set_option linter.unusedSimpArgs false
set_option maxHeartbeats 4000000
/-- the claims of the first ones that are held -/
def St.clm (s : St) (i : Nat) : Int := cmV s.R (aft s.C (s.pe i)) (s.pe i) s.la (s.st i)
def psum (s : St) : Nat → Int
  | 0 => 0
  | n + 1 => psum s n + (if s.hd n then s.clm n else 0)
theorem psum_le {T : Int} {s : St} (I : Iw T s) : s.all + s.cur + psum s 4 ≤ s.giv := by
  have h := I.sum
  have e : U36 * psum s 4 = hsum s.hd (fun i => s.clm i * U36) := by
    rw [hsum_mul, Int.mul_comm]
    congr 1
    unfold psum psum psum psum psum hsum
    omega
  have h2 : hsum s.hd (fun i => s.clm i * U36) ≤ hsum s.hd s.pot := hsum_le fun i hi => St.claim I hi
  refine Int.le_of_mul_le_mul_left (a := U36) ?_ (by decide)
  rw [Int.mul_add]
  omega
theorem st0_iw {n : Int} (h : 1 ≤ n) : Iw (n * U36) (st0 n) := ⟨(fun _ h => by cases h), (fun _ h => by cases h), (fun _ h => by cases h), by show U36 * (0 + 0) + hsum _ _ ≤ U36 * 0; unfold hsum; simp [st0]⟩
structure JS where
  k : Nat
  n : Nat
  a : Option Addr
  l : Nat
  d : Nat
  z : Nat
theorem f1Sums_walk {w : World} {tok : Int} {ao : Option Addr} {cnt cp pb po : Nat} {sw sa sn : Nat → Int} {aa : Nat → Option Addr} {ns cc : Nat → Nat} {xs : Nat → Int} (htok : 0 ≤ tok ∧ tok < 18446744073709551616) (SA : StpF w ao cnt pb po sw sa sn aa ns cc xs) : Calls Tryz.prog 4 #[.int .u64 tok, .slice ao cnt cp] w fun e w' => e = .returned (.bool true) ∧ Below w.heap.size w w' := by
  obtain ⟨nn, hnn⟩ : ∃ nn : Int, nn = 1 + tok % 1000000 := ⟨_, rfl⟩
  have hn1 : 1 ≤ nn ∧ nn ≤ 1000000 := by omega
  obtain ⟨T, hTe⟩ : ∃ T : Int, T = nn * U36 := ⟨_, rfl⟩
  have hT : T ≤ 1000000 * U36 := by rw [hTe]; exact Int.mul_le_mul_of_nonneg_right hn1.2 (by decide)
  have I0 := st0_iv hn1
  rw [← hTe] at I0
  have J0 := st0_iw hn1.1
  rw [← hTe] at J0
  have hfew := SA.few.1
  have BB := Below.refl w.heap.size w
  refine gc_enter (n := 80) Tryz.func4 rfl (by kernel_rfl) (by kernel_rfl) ?_
  have hT0 : 0 < T := by rw [hTe]; exact Int.mul_pos (by omega) (by decide)
  refine gc_seq ?_
  refine gc_reg ?_
  refine t 4 (.bool false) ?_
  refine gl_nil ?_
  refine ge_then ?_
  refine gc_seq ?_
  refine gc_seq ?_
  refine gc_reg ?_
  refine tc 11 5 #[] (known13) ?_
  rintro _ v1 ⟨rfl, B⟩
  refine ⟨_, rfl, ?_⟩
  replace BB := joinB BB B
  clear B
  refine t 12 (.bool false) ?_
  refine gl_nil ?_
  refine ge_then ?_
  refine gc_no ?_
  refine gc_skip ?_
  refine ge_then ?_
  refine gc_seq ?_
  refine gc_seq ?_
  refine gc_reg ?_
  refine t 13 (.slice ao cnt cp) ?_
  refine tc 14 6 #[.slice ao cnt cp] (lightF_any (SA.keep BB)) ?_
  rintro _ v2 ⟨b1, rfl, hb1, B⟩
  refine ⟨_, rfl, ?_⟩
  replace BB := joinB BB B
  clear B
  cases b1
  · skip
    refine t 15 (.bool true) ?_
    refine gl_nil ?_
    refine ge_then ?_
    refine gc_yes ?_
    refine gc_seq ?_
    refine gc_reg ?_
    refine t 4 (.bool true) ?_
    refine gl_nil ?_
    refine ge_then ?_
    refine gc_ret ?_
    refine ge_tr ?_
    refine ge_ret (.bool true) (rs1 4 (by kernel_rfl) (by kernel_rfl)) ?_
    exact ⟨rfl, BB⟩
  · have hs := hb1 rfl
    refine t 15 (.bool false) ?_
    refine gl_nil ?_
    refine ge_then ?_
    refine gc_no ?_
    refine gc_skip ?_
    refine ge_then ?_
    refine gc_seq ?_
    refine gc_reg ?_
    refine t 16 (.int .u64 tok) ?_
    refine tc 17 7 #[.int .u64 tok] (begun_any htok hnn) ?_
    rintro _ v3 ⟨Bz, g0, gr, gd, gh, rfl, RU⟩
    refine ⟨_, rfl, ?_⟩
    replace RU := RU.base BB
    clear BB
    refine t 5 (pg gr) ?_
    refine gl_nil ?_
    refine ge_then ?_
    refine gc_seq ?_
    refine gc_seq ?_
    refine gc_reg ?_
    refine t 6 (.int .i64 0) ?_
    refine gl_nil ?_
    refine ge_then ?_
    refine gc_fr [(1, .slice ao cnt cp), (4, .bool false), (5, pg gr), (6, .int .i64 0)] (by kernel_rfl) ?_
    refine gc_block ?_
    refine gc_loop (fun i => cnt - i) (fun (i : Nat) => [(1, .slice ao cnt cp), (5, pg gr), (6, .int .i64 (i : Int))]) (fun i w' => i ≤ cnt ∧ ∃ s, Ru w Bz g0 gr gd gh T w' s (4 * i) ∧ Iv T s (4 * i) ∧ Iw T s) (0 : Nat) ⟨Nat.zero_le _, _, hTe ▸ RU, I0, J0⟩ (by kernel_rfl) ?_
    clear RU
    rintro i v4 ⟨hi, s, RU, I, J⟩
    refine gc_seq ?_
    refine gc_seq ?_
    refine gc_reg ?_
    refine t 18 (.int .i64 (i : Int)) ?_
    refine t 19 (.slice ao cnt cp) ?_
    refine t 20 (.int .i64 ((cnt : Nat) : Int)) ?_
    by_cases ci : (i : Int) < ((cnt : Nat) : Int)
    · have hk : i < cnt := by omega
      refine tq 21 (.bool (decide ((i : Int) < ((cnt : Nat) : Int)))) (.bool true) (congrArg Value.bool (decide_eq_true ci)) ?_
      refine gl_nil ?_
      refine ge_then ?_
      refine gc_yes ?_
      refine gc_skip ?_
      refine ge_then ?_
      refine gc_seq ?_
      refine gc_block ?_
      refine gc_seq ?_
      refine gc_reg ?_
      refine t 24 (pg gr) ?_
      refine t 25 (.slice ao cnt cp) ?_
      refine t 26 (.int .i64 (i : Int)) ?_
      refine tr 27 (pq pb (po + i * 4)) (run_ixa 4 pb po cnt cp i hk SA.ptr) ?_
      refine tr 28 (.agg #[.int .i64 (sw i), .int .i64 (sa i), .int .u64 (sn i), .slice (aa i) (ns i) (cc i)]) (SA.load hk RU.bb) ?_
      obtain ⟨zd, rD⟩ := nk_nat (SA.nat i hk)
      have RB := RU.bb
      refine tc 29 8 #[pg gr, .agg #[.int .i64 (sw i), .int .i64 (sa i), .int .u64 (sn i), .slice (aa i) (ns i) (cc i)]] (does_any RU I (by omega) hT (SA.un i hk) rD (hs.2 i hk)) ?_
      rintro _ v5 ⟨s2, rfl, ST, RU⟩
      refine ⟨_, rfl, ?_⟩
      have J2 := ST.iw J I hT0
      replace I := ST.iv I
      clear J ST
      refine gl_nil ?_
      refine ge_then ?_
      obtain ⟨K, E, n, N, a0, n0, c0, z0, a1, n1, c1, z1, a2, n2, c2, z2, a3, n3, c3, z3, a4, n4, c4, z4, a5, n5, c5, z5, a6, n6, c6, z6, x2, x3, fu, ft, U, F, ⟨hsv, htv⟩, ⟨bn, bN⟩, ⟨m0, m1, m2, m3, m4, m5, m6⟩, hul, htl⟩ := RU.ex
      clear RU
      have hCl := I.C
      have hafl : ∀ p, (aft s2.C p).length ≤ 1000 := fun p => Nat.le_trans (List.length_filter_le _ _) (by omega)
      have hla := I.la
      refine gc_join (fun (j : JA) => [(1, .slice ao cnt cp), (5, pg gr), (6, .int .i64 (i : Int)), (7, pg j.g)]) (fun (j : JA) w' => Un w Bz g0 w' K E n N [(j.g, [.slice j.a j.k j.d], 32), (gr, (rC g0 gd gh s2.tk (s2.la + 1) ((s2.C.length : Nat) : Int) (.slice a0 n0 c0) (.slice a1 n1 c1) (.slice a2 n2 c2) (.slice a3 n3 c3) (.slice a4 n4 c4) (.slice a5 n5 c5) (.slice a6 n6 c6)), 43), (gd, dC fu s2.pe ft, 53), (gh, hC s2.hd, 4)] ((j.z, j.a, j.k, j.d, s2.all + s2.cur) :: (z0, a0, n0, c0, T) :: (z1, a1, n1, c1, s2.cur) :: (z2, a2, n2, c2, x2) :: (z3, a3, n3, c3, x3) :: (z4, a4, n4, c4, s2.giv) :: (z5, a5, n5, c5, s2.fre) :: (z6, a6, n6, c6, s2.all) :: dQ fu ft) ∧ j.k ≤ n6 + 100000) ?_ ?_
      · replace U := U.drew
        refine gc_draw (fun w' => Blk w' gr (rC g0 gd gh s2.tk (s2.la + 1) ((s2.C.length : Nat) : Int) (.slice a0 n0 c0) (.slice a1 n1 c1) (.slice a2 n2 c2) (.slice a3 n3 c3) (.slice a4 n4 c4) (.slice a5 n5 c5) (.slice a6 n6 c6)) 43) (fun _ => false) (U.bk 0 rfl) ?_
        refine z 0 30 (pg gr) ?_
        refine z 1 31 (pg gr) ?_
        refine z 2 32 (pq gr 16) ?_
        refine zlr 3 33 [.slice a6 n6 c6] (fun _ h => h) 16 ?_
        refine z 4 34 (pg gr) ?_
        refine z 5 35 (pg gr) ?_
        refine z 6 36 (pq gr 1) ?_
        refine z 7 37 (pq gr 8) ?_
        refine zlr 8 38 [.slice a1 n1 c1] (fun _ h => h) 8 ?_
        refine gz_ready [9, 10] ?_
        refine ga_call 9 (some 39) 13 #[.agg #[.slice a6 n6 c6], .agg #[.slice a1 n1 c1]] (eAdd (U.nq 6 rfl).nat (by omega) (U.nq 1 rfl).nat (by omega)) ?_ ?_
        · rintro _ v7 ⟨aq6, nq6, cq6, zq6, rfl, M, h, mq6, B⟩
          replace U := U.num M h B
          clear M h B
          refine ⟨_, rfl, (U.bk 0 rfl), ?_⟩
          refine za 10 7 [.slice none 0 0] 32 (pg) ?_
          intro v8 g9 Xg9 hg9 B
          replace U := U.new Xg9 hg9 B
          clear Xg9 hg9 B
          refine ⟨(U.bk 1 rfl), ?_⟩
          refine zs 11 (U.bk 0 rfl) 0 (.agg #[.slice aq6 nq6 cq6]) [.slice aq6 nq6 cq6] [.slice aq6 nq6 cq6] ?_
          intro v11 Y C
          replace U := U.put 0 rfl C Y
          clear Y C
          refine ⟨(U.bk 1 rfl), ?_⟩
          refine gz_done ?_
          exact ge_join (⟨g9, aq6, nq6, cq6, zq6, 0, 0⟩ : JA) ⟨U.pick 0 rfl (List.forall_mem_cons.2 ⟨mem_at 0 rfl, mem_end 1 rfl⟩), by (try dsimp only); omega⟩ (by kernel_rfl)
        refine zaa 10 7 [.slice none 0 0] 32 (pg) ?_ ?_
        · intro v12 g13 Xg13 hg13 B
          replace U := U.new Xg13 hg13 B
          clear Xg13 hg13 B
          refine ⟨(U.bk 1 rfl), ?_⟩
          refine zc 9 39 13 #[.agg #[.slice a6 n6 c6], .agg #[.slice a1 n1 c1]] (eAdd (U.nq 6 rfl).nat (by omega) (U.nq 1 rfl).nat (by omega)) ?_
          rintro _ v15 ⟨aq14, nq14, cq14, zq14, rfl, M, h, mq14, B⟩
          replace U := U.num M h B
          clear M h B
          refine ⟨_, rfl, (U.bk 1 rfl), ?_⟩
          refine zs 11 (U.bk 0 rfl) 0 (.agg #[.slice aq14 nq14 cq14]) [.slice aq14 nq14 cq14] [.slice aq14 nq14 cq14] ?_
          intro v17 Y C
          replace U := U.put 0 rfl C Y
          clear Y C
          refine ⟨(U.bk 1 rfl), ?_⟩
          refine gz_done ?_
          exact ge_join (⟨g13, aq14, nq14, cq14, zq14, 0, 0⟩ : JA) ⟨U.pick 0 rfl (List.forall_mem_cons.2 ⟨mem_at 0 rfl, mem_end 1 rfl⟩), by (try dsimp only); omega⟩ (by kernel_rfl)
        exact ga_nil
      clear U
      rintro ⟨gk, ak, kk, dk, zk, _, _⟩ v18 ⟨U, q9⟩
      dsimp only at U q9
      refine gc_seq ?_
      refine gc_seq ?_
      refine gc_reg ?_
      refine t 8 (.int .i64 0) ?_
      refine gl_nil ?_
      refine ge_then ?_
      refine gc_block ?_
      refine gc_loop (fun (j : JS) => 4 - j.k) (fun (j : JS) => [(1, .slice ao cnt cp), (5, pg gr), (6, .int .i64 (i : Int)), (7, pg gk), (8, .int .i64 (j.k : Int))]) (fun (j : JS) w' => Un w Bz g0 w' K E j.n N [(gk, [.slice j.a j.l j.d], 32), (gr, (rC g0 gd gh s2.tk (s2.la + 1) ((s2.C.length : Nat) : Int) (.slice a0 n0 c0) (.slice a1 n1 c1) (.slice a2 n2 c2) (.slice a3 n3 c3) (.slice a4 n4 c4) (.slice a5 n5 c5) (.slice a6 n6 c6)), 43), (gd, dC fu s2.pe ft, 53), (gh, hC s2.hd, 4)] ((j.z, j.a, j.l, j.d, s2.all + s2.cur + psum s2 j.k) :: (z0, a0, n0, c0, T) :: (z1, a1, n1, c1, s2.cur) :: (z2, a2, n2, c2, x2) :: (z3, a3, n3, c3, x3) :: (z4, a4, n4, c4, s2.giv) :: (z5, a5, n5, c5, s2.fre) :: (z6, a6, n6, c6, s2.all) :: dQ fu ft) ∧ (j.k ≤ 4 ∧ j.n ≤ n + 3000 * j.k ∧ j.l ≤ n6 + 100000 + 3000000001 * j.k)) (⟨0, n, ak, kk, dk, zk⟩ : JS) ⟨by simpa [psum] using U.pick 0 rfl (List.forall_mem_cons.2 ⟨mem_at 0 rfl, mem_end 1 rfl⟩), Nat.zero_le _, by (try dsimp only); omega, by (try dsimp only); omega⟩ (by kernel_rfl) ?_
      clear U
      rintro ⟨ix, nj, aj, lj, dj, zj⟩ v19 ⟨U, hi4, qn, ql⟩
      dsimp only at U hi4 qn ql
      refine gc_seq ?_
      refine gc_seq ?_
      refine gc_reg ?_
      refine t 40 (.int .i64 (ix : Int)) ?_
      by_cases ck : (ix : Int) < 4
      · have hix : ix < 4 := by omega
        obtain ⟨z7, a7, n7, c7, hu⟩ : ∃ z a n c, fu ix = (z, a, n, c, s2.sh ix) := ⟨_, _, _, _, by rw [← hsv ix]⟩
        obtain ⟨z8, a8, n8, c8, ht⟩ : ∃ z a n c, ft ix = (z, a, n, c, s2.st ix) := ⟨_, _, _, _, by rw [← htv ix]⟩
        have m8 := htl ix
        rw [ht] at m8
        dsimp only at m8
        have hp : s2.pe ix = s2.pe ix := rfl
        have hafx := hafl (s2.pe ix)
        refine tq 41 (.bool (decide ((ix : Int) < 4))) (.bool true) (congrArg Value.bool (decide_eq_true ck)) ?_
        refine gl_nil ?_
        refine ge_then ?_
        refine gc_yes ?_
        refine gc_skip ?_
        refine ge_then ?_
        refine gc_seq ?_
        refine gc_block ?_
        refine gc_seq ?_
        refine gc_reg ?_
        refine t 44 (pg gr) ?_
        refine t 45 (pg gr) ?_
        refine t 46 (pq gr 12) ?_
        refine tl 47 (.slice (some ⟨gh, 0, none⟩) 4 4) (U.bk 1 rfl) 12 ?_
        refine t 48 (.int .i64 (ix : Int)) ?_
        refine tr 49 (pq gh ix) (congr_v (by simp) (run_ixs 1 gh 0 4 4 ix hix)) ?_
        refine tl 50 (.bool (s2.hd ix)) (U.bk 3 rfl) ix (hv := hC_at hix) ?_
        refine gl_nil ?_
        refine ge_then ?_
        rcases Bool.eq_false_or_eq_true (s2.hd ix) with b20 | b20
        · refine gc_yes (hc := congrArg Value.bool b20) ?_
          refine gc_join (fun (j : JA) => [(1, .slice ao cnt cp), (5, pg gr), (6, .int .i64 (i : Int)), (7, pg gk), (8, .int .i64 (ix : Int)), (9, pg j.g)]) (fun (j : JA) w' => Un w Bz g0 w' K E j.n j.N [(j.g, [.slice j.a j.k j.d], 32), (gk, [.slice aj lj dj], 32), (gr, (rC g0 gd gh s2.tk (s2.la + 1) ((s2.C.length : Nat) : Int) (.slice a0 n0 c0) (.slice a1 n1 c1) (.slice a2 n2 c2) (.slice a3 n3 c3) (.slice a4 n4 c4) (.slice a5 n5 c5) (.slice a6 n6 c6)), 43), (gd, dC fu s2.pe ft, 53), (gh, hC s2.hd, 4)] ((j.z, j.a, j.k, j.d, s2.clm ix) :: (zj, aj, lj, dj, s2.all + s2.cur + psum s2 ix) :: (z0, a0, n0, c0, T) :: (z1, a1, n1, c1, s2.cur) :: (z2, a2, n2, c2, x2) :: (z3, a3, n3, c3, x3) :: (z4, a4, n4, c4, s2.giv) :: (z5, a5, n5, c5, s2.fre) :: (z6, a6, n6, c6, s2.all) :: dQ fu ft) ∧ j.n ≤ nj + 3000 ∧ j.N ≤ N ∧ j.N = N ∧ j.k ≤ 3000000000) ?_ ?_
          · replace U := U.drew
            refine gc_draw (fun w' => Blk w' gr (rC g0 gd gh s2.tk (s2.la + 1) ((s2.C.length : Nat) : Int) (.slice a0 n0 c0) (.slice a1 n1 c1) (.slice a2 n2 c2) (.slice a3 n3 c3) (.slice a4 n4 c4) (.slice a5 n5 c5) (.slice a6 n6 c6)) 43 ∧ Blk w' gd (dC fu s2.pe ft) 53) (fun _ => false) ⟨(U.bk 1 rfl), (U.bk 2 rfl)⟩ ?_
            refine z 0 52 (pg gr) ?_
            refine z 1 53 (pg gr) ?_
            refine z 2 54 (pg gr) ?_
            refine zl 3 55 (pg g0) (fun _ h => h.1) 0 ?_
            refine z 4 56 (pg gr) ?_
            refine z 5 57 (pg gr) ?_
            refine z 6 58 (pq gr 1) ?_
            refine zlr 7 59 [.int .u64 0, .int .u64 s2.tk, .slice a0 n0 c0, .bool false, .int .u64 0, .bool false, .int .u64 (s2.la + 1), .slice a1 n1 c1, .slice a2 n2 c2, .slice a3 n3 c3] (fun _ h => h.1) 1 ?_
            refine z 8 60 (pg gr) ?_
            refine z 9 61 (pg gr) ?_
            refine z 10 62 (pq gr 11) ?_
            refine zl 11 63 (.slice (some ⟨gd, 0, none⟩) 4 4) (fun _ h => h.1) 11 ?_
            refine z 12 64 (.int .i64 (ix : Int)) ?_
            refine zr 13 65 (pq gd (ix * 3)) (fun _ _ => congr_v (by simp) (run_ixs 3 gd 0 4 4 ix hix)) ?_
            refine zr 14 66 (.agg #[.slice a7 n7 c7, .int .u64 (s2.pe ix), .slice a8 n8 c8]) (fun _ h => run_ldr (vs := [.slice a7 n7 c7, .int .u64 (s2.pe ix), .slice a8 n8 c8]) h.2 (dC_at hix hu hp ht) ⟨_, _, rfl, by kernel_rfl, by kernel_rfl⟩) ?_
            refine gz_ready [15, 19] ?_
            refine ga_call 15 (some 67) 14 #[pg g0, .int .u64 16, .agg #[.int .u64 0, .int .u64 s2.tk, .slice a0 n0 c0, .bool false, .int .u64 0, .bool false, .int .u64 (s2.la + 1), .slice a1 n1 c1, .slice a2 n2 c2, .slice a3 n3 c3], .agg #[.slice a7 n7 c7, .int .u64 (s2.pe ix), .slice a8 n8 c8]] (claim_fs (la := s2.la) U.sx F (U.nq (ix + 4 + 8) (dQ_t (s := fu) hix ht)) (by omega) (Lh_mem hix b20) (by omega) (Nat.le_trans hCl (by omega)) (by omega) (by omega)) ?_ ?_
            · rintro _ v22 ⟨aq21, nq21, cq21, zq21, rfl, S, C, Q, mq21, h⟩
              have L := U.lt
              replace U := (U.ask S C).add L Q h
              clear L S C Q h
              refine ⟨_, rfl, ⟨(U.bk 1 rfl), (U.bk 2 rfl)⟩, ?_⟩
              refine z 16 51 (.tuple #[.agg #[.slice aq21 nq21 cq21], .int .i64 (((aft s2.C (s2.pe ix)).length : Nat) : Int)]) ?_
              refine z 17 68 (.agg #[.slice aq21 nq21 cq21]) ?_
              refine z 18 69 (.int .i64 (((aft s2.C (s2.pe ix)).length : Nat) : Int)) ?_
              refine za 19 9 [.slice none 0 0] 32 (pg) ?_
              intro v23 g24 Xg24 hg24 B
              replace U := U.new Xg24 hg24 B
              clear Xg24 hg24 B
              refine ⟨⟨(U.bk 2 rfl), (U.bk 3 rfl)⟩, ?_⟩
              refine zs 20 (U.bk 0 rfl) 0 (.agg #[.slice aq21 nq21 cq21]) [.slice aq21 nq21 cq21] [.slice aq21 nq21 cq21] ?_
              intro v26 Y C
              replace U := U.put 0 rfl C Y
              clear Y C
              refine ⟨⟨(U.bk 2 rfl), (U.bk 3 rfl)⟩, ?_⟩
              refine z 21 10 (.int .i64 (((aft s2.C (s2.pe ix)).length : Nat) : Int)) ?_
              refine gz_done ?_
              exact ge_join (⟨g24, aq21, nq21, cq21, zq21, _, _⟩ : JA) ⟨U.pick 0 rfl (fun r h => h), by (try dsimp only); omega, by (try dsimp only); omega, rfl, by (try dsimp only); omega⟩ (by kernel_rfl)
            refine zaa 19 9 [.slice none 0 0] 32 (pg) ?_ ?_
            · intro v27 g28 Xg28 hg28 B
              replace U := U.new Xg28 hg28 B
              clear Xg28 hg28 B
              refine ⟨⟨(U.bk 2 rfl), (U.bk 3 rfl)⟩, ?_⟩
              refine zc 15 67 14 #[pg g0, .int .u64 16, .agg #[.int .u64 0, .int .u64 s2.tk, .slice a0 n0 c0, .bool false, .int .u64 0, .bool false, .int .u64 (s2.la + 1), .slice a1 n1 c1, .slice a2 n2 c2, .slice a3 n3 c3], .agg #[.slice a7 n7 c7, .int .u64 (s2.pe ix), .slice a8 n8 c8]] (claim_fs (la := s2.la) U.sx F (U.nq (ix + 4 + 8) (dQ_t (s := fu) hix ht)) (by omega) (Lh_mem hix b20) (by omega) (Nat.le_trans hCl (by omega)) (by omega) (by omega)) ?_
              rintro _ v30 ⟨aq29, nq29, cq29, zq29, rfl, S, C, Q, mq29, h⟩
              have L := U.lt
              replace U := (U.ask S C).add L Q h
              clear L S C Q h
              refine ⟨_, rfl, ⟨(U.bk 2 rfl), (U.bk 3 rfl)⟩, ?_⟩
              refine z 16 51 (.tuple #[.agg #[.slice aq29 nq29 cq29], .int .i64 (((aft s2.C (s2.pe ix)).length : Nat) : Int)]) ?_
              refine z 17 68 (.agg #[.slice aq29 nq29 cq29]) ?_
              refine z 18 69 (.int .i64 (((aft s2.C (s2.pe ix)).length : Nat) : Int)) ?_
              refine zs 20 (U.bk 0 rfl) 0 (.agg #[.slice aq29 nq29 cq29]) [.slice aq29 nq29 cq29] [.slice aq29 nq29 cq29] ?_
              intro v32 Y C
              replace U := U.put 0 rfl C Y
              clear Y C
              refine ⟨⟨(U.bk 2 rfl), (U.bk 3 rfl)⟩, ?_⟩
              refine z 21 10 (.int .i64 (((aft s2.C (s2.pe ix)).length : Nat) : Int)) ?_
              refine gz_done ?_
              exact ge_join (⟨g28, aq29, nq29, cq29, zq29, _, _⟩ : JA) ⟨U.pick 0 rfl (fun r h => h), by (try dsimp only); omega, by (try dsimp only); omega, rfl, by (try dsimp only); omega⟩ (by kernel_rfl)
            exact ga_nil
          clear U
          rintro ⟨gx, ax, kx, dx, zx, nx, Nx1⟩ v33 ⟨U, q1, q2, q3, q4⟩
          dsimp only at U q1 q2 q3 q4
          subst q3
          refine gc_reg ?_
          refine tlr 70 [.slice aj lj dj] (U.bk 1 rfl) 0 ?_
          refine tlr 71 [.slice ax kx dx] (U.bk 0 rfl) 0 ?_
          refine tc 72 13 #[.agg #[.slice aj lj dj], .agg #[.slice ax kx dx]] (eAdd (U.nq 1 rfl).nat (by omega) (U.nq 0 rfl).nat (by omega)) ?_
          rintro _ v35 ⟨aq34, nq34, cq34, zq34, rfl, M, h, mq34, B⟩
          refine ⟨_, rfl, ?_⟩
          replace U := U.num M h B
          clear M h B
          refine ts (U.bk 1 rfl) 0 (.agg #[.slice aq34 nq34 cq34]) [.slice aq34 nq34 cq34] [.slice aq34 nq34 cq34] ?_
          intro v37 Y C
          replace U := U.put 1 rfl C Y
          clear Y C
          refine gl_nil ?_
          refine ge_bn ?_
          refine ge_then ?_
          refine gc_reg ?_
          refine t 42 (.int .i64 (ix : Int)) ?_
          refine tq 43 (.int .i64 (IntKind.i64.wrap ((ix : Int) + 1))) (.int .i64 ((ix : Int) + 1)) (wi (by omega)) ?_
          refine t 8 (.int .i64 ((ix : Int) + 1)) ?_
          refine gl_nil ?_
          have hps : s2.all + s2.cur + psum s2 (ix + 1) = (s2.all + s2.cur + psum s2 ix) + (s2.clm ix) := by show s2.all + s2.cur + (psum s2 ix + (if s2.hd ix then s2.clm ix else 0)) = _; rw [if_pos b20]; omega
          exact ge_round ⟨ix + 1, _, aq34, nq34, cq34, zq34⟩ (by show 4 - (ix + 1) < 4 - ix; omega) ⟨by dsimp only; rw [hps]; exact U.pick 1 rfl (List.forall_mem_cons.2 ⟨mem_at 0 rfl, mem_end 3 rfl⟩), by (try dsimp only); omega, by (try dsimp only); omega, by (try dsimp only); omega⟩ (by kernel_rfl)
        · refine gc_no (hc := congrArg Value.bool b20) ?_
          refine gc_skip ?_
          refine ge_bn ?_
          refine ge_then ?_
          refine gc_reg ?_
          refine t 42 (.int .i64 (ix : Int)) ?_
          refine tq 43 (.int .i64 (IntKind.i64.wrap ((ix : Int) + 1))) (.int .i64 ((ix : Int) + 1)) (wi (by omega)) ?_
          refine t 8 (.int .i64 ((ix : Int) + 1)) ?_
          refine gl_nil ?_
          have hps : s2.all + s2.cur + psum s2 (ix + 1) = s2.all + s2.cur + psum s2 ix := by show s2.all + s2.cur + (psum s2 ix + (if s2.hd ix then s2.clm ix else 0)) = _; rw [if_neg (by rw [b20]; decide)]; omega
          exact ge_round ⟨ix + 1, _, aj, lj, dj, zj⟩ (by show 4 - (ix + 1) < 4 - ix; omega) ⟨by dsimp only; rw [hps]; exact U.pick 0 rfl (List.forall_mem_cons.2 ⟨mem_at 0 rfl, mem_end 1 rfl⟩), by (try dsimp only); omega, by (try dsimp only); omega, by (try dsimp only); omega⟩ (by kernel_rfl)
      · have hx4 : ix = 4 := by omega
        refine tq 41 (.bool (decide ((ix : Int) < 4))) (.bool false) (congrArg Value.bool (decide_eq_false ck)) ?_
        refine gl_nil ?_
        refine ge_then ?_
        refine gc_no ?_
        refine gc_exit ?_
        refine ge_tx ?_
        refine ge_tx ?_
        refine ge_bx ?_
        refine ge_then ?_
        refine gc_seq ?_
        replace U := U.drew
        refine gc_draw (fun w' => Blk w' gk [.slice aj lj dj] 32 ∧ Blk w' gr (rC g0 gd gh s2.tk (s2.la + 1) ((s2.C.length : Nat) : Int) (.slice a0 n0 c0) (.slice a1 n1 c1) (.slice a2 n2 c2) (.slice a3 n3 c3) (.slice a4 n4 c4) (.slice a5 n5 c5) (.slice a6 n6 c6)) 43) (fun _ => false) ⟨(U.bk 0 rfl), (U.bk 1 rfl)⟩ ?_
        refine zlr 0 73 [.slice aj lj dj] (fun _ h => h.1) 0 ?_
        refine z 1 74 (pg gr) ?_
        refine z 2 75 (pg gr) ?_
        refine z 3 76 (pq gr 14) ?_
        refine zlr 4 77 [.slice a4 n4 c4] (fun _ h => h.2) 14 ?_
        have hle : s2.all + s2.cur + psum s2 ix ≤ s2.giv := by rw [hx4]; exact psum_le J2
        refine zc 5 78 15 #[.agg #[.slice aj lj dj], .agg #[.slice a4 n4 c4]] (dCmpLe (U.nq 0 rfl).nat (U.nq 5 rfl).nat (by omega) (by omega) hle) ?_
        rintro _ v38 ⟨r9, rfl, hr9, B⟩
        replace U := U.keep B
        clear B
        refine ⟨_, rfl, ⟨(U.bk 0 rfl), (U.bk 1 rfl)⟩, ?_⟩
        have t39 : ¬ ((0 : Int) < r9) := by omega
        refine zq 6 79 (.bool (decide ((0 : Int) < r9))) (.bool false) (congrArg Value.bool (decide_eq_false t39)) ?_
        refine gz_done ?_
        refine ge_then ?_
        refine gc_no ?_
        refine gc_skip ?_
        refine ge_bn ?_
        refine ge_then ?_
        refine gc_reg ?_
        refine t 22 (.int .i64 (i : Int)) ?_
        refine tq 23 (.int .i64 (IntKind.i64.wrap ((i : Int) + 1))) (.int .i64 ((i : Int) + 1)) (wi (by omega)) ?_
        refine t 6 (.int .i64 ((i : Int) + 1)) ?_
        refine gl_nil ?_
        exact ge_round (i + 1) (by show cnt - (i + 1) < cnt - i; omega) ⟨hk, s2, ⟨_, _, _, _, a0, n0, c0, z0, a1, n1, c1, z1, a2, n2, c2, z2, a3, n3, c3, z3, a4, n4, c4, z4, a5, n5, c5, z5, a6, n6, c6, z6, _, _, fu, ft, U.pick 1 rfl (mem7 (mem_at 1 rfl) (mem_at 2 rfl) (mem_at 3 rfl) (mem_at 4 rfl) (mem_at 5 rfl) (mem_at 6 rfl) (mem_at 7 rfl) (mem_end 8 rfl)), F, ⟨hsv, htv⟩, by omega, by omega, hul, fun j => Nat.le_trans (htl j) (by omega)⟩, I.mono (by omega), J2⟩ (by kernel_rfl)
    · refine tq 21 (.bool (decide ((i : Int) < ((cnt : Nat) : Int)))) (.bool false) (congrArg Value.bool (decide_eq_false ci)) ?_
      refine gl_nil ?_
      refine ge_then ?_
      refine gc_no ?_
      refine gc_exit ?_
      refine ge_tx ?_
      refine ge_tx ?_
      refine ge_bx ?_
      refine ge_then ?_
      refine gc_seq ?_
      refine gc_reg ?_
      refine t 4 (.bool true) ?_
      refine gl_nil ?_
      refine ge_then ?_
      refine gc_ret ?_
      refine ge_ret (.bool true) (rs1 4 (by kernel_rfl) (by kernel_rfl)) ?_
      exact ⟨rfl, RU.bb⟩
end Fo
namespace f1Sums
open Go.RowKit Go.Lib Lim Fo
theorem walk (y0 : Int) (a1 : Option Addr) (len1 cap1 : Nat) (w : World) (wy0 : (Lit.int .u64 y0).wf = true) (w1 : StpsIn w a1 len1) :
    Calls Tryz.prog 4 #[.int .u64 y0, .slice a1 len1 cap1] w fun e w' => e = .returned (.bool true) ∧ Below w.heap.size w w' := by
  obtain ⟨b, o, sw, sa, sn, aa, ns, cc, xs, SA⟩ := w1
  exact f1Sums_walk (u64r wy0) SA
end f1Sums
end Go.Proofs.YtjejmkcjflhoiaaGreatDoor
