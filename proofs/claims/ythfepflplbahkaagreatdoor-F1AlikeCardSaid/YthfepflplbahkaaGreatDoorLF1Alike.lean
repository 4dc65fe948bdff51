/- gleanlaw13.F1Alike. -/
import Derived.Test.YthfepflplbahkaaGreatDoorJaz
namespace Go.Proofs.YthfepflplbahkaaGreatDoor
namespace Fo
open Go.RowKit Go.Lib Pg Lim Gl Kv Bk Pw
attribute [local go_sem] Oper.semAt_some
set_option maxRecDepth 100000
set_option linter.unusedVariables false
set_option linter.unusedSimpArgs false
set_option maxHeartbeats 4000000
theorem f1Alike_walk {w : World} {tok part : Int} {ct : Bool} {ao : Option Addr} {cnt cp pb po : Nat} {aa : Nat → Option Addr} {ns cc : Nat → Nat} {xs : Nat → Int} {ao2 : Option Addr} {cnt2 cp2 pb2 po2 : Nat} {aa2 : Nat → Option Addr} {ns2 cc2 : Nat → Nat} {ys : Nat → Int} (htok : 0 ≤ tok ∧ tok < 18446744073709551616) (hpart : 0 ≤ part ∧ part < 18446744073709551616) (DA : DecsA w ao cnt pb po aa ns cc xs) (DB : DecsA w ao2 cnt2 pb2 po2 aa2 ns2 cc2 ys) : Calls Tryz.prog 7 #[.int .u64 tok, .int .u64 part, .slice ao cnt cp, .slice ao2 cnt2 cp2, .bool ct] w fun e w' => e = .returned (.bool true) ∧ Below w.heap.size w w' := by
  obtain ⟨nn, hnn⟩ : ∃ nn : Int, nn = 1 + tok % 1000000000000000000 := ⟨_, rfl⟩
  have hn1 : 1 ≤ nn ∧ nn ≤ 1000000000000000000 := by omega
  obtain ⟨pp, hpp⟩ : ∃ pp : Int, pp = 1 + part % 30 := ⟨_, rfl⟩
  have hp1 : 1 ≤ pp ∧ pp ≤ 30 := by omega
  obtain ⟨zv, hzv⟩ : ∃ zv : Int, zv = nn * U36 * pp / 100 := ⟨_, rfl⟩
  have hz0 : 0 ≤ zv := by rw [hzv]; exact Int.ediv_nonneg (Int.mul_nonneg (Int.mul_nonneg (by omega) (by decide)) (by omega)) (by decide)
  obtain ⟨S1, hS1⟩ : ∃ S1, S1 = sQ nn xs cnt := ⟨_, rfl⟩
  obtain ⟨S2, hS2⟩ : ∃ S2, S2 = sQ nn ys cnt2 := ⟨_, rfl⟩
  have BB := Below.refl w.heap.size w
  refine gc_enter (n := 169) Tryz.func7 rfl (by kernel_rfl) (by kernel_rfl) ?_
  refine gc_seq ?_
  refine gc_reg ?_
  refine t 10 (.bool false) ?_
  refine gl_nil ?_
  refine ge_then ?_
  refine gc_seq ?_
  refine gc_seq ?_
  refine gc_reg ?_
  refine tc 30 8 #[] (known13) ?_
  rintro _ v1 ⟨rfl, B⟩
  refine ⟨_, rfl, ?_⟩
  replace BB := joinB BB B
  clear B
  refine t 31 (.bool false) ?_
  refine gl_nil ?_
  refine ge_then ?_
  refine gc_no ?_
  refine gc_skip ?_
  refine ge_then ?_
  refine gc_seq ?_
  refine gc_seq ?_
  refine gc_reg ?_
  refine t 32 (.slice ao cnt cp) ?_
  refine tc 33 29 #[.slice ao cnt cp] (short_any (DA.keep BB)) ?_
  rintro _ v3 ⟨b2, rfl, hb2, B⟩
  refine ⟨_, rfl, ?_⟩
  replace BB := joinB BB B
  clear B
  cases b2
  · skip
    refine t 34 (.bool true) ?_
    refine t 35 (.bool true) ?_
    refine tn 36 ?_
    refine tn 37 ?_
    refine tn 38 ?_
    refine t 39 (.bool true) ?_
    refine gl_nil ?_
    refine ge_then ?_
    refine gc_fr [(0, .int .u64 tok), (1, .int .u64 part), (2, .slice ao cnt cp), (3, .slice ao2 cnt2 cp2), (4, .bool ct), (10, .bool false), (39, .bool true)] (by kernel_rfl) ?_
    refine gc_yes ?_
    refine gc_seq ?_
    refine gc_reg ?_
    refine t 10 (.bool true) ?_
    refine gl_nil ?_
    refine ge_then ?_
    refine gc_ret ?_
    refine ge_tr ?_
    refine ge_ret (.bool true) (rs1 10 (by kernel_rfl) (by kernel_rfl)) ?_
    exact ⟨rfl, BB⟩
  · have hs1 := hb2 rfl
    refine t 34 (.bool false) ?_
    refine t 35 (.bool false) ?_
    refine t 36 (.slice ao2 cnt2 cp2) ?_
    refine tc 37 29 #[.slice ao2 cnt2 cp2] (short_any (DB.keep BB)) ?_
    rintro _ v5 ⟨b4, rfl, hb4, B⟩
    refine ⟨_, rfl, ?_⟩
    replace BB := joinB BB B
    clear B
    cases b4
    · skip
      refine t 38 (.bool true) ?_
      refine t 39 (.bool true) ?_
      refine gl_nil ?_
      refine ge_then ?_
      refine gc_fr [(0, .int .u64 tok), (1, .int .u64 part), (2, .slice ao cnt cp), (3, .slice ao2 cnt2 cp2), (4, .bool ct), (10, .bool false), (39, .bool true)] (by kernel_rfl) ?_
      refine gc_yes ?_
      refine gc_seq ?_
      refine gc_reg ?_
      refine t 10 (.bool true) ?_
      refine gl_nil ?_
      refine ge_then ?_
      refine gc_ret ?_
      refine ge_tr ?_
      refine ge_ret (.bool true) (rs1 10 (by kernel_rfl) (by kernel_rfl)) ?_
      exact ⟨rfl, BB⟩
    · have hs2 := hb4 rfl
      refine t 38 (.bool false) ?_
      refine t 39 (.bool false) ?_
      refine gl_nil ?_
      refine ge_then ?_
      refine gc_fr [(0, .int .u64 tok), (1, .int .u64 part), (2, .slice ao cnt cp), (3, .slice ao2 cnt2 cp2), (4, .bool ct), (10, .bool false), (39, .bool false)] (by kernel_rfl) ?_
      refine gc_no ?_
      refine gc_skip ?_
      refine ge_then ?_
      refine gc_seq ?_
      refine gc_reg ?_
      refine t 40 (.int .u64 tok) ?_
      refine tr 41 (.int .u64 (tok % 1000000000000000000)) (run_remu tok 1000000000000000000 htok ⟨by decide, by decide⟩) ?_
      refine tq 42 (.int .u64 (IntKind.u64.wrap (1 + tok % 1000000000000000000))) (.int .u64 nn) (congrArg (Value.int .u64) (by rw [IntKind.wrap_u64]; omega)) ?_
      refine t 11 (.int .u64 nn) ?_
      refine gl_nil ?_
      refine ge_then ?_
      refine gc_seq ?_
      refine gc_reg ?_
      obtain ⟨Bz, hBz⟩ : ∃ Bz, Bz = (v5).heap.size := ⟨_, rfl⟩
      have hwB : w.heap.size ≤ Bz := by rw [hBz]; exact BB.size
      refine tc 43 16 #[] (snewF Bz hBz) ?_
      rintro _ v6 ⟨g0, K0, rfl, S0, hK0, B0⟩
      refine ⟨_, rfl, ?_⟩
      replace BB := joinB BB B0
      clear B0
      have U := un_of BB (B := Bz) hwB S0
      clear BB S0
      refine t 12 (pg g0) ?_
      refine gl_nil ?_
      refine ge_then ?_
      refine gc_seq ?_
      refine gc_reg ?_
      refine t 44 (pg g0) ?_
      refine t 45 (.int .u64 nn) ?_
      refine t 46 (.int .u64 nn) ?_
      refine tc 47 18 #[.int .u64 nn] (eOf (y := nn) ⟨by omega, by omega⟩) ?_
      rintro _ v8 ⟨aq7, nq7, cq7, zq7, rfl, M, h, mq7, B⟩
      refine ⟨_, rfl, ?_⟩
      replace U := U.num M h B
      clear M h B
      refine t 48 (.agg #[.int .u64 0, .int .u64 nn, .slice aq7 nq7 cq7, .bool false, .int .u64 0, .bool false, .int .u64 0, .slice none 0 0, .slice none 0 0, .slice none 0 0]) ?_
      have F0 := fs_start (id := 16) (by decide)
      refine tc 49 17 #[pg g0, .int .u64 16, .agg #[.int .u64 0, .int .u64 nn, .slice aq7 nq7 cq7, .bool false, .int .u64 0, .bool false, .int .u64 0, .slice none 0 0, .slice none 0 0, .slice none 0 0]] (start_any U.sx (id := 16) ⟨by decide, by decide⟩ (U.nq 0 rfl).nk (by omega) (nq_nil _ _).nk (by omega) (nq_nil _ _).nk (by omega) (nq_nil _ _).nk (by omega) (by omega) (by omega)) ?_
      rintro _ v15 ⟨aq9, nq9, cq9, zq9, aq10, nq10, cq10, zq10, aq11, nq11, cq11, zq11, K12, n13, N14, rfl, S, qn13, qN14, hK, hC, Q0, mq9, h0, Q1, mq10, h1, Q2, mq11, h2⟩
      refine ⟨_, rfl, ?_⟩
      have L := U.lt
      replace U := (((U.op S hK hC).add L Q0 h0).add L Q1 h1).add L Q2 h2
      clear L S hK hC Q0 h0 Q1 h1 Q2 h2
      refine ta 13 [.int .u64 0, .int .u64 0, .slice none 0 0, .bool false, .int .u64 0, .bool false, .int .u64 0, .slice none 0 0, .slice none 0 0, .slice none 0 0] 39 (pg) ?_
      intro v16 g17 Xg17 hg17 B
      replace U := U.new Xg17 hg17 B
      clear Xg17 hg17 B
      refine ts (U.bk 0 rfl) 0 (.agg #[.int .u64 0, .int .u64 nn, .slice aq9 nq9 cq9, .bool false, .int .u64 0, .bool false, .int .u64 (0 + 1), .slice none 0 0, .slice aq10 nq10 cq10, .slice aq11 nq11 cq11]) [.int .u64 0, .int .u64 nn, .slice aq9 nq9 cq9, .bool false, .int .u64 0, .bool false, .int .u64 (0 + 1), .slice none 0 0, .slice aq10 nq10 cq10, .slice aq11 nq11 cq11] [.int .u64 0, .int .u64 nn, .slice aq9 nq9 cq9, .bool false, .int .u64 0, .bool false, .int .u64 (0 + 1), .slice none 0 0, .slice aq10 nq10 cq10, .slice aq11 nq11 cq11] ?_
      intro v18 Y C
      replace U := U.put 0 rfl C Y (by decide)
      clear Y C
      refine gl_nil ?_
      refine ge_then ?_
      refine gc_fr [(1, .int .u64 part), (2, .slice ao cnt cp), (3, .slice ao2 cnt2 cp2), (4, .bool ct), (10, .bool false), (11, .int .u64 nn), (12, pg g0), (13, pg g17)] (by kernel_rfl) ?_
      refine gc_seq ?_
      refine gc_reg ?_
      refine t 51 (.int .u64 nn) ?_
      refine tc 52 18 #[.int .u64 nn] (eOf (y := nn) ⟨by omega, by omega⟩) ?_
      rintro _ v20 ⟨aq19, nq19, cq19, zq19, rfl, M, h, mq19, B⟩
      refine ⟨_, rfl, ?_⟩
      replace U := U.num M h B
      clear M h B
      refine t 53 (.int .u64 part) ?_
      refine tr 54 (.int .u64 (part % 30)) (run_remu part 30 hpart ⟨by decide, by decide⟩) ?_
      refine tq 55 (.int .u64 (IntKind.u64.wrap (1 + part % 30))) (.int .u64 pp) (congrArg (Value.int .u64) (by rw [IntKind.wrap_u64]; omega)) ?_
      refine tc 56 31 #[.agg #[.slice aq19 nq19 cq19], .int .u64 pp] (eTimes (U.nq 0 rfl).nat (by omega) ⟨by omega, by omega⟩) ?_
      rintro _ v22 ⟨aq21, nq21, cq21, zq21, rfl, M, h, mq21, B⟩
      refine ⟨_, rfl, ?_⟩
      replace U := U.num M h B
      clear M h B
      refine tc 57 30 #[.agg #[.slice aq21 nq21 cq21], .int .u64 100] (eOver (y := 100) (U.nq 0 rfl).nat (by omega) ⟨by decide, by decide⟩) ?_
      rintro _ v24 ⟨aq23, nq23, cq23, zq23, rfl, M, h, mq23, B⟩
      refine ⟨_, rfl, ?_⟩
      replace U := U.num M h B
      clear M h B
      replace U := U.val 0 rfl hzv.symm
      refine t 50 (.tuple #[.agg #[.slice aq23 nq23 cq23], .int .i64 (dvZ 100)]) ?_
      refine t 58 (.agg #[.slice aq23 nq23 cq23]) ?_
      refine t 59 (.int .i64 (dvZ 100)) ?_
      refine ta 14 [.slice none 0 0] 32 (pg) ?_
      intro v25 g26 Xg26 hg26 B
      replace U := U.new Xg26 hg26 B
      clear Xg26 hg26 B
      refine ts (U.bk 0 rfl) 0 (.agg #[.slice aq23 nq23 cq23]) [.slice aq23 nq23 cq23] [.slice aq23 nq23 cq23] ?_
      intro v27 Y C
      replace U := U.put 0 rfl C Y (by decide)
      clear Y C
      refine t 15 (.int .i64 (dvZ 100)) ?_
      refine gl_nil ?_
      refine ge_then ?_
      refine gc_fr [(2, .slice ao cnt cp), (3, .slice ao2 cnt2 cp2), (4, .bool ct), (10, .bool false), (12, pg g0), (13, pg g17), (14, pg g26)] (by kernel_rfl) ?_
      refine gc_seq ?_
      refine gc_reg ?_
      refine t 60 (pg g0) ?_
      refine tlr 61 [.int .u64 0, .int .u64 nn, .slice aq9 nq9 cq9, .bool false, .int .u64 0, .bool false, .int .u64 (0 + 1), .slice none 0 0, .slice aq10 nq10 cq10, .slice aq11 nq11 cq11] (U.bk 1 rfl) 0 ?_
      refine tlr 62 [.slice aq23 nq23 cq23] (U.bk 0 rfl) 0 ?_
      refine t 63 (.agg #[.slice aq23 nq23 cq23, .int .u64 0, .slice none 0 0]) ?_
      have F28 := F0.hold (by simp; try omega)
      refine tc 64 19 #[pg g0, .int .u64 16, .agg #[.int .u64 0, .int .u64 nn, .slice aq9 nq9 cq9, .bool false, .int .u64 0, .bool false, .int .u64 (0 + 1), .slice none 0 0, .slice aq10 nq10 cq10, .slice aq11 nq11 cq11], .agg #[.slice aq23 nq23 cq23, .int .u64 0, .slice none 0 0]] (HoE.cast (E' := (referE (referE [] 16 0) 16 0)) (p := 0) (xs := zv) (hold_any U.sx (id := 16) ⟨by decide, by decide⟩ ⟨by omega, by omega⟩ (U.nq 5 rfl).nk (by omega) (nq_nil _ _).nk (by omega) (U.nq 4 rfl).nk (by omega) (U.nq 3 rfl).nk (by omega) (U.nq 0 rfl).nk (by omega) (nq_nil _ _).nk (by omega) (by omega) (by omega)) (by omega) rfl (Int.mul_ediv_cancel _ (by unfold U36; omega))) ?_
      rintro _ v34 ⟨aq29, nq29, cq29, zq29, aq30, nq30, cq30, zq30, K31, n32, N33, rfl, S, qn32, qN33, hK, hC, Q0, mq29, h0, Q1, mq30, h1⟩
      refine ⟨_, rfl, ?_⟩
      have L := U.lt
      replace U := ((U.op S hK hC).add L Q0 h0).add L Q1 h1
      clear L S hK hC Q0 h0 Q1 h1
      refine ta 16 [.slice none 0 0, .int .u64 0, .slice none 0 0] 54 (pg) ?_
      intro v35 g36 Xg36 hg36 B
      replace U := U.new Xg36 hg36 B
      clear Xg36 hg36 B
      refine ts (U.bk 0 rfl) 0 (.agg #[.slice aq29 nq29 cq29, .int .u64 0, .slice aq30 nq30 cq30]) [.slice aq29 nq29 cq29, .int .u64 0, .slice aq30 nq30 cq30] [.slice aq29 nq29 cq29, .int .u64 0, .slice aq30 nq30 cq30] ?_
      intro v37 Y C
      replace U := U.put 0 rfl C Y (by decide)
      clear Y C
      refine gl_nil ?_
      refine ge_then ?_
      refine gc_seq ?_
      refine gc_reg ?_
      refine t 65 (pg g0) ?_
      refine tlr 66 [.int .u64 0, .int .u64 nn, .slice aq9 nq9 cq9, .bool false, .int .u64 0, .bool false, .int .u64 (0 + 1), .slice none 0 0, .slice aq10 nq10 cq10, .slice aq11 nq11 cq11] (U.bk 2 rfl) 0 ?_
      refine tlr 67 [.slice aq23 nq23 cq23] (U.bk 1 rfl) 0 ?_
      refine t 68 (.agg #[.slice aq23 nq23 cq23, .int .u64 0, .slice none 0 0]) ?_
      have F38 := F28.hold (by simp; try omega)
      refine tc 69 19 #[pg g0, .int .u64 16, .agg #[.int .u64 0, .int .u64 nn, .slice aq9 nq9 cq9, .bool false, .int .u64 0, .bool false, .int .u64 (0 + 1), .slice none 0 0, .slice aq10 nq10 cq10, .slice aq11 nq11 cq11], .agg #[.slice aq23 nq23 cq23, .int .u64 0, .slice none 0 0]] (HoE.cast (E' := (referE (referE (referE [] 16 0) 16 0) 16 0)) (p := 0) (xs := zv) (hold_any U.sx (id := 16) ⟨by decide, by decide⟩ ⟨by omega, by omega⟩ (U.nq 7 rfl).nk (by omega) (nq_nil _ _).nk (by omega) (U.nq 6 rfl).nk (by omega) (U.nq 5 rfl).nk (by omega) (U.nq 2 rfl).nk (by omega) (nq_nil _ _).nk (by omega) (by omega) (by omega)) (by omega) rfl (Int.mul_ediv_cancel _ (by unfold U36; omega))) ?_
      rintro _ v44 ⟨aq39, nq39, cq39, zq39, aq40, nq40, cq40, zq40, K41, n42, N43, rfl, S, qn42, qN43, hK, hC, Q0, mq39, h0, Q1, mq40, h1⟩
      refine ⟨_, rfl, ?_⟩
      have L := U.lt
      replace U := ((U.op S hK hC).add L Q0 h0).add L Q1 h1
      clear L S hK hC Q0 h0 Q1 h1
      refine ta 17 [.slice none 0 0, .int .u64 0, .slice none 0 0] 54 (pg) ?_
      intro v45 g46 Xg46 hg46 B
      replace U := U.new Xg46 hg46 B
      clear Xg46 hg46 B
      refine ts (U.bk 0 rfl) 0 (.agg #[.slice aq39 nq39 cq39, .int .u64 0, .slice aq40 nq40 cq40]) [.slice aq39 nq39 cq39, .int .u64 0, .slice aq40 nq40 cq40] [.slice aq39 nq39 cq39, .int .u64 0, .slice aq40 nq40 cq40] ?_
      intro v47 Y C
      replace U := U.put 0 rfl C Y (by decide)
      clear Y C
      refine gl_nil ?_
      refine ge_then ?_
      refine gc_fr [(2, .slice ao cnt cp), (3, .slice ao2 cnt2 cp2), (4, .bool ct), (10, .bool false), (12, pg g0), (13, pg g17), (14, pg g26), (16, pg g36), (17, pg g46)] (by kernel_rfl) ?_
      refine gc_join (fun (s : JD) => [(2, .slice ao cnt cp), (3, .slice ao2 cnt2 cp2), (4, .bool ct), (12, pg g0), (13, pg g17), (14, pg g26), (16, pg g36), (17, pg g46), (18, pg s.gd)]) (fun s w' => Un w Bz g0 w' s.K (referE (referE (referE (referE [] 16 0) 16 0) 16 0) 16 0) s.n s.N ((s.gd, [.slice s.a0 s.k0 s.c0, .int .u64 0, .slice s.a1 s.k1 s.c1], 54) :: [(g46, [.slice aq39 nq39 cq39, .int .u64 0, .slice aq40 nq40 cq40], 54), (g36, [.slice aq29 nq29 cq29, .int .u64 0, .slice aq30 nq30 cq30], 54), (g26, [.slice aq23 nq23 cq23], 32), (g17, [.int .u64 0, .int .u64 nn, .slice aq9 nq9 cq9, .bool false, .int .u64 0, .bool false, .int .u64 (0 + 1), .slice none 0 0, .slice aq10 nq10 cq10, .slice aq11 nq11 cq11], 39)]) ((s.z0, s.a0, s.k0, s.c0, zv + zv) :: (s.z1, s.a1, s.k1, s.c1, zv + zv) :: [(zq40, aq40, nq40, cq40, zv), (zq39, aq39, nq39, cq39, zv), (zq30, aq30, nq30, cq30, zv), (zq29, aq29, nq29, cq29, zv), (zq23, aq23, nq23, cq23, zv), (zq11, aq11, nq11, cq11, 0), (zq10, aq10, nq10, cq10, 0), (zq9, aq9, nq9, cq9, nn * U36)]) ∧ s.n ≤ 300 ∧ s.N ≤ 300 ∧ s.k0 ≤ 1000 ∧ s.k1 ≤ 1000) ?_ ?_
      · replace U := U.drew
        refine gc_draw (fun w' => Blk w' g17 [.int .u64 0, .int .u64 nn, .slice aq9 nq9 cq9, .bool false, .int .u64 0, .bool false, .int .u64 (0 + 1), .slice none 0 0, .slice aq10 nq10 cq10, .slice aq11 nq11 cq11] 39 ∧ Blk w' g26 [.slice aq23 nq23 cq23] 32) (fun _ => false) ⟨(U.bk 3 rfl), (U.bk 2 rfl)⟩ ?_
        refine z 0 70 (pg g0) ?_
        refine zlr 1 71 [.int .u64 0, .int .u64 nn, .slice aq9 nq9 cq9, .bool false, .int .u64 0, .bool false, .int .u64 (0 + 1), .slice none 0 0, .slice aq10 nq10 cq10, .slice aq11 nq11 cq11] (fun _ h => h.1) 0 ?_
        refine zlr 2 72 [.slice aq23 nq23 cq23] (fun _ h => h.2) 0 ?_
        refine zlr 3 73 [.slice aq23 nq23 cq23] (fun _ h => h.2) 0 ?_
        refine gz_ready [4, 7] ?_
        refine ga_call 4 (some 74) 27 #[.agg #[.slice aq23 nq23 cq23], .agg #[.slice aq23 nq23 cq23]] (eAdd (U.nq 4 rfl).nat (by omega) (U.nq 4 rfl).nat (by omega)) ?_ ?_
        · rintro _ v49 ⟨aq48, nq48, cq48, zq48, rfl, M, h, mq48, B⟩
          replace U := U.num M h B
          clear M h B
          refine ⟨_, rfl, ⟨(U.bk 3 rfl), (U.bk 2 rfl)⟩, ?_⟩
          refine zr 5 75 (.agg #[.slice aq48 nq48 cq48, .int .u64 0, .slice none 0 0]) (by intro _ _; kernel_rfl) ?_
          refine gz_ready [6, 7] ?_
          have F50 := F38.hold (by simp; try omega)
          refine ga_call 6 (some 76) 19 #[pg g0, .int .u64 16, .agg #[.int .u64 0, .int .u64 nn, .slice aq9 nq9 cq9, .bool false, .int .u64 0, .bool false, .int .u64 (0 + 1), .slice none 0 0, .slice aq10 nq10 cq10, .slice aq11 nq11 cq11], .agg #[.slice aq48 nq48 cq48, .int .u64 0, .slice none 0 0]] (HoE.cast (E' := (referE (referE (referE (referE [] 16 0) 16 0) 16 0) 16 0)) (p := 0) (xs := zv + zv) (hold_any U.sx (id := 16) ⟨by decide, by decide⟩ ⟨by omega, by omega⟩ (U.nq 10 rfl).nk (by omega) (nq_nil _ _).nk (by omega) (U.nq 9 rfl).nk (by omega) (U.nq 8 rfl).nk (by omega) (U.nq 0 rfl).nk (by omega) (nq_nil _ _).nk (by omega) (by omega) (by omega)) (by omega) rfl (Int.mul_ediv_cancel _ (by unfold U36; omega))) ?_ ?_
          · rintro _ v56 ⟨aq51, nq51, cq51, zq51, aq52, nq52, cq52, zq52, K53, n54, N55, rfl, S, qn54, qN55, hK, hC, Q0, mq51, h0, Q1, mq52, h1⟩
            have L := U.lt
            replace U := ((U.op S hK hC).add L Q0 h0).add L Q1 h1
            clear L S hK hC Q0 h0 Q1 h1
            refine ⟨_, rfl, ⟨(U.bk 3 rfl), (U.bk 2 rfl)⟩, ?_⟩
            refine za 7 18 [.slice none 0 0, .int .u64 0, .slice none 0 0] 54 (pg) ?_
            intro v57 g58 Xg58 hg58 B
            replace U := U.new Xg58 hg58 B
            clear Xg58 hg58 B
            refine ⟨⟨(U.bk 4 rfl), (U.bk 3 rfl)⟩, ?_⟩
            refine zs 8 (U.bk 0 rfl) 0 (.agg #[.slice aq51 nq51 cq51, .int .u64 0, .slice aq52 nq52 cq52]) [.slice aq51 nq51 cq51, .int .u64 0, .slice aq52 nq52 cq52] [.slice aq51 nq51 cq51, .int .u64 0, .slice aq52 nq52 cq52] ?_
            intro v59 Y C
            replace U := U.put 0 rfl C Y (by decide)
            clear Y C
            refine ⟨⟨(U.bk 4 rfl), (U.bk 3 rfl)⟩, ?_⟩
            refine gz_done ?_
            exact ge_join (⟨_, _, _, g58, aq51, nq51, cq51, zq51, aq52, nq52, cq52, zq52⟩ : JD) ⟨U.sel [0, 1, 2, 3, 4] [1, 0, 3, 4, 5, 6, 7, 10, 11, 12], by (try dsimp only); omega, by (try dsimp only); omega, by (try dsimp only); omega, by (try dsimp only); omega⟩ (by kernel_rfl)
          refine zaa 7 18 [.slice none 0 0, .int .u64 0, .slice none 0 0] 54 (pg) ?_ ?_
          · intro v60 g61 Xg61 hg61 B
            replace U := U.new Xg61 hg61 B
            clear Xg61 hg61 B
            refine ⟨⟨(U.bk 4 rfl), (U.bk 3 rfl)⟩, ?_⟩
            have F62 := F38.hold (by simp; try omega)
            refine zc 6 76 19 #[pg g0, .int .u64 16, .agg #[.int .u64 0, .int .u64 nn, .slice aq9 nq9 cq9, .bool false, .int .u64 0, .bool false, .int .u64 (0 + 1), .slice none 0 0, .slice aq10 nq10 cq10, .slice aq11 nq11 cq11], .agg #[.slice aq48 nq48 cq48, .int .u64 0, .slice none 0 0]] (HoE.cast (E' := (referE (referE (referE (referE [] 16 0) 16 0) 16 0) 16 0)) (p := 0) (xs := zv + zv) (hold_any U.sx (id := 16) ⟨by decide, by decide⟩ ⟨by omega, by omega⟩ (U.nq 10 rfl).nk (by omega) (nq_nil _ _).nk (by omega) (U.nq 9 rfl).nk (by omega) (U.nq 8 rfl).nk (by omega) (U.nq 0 rfl).nk (by omega) (nq_nil _ _).nk (by omega) (by omega) (by omega)) (by omega) rfl (Int.mul_ediv_cancel _ (by unfold U36; omega))) ?_
            rintro _ v68 ⟨aq63, nq63, cq63, zq63, aq64, nq64, cq64, zq64, K65, n66, N67, rfl, S, qn66, qN67, hK, hC, Q0, mq63, h0, Q1, mq64, h1⟩
            have L := U.lt
            replace U := ((U.op S hK hC).add L Q0 h0).add L Q1 h1
            clear L S hK hC Q0 h0 Q1 h1
            refine ⟨_, rfl, ⟨(U.bk 4 rfl), (U.bk 3 rfl)⟩, ?_⟩
            refine zs 8 (U.bk 0 rfl) 0 (.agg #[.slice aq63 nq63 cq63, .int .u64 0, .slice aq64 nq64 cq64]) [.slice aq63 nq63 cq63, .int .u64 0, .slice aq64 nq64 cq64] [.slice aq63 nq63 cq63, .int .u64 0, .slice aq64 nq64 cq64] ?_
            intro v69 Y C
            replace U := U.put 0 rfl C Y (by decide)
            clear Y C
            refine ⟨⟨(U.bk 4 rfl), (U.bk 3 rfl)⟩, ?_⟩
            refine gz_done ?_
            exact ge_join (⟨_, _, _, g61, aq63, nq63, cq63, zq63, aq64, nq64, cq64, zq64⟩ : JD) ⟨U.sel [0, 1, 2, 3, 4] [1, 0, 3, 4, 5, 6, 7, 10, 11, 12], by (try dsimp only); omega, by (try dsimp only); omega, by (try dsimp only); omega, by (try dsimp only); omega⟩ (by kernel_rfl)
          exact ga_nil
        refine zaa 7 18 [.slice none 0 0, .int .u64 0, .slice none 0 0] 54 (pg) ?_ ?_
        · intro v70 g71 Xg71 hg71 B
          replace U := U.new Xg71 hg71 B
          clear Xg71 hg71 B
          refine ⟨⟨(U.bk 4 rfl), (U.bk 3 rfl)⟩, ?_⟩
          refine zc 4 74 27 #[.agg #[.slice aq23 nq23 cq23], .agg #[.slice aq23 nq23 cq23]] (eAdd (U.nq 4 rfl).nat (by omega) (U.nq 4 rfl).nat (by omega)) ?_
          rintro _ v73 ⟨aq72, nq72, cq72, zq72, rfl, M, h, mq72, B⟩
          replace U := U.num M h B
          clear M h B
          refine ⟨_, rfl, ⟨(U.bk 4 rfl), (U.bk 3 rfl)⟩, ?_⟩
          refine zr 5 75 (.agg #[.slice aq72 nq72 cq72, .int .u64 0, .slice none 0 0]) (by intro _ _; kernel_rfl) ?_
          have F74 := F38.hold (by simp; try omega)
          refine zc 6 76 19 #[pg g0, .int .u64 16, .agg #[.int .u64 0, .int .u64 nn, .slice aq9 nq9 cq9, .bool false, .int .u64 0, .bool false, .int .u64 (0 + 1), .slice none 0 0, .slice aq10 nq10 cq10, .slice aq11 nq11 cq11], .agg #[.slice aq72 nq72 cq72, .int .u64 0, .slice none 0 0]] (HoE.cast (E' := (referE (referE (referE (referE [] 16 0) 16 0) 16 0) 16 0)) (p := 0) (xs := zv + zv) (hold_any U.sx (id := 16) ⟨by decide, by decide⟩ ⟨by omega, by omega⟩ (U.nq 10 rfl).nk (by omega) (nq_nil _ _).nk (by omega) (U.nq 9 rfl).nk (by omega) (U.nq 8 rfl).nk (by omega) (U.nq 0 rfl).nk (by omega) (nq_nil _ _).nk (by omega) (by omega) (by omega)) (by omega) rfl (Int.mul_ediv_cancel _ (by unfold U36; omega))) ?_
          rintro _ v80 ⟨aq75, nq75, cq75, zq75, aq76, nq76, cq76, zq76, K77, n78, N79, rfl, S, qn78, qN79, hK, hC, Q0, mq75, h0, Q1, mq76, h1⟩
          have L := U.lt
          replace U := ((U.op S hK hC).add L Q0 h0).add L Q1 h1
          clear L S hK hC Q0 h0 Q1 h1
          refine ⟨_, rfl, ⟨(U.bk 4 rfl), (U.bk 3 rfl)⟩, ?_⟩
          refine zs 8 (U.bk 0 rfl) 0 (.agg #[.slice aq75 nq75 cq75, .int .u64 0, .slice aq76 nq76 cq76]) [.slice aq75 nq75 cq75, .int .u64 0, .slice aq76 nq76 cq76] [.slice aq75 nq75 cq75, .int .u64 0, .slice aq76 nq76 cq76] ?_
          intro v81 Y C
          replace U := U.put 0 rfl C Y (by decide)
          clear Y C
          refine ⟨⟨(U.bk 4 rfl), (U.bk 3 rfl)⟩, ?_⟩
          refine gz_done ?_
          exact ge_join (⟨_, _, _, g71, aq75, nq75, cq75, zq75, aq76, nq76, cq76, zq76⟩ : JD) ⟨U.sel [0, 1, 2, 3, 4] [1, 0, 3, 4, 5, 6, 7, 10, 11, 12], by (try dsimp only); omega, by (try dsimp only); omega, by (try dsimp only); omega, by (try dsimp only); omega⟩ (by kernel_rfl)
        exact ga_nil
      clear U
      rintro ⟨KJc, nJc, NJc, gdc, a0c, k0c, c0c, z0c, a1c, k1c, c1c, z1c⟩ v82 ⟨U, qnJc, qNJc, mk0c, mk1c⟩
      dsimp only at *
      have Fdc := F38.hold (by simp; try omega)
      refine gc_seq ?_
      refine gc_reg ?_
      refine t 77 (pg g0) ?_
      refine tlr 78 [.int .u64 0, .int .u64 nn, .slice aq9 nq9 cq9, .bool false, .int .u64 0, .bool false, .int .u64 (0 + 1), .slice none 0 0, .slice aq10 nq10 cq10, .slice aq11 nq11 cq11] (U.bk 4 rfl) 0 ?_
      refine t 79 (.slice ao cnt cp) ?_
      obtain ⟨pbu, zzu, Du⟩ := DA.k hs1 U.bb U.out (U.nk 0 rfl)
      have hsmu := DA.sm hs1
      have fewu := hs1.1
      have L := U.lt
      have e0 := U.en 9 rfl
      have e1 := U.en0
      have e2 := U.en 8 rfl
      have e3 := U.en 7 rfl
      refine tc 80 32 #[pg g0, .agg #[.int .u64 0, .int .u64 nn, .slice aq9 nq9 cq9, .bool false, .int .u64 0, .bool false, .int .u64 (0 + 1), .slice none 0 0, .slice aq10 nq10 cq10, .slice aq11 nq11 cq11], .slice ao cnt cp] (pay_any (la := 0) U.sx Fdc ⟨by omega, by omega⟩ (U.nq 9 rfl) (by omega) (nq_nil _ _) (by omega) (U.nq 8 rfl) (by omega) (U.nq 7 rfl) (by omega) Du hsmu (by omega) (by show (0 : Int) ≤ _; decide) (by omega) (by omega)) ?_
      rintro _ v86 ⟨au0, nu0, cu0, zu0, au1, nu1, cu1, zu1, au2, nu2, cu2, zu2, au3, nu3, cu3, zu3, K83, n84, N85, Eu, Ru, rfl, S, qn84, qN85, hK, hC, ⟨Q0, mu0, f0⟩, ⟨Q1, mu1, f1⟩, ⟨Q2, mu2, f2⟩, ⟨Q3, mu3, f3⟩, Fu, hsu, rlu⟩
      refine ⟨_, rfl, ?_⟩
      replace U := ((((U.op S hK hC).addF L e0 Q0 f0).addF L e1 Q1 f1).addF L e2 Q2 f2).addF L e3 Q3 f3
      clear L S hK hC e0 Q0 f0 e1 Q1 f1 e2 Q2 f2 e3 Q3 f3
      have sb1 := sQ_le (n := nn) (by omega) hsmu cnt (Nat.le_refl _)
      rw [← hS1] at rlu sb1
      have z1 : Ru 0 = 0 := hsu 0 (Int.le_refl _)
      have b9 : (cnt : Int) * 18446744073709551616 ^ 4 ≤ 20 * 18446744073709551616 ^ 4 := Int.mul_le_mul_of_nonneg_right (by omega) (by decide)
      have hR1 : Ru (0 + (cnt : Int)) ≤ 400000 * 18446744073709551616 ^ 4 := by omega
      refine ts (U.bk 4 rfl) 0 (.agg #[.int .u64 0, .int .u64 nn, .slice au0 nu0 cu0, .bool false, .int .u64 0, .bool false, .int .u64 (0 + (cnt : Int) + 1), .slice au1 nu1 cu1, .slice au2 nu2 cu2, .slice au3 nu3 cu3]) [.int .u64 0, .int .u64 nn, .slice au0 nu0 cu0, .bool false, .int .u64 0, .bool false, .int .u64 (0 + (cnt : Int) + 1), .slice au1 nu1 cu1, .slice au2 nu2 cu2, .slice au3 nu3 cu3] [.int .u64 0, .int .u64 nn, .slice au0 nu0 cu0, .bool false, .int .u64 0, .bool false, .int .u64 (0 + (cnt : Int) + 1), .slice au1 nu1 cu1, .slice au2 nu2 cu2, .slice au3 nu3 cu3] ?_
      intro v87 Y C
      replace U := U.put 4 rfl C Y (by decide)
      clear Y C
      refine gl_nil ?_
      refine ge_then ?_
      refine gc_seq ?_
      refine gc_reg ?_
      refine t 81 (pg g0) ?_
      refine tlr 82 [.int .u64 0, .int .u64 nn, .slice au0 nu0 cu0, .bool false, .int .u64 0, .bool false, .int .u64 (0 + (cnt : Int) + 1), .slice au1 nu1 cu1, .slice au2 nu2 cu2, .slice au3 nu3 cu3] (U.bk 4 rfl) 0 ?_
      refine tlr 83 [.slice aq23 nq23 cq23] (U.bk 3 rfl) 0 ?_
      refine t 84 (.agg #[.slice aq23 nq23 cq23, .int .u64 0, .slice none 0 0]) ?_
      have F88 := Fu.hold (by simp; try omega)
      refine tc 85 19 #[pg g0, .int .u64 16, .agg #[.int .u64 0, .int .u64 nn, .slice au0 nu0 cu0, .bool false, .int .u64 0, .bool false, .int .u64 (0 + (cnt : Int) + 1), .slice au1 nu1 cu1, .slice au2 nu2 cu2, .slice au3 nu3 cu3], .agg #[.slice aq23 nq23 cq23, .int .u64 0, .slice none 0 0]] (HoE.cast (E' := (referE Eu 16 (0 + (cnt : Int)))) (p := 0 + (cnt : Int)) (xs := zv) (hold_any U.sx (id := 16) ⟨by decide, by decide⟩ ⟨by omega, by omega⟩ (U.nq 3 rfl).nk (by omega) (U.nq 2 rfl).nk (by omega) (U.nq 1 rfl).nk (by omega) (U.nq 0 rfl).nk (by omega) (U.nq 10 rfl).nk (by omega) (nq_nil _ _).nk (by omega) (by omega) (by omega)) (by omega) rfl (Int.mul_ediv_cancel _ (by unfold U36; omega))) ?_
      rintro _ v94 ⟨aq89, nq89, cq89, zq89, aq90, nq90, cq90, zq90, K91, n92, N93, rfl, S, qn92, qN93, hK, hC, Q0, mq89, h0, Q1, mq90, h1⟩
      refine ⟨_, rfl, ?_⟩
      have L := U.lt
      replace U := ((U.op S hK hC).add L Q0 h0).add L Q1 h1
      clear L S hK hC Q0 h0 Q1 h1
      refine ta 19 [.slice none 0 0, .int .u64 0, .slice none 0 0] 54 (pg) ?_
      intro v95 g96 Xg96 hg96 B
      replace U := U.new Xg96 hg96 B
      clear Xg96 hg96 B
      refine ts (U.bk 0 rfl) 0 (.agg #[.slice aq89 nq89 cq89, .int .u64 (0 + (cnt : Int)), .slice aq90 nq90 cq90]) [.slice aq89 nq89 cq89, .int .u64 (0 + (cnt : Int)), .slice aq90 nq90 cq90] [.slice aq89 nq89 cq89, .int .u64 (0 + (cnt : Int)), .slice aq90 nq90 cq90] ?_
      intro v97 Y C
      replace U := U.put 0 rfl C Y (by decide)
      clear Y C
      refine gl_nil ?_
      refine ge_then ?_
      refine gc_seq ?_
      refine gc_reg ?_
      refine t 87 (pg g0) ?_
      refine tlr 88 [.int .u64 0, .int .u64 nn, .slice au0 nu0 cu0, .bool false, .int .u64 0, .bool false, .int .u64 (0 + (cnt : Int) + 1), .slice au1 nu1 cu1, .slice au2 nu2 cu2, .slice au3 nu3 cu3] (U.bk 5 rfl) 0 ?_
      refine tlr 89 [.slice aq29 nq29 cq29, .int .u64 0, .slice aq30 nq30 cq30] (U.bk 3 rfl) 0 ?_
      refine tc 90 20 #[pg g0, .int .u64 16, .agg #[.int .u64 0, .int .u64 nn, .slice au0 nu0 cu0, .bool false, .int .u64 0, .bool false, .int .u64 (0 + (cnt : Int) + 1), .slice au1 nu1 cu1, .slice au2 nu2 cu2, .slice au3 nu3 cu3], .agg #[.slice aq29 nq29 cq29, .int .u64 0, .slice aq30 nq30 cq30]] (ClmE.cast (c' := 0) (V' := (zv * S1 / U36)) (claim_fs (la := 0 + (cnt : Int)) U.sx F88 (U.nq 10 rfl) (by omega) (by simp) (by omega) (by simp) (by omega) (by omega)) (rfl) (by rw [aft_nil, cmV_nil (by omega), rlu, z1]; congr 2; omega)) ?_
      rintro _ v99 ⟨aq98, nq98, cq98, zq98, rfl, S, C, Q, mq98, h⟩
      refine ⟨_, rfl, ?_⟩
      have L := U.lt
      replace U := (U.ask S C).add L Q h
      clear L S C Q h
      refine t 86 (.tuple #[.agg #[.slice aq98 nq98 cq98], .int .i64 0]) ?_
      refine t 91 (.agg #[.slice aq98 nq98 cq98]) ?_
      refine t 92 (.int .i64 0) ?_
      refine ta 20 [.slice none 0 0] 32 (pg) ?_
      intro v100 g101 Xg101 hg101 B
      replace U := U.new Xg101 hg101 B
      clear Xg101 hg101 B
      refine ts (U.bk 0 rfl) 0 (.agg #[.slice aq98 nq98 cq98]) [.slice aq98 nq98 cq98] [.slice aq98 nq98 cq98] ?_
      intro v102 Y C
      replace U := U.put 0 rfl C Y (by decide)
      clear Y C
      refine t 21 (.int .i64 0) ?_
      refine gl_nil ?_
      refine ge_then ?_
      refine gc_fr [(3, .slice ao2 cnt2 cp2), (4, .bool ct), (12, pg g0), (13, pg g17), (16, pg g36), (17, pg g46), (18, pg gdc), (19, pg g96), (20, pg g101)] (by kernel_rfl) ?_
      refine gc_seq ?_
      refine gc_seq ?_
      refine gc_reg ?_
      refine t 93 (.bool ct) ?_
      refine gl_nil ?_
      refine ge_then ?_
      rcases Bool.eq_false_or_eq_true (ct) with b103 | b103
      · refine gc_yes (hc := congrArg Value.bool b103) ?_
        refine gc_seq ?_
        refine gc_reg ?_
        refine t 95 (pg g0) ?_
        refine tlr 96 [.int .u64 0, .int .u64 nn, .slice au0 nu0 cu0, .bool false, .int .u64 0, .bool false, .int .u64 (0 + (cnt : Int) + 1), .slice au1 nu1 cu1, .slice au2 nu2 cu2, .slice au3 nu3 cu3] (U.bk 6 rfl) 0 ?_
        have hlim : Ru (0 + (cnt : Int)) + 0 / nn < LIM := by rw [Int.zero_ediv]; exact lim_256 (by omega)
        have Fk := F88.close (tk := nn) (cur := 0) (by omega) (by rw [Int.zero_ediv]; exact Int.le_refl _) hlim
        refine tc 97 22 #[pg g0, .int .u64 16, .agg #[.int .u64 0, .int .u64 nn, .slice au0 nu0 cu0, .bool false, .int .u64 0, .bool false, .int .u64 (0 + (cnt : Int) + 1), .slice au1 nu1 cu1, .slice au2 nu2 cu2, .slice au3 nu3 cu3]] (ClE.cast (E' := (closeE (referE Eu 16 (0 + (cnt : Int))) 16 (0 + (cnt : Int) + 1) nn 0)) (pq := 0 + (cnt : Int) + 1 + 1) (close_any U.sx (id := 16) ⟨by decide, by decide⟩ ⟨by omega, by omega⟩ (U.nq 6 rfl).nk (by omega) (U.nq 5 rfl).nk (by omega) (U.nq 4 rfl).nk (by omega) (U.nq 3 rfl).nk (by omega) (by omega) (by omega)) (by omega) rfl) ?_
        rintro _ v111 ⟨aq104, nq104, cq104, zq104, aq105, nq105, cq105, zq105, aq106, nq106, cq106, zq106, aq107, nq107, cq107, zq107, K108, n109, N110, rfl, S, qn109, qN110, hK, hC, Q0, mq104, h0, Q1, mq105, h1, Q2, mq106, h2, Q3, mq107, h3⟩
        refine ⟨_, rfl, ?_⟩
        have L := U.lt
        replace U := ((((U.op S hK hC).add L Q0 h0).add L Q1 h1).add L Q2 h2).add L Q3 h3
        clear L S hK hC Q0 h0 Q1 h1 Q2 h2 Q3 h3
        replace U := U.val 1 rfl (zo (Int.le_refl 0))
        refine t 94 (.tuple #[.agg #[.int .u64 0, .int .u64 nn, .slice aq104 nq104 cq104, .bool false, .int .u64 0, .bool false, .int .u64 (0 + (cnt : Int) + 1 + 1), .slice none 0 0, .slice aq106 nq106 cq106, .slice aq107 nq107 cq107], .agg #[.slice aq105 nq105 cq105]]) ?_
        refine t 98 (.agg #[.int .u64 0, .int .u64 nn, .slice aq104 nq104 cq104, .bool false, .int .u64 0, .bool false, .int .u64 (0 + (cnt : Int) + 1 + 1), .slice none 0 0, .slice aq106 nq106 cq106, .slice aq107 nq107 cq107]) ?_
        refine t 99 (.agg #[.slice aq105 nq105 cq105]) ?_
        refine ts (U.bk 6 rfl) 0 (.agg #[.int .u64 0, .int .u64 nn, .slice aq104 nq104 cq104, .bool false, .int .u64 0, .bool false, .int .u64 (0 + (cnt : Int) + 1 + 1), .slice none 0 0, .slice aq106 nq106 cq106, .slice aq107 nq107 cq107]) [.int .u64 0, .int .u64 nn, .slice aq104 nq104 cq104, .bool false, .int .u64 0, .bool false, .int .u64 (0 + (cnt : Int) + 1 + 1), .slice none 0 0, .slice aq106 nq106 cq106, .slice aq107 nq107 cq107] [.int .u64 0, .int .u64 nn, .slice aq104 nq104 cq104, .bool false, .int .u64 0, .bool false, .int .u64 (0 + (cnt : Int) + 1 + 1), .slice none 0 0, .slice aq106 nq106 cq106, .slice aq107 nq107 cq107] ?_
        intro v112 Y C
        replace U := U.put 6 rfl C Y (by decide)
        clear Y C
        refine gl_nil ?_
        refine ge_then ?_
        refine gc_reg ?_
        refine t 100 (pg g0) ?_
        refine tlr 101 [.int .u64 0, .int .u64 nn, .slice aq104 nq104 cq104, .bool false, .int .u64 0, .bool false, .int .u64 (0 + (cnt : Int) + 1 + 1), .slice none 0 0, .slice aq106 nq106 cq106, .slice aq107 nq107 cq107] (U.bk 6 rfl) 0 ?_
        have Fc : Fs (cutE (closeE (referE Eu 16 (0 + (cnt : Int))) 16 (0 + (cnt : Int) + 1) nn 0) 16 (0 + (cnt : Int) + 1) nn 0) 16 (0 + (cnt : Int) + 1) (upd Ru (0 + (cnt : Int) + 1) (Ru (0 + (cnt : Int)) + 0 / nn)) _ [(0 + (cnt : Int) + 1, nn, 0)] := Fk.cut (b := nn) (a := 0) ⟨by omega, by omega⟩ (by decide) (fun _ h => by cases h) (by simp)
        have k1 : (upd Ru (0 + (cnt : Int) + 1) (Ru (0 + (cnt : Int)) + 0 / nn)) (0 + (cnt : Int) + 1) = S1 := by unfold upd; rw [if_pos rfl, Int.zero_ediv]; omega
        have k0 : (upd Ru (0 + (cnt : Int) + 1) (Ru (0 + (cnt : Int)) + 0 / nn)) 0 = 0 := by unfold upd; rw [if_neg (by omega)]; exact z1
        have k2 : (upd Ru (0 + (cnt : Int) + 1) (Ru (0 + (cnt : Int)) + 0 / nn)) (0 + (cnt : Int)) = S1 := by unfold upd; rw [if_neg (by omega)]; omega
        obtain ⟨Rk, hRk⟩ : ∃ Rk, (upd Ru (0 + (cnt : Int) + 1) (Ru (0 + (cnt : Int)) + 0 / nn)) = Rk := ⟨_, rfl⟩
        rw [hRk] at Fc k0 k1 k2
        have hR1c : Rk (0 + (cnt : Int) + 1) ≤ 400000 * 18446744073709551616 ^ 4 := by omega
        refine tc 102 34 #[pg g0, .int .u64 16, .agg #[.int .u64 0, .int .u64 nn, .slice aq104 nq104 cq104, .bool false, .int .u64 0, .bool false, .int .u64 (0 + (cnt : Int) + 1 + 1), .slice none 0 0, .slice aq106 nq106 cq106, .slice aq107 nq107 cq107], .int .u64 0] (CuE.cast (E' := (cutE (closeE (referE Eu 16 (0 + (cnt : Int))) 16 (0 + (cnt : Int) + 1) nn 0) 16 (0 + (cnt : Int) + 1) nn 0)) (p := 0 + (cnt : Int) + 1) (cut_any (af := 0) U.sx (id := 16) ⟨by decide, by decide⟩ (U.nq 3 rfl).nk (by omega) (nq_nil _ _).nk (by omega) (U.nq 1 rfl).nk (by omega) (U.nq 0 rfl).nk (by omega) (by omega) (by omega)) (by omega) rfl) ?_
        rintro _ v120 ⟨aq113, nq113, cq113, zq113, aq114, nq114, cq114, zq114, aq115, nq115, cq115, zq115, aq116, nq116, cq116, zq116, K117, n118, N119, rfl, S, qn118, qN119, hK, hC, Q0, mq113, h0, Q1, mq114, h1, Q2, mq115, h2, Q3, mq116, h3⟩
        refine ⟨_, rfl, ?_⟩
        have L := U.lt
        replace U := ((((U.op S hK hC).add L Q0 h0).add L Q1 h1).add L Q2 h2).add L Q3 h3
        clear L S hK hC Q0 h0 Q1 h1 Q2 h2 Q3 h3
        refine ts (U.bk 6 rfl) 0 (.agg #[.int .u64 0, .int .u64 0, .slice aq113 nq113 cq113, .bool false, .int .u64 0, .bool false, .int .u64 (0 + (cnt : Int) + 1 + 1), .slice aq114 nq114 cq114, .slice aq115 nq115 cq115, .slice aq116 nq116 cq116]) [.int .u64 0, .int .u64 0, .slice aq113 nq113 cq113, .bool false, .int .u64 0, .bool false, .int .u64 (0 + (cnt : Int) + 1 + 1), .slice aq114 nq114 cq114, .slice aq115 nq115 cq115, .slice aq116 nq116 cq116] [.int .u64 0, .int .u64 0, .slice aq113 nq113 cq113, .bool false, .int .u64 0, .bool false, .int .u64 (0 + (cnt : Int) + 1 + 1), .slice aq114 nq114 cq114, .slice aq115 nq115 cq115, .slice aq116 nq116 cq116] ?_
        intro v121 Y C
        replace U := U.put 6 rfl C Y (by decide)
        clear Y C
        refine gl_nil ?_
        refine ge_then ?_
        refine gc_seq ?_
        refine gc_reg ?_
        refine t 103 (pg g0) ?_
        refine tlr 104 [.int .u64 0, .int .u64 0, .slice aq113 nq113 cq113, .bool false, .int .u64 0, .bool false, .int .u64 (0 + (cnt : Int) + 1 + 1), .slice aq114 nq114 cq114, .slice aq115 nq115 cq115, .slice aq116 nq116 cq116] (U.bk 6 rfl) 0 ?_
        refine t 105 (.slice ao2 cnt2 cp2) ?_
        obtain ⟨pbr, zzr, Dr⟩ := DB.k hs2 U.bb U.out (U.nk 0 rfl)
        have hsmr := DB.sm hs2
        have fewr := hs2.1
        have L := U.lt
        have e0 := U.en 3 rfl
        have e1 := U.en 2 rfl
        have e2 := U.en 1 rfl
        have e3 := U.en 0 rfl
        refine tc 106 32 #[pg g0, .agg #[.int .u64 0, .int .u64 0, .slice aq113 nq113 cq113, .bool false, .int .u64 0, .bool false, .int .u64 (0 + (cnt : Int) + 1 + 1), .slice aq114 nq114 cq114, .slice aq115 nq115 cq115, .slice aq116 nq116 cq116], .slice ao2 cnt2 cp2] (pay_any (la := 0 + (cnt : Int) + 1) U.sx Fc ⟨by omega, by omega⟩ (U.nq 3 rfl) (by omega) (U.nq 2 rfl) (by omega) (U.nq 1 rfl) (by omega) (U.nq 0 rfl) (by omega) Dr hsmr (by omega) hR1c (by omega) (by omega)) ?_
        rintro _ v125 ⟨ar0, nr0, cr0, zr0, ar1, nr1, cr1, zr1, ar2, nr2, cr2, zr2, ar3, nr3, cr3, zr3, K122, n123, N124, Er, Rr, rfl, S, qn123, qN124, hK, hC, ⟨Q0, mr0, f0⟩, ⟨Q1, mr1, f1⟩, ⟨Q2, mr2, f2⟩, ⟨Q3, mr3, f3⟩, Fr, hsr, rlr⟩
        refine ⟨_, rfl, ?_⟩
        replace U := ((((U.op S hK hC).addF L e0 Q0 f0).addF L e1 Q1 f1).addF L e2 Q2 f2).addF L e3 Q3 f3
        clear L S hK hC e0 Q0 f0 e1 Q1 f1 e2 Q2 f2 e3 Q3 f3
        rw [sQ_zero] at rlr
        have y0 : Rr 0 = 0 := (hsr 0 (by omega)).trans k0
        have y1 : Rr (0 + (cnt : Int)) = S1 := (hsr _ (by omega)).trans k2
        have y3 : Rr (0 + (cnt : Int) + 1) = S1 := (hsr _ (Int.le_refl _)).trans k1
        refine ts (U.bk 6 rfl) 0 (.agg #[.int .u64 0, .int .u64 0, .slice ar0 nr0 cr0, .bool false, .int .u64 0, .bool false, .int .u64 (0 + (cnt : Int) + 1 + (cnt2 : Int) + 1), .slice ar1 nr1 cr1, .slice ar2 nr2 cr2, .slice ar3 nr3 cr3]) [.int .u64 0, .int .u64 0, .slice ar0 nr0 cr0, .bool false, .int .u64 0, .bool false, .int .u64 (0 + (cnt : Int) + 1 + (cnt2 : Int) + 1), .slice ar1 nr1 cr1, .slice ar2 nr2 cr2, .slice ar3 nr3 cr3] [.int .u64 0, .int .u64 0, .slice ar0 nr0 cr0, .bool false, .int .u64 0, .bool false, .int .u64 (0 + (cnt : Int) + 1 + (cnt2 : Int) + 1), .slice ar1 nr1 cr1, .slice ar2 nr2 cr2, .slice ar3 nr3 cr3] ?_
        intro v126 Y C
        replace U := U.put 6 rfl C Y (by decide)
        clear Y C
        refine gl_nil ?_
        refine ge_then ?_
        refine gc_fr [(4, .bool ct), (12, pg g0), (13, pg g17), (16, pg g36), (17, pg g46), (18, pg gdc), (19, pg g96), (20, pg g101)] (by kernel_rfl) ?_
        refine gc_seq ?_
        refine gc_reg ?_
        refine t 108 (pg g0) ?_
        refine tlr 109 [.int .u64 0, .int .u64 0, .slice ar0 nr0 cr0, .bool false, .int .u64 0, .bool false, .int .u64 (0 + (cnt : Int) + 1 + (cnt2 : Int) + 1), .slice ar1 nr1 cr1, .slice ar2 nr2 cr2, .slice ar3 nr3 cr3] (U.bk 6 rfl) 0 ?_
        refine tlr 110 [.slice aq29 nq29 cq29, .int .u64 0, .slice aq30 nq30 cq30] (U.bk 4 rfl) 0 ?_
        refine tc 111 20 #[pg g0, .int .u64 16, .agg #[.int .u64 0, .int .u64 0, .slice ar0 nr0 cr0, .bool false, .int .u64 0, .bool false, .int .u64 (0 + (cnt : Int) + 1 + (cnt2 : Int) + 1), .slice ar1 nr1 cr1, .slice ar2 nr2 cr2, .slice ar3 nr3 cr3], .agg #[.slice aq29 nq29 cq29, .int .u64 0, .slice aq30 nq30 cq30]] (ClmE.cast (c' := 1) (V' := (zv * S1 / U36)) (claim_fs (la := 0 + (cnt : Int) + 1 + (cnt2 : Int)) U.sx Fr (U.nq 23 rfl) (by omega) (by simp) (by omega) (by simp) (by omega) (by omega)) (by rw [aft_one (by omega)]; rfl) (by rw [aft_one (by omega), cmV_cut (by omega), y3, y0]; congr 2; omega)) ?_
        rintro _ v128 ⟨aq127, nq127, cq127, zq127, rfl, S, C, Q, mq127, h⟩
        refine ⟨_, rfl, ?_⟩
        have L := U.lt
        replace U := (U.ask S C).add L Q h
        clear L S C Q h
        refine t 107 (.tuple #[.agg #[.slice aq127 nq127 cq127], .int .i64 1]) ?_
        refine t 112 (.agg #[.slice aq127 nq127 cq127]) ?_
        refine t 113 (.int .i64 1) ?_
        refine ta 22 [.slice none 0 0] 32 (pg) ?_
        intro v129 g130 Xg130 hg130 B
        replace U := U.new Xg130 hg130 B
        clear Xg130 hg130 B
        refine ts (U.bk 0 rfl) 0 (.agg #[.slice aq127 nq127 cq127]) [.slice aq127 nq127 cq127] [.slice aq127 nq127 cq127] ?_
        intro v131 Y C
        replace U := U.put 0 rfl C Y (by decide)
        clear Y C
        refine t 23 (.int .i64 1) ?_
        refine gl_nil ?_
        refine ge_then ?_
        refine gc_seq ?_
        refine gc_reg ?_
        refine t 115 (pg g0) ?_
        refine tlr 116 [.int .u64 0, .int .u64 0, .slice ar0 nr0 cr0, .bool false, .int .u64 0, .bool false, .int .u64 (0 + (cnt : Int) + 1 + (cnt2 : Int) + 1), .slice ar1 nr1 cr1, .slice ar2 nr2 cr2, .slice ar3 nr3 cr3] (U.bk 7 rfl) 0 ?_
        refine tlr 117 [.slice aq39 nq39 cq39, .int .u64 0, .slice aq40 nq40 cq40] (U.bk 4 rfl) 0 ?_
        refine tc 118 20 #[pg g0, .int .u64 16, .agg #[.int .u64 0, .int .u64 0, .slice ar0 nr0 cr0, .bool false, .int .u64 0, .bool false, .int .u64 (0 + (cnt : Int) + 1 + (cnt2 : Int) + 1), .slice ar1 nr1 cr1, .slice ar2 nr2 cr2, .slice ar3 nr3 cr3], .agg #[.slice aq39 nq39 cq39, .int .u64 0, .slice aq40 nq40 cq40]] (ClmE.cast (c' := 1) (V' := (zv * S1 / U36)) (claim_fs (la := 0 + (cnt : Int) + 1 + (cnt2 : Int)) U.sx Fr (U.nq 22 rfl) (by omega) (by simp) (by omega) (by simp) (by omega) (by omega)) (by rw [aft_one (by omega)]; rfl) (by rw [aft_one (by omega), cmV_cut (by omega), y3, y0]; congr 2; omega)) ?_
        rintro _ v133 ⟨aq132, nq132, cq132, zq132, rfl, S, C, Q, mq132, h⟩
        refine ⟨_, rfl, ?_⟩
        have L := U.lt
        replace U := (U.ask S C).add L Q h
        clear L S C Q h
        refine t 114 (.tuple #[.agg #[.slice aq132 nq132 cq132], .int .i64 1]) ?_
        refine t 119 (.agg #[.slice aq132 nq132 cq132]) ?_
        refine t 120 (.int .i64 1) ?_
        refine ta 24 [.slice none 0 0] 32 (pg) ?_
        intro v134 g135 Xg135 hg135 B
        replace U := U.new Xg135 hg135 B
        clear Xg135 hg135 B
        refine ts (U.bk 0 rfl) 0 (.agg #[.slice aq132 nq132 cq132]) [.slice aq132 nq132 cq132] [.slice aq132 nq132 cq132] ?_
        intro v136 Y C
        replace U := U.put 0 rfl C Y (by decide)
        clear Y C
        refine t 25 (.int .i64 1) ?_
        refine gl_nil ?_
        refine ge_then ?_
        refine gc_fr [(4, .bool ct), (12, pg g0), (13, pg g17), (18, pg gdc), (19, pg g96), (20, pg g101), (22, pg g130), (24, pg g135), (25, .int .i64 1)] (by kernel_rfl) ?_
        refine gc_seq ?_
        refine gc_reg ?_
        refine t 122 (pg g0) ?_
        refine tlr 123 [.int .u64 0, .int .u64 0, .slice ar0 nr0 cr0, .bool false, .int .u64 0, .bool false, .int .u64 (0 + (cnt : Int) + 1 + (cnt2 : Int) + 1), .slice ar1 nr1 cr1, .slice ar2 nr2 cr2, .slice ar3 nr3 cr3] (U.bk 8 rfl) 0 ?_
        refine tlr 124 [.slice a0c k0c c0c, .int .u64 0, .slice a1c k1c c1c] (U.bk 4 rfl) 0 ?_
        refine tc 125 20 #[pg g0, .int .u64 16, .agg #[.int .u64 0, .int .u64 0, .slice ar0 nr0 cr0, .bool false, .int .u64 0, .bool false, .int .u64 (0 + (cnt : Int) + 1 + (cnt2 : Int) + 1), .slice ar1 nr1 cr1, .slice ar2 nr2 cr2, .slice ar3 nr3 cr3], .agg #[.slice a0c k0c c0c, .int .u64 0, .slice a1c k1c c1c]] (ClmE.cast (c' := 1) (V' := ((zv + zv) * S1 / U36)) (claim_fs (la := 0 + (cnt : Int) + 1 + (cnt2 : Int)) U.sx Fr (U.nq 22 rfl) (by omega) (by simp) (by omega) (by simp) (by omega) (by omega)) (by rw [aft_one (by omega)]; rfl) (by rw [aft_one (by omega), cmV_cut (by omega), y3, y0]; congr 2; omega)) ?_
        rintro _ v138 ⟨aq137, nq137, cq137, zq137, rfl, S, C, Q, mq137, h⟩
        refine ⟨_, rfl, ?_⟩
        have L := U.lt
        replace U := (U.ask S C).add L Q h
        clear L S C Q h
        refine t 121 (.tuple #[.agg #[.slice aq137 nq137 cq137], .int .i64 1]) ?_
        refine t 126 (.agg #[.slice aq137 nq137 cq137]) ?_
        refine t 127 (.int .i64 1) ?_
        refine ta 26 [.slice none 0 0] 32 (pg) ?_
        intro v139 g140 Xg140 hg140 B
        replace U := U.new Xg140 hg140 B
        clear Xg140 hg140 B
        refine ts (U.bk 0 rfl) 0 (.agg #[.slice aq137 nq137 cq137]) [.slice aq137 nq137 cq137] [.slice aq137 nq137 cq137] ?_
        intro v141 Y C
        replace U := U.put 0 rfl C Y (by decide)
        clear Y C
        refine t 27 (.int .i64 1) ?_
        refine gl_nil ?_
        refine ge_then ?_
        refine gc_seq ?_
        refine gc_reg ?_
        refine t 129 (pg g0) ?_
        refine tlr 130 [.int .u64 0, .int .u64 0, .slice ar0 nr0 cr0, .bool false, .int .u64 0, .bool false, .int .u64 (0 + (cnt : Int) + 1 + (cnt2 : Int) + 1), .slice ar1 nr1 cr1, .slice ar2 nr2 cr2, .slice ar3 nr3 cr3] (U.bk 9 rfl) 0 ?_
        refine tlr 131 [.slice aq89 nq89 cq89, .int .u64 (0 + (cnt : Int)), .slice aq90 nq90 cq90] (U.bk 4 rfl) 0 ?_
        refine tc 132 20 #[pg g0, .int .u64 16, .agg #[.int .u64 0, .int .u64 0, .slice ar0 nr0 cr0, .bool false, .int .u64 0, .bool false, .int .u64 (0 + (cnt : Int) + 1 + (cnt2 : Int) + 1), .slice ar1 nr1 cr1, .slice ar2 nr2 cr2, .slice ar3 nr3 cr3], .agg #[.slice aq89 nq89 cq89, .int .u64 (0 + (cnt : Int)), .slice aq90 nq90 cq90]] (ClmE.cast (c' := 1) (V' := 0) (claim_fs (la := 0 + (cnt : Int) + 1 + (cnt2 : Int)) U.sx Fr (U.nq 16 rfl) (by omega) (by simp) (by omega) (by simp) (by omega) (by omega)) (by rw [aft_one (by omega)]; rfl) (by rw [aft_one (by omega), cmV_cut (by omega), y3, y1]; rw [Int.sub_self, Int.mul_zero, Int.zero_ediv])) ?_
        rintro _ v143 ⟨aq142, nq142, cq142, zq142, rfl, S, C, Q, mq142, h⟩
        refine ⟨_, rfl, ?_⟩
        have L := U.lt
        replace U := (U.ask S C).add L Q h
        clear L S C Q h
        refine t 128 (.tuple #[.agg #[.slice aq142 nq142 cq142], .int .i64 1]) ?_
        refine t 133 (.agg #[.slice aq142 nq142 cq142]) ?_
        refine t 134 (.int .i64 1) ?_
        refine ta 28 [.slice none 0 0] 32 (pg) ?_
        intro v144 g145 Xg145 hg145 B
        replace U := U.new Xg145 hg145 B
        clear Xg145 hg145 B
        refine ts (U.bk 0 rfl) 0 (.agg #[.slice aq142 nq142 cq142]) [.slice aq142 nq142 cq142] [.slice aq142 nq142 cq142] ?_
        intro v146 Y C
        replace U := U.put 0 rfl C Y (by decide)
        clear Y C
        refine t 29 (.int .i64 1) ?_
        refine gl_nil ?_
        refine ge_then ?_
        refine gc_fr [(4, .bool ct), (20, pg g101), (22, pg g130), (24, pg g135), (25, .int .i64 1), (26, pg g140), (28, pg g145)] (by kernel_rfl) ?_
        refine gc_seq ?_
        refine gc_seq ?_
        refine gc_reg ?_
        refine tq 135 (.bool ct) (.bool true) (congrArg Value.bool b103) ?_
        refine t 136 (.bool true) ?_
        refine tlr 137 [.slice aq127 nq127 cq127] (U.bk 3 rfl) 0 ?_
        refine tlr 138 [.slice aq98 nq98 cq98] (U.bk 4 rfl) 0 ?_
        have hc147 : (zv * S1 / U36) = (zv * S1 / U36) := by rfl
        refine tc 139 28 #[.agg #[.slice aq127 nq127 cq127], .agg #[.slice aq98 nq98 cq98]] (dCmpEq (U.nq 3 rfl).nat (U.nq 16 rfl).nat (by omega) (by omega) hc147) ?_
        rintro _ v149 ⟨rfl, B⟩
        refine ⟨_, rfl, ?_⟩
        replace U := U.keep B
        clear B
        refine t 140 (.bool false) ?_
        refine t 141 (.bool false) ?_
        refine tlr 142 [.slice aq142 nq142 cq142] (U.bk 0 rfl) 0 ?_
        refine tc 143 21 #[.agg #[.slice aq142 nq142 cq142]] (dZ (b := true) (U.nq 0 rfl).nat (by omega) rfl) ?_
        rintro _ v150 ⟨rfl, B⟩
        refine ⟨_, rfl, ?_⟩
        replace U := U.keep B
        clear B
        refine t 144 (.bool false) ?_
        refine t 145 (.bool false) ?_
        refine t 146 (.bool false) ?_
        refine t 147 (.int .i64 1) ?_
        refine t 148 (.bool false) ?_
        refine t 149 (.bool false) ?_
        refine t 150 (.bool false) ?_
        refine gl_nil ?_
        refine ge_then ?_
        refine gc_fr [(22, pg g130), (24, pg g135), (26, pg g140), (28, pg g145), (150, .bool false)] (by kernel_rfl) ?_
        refine gc_no ?_
        refine gc_skip ?_
        refine ge_then ?_
        refine gc_seq ?_
        replace U := U.drew
        refine gc_draw (fun w' => Blk w' g130 [.slice aq127 nq127 cq127] 32 ∧ Blk w' g135 [.slice aq132 nq132 cq132] 32 ∧ Blk w' g140 [.slice aq137 nq137 cq137] 32 ∧ Blk w' g145 [.slice aq142 nq142 cq142] 32) (fun _ => false) ⟨(U.bk 3 rfl), (U.bk 2 rfl), (U.bk 1 rfl), (U.bk 0 rfl)⟩ ?_
        refine zlr 0 151 [.slice aq127 nq127 cq127] (fun _ h => h.1) 0 ?_
        refine zlr 1 152 [.slice aq132 nq132 cq132] (fun _ h => h.2.1) 0 ?_
        have hc151 : (zv * S1 / U36) = (zv * S1 / U36) := by rfl
        refine zc 2 153 28 #[.agg #[.slice aq127 nq127 cq127], .agg #[.slice aq132 nq132 cq132]] (dCmpEq (U.nq 3 rfl).nat (U.nq 2 rfl).nat (by omega) (by omega) hc151) ?_
        rintro _ v153 ⟨rfl, B⟩
        replace U := U.keep B
        clear B
        refine ⟨_, rfl, ⟨(U.bk 3 rfl), (U.bk 2 rfl), (U.bk 1 rfl), (U.bk 0 rfl)⟩, ?_⟩
        refine z 3 154 (.bool true) ?_
        refine z 4 155 (.bool true) ?_
        refine zlr 5 156 [.slice aq137 nq137 cq137] (fun _ h => h.2.2.1) 0 ?_
        refine zlr 6 157 [.slice aq127 nq127 cq127] (fun _ h => h.1) 0 ?_
        refine zlr 7 158 [.slice aq132 nq132 cq132] (fun _ h => h.2.1) 0 ?_
        refine zc 8 159 27 #[.agg #[.slice aq127 nq127 cq127], .agg #[.slice aq132 nq132 cq132]] (eAdd (U.nq 3 rfl).nat (by omega) (U.nq 2 rfl).nat (by omega)) ?_
        rintro _ v155 ⟨aq154, nq154, cq154, zq154, rfl, M, h, mq154, B⟩
        replace U := U.num M h B
        clear M h B
        refine ⟨_, rfl, ⟨(U.bk 3 rfl), (U.bk 2 rfl), (U.bk 1 rfl), (U.bk 0 rfl)⟩, ?_⟩
        have hc156 : (zv * S1 / U36) + (zv * S1 / U36) ≤ ((zv + zv) * S1 / U36) := by exact al_ge _ _
        refine zc 9 160 28 #[.agg #[.slice aq137 nq137 cq137], .agg #[.slice aq154 nq154 cq154]] (dCmpGe (U.nq 2 rfl).nat (U.nq 0 rfl).nat (by omega) (by omega) hc156) ?_
        rintro _ v158 ⟨r157, rfl, hr157, B⟩
        replace U := U.keep B
        clear B
        refine ⟨_, rfl, ⟨(U.bk 3 rfl), (U.bk 2 rfl), (U.bk 1 rfl), (U.bk 0 rfl)⟩, ?_⟩
        have t159 : (0 : Int) ≤ r157 := by omega
        refine zq 10 161 (.bool (decide ((0 : Int) ≤ r157))) (.bool true) (congrArg Value.bool (decide_eq_true t159)) ?_
        refine z 11 162 (.bool true) ?_
        refine z 12 163 (.bool true) ?_
        refine zlr 13 164 [.slice aq142 nq142 cq142] (fun _ h => h.2.2.2) 0 ?_
        refine zlr 14 165 [.slice aq127 nq127 cq127] (fun _ h => h.1) 0 ?_
        have hc160 : 0 ≤ (zv * S1 / U36) := by exact Int.ediv_nonneg (Int.mul_nonneg hz0 sb1.1) (by decide)
        refine zc 15 166 28 #[.agg #[.slice aq142 nq142 cq142], .agg #[.slice aq127 nq127 cq127]] (dCmpLe (U.nq 1 rfl).nat (U.nq 4 rfl).nat (by omega) (by omega) hc160) ?_
        rintro _ v162 ⟨r161, rfl, hr161, B⟩
        replace U := U.keep B
        clear B
        refine ⟨_, rfl, ⟨(U.bk 3 rfl), (U.bk 2 rfl), (U.bk 1 rfl), (U.bk 0 rfl)⟩, ?_⟩
        have t163 : (r161 : Int) ≤ 0 := by omega
        refine zq 16 167 (.bool (decide ((r161 : Int) ≤ 0))) (.bool true) (congrArg Value.bool (decide_eq_true t163)) ?_
        refine z 17 168 (.bool true) ?_
        refine z 18 10 (.bool true) ?_
        refine gz_done ?_
        refine ge_then ?_
        refine gc_fr [(10, .bool true)] (by kernel_rfl) ?_
        refine gc_ret ?_
        refine ge_ret (.bool true) (rs1 10 (by kernel_rfl) (by kernel_rfl)) ?_
        exact ⟨rfl, U.bb⟩
      · refine gc_no (hc := congrArg Value.bool b103) ?_
        refine gc_skip ?_
        refine ge_then ?_
        refine gc_seq ?_
        refine gc_reg ?_
        refine t 103 (pg g0) ?_
        refine tlr 104 [.int .u64 0, .int .u64 nn, .slice au0 nu0 cu0, .bool false, .int .u64 0, .bool false, .int .u64 (0 + (cnt : Int) + 1), .slice au1 nu1 cu1, .slice au2 nu2 cu2, .slice au3 nu3 cu3] (U.bk 6 rfl) 0 ?_
        refine t 105 (.slice ao2 cnt2 cp2) ?_
        obtain ⟨pbr, zzr, Dr⟩ := DB.k hs2 U.bb U.out (U.nk 0 rfl)
        have hsmr := DB.sm hs2
        have fewr := hs2.1
        have L := U.lt
        have e0 := U.en 6 rfl
        have e1 := U.en 5 rfl
        have e2 := U.en 4 rfl
        have e3 := U.en 3 rfl
        refine tc 106 32 #[pg g0, .agg #[.int .u64 0, .int .u64 nn, .slice au0 nu0 cu0, .bool false, .int .u64 0, .bool false, .int .u64 (0 + (cnt : Int) + 1), .slice au1 nu1 cu1, .slice au2 nu2 cu2, .slice au3 nu3 cu3], .slice ao2 cnt2 cp2] (pay_any (la := 0 + (cnt : Int)) U.sx F88 ⟨by omega, by omega⟩ (U.nq 6 rfl) (by omega) (U.nq 5 rfl) (by omega) (U.nq 4 rfl) (by omega) (U.nq 3 rfl) (by omega) Dr hsmr (by omega) hR1 (by omega) (by omega)) ?_
        rintro _ v167 ⟨ar0, nr0, cr0, zr0, ar1, nr1, cr1, zr1, ar2, nr2, cr2, zr2, ar3, nr3, cr3, zr3, K164, n165, N166, Er, Rr, rfl, S, qn165, qN166, hK, hC, ⟨Q0, mr0, f0⟩, ⟨Q1, mr1, f1⟩, ⟨Q2, mr2, f2⟩, ⟨Q3, mr3, f3⟩, Fr, hsr, rlr⟩
        refine ⟨_, rfl, ?_⟩
        replace U := ((((U.op S hK hC).addF L e0 Q0 f0).addF L e1 Q1 f1).addF L e2 Q2 f2).addF L e3 Q3 f3
        clear L S hK hC e0 Q0 f0 e1 Q1 f1 e2 Q2 f2 e3 Q3 f3
        have sb2 := sQ_le (n := nn) (by omega) hsmr cnt2 (Nat.le_refl _)
        rw [← hS2] at rlr sb2
        have y0 : Rr 0 = 0 := (hsr 0 (by omega)).trans z1
        have y1 : Rr (0 + (cnt : Int)) = S1 := (hsr _ (Int.le_refl _)).trans (by omega)
        have y2 : Rr (0 + (cnt : Int) + (cnt2 : Int)) = S1 + S2 := by omega
        refine ts (U.bk 6 rfl) 0 (.agg #[.int .u64 0, .int .u64 nn, .slice ar0 nr0 cr0, .bool false, .int .u64 0, .bool false, .int .u64 (0 + (cnt : Int) + (cnt2 : Int) + 1), .slice ar1 nr1 cr1, .slice ar2 nr2 cr2, .slice ar3 nr3 cr3]) [.int .u64 0, .int .u64 nn, .slice ar0 nr0 cr0, .bool false, .int .u64 0, .bool false, .int .u64 (0 + (cnt : Int) + (cnt2 : Int) + 1), .slice ar1 nr1 cr1, .slice ar2 nr2 cr2, .slice ar3 nr3 cr3] [.int .u64 0, .int .u64 nn, .slice ar0 nr0 cr0, .bool false, .int .u64 0, .bool false, .int .u64 (0 + (cnt : Int) + (cnt2 : Int) + 1), .slice ar1 nr1 cr1, .slice ar2 nr2 cr2, .slice ar3 nr3 cr3] ?_
        intro v168 Y C
        replace U := U.put 6 rfl C Y (by decide)
        clear Y C
        refine gl_nil ?_
        refine ge_then ?_
        refine gc_seq ?_
        refine gc_reg ?_
        refine t 108 (pg g0) ?_
        refine tlr 109 [.int .u64 0, .int .u64 nn, .slice ar0 nr0 cr0, .bool false, .int .u64 0, .bool false, .int .u64 (0 + (cnt : Int) + (cnt2 : Int) + 1), .slice ar1 nr1 cr1, .slice ar2 nr2 cr2, .slice ar3 nr3 cr3] (U.bk 6 rfl) 0 ?_
        refine tlr 110 [.slice aq29 nq29 cq29, .int .u64 0, .slice aq30 nq30 cq30] (U.bk 4 rfl) 0 ?_
        refine tc 111 20 #[pg g0, .int .u64 16, .agg #[.int .u64 0, .int .u64 nn, .slice ar0 nr0 cr0, .bool false, .int .u64 0, .bool false, .int .u64 (0 + (cnt : Int) + (cnt2 : Int) + 1), .slice ar1 nr1 cr1, .slice ar2 nr2 cr2, .slice ar3 nr3 cr3], .agg #[.slice aq29 nq29 cq29, .int .u64 0, .slice aq30 nq30 cq30]] (ClmE.cast (c' := 0) (V' := (zv * (S1 + S2) / U36)) (claim_fs (la := 0 + (cnt : Int) + (cnt2 : Int)) U.sx Fr (U.nq 15 rfl) (by omega) (by simp) (by omega) (by simp) (by omega) (by omega)) (rfl) (by rw [aft_nil, cmV_nil (by omega), y2, y0]; congr 2; omega)) ?_
        rintro _ v170 ⟨aq169, nq169, cq169, zq169, rfl, S, C, Q, mq169, h⟩
        refine ⟨_, rfl, ?_⟩
        have L := U.lt
        replace U := (U.ask S C).add L Q h
        clear L S C Q h
        refine t 107 (.tuple #[.agg #[.slice aq169 nq169 cq169], .int .i64 0]) ?_
        refine t 112 (.agg #[.slice aq169 nq169 cq169]) ?_
        refine t 113 (.int .i64 0) ?_
        refine ta 22 [.slice none 0 0] 32 (pg) ?_
        intro v171 g172 Xg172 hg172 B
        replace U := U.new Xg172 hg172 B
        clear Xg172 hg172 B
        refine ts (U.bk 0 rfl) 0 (.agg #[.slice aq169 nq169 cq169]) [.slice aq169 nq169 cq169] [.slice aq169 nq169 cq169] ?_
        intro v173 Y C
        replace U := U.put 0 rfl C Y (by decide)
        clear Y C
        refine t 23 (.int .i64 0) ?_
        refine gl_nil ?_
        refine ge_then ?_
        refine gc_fr [(4, .bool ct), (12, pg g0), (13, pg g17), (17, pg g46), (18, pg gdc), (19, pg g96), (20, pg g101), (22, pg g172)] (by kernel_rfl) ?_
        refine gc_seq ?_
        refine gc_reg ?_
        refine t 115 (pg g0) ?_
        refine tlr 116 [.int .u64 0, .int .u64 nn, .slice ar0 nr0 cr0, .bool false, .int .u64 0, .bool false, .int .u64 (0 + (cnt : Int) + (cnt2 : Int) + 1), .slice ar1 nr1 cr1, .slice ar2 nr2 cr2, .slice ar3 nr3 cr3] (U.bk 7 rfl) 0 ?_
        refine tlr 117 [.slice aq39 nq39 cq39, .int .u64 0, .slice aq40 nq40 cq40] (U.bk 4 rfl) 0 ?_
        refine tc 118 20 #[pg g0, .int .u64 16, .agg #[.int .u64 0, .int .u64 nn, .slice ar0 nr0 cr0, .bool false, .int .u64 0, .bool false, .int .u64 (0 + (cnt : Int) + (cnt2 : Int) + 1), .slice ar1 nr1 cr1, .slice ar2 nr2 cr2, .slice ar3 nr3 cr3], .agg #[.slice aq39 nq39 cq39, .int .u64 0, .slice aq40 nq40 cq40]] (ClmE.cast (c' := 0) (V' := (zv * (S1 + S2) / U36)) (claim_fs (la := 0 + (cnt : Int) + (cnt2 : Int)) U.sx Fr (U.nq 14 rfl) (by omega) (by simp) (by omega) (by simp) (by omega) (by omega)) (rfl) (by rw [aft_nil, cmV_nil (by omega), y2, y0]; congr 2; omega)) ?_
        rintro _ v175 ⟨aq174, nq174, cq174, zq174, rfl, S, C, Q, mq174, h⟩
        refine ⟨_, rfl, ?_⟩
        have L := U.lt
        replace U := (U.ask S C).add L Q h
        clear L S C Q h
        refine t 114 (.tuple #[.agg #[.slice aq174 nq174 cq174], .int .i64 0]) ?_
        refine t 119 (.agg #[.slice aq174 nq174 cq174]) ?_
        refine t 120 (.int .i64 0) ?_
        refine ta 24 [.slice none 0 0] 32 (pg) ?_
        intro v176 g177 Xg177 hg177 B
        replace U := U.new Xg177 hg177 B
        clear Xg177 hg177 B
        refine ts (U.bk 0 rfl) 0 (.agg #[.slice aq174 nq174 cq174]) [.slice aq174 nq174 cq174] [.slice aq174 nq174 cq174] ?_
        intro v178 Y C
        replace U := U.put 0 rfl C Y (by decide)
        clear Y C
        refine t 25 (.int .i64 0) ?_
        refine gl_nil ?_
        refine ge_then ?_
        refine gc_seq ?_
        refine gc_reg ?_
        refine t 122 (pg g0) ?_
        refine tlr 123 [.int .u64 0, .int .u64 nn, .slice ar0 nr0 cr0, .bool false, .int .u64 0, .bool false, .int .u64 (0 + (cnt : Int) + (cnt2 : Int) + 1), .slice ar1 nr1 cr1, .slice ar2 nr2 cr2, .slice ar3 nr3 cr3] (U.bk 8 rfl) 0 ?_
        refine tlr 124 [.slice a0c k0c c0c, .int .u64 0, .slice a1c k1c c1c] (U.bk 4 rfl) 0 ?_
        refine tc 125 20 #[pg g0, .int .u64 16, .agg #[.int .u64 0, .int .u64 nn, .slice ar0 nr0 cr0, .bool false, .int .u64 0, .bool false, .int .u64 (0 + (cnt : Int) + (cnt2 : Int) + 1), .slice ar1 nr1 cr1, .slice ar2 nr2 cr2, .slice ar3 nr3 cr3], .agg #[.slice a0c k0c c0c, .int .u64 0, .slice a1c k1c c1c]] (ClmE.cast (c' := 0) (V' := ((zv + zv) * (S1 + S2) / U36)) (claim_fs (la := 0 + (cnt : Int) + (cnt2 : Int)) U.sx Fr (U.nq 14 rfl) (by omega) (by simp) (by omega) (by simp) (by omega) (by omega)) (rfl) (by rw [aft_nil, cmV_nil (by omega), y2, y0]; congr 2; omega)) ?_
        rintro _ v180 ⟨aq179, nq179, cq179, zq179, rfl, S, C, Q, mq179, h⟩
        refine ⟨_, rfl, ?_⟩
        have L := U.lt
        replace U := (U.ask S C).add L Q h
        clear L S C Q h
        refine t 121 (.tuple #[.agg #[.slice aq179 nq179 cq179], .int .i64 0]) ?_
        refine t 126 (.agg #[.slice aq179 nq179 cq179]) ?_
        refine t 127 (.int .i64 0) ?_
        refine ta 26 [.slice none 0 0] 32 (pg) ?_
        intro v181 g182 Xg182 hg182 B
        replace U := U.new Xg182 hg182 B
        clear Xg182 hg182 B
        refine ts (U.bk 0 rfl) 0 (.agg #[.slice aq179 nq179 cq179]) [.slice aq179 nq179 cq179] [.slice aq179 nq179 cq179] ?_
        intro v183 Y C
        replace U := U.put 0 rfl C Y (by decide)
        clear Y C
        refine t 27 (.int .i64 0) ?_
        refine gl_nil ?_
        refine ge_then ?_
        refine gc_fr [(4, .bool ct), (12, pg g0), (13, pg g17), (19, pg g96), (20, pg g101), (22, pg g172), (24, pg g177), (25, .int .i64 0), (26, pg g182)] (by kernel_rfl) ?_
        refine gc_seq ?_
        refine gc_reg ?_
        refine t 129 (pg g0) ?_
        refine tlr 130 [.int .u64 0, .int .u64 nn, .slice ar0 nr0 cr0, .bool false, .int .u64 0, .bool false, .int .u64 (0 + (cnt : Int) + (cnt2 : Int) + 1), .slice ar1 nr1 cr1, .slice ar2 nr2 cr2, .slice ar3 nr3 cr3] (U.bk 9 rfl) 0 ?_
        refine tlr 131 [.slice aq89 nq89 cq89, .int .u64 (0 + (cnt : Int)), .slice aq90 nq90 cq90] (U.bk 4 rfl) 0 ?_
        refine tc 132 20 #[pg g0, .int .u64 16, .agg #[.int .u64 0, .int .u64 nn, .slice ar0 nr0 cr0, .bool false, .int .u64 0, .bool false, .int .u64 (0 + (cnt : Int) + (cnt2 : Int) + 1), .slice ar1 nr1 cr1, .slice ar2 nr2 cr2, .slice ar3 nr3 cr3], .agg #[.slice aq89 nq89 cq89, .int .u64 (0 + (cnt : Int)), .slice aq90 nq90 cq90]] (ClmE.cast (c' := 0) (V' := (zv * S2 / U36)) (claim_fs (la := 0 + (cnt : Int) + (cnt2 : Int)) U.sx Fr (U.nq 8 rfl) (by omega) (by simp) (by omega) (by simp) (by omega) (by omega)) (rfl) (by rw [aft_nil, cmV_nil (by omega), y2, y1]; congr 2; omega)) ?_
        rintro _ v185 ⟨aq184, nq184, cq184, zq184, rfl, S, C, Q, mq184, h⟩
        refine ⟨_, rfl, ?_⟩
        have L := U.lt
        replace U := (U.ask S C).add L Q h
        clear L S C Q h
        refine t 128 (.tuple #[.agg #[.slice aq184 nq184 cq184], .int .i64 0]) ?_
        refine t 133 (.agg #[.slice aq184 nq184 cq184]) ?_
        refine t 134 (.int .i64 0) ?_
        refine ta 28 [.slice none 0 0] 32 (pg) ?_
        intro v186 g187 Xg187 hg187 B
        replace U := U.new Xg187 hg187 B
        clear Xg187 hg187 B
        refine ts (U.bk 0 rfl) 0 (.agg #[.slice aq184 nq184 cq184]) [.slice aq184 nq184 cq184] [.slice aq184 nq184 cq184] ?_
        intro v188 Y C
        replace U := U.put 0 rfl C Y (by decide)
        clear Y C
        refine t 29 (.int .i64 0) ?_
        refine gl_nil ?_
        refine ge_then ?_
        refine gc_seq ?_
        refine gc_seq ?_
        refine gc_reg ?_
        refine tq 135 (.bool ct) (.bool false) (congrArg Value.bool b103) ?_
        refine t 136 (.bool false) ?_
        refine tn 137 ?_
        refine tn 138 ?_
        refine tn 139 ?_
        refine tn 140 ?_
        refine tn 141 ?_
        refine tn 142 ?_
        refine tn 143 ?_
        refine tn 144 ?_
        refine tn 145 ?_
        refine tn 146 ?_
        refine tn 147 ?_
        refine tn 148 ?_
        refine tn 149 ?_
        refine t 150 (.bool false) ?_
        refine gl_nil ?_
        refine ge_then ?_
        refine gc_fr [(22, pg g172), (24, pg g177), (26, pg g182), (28, pg g187), (150, .bool false)] (by kernel_rfl) ?_
        refine gc_no ?_
        refine gc_skip ?_
        refine ge_then ?_
        refine gc_seq ?_
        replace U := U.drew
        refine gc_draw (fun w' => Blk w' g172 [.slice aq169 nq169 cq169] 32 ∧ Blk w' g177 [.slice aq174 nq174 cq174] 32 ∧ Blk w' g182 [.slice aq179 nq179 cq179] 32 ∧ Blk w' g187 [.slice aq184 nq184 cq184] 32) (fun _ => false) ⟨(U.bk 3 rfl), (U.bk 2 rfl), (U.bk 1 rfl), (U.bk 0 rfl)⟩ ?_
        refine zlr 0 151 [.slice aq169 nq169 cq169] (fun _ h => h.1) 0 ?_
        refine zlr 1 152 [.slice aq174 nq174 cq174] (fun _ h => h.2.1) 0 ?_
        have hc189 : (zv * (S1 + S2) / U36) = (zv * (S1 + S2) / U36) := by rfl
        refine zc 2 153 28 #[.agg #[.slice aq169 nq169 cq169], .agg #[.slice aq174 nq174 cq174]] (dCmpEq (U.nq 3 rfl).nat (U.nq 2 rfl).nat (by omega) (by omega) hc189) ?_
        rintro _ v191 ⟨rfl, B⟩
        replace U := U.keep B
        clear B
        refine ⟨_, rfl, ⟨(U.bk 3 rfl), (U.bk 2 rfl), (U.bk 1 rfl), (U.bk 0 rfl)⟩, ?_⟩
        refine z 3 154 (.bool true) ?_
        refine z 4 155 (.bool true) ?_
        refine zlr 5 156 [.slice aq179 nq179 cq179] (fun _ h => h.2.2.1) 0 ?_
        refine zlr 6 157 [.slice aq169 nq169 cq169] (fun _ h => h.1) 0 ?_
        refine zlr 7 158 [.slice aq174 nq174 cq174] (fun _ h => h.2.1) 0 ?_
        refine zc 8 159 27 #[.agg #[.slice aq169 nq169 cq169], .agg #[.slice aq174 nq174 cq174]] (eAdd (U.nq 3 rfl).nat (by omega) (U.nq 2 rfl).nat (by omega)) ?_
        rintro _ v193 ⟨aq192, nq192, cq192, zq192, rfl, M, h, mq192, B⟩
        replace U := U.num M h B
        clear M h B
        refine ⟨_, rfl, ⟨(U.bk 3 rfl), (U.bk 2 rfl), (U.bk 1 rfl), (U.bk 0 rfl)⟩, ?_⟩
        have hc194 : (zv * (S1 + S2) / U36) + (zv * (S1 + S2) / U36) ≤ ((zv + zv) * (S1 + S2) / U36) := by exact al_ge _ _
        refine zc 9 160 28 #[.agg #[.slice aq179 nq179 cq179], .agg #[.slice aq192 nq192 cq192]] (dCmpGe (U.nq 2 rfl).nat (U.nq 0 rfl).nat (by omega) (by omega) hc194) ?_
        rintro _ v196 ⟨r195, rfl, hr195, B⟩
        replace U := U.keep B
        clear B
        refine ⟨_, rfl, ⟨(U.bk 3 rfl), (U.bk 2 rfl), (U.bk 1 rfl), (U.bk 0 rfl)⟩, ?_⟩
        have t197 : (0 : Int) ≤ r195 := by omega
        refine zq 10 161 (.bool (decide ((0 : Int) ≤ r195))) (.bool true) (congrArg Value.bool (decide_eq_true t197)) ?_
        refine z 11 162 (.bool true) ?_
        refine z 12 163 (.bool true) ?_
        refine zlr 13 164 [.slice aq184 nq184 cq184] (fun _ h => h.2.2.2) 0 ?_
        refine zlr 14 165 [.slice aq169 nq169 cq169] (fun _ h => h.1) 0 ?_
        have hc198 : (zv * S2 / U36) ≤ (zv * (S1 + S2) / U36) := by exact al_le hz0 sb1.1
        refine zc 15 166 28 #[.agg #[.slice aq184 nq184 cq184], .agg #[.slice aq169 nq169 cq169]] (dCmpLe (U.nq 1 rfl).nat (U.nq 4 rfl).nat (by omega) (by omega) hc198) ?_
        rintro _ v200 ⟨r199, rfl, hr199, B⟩
        replace U := U.keep B
        clear B
        refine ⟨_, rfl, ⟨(U.bk 3 rfl), (U.bk 2 rfl), (U.bk 1 rfl), (U.bk 0 rfl)⟩, ?_⟩
        have t201 : (r199 : Int) ≤ 0 := by omega
        refine zq 16 167 (.bool (decide ((r199 : Int) ≤ 0))) (.bool true) (congrArg Value.bool (decide_eq_true t201)) ?_
        refine z 17 168 (.bool true) ?_
        refine z 18 10 (.bool true) ?_
        refine gz_done ?_
        refine ge_then ?_
        refine gc_fr [(10, .bool true)] (by kernel_rfl) ?_
        refine gc_ret ?_
        refine ge_ret (.bool true) (rs1 10 (by kernel_rfl) (by kernel_rfl)) ?_
        exact ⟨rfl, U.bb⟩
end Fo
namespace f1Alike
open Go.RowKit Go.Lib Lim Fo
theorem walk (y0 y1 : Int) (a2 : Option Addr) (len2 cap2 : Nat) (a3 : Option Addr) (len3 cap3 : Nat) (y4 : Bool) (w : World) (wy0 : (Lit.int .u64 y0).wf = true) (wy1 : (Lit.int .u64 y1).wf = true) (w2 : DecsIn w a2 len2 cap2) (w3 : DecsIn w a3 len3 cap3) :
    Calls Tryz.prog 7 #[.int .u64 y0, .int .u64 y1, .slice a2 len2 cap2, .slice a3 len3 cap3, .bool y4] w fun e w' => e = .returned (.bool true) ∧ Below w.heap.size w w' := by
  obtain ⟨b, o, aa, ns, cc, xs, DA⟩ := w2.open
  obtain ⟨b2, o2, aa2, ns2, cc2, xs2, DB⟩ := w3.open
  exact f1Alike_walk (u64r wy0) (u64r wy1) DA DB
end f1Alike
end Go.Proofs.YthfepflplbahkaaGreatDoor
