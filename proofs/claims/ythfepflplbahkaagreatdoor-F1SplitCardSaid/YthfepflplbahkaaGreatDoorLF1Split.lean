/- gleanlaw13.F1Split. -/
import Derived.Test.YthfepflplbahkaaGreatDoorJa
namespace Go.Proofs.YthfepflplbahkaaGreatDoor
namespace Fo
open Go.RowKit Go.Lib Pg Lim Gl Kv Bk Pw
attribute [local go_sem] Oper.semAt_some
set_option maxRecDepth 100000
set_option linter.unusedVariables false
set_option linter.unusedSimpArgs false
set_option maxHeartbeats 4000000
theorem f1Split_walk {w : World} {tok part : Int} {ao : Option Addr} {cnt cp pb po : Nat} {aa : Nat → Option Addr} {ns cc : Nat → Nat} {xs : Nat → Int} {ao2 : Option Addr} {cnt2 cp2 pb2 po2 : Nat} {aa2 : Nat → Option Addr} {ns2 cc2 : Nat → Nat} {ys : Nat → Int} (htok : 0 ≤ tok ∧ tok < 18446744073709551616) (hpart : 0 ≤ part ∧ part < 18446744073709551616) (DA : DecsA w ao cnt pb po aa ns cc xs) (DB : DecsA w ao2 cnt2 pb2 po2 aa2 ns2 cc2 ys) : Calls Tryz.prog 6 #[.int .u64 tok, .int .u64 part, .slice ao cnt cp, .slice ao2 cnt2 cp2] w fun e w' => e = .returned (.bool true) ∧ Below w.heap.size w w' := by
  obtain ⟨nn, hnn⟩ : ∃ nn : Int, nn = 1 + tok % 1000000000000000000 := ⟨_, rfl⟩
  have hn1 : 1 ≤ nn ∧ nn ≤ 1000000000000000000 := by omega
  obtain ⟨pp, hpp⟩ : ∃ pp : Int, pp = 1 + part % 97 := ⟨_, rfl⟩
  have hp1 : 1 ≤ pp ∧ pp ≤ 97 := by omega
  obtain ⟨zv, hzv⟩ : ∃ zv : Int, zv = nn * U36 * pp / 100 := ⟨_, rfl⟩
  have hz0 : 0 ≤ zv := by rw [hzv]; exact Int.ediv_nonneg (Int.mul_nonneg (Int.mul_nonneg (by omega) (by decide)) (by omega)) (by decide)
  obtain ⟨S1, hS1⟩ : ∃ S1, S1 = sQ nn xs cnt := ⟨_, rfl⟩
  obtain ⟨S2, hS2⟩ : ∃ S2, S2 = sQ nn ys cnt2 := ⟨_, rfl⟩
  have BB := Below.refl w.heap.size w
  refine gc_enter (n := 115) Tryz.func6 rfl (by kernel_rfl) (by kernel_rfl) ?_
  refine gc_seq ?_
  refine gc_reg ?_
  refine t 8 (.bool false) ?_
  refine gl_nil ?_
  refine ge_then ?_
  refine gc_seq ?_
  refine gc_seq ?_
  refine gc_reg ?_
  refine tc 23 8 #[] (known13) ?_
  rintro _ v1 ⟨rfl, B⟩
  refine ⟨_, rfl, ?_⟩
  replace BB := joinB BB B
  clear B
  refine t 24 (.bool false) ?_
  refine gl_nil ?_
  refine ge_then ?_
  refine gc_no ?_
  refine gc_skip ?_
  refine ge_then ?_
  refine gc_seq ?_
  refine gc_seq ?_
  refine gc_reg ?_
  refine t 25 (.slice ao cnt cp) ?_
  refine tc 26 29 #[.slice ao cnt cp] (short_any (DA.keep BB)) ?_
  rintro _ v3 ⟨b2, rfl, hb2, B⟩
  refine ⟨_, rfl, ?_⟩
  replace BB := joinB BB B
  clear B
  cases b2
  · skip
    refine t 27 (.bool true) ?_
    refine t 28 (.bool true) ?_
    refine tn 29 ?_
    refine tn 30 ?_
    refine tn 31 ?_
    refine t 32 (.bool true) ?_
    refine gl_nil ?_
    refine ge_then ?_
    refine gc_fr [(0, .int .u64 tok), (1, .int .u64 part), (2, .slice ao cnt cp), (3, .slice ao2 cnt2 cp2), (8, .bool false), (32, .bool true)] (by kernel_rfl) ?_
    refine gc_yes ?_
    refine gc_seq ?_
    refine gc_reg ?_
    refine t 8 (.bool true) ?_
    refine gl_nil ?_
    refine ge_then ?_
    refine gc_ret ?_
    refine ge_tr ?_
    refine ge_ret (.bool true) (rs1 8 (by kernel_rfl) (by kernel_rfl)) ?_
    exact ⟨rfl, BB⟩
  · have hs1 := hb2 rfl
    refine t 27 (.bool false) ?_
    refine t 28 (.bool false) ?_
    refine t 29 (.slice ao2 cnt2 cp2) ?_
    refine tc 30 29 #[.slice ao2 cnt2 cp2] (short_any (DB.keep BB)) ?_
    rintro _ v5 ⟨b4, rfl, hb4, B⟩
    refine ⟨_, rfl, ?_⟩
    replace BB := joinB BB B
    clear B
    cases b4
    · skip
      refine t 31 (.bool true) ?_
      refine t 32 (.bool true) ?_
      refine gl_nil ?_
      refine ge_then ?_
      refine gc_fr [(0, .int .u64 tok), (1, .int .u64 part), (2, .slice ao cnt cp), (3, .slice ao2 cnt2 cp2), (8, .bool false), (32, .bool true)] (by kernel_rfl) ?_
      refine gc_yes ?_
      refine gc_seq ?_
      refine gc_reg ?_
      refine t 8 (.bool true) ?_
      refine gl_nil ?_
      refine ge_then ?_
      refine gc_ret ?_
      refine ge_tr ?_
      refine ge_ret (.bool true) (rs1 8 (by kernel_rfl) (by kernel_rfl)) ?_
      exact ⟨rfl, BB⟩
    · have hs2 := hb4 rfl
      refine t 31 (.bool false) ?_
      refine t 32 (.bool false) ?_
      refine gl_nil ?_
      refine ge_then ?_
      refine gc_fr [(0, .int .u64 tok), (1, .int .u64 part), (2, .slice ao cnt cp), (3, .slice ao2 cnt2 cp2), (8, .bool false), (32, .bool false)] (by kernel_rfl) ?_
      refine gc_no ?_
      refine gc_skip ?_
      refine ge_then ?_
      refine gc_seq ?_
      refine gc_reg ?_
      refine t 33 (.int .u64 tok) ?_
      refine tr 34 (.int .u64 (tok % 1000000000000000000)) (run_remu tok 1000000000000000000 htok ⟨by decide, by decide⟩) ?_
      refine tq 35 (.int .u64 (IntKind.u64.wrap (1 + tok % 1000000000000000000))) (.int .u64 nn) (congrArg (Value.int .u64) (by rw [IntKind.wrap_u64]; omega)) ?_
      refine t 9 (.int .u64 nn) ?_
      refine gl_nil ?_
      refine ge_then ?_
      refine gc_seq ?_
      refine gc_reg ?_
      obtain ⟨Bz, hBz⟩ : ∃ Bz, Bz = (v5).heap.size := ⟨_, rfl⟩
      have hwB : w.heap.size ≤ Bz := by rw [hBz]; exact BB.size
      refine tc 36 16 #[] (snewF Bz hBz) ?_
      rintro _ v6 ⟨g0, K0, rfl, S0, hK0, B0⟩
      refine ⟨_, rfl, ?_⟩
      replace BB := joinB BB B0
      clear B0
      have A : Al Bz _ K0 g0 [] [] 0 0 := ⟨S0⟩
      clear S0 hK0
      refine t 10 (pg g0) ?_
      refine gl_nil ?_
      refine ge_then ?_
      refine gc_seq ?_
      refine gc_reg ?_
      refine t 37 (pg g0) ?_
      refine t 38 (.int .u64 nn) ?_
      refine t 39 (.int .u64 nn) ?_
      refine tc 40 18 #[.int .u64 nn] (eOf (y := nn) ⟨by omega, by omega⟩) ?_
      rintro _ v8 ⟨aq7, nq7, cq7, zq7, rfl, Mq7, hq7, mq7, B⟩
      refine ⟨_, rfl, ?_⟩
      
      have Qq7 := nq_of A.sx Mq7 hq7
      clear Mq7 hq7
      replace BB := joinB BB B
      replace A := A.keep B
      clear B
      refine t 41 (.agg #[.int .u64 0, .int .u64 nn, .slice aq7 nq7 cq7, .bool false, .int .u64 0, .bool false, .int .u64 0, .slice none 0 0, .slice none 0 0, .slice none 0 0]) ?_
      have F0 := fs_start (id := 16) (by decide)
      refine tc 42 17 #[pg g0, .int .u64 16, .agg #[.int .u64 0, .int .u64 nn, .slice aq7 nq7 cq7, .bool false, .int .u64 0, .bool false, .int .u64 0, .slice none 0 0, .slice none 0 0, .slice none 0 0]] (start_any A.sx (id := 16) ⟨by decide, by decide⟩ Qq7.nk (by omega) (nq_nil _ _).nk (by omega) (nq_nil _ _).nk (by omega) (nq_nil _ _).nk (by omega) (by omega) (by omega)) ?_
      rintro _ v15 ⟨aq9, nq9, cq9, zq9, aq10, nq10, cq10, zq10, aq11, nq11, cq11, zq11, K12, n13, N14, rfl, S, qn13, qN14, hK, hC, Qq9, mq9, hq9, Qq10, mq10, hq10, Qq11, mq11, hq11⟩
      refine ⟨_, rfl, ?_⟩
      
      
      
      clear hq9 hq10 hq11
      replace BB := belowO BB hC (fun b hb => Nat.le_trans hwB (A.sx.kb b hb))
      replace Qq7 := Qq7.op hK hC
      replace A : Al _ _ _ _ _ _ _ _ := ⟨S⟩
      clear S hK hC
      refine ta 11 [.int .u64 0, .int .u64 0, .slice none 0 0, .bool false, .int .u64 0, .bool false, .int .u64 0, .slice none 0 0, .slice none 0 0, .slice none 0 0] 39 (pg) ?_
      intro v16 g17 Xg17 hg17 B
      have yg17 := Nat.le_trans BB.size hg17
      have nXg17 := A.new hg17
      have eQq7g17 : Ap _ _ _ := ne1 Qq7.lt hg17
      have eQq9g17 : Ap _ _ _ := ne1 Qq9.lt hg17
      have eQq10g17 : Ap _ _ _ := ne1 Qq10.lt hg17
      have eQq11g17 : Ap _ _ _ := ne1 Qq11.lt hg17
      replace BB := joinB BB B
      replace A := A.keep B
      replace Qq7 := Qq7.keep B
      replace Qq9 := Qq9.keep B
      replace Qq10 := Qq10.keep B
      replace Qq11 := Qq11.keep B
      clear B
      refine ts Xg17 0 (.agg #[.int .u64 0, .int .u64 nn, .slice aq9 nq9 cq9, .bool false, .int .u64 0, .bool false, .int .u64 (0 + 1), .slice none 0 0, .slice aq10 nq10 cq10, .slice aq11 nq11 cq11]) [.int .u64 0, .int .u64 nn, .slice aq9 nq9 cq9, .bool false, .int .u64 0, .bool false, .int .u64 (0 + 1), .slice none 0 0, .slice aq10 nq10 cq10, .slice aq11 nq11 cq11] [.int .u64 0, .int .u64 nn, .slice aq9 nq9 cq9, .bool false, .int .u64 0, .bool false, .int .u64 (0 + 1), .slice none 0 0, .slice aq10 nq10 cq10, .slice aq11 nq11 cq11] ?_
      intro v18 Y C
      replace BB := belowC BB C yg17
      replace A := A.cell Xg17 C nXg17 (by decide)
      replace Qq7 := Qq7.cell C eQq7g17
      replace Qq9 := Qq9.cell C eQq9g17
      replace Qq10 := Qq10.cell C eQq10g17
      replace Qq11 := Qq11.cell C eQq11g17
      clear C Xg17
      have Xg17 := Y
      clear Y
      refine gl_nil ?_
      refine ge_then ?_
      clear Qq7
      refine gc_fr [(1, .int .u64 part), (2, .slice ao cnt cp), (3, .slice ao2 cnt2 cp2), (8, .bool false), (9, .int .u64 nn), (10, pg g0), (11, pg g17)] (by kernel_rfl) ?_
      refine gc_seq ?_
      refine gc_reg ?_
      refine t 44 (.int .u64 nn) ?_
      refine tc 45 18 #[.int .u64 nn] (eOf (y := nn) ⟨by omega, by omega⟩) ?_
      rintro _ v20 ⟨aq19, nq19, cq19, zq19, rfl, Mq19, hq19, mq19, B⟩
      refine ⟨_, rfl, ?_⟩
      have eQq19g17 : Ap _ _ _ := ne2 hq19 Xg17.lt
      have Qq19 := nq_of A.sx Mq19 hq19
      clear Mq19 hq19
      replace BB := joinB BB B
      replace A := A.keep B
      replace Qq9 := Qq9.keep B
      replace Qq10 := Qq10.keep B
      replace Qq11 := Qq11.keep B
      replace Xg17 := Xg17.keep B
      clear B
      refine t 46 (.int .u64 part) ?_
      refine tr 47 (.int .u64 (part % 97)) (run_remu part 97 hpart ⟨by decide, by decide⟩) ?_
      refine tq 48 (.int .u64 (IntKind.u64.wrap (1 + part % 97))) (.int .u64 pp) (congrArg (Value.int .u64) (by rw [IntKind.wrap_u64]; omega)) ?_
      refine tc 49 31 #[.agg #[.slice aq19 nq19 cq19], .int .u64 pp] (eTimes Qq19.nat (by omega) ⟨by omega, by omega⟩) ?_
      rintro _ v22 ⟨aq21, nq21, cq21, zq21, rfl, Mq21, hq21, mq21, B⟩
      refine ⟨_, rfl, ?_⟩
      have eQq21g17 : Ap _ _ _ := ne2 hq21 Xg17.lt
      have Qq21 := nq_of A.sx Mq21 hq21
      clear Mq21 hq21
      replace BB := joinB BB B
      replace A := A.keep B
      replace Qq9 := Qq9.keep B
      replace Qq10 := Qq10.keep B
      replace Qq11 := Qq11.keep B
      replace Xg17 := Xg17.keep B
      replace Qq19 := Qq19.keep B
      clear B
      refine tc 50 30 #[.agg #[.slice aq21 nq21 cq21], .int .u64 100] (eOver (y := 100) Qq21.nat (by omega) ⟨by decide, by decide⟩) ?_
      rintro _ v24 ⟨aq23, nq23, cq23, zq23, rfl, Mq23, hq23, mq23, B⟩
      refine ⟨_, rfl, ?_⟩
      have eQq23g17 : Ap _ _ _ := ne2 hq23 Xg17.lt
      have Qq23 := nq_of A.sx Mq23 hq23
      clear Mq23 hq23
      replace BB := joinB BB B
      replace A := A.keep B
      replace Qq9 := Qq9.keep B
      replace Qq10 := Qq10.keep B
      replace Qq11 := Qq11.keep B
      replace Xg17 := Xg17.keep B
      replace Qq19 := Qq19.keep B
      replace Qq21 := Qq21.keep B
      clear B
      replace Qq23 := Qq23.eqv hzv.symm
      refine t 43 (.tuple #[.agg #[.slice aq23 nq23 cq23], .int .i64 (dvZ 100)]) ?_
      refine t 51 (.agg #[.slice aq23 nq23 cq23]) ?_
      refine t 52 (.int .i64 (dvZ 100)) ?_
      have lXg17 := Xg17.lt
      refine ta 12 [.slice none 0 0] 32 (pg) ?_
      intro v25 g26 Xg26 hg26 B
      have yg26 := Nat.le_trans BB.size hg26
      have nXg26 := A.new hg26
      have eQq9g26 : Ap _ _ _ := ne1 Qq9.lt hg26
      have eQq10g26 : Ap _ _ _ := ne1 Qq10.lt hg26
      have eQq11g26 : Ap _ _ _ := ne1 Qq11.lt hg26
      have eQq19g26 : Ap _ _ _ := ne1 Qq19.lt hg26
      have eQq21g26 : Ap _ _ _ := ne1 Qq21.lt hg26
      have eQq23g26 : Ap _ _ _ := ne1 Qq23.lt hg26
      replace BB := joinB BB B
      replace A := A.keep B
      replace Qq9 := Qq9.keep B
      replace Qq10 := Qq10.keep B
      replace Qq11 := Qq11.keep B
      replace Xg17 := Xg17.keep B
      replace Qq19 := Qq19.keep B
      replace Qq21 := Qq21.keep B
      replace Qq23 := Qq23.keep B
      clear B
      refine ts Xg26 0 (.agg #[.slice aq23 nq23 cq23]) [.slice aq23 nq23 cq23] [.slice aq23 nq23 cq23] ?_
      intro v27 Y C
      replace BB := belowC BB C yg26
      replace A := A.cell Xg26 C nXg26 (by decide)
      replace Qq9 := Qq9.cell C eQq9g26
      replace Qq10 := Qq10.cell C eQq10g26
      replace Qq11 := Qq11.cell C eQq11g26
      replace Xg17 := Xg17.chg C (show g17 ≠ g26 by omega)
      replace Qq19 := Qq19.cell C eQq19g26
      replace Qq21 := Qq21.cell C eQq21g26
      replace Qq23 := Qq23.cell C eQq23g26
      clear C Xg26
      have Xg26 := Y
      clear Y
      refine t 13 (.int .i64 (dvZ 100)) ?_
      refine gl_nil ?_
      refine ge_then ?_
      clear Qq19
      clear Qq21
      refine gc_fr [(2, .slice ao cnt cp), (3, .slice ao2 cnt2 cp2), (8, .bool false), (10, pg g0), (11, pg g17), (12, pg g26)] (by kernel_rfl) ?_
      refine gc_seq ?_
      refine gc_reg ?_
      refine t 53 (pg g0) ?_
      refine tlr 54 [.int .u64 0, .int .u64 nn, .slice aq9 nq9 cq9, .bool false, .int .u64 0, .bool false, .int .u64 (0 + 1), .slice none 0 0, .slice aq10 nq10 cq10, .slice aq11 nq11 cq11] Xg17 0 ?_
      refine tlr 55 [.slice aq23 nq23 cq23] Xg26 0 ?_
      refine t 56 (.agg #[.slice aq23 nq23 cq23, .int .u64 0, .slice none 0 0]) ?_
      have F28 := F0.hold (by simp; try omega)
      refine tc 57 19 #[pg g0, .int .u64 16, .agg #[.int .u64 0, .int .u64 nn, .slice aq9 nq9 cq9, .bool false, .int .u64 0, .bool false, .int .u64 (0 + 1), .slice none 0 0, .slice aq10 nq10 cq10, .slice aq11 nq11 cq11], .agg #[.slice aq23 nq23 cq23, .int .u64 0, .slice none 0 0]] (HoE.cast (E' := (referE (referE [] 16 0) 16 0)) (p := 0) (xs := zv) (hold_any A.sx (id := 16) ⟨by decide, by decide⟩ ⟨by omega, by omega⟩ Qq9.nk (by omega) (nq_nil _ _).nk (by omega) Qq10.nk (by omega) Qq11.nk (by omega) Qq23.nk (by omega) (nq_nil _ _).nk (by omega) (by omega) (by omega)) (by omega) rfl (Int.mul_ediv_cancel _ (by unfold U36; omega))) ?_
      rintro _ v34 ⟨aq29, nq29, cq29, zq29, aq30, nq30, cq30, zq30, K31, n32, N33, rfl, S, qn32, qN33, hK, hC, Qq29, mq29, hq29, Qq30, mq30, hq30⟩
      refine ⟨_, rfl, ?_⟩
      have eQq29g17 : Ap _ _ _ := ne2 hq29 Xg17.lt
      have eQq29g26 : Ap _ _ _ := ne2 hq29 Xg26.lt
      have eQq30g17 : Ap _ _ _ := ne2 hq30 Xg17.lt
      have eQq30g26 : Ap _ _ _ := ne2 hq30 Xg26.lt
      clear hq29 hq30
      replace BB := belowO BB hC (fun b hb => Nat.le_trans hwB (A.sx.kb b hb))
      replace Qq9 := Qq9.op hK hC
      replace Qq10 := Qq10.op hK hC
      replace Qq11 := Qq11.op hK hC
      have mXg17 := not_opF Xg17 nXg17 hK
      replace Xg17 := Xg17.chg hC nXg17
      replace nXg17 := mXg17
      clear mXg17
      replace Qq23 := Qq23.op hK hC
      have mXg26 := not_opF Xg26 nXg26 hK
      replace Xg26 := Xg26.chg hC nXg26
      replace nXg26 := mXg26
      clear mXg26
      replace A : Al _ _ _ _ _ _ _ _ := ⟨S⟩
      clear S hK hC
      have lXg17 := Xg17.lt
      have lXg26 := Xg26.lt
      refine ta 14 [.slice none 0 0, .int .u64 0, .slice none 0 0] 54 (pg) ?_
      intro v35 g36 Xg36 hg36 B
      have yg36 := Nat.le_trans BB.size hg36
      have nXg36 := A.new hg36
      have eQq9g36 : Ap _ _ _ := ne1 Qq9.lt hg36
      have eQq10g36 : Ap _ _ _ := ne1 Qq10.lt hg36
      have eQq11g36 : Ap _ _ _ := ne1 Qq11.lt hg36
      have eQq23g36 : Ap _ _ _ := ne1 Qq23.lt hg36
      have eQq29g36 : Ap _ _ _ := ne1 Qq29.lt hg36
      have eQq30g36 : Ap _ _ _ := ne1 Qq30.lt hg36
      replace BB := joinB BB B
      replace A := A.keep B
      replace Qq9 := Qq9.keep B
      replace Qq10 := Qq10.keep B
      replace Qq11 := Qq11.keep B
      replace Xg17 := Xg17.keep B
      replace Qq23 := Qq23.keep B
      replace Xg26 := Xg26.keep B
      replace Qq29 := Qq29.keep B
      replace Qq30 := Qq30.keep B
      clear B
      refine ts Xg36 0 (.agg #[.slice aq29 nq29 cq29, .int .u64 0, .slice aq30 nq30 cq30]) [.slice aq29 nq29 cq29, .int .u64 0, .slice aq30 nq30 cq30] [.slice aq29 nq29 cq29, .int .u64 0, .slice aq30 nq30 cq30] ?_
      intro v37 Y C
      replace BB := belowC BB C yg36
      replace A := A.cell Xg36 C nXg36 (by decide)
      replace Qq9 := Qq9.cell C eQq9g36
      replace Qq10 := Qq10.cell C eQq10g36
      replace Qq11 := Qq11.cell C eQq11g36
      replace Xg17 := Xg17.chg C (show g17 ≠ g36 by omega)
      replace Qq23 := Qq23.cell C eQq23g36
      replace Xg26 := Xg26.chg C (show g26 ≠ g36 by omega)
      replace Qq29 := Qq29.cell C eQq29g36
      replace Qq30 := Qq30.cell C eQq30g36
      clear C Xg36
      have Xg36 := Y
      clear Y
      refine gl_nil ?_
      refine ge_then ?_
      refine gc_seq ?_
      refine gc_reg ?_
      refine t 58 (pg g0) ?_
      refine tlr 59 [.int .u64 0, .int .u64 nn, .slice aq9 nq9 cq9, .bool false, .int .u64 0, .bool false, .int .u64 (0 + 1), .slice none 0 0, .slice aq10 nq10 cq10, .slice aq11 nq11 cq11] Xg17 0 ?_
      refine tlr 60 [.slice aq23 nq23 cq23] Xg26 0 ?_
      refine t 61 (.agg #[.slice aq23 nq23 cq23, .int .u64 0, .slice none 0 0]) ?_
      have F38 := F28.hold (by simp; try omega)
      refine tc 62 19 #[pg g0, .int .u64 16, .agg #[.int .u64 0, .int .u64 nn, .slice aq9 nq9 cq9, .bool false, .int .u64 0, .bool false, .int .u64 (0 + 1), .slice none 0 0, .slice aq10 nq10 cq10, .slice aq11 nq11 cq11], .agg #[.slice aq23 nq23 cq23, .int .u64 0, .slice none 0 0]] (HoE.cast (E' := (referE (referE (referE [] 16 0) 16 0) 16 0)) (p := 0) (xs := zv) (hold_any A.sx (id := 16) ⟨by decide, by decide⟩ ⟨by omega, by omega⟩ Qq9.nk (by omega) (nq_nil _ _).nk (by omega) Qq10.nk (by omega) Qq11.nk (by omega) Qq23.nk (by omega) (nq_nil _ _).nk (by omega) (by omega) (by omega)) (by omega) rfl (Int.mul_ediv_cancel _ (by unfold U36; omega))) ?_
      rintro _ v44 ⟨aq39, nq39, cq39, zq39, aq40, nq40, cq40, zq40, K41, n42, N43, rfl, S, qn42, qN43, hK, hC, Qq39, mq39, hq39, Qq40, mq40, hq40⟩
      refine ⟨_, rfl, ?_⟩
      have eQq39g17 : Ap _ _ _ := ne2 hq39 Xg17.lt
      have eQq39g26 : Ap _ _ _ := ne2 hq39 Xg26.lt
      have eQq39g36 : Ap _ _ _ := ne2 hq39 Xg36.lt
      have eQq40g17 : Ap _ _ _ := ne2 hq40 Xg17.lt
      have eQq40g26 : Ap _ _ _ := ne2 hq40 Xg26.lt
      have eQq40g36 : Ap _ _ _ := ne2 hq40 Xg36.lt
      clear hq39 hq40
      replace BB := belowO BB hC (fun b hb => Nat.le_trans hwB (A.sx.kb b hb))
      replace Qq9 := Qq9.op hK hC
      replace Qq10 := Qq10.op hK hC
      replace Qq11 := Qq11.op hK hC
      have mXg17 := not_opF Xg17 nXg17 hK
      replace Xg17 := Xg17.chg hC nXg17
      replace nXg17 := mXg17
      clear mXg17
      replace Qq23 := Qq23.op hK hC
      have mXg26 := not_opF Xg26 nXg26 hK
      replace Xg26 := Xg26.chg hC nXg26
      replace nXg26 := mXg26
      clear mXg26
      replace Qq29 := Qq29.op hK hC
      replace Qq30 := Qq30.op hK hC
      have mXg36 := not_opF Xg36 nXg36 hK
      replace Xg36 := Xg36.chg hC nXg36
      replace nXg36 := mXg36
      clear mXg36
      replace A : Al _ _ _ _ _ _ _ _ := ⟨S⟩
      clear S hK hC
      have lXg17 := Xg17.lt
      have lXg26 := Xg26.lt
      have lXg36 := Xg36.lt
      refine ta 15 [.slice none 0 0, .int .u64 0, .slice none 0 0] 54 (pg) ?_
      intro v45 g46 Xg46 hg46 B
      have yg46 := Nat.le_trans BB.size hg46
      have nXg46 := A.new hg46
      have eQq9g46 : Ap _ _ _ := ne1 Qq9.lt hg46
      have eQq10g46 : Ap _ _ _ := ne1 Qq10.lt hg46
      have eQq11g46 : Ap _ _ _ := ne1 Qq11.lt hg46
      have eQq23g46 : Ap _ _ _ := ne1 Qq23.lt hg46
      have eQq29g46 : Ap _ _ _ := ne1 Qq29.lt hg46
      have eQq30g46 : Ap _ _ _ := ne1 Qq30.lt hg46
      have eQq39g46 : Ap _ _ _ := ne1 Qq39.lt hg46
      have eQq40g46 : Ap _ _ _ := ne1 Qq40.lt hg46
      replace BB := joinB BB B
      replace A := A.keep B
      replace Qq9 := Qq9.keep B
      replace Qq10 := Qq10.keep B
      replace Qq11 := Qq11.keep B
      replace Xg17 := Xg17.keep B
      replace Qq23 := Qq23.keep B
      replace Xg26 := Xg26.keep B
      replace Qq29 := Qq29.keep B
      replace Qq30 := Qq30.keep B
      replace Xg36 := Xg36.keep B
      replace Qq39 := Qq39.keep B
      replace Qq40 := Qq40.keep B
      clear B
      refine ts Xg46 0 (.agg #[.slice aq39 nq39 cq39, .int .u64 0, .slice aq40 nq40 cq40]) [.slice aq39 nq39 cq39, .int .u64 0, .slice aq40 nq40 cq40] [.slice aq39 nq39 cq39, .int .u64 0, .slice aq40 nq40 cq40] ?_
      intro v47 Y C
      replace BB := belowC BB C yg46
      replace A := A.cell Xg46 C nXg46 (by decide)
      replace Qq9 := Qq9.cell C eQq9g46
      replace Qq10 := Qq10.cell C eQq10g46
      replace Qq11 := Qq11.cell C eQq11g46
      replace Xg17 := Xg17.chg C (show g17 ≠ g46 by omega)
      replace Qq23 := Qq23.cell C eQq23g46
      replace Xg26 := Xg26.chg C (show g26 ≠ g46 by omega)
      replace Qq29 := Qq29.cell C eQq29g46
      replace Qq30 := Qq30.cell C eQq30g46
      replace Xg36 := Xg36.chg C (show g36 ≠ g46 by omega)
      replace Qq39 := Qq39.cell C eQq39g46
      replace Qq40 := Qq40.cell C eQq40g46
      clear C Xg46
      have Xg46 := Y
      clear Y
      refine gl_nil ?_
      refine ge_then ?_
      clear Xg26
      clear Qq23
      refine gc_fr [(2, .slice ao cnt cp), (3, .slice ao2 cnt2 cp2), (8, .bool false), (10, pg g0), (11, pg g17), (14, pg g36), (15, pg g46)] (by kernel_rfl) ?_
      refine gc_seq ?_
      refine gc_reg ?_
      refine t 63 (pg g0) ?_
      refine tlr 64 [.int .u64 0, .int .u64 nn, .slice aq9 nq9 cq9, .bool false, .int .u64 0, .bool false, .int .u64 (0 + 1), .slice none 0 0, .slice aq10 nq10 cq10, .slice aq11 nq11 cq11] Xg17 0 ?_
      refine t 65 (.slice ao cnt cp) ?_
      obtain ⟨pbu, zzu, Du⟩ := DA.k hs1 BB (fun b hb => Nat.le_trans hwB (A.sx.kb b hb)) (x := g17) nXg17
      have hsmu := DA.sm hs1
      have fewu := hs1.1
      refine tc 66 32 #[pg g0, .agg #[.int .u64 0, .int .u64 nn, .slice aq9 nq9 cq9, .bool false, .int .u64 0, .bool false, .int .u64 (0 + 1), .slice none 0 0, .slice aq10 nq10 cq10, .slice aq11 nq11 cq11], .slice ao cnt cp] (pay_any (la := 0) A.sx F38 ⟨by omega, by omega⟩ Qq9 (by omega) (nq_nil _ _) (by omega) Qq10 (by omega) Qq11 (by omega) Du hsmu (by omega) (by show (0 : Int) ≤ _; decide) (by omega) (by omega)) ?_
      rintro _ v51 ⟨au0, nu0, cu0, zu0, au1, nu1, cu1, zu1, au2, nu2, cu2, zu2, au3, nu3, cu3, zu3, K48, n49, N50, Eu, Ru, rfl, S, qn49, qN50, hK, hC, ⟨Qu0, mu0, fu0⟩, ⟨Qu1, mu1, fu1⟩, ⟨Qu2, mu2, fu2⟩, ⟨Qu3, mu3, fu3⟩, Fu, hsu, rlu⟩
      refine ⟨_, rfl, ?_⟩
      have eQu0g17 : Ap _ _ _ := ne5 fu0 Xg17.lt eQq9g17
      have eQu0g36 : Ap _ _ _ := ne5 fu0 Xg36.lt eQq9g36
      have eQu0g46 : Ap _ _ _ := ne5 fu0 Xg46.lt eQq9g46
      have eQu1g17 : Ap _ _ _ := ne5 fu1 Xg17.lt (.inl rfl)
      have eQu1g36 : Ap _ _ _ := ne5 fu1 Xg36.lt (.inl rfl)
      have eQu1g46 : Ap _ _ _ := ne5 fu1 Xg46.lt (.inl rfl)
      have eQu2g17 : Ap _ _ _ := ne5 fu2 Xg17.lt eQq10g17
      have eQu2g36 : Ap _ _ _ := ne5 fu2 Xg36.lt eQq10g36
      have eQu2g46 : Ap _ _ _ := ne5 fu2 Xg46.lt eQq10g46
      have eQu3g17 : Ap _ _ _ := ne5 fu3 Xg17.lt eQq11g17
      have eQu3g36 : Ap _ _ _ := ne5 fu3 Xg36.lt eQq11g36
      have eQu3g46 : Ap _ _ _ := ne5 fu3 Xg46.lt eQq11g46
      clear fu0 fu1 fu2 fu3
      replace BB := belowO BB hC (fun b hb => Nat.le_trans hwB (A.sx.kb b hb))
      replace Qq9 := Qq9.op hK hC
      replace Qq10 := Qq10.op hK hC
      replace Qq11 := Qq11.op hK hC
      have mXg17 := not_opF Xg17 nXg17 hK
      replace Xg17 := Xg17.chg hC nXg17
      replace nXg17 := mXg17
      clear mXg17
      replace Qq29 := Qq29.op hK hC
      replace Qq30 := Qq30.op hK hC
      have mXg36 := not_opF Xg36 nXg36 hK
      replace Xg36 := Xg36.chg hC nXg36
      replace nXg36 := mXg36
      clear mXg36
      replace Qq39 := Qq39.op hK hC
      replace Qq40 := Qq40.op hK hC
      have mXg46 := not_opF Xg46 nXg46 hK
      replace Xg46 := Xg46.chg hC nXg46
      replace nXg46 := mXg46
      clear mXg46
      replace A : Al _ _ _ _ _ _ _ _ := ⟨S⟩
      clear S hK hC
      have sb1 := sQ_le (n := nn) (by omega) hsmu cnt (Nat.le_refl _)
      rw [← hS1] at rlu sb1
      have z1 : Ru 0 = 0 := hsu 0 (Int.le_refl _)
      have b9 : (cnt : Int) * 18446744073709551616 ^ 4 ≤ 20 * 18446744073709551616 ^ 4 := Int.mul_le_mul_of_nonneg_right (by omega) (by decide)
      have hR1 : Ru (0 + (cnt : Int)) ≤ 400000 * 18446744073709551616 ^ 4 := by omega
      refine ts Xg17 0 (.agg #[.int .u64 0, .int .u64 nn, .slice au0 nu0 cu0, .bool false, .int .u64 0, .bool false, .int .u64 (0 + (cnt : Int) + 1), .slice au1 nu1 cu1, .slice au2 nu2 cu2, .slice au3 nu3 cu3]) [.int .u64 0, .int .u64 nn, .slice au0 nu0 cu0, .bool false, .int .u64 0, .bool false, .int .u64 (0 + (cnt : Int) + 1), .slice au1 nu1 cu1, .slice au2 nu2 cu2, .slice au3 nu3 cu3] [.int .u64 0, .int .u64 nn, .slice au0 nu0 cu0, .bool false, .int .u64 0, .bool false, .int .u64 (0 + (cnt : Int) + 1), .slice au1 nu1 cu1, .slice au2 nu2 cu2, .slice au3 nu3 cu3] ?_
      intro v52 Y C
      replace BB := belowC BB C yg17
      replace A := A.cell Xg17 C nXg17 (by decide)
      replace Qq9 := Qq9.cell C eQq9g17
      replace Qq10 := Qq10.cell C eQq10g17
      replace Qq11 := Qq11.cell C eQq11g17
      replace Qq29 := Qq29.cell C eQq29g17
      replace Qq30 := Qq30.cell C eQq30g17
      replace Xg36 := Xg36.chg C (show g36 ≠ g17 by omega)
      replace Qq39 := Qq39.cell C eQq39g17
      replace Qq40 := Qq40.cell C eQq40g17
      replace Xg46 := Xg46.chg C (show g46 ≠ g17 by omega)
      replace Qu0 := Qu0.cell C eQu0g17
      replace Qu1 := Qu1.cell C eQu1g17
      replace Qu2 := Qu2.cell C eQu2g17
      replace Qu3 := Qu3.cell C eQu3g17
      clear C Xg17
      have Xg17 := Y
      clear Y
      refine gl_nil ?_
      refine ge_then ?_
      clear Qq9
      clear Qq10
      clear Qq11
      refine gc_seq ?_
      refine gc_reg ?_
      refine t 68 (pg g0) ?_
      refine tlr 69 [.int .u64 0, .int .u64 nn, .slice au0 nu0 cu0, .bool false, .int .u64 0, .bool false, .int .u64 (0 + (cnt : Int) + 1), .slice au1 nu1 cu1, .slice au2 nu2 cu2, .slice au3 nu3 cu3] Xg17 0 ?_
      refine tlr 70 [.slice aq39 nq39 cq39, .int .u64 0, .slice aq40 nq40 cq40] Xg46 0 ?_
      refine tc 71 20 #[pg g0, .int .u64 16, .agg #[.int .u64 0, .int .u64 nn, .slice au0 nu0 cu0, .bool false, .int .u64 0, .bool false, .int .u64 (0 + (cnt : Int) + 1), .slice au1 nu1 cu1, .slice au2 nu2 cu2, .slice au3 nu3 cu3], .agg #[.slice aq39 nq39 cq39, .int .u64 0, .slice aq40 nq40 cq40]] (ClmE.cast (c' := 0) (V' := (zv * S1 / U36)) (claim_fs (la := 0 + (cnt : Int)) A.sx Fu Qq40 (by omega) (by simp) (by omega) (by simp) (by omega) (by omega)) (rfl) (by rw [aft_nil, cmV_nil (by omega), rlu, z1]; congr 2; omega)) ?_
      rintro _ v54 ⟨aq53, nq53, cq53, zq53, rfl, S, C, Qq53, mq53, hq53⟩
      refine ⟨_, rfl, ?_⟩
      have eQq53g17 : Ap _ _ _ := ne2 hq53 Xg17.lt
      have eQq53g36 : Ap _ _ _ := ne2 hq53 Xg36.lt
      have eQq53g46 : Ap _ _ _ := ne2 hq53 Xg46.lt
      clear hq53
      have hC := C.mono (fun b _ (e : b = g0) => e ▸ A.sx.sa.top)
      replace BB := belowO BB hC (fun b hb => Nat.le_trans hwB (A.sx.kb b hb))
      have mXg17 := not_opF Xg17 nXg17 (fun _ h => .inl h)
      replace Xg17 := Xg17.chg hC nXg17
      replace nXg17 := mXg17
      clear mXg17
      replace Qq29 := Qq29.op (fun _ h => .inl h) hC
      replace Qq30 := Qq30.op (fun _ h => .inl h) hC
      have mXg36 := not_opF Xg36 nXg36 (fun _ h => .inl h)
      replace Xg36 := Xg36.chg hC nXg36
      replace nXg36 := mXg36
      clear mXg36
      replace Qq39 := Qq39.op (fun _ h => .inl h) hC
      replace Qq40 := Qq40.op (fun _ h => .inl h) hC
      have mXg46 := not_opF Xg46 nXg46 (fun _ h => .inl h)
      replace Xg46 := Xg46.chg hC nXg46
      replace nXg46 := mXg46
      clear mXg46
      replace Qu0 := Qu0.op (fun _ h => .inl h) hC
      replace Qu1 := Qu1.op (fun _ h => .inl h) hC
      replace Qu2 := Qu2.op (fun _ h => .inl h) hC
      replace Qu3 := Qu3.op (fun _ h => .inl h) hC
      replace A : Al _ _ _ _ _ _ _ _ := ⟨S⟩
      clear S hC C
      refine t 67 (.tuple #[.agg #[.slice aq53 nq53 cq53], .int .i64 0]) ?_
      refine t 72 (.agg #[.slice aq53 nq53 cq53]) ?_
      refine t 73 (.int .i64 0) ?_
      have lXg17 := Xg17.lt
      have lXg36 := Xg36.lt
      have lXg46 := Xg46.lt
      refine ta 16 [.slice none 0 0] 32 (pg) ?_
      intro v55 g56 Xg56 hg56 B
      have yg56 := Nat.le_trans BB.size hg56
      have nXg56 := A.new hg56
      have eQq29g56 : Ap _ _ _ := ne1 Qq29.lt hg56
      have eQq30g56 : Ap _ _ _ := ne1 Qq30.lt hg56
      have eQq39g56 : Ap _ _ _ := ne1 Qq39.lt hg56
      have eQq40g56 : Ap _ _ _ := ne1 Qq40.lt hg56
      have eQu0g56 : Ap _ _ _ := ne1 Qu0.lt hg56
      have eQu1g56 : Ap _ _ _ := ne1 Qu1.lt hg56
      have eQu2g56 : Ap _ _ _ := ne1 Qu2.lt hg56
      have eQu3g56 : Ap _ _ _ := ne1 Qu3.lt hg56
      have eQq53g56 : Ap _ _ _ := ne1 Qq53.lt hg56
      replace BB := joinB BB B
      replace A := A.keep B
      replace Xg17 := Xg17.keep B
      replace Qq29 := Qq29.keep B
      replace Qq30 := Qq30.keep B
      replace Xg36 := Xg36.keep B
      replace Qq39 := Qq39.keep B
      replace Qq40 := Qq40.keep B
      replace Xg46 := Xg46.keep B
      replace Qu0 := Qu0.keep B
      replace Qu1 := Qu1.keep B
      replace Qu2 := Qu2.keep B
      replace Qu3 := Qu3.keep B
      replace Qq53 := Qq53.keep B
      clear B
      refine ts Xg56 0 (.agg #[.slice aq53 nq53 cq53]) [.slice aq53 nq53 cq53] [.slice aq53 nq53 cq53] ?_
      intro v57 Y C
      replace BB := belowC BB C yg56
      replace A := A.cell Xg56 C nXg56 (by decide)
      replace Xg17 := Xg17.chg C (show g17 ≠ g56 by omega)
      replace Qq29 := Qq29.cell C eQq29g56
      replace Qq30 := Qq30.cell C eQq30g56
      replace Xg36 := Xg36.chg C (show g36 ≠ g56 by omega)
      replace Qq39 := Qq39.cell C eQq39g56
      replace Qq40 := Qq40.cell C eQq40g56
      replace Xg46 := Xg46.chg C (show g46 ≠ g56 by omega)
      replace Qu0 := Qu0.cell C eQu0g56
      replace Qu1 := Qu1.cell C eQu1g56
      replace Qu2 := Qu2.cell C eQu2g56
      replace Qu3 := Qu3.cell C eQu3g56
      replace Qq53 := Qq53.cell C eQq53g56
      clear C Xg56
      have Xg56 := Y
      clear Y
      refine t 17 (.int .i64 0) ?_
      refine gl_nil ?_
      refine ge_then ?_
      refine gc_fr [(3, .slice ao2 cnt2 cp2), (8, .bool false), (10, pg g0), (11, pg g17), (14, pg g36), (15, pg g46), (16, pg g56)] (by kernel_rfl) ?_
      refine gc_seq ?_
      refine gc_reg ?_
      refine t 74 (pg g0) ?_
      refine tlr 75 [.slice aq39 nq39 cq39, .int .u64 0, .slice aq40 nq40 cq40] Xg46 0 ?_
      have F58 : Fs (letE Eu 16 0) 16 (0 + (cnt : Int)) Ru [0] [] := by simpa using Fu.free (p := 0) (by simp)
      refine tc 76 33 #[pg g0, .int .u64 16, .agg #[.slice aq39 nq39 cq39, .int .u64 0, .slice aq40 nq40 cq40]] (free_any A.sx (id := 16) ⟨by decide, by decide⟩ Qq39.nk (by omega) Qq40.nk (by omega) (by omega) (by omega)) ?_
      rintro _ v62 ⟨rfl, K59, n60, N61, S, qn60, qN61, hK, hC⟩
      refine ⟨_, rfl, ?_⟩
      replace BB := belowO BB hC (fun b hb => Nat.le_trans hwB (A.sx.kb b hb))
      have mXg17 := not_opF Xg17 nXg17 hK
      replace Xg17 := Xg17.chg hC nXg17
      replace nXg17 := mXg17
      clear mXg17
      replace Qq29 := Qq29.op hK hC
      replace Qq30 := Qq30.op hK hC
      have mXg36 := not_opF Xg36 nXg36 hK
      replace Xg36 := Xg36.chg hC nXg36
      replace nXg36 := mXg36
      clear mXg36
      replace Qq39 := Qq39.op hK hC
      replace Qq40 := Qq40.op hK hC
      have mXg46 := not_opF Xg46 nXg46 hK
      replace Xg46 := Xg46.chg hC nXg46
      replace nXg46 := mXg46
      clear mXg46
      replace Qu0 := Qu0.op hK hC
      replace Qu1 := Qu1.op hK hC
      replace Qu2 := Qu2.op hK hC
      replace Qu3 := Qu3.op hK hC
      replace Qq53 := Qq53.op hK hC
      have mXg56 := not_opF Xg56 nXg56 hK
      replace Xg56 := Xg56.chg hC nXg56
      replace nXg56 := mXg56
      clear mXg56
      replace A : Al _ _ _ _ _ _ _ _ := ⟨S⟩
      clear S hK hC
      refine gl_nil ?_
      refine ge_then ?_
      refine gc_seq ?_
      refine gc_reg ?_
      refine t 77 (pg g0) ?_
      refine tlr 78 [.int .u64 0, .int .u64 nn, .slice au0 nu0 cu0, .bool false, .int .u64 0, .bool false, .int .u64 (0 + (cnt : Int) + 1), .slice au1 nu1 cu1, .slice au2 nu2 cu2, .slice au3 nu3 cu3] Xg17 0 ?_
      refine tlr 79 [.slice aq39 nq39 cq39, .int .u64 0, .slice aq40 nq40 cq40] Xg46 0 ?_
      have F63 := F58.hold (by simp; try omega)
      refine tc 80 19 #[pg g0, .int .u64 16, .agg #[.int .u64 0, .int .u64 nn, .slice au0 nu0 cu0, .bool false, .int .u64 0, .bool false, .int .u64 (0 + (cnt : Int) + 1), .slice au1 nu1 cu1, .slice au2 nu2 cu2, .slice au3 nu3 cu3], .agg #[.slice aq39 nq39 cq39, .int .u64 0, .slice aq40 nq40 cq40]] (HoE.cast (E' := (referE (letE Eu 16 0) 16 (0 + (cnt : Int)))) (p := 0 + (cnt : Int)) (xs := zv) (hold_any A.sx (id := 16) ⟨by decide, by decide⟩ ⟨by omega, by omega⟩ Qu0.nk (by omega) Qu1.nk (by omega) Qu2.nk (by omega) Qu3.nk (by omega) Qq39.nk (by omega) Qq40.nk (by omega) (by omega) (by omega)) (by omega) rfl (Int.mul_ediv_cancel _ (by unfold U36; omega))) ?_
      rintro _ v69 ⟨aq64, nq64, cq64, zq64, aq65, nq65, cq65, zq65, K66, n67, N68, rfl, S, qn67, qN68, hK, hC, Qq64, mq64, hq64, Qq65, mq65, hq65⟩
      refine ⟨_, rfl, ?_⟩
      have eQq64g17 : Ap _ _ _ := ne2 hq64 Xg17.lt
      have eQq64g36 : Ap _ _ _ := ne2 hq64 Xg36.lt
      have eQq64g46 : Ap _ _ _ := ne2 hq64 Xg46.lt
      have eQq64g56 : Ap _ _ _ := ne2 hq64 Xg56.lt
      have eQq65g17 : Ap _ _ _ := ne2 hq65 Xg17.lt
      have eQq65g36 : Ap _ _ _ := ne2 hq65 Xg36.lt
      have eQq65g46 : Ap _ _ _ := ne2 hq65 Xg46.lt
      have eQq65g56 : Ap _ _ _ := ne2 hq65 Xg56.lt
      clear hq64 hq65
      replace BB := belowO BB hC (fun b hb => Nat.le_trans hwB (A.sx.kb b hb))
      have mXg17 := not_opF Xg17 nXg17 hK
      replace Xg17 := Xg17.chg hC nXg17
      replace nXg17 := mXg17
      clear mXg17
      replace Qq29 := Qq29.op hK hC
      replace Qq30 := Qq30.op hK hC
      have mXg36 := not_opF Xg36 nXg36 hK
      replace Xg36 := Xg36.chg hC nXg36
      replace nXg36 := mXg36
      clear mXg36
      replace Qq39 := Qq39.op hK hC
      replace Qq40 := Qq40.op hK hC
      have mXg46 := not_opF Xg46 nXg46 hK
      replace Xg46 := Xg46.chg hC nXg46
      replace nXg46 := mXg46
      clear mXg46
      replace Qu0 := Qu0.op hK hC
      replace Qu1 := Qu1.op hK hC
      replace Qu2 := Qu2.op hK hC
      replace Qu3 := Qu3.op hK hC
      replace Qq53 := Qq53.op hK hC
      have mXg56 := not_opF Xg56 nXg56 hK
      replace Xg56 := Xg56.chg hC nXg56
      replace nXg56 := mXg56
      clear mXg56
      replace A : Al _ _ _ _ _ _ _ _ := ⟨S⟩
      clear S hK hC
      refine ts Xg46 0 (.agg #[.slice aq64 nq64 cq64, .int .u64 (0 + (cnt : Int)), .slice aq65 nq65 cq65]) [.slice aq64 nq64 cq64, .int .u64 (0 + (cnt : Int)), .slice aq65 nq65 cq65] [.slice aq64 nq64 cq64, .int .u64 (0 + (cnt : Int)), .slice aq65 nq65 cq65] ?_
      intro v70 Y C
      replace BB := belowC BB C yg46
      replace A := A.cell Xg46 C nXg46 (by decide)
      replace Xg17 := Xg17.chg C (show g17 ≠ g46 by omega)
      replace Qq29 := Qq29.cell C eQq29g46
      replace Qq30 := Qq30.cell C eQq30g46
      replace Xg36 := Xg36.chg C (show g36 ≠ g46 by omega)
      replace Qq39 := Qq39.cell C eQq39g46
      replace Qq40 := Qq40.cell C eQq40g46
      replace Qu0 := Qu0.cell C eQu0g46
      replace Qu1 := Qu1.cell C eQu1g46
      replace Qu2 := Qu2.cell C eQu2g46
      replace Qu3 := Qu3.cell C eQu3g46
      replace Qq53 := Qq53.cell C eQq53g46
      replace Xg56 := Xg56.chg C (show g56 ≠ g46 by omega)
      replace Qq64 := Qq64.cell C eQq64g46
      replace Qq65 := Qq65.cell C eQq65g46
      clear C Xg46
      have Xg46 := Y
      clear Y
      refine gl_nil ?_
      refine ge_then ?_
      clear Qq39
      clear Qq40
      refine gc_seq ?_
      refine gc_reg ?_
      refine t 81 (pg g0) ?_
      refine tlr 82 [.int .u64 0, .int .u64 nn, .slice au0 nu0 cu0, .bool false, .int .u64 0, .bool false, .int .u64 (0 + (cnt : Int) + 1), .slice au1 nu1 cu1, .slice au2 nu2 cu2, .slice au3 nu3 cu3] Xg17 0 ?_
      refine t 83 (.slice ao2 cnt2 cp2) ?_
      obtain ⟨pbr, zzr, Dr⟩ := DB.k hs2 BB (fun b hb => Nat.le_trans hwB (A.sx.kb b hb)) (x := g17) nXg17
      have hsmr := DB.sm hs2
      have fewr := hs2.1
      refine tc 84 32 #[pg g0, .agg #[.int .u64 0, .int .u64 nn, .slice au0 nu0 cu0, .bool false, .int .u64 0, .bool false, .int .u64 (0 + (cnt : Int) + 1), .slice au1 nu1 cu1, .slice au2 nu2 cu2, .slice au3 nu3 cu3], .slice ao2 cnt2 cp2] (pay_any (la := 0 + (cnt : Int)) A.sx F63 ⟨by omega, by omega⟩ Qu0 (by omega) Qu1 (by omega) Qu2 (by omega) Qu3 (by omega) Dr hsmr (by omega) hR1 (by omega) (by omega)) ?_
      rintro _ v74 ⟨ar0, nr0, cr0, zr0, ar1, nr1, cr1, zr1, ar2, nr2, cr2, zr2, ar3, nr3, cr3, zr3, K71, n72, N73, Er, Rr, rfl, S, qn72, qN73, hK, hC, ⟨Qr0, mr0, fr0⟩, ⟨Qr1, mr1, fr1⟩, ⟨Qr2, mr2, fr2⟩, ⟨Qr3, mr3, fr3⟩, Fr, hsr, rlr⟩
      refine ⟨_, rfl, ?_⟩
      have eQr0g17 : Ap _ _ _ := ne5 fr0 Xg17.lt eQu0g17
      have eQr0g36 : Ap _ _ _ := ne5 fr0 Xg36.lt eQu0g36
      have eQr0g46 : Ap _ _ _ := ne5 fr0 Xg46.lt eQu0g46
      have eQr0g56 : Ap _ _ _ := ne5 fr0 Xg56.lt eQu0g56
      have eQr1g17 : Ap _ _ _ := ne5 fr1 Xg17.lt eQu1g17
      have eQr1g36 : Ap _ _ _ := ne5 fr1 Xg36.lt eQu1g36
      have eQr1g46 : Ap _ _ _ := ne5 fr1 Xg46.lt eQu1g46
      have eQr1g56 : Ap _ _ _ := ne5 fr1 Xg56.lt eQu1g56
      have eQr2g17 : Ap _ _ _ := ne5 fr2 Xg17.lt eQu2g17
      have eQr2g36 : Ap _ _ _ := ne5 fr2 Xg36.lt eQu2g36
      have eQr2g46 : Ap _ _ _ := ne5 fr2 Xg46.lt eQu2g46
      have eQr2g56 : Ap _ _ _ := ne5 fr2 Xg56.lt eQu2g56
      have eQr3g17 : Ap _ _ _ := ne5 fr3 Xg17.lt eQu3g17
      have eQr3g36 : Ap _ _ _ := ne5 fr3 Xg36.lt eQu3g36
      have eQr3g46 : Ap _ _ _ := ne5 fr3 Xg46.lt eQu3g46
      have eQr3g56 : Ap _ _ _ := ne5 fr3 Xg56.lt eQu3g56
      clear fr0 fr1 fr2 fr3
      replace BB := belowO BB hC (fun b hb => Nat.le_trans hwB (A.sx.kb b hb))
      have mXg17 := not_opF Xg17 nXg17 hK
      replace Xg17 := Xg17.chg hC nXg17
      replace nXg17 := mXg17
      clear mXg17
      replace Qq29 := Qq29.op hK hC
      replace Qq30 := Qq30.op hK hC
      have mXg36 := not_opF Xg36 nXg36 hK
      replace Xg36 := Xg36.chg hC nXg36
      replace nXg36 := mXg36
      clear mXg36
      have mXg46 := not_opF Xg46 nXg46 hK
      replace Xg46 := Xg46.chg hC nXg46
      replace nXg46 := mXg46
      clear mXg46
      replace Qu0 := Qu0.op hK hC
      replace Qu1 := Qu1.op hK hC
      replace Qu2 := Qu2.op hK hC
      replace Qu3 := Qu3.op hK hC
      replace Qq53 := Qq53.op hK hC
      have mXg56 := not_opF Xg56 nXg56 hK
      replace Xg56 := Xg56.chg hC nXg56
      replace nXg56 := mXg56
      clear mXg56
      replace Qq64 := Qq64.op hK hC
      replace Qq65 := Qq65.op hK hC
      replace A : Al _ _ _ _ _ _ _ _ := ⟨S⟩
      clear S hK hC
      have sb2 := sQ_le (n := nn) (by omega) hsmr cnt2 (Nat.le_refl _)
      rw [← hS2] at rlr sb2
      have y0 : Rr 0 = 0 := (hsr 0 (by omega)).trans z1
      have y1 : Rr (0 + (cnt : Int)) = S1 := (hsr _ (Int.le_refl _)).trans (by omega)
      have y2 : Rr (0 + (cnt : Int) + (cnt2 : Int)) = S1 + S2 := by omega
      refine ts Xg17 0 (.agg #[.int .u64 0, .int .u64 nn, .slice ar0 nr0 cr0, .bool false, .int .u64 0, .bool false, .int .u64 (0 + (cnt : Int) + (cnt2 : Int) + 1), .slice ar1 nr1 cr1, .slice ar2 nr2 cr2, .slice ar3 nr3 cr3]) [.int .u64 0, .int .u64 nn, .slice ar0 nr0 cr0, .bool false, .int .u64 0, .bool false, .int .u64 (0 + (cnt : Int) + (cnt2 : Int) + 1), .slice ar1 nr1 cr1, .slice ar2 nr2 cr2, .slice ar3 nr3 cr3] [.int .u64 0, .int .u64 nn, .slice ar0 nr0 cr0, .bool false, .int .u64 0, .bool false, .int .u64 (0 + (cnt : Int) + (cnt2 : Int) + 1), .slice ar1 nr1 cr1, .slice ar2 nr2 cr2, .slice ar3 nr3 cr3] ?_
      intro v75 Y C
      replace BB := belowC BB C yg17
      replace A := A.cell Xg17 C nXg17 (by decide)
      replace Qq29 := Qq29.cell C eQq29g17
      replace Qq30 := Qq30.cell C eQq30g17
      replace Xg36 := Xg36.chg C (show g36 ≠ g17 by omega)
      replace Xg46 := Xg46.chg C (show g46 ≠ g17 by omega)
      replace Qu0 := Qu0.cell C eQu0g17
      replace Qu1 := Qu1.cell C eQu1g17
      replace Qu2 := Qu2.cell C eQu2g17
      replace Qu3 := Qu3.cell C eQu3g17
      replace Qq53 := Qq53.cell C eQq53g17
      replace Xg56 := Xg56.chg C (show g56 ≠ g17 by omega)
      replace Qq64 := Qq64.cell C eQq64g17
      replace Qq65 := Qq65.cell C eQq65g17
      replace Qr0 := Qr0.cell C eQr0g17
      replace Qr1 := Qr1.cell C eQr1g17
      replace Qr2 := Qr2.cell C eQr2g17
      replace Qr3 := Qr3.cell C eQr3g17
      clear C Xg17
      have Xg17 := Y
      clear Y
      refine gl_nil ?_
      refine ge_then ?_
      clear Qu0
      clear Qu1
      clear Qu2
      clear Qu3
      refine gc_seq ?_
      refine gc_reg ?_
      refine t 86 (pg g0) ?_
      refine tlr 87 [.int .u64 0, .int .u64 nn, .slice ar0 nr0 cr0, .bool false, .int .u64 0, .bool false, .int .u64 (0 + (cnt : Int) + (cnt2 : Int) + 1), .slice ar1 nr1 cr1, .slice ar2 nr2 cr2, .slice ar3 nr3 cr3] Xg17 0 ?_
      refine tlr 88 [.slice aq64 nq64 cq64, .int .u64 (0 + (cnt : Int)), .slice aq65 nq65 cq65] Xg46 0 ?_
      refine tc 89 20 #[pg g0, .int .u64 16, .agg #[.int .u64 0, .int .u64 nn, .slice ar0 nr0 cr0, .bool false, .int .u64 0, .bool false, .int .u64 (0 + (cnt : Int) + (cnt2 : Int) + 1), .slice ar1 nr1 cr1, .slice ar2 nr2 cr2, .slice ar3 nr3 cr3], .agg #[.slice aq64 nq64 cq64, .int .u64 (0 + (cnt : Int)), .slice aq65 nq65 cq65]] (ClmE.cast (c' := 0) (V' := (zv * S2 / U36)) (claim_fs (la := 0 + (cnt : Int) + (cnt2 : Int)) A.sx Fr Qq65 (by omega) (by simp) (by omega) (by simp) (by omega) (by omega)) (rfl) (by rw [aft_nil, cmV_nil (by omega), y1, y2]; congr 2; omega)) ?_
      rintro _ v77 ⟨aq76, nq76, cq76, zq76, rfl, S, C, Qq76, mq76, hq76⟩
      refine ⟨_, rfl, ?_⟩
      have eQq76g17 : Ap _ _ _ := ne2 hq76 Xg17.lt
      have eQq76g36 : Ap _ _ _ := ne2 hq76 Xg36.lt
      have eQq76g46 : Ap _ _ _ := ne2 hq76 Xg46.lt
      have eQq76g56 : Ap _ _ _ := ne2 hq76 Xg56.lt
      clear hq76
      have hC := C.mono (fun b _ (e : b = g0) => e ▸ A.sx.sa.top)
      replace BB := belowO BB hC (fun b hb => Nat.le_trans hwB (A.sx.kb b hb))
      have mXg17 := not_opF Xg17 nXg17 (fun _ h => .inl h)
      replace Xg17 := Xg17.chg hC nXg17
      replace nXg17 := mXg17
      clear mXg17
      replace Qq29 := Qq29.op (fun _ h => .inl h) hC
      replace Qq30 := Qq30.op (fun _ h => .inl h) hC
      have mXg36 := not_opF Xg36 nXg36 (fun _ h => .inl h)
      replace Xg36 := Xg36.chg hC nXg36
      replace nXg36 := mXg36
      clear mXg36
      have mXg46 := not_opF Xg46 nXg46 (fun _ h => .inl h)
      replace Xg46 := Xg46.chg hC nXg46
      replace nXg46 := mXg46
      clear mXg46
      replace Qq53 := Qq53.op (fun _ h => .inl h) hC
      have mXg56 := not_opF Xg56 nXg56 (fun _ h => .inl h)
      replace Xg56 := Xg56.chg hC nXg56
      replace nXg56 := mXg56
      clear mXg56
      replace Qq64 := Qq64.op (fun _ h => .inl h) hC
      replace Qq65 := Qq65.op (fun _ h => .inl h) hC
      replace Qr0 := Qr0.op (fun _ h => .inl h) hC
      replace Qr1 := Qr1.op (fun _ h => .inl h) hC
      replace Qr2 := Qr2.op (fun _ h => .inl h) hC
      replace Qr3 := Qr3.op (fun _ h => .inl h) hC
      replace A : Al _ _ _ _ _ _ _ _ := ⟨S⟩
      clear S hC C
      refine t 85 (.tuple #[.agg #[.slice aq76 nq76 cq76], .int .i64 0]) ?_
      refine t 90 (.agg #[.slice aq76 nq76 cq76]) ?_
      refine t 91 (.int .i64 0) ?_
      have lXg17 := Xg17.lt
      have lXg36 := Xg36.lt
      have lXg46 := Xg46.lt
      have lXg56 := Xg56.lt
      refine ta 18 [.slice none 0 0] 32 (pg) ?_
      intro v78 g79 Xg79 hg79 B
      have yg79 := Nat.le_trans BB.size hg79
      have nXg79 := A.new hg79
      have eQq29g79 : Ap _ _ _ := ne1 Qq29.lt hg79
      have eQq30g79 : Ap _ _ _ := ne1 Qq30.lt hg79
      have eQq53g79 : Ap _ _ _ := ne1 Qq53.lt hg79
      have eQq64g79 : Ap _ _ _ := ne1 Qq64.lt hg79
      have eQq65g79 : Ap _ _ _ := ne1 Qq65.lt hg79
      have eQr0g79 : Ap _ _ _ := ne1 Qr0.lt hg79
      have eQr1g79 : Ap _ _ _ := ne1 Qr1.lt hg79
      have eQr2g79 : Ap _ _ _ := ne1 Qr2.lt hg79
      have eQr3g79 : Ap _ _ _ := ne1 Qr3.lt hg79
      have eQq76g79 : Ap _ _ _ := ne1 Qq76.lt hg79
      replace BB := joinB BB B
      replace A := A.keep B
      replace Xg17 := Xg17.keep B
      replace Qq29 := Qq29.keep B
      replace Qq30 := Qq30.keep B
      replace Xg36 := Xg36.keep B
      replace Xg46 := Xg46.keep B
      replace Qq53 := Qq53.keep B
      replace Xg56 := Xg56.keep B
      replace Qq64 := Qq64.keep B
      replace Qq65 := Qq65.keep B
      replace Qr0 := Qr0.keep B
      replace Qr1 := Qr1.keep B
      replace Qr2 := Qr2.keep B
      replace Qr3 := Qr3.keep B
      replace Qq76 := Qq76.keep B
      clear B
      refine ts Xg79 0 (.agg #[.slice aq76 nq76 cq76]) [.slice aq76 nq76 cq76] [.slice aq76 nq76 cq76] ?_
      intro v80 Y C
      replace BB := belowC BB C yg79
      replace A := A.cell Xg79 C nXg79 (by decide)
      replace Xg17 := Xg17.chg C (show g17 ≠ g79 by omega)
      replace Qq29 := Qq29.cell C eQq29g79
      replace Qq30 := Qq30.cell C eQq30g79
      replace Xg36 := Xg36.chg C (show g36 ≠ g79 by omega)
      replace Xg46 := Xg46.chg C (show g46 ≠ g79 by omega)
      replace Qq53 := Qq53.cell C eQq53g79
      replace Xg56 := Xg56.chg C (show g56 ≠ g79 by omega)
      replace Qq64 := Qq64.cell C eQq64g79
      replace Qq65 := Qq65.cell C eQq65g79
      replace Qr0 := Qr0.cell C eQr0g79
      replace Qr1 := Qr1.cell C eQr1g79
      replace Qr2 := Qr2.cell C eQr2g79
      replace Qr3 := Qr3.cell C eQr3g79
      replace Qq76 := Qq76.cell C eQq76g79
      clear C Xg79
      have Xg79 := Y
      clear Y
      refine t 19 (.int .i64 0) ?_
      refine gl_nil ?_
      refine ge_then ?_
      clear Xg46
      clear Qq64
      clear Qq65
      refine gc_fr [(8, .bool false), (10, pg g0), (11, pg g17), (14, pg g36), (16, pg g56), (18, pg g79)] (by kernel_rfl) ?_
      refine gc_seq ?_
      refine gc_reg ?_
      refine t 93 (pg g0) ?_
      refine tlr 94 [.int .u64 0, .int .u64 nn, .slice ar0 nr0 cr0, .bool false, .int .u64 0, .bool false, .int .u64 (0 + (cnt : Int) + (cnt2 : Int) + 1), .slice ar1 nr1 cr1, .slice ar2 nr2 cr2, .slice ar3 nr3 cr3] Xg17 0 ?_
      refine tlr 95 [.slice aq29 nq29 cq29, .int .u64 0, .slice aq30 nq30 cq30] Xg36 0 ?_
      refine tc 96 20 #[pg g0, .int .u64 16, .agg #[.int .u64 0, .int .u64 nn, .slice ar0 nr0 cr0, .bool false, .int .u64 0, .bool false, .int .u64 (0 + (cnt : Int) + (cnt2 : Int) + 1), .slice ar1 nr1 cr1, .slice ar2 nr2 cr2, .slice ar3 nr3 cr3], .agg #[.slice aq29 nq29 cq29, .int .u64 0, .slice aq30 nq30 cq30]] (ClmE.cast (c' := 0) (V' := (zv * (S1 + S2) / U36)) (claim_fs (la := 0 + (cnt : Int) + (cnt2 : Int)) A.sx Fr Qq30 (by omega) (by simp) (by omega) (by simp) (by omega) (by omega)) (rfl) (by rw [aft_nil, cmV_nil (by omega), y0, y2]; congr 2; omega)) ?_
      rintro _ v82 ⟨aq81, nq81, cq81, zq81, rfl, S, C, Qq81, mq81, hq81⟩
      refine ⟨_, rfl, ?_⟩
      have eQq81g17 : Ap _ _ _ := ne2 hq81 Xg17.lt
      have eQq81g36 : Ap _ _ _ := ne2 hq81 Xg36.lt
      have eQq81g56 : Ap _ _ _ := ne2 hq81 Xg56.lt
      have eQq81g79 : Ap _ _ _ := ne2 hq81 Xg79.lt
      clear hq81
      have hC := C.mono (fun b _ (e : b = g0) => e ▸ A.sx.sa.top)
      replace BB := belowO BB hC (fun b hb => Nat.le_trans hwB (A.sx.kb b hb))
      have mXg17 := not_opF Xg17 nXg17 (fun _ h => .inl h)
      replace Xg17 := Xg17.chg hC nXg17
      replace nXg17 := mXg17
      clear mXg17
      replace Qq29 := Qq29.op (fun _ h => .inl h) hC
      replace Qq30 := Qq30.op (fun _ h => .inl h) hC
      have mXg36 := not_opF Xg36 nXg36 (fun _ h => .inl h)
      replace Xg36 := Xg36.chg hC nXg36
      replace nXg36 := mXg36
      clear mXg36
      replace Qq53 := Qq53.op (fun _ h => .inl h) hC
      have mXg56 := not_opF Xg56 nXg56 (fun _ h => .inl h)
      replace Xg56 := Xg56.chg hC nXg56
      replace nXg56 := mXg56
      clear mXg56
      replace Qr0 := Qr0.op (fun _ h => .inl h) hC
      replace Qr1 := Qr1.op (fun _ h => .inl h) hC
      replace Qr2 := Qr2.op (fun _ h => .inl h) hC
      replace Qr3 := Qr3.op (fun _ h => .inl h) hC
      replace Qq76 := Qq76.op (fun _ h => .inl h) hC
      have mXg79 := not_opF Xg79 nXg79 (fun _ h => .inl h)
      replace Xg79 := Xg79.chg hC nXg79
      replace nXg79 := mXg79
      clear mXg79
      replace A : Al _ _ _ _ _ _ _ _ := ⟨S⟩
      clear S hC C
      refine t 92 (.tuple #[.agg #[.slice aq81 nq81 cq81], .int .i64 0]) ?_
      refine t 97 (.agg #[.slice aq81 nq81 cq81]) ?_
      refine t 98 (.int .i64 0) ?_
      have lXg17 := Xg17.lt
      have lXg36 := Xg36.lt
      have lXg56 := Xg56.lt
      have lXg79 := Xg79.lt
      refine ta 20 [.slice none 0 0] 32 (pg) ?_
      intro v83 g84 Xg84 hg84 B
      have yg84 := Nat.le_trans BB.size hg84
      have nXg84 := A.new hg84
      have eQq29g84 : Ap _ _ _ := ne1 Qq29.lt hg84
      have eQq30g84 : Ap _ _ _ := ne1 Qq30.lt hg84
      have eQq53g84 : Ap _ _ _ := ne1 Qq53.lt hg84
      have eQr0g84 : Ap _ _ _ := ne1 Qr0.lt hg84
      have eQr1g84 : Ap _ _ _ := ne1 Qr1.lt hg84
      have eQr2g84 : Ap _ _ _ := ne1 Qr2.lt hg84
      have eQr3g84 : Ap _ _ _ := ne1 Qr3.lt hg84
      have eQq76g84 : Ap _ _ _ := ne1 Qq76.lt hg84
      have eQq81g84 : Ap _ _ _ := ne1 Qq81.lt hg84
      replace BB := joinB BB B
      replace A := A.keep B
      replace Xg17 := Xg17.keep B
      replace Qq29 := Qq29.keep B
      replace Qq30 := Qq30.keep B
      replace Xg36 := Xg36.keep B
      replace Qq53 := Qq53.keep B
      replace Xg56 := Xg56.keep B
      replace Qr0 := Qr0.keep B
      replace Qr1 := Qr1.keep B
      replace Qr2 := Qr2.keep B
      replace Qr3 := Qr3.keep B
      replace Qq76 := Qq76.keep B
      replace Xg79 := Xg79.keep B
      replace Qq81 := Qq81.keep B
      clear B
      refine ts Xg84 0 (.agg #[.slice aq81 nq81 cq81]) [.slice aq81 nq81 cq81] [.slice aq81 nq81 cq81] ?_
      intro v85 Y C
      replace BB := belowC BB C yg84
      replace A := A.cell Xg84 C nXg84 (by decide)
      replace Xg17 := Xg17.chg C (show g17 ≠ g84 by omega)
      replace Qq29 := Qq29.cell C eQq29g84
      replace Qq30 := Qq30.cell C eQq30g84
      replace Xg36 := Xg36.chg C (show g36 ≠ g84 by omega)
      replace Qq53 := Qq53.cell C eQq53g84
      replace Xg56 := Xg56.chg C (show g56 ≠ g84 by omega)
      replace Qr0 := Qr0.cell C eQr0g84
      replace Qr1 := Qr1.cell C eQr1g84
      replace Qr2 := Qr2.cell C eQr2g84
      replace Qr3 := Qr3.cell C eQr3g84
      replace Qq76 := Qq76.cell C eQq76g84
      replace Xg79 := Xg79.chg C (show g79 ≠ g84 by omega)
      replace Qq81 := Qq81.cell C eQq81g84
      clear C Xg84
      have Xg84 := Y
      clear Y
      refine t 21 (.int .i64 0) ?_
      refine gl_nil ?_
      refine ge_then ?_
      clear Xg17
      clear Xg36
      clear Qq29
      clear Qq30
      clear Qr0
      clear Qr1
      clear Qr2
      clear Qr3
      refine gc_seq ?_
      refine gc_reg ?_
      refine tlr 99 [.slice aq53 nq53 cq53] Xg56 0 ?_
      refine tlr 100 [.slice aq76 nq76 cq76] Xg79 0 ?_
      refine tc 101 27 #[.agg #[.slice aq53 nq53 cq53], .agg #[.slice aq76 nq76 cq76]] (eAdd Qq53.nat (by omega) Qq76.nat (by omega)) ?_
      rintro _ v87 ⟨aq86, nq86, cq86, zq86, rfl, Mq86, hq86, mq86, B⟩
      refine ⟨_, rfl, ?_⟩
      have eQq86g56 : Ap _ _ _ := ne2 hq86 Xg56.lt
      have eQq86g79 : Ap _ _ _ := ne2 hq86 Xg79.lt
      have eQq86g84 : Ap _ _ _ := ne2 hq86 Xg84.lt
      have Qq86 := nq_of A.sx Mq86 hq86
      clear Mq86 hq86
      replace BB := joinB BB B
      replace A := A.keep B
      replace Qq53 := Qq53.keep B
      replace Xg56 := Xg56.keep B
      replace Qq76 := Qq76.keep B
      replace Xg79 := Xg79.keep B
      replace Qq81 := Qq81.keep B
      replace Xg84 := Xg84.keep B
      clear B
      have lXg56 := Xg56.lt
      have lXg79 := Xg79.lt
      have lXg84 := Xg84.lt
      refine ta 22 [.slice none 0 0] 32 (pg) ?_
      intro v88 g89 Xg89 hg89 B
      have yg89 := Nat.le_trans BB.size hg89
      have nXg89 := A.new hg89
      have eQq53g89 : Ap _ _ _ := ne1 Qq53.lt hg89
      have eQq76g89 : Ap _ _ _ := ne1 Qq76.lt hg89
      have eQq81g89 : Ap _ _ _ := ne1 Qq81.lt hg89
      have eQq86g89 : Ap _ _ _ := ne1 Qq86.lt hg89
      replace BB := joinB BB B
      replace A := A.keep B
      replace Qq53 := Qq53.keep B
      replace Xg56 := Xg56.keep B
      replace Qq76 := Qq76.keep B
      replace Xg79 := Xg79.keep B
      replace Qq81 := Qq81.keep B
      replace Xg84 := Xg84.keep B
      replace Qq86 := Qq86.keep B
      clear B
      refine ts Xg89 0 (.agg #[.slice aq86 nq86 cq86]) [.slice aq86 nq86 cq86] [.slice aq86 nq86 cq86] ?_
      intro v90 Y C
      replace BB := belowC BB C yg89
      replace A := A.cell Xg89 C nXg89 (by decide)
      replace Qq53 := Qq53.cell C eQq53g89
      replace Xg56 := Xg56.chg C (show g56 ≠ g89 by omega)
      replace Qq76 := Qq76.cell C eQq76g89
      replace Xg79 := Xg79.chg C (show g79 ≠ g89 by omega)
      replace Qq81 := Qq81.cell C eQq81g89
      replace Xg84 := Xg84.chg C (show g84 ≠ g89 by omega)
      replace Qq86 := Qq86.cell C eQq86g89
      clear C Xg89
      have Xg89 := Y
      clear Y
      refine gl_nil ?_
      refine ge_then ?_
      clear Xg56
      clear Xg79
      clear Qq53
      clear Qq76
      refine gc_fr [(8, .bool false), (20, pg g84), (22, pg g89)] (by kernel_rfl) ?_
      refine gc_seq ?_
      replace BB := BB.drew
      replace A := A.drew
      replace Qq81 := Qq81.drew
      replace Xg84 := Xg84.drew
      replace Qq86 := Qq86.drew
      replace Xg89 := Xg89.drew
      refine gc_draw (fun w' => Blk w' g89 [.slice aq86 nq86 cq86] 32 ∧ Blk w' g84 [.slice aq81 nq81 cq81] 32) (fun _ => false) ⟨Xg89, Xg84⟩ ?_
      refine zlr 0 102 [.slice aq86 nq86 cq86] (fun _ h => h.1) 0 ?_
      refine zlr 1 103 [.slice aq81 nq81 cq81] (fun _ h => h.2) 0 ?_
      have hc91 : (zv * S1 / U36) + (zv * S2 / U36) ≤ (zv * (S1 + S2) / U36) := by exact sp_lo _ _ _
      refine zc 2 104 28 #[.agg #[.slice aq86 nq86 cq86], .agg #[.slice aq81 nq81 cq81]] (dCmpLe Qq86.nat Qq81.nat (by omega) (by omega) hc91) ?_
      rintro _ v93 ⟨r92, rfl, hr92, B⟩
      replace BB := joinB BB B
      replace A := A.keep B
      replace Qq81 := Qq81.keep B
      replace Xg84 := Xg84.keep B
      replace Qq86 := Qq86.keep B
      replace Xg89 := Xg89.keep B
      clear B
      refine ⟨_, rfl, ⟨Xg89, Xg84⟩, ?_⟩
      have t94 : (r92 : Int) ≤ 0 := by omega
      refine zq 3 105 (.bool (decide ((r92 : Int) ≤ 0))) (.bool true) (congrArg Value.bool (decide_eq_true t94)) ?_
      refine z 4 106 (.bool true) ?_
      refine zlr 5 107 [.slice aq81 nq81 cq81] (fun _ h => h.2) 0 ?_
      refine zlr 6 108 [.slice aq86 nq86 cq86] (fun _ h => h.1) 0 ?_
      refine zc 7 109 25 #[.int .u64 1] (nfOf (x := 1) (by omega) (by omega)) ?_
      rintro _ v96 ⟨aq95, nq95, cq95, zq95, rfl, Mq95, hq95, mq95, B⟩
      have eQq95g84 : Ap _ _ _ := ne2 hq95 Xg84.lt
      have eQq95g89 : Ap _ _ _ := ne2 hq95 Xg89.lt
      have Qq95 := nq_of A.sx Mq95 hq95
      clear Mq95 hq95
      replace BB := joinB BB B
      replace A := A.keep B
      replace Qq81 := Qq81.keep B
      replace Xg84 := Xg84.keep B
      replace Qq86 := Qq86.keep B
      replace Xg89 := Xg89.keep B
      clear B
      refine ⟨_, rfl, ⟨Xg89, Xg84⟩, ?_⟩
      refine zr 8 110 (.agg #[.slice aq95 nq95 cq95]) (by intro _ _; kernel_rfl) ?_
      refine zc 9 111 27 #[.agg #[.slice aq86 nq86 cq86], .agg #[.slice aq95 nq95 cq95]] (eAdd Qq86.nat (by omega) Qq95.nat (by omega)) ?_
      rintro _ v98 ⟨aq97, nq97, cq97, zq97, rfl, Mq97, hq97, mq97, B⟩
      have eQq97g84 : Ap _ _ _ := ne2 hq97 Xg84.lt
      have eQq97g89 : Ap _ _ _ := ne2 hq97 Xg89.lt
      have Qq97 := nq_of A.sx Mq97 hq97
      clear Mq97 hq97
      replace BB := joinB BB B
      replace A := A.keep B
      replace Qq81 := Qq81.keep B
      replace Xg84 := Xg84.keep B
      replace Qq86 := Qq86.keep B
      replace Xg89 := Xg89.keep B
      replace Qq95 := Qq95.keep B
      clear B
      refine ⟨_, rfl, ⟨Xg89, Xg84⟩, ?_⟩
      have hc99 : (zv * (S1 + S2) / U36) ≤ ((zv * S1 / U36) + (zv * S2 / U36)) + 1 := by exact sp_hi _ _ _
      refine zc 10 112 28 #[.agg #[.slice aq81 nq81 cq81], .agg #[.slice aq97 nq97 cq97]] (dCmpLe Qq81.nat Qq97.nat (by omega) (by omega) hc99) ?_
      rintro _ v101 ⟨r100, rfl, hr100, B⟩
      replace BB := joinB BB B
      replace A := A.keep B
      replace Qq81 := Qq81.keep B
      replace Xg84 := Xg84.keep B
      replace Qq86 := Qq86.keep B
      replace Xg89 := Xg89.keep B
      replace Qq95 := Qq95.keep B
      replace Qq97 := Qq97.keep B
      clear B
      refine ⟨_, rfl, ⟨Xg89, Xg84⟩, ?_⟩
      have t102 : (r100 : Int) ≤ 0 := by omega
      refine zq 11 113 (.bool (decide ((r100 : Int) ≤ 0))) (.bool true) (congrArg Value.bool (decide_eq_true t102)) ?_
      refine z 12 114 (.bool true) ?_
      refine z 13 8 (.bool true) ?_
      refine gz_done ?_
      refine ge_then ?_
      clear Xg84
      clear Xg89
      clear Qq81
      clear Qq86
      clear Qq95
      clear Qq97
      refine gc_fr [(8, .bool true)] (by kernel_rfl) ?_
      refine gc_ret ?_
      refine ge_ret (.bool true) (rs1 8 (by kernel_rfl) (by kernel_rfl)) ?_
      exact ⟨rfl, BB⟩
end Fo
namespace f1Split
open Go.RowKit Go.Lib Lim Fo
theorem walk (y0 y1 : Int) (a2 : Option Addr) (len2 cap2 : Nat) (a3 : Option Addr) (len3 cap3 : Nat) (w : World) (wy0 : (Lit.int .u64 y0).wf = true) (wy1 : (Lit.int .u64 y1).wf = true) (w2 : DecsIn w a2 len2 cap2) (w3 : DecsIn w a3 len3 cap3) :
    Calls Tryz.prog 6 #[.int .u64 y0, .int .u64 y1, .slice a2 len2 cap2, .slice a3 len3 cap3] w fun e w' => e = .returned (.bool true) ∧ Below w.heap.size w w' := by
  obtain ⟨b, o, aa, ns, cc, xs, DA⟩ := w2.open
  obtain ⟨b2, o2, aa2, ns2, cc2, xs2, DB⟩ := w3.open
  exact f1Split_walk (u64r wy0) (u64r wy1) DA DB
end f1Split
end Go.Proofs.YthfepflplbahkaaGreatDoor
