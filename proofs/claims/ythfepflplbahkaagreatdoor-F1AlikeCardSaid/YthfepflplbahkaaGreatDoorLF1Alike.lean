/- gleanlaw13.F1Alike. -/
import Derived.Test.YthfepflplbahkaaGreatDoorJa
namespace Go.Proofs.YthfepflplbahkaaGreatDoor
namespace Fo
open Go.RowKit Go.Lib Pg Lim Gl Kv Bk Pw
attribute [local go_sem] Oper.semAt_some
set_option maxRecDepth 100000
set_option linter.unusedVariables false
set_option linter.unusedSimpArgs false
set_option maxHeartbeats 4000000
theorem f1Alike_walk {w : World} {tok part : Int} {ct : Bool} {ao : Option Addr} {cnt cp pb po : Nat} {aa : Nat → Option Addr} {ns cc : Nat → Nat} {xs : Nat → Int} {ao2 : Option Addr} {cnt2 cp2 pb2 po2 : Nat} {aa2 : Nat → Option Addr} {ns2 cc2 : Nat → Nat} {ys : Nat → Int} (htok : 0 ≤ tok ∧ tok < 18446744073709551616) (hpart : 0 ≤ part ∧ part < 18446744073709551616) (DA : DecsA w ao cnt pb po aa ns cc xs) (DB : DecsA w ao2 cnt2 pb2 po2 aa2 ns2 cc2 ys) : Calls Tryz.prog 7 #[.int .u64 tok, .int .u64 part, .slice ao cnt cp, .slice ao2 cnt2 cp2, .bool ct] w fun e w' => e = .returned (.bool true) ∧ Below w.heap.size w w' := by
  obtain ⟨nn, hnn⟩ : ∃ nn : Int, nn = 1 + tok % 1000000000000000000 := ⟨_, rfl⟩
  have hn1 : 1 ≤ nn ∧ nn ≤ 1000000000000000000 := by omega
  obtain ⟨pp, hpp⟩ : ∃ pp : Int, pp = 1 + part % 30 := ⟨_, rfl⟩
  have hp1 : 1 ≤ pp ∧ pp ≤ 30 := by omega
  obtain ⟨zv, hzv⟩ : ∃ zv : Int, zv = nn * U36 * pp / 100 := ⟨_, rfl⟩
  have hz0 : 0 ≤ zv := by rw [hzv]; exact Int.ediv_nonneg (Int.mul_nonneg (Int.mul_nonneg (by omega) (by decide)) (by omega)) (by decide)
  obtain ⟨S1, hS1⟩ : ∃ S1, S1 = sQ nn xs cnt := ⟨_, rfl⟩
  obtain ⟨S2, hS2⟩ : ∃ S2, S2 = sQ nn ys cnt2 := ⟨_, rfl⟩
  have BB := Below.refl w.heap.size w
  refine gc_enter (n := 169) Tryz.func7 rfl (by kernel_rfl) (by kernel_rfl) ?_
  refine gc_seq ?_
  refine gc_reg ?_
  refine t 10 (.bool false) ?_
  refine gl_nil ?_
  refine ge_then ?_
  refine gc_seq ?_
  refine gc_seq ?_
  refine gc_reg ?_
  refine tc 30 8 #[] (known13) ?_
  rintro _ v1 ⟨rfl, B⟩
  refine ⟨_, rfl, ?_⟩
  replace BB := joinB BB B
  clear B
  refine t 31 (.bool false) ?_
  refine gl_nil ?_
  refine ge_then ?_
  refine gc_no ?_
  refine gc_skip ?_
  refine ge_then ?_
  refine gc_seq ?_
  refine gc_seq ?_
  refine gc_reg ?_
  refine t 32 (.slice ao cnt cp) ?_
  refine tc 33 29 #[.slice ao cnt cp] (short_any (DA.keep BB)) ?_
  rintro _ v3 ⟨b2, rfl, hb2, B⟩
  refine ⟨_, rfl, ?_⟩
  replace BB := joinB BB B
  clear B
  cases b2
  · skip
    refine t 34 (.bool true) ?_
    refine t 35 (.bool true) ?_
    refine tn 36 ?_
    refine tn 37 ?_
    refine tn 38 ?_
    refine t 39 (.bool true) ?_
    refine gl_nil ?_
    refine ge_then ?_
    refine gc_fr [(0, .int .u64 tok), (1, .int .u64 part), (2, .slice ao cnt cp), (3, .slice ao2 cnt2 cp2), (4, .bool ct), (10, .bool false), (39, .bool true)] (by kernel_rfl) ?_
    refine gc_yes ?_
    refine gc_seq ?_
    refine gc_reg ?_
    refine t 10 (.bool true) ?_
    refine gl_nil ?_
    refine ge_then ?_
    refine gc_ret ?_
    refine ge_tr ?_
    refine ge_ret (.bool true) (rs1 10 (by kernel_rfl) (by kernel_rfl)) ?_
    exact ⟨rfl, BB⟩
  · have hs1 := hb2 rfl
    refine t 34 (.bool false) ?_
    refine t 35 (.bool false) ?_
    refine t 36 (.slice ao2 cnt2 cp2) ?_
    refine tc 37 29 #[.slice ao2 cnt2 cp2] (short_any (DB.keep BB)) ?_
    rintro _ v5 ⟨b4, rfl, hb4, B⟩
    refine ⟨_, rfl, ?_⟩
    replace BB := joinB BB B
    clear B
    cases b4
    · skip
      refine t 38 (.bool true) ?_
      refine t 39 (.bool true) ?_
      refine gl_nil ?_
      refine ge_then ?_
      refine gc_fr [(0, .int .u64 tok), (1, .int .u64 part), (2, .slice ao cnt cp), (3, .slice ao2 cnt2 cp2), (4, .bool ct), (10, .bool false), (39, .bool true)] (by kernel_rfl) ?_
      refine gc_yes ?_
      refine gc_seq ?_
      refine gc_reg ?_
      refine t 10 (.bool true) ?_
      refine gl_nil ?_
      refine ge_then ?_
      refine gc_ret ?_
      refine ge_tr ?_
      refine ge_ret (.bool true) (rs1 10 (by kernel_rfl) (by kernel_rfl)) ?_
      exact ⟨rfl, BB⟩
    · have hs2 := hb4 rfl
      refine t 38 (.bool false) ?_
      refine t 39 (.bool false) ?_
      refine gl_nil ?_
      refine ge_then ?_
      refine gc_fr [(0, .int .u64 tok), (1, .int .u64 part), (2, .slice ao cnt cp), (3, .slice ao2 cnt2 cp2), (4, .bool ct), (10, .bool false), (39, .bool false)] (by kernel_rfl) ?_
      refine gc_no ?_
      refine gc_skip ?_
      refine ge_then ?_
      refine gc_seq ?_
      refine gc_reg ?_
      refine t 40 (.int .u64 tok) ?_
      refine tr 41 (.int .u64 (tok % 1000000000000000000)) (run_remu tok 1000000000000000000 htok ⟨by decide, by decide⟩) ?_
      refine tq 42 (.int .u64 (IntKind.u64.wrap (1 + tok % 1000000000000000000))) (.int .u64 nn) (congrArg (Value.int .u64) (by rw [IntKind.wrap_u64]; omega)) ?_
      refine t 11 (.int .u64 nn) ?_
      refine gl_nil ?_
      refine ge_then ?_
      refine gc_seq ?_
      refine gc_reg ?_
      obtain ⟨Bz, hBz⟩ : ∃ Bz, Bz = (v5).heap.size := ⟨_, rfl⟩
      have hwB : w.heap.size ≤ Bz := by rw [hBz]; exact BB.size
      refine tc 43 16 #[] (snewF Bz hBz) ?_
      rintro _ v6 ⟨g0, K0, rfl, S0, hK0, B0⟩
      refine ⟨_, rfl, ?_⟩
      replace BB := joinB BB B0
      clear B0
      have A : Al Bz _ K0 g0 [] [] 0 0 := ⟨S0⟩
      clear S0 hK0
      refine t 12 (pg g0) ?_
      refine gl_nil ?_
      refine ge_then ?_
      refine gc_seq ?_
      refine gc_reg ?_
      refine t 44 (pg g0) ?_
      refine t 45 (.int .u64 nn) ?_
      refine t 46 (.int .u64 nn) ?_
      refine tc 47 18 #[.int .u64 nn] (eOf (y := nn) ⟨by omega, by omega⟩) ?_
      rintro _ v8 ⟨aq7, nq7, cq7, zq7, rfl, Mq7, hq7, mq7, B⟩
      refine ⟨_, rfl, ?_⟩
      
      have Qq7 := nq_of A.sx Mq7 hq7
      clear Mq7 hq7
      replace BB := joinB BB B
      replace A := A.keep B
      clear B
      refine t 48 (.agg #[.int .u64 0, .int .u64 nn, .slice aq7 nq7 cq7, .bool false, .int .u64 0, .bool false, .int .u64 0, .slice none 0 0, .slice none 0 0, .slice none 0 0]) ?_
      have F0 := fs_start (id := 16) (by decide)
      refine tc 49 17 #[pg g0, .int .u64 16, .agg #[.int .u64 0, .int .u64 nn, .slice aq7 nq7 cq7, .bool false, .int .u64 0, .bool false, .int .u64 0, .slice none 0 0, .slice none 0 0, .slice none 0 0]] (start_any A.sx (id := 16) ⟨by decide, by decide⟩ Qq7.nk (by omega) (nq_nil _ _).nk (by omega) (nq_nil _ _).nk (by omega) (nq_nil _ _).nk (by omega) (by omega) (by omega)) ?_
      rintro _ v15 ⟨aq9, nq9, cq9, zq9, aq10, nq10, cq10, zq10, aq11, nq11, cq11, zq11, K12, n13, N14, rfl, S, qn13, qN14, hK, hC, Qq9, mq9, hq9, Qq10, mq10, hq10, Qq11, mq11, hq11⟩
      refine ⟨_, rfl, ?_⟩
      
      
      
      clear hq9 hq10 hq11
      replace BB := belowO BB hC (fun b hb => Nat.le_trans hwB (A.sx.kb b hb))
      replace Qq7 := Qq7.op hK hC
      replace A : Al _ _ _ _ _ _ _ _ := ⟨S⟩
      clear S hK hC
      refine ta 13 [.int .u64 0, .int .u64 0, .slice none 0 0, .bool false, .int .u64 0, .bool false, .int .u64 0, .slice none 0 0, .slice none 0 0, .slice none 0 0] 39 (pg) ?_
      intro v16 g17 Xg17 hg17 B
      have yg17 := Nat.le_trans BB.size hg17
      have nXg17 := A.new hg17
      have eQq7g17 : Ap _ _ _ := ne1 Qq7.lt hg17
      have eQq9g17 : Ap _ _ _ := ne1 Qq9.lt hg17
      have eQq10g17 : Ap _ _ _ := ne1 Qq10.lt hg17
      have eQq11g17 : Ap _ _ _ := ne1 Qq11.lt hg17
      replace BB := joinB BB B
      replace A := A.keep B
      replace Qq7 := Qq7.keep B
      replace Qq9 := Qq9.keep B
      replace Qq10 := Qq10.keep B
      replace Qq11 := Qq11.keep B
      clear B
      refine ts Xg17 0 (.agg #[.int .u64 0, .int .u64 nn, .slice aq9 nq9 cq9, .bool false, .int .u64 0, .bool false, .int .u64 (0 + 1), .slice none 0 0, .slice aq10 nq10 cq10, .slice aq11 nq11 cq11]) [.int .u64 0, .int .u64 nn, .slice aq9 nq9 cq9, .bool false, .int .u64 0, .bool false, .int .u64 (0 + 1), .slice none 0 0, .slice aq10 nq10 cq10, .slice aq11 nq11 cq11] [.int .u64 0, .int .u64 nn, .slice aq9 nq9 cq9, .bool false, .int .u64 0, .bool false, .int .u64 (0 + 1), .slice none 0 0, .slice aq10 nq10 cq10, .slice aq11 nq11 cq11] ?_
      intro v18 Y C
      replace BB := belowC BB C yg17
      replace A := A.cell Xg17 C nXg17 (by decide)
      replace Qq7 := Qq7.cell C eQq7g17
      replace Qq9 := Qq9.cell C eQq9g17
      replace Qq10 := Qq10.cell C eQq10g17
      replace Qq11 := Qq11.cell C eQq11g17
      clear C Xg17
      have Xg17 := Y
      clear Y
      refine gl_nil ?_
      refine ge_then ?_
      clear Qq7
      refine gc_fr [(1, .int .u64 part), (2, .slice ao cnt cp), (3, .slice ao2 cnt2 cp2), (4, .bool ct), (10, .bool false), (11, .int .u64 nn), (12, pg g0), (13, pg g17)] (by kernel_rfl) ?_
      refine gc_seq ?_
      refine gc_reg ?_
      refine t 51 (.int .u64 nn) ?_
      refine tc 52 18 #[.int .u64 nn] (eOf (y := nn) ⟨by omega, by omega⟩) ?_
      rintro _ v20 ⟨aq19, nq19, cq19, zq19, rfl, Mq19, hq19, mq19, B⟩
      refine ⟨_, rfl, ?_⟩
      have eQq19g17 : Ap _ _ _ := ne2 hq19 Xg17.lt
      have Qq19 := nq_of A.sx Mq19 hq19
      clear Mq19 hq19
      replace BB := joinB BB B
      replace A := A.keep B
      replace Qq9 := Qq9.keep B
      replace Qq10 := Qq10.keep B
      replace Qq11 := Qq11.keep B
      replace Xg17 := Xg17.keep B
      clear B
      refine t 53 (.int .u64 part) ?_
      refine tr 54 (.int .u64 (part % 30)) (run_remu part 30 hpart ⟨by decide, by decide⟩) ?_
      refine tq 55 (.int .u64 (IntKind.u64.wrap (1 + part % 30))) (.int .u64 pp) (congrArg (Value.int .u64) (by rw [IntKind.wrap_u64]; omega)) ?_
      refine tc 56 31 #[.agg #[.slice aq19 nq19 cq19], .int .u64 pp] (eTimes Qq19.nat (by omega) ⟨by omega, by omega⟩) ?_
      rintro _ v22 ⟨aq21, nq21, cq21, zq21, rfl, Mq21, hq21, mq21, B⟩
      refine ⟨_, rfl, ?_⟩
      have eQq21g17 : Ap _ _ _ := ne2 hq21 Xg17.lt
      have Qq21 := nq_of A.sx Mq21 hq21
      clear Mq21 hq21
      replace BB := joinB BB B
      replace A := A.keep B
      replace Qq9 := Qq9.keep B
      replace Qq10 := Qq10.keep B
      replace Qq11 := Qq11.keep B
      replace Xg17 := Xg17.keep B
      replace Qq19 := Qq19.keep B
      clear B
      refine tc 57 30 #[.agg #[.slice aq21 nq21 cq21], .int .u64 100] (eOver (y := 100) Qq21.nat (by omega) ⟨by decide, by decide⟩) ?_
      rintro _ v24 ⟨aq23, nq23, cq23, zq23, rfl, Mq23, hq23, mq23, B⟩
      refine ⟨_, rfl, ?_⟩
      have eQq23g17 : Ap _ _ _ := ne2 hq23 Xg17.lt
      have Qq23 := nq_of A.sx Mq23 hq23
      clear Mq23 hq23
      replace BB := joinB BB B
      replace A := A.keep B
      replace Qq9 := Qq9.keep B
      replace Qq10 := Qq10.keep B
      replace Qq11 := Qq11.keep B
      replace Xg17 := Xg17.keep B
      replace Qq19 := Qq19.keep B
      replace Qq21 := Qq21.keep B
      clear B
      replace Qq23 := Qq23.eqv hzv.symm
      refine t 50 (.tuple #[.agg #[.slice aq23 nq23 cq23], .int .i64 (dvZ 100)]) ?_
      refine t 58 (.agg #[.slice aq23 nq23 cq23]) ?_
      refine t 59 (.int .i64 (dvZ 100)) ?_
      have lXg17 := Xg17.lt
      refine ta 14 [.slice none 0 0] 32 (pg) ?_
      intro v25 g26 Xg26 hg26 B
      have yg26 := Nat.le_trans BB.size hg26
      have nXg26 := A.new hg26
      have eQq9g26 : Ap _ _ _ := ne1 Qq9.lt hg26
      have eQq10g26 : Ap _ _ _ := ne1 Qq10.lt hg26
      have eQq11g26 : Ap _ _ _ := ne1 Qq11.lt hg26
      have eQq19g26 : Ap _ _ _ := ne1 Qq19.lt hg26
      have eQq21g26 : Ap _ _ _ := ne1 Qq21.lt hg26
      have eQq23g26 : Ap _ _ _ := ne1 Qq23.lt hg26
      replace BB := joinB BB B
      replace A := A.keep B
      replace Qq9 := Qq9.keep B
      replace Qq10 := Qq10.keep B
      replace Qq11 := Qq11.keep B
      replace Xg17 := Xg17.keep B
      replace Qq19 := Qq19.keep B
      replace Qq21 := Qq21.keep B
      replace Qq23 := Qq23.keep B
      clear B
      refine ts Xg26 0 (.agg #[.slice aq23 nq23 cq23]) [.slice aq23 nq23 cq23] [.slice aq23 nq23 cq23] ?_
      intro v27 Y C
      replace BB := belowC BB C yg26
      replace A := A.cell Xg26 C nXg26 (by decide)
      replace Qq9 := Qq9.cell C eQq9g26
      replace Qq10 := Qq10.cell C eQq10g26
      replace Qq11 := Qq11.cell C eQq11g26
      replace Xg17 := Xg17.chg C (show g17 ≠ g26 by omega)
      replace Qq19 := Qq19.cell C eQq19g26
      replace Qq21 := Qq21.cell C eQq21g26
      replace Qq23 := Qq23.cell C eQq23g26
      clear C Xg26
      have Xg26 := Y
      clear Y
      refine t 15 (.int .i64 (dvZ 100)) ?_
      refine gl_nil ?_
      refine ge_then ?_
      clear Qq19
      clear Qq21
      refine gc_fr [(2, .slice ao cnt cp), (3, .slice ao2 cnt2 cp2), (4, .bool ct), (10, .bool false), (12, pg g0), (13, pg g17), (14, pg g26)] (by kernel_rfl) ?_
      refine gc_seq ?_
      refine gc_reg ?_
      refine t 60 (pg g0) ?_
      refine tlr 61 [.int .u64 0, .int .u64 nn, .slice aq9 nq9 cq9, .bool false, .int .u64 0, .bool false, .int .u64 (0 + 1), .slice none 0 0, .slice aq10 nq10 cq10, .slice aq11 nq11 cq11] Xg17 0 ?_
      refine tlr 62 [.slice aq23 nq23 cq23] Xg26 0 ?_
      refine t 63 (.agg #[.slice aq23 nq23 cq23, .int .u64 0, .slice none 0 0]) ?_
      have F28 := F0.hold (by simp; try omega)
      refine tc 64 19 #[pg g0, .int .u64 16, .agg #[.int .u64 0, .int .u64 nn, .slice aq9 nq9 cq9, .bool false, .int .u64 0, .bool false, .int .u64 (0 + 1), .slice none 0 0, .slice aq10 nq10 cq10, .slice aq11 nq11 cq11], .agg #[.slice aq23 nq23 cq23, .int .u64 0, .slice none 0 0]] (HoE.cast (E' := (referE (referE [] 16 0) 16 0)) (p := 0) (xs := zv) (hold_any A.sx (id := 16) ⟨by decide, by decide⟩ ⟨by omega, by omega⟩ Qq9.nk (by omega) (nq_nil _ _).nk (by omega) Qq10.nk (by omega) Qq11.nk (by omega) Qq23.nk (by omega) (nq_nil _ _).nk (by omega) (by omega) (by omega)) (by omega) rfl (Int.mul_ediv_cancel _ (by unfold U36; omega))) ?_
      rintro _ v34 ⟨aq29, nq29, cq29, zq29, aq30, nq30, cq30, zq30, K31, n32, N33, rfl, S, qn32, qN33, hK, hC, Qq29, mq29, hq29, Qq30, mq30, hq30⟩
      refine ⟨_, rfl, ?_⟩
      have eQq29g17 : Ap _ _ _ := ne2 hq29 Xg17.lt
      have eQq29g26 : Ap _ _ _ := ne2 hq29 Xg26.lt
      have eQq30g17 : Ap _ _ _ := ne2 hq30 Xg17.lt
      have eQq30g26 : Ap _ _ _ := ne2 hq30 Xg26.lt
      clear hq29 hq30
      replace BB := belowO BB hC (fun b hb => Nat.le_trans hwB (A.sx.kb b hb))
      replace Qq9 := Qq9.op hK hC
      replace Qq10 := Qq10.op hK hC
      replace Qq11 := Qq11.op hK hC
      have mXg17 := not_opF Xg17 nXg17 hK
      replace Xg17 := Xg17.chg hC nXg17
      replace nXg17 := mXg17
      clear mXg17
      replace Qq23 := Qq23.op hK hC
      have mXg26 := not_opF Xg26 nXg26 hK
      replace Xg26 := Xg26.chg hC nXg26
      replace nXg26 := mXg26
      clear mXg26
      replace A : Al _ _ _ _ _ _ _ _ := ⟨S⟩
      clear S hK hC
      have lXg17 := Xg17.lt
      have lXg26 := Xg26.lt
      refine ta 16 [.slice none 0 0, .int .u64 0, .slice none 0 0] 54 (pg) ?_
      intro v35 g36 Xg36 hg36 B
      have yg36 := Nat.le_trans BB.size hg36
      have nXg36 := A.new hg36
      have eQq9g36 : Ap _ _ _ := ne1 Qq9.lt hg36
      have eQq10g36 : Ap _ _ _ := ne1 Qq10.lt hg36
      have eQq11g36 : Ap _ _ _ := ne1 Qq11.lt hg36
      have eQq23g36 : Ap _ _ _ := ne1 Qq23.lt hg36
      have eQq29g36 : Ap _ _ _ := ne1 Qq29.lt hg36
      have eQq30g36 : Ap _ _ _ := ne1 Qq30.lt hg36
      replace BB := joinB BB B
      replace A := A.keep B
      replace Qq9 := Qq9.keep B
      replace Qq10 := Qq10.keep B
      replace Qq11 := Qq11.keep B
      replace Xg17 := Xg17.keep B
      replace Qq23 := Qq23.keep B
      replace Xg26 := Xg26.keep B
      replace Qq29 := Qq29.keep B
      replace Qq30 := Qq30.keep B
      clear B
      refine ts Xg36 0 (.agg #[.slice aq29 nq29 cq29, .int .u64 0, .slice aq30 nq30 cq30]) [.slice aq29 nq29 cq29, .int .u64 0, .slice aq30 nq30 cq30] [.slice aq29 nq29 cq29, .int .u64 0, .slice aq30 nq30 cq30] ?_
      intro v37 Y C
      replace BB := belowC BB C yg36
      replace A := A.cell Xg36 C nXg36 (by decide)
      replace Qq9 := Qq9.cell C eQq9g36
      replace Qq10 := Qq10.cell C eQq10g36
      replace Qq11 := Qq11.cell C eQq11g36
      replace Xg17 := Xg17.chg C (show g17 ≠ g36 by omega)
      replace Qq23 := Qq23.cell C eQq23g36
      replace Xg26 := Xg26.chg C (show g26 ≠ g36 by omega)
      replace Qq29 := Qq29.cell C eQq29g36
      replace Qq30 := Qq30.cell C eQq30g36
      clear C Xg36
      have Xg36 := Y
      clear Y
      refine gl_nil ?_
      refine ge_then ?_
      refine gc_seq ?_
      refine gc_reg ?_
      refine t 65 (pg g0) ?_
      refine tlr 66 [.int .u64 0, .int .u64 nn, .slice aq9 nq9 cq9, .bool false, .int .u64 0, .bool false, .int .u64 (0 + 1), .slice none 0 0, .slice aq10 nq10 cq10, .slice aq11 nq11 cq11] Xg17 0 ?_
      refine tlr 67 [.slice aq23 nq23 cq23] Xg26 0 ?_
      refine t 68 (.agg #[.slice aq23 nq23 cq23, .int .u64 0, .slice none 0 0]) ?_
      have F38 := F28.hold (by simp; try omega)
      refine tc 69 19 #[pg g0, .int .u64 16, .agg #[.int .u64 0, .int .u64 nn, .slice aq9 nq9 cq9, .bool false, .int .u64 0, .bool false, .int .u64 (0 + 1), .slice none 0 0, .slice aq10 nq10 cq10, .slice aq11 nq11 cq11], .agg #[.slice aq23 nq23 cq23, .int .u64 0, .slice none 0 0]] (HoE.cast (E' := (referE (referE (referE [] 16 0) 16 0) 16 0)) (p := 0) (xs := zv) (hold_any A.sx (id := 16) ⟨by decide, by decide⟩ ⟨by omega, by omega⟩ Qq9.nk (by omega) (nq_nil _ _).nk (by omega) Qq10.nk (by omega) Qq11.nk (by omega) Qq23.nk (by omega) (nq_nil _ _).nk (by omega) (by omega) (by omega)) (by omega) rfl (Int.mul_ediv_cancel _ (by unfold U36; omega))) ?_
      rintro _ v44 ⟨aq39, nq39, cq39, zq39, aq40, nq40, cq40, zq40, K41, n42, N43, rfl, S, qn42, qN43, hK, hC, Qq39, mq39, hq39, Qq40, mq40, hq40⟩
      refine ⟨_, rfl, ?_⟩
      have eQq39g17 : Ap _ _ _ := ne2 hq39 Xg17.lt
      have eQq39g26 : Ap _ _ _ := ne2 hq39 Xg26.lt
      have eQq39g36 : Ap _ _ _ := ne2 hq39 Xg36.lt
      have eQq40g17 : Ap _ _ _ := ne2 hq40 Xg17.lt
      have eQq40g26 : Ap _ _ _ := ne2 hq40 Xg26.lt
      have eQq40g36 : Ap _ _ _ := ne2 hq40 Xg36.lt
      clear hq39 hq40
      replace BB := belowO BB hC (fun b hb => Nat.le_trans hwB (A.sx.kb b hb))
      replace Qq9 := Qq9.op hK hC
      replace Qq10 := Qq10.op hK hC
      replace Qq11 := Qq11.op hK hC
      have mXg17 := not_opF Xg17 nXg17 hK
      replace Xg17 := Xg17.chg hC nXg17
      replace nXg17 := mXg17
      clear mXg17
      replace Qq23 := Qq23.op hK hC
      have mXg26 := not_opF Xg26 nXg26 hK
      replace Xg26 := Xg26.chg hC nXg26
      replace nXg26 := mXg26
      clear mXg26
      replace Qq29 := Qq29.op hK hC
      replace Qq30 := Qq30.op hK hC
      have mXg36 := not_opF Xg36 nXg36 hK
      replace Xg36 := Xg36.chg hC nXg36
      replace nXg36 := mXg36
      clear mXg36
      replace A : Al _ _ _ _ _ _ _ _ := ⟨S⟩
      clear S hK hC
      have lXg17 := Xg17.lt
      have lXg26 := Xg26.lt
      have lXg36 := Xg36.lt
      refine ta 17 [.slice none 0 0, .int .u64 0, .slice none 0 0] 54 (pg) ?_
      intro v45 g46 Xg46 hg46 B
      have yg46 := Nat.le_trans BB.size hg46
      have nXg46 := A.new hg46
      have eQq9g46 : Ap _ _ _ := ne1 Qq9.lt hg46
      have eQq10g46 : Ap _ _ _ := ne1 Qq10.lt hg46
      have eQq11g46 : Ap _ _ _ := ne1 Qq11.lt hg46
      have eQq23g46 : Ap _ _ _ := ne1 Qq23.lt hg46
      have eQq29g46 : Ap _ _ _ := ne1 Qq29.lt hg46
      have eQq30g46 : Ap _ _ _ := ne1 Qq30.lt hg46
      have eQq39g46 : Ap _ _ _ := ne1 Qq39.lt hg46
      have eQq40g46 : Ap _ _ _ := ne1 Qq40.lt hg46
      replace BB := joinB BB B
      replace A := A.keep B
      replace Qq9 := Qq9.keep B
      replace Qq10 := Qq10.keep B
      replace Qq11 := Qq11.keep B
      replace Xg17 := Xg17.keep B
      replace Qq23 := Qq23.keep B
      replace Xg26 := Xg26.keep B
      replace Qq29 := Qq29.keep B
      replace Qq30 := Qq30.keep B
      replace Xg36 := Xg36.keep B
      replace Qq39 := Qq39.keep B
      replace Qq40 := Qq40.keep B
      clear B
      refine ts Xg46 0 (.agg #[.slice aq39 nq39 cq39, .int .u64 0, .slice aq40 nq40 cq40]) [.slice aq39 nq39 cq39, .int .u64 0, .slice aq40 nq40 cq40] [.slice aq39 nq39 cq39, .int .u64 0, .slice aq40 nq40 cq40] ?_
      intro v47 Y C
      replace BB := belowC BB C yg46
      replace A := A.cell Xg46 C nXg46 (by decide)
      replace Qq9 := Qq9.cell C eQq9g46
      replace Qq10 := Qq10.cell C eQq10g46
      replace Qq11 := Qq11.cell C eQq11g46
      replace Xg17 := Xg17.chg C (show g17 ≠ g46 by omega)
      replace Qq23 := Qq23.cell C eQq23g46
      replace Xg26 := Xg26.chg C (show g26 ≠ g46 by omega)
      replace Qq29 := Qq29.cell C eQq29g46
      replace Qq30 := Qq30.cell C eQq30g46
      replace Xg36 := Xg36.chg C (show g36 ≠ g46 by omega)
      replace Qq39 := Qq39.cell C eQq39g46
      replace Qq40 := Qq40.cell C eQq40g46
      clear C Xg46
      have Xg46 := Y
      clear Y
      refine gl_nil ?_
      refine ge_then ?_
      refine gc_fr [(2, .slice ao cnt cp), (3, .slice ao2 cnt2 cp2), (4, .bool ct), (10, .bool false), (12, pg g0), (13, pg g17), (14, pg g26), (16, pg g36), (17, pg g46)] (by kernel_rfl) ?_
      refine gc_join (fun (s : JD) => [(2, .slice ao cnt cp), (3, .slice ao2 cnt2 cp2), (4, .bool ct), (12, pg g0), (13, pg g17), (14, pg g26), (16, pg g36), (17, pg g46), (18, pg s.gd)]) (fun s w' => Below w.heap.size w w' ∧ Sx Bz w' s.K g0 (referE (referE (referE (referE [] 16 0) 16 0) 16 0) 16 0) [] s.n s.N ∧ (s.n ≤ 300 ∧ s.N ≤ 300) ∧ (Blk w' g17 [.int .u64 0, .int .u64 nn, .slice aq9 nq9 cq9, .bool false, .int .u64 0, .bool false, .int .u64 (0 + 1), .slice none 0 0, .slice aq10 nq10 cq10, .slice aq11 nq11 cq11] 39 ∧ ¬ s.K g17 ∧ g17 ≠ s.gd) ∧ (Blk w' g26 [.slice aq23 nq23 cq23] 32 ∧ ¬ s.K g26 ∧ g26 ≠ s.gd) ∧ (Blk w' g36 [.slice aq29 nq29 cq29, .int .u64 0, .slice aq30 nq30 cq30] 54 ∧ ¬ s.K g36 ∧ g36 ≠ s.gd) ∧ (Blk w' g46 [.slice aq39 nq39 cq39, .int .u64 0, .slice aq40 nq40 cq40] 54 ∧ ¬ s.K g46 ∧ g46 ≠ s.gd) ∧ (Blk w' s.gd [.slice s.a0 s.k0 s.c0, .int .u64 0, .slice s.a1 s.k1 s.c1] 54 ∧ ¬ s.K s.gd) ∧ (w.heap.size ≤ s.gd ∧ s.k0 ≤ 1000 ∧ s.k1 ≤ 1000) ∧ (Nq w' s.K zq9 aq9 nq9 cq9 (nn * U36) ∧ Ap nq9 zq9 s.gd) ∧ (Nq w' s.K zq10 aq10 nq10 cq10 (0) ∧ Ap nq10 zq10 s.gd) ∧ (Nq w' s.K zq11 aq11 nq11 cq11 (0) ∧ Ap nq11 zq11 s.gd) ∧ (Nq w' s.K zq23 aq23 nq23 cq23 (zv) ∧ Ap nq23 zq23 s.gd) ∧ (Nq w' s.K zq29 aq29 nq29 cq29 (zv) ∧ Ap nq29 zq29 s.gd) ∧ (Nq w' s.K zq30 aq30 nq30 cq30 (zv) ∧ Ap nq30 zq30 s.gd) ∧ (Nq w' s.K zq39 aq39 nq39 cq39 (zv) ∧ Ap nq39 zq39 s.gd) ∧ (Nq w' s.K zq40 aq40 nq40 cq40 (zv) ∧ Ap nq40 zq40 s.gd) ∧ (Nq w' s.K s.z0 s.a0 s.k0 s.c0 (zv + zv) ∧ Ap s.k0 s.z0 s.gd ∧ Ap s.k0 s.z0 g17 ∧ Ap s.k0 s.z0 g26 ∧ Ap s.k0 s.z0 g36 ∧ Ap s.k0 s.z0 g46) ∧ (Nq w' s.K s.z1 s.a1 s.k1 s.c1 (zv + zv) ∧ Ap s.k1 s.z1 s.gd ∧ Ap s.k1 s.z1 g17 ∧ Ap s.k1 s.z1 g26 ∧ Ap s.k1 s.z1 g36 ∧ Ap s.k1 s.z1 g46)) ?_ ?_
      · replace BB := BB.drew
        replace A := A.drew
        replace Qq9 := Qq9.drew
        replace Qq10 := Qq10.drew
        replace Qq11 := Qq11.drew
        replace Xg17 := Xg17.drew
        replace Qq23 := Qq23.drew
        replace Xg26 := Xg26.drew
        replace Qq29 := Qq29.drew
        replace Qq30 := Qq30.drew
        replace Xg36 := Xg36.drew
        replace Qq39 := Qq39.drew
        replace Qq40 := Qq40.drew
        replace Xg46 := Xg46.drew
        refine gc_draw (fun w' => Blk w' g17 [.int .u64 0, .int .u64 nn, .slice aq9 nq9 cq9, .bool false, .int .u64 0, .bool false, .int .u64 (0 + 1), .slice none 0 0, .slice aq10 nq10 cq10, .slice aq11 nq11 cq11] 39 ∧ Blk w' g26 [.slice aq23 nq23 cq23] 32) (fun _ => false) ⟨Xg17, Xg26⟩ ?_
        refine z 0 70 (pg g0) ?_
        refine zlr 1 71 [.int .u64 0, .int .u64 nn, .slice aq9 nq9 cq9, .bool false, .int .u64 0, .bool false, .int .u64 (0 + 1), .slice none 0 0, .slice aq10 nq10 cq10, .slice aq11 nq11 cq11] (fun _ h => h.1) 0 ?_
        refine zlr 2 72 [.slice aq23 nq23 cq23] (fun _ h => h.2) 0 ?_
        refine zlr 3 73 [.slice aq23 nq23 cq23] (fun _ h => h.2) 0 ?_
        refine gz_ready [4, 7] ?_
        refine ga_call 4 (some 74) 27 #[.agg #[.slice aq23 nq23 cq23], .agg #[.slice aq23 nq23 cq23]] (eAdd Qq23.nat (by omega) Qq23.nat (by omega)) ?_ ?_
        · rintro _ v49 ⟨aq48, nq48, cq48, zq48, rfl, Mq48, hq48, mq48, B⟩
          have eQq48g17 : Ap _ _ _ := ne2 hq48 Xg17.lt
          have eQq48g26 : Ap _ _ _ := ne2 hq48 Xg26.lt
          have eQq48g36 : Ap _ _ _ := ne2 hq48 Xg36.lt
          have eQq48g46 : Ap _ _ _ := ne2 hq48 Xg46.lt
          have Qq48 := nq_of A.sx Mq48 hq48
          clear Mq48 hq48
          replace BB := joinB BB B
          replace A := A.keep B
          replace Qq9 := Qq9.keep B
          replace Qq10 := Qq10.keep B
          replace Qq11 := Qq11.keep B
          replace Xg17 := Xg17.keep B
          replace Qq23 := Qq23.keep B
          replace Xg26 := Xg26.keep B
          replace Qq29 := Qq29.keep B
          replace Qq30 := Qq30.keep B
          replace Xg36 := Xg36.keep B
          replace Qq39 := Qq39.keep B
          replace Qq40 := Qq40.keep B
          replace Xg46 := Xg46.keep B
          clear B
          refine ⟨_, rfl, ⟨Xg17, Xg26⟩, ?_⟩
          refine zr 5 75 (.agg #[.slice aq48 nq48 cq48, .int .u64 0, .slice none 0 0]) (by intro _ _; kernel_rfl) ?_
          refine gz_ready [6, 7] ?_
          have F50 := F38.hold (by simp; try omega)
          refine ga_call 6 (some 76) 19 #[pg g0, .int .u64 16, .agg #[.int .u64 0, .int .u64 nn, .slice aq9 nq9 cq9, .bool false, .int .u64 0, .bool false, .int .u64 (0 + 1), .slice none 0 0, .slice aq10 nq10 cq10, .slice aq11 nq11 cq11], .agg #[.slice aq48 nq48 cq48, .int .u64 0, .slice none 0 0]] (HoE.cast (E' := (referE (referE (referE (referE [] 16 0) 16 0) 16 0) 16 0)) (p := 0) (xs := zv + zv) (hold_any A.sx (id := 16) ⟨by decide, by decide⟩ ⟨by omega, by omega⟩ Qq9.nk (by omega) (nq_nil _ _).nk (by omega) Qq10.nk (by omega) Qq11.nk (by omega) Qq48.nk (by omega) (nq_nil _ _).nk (by omega) (by omega) (by omega)) (by omega) rfl (Int.mul_ediv_cancel _ (by unfold U36; omega))) ?_ ?_
          · rintro _ v56 ⟨aq51, nq51, cq51, zq51, aq52, nq52, cq52, zq52, K53, n54, N55, rfl, S, qn54, qN55, hK, hC, Qq51, mq51, hq51, Qq52, mq52, hq52⟩
            have eQq51g17 : Ap _ _ _ := ne2 hq51 Xg17.lt
            have eQq51g26 : Ap _ _ _ := ne2 hq51 Xg26.lt
            have eQq51g36 : Ap _ _ _ := ne2 hq51 Xg36.lt
            have eQq51g46 : Ap _ _ _ := ne2 hq51 Xg46.lt
            have eQq52g17 : Ap _ _ _ := ne2 hq52 Xg17.lt
            have eQq52g26 : Ap _ _ _ := ne2 hq52 Xg26.lt
            have eQq52g36 : Ap _ _ _ := ne2 hq52 Xg36.lt
            have eQq52g46 : Ap _ _ _ := ne2 hq52 Xg46.lt
            clear hq51 hq52
            replace BB := belowO BB hC (fun b hb => Nat.le_trans hwB (A.sx.kb b hb))
            replace Qq9 := Qq9.op hK hC
            replace Qq10 := Qq10.op hK hC
            replace Qq11 := Qq11.op hK hC
            have mXg17 := not_opF Xg17 nXg17 hK
            replace Xg17 := Xg17.chg hC nXg17
            replace nXg17 := mXg17
            clear mXg17
            replace Qq23 := Qq23.op hK hC
            have mXg26 := not_opF Xg26 nXg26 hK
            replace Xg26 := Xg26.chg hC nXg26
            replace nXg26 := mXg26
            clear mXg26
            replace Qq29 := Qq29.op hK hC
            replace Qq30 := Qq30.op hK hC
            have mXg36 := not_opF Xg36 nXg36 hK
            replace Xg36 := Xg36.chg hC nXg36
            replace nXg36 := mXg36
            clear mXg36
            replace Qq39 := Qq39.op hK hC
            replace Qq40 := Qq40.op hK hC
            have mXg46 := not_opF Xg46 nXg46 hK
            replace Xg46 := Xg46.chg hC nXg46
            replace nXg46 := mXg46
            clear mXg46
            replace Qq48 := Qq48.op hK hC
            replace A : Al _ _ _ _ _ _ _ _ := ⟨S⟩
            clear S hK hC
            refine ⟨_, rfl, ⟨Xg17, Xg26⟩, ?_⟩
            have lXg17 := Xg17.lt
            have lXg26 := Xg26.lt
            have lXg36 := Xg36.lt
            have lXg46 := Xg46.lt
            refine za 7 18 [.slice none 0 0, .int .u64 0, .slice none 0 0] 54 (pg) ?_
            intro v57 g58 Xg58 hg58 B
            have yg58 := Nat.le_trans BB.size hg58
            have nXg58 := A.new hg58
            have eQq9g58 : Ap _ _ _ := ne1 Qq9.lt hg58
            have eQq10g58 : Ap _ _ _ := ne1 Qq10.lt hg58
            have eQq11g58 : Ap _ _ _ := ne1 Qq11.lt hg58
            have eQq23g58 : Ap _ _ _ := ne1 Qq23.lt hg58
            have eQq29g58 : Ap _ _ _ := ne1 Qq29.lt hg58
            have eQq30g58 : Ap _ _ _ := ne1 Qq30.lt hg58
            have eQq39g58 : Ap _ _ _ := ne1 Qq39.lt hg58
            have eQq40g58 : Ap _ _ _ := ne1 Qq40.lt hg58
            have eQq48g58 : Ap _ _ _ := ne1 Qq48.lt hg58
            have eQq51g58 : Ap _ _ _ := ne1 Qq51.lt hg58
            have eQq52g58 : Ap _ _ _ := ne1 Qq52.lt hg58
            replace BB := joinB BB B
            replace A := A.keep B
            replace Qq9 := Qq9.keep B
            replace Qq10 := Qq10.keep B
            replace Qq11 := Qq11.keep B
            replace Xg17 := Xg17.keep B
            replace Qq23 := Qq23.keep B
            replace Xg26 := Xg26.keep B
            replace Qq29 := Qq29.keep B
            replace Qq30 := Qq30.keep B
            replace Xg36 := Xg36.keep B
            replace Qq39 := Qq39.keep B
            replace Qq40 := Qq40.keep B
            replace Xg46 := Xg46.keep B
            replace Qq48 := Qq48.keep B
            replace Qq51 := Qq51.keep B
            replace Qq52 := Qq52.keep B
            clear B
            refine ⟨⟨Xg17, Xg26⟩, ?_⟩
            refine zs 8 Xg58 0 (.agg #[.slice aq51 nq51 cq51, .int .u64 0, .slice aq52 nq52 cq52]) [.slice aq51 nq51 cq51, .int .u64 0, .slice aq52 nq52 cq52] [.slice aq51 nq51 cq51, .int .u64 0, .slice aq52 nq52 cq52] ?_
            intro v59 Y C
            replace BB := belowC BB C yg58
            replace A := A.cell Xg58 C nXg58 (by decide)
            replace Qq9 := Qq9.cell C eQq9g58
            replace Qq10 := Qq10.cell C eQq10g58
            replace Qq11 := Qq11.cell C eQq11g58
            replace Xg17 := Xg17.chg C (show g17 ≠ g58 by omega)
            replace Qq23 := Qq23.cell C eQq23g58
            replace Xg26 := Xg26.chg C (show g26 ≠ g58 by omega)
            replace Qq29 := Qq29.cell C eQq29g58
            replace Qq30 := Qq30.cell C eQq30g58
            replace Xg36 := Xg36.chg C (show g36 ≠ g58 by omega)
            replace Qq39 := Qq39.cell C eQq39g58
            replace Qq40 := Qq40.cell C eQq40g58
            replace Xg46 := Xg46.chg C (show g46 ≠ g58 by omega)
            replace Qq48 := Qq48.cell C eQq48g58
            replace Qq51 := Qq51.cell C eQq51g58
            replace Qq52 := Qq52.cell C eQq52g58
            clear C Xg58
            have Xg58 := Y
            clear Y
            refine ⟨⟨Xg17, Xg26⟩, ?_⟩
            refine gz_done ?_
            exact ge_join (⟨_, _, _, g58, aq51, nq51, cq51, zq51, aq52, nq52, cq52, zq52⟩ : JD) ⟨BB, A.sx, ⟨by (try dsimp only); omega, by (try dsimp only); omega⟩, ⟨Xg17, nXg17, by (try dsimp only); omega⟩, ⟨Xg26, nXg26, by (try dsimp only); omega⟩, ⟨Xg36, nXg36, by (try dsimp only); omega⟩, ⟨Xg46, nXg46, by (try dsimp only); omega⟩, ⟨Xg58, nXg58⟩, ⟨yg58, by (try dsimp only); omega, by (try dsimp only); omega⟩, ⟨Qq9, eQq9g58⟩, ⟨Qq10, eQq10g58⟩, ⟨Qq11, eQq11g58⟩, ⟨Qq23, eQq23g58⟩, ⟨Qq29, eQq29g58⟩, ⟨Qq30, eQq30g58⟩, ⟨Qq39, eQq39g58⟩, ⟨Qq40, eQq40g58⟩, ⟨Qq51, eQq51g58, eQq51g17, eQq51g26, eQq51g36, eQq51g46⟩, ⟨Qq52, eQq52g58, eQq52g17, eQq52g26, eQq52g36, eQq52g46⟩⟩ (by kernel_rfl)
          have lXg17 := Xg17.lt
          have lXg26 := Xg26.lt
          have lXg36 := Xg36.lt
          have lXg46 := Xg46.lt
          refine zaa 7 18 [.slice none 0 0, .int .u64 0, .slice none 0 0] 54 (pg) ?_ ?_
          · intro v60 g61 Xg61 hg61 B
            have yg61 := Nat.le_trans BB.size hg61
            have nXg61 := A.new hg61
            have eQq9g61 : Ap _ _ _ := ne1 Qq9.lt hg61
            have eQq10g61 : Ap _ _ _ := ne1 Qq10.lt hg61
            have eQq11g61 : Ap _ _ _ := ne1 Qq11.lt hg61
            have eQq23g61 : Ap _ _ _ := ne1 Qq23.lt hg61
            have eQq29g61 : Ap _ _ _ := ne1 Qq29.lt hg61
            have eQq30g61 : Ap _ _ _ := ne1 Qq30.lt hg61
            have eQq39g61 : Ap _ _ _ := ne1 Qq39.lt hg61
            have eQq40g61 : Ap _ _ _ := ne1 Qq40.lt hg61
            have eQq48g61 : Ap _ _ _ := ne1 Qq48.lt hg61
            replace BB := joinB BB B
            replace A := A.keep B
            replace Qq9 := Qq9.keep B
            replace Qq10 := Qq10.keep B
            replace Qq11 := Qq11.keep B
            replace Xg17 := Xg17.keep B
            replace Qq23 := Qq23.keep B
            replace Xg26 := Xg26.keep B
            replace Qq29 := Qq29.keep B
            replace Qq30 := Qq30.keep B
            replace Xg36 := Xg36.keep B
            replace Qq39 := Qq39.keep B
            replace Qq40 := Qq40.keep B
            replace Xg46 := Xg46.keep B
            replace Qq48 := Qq48.keep B
            clear B
            refine ⟨⟨Xg17, Xg26⟩, ?_⟩
            have F62 := F38.hold (by simp; try omega)
            refine zc 6 76 19 #[pg g0, .int .u64 16, .agg #[.int .u64 0, .int .u64 nn, .slice aq9 nq9 cq9, .bool false, .int .u64 0, .bool false, .int .u64 (0 + 1), .slice none 0 0, .slice aq10 nq10 cq10, .slice aq11 nq11 cq11], .agg #[.slice aq48 nq48 cq48, .int .u64 0, .slice none 0 0]] (HoE.cast (E' := (referE (referE (referE (referE [] 16 0) 16 0) 16 0) 16 0)) (p := 0) (xs := zv + zv) (hold_any A.sx (id := 16) ⟨by decide, by decide⟩ ⟨by omega, by omega⟩ Qq9.nk (by omega) (nq_nil _ _).nk (by omega) Qq10.nk (by omega) Qq11.nk (by omega) Qq48.nk (by omega) (nq_nil _ _).nk (by omega) (by omega) (by omega)) (by omega) rfl (Int.mul_ediv_cancel _ (by unfold U36; omega))) ?_
            rintro _ v68 ⟨aq63, nq63, cq63, zq63, aq64, nq64, cq64, zq64, K65, n66, N67, rfl, S, qn66, qN67, hK, hC, Qq63, mq63, hq63, Qq64, mq64, hq64⟩
            have eQq63g17 : Ap _ _ _ := ne2 hq63 Xg17.lt
            have eQq63g26 : Ap _ _ _ := ne2 hq63 Xg26.lt
            have eQq63g36 : Ap _ _ _ := ne2 hq63 Xg36.lt
            have eQq63g46 : Ap _ _ _ := ne2 hq63 Xg46.lt
            have eQq63g61 : Ap _ _ _ := ne2 hq63 Xg61.lt
            have eQq64g17 : Ap _ _ _ := ne2 hq64 Xg17.lt
            have eQq64g26 : Ap _ _ _ := ne2 hq64 Xg26.lt
            have eQq64g36 : Ap _ _ _ := ne2 hq64 Xg36.lt
            have eQq64g46 : Ap _ _ _ := ne2 hq64 Xg46.lt
            have eQq64g61 : Ap _ _ _ := ne2 hq64 Xg61.lt
            clear hq63 hq64
            replace BB := belowO BB hC (fun b hb => Nat.le_trans hwB (A.sx.kb b hb))
            replace Qq9 := Qq9.op hK hC
            replace Qq10 := Qq10.op hK hC
            replace Qq11 := Qq11.op hK hC
            have mXg17 := not_opF Xg17 nXg17 hK
            replace Xg17 := Xg17.chg hC nXg17
            replace nXg17 := mXg17
            clear mXg17
            replace Qq23 := Qq23.op hK hC
            have mXg26 := not_opF Xg26 nXg26 hK
            replace Xg26 := Xg26.chg hC nXg26
            replace nXg26 := mXg26
            clear mXg26
            replace Qq29 := Qq29.op hK hC
            replace Qq30 := Qq30.op hK hC
            have mXg36 := not_opF Xg36 nXg36 hK
            replace Xg36 := Xg36.chg hC nXg36
            replace nXg36 := mXg36
            clear mXg36
            replace Qq39 := Qq39.op hK hC
            replace Qq40 := Qq40.op hK hC
            have mXg46 := not_opF Xg46 nXg46 hK
            replace Xg46 := Xg46.chg hC nXg46
            replace nXg46 := mXg46
            clear mXg46
            replace Qq48 := Qq48.op hK hC
            have mXg61 := not_opF Xg61 nXg61 hK
            replace Xg61 := Xg61.chg hC nXg61
            replace nXg61 := mXg61
            clear mXg61
            replace A : Al _ _ _ _ _ _ _ _ := ⟨S⟩
            clear S hK hC
            refine ⟨_, rfl, ⟨Xg17, Xg26⟩, ?_⟩
            refine zs 8 Xg61 0 (.agg #[.slice aq63 nq63 cq63, .int .u64 0, .slice aq64 nq64 cq64]) [.slice aq63 nq63 cq63, .int .u64 0, .slice aq64 nq64 cq64] [.slice aq63 nq63 cq63, .int .u64 0, .slice aq64 nq64 cq64] ?_
            intro v69 Y C
            replace BB := belowC BB C yg61
            replace A := A.cell Xg61 C nXg61 (by decide)
            replace Qq9 := Qq9.cell C eQq9g61
            replace Qq10 := Qq10.cell C eQq10g61
            replace Qq11 := Qq11.cell C eQq11g61
            replace Xg17 := Xg17.chg C (show g17 ≠ g61 by omega)
            replace Qq23 := Qq23.cell C eQq23g61
            replace Xg26 := Xg26.chg C (show g26 ≠ g61 by omega)
            replace Qq29 := Qq29.cell C eQq29g61
            replace Qq30 := Qq30.cell C eQq30g61
            replace Xg36 := Xg36.chg C (show g36 ≠ g61 by omega)
            replace Qq39 := Qq39.cell C eQq39g61
            replace Qq40 := Qq40.cell C eQq40g61
            replace Xg46 := Xg46.chg C (show g46 ≠ g61 by omega)
            replace Qq48 := Qq48.cell C eQq48g61
            replace Qq63 := Qq63.cell C eQq63g61
            replace Qq64 := Qq64.cell C eQq64g61
            clear C Xg61
            have Xg61 := Y
            clear Y
            refine ⟨⟨Xg17, Xg26⟩, ?_⟩
            refine gz_done ?_
            exact ge_join (⟨_, _, _, g61, aq63, nq63, cq63, zq63, aq64, nq64, cq64, zq64⟩ : JD) ⟨BB, A.sx, ⟨by (try dsimp only); omega, by (try dsimp only); omega⟩, ⟨Xg17, nXg17, by (try dsimp only); omega⟩, ⟨Xg26, nXg26, by (try dsimp only); omega⟩, ⟨Xg36, nXg36, by (try dsimp only); omega⟩, ⟨Xg46, nXg46, by (try dsimp only); omega⟩, ⟨Xg61, nXg61⟩, ⟨yg61, by (try dsimp only); omega, by (try dsimp only); omega⟩, ⟨Qq9, eQq9g61⟩, ⟨Qq10, eQq10g61⟩, ⟨Qq11, eQq11g61⟩, ⟨Qq23, eQq23g61⟩, ⟨Qq29, eQq29g61⟩, ⟨Qq30, eQq30g61⟩, ⟨Qq39, eQq39g61⟩, ⟨Qq40, eQq40g61⟩, ⟨Qq63, eQq63g61, eQq63g17, eQq63g26, eQq63g36, eQq63g46⟩, ⟨Qq64, eQq64g61, eQq64g17, eQq64g26, eQq64g36, eQq64g46⟩⟩ (by kernel_rfl)
          exact ga_nil
        have lXg17 := Xg17.lt
        have lXg26 := Xg26.lt
        have lXg36 := Xg36.lt
        have lXg46 := Xg46.lt
        refine zaa 7 18 [.slice none 0 0, .int .u64 0, .slice none 0 0] 54 (pg) ?_ ?_
        · intro v70 g71 Xg71 hg71 B
          have yg71 := Nat.le_trans BB.size hg71
          have nXg71 := A.new hg71
          have eQq9g71 : Ap _ _ _ := ne1 Qq9.lt hg71
          have eQq10g71 : Ap _ _ _ := ne1 Qq10.lt hg71
          have eQq11g71 : Ap _ _ _ := ne1 Qq11.lt hg71
          have eQq23g71 : Ap _ _ _ := ne1 Qq23.lt hg71
          have eQq29g71 : Ap _ _ _ := ne1 Qq29.lt hg71
          have eQq30g71 : Ap _ _ _ := ne1 Qq30.lt hg71
          have eQq39g71 : Ap _ _ _ := ne1 Qq39.lt hg71
          have eQq40g71 : Ap _ _ _ := ne1 Qq40.lt hg71
          replace BB := joinB BB B
          replace A := A.keep B
          replace Qq9 := Qq9.keep B
          replace Qq10 := Qq10.keep B
          replace Qq11 := Qq11.keep B
          replace Xg17 := Xg17.keep B
          replace Qq23 := Qq23.keep B
          replace Xg26 := Xg26.keep B
          replace Qq29 := Qq29.keep B
          replace Qq30 := Qq30.keep B
          replace Xg36 := Xg36.keep B
          replace Qq39 := Qq39.keep B
          replace Qq40 := Qq40.keep B
          replace Xg46 := Xg46.keep B
          clear B
          refine ⟨⟨Xg17, Xg26⟩, ?_⟩
          refine zc 4 74 27 #[.agg #[.slice aq23 nq23 cq23], .agg #[.slice aq23 nq23 cq23]] (eAdd Qq23.nat (by omega) Qq23.nat (by omega)) ?_
          rintro _ v73 ⟨aq72, nq72, cq72, zq72, rfl, Mq72, hq72, mq72, B⟩
          have eQq72g17 : Ap _ _ _ := ne2 hq72 Xg17.lt
          have eQq72g26 : Ap _ _ _ := ne2 hq72 Xg26.lt
          have eQq72g36 : Ap _ _ _ := ne2 hq72 Xg36.lt
          have eQq72g46 : Ap _ _ _ := ne2 hq72 Xg46.lt
          have eQq72g71 : Ap _ _ _ := ne2 hq72 Xg71.lt
          have Qq72 := nq_of A.sx Mq72 hq72
          clear Mq72 hq72
          replace BB := joinB BB B
          replace A := A.keep B
          replace Qq9 := Qq9.keep B
          replace Qq10 := Qq10.keep B
          replace Qq11 := Qq11.keep B
          replace Xg17 := Xg17.keep B
          replace Qq23 := Qq23.keep B
          replace Xg26 := Xg26.keep B
          replace Qq29 := Qq29.keep B
          replace Qq30 := Qq30.keep B
          replace Xg36 := Xg36.keep B
          replace Qq39 := Qq39.keep B
          replace Qq40 := Qq40.keep B
          replace Xg46 := Xg46.keep B
          replace Xg71 := Xg71.keep B
          clear B
          refine ⟨_, rfl, ⟨Xg17, Xg26⟩, ?_⟩
          refine zr 5 75 (.agg #[.slice aq72 nq72 cq72, .int .u64 0, .slice none 0 0]) (by intro _ _; kernel_rfl) ?_
          have F74 := F38.hold (by simp; try omega)
          refine zc 6 76 19 #[pg g0, .int .u64 16, .agg #[.int .u64 0, .int .u64 nn, .slice aq9 nq9 cq9, .bool false, .int .u64 0, .bool false, .int .u64 (0 + 1), .slice none 0 0, .slice aq10 nq10 cq10, .slice aq11 nq11 cq11], .agg #[.slice aq72 nq72 cq72, .int .u64 0, .slice none 0 0]] (HoE.cast (E' := (referE (referE (referE (referE [] 16 0) 16 0) 16 0) 16 0)) (p := 0) (xs := zv + zv) (hold_any A.sx (id := 16) ⟨by decide, by decide⟩ ⟨by omega, by omega⟩ Qq9.nk (by omega) (nq_nil _ _).nk (by omega) Qq10.nk (by omega) Qq11.nk (by omega) Qq72.nk (by omega) (nq_nil _ _).nk (by omega) (by omega) (by omega)) (by omega) rfl (Int.mul_ediv_cancel _ (by unfold U36; omega))) ?_
          rintro _ v80 ⟨aq75, nq75, cq75, zq75, aq76, nq76, cq76, zq76, K77, n78, N79, rfl, S, qn78, qN79, hK, hC, Qq75, mq75, hq75, Qq76, mq76, hq76⟩
          have eQq75g17 : Ap _ _ _ := ne2 hq75 Xg17.lt
          have eQq75g26 : Ap _ _ _ := ne2 hq75 Xg26.lt
          have eQq75g36 : Ap _ _ _ := ne2 hq75 Xg36.lt
          have eQq75g46 : Ap _ _ _ := ne2 hq75 Xg46.lt
          have eQq75g71 : Ap _ _ _ := ne2 hq75 Xg71.lt
          have eQq76g17 : Ap _ _ _ := ne2 hq76 Xg17.lt
          have eQq76g26 : Ap _ _ _ := ne2 hq76 Xg26.lt
          have eQq76g36 : Ap _ _ _ := ne2 hq76 Xg36.lt
          have eQq76g46 : Ap _ _ _ := ne2 hq76 Xg46.lt
          have eQq76g71 : Ap _ _ _ := ne2 hq76 Xg71.lt
          clear hq75 hq76
          replace BB := belowO BB hC (fun b hb => Nat.le_trans hwB (A.sx.kb b hb))
          replace Qq9 := Qq9.op hK hC
          replace Qq10 := Qq10.op hK hC
          replace Qq11 := Qq11.op hK hC
          have mXg17 := not_opF Xg17 nXg17 hK
          replace Xg17 := Xg17.chg hC nXg17
          replace nXg17 := mXg17
          clear mXg17
          replace Qq23 := Qq23.op hK hC
          have mXg26 := not_opF Xg26 nXg26 hK
          replace Xg26 := Xg26.chg hC nXg26
          replace nXg26 := mXg26
          clear mXg26
          replace Qq29 := Qq29.op hK hC
          replace Qq30 := Qq30.op hK hC
          have mXg36 := not_opF Xg36 nXg36 hK
          replace Xg36 := Xg36.chg hC nXg36
          replace nXg36 := mXg36
          clear mXg36
          replace Qq39 := Qq39.op hK hC
          replace Qq40 := Qq40.op hK hC
          have mXg46 := not_opF Xg46 nXg46 hK
          replace Xg46 := Xg46.chg hC nXg46
          replace nXg46 := mXg46
          clear mXg46
          have mXg71 := not_opF Xg71 nXg71 hK
          replace Xg71 := Xg71.chg hC nXg71
          replace nXg71 := mXg71
          clear mXg71
          replace Qq72 := Qq72.op hK hC
          replace A : Al _ _ _ _ _ _ _ _ := ⟨S⟩
          clear S hK hC
          refine ⟨_, rfl, ⟨Xg17, Xg26⟩, ?_⟩
          refine zs 8 Xg71 0 (.agg #[.slice aq75 nq75 cq75, .int .u64 0, .slice aq76 nq76 cq76]) [.slice aq75 nq75 cq75, .int .u64 0, .slice aq76 nq76 cq76] [.slice aq75 nq75 cq75, .int .u64 0, .slice aq76 nq76 cq76] ?_
          intro v81 Y C
          replace BB := belowC BB C yg71
          replace A := A.cell Xg71 C nXg71 (by decide)
          replace Qq9 := Qq9.cell C eQq9g71
          replace Qq10 := Qq10.cell C eQq10g71
          replace Qq11 := Qq11.cell C eQq11g71
          replace Xg17 := Xg17.chg C (show g17 ≠ g71 by omega)
          replace Qq23 := Qq23.cell C eQq23g71
          replace Xg26 := Xg26.chg C (show g26 ≠ g71 by omega)
          replace Qq29 := Qq29.cell C eQq29g71
          replace Qq30 := Qq30.cell C eQq30g71
          replace Xg36 := Xg36.chg C (show g36 ≠ g71 by omega)
          replace Qq39 := Qq39.cell C eQq39g71
          replace Qq40 := Qq40.cell C eQq40g71
          replace Xg46 := Xg46.chg C (show g46 ≠ g71 by omega)
          replace Qq72 := Qq72.cell C eQq72g71
          replace Qq75 := Qq75.cell C eQq75g71
          replace Qq76 := Qq76.cell C eQq76g71
          clear C Xg71
          have Xg71 := Y
          clear Y
          refine ⟨⟨Xg17, Xg26⟩, ?_⟩
          refine gz_done ?_
          exact ge_join (⟨_, _, _, g71, aq75, nq75, cq75, zq75, aq76, nq76, cq76, zq76⟩ : JD) ⟨BB, A.sx, ⟨by (try dsimp only); omega, by (try dsimp only); omega⟩, ⟨Xg17, nXg17, by (try dsimp only); omega⟩, ⟨Xg26, nXg26, by (try dsimp only); omega⟩, ⟨Xg36, nXg36, by (try dsimp only); omega⟩, ⟨Xg46, nXg46, by (try dsimp only); omega⟩, ⟨Xg71, nXg71⟩, ⟨yg71, by (try dsimp only); omega, by (try dsimp only); omega⟩, ⟨Qq9, eQq9g71⟩, ⟨Qq10, eQq10g71⟩, ⟨Qq11, eQq11g71⟩, ⟨Qq23, eQq23g71⟩, ⟨Qq29, eQq29g71⟩, ⟨Qq30, eQq30g71⟩, ⟨Qq39, eQq39g71⟩, ⟨Qq40, eQq40g71⟩, ⟨Qq75, eQq75g71, eQq75g17, eQq75g26, eQq75g36, eQq75g46⟩, ⟨Qq76, eQq76g71, eQq76g17, eQq76g26, eQq76g36, eQq76g46⟩⟩ (by kernel_rfl)
        exact ga_nil
      clear BB
      clear A
      clear Qq9
      clear Qq10
      clear Qq11
      clear Xg17
      clear Qq23
      clear Xg26
      clear Qq29
      clear Qq30
      clear Xg36
      clear Qq39
      clear Qq40
      clear Xg46
      rintro ⟨KJc, nJc, NJc, gdc, a0c, k0c, c0c, z0c, a1c, k1c, c1c, z1c⟩ v82 ⟨BB, SJ, ⟨qnJc, qNJc⟩, ⟨Xg17, nXg17_, dg17gdc⟩, ⟨Xg26, nXg26_, dg26gdc⟩, ⟨Xg36, nXg36_, dg36gdc⟩, ⟨Xg46, nXg46_, dg46gdc⟩, ⟨Xgdc, nXgdc⟩, ⟨ygdc, mk0c, mk1c⟩, ⟨Qq9, eQq9gdc⟩, ⟨Qq10, eQq10gdc⟩, ⟨Qq11, eQq11gdc⟩, ⟨Qq23, eQq23gdc⟩, ⟨Qq29, eQq29gdc⟩, ⟨Qq30, eQq30gdc⟩, ⟨Qq39, eQq39gdc⟩, ⟨Qq40, eQq40gdc⟩, ⟨Qdc0, eQdc0gdc, eQdc0g17, eQdc0g26, eQdc0g36, eQdc0g46⟩, ⟨Qdc1, eQdc1gdc, eQdc1g17, eQdc1g26, eQdc1g36, eQdc1g46⟩⟩
      dsimp only at *
      clear nXg17 nXg26 nXg36 nXg46
      have nXg17 := nXg17_
      have nXg26 := nXg26_
      have nXg36 := nXg36_
      have nXg46 := nXg46_
      clear nXg17_ nXg26_ nXg36_ nXg46_
      have A : Al _ _ _ _ _ _ _ _ := ⟨SJ⟩
      clear SJ
      have Fdc := F38.hold (by simp; try omega)
      refine gc_seq ?_
      refine gc_reg ?_
      refine t 77 (pg g0) ?_
      refine tlr 78 [.int .u64 0, .int .u64 nn, .slice aq9 nq9 cq9, .bool false, .int .u64 0, .bool false, .int .u64 (0 + 1), .slice none 0 0, .slice aq10 nq10 cq10, .slice aq11 nq11 cq11] Xg17 0 ?_
      refine t 79 (.slice ao cnt cp) ?_
      obtain ⟨pbu, zzu, Du⟩ := DA.k hs1 BB (fun b hb => Nat.le_trans hwB (A.sx.kb b hb)) (x := g17) nXg17
      have hsmu := DA.sm hs1
      have fewu := hs1.1
      refine tc 80 32 #[pg g0, .agg #[.int .u64 0, .int .u64 nn, .slice aq9 nq9 cq9, .bool false, .int .u64 0, .bool false, .int .u64 (0 + 1), .slice none 0 0, .slice aq10 nq10 cq10, .slice aq11 nq11 cq11], .slice ao cnt cp] (pay_any (la := 0) A.sx Fdc ⟨by omega, by omega⟩ Qq9 (by omega) (nq_nil _ _) (by omega) Qq10 (by omega) Qq11 (by omega) Du hsmu (by omega) (by show (0 : Int) ≤ _; decide) (by omega) (by omega)) ?_
      rintro _ v86 ⟨au0, nu0, cu0, zu0, au1, nu1, cu1, zu1, au2, nu2, cu2, zu2, au3, nu3, cu3, zu3, K83, n84, N85, Eu, Ru, rfl, S, qn84, qN85, hK, hC, ⟨Qu0, mu0, fu0⟩, ⟨Qu1, mu1, fu1⟩, ⟨Qu2, mu2, fu2⟩, ⟨Qu3, mu3, fu3⟩, Fu, hsu, rlu⟩
      refine ⟨_, rfl, ?_⟩
      have eQu0g17 : Ap _ _ _ := ne5 fu0 Xg17.lt eQq9g17
      have eQu0g26 : Ap _ _ _ := ne5 fu0 Xg26.lt eQq9g26
      have eQu0g36 : Ap _ _ _ := ne5 fu0 Xg36.lt eQq9g36
      have eQu0g46 : Ap _ _ _ := ne5 fu0 Xg46.lt eQq9g46
      have eQu0gdc : Ap _ _ _ := ne5 fu0 Xgdc.lt eQq9gdc
      have eQu1g17 : Ap _ _ _ := ne5 fu1 Xg17.lt (.inl rfl)
      have eQu1g26 : Ap _ _ _ := ne5 fu1 Xg26.lt (.inl rfl)
      have eQu1g36 : Ap _ _ _ := ne5 fu1 Xg36.lt (.inl rfl)
      have eQu1g46 : Ap _ _ _ := ne5 fu1 Xg46.lt (.inl rfl)
      have eQu1gdc : Ap _ _ _ := ne5 fu1 Xgdc.lt (.inl rfl)
      have eQu2g17 : Ap _ _ _ := ne5 fu2 Xg17.lt eQq10g17
      have eQu2g26 : Ap _ _ _ := ne5 fu2 Xg26.lt eQq10g26
      have eQu2g36 : Ap _ _ _ := ne5 fu2 Xg36.lt eQq10g36
      have eQu2g46 : Ap _ _ _ := ne5 fu2 Xg46.lt eQq10g46
      have eQu2gdc : Ap _ _ _ := ne5 fu2 Xgdc.lt eQq10gdc
      have eQu3g17 : Ap _ _ _ := ne5 fu3 Xg17.lt eQq11g17
      have eQu3g26 : Ap _ _ _ := ne5 fu3 Xg26.lt eQq11g26
      have eQu3g36 : Ap _ _ _ := ne5 fu3 Xg36.lt eQq11g36
      have eQu3g46 : Ap _ _ _ := ne5 fu3 Xg46.lt eQq11g46
      have eQu3gdc : Ap _ _ _ := ne5 fu3 Xgdc.lt eQq11gdc
      clear fu0 fu1 fu2 fu3
      replace BB := belowO BB hC (fun b hb => Nat.le_trans hwB (A.sx.kb b hb))
      have mXg17 := not_opF Xg17 nXg17 hK
      replace Xg17 := Xg17.chg hC nXg17
      replace nXg17 := mXg17
      clear mXg17
      have mXg26 := not_opF Xg26 nXg26 hK
      replace Xg26 := Xg26.chg hC nXg26
      replace nXg26 := mXg26
      clear mXg26
      have mXg36 := not_opF Xg36 nXg36 hK
      replace Xg36 := Xg36.chg hC nXg36
      replace nXg36 := mXg36
      clear mXg36
      have mXg46 := not_opF Xg46 nXg46 hK
      replace Xg46 := Xg46.chg hC nXg46
      replace nXg46 := mXg46
      clear mXg46
      have mXgdc := not_opF Xgdc nXgdc hK
      replace Xgdc := Xgdc.chg hC nXgdc
      replace nXgdc := mXgdc
      clear mXgdc
      replace Qq9 := Qq9.op hK hC
      replace Qq10 := Qq10.op hK hC
      replace Qq11 := Qq11.op hK hC
      replace Qq23 := Qq23.op hK hC
      replace Qq29 := Qq29.op hK hC
      replace Qq30 := Qq30.op hK hC
      replace Qq39 := Qq39.op hK hC
      replace Qq40 := Qq40.op hK hC
      replace Qdc0 := Qdc0.op hK hC
      replace Qdc1 := Qdc1.op hK hC
      replace A : Al _ _ _ _ _ _ _ _ := ⟨S⟩
      clear S hK hC
      have sb1 := sQ_le (n := nn) (by omega) hsmu cnt (Nat.le_refl _)
      rw [← hS1] at rlu sb1
      have z1 : Ru 0 = 0 := hsu 0 (Int.le_refl _)
      have b9 : (cnt : Int) * 18446744073709551616 ^ 4 ≤ 20 * 18446744073709551616 ^ 4 := Int.mul_le_mul_of_nonneg_right (by omega) (by decide)
      have hR1 : Ru (0 + (cnt : Int)) ≤ 400000 * 18446744073709551616 ^ 4 := by omega
      refine ts Xg17 0 (.agg #[.int .u64 0, .int .u64 nn, .slice au0 nu0 cu0, .bool false, .int .u64 0, .bool false, .int .u64 (0 + (cnt : Int) + 1), .slice au1 nu1 cu1, .slice au2 nu2 cu2, .slice au3 nu3 cu3]) [.int .u64 0, .int .u64 nn, .slice au0 nu0 cu0, .bool false, .int .u64 0, .bool false, .int .u64 (0 + (cnt : Int) + 1), .slice au1 nu1 cu1, .slice au2 nu2 cu2, .slice au3 nu3 cu3] [.int .u64 0, .int .u64 nn, .slice au0 nu0 cu0, .bool false, .int .u64 0, .bool false, .int .u64 (0 + (cnt : Int) + 1), .slice au1 nu1 cu1, .slice au2 nu2 cu2, .slice au3 nu3 cu3] ?_
      intro v87 Y C
      replace BB := belowC BB C yg17
      replace A := A.cell Xg17 C nXg17 (by decide)
      replace Xg26 := Xg26.chg C (show g26 ≠ g17 by omega)
      replace Xg36 := Xg36.chg C (show g36 ≠ g17 by omega)
      replace Xg46 := Xg46.chg C (show g46 ≠ g17 by omega)
      replace Xgdc := Xgdc.chg C (show gdc ≠ g17 by omega)
      replace Qq9 := Qq9.cell C eQq9g17
      replace Qq10 := Qq10.cell C eQq10g17
      replace Qq11 := Qq11.cell C eQq11g17
      replace Qq23 := Qq23.cell C eQq23g17
      replace Qq29 := Qq29.cell C eQq29g17
      replace Qq30 := Qq30.cell C eQq30g17
      replace Qq39 := Qq39.cell C eQq39g17
      replace Qq40 := Qq40.cell C eQq40g17
      replace Qdc0 := Qdc0.cell C eQdc0g17
      replace Qdc1 := Qdc1.cell C eQdc1g17
      replace Qu0 := Qu0.cell C eQu0g17
      replace Qu1 := Qu1.cell C eQu1g17
      replace Qu2 := Qu2.cell C eQu2g17
      replace Qu3 := Qu3.cell C eQu3g17
      clear C Xg17
      have Xg17 := Y
      clear Y
      refine gl_nil ?_
      refine ge_then ?_
      clear Qq9
      clear Qq10
      clear Qq11
      refine gc_seq ?_
      refine gc_reg ?_
      refine t 81 (pg g0) ?_
      refine tlr 82 [.int .u64 0, .int .u64 nn, .slice au0 nu0 cu0, .bool false, .int .u64 0, .bool false, .int .u64 (0 + (cnt : Int) + 1), .slice au1 nu1 cu1, .slice au2 nu2 cu2, .slice au3 nu3 cu3] Xg17 0 ?_
      refine tlr 83 [.slice aq23 nq23 cq23] Xg26 0 ?_
      refine t 84 (.agg #[.slice aq23 nq23 cq23, .int .u64 0, .slice none 0 0]) ?_
      have F88 := Fu.hold (by simp; try omega)
      refine tc 85 19 #[pg g0, .int .u64 16, .agg #[.int .u64 0, .int .u64 nn, .slice au0 nu0 cu0, .bool false, .int .u64 0, .bool false, .int .u64 (0 + (cnt : Int) + 1), .slice au1 nu1 cu1, .slice au2 nu2 cu2, .slice au3 nu3 cu3], .agg #[.slice aq23 nq23 cq23, .int .u64 0, .slice none 0 0]] (HoE.cast (E' := (referE Eu 16 (0 + (cnt : Int)))) (p := 0 + (cnt : Int)) (xs := zv) (hold_any A.sx (id := 16) ⟨by decide, by decide⟩ ⟨by omega, by omega⟩ Qu0.nk (by omega) Qu1.nk (by omega) Qu2.nk (by omega) Qu3.nk (by omega) Qq23.nk (by omega) (nq_nil _ _).nk (by omega) (by omega) (by omega)) (by omega) rfl (Int.mul_ediv_cancel _ (by unfold U36; omega))) ?_
      rintro _ v94 ⟨aq89, nq89, cq89, zq89, aq90, nq90, cq90, zq90, K91, n92, N93, rfl, S, qn92, qN93, hK, hC, Qq89, mq89, hq89, Qq90, mq90, hq90⟩
      refine ⟨_, rfl, ?_⟩
      have eQq89g17 : Ap _ _ _ := ne2 hq89 Xg17.lt
      have eQq89g26 : Ap _ _ _ := ne2 hq89 Xg26.lt
      have eQq89g36 : Ap _ _ _ := ne2 hq89 Xg36.lt
      have eQq89g46 : Ap _ _ _ := ne2 hq89 Xg46.lt
      have eQq89gdc : Ap _ _ _ := ne2 hq89 Xgdc.lt
      have eQq90g17 : Ap _ _ _ := ne2 hq90 Xg17.lt
      have eQq90g26 : Ap _ _ _ := ne2 hq90 Xg26.lt
      have eQq90g36 : Ap _ _ _ := ne2 hq90 Xg36.lt
      have eQq90g46 : Ap _ _ _ := ne2 hq90 Xg46.lt
      have eQq90gdc : Ap _ _ _ := ne2 hq90 Xgdc.lt
      clear hq89 hq90
      replace BB := belowO BB hC (fun b hb => Nat.le_trans hwB (A.sx.kb b hb))
      have mXg17 := not_opF Xg17 nXg17 hK
      replace Xg17 := Xg17.chg hC nXg17
      replace nXg17 := mXg17
      clear mXg17
      have mXg26 := not_opF Xg26 nXg26 hK
      replace Xg26 := Xg26.chg hC nXg26
      replace nXg26 := mXg26
      clear mXg26
      have mXg36 := not_opF Xg36 nXg36 hK
      replace Xg36 := Xg36.chg hC nXg36
      replace nXg36 := mXg36
      clear mXg36
      have mXg46 := not_opF Xg46 nXg46 hK
      replace Xg46 := Xg46.chg hC nXg46
      replace nXg46 := mXg46
      clear mXg46
      have mXgdc := not_opF Xgdc nXgdc hK
      replace Xgdc := Xgdc.chg hC nXgdc
      replace nXgdc := mXgdc
      clear mXgdc
      replace Qq23 := Qq23.op hK hC
      replace Qq29 := Qq29.op hK hC
      replace Qq30 := Qq30.op hK hC
      replace Qq39 := Qq39.op hK hC
      replace Qq40 := Qq40.op hK hC
      replace Qdc0 := Qdc0.op hK hC
      replace Qdc1 := Qdc1.op hK hC
      replace Qu0 := Qu0.op hK hC
      replace Qu1 := Qu1.op hK hC
      replace Qu2 := Qu2.op hK hC
      replace Qu3 := Qu3.op hK hC
      replace A : Al _ _ _ _ _ _ _ _ := ⟨S⟩
      clear S hK hC
      have lXg17 := Xg17.lt
      have lXg26 := Xg26.lt
      have lXg36 := Xg36.lt
      have lXg46 := Xg46.lt
      have lXgdc := Xgdc.lt
      refine ta 19 [.slice none 0 0, .int .u64 0, .slice none 0 0] 54 (pg) ?_
      intro v95 g96 Xg96 hg96 B
      have yg96 := Nat.le_trans BB.size hg96
      have nXg96 := A.new hg96
      have eQq23g96 : Ap _ _ _ := ne1 Qq23.lt hg96
      have eQq29g96 : Ap _ _ _ := ne1 Qq29.lt hg96
      have eQq30g96 : Ap _ _ _ := ne1 Qq30.lt hg96
      have eQq39g96 : Ap _ _ _ := ne1 Qq39.lt hg96
      have eQq40g96 : Ap _ _ _ := ne1 Qq40.lt hg96
      have eQdc0g96 : Ap _ _ _ := ne1 Qdc0.lt hg96
      have eQdc1g96 : Ap _ _ _ := ne1 Qdc1.lt hg96
      have eQu0g96 : Ap _ _ _ := ne1 Qu0.lt hg96
      have eQu1g96 : Ap _ _ _ := ne1 Qu1.lt hg96
      have eQu2g96 : Ap _ _ _ := ne1 Qu2.lt hg96
      have eQu3g96 : Ap _ _ _ := ne1 Qu3.lt hg96
      have eQq89g96 : Ap _ _ _ := ne1 Qq89.lt hg96
      have eQq90g96 : Ap _ _ _ := ne1 Qq90.lt hg96
      replace BB := joinB BB B
      replace A := A.keep B
      replace Xg17 := Xg17.keep B
      replace Xg26 := Xg26.keep B
      replace Xg36 := Xg36.keep B
      replace Xg46 := Xg46.keep B
      replace Xgdc := Xgdc.keep B
      replace Qq23 := Qq23.keep B
      replace Qq29 := Qq29.keep B
      replace Qq30 := Qq30.keep B
      replace Qq39 := Qq39.keep B
      replace Qq40 := Qq40.keep B
      replace Qdc0 := Qdc0.keep B
      replace Qdc1 := Qdc1.keep B
      replace Qu0 := Qu0.keep B
      replace Qu1 := Qu1.keep B
      replace Qu2 := Qu2.keep B
      replace Qu3 := Qu3.keep B
      replace Qq89 := Qq89.keep B
      replace Qq90 := Qq90.keep B
      clear B
      refine ts Xg96 0 (.agg #[.slice aq89 nq89 cq89, .int .u64 (0 + (cnt : Int)), .slice aq90 nq90 cq90]) [.slice aq89 nq89 cq89, .int .u64 (0 + (cnt : Int)), .slice aq90 nq90 cq90] [.slice aq89 nq89 cq89, .int .u64 (0 + (cnt : Int)), .slice aq90 nq90 cq90] ?_
      intro v97 Y C
      replace BB := belowC BB C yg96
      replace A := A.cell Xg96 C nXg96 (by decide)
      replace Xg17 := Xg17.chg C (show g17 ≠ g96 by omega)
      replace Xg26 := Xg26.chg C (show g26 ≠ g96 by omega)
      replace Xg36 := Xg36.chg C (show g36 ≠ g96 by omega)
      replace Xg46 := Xg46.chg C (show g46 ≠ g96 by omega)
      replace Xgdc := Xgdc.chg C (show gdc ≠ g96 by omega)
      replace Qq23 := Qq23.cell C eQq23g96
      replace Qq29 := Qq29.cell C eQq29g96
      replace Qq30 := Qq30.cell C eQq30g96
      replace Qq39 := Qq39.cell C eQq39g96
      replace Qq40 := Qq40.cell C eQq40g96
      replace Qdc0 := Qdc0.cell C eQdc0g96
      replace Qdc1 := Qdc1.cell C eQdc1g96
      replace Qu0 := Qu0.cell C eQu0g96
      replace Qu1 := Qu1.cell C eQu1g96
      replace Qu2 := Qu2.cell C eQu2g96
      replace Qu3 := Qu3.cell C eQu3g96
      replace Qq89 := Qq89.cell C eQq89g96
      replace Qq90 := Qq90.cell C eQq90g96
      clear C Xg96
      have Xg96 := Y
      clear Y
      refine gl_nil ?_
      refine ge_then ?_
      clear Xg26
      clear Qq23
      refine gc_seq ?_
      refine gc_reg ?_
      refine t 87 (pg g0) ?_
      refine tlr 88 [.int .u64 0, .int .u64 nn, .slice au0 nu0 cu0, .bool false, .int .u64 0, .bool false, .int .u64 (0 + (cnt : Int) + 1), .slice au1 nu1 cu1, .slice au2 nu2 cu2, .slice au3 nu3 cu3] Xg17 0 ?_
      refine tlr 89 [.slice aq29 nq29 cq29, .int .u64 0, .slice aq30 nq30 cq30] Xg36 0 ?_
      refine tc 90 20 #[pg g0, .int .u64 16, .agg #[.int .u64 0, .int .u64 nn, .slice au0 nu0 cu0, .bool false, .int .u64 0, .bool false, .int .u64 (0 + (cnt : Int) + 1), .slice au1 nu1 cu1, .slice au2 nu2 cu2, .slice au3 nu3 cu3], .agg #[.slice aq29 nq29 cq29, .int .u64 0, .slice aq30 nq30 cq30]] (ClmE.cast (c' := 0) (V' := (zv * S1 / U36)) (claim_fs (la := 0 + (cnt : Int)) A.sx F88 Qq30 (by omega) (by simp) (by omega) (by simp) (by omega) (by omega)) (rfl) (by rw [aft_nil, cmV_nil (by omega), rlu, z1]; congr 2; omega)) ?_
      rintro _ v99 ⟨aq98, nq98, cq98, zq98, rfl, S, C, Qq98, mq98, hq98⟩
      refine ⟨_, rfl, ?_⟩
      have eQq98g17 : Ap _ _ _ := ne2 hq98 Xg17.lt
      have eQq98g36 : Ap _ _ _ := ne2 hq98 Xg36.lt
      have eQq98g46 : Ap _ _ _ := ne2 hq98 Xg46.lt
      have eQq98gdc : Ap _ _ _ := ne2 hq98 Xgdc.lt
      have eQq98g96 : Ap _ _ _ := ne2 hq98 Xg96.lt
      clear hq98
      have hC := C.mono (fun b _ (e : b = g0) => e ▸ A.sx.sa.top)
      replace BB := belowO BB hC (fun b hb => Nat.le_trans hwB (A.sx.kb b hb))
      have mXg17 := not_opF Xg17 nXg17 (fun _ h => .inl h)
      replace Xg17 := Xg17.chg hC nXg17
      replace nXg17 := mXg17
      clear mXg17
      have mXg36 := not_opF Xg36 nXg36 (fun _ h => .inl h)
      replace Xg36 := Xg36.chg hC nXg36
      replace nXg36 := mXg36
      clear mXg36
      have mXg46 := not_opF Xg46 nXg46 (fun _ h => .inl h)
      replace Xg46 := Xg46.chg hC nXg46
      replace nXg46 := mXg46
      clear mXg46
      have mXgdc := not_opF Xgdc nXgdc (fun _ h => .inl h)
      replace Xgdc := Xgdc.chg hC nXgdc
      replace nXgdc := mXgdc
      clear mXgdc
      replace Qq29 := Qq29.op (fun _ h => .inl h) hC
      replace Qq30 := Qq30.op (fun _ h => .inl h) hC
      replace Qq39 := Qq39.op (fun _ h => .inl h) hC
      replace Qq40 := Qq40.op (fun _ h => .inl h) hC
      replace Qdc0 := Qdc0.op (fun _ h => .inl h) hC
      replace Qdc1 := Qdc1.op (fun _ h => .inl h) hC
      replace Qu0 := Qu0.op (fun _ h => .inl h) hC
      replace Qu1 := Qu1.op (fun _ h => .inl h) hC
      replace Qu2 := Qu2.op (fun _ h => .inl h) hC
      replace Qu3 := Qu3.op (fun _ h => .inl h) hC
      replace Qq89 := Qq89.op (fun _ h => .inl h) hC
      replace Qq90 := Qq90.op (fun _ h => .inl h) hC
      have mXg96 := not_opF Xg96 nXg96 (fun _ h => .inl h)
      replace Xg96 := Xg96.chg hC nXg96
      replace nXg96 := mXg96
      clear mXg96
      replace A : Al _ _ _ _ _ _ _ _ := ⟨S⟩
      clear S hC C
      refine t 86 (.tuple #[.agg #[.slice aq98 nq98 cq98], .int .i64 0]) ?_
      refine t 91 (.agg #[.slice aq98 nq98 cq98]) ?_
      refine t 92 (.int .i64 0) ?_
      have lXg17 := Xg17.lt
      have lXg36 := Xg36.lt
      have lXg46 := Xg46.lt
      have lXgdc := Xgdc.lt
      have lXg96 := Xg96.lt
      refine ta 20 [.slice none 0 0] 32 (pg) ?_
      intro v100 g101 Xg101 hg101 B
      have yg101 := Nat.le_trans BB.size hg101
      have nXg101 := A.new hg101
      have eQq29g101 : Ap _ _ _ := ne1 Qq29.lt hg101
      have eQq30g101 : Ap _ _ _ := ne1 Qq30.lt hg101
      have eQq39g101 : Ap _ _ _ := ne1 Qq39.lt hg101
      have eQq40g101 : Ap _ _ _ := ne1 Qq40.lt hg101
      have eQdc0g101 : Ap _ _ _ := ne1 Qdc0.lt hg101
      have eQdc1g101 : Ap _ _ _ := ne1 Qdc1.lt hg101
      have eQu0g101 : Ap _ _ _ := ne1 Qu0.lt hg101
      have eQu1g101 : Ap _ _ _ := ne1 Qu1.lt hg101
      have eQu2g101 : Ap _ _ _ := ne1 Qu2.lt hg101
      have eQu3g101 : Ap _ _ _ := ne1 Qu3.lt hg101
      have eQq89g101 : Ap _ _ _ := ne1 Qq89.lt hg101
      have eQq90g101 : Ap _ _ _ := ne1 Qq90.lt hg101
      have eQq98g101 : Ap _ _ _ := ne1 Qq98.lt hg101
      replace BB := joinB BB B
      replace A := A.keep B
      replace Xg17 := Xg17.keep B
      replace Xg36 := Xg36.keep B
      replace Xg46 := Xg46.keep B
      replace Xgdc := Xgdc.keep B
      replace Qq29 := Qq29.keep B
      replace Qq30 := Qq30.keep B
      replace Qq39 := Qq39.keep B
      replace Qq40 := Qq40.keep B
      replace Qdc0 := Qdc0.keep B
      replace Qdc1 := Qdc1.keep B
      replace Qu0 := Qu0.keep B
      replace Qu1 := Qu1.keep B
      replace Qu2 := Qu2.keep B
      replace Qu3 := Qu3.keep B
      replace Qq89 := Qq89.keep B
      replace Qq90 := Qq90.keep B
      replace Xg96 := Xg96.keep B
      replace Qq98 := Qq98.keep B
      clear B
      refine ts Xg101 0 (.agg #[.slice aq98 nq98 cq98]) [.slice aq98 nq98 cq98] [.slice aq98 nq98 cq98] ?_
      intro v102 Y C
      replace BB := belowC BB C yg101
      replace A := A.cell Xg101 C nXg101 (by decide)
      replace Xg17 := Xg17.chg C (show g17 ≠ g101 by omega)
      replace Xg36 := Xg36.chg C (show g36 ≠ g101 by omega)
      replace Xg46 := Xg46.chg C (show g46 ≠ g101 by omega)
      replace Xgdc := Xgdc.chg C (show gdc ≠ g101 by omega)
      replace Qq29 := Qq29.cell C eQq29g101
      replace Qq30 := Qq30.cell C eQq30g101
      replace Qq39 := Qq39.cell C eQq39g101
      replace Qq40 := Qq40.cell C eQq40g101
      replace Qdc0 := Qdc0.cell C eQdc0g101
      replace Qdc1 := Qdc1.cell C eQdc1g101
      replace Qu0 := Qu0.cell C eQu0g101
      replace Qu1 := Qu1.cell C eQu1g101
      replace Qu2 := Qu2.cell C eQu2g101
      replace Qu3 := Qu3.cell C eQu3g101
      replace Qq89 := Qq89.cell C eQq89g101
      replace Qq90 := Qq90.cell C eQq90g101
      replace Xg96 := Xg96.chg C (show g96 ≠ g101 by omega)
      replace Qq98 := Qq98.cell C eQq98g101
      clear C Xg101
      have Xg101 := Y
      clear Y
      refine t 21 (.int .i64 0) ?_
      refine gl_nil ?_
      refine ge_then ?_
      refine gc_fr [(3, .slice ao2 cnt2 cp2), (4, .bool ct), (12, pg g0), (13, pg g17), (16, pg g36), (17, pg g46), (18, pg gdc), (19, pg g96), (20, pg g101)] (by kernel_rfl) ?_
      refine gc_seq ?_
      refine gc_seq ?_
      refine gc_reg ?_
      refine t 93 (.bool ct) ?_
      refine gl_nil ?_
      refine ge_then ?_
      rcases Bool.eq_false_or_eq_true (ct) with b103 | b103
      · refine gc_yes (hc := congrArg Value.bool b103) ?_
        refine gc_seq ?_
        refine gc_reg ?_
        refine t 95 (pg g0) ?_
        refine tlr 96 [.int .u64 0, .int .u64 nn, .slice au0 nu0 cu0, .bool false, .int .u64 0, .bool false, .int .u64 (0 + (cnt : Int) + 1), .slice au1 nu1 cu1, .slice au2 nu2 cu2, .slice au3 nu3 cu3] Xg17 0 ?_
        have hlim : Ru (0 + (cnt : Int)) + 0 / nn < LIM := by rw [Int.zero_ediv]; exact lim_256 (by omega)
        have Fk := F88.close (tk := nn) (cur := 0) (by omega) (by rw [Int.zero_ediv]; exact Int.le_refl _) hlim
        refine tc 97 22 #[pg g0, .int .u64 16, .agg #[.int .u64 0, .int .u64 nn, .slice au0 nu0 cu0, .bool false, .int .u64 0, .bool false, .int .u64 (0 + (cnt : Int) + 1), .slice au1 nu1 cu1, .slice au2 nu2 cu2, .slice au3 nu3 cu3]] (ClE.cast (E' := (closeE (referE Eu 16 (0 + (cnt : Int))) 16 (0 + (cnt : Int) + 1) nn 0)) (pq := 0 + (cnt : Int) + 1 + 1) (close_any A.sx (id := 16) ⟨by decide, by decide⟩ ⟨by omega, by omega⟩ Qu0.nk (by omega) Qu1.nk (by omega) Qu2.nk (by omega) Qu3.nk (by omega) (by omega) (by omega)) (by omega) rfl) ?_
        rintro _ v111 ⟨aq104, nq104, cq104, zq104, aq105, nq105, cq105, zq105, aq106, nq106, cq106, zq106, aq107, nq107, cq107, zq107, K108, n109, N110, rfl, S, qn109, qN110, hK, hC, Qq104, mq104, hq104, Qq105, mq105, hq105, Qq106, mq106, hq106, Qq107, mq107, hq107⟩
        refine ⟨_, rfl, ?_⟩
        have eQq104g17 : Ap _ _ _ := ne2 hq104 Xg17.lt
        have eQq104g36 : Ap _ _ _ := ne2 hq104 Xg36.lt
        have eQq104g46 : Ap _ _ _ := ne2 hq104 Xg46.lt
        have eQq104gdc : Ap _ _ _ := ne2 hq104 Xgdc.lt
        have eQq104g96 : Ap _ _ _ := ne2 hq104 Xg96.lt
        have eQq104g101 : Ap _ _ _ := ne2 hq104 Xg101.lt
        have eQq105g17 : Ap _ _ _ := ne2 hq105 Xg17.lt
        have eQq105g36 : Ap _ _ _ := ne2 hq105 Xg36.lt
        have eQq105g46 : Ap _ _ _ := ne2 hq105 Xg46.lt
        have eQq105gdc : Ap _ _ _ := ne2 hq105 Xgdc.lt
        have eQq105g96 : Ap _ _ _ := ne2 hq105 Xg96.lt
        have eQq105g101 : Ap _ _ _ := ne2 hq105 Xg101.lt
        have eQq106g17 : Ap _ _ _ := ne2 hq106 Xg17.lt
        have eQq106g36 : Ap _ _ _ := ne2 hq106 Xg36.lt
        have eQq106g46 : Ap _ _ _ := ne2 hq106 Xg46.lt
        have eQq106gdc : Ap _ _ _ := ne2 hq106 Xgdc.lt
        have eQq106g96 : Ap _ _ _ := ne2 hq106 Xg96.lt
        have eQq106g101 : Ap _ _ _ := ne2 hq106 Xg101.lt
        have eQq107g17 : Ap _ _ _ := ne2 hq107 Xg17.lt
        have eQq107g36 : Ap _ _ _ := ne2 hq107 Xg36.lt
        have eQq107g46 : Ap _ _ _ := ne2 hq107 Xg46.lt
        have eQq107gdc : Ap _ _ _ := ne2 hq107 Xgdc.lt
        have eQq107g96 : Ap _ _ _ := ne2 hq107 Xg96.lt
        have eQq107g101 : Ap _ _ _ := ne2 hq107 Xg101.lt
        clear hq104 hq105 hq106 hq107
        replace BB := belowO BB hC (fun b hb => Nat.le_trans hwB (A.sx.kb b hb))
        have mXg17 := not_opF Xg17 nXg17 hK
        replace Xg17 := Xg17.chg hC nXg17
        replace nXg17 := mXg17
        clear mXg17
        have mXg36 := not_opF Xg36 nXg36 hK
        replace Xg36 := Xg36.chg hC nXg36
        replace nXg36 := mXg36
        clear mXg36
        have mXg46 := not_opF Xg46 nXg46 hK
        replace Xg46 := Xg46.chg hC nXg46
        replace nXg46 := mXg46
        clear mXg46
        have mXgdc := not_opF Xgdc nXgdc hK
        replace Xgdc := Xgdc.chg hC nXgdc
        replace nXgdc := mXgdc
        clear mXgdc
        replace Qq29 := Qq29.op hK hC
        replace Qq30 := Qq30.op hK hC
        replace Qq39 := Qq39.op hK hC
        replace Qq40 := Qq40.op hK hC
        replace Qdc0 := Qdc0.op hK hC
        replace Qdc1 := Qdc1.op hK hC
        replace Qu0 := Qu0.op hK hC
        replace Qu1 := Qu1.op hK hC
        replace Qu2 := Qu2.op hK hC
        replace Qu3 := Qu3.op hK hC
        replace Qq89 := Qq89.op hK hC
        replace Qq90 := Qq90.op hK hC
        have mXg96 := not_opF Xg96 nXg96 hK
        replace Xg96 := Xg96.chg hC nXg96
        replace nXg96 := mXg96
        clear mXg96
        replace Qq98 := Qq98.op hK hC
        have mXg101 := not_opF Xg101 nXg101 hK
        replace Xg101 := Xg101.chg hC nXg101
        replace nXg101 := mXg101
        clear mXg101
        replace A : Al _ _ _ _ _ _ _ _ := ⟨S⟩
        clear S hK hC
        replace Qq106 := Qq106.eqv (zo (Int.le_refl 0))
        clear Qq105
        refine t 94 (.tuple #[.agg #[.int .u64 0, .int .u64 nn, .slice aq104 nq104 cq104, .bool false, .int .u64 0, .bool false, .int .u64 (0 + (cnt : Int) + 1 + 1), .slice none 0 0, .slice aq106 nq106 cq106, .slice aq107 nq107 cq107], .agg #[.slice aq105 nq105 cq105]]) ?_
        refine t 98 (.agg #[.int .u64 0, .int .u64 nn, .slice aq104 nq104 cq104, .bool false, .int .u64 0, .bool false, .int .u64 (0 + (cnt : Int) + 1 + 1), .slice none 0 0, .slice aq106 nq106 cq106, .slice aq107 nq107 cq107]) ?_
        refine t 99 (.agg #[.slice aq105 nq105 cq105]) ?_
        refine ts Xg17 0 (.agg #[.int .u64 0, .int .u64 nn, .slice aq104 nq104 cq104, .bool false, .int .u64 0, .bool false, .int .u64 (0 + (cnt : Int) + 1 + 1), .slice none 0 0, .slice aq106 nq106 cq106, .slice aq107 nq107 cq107]) [.int .u64 0, .int .u64 nn, .slice aq104 nq104 cq104, .bool false, .int .u64 0, .bool false, .int .u64 (0 + (cnt : Int) + 1 + 1), .slice none 0 0, .slice aq106 nq106 cq106, .slice aq107 nq107 cq107] [.int .u64 0, .int .u64 nn, .slice aq104 nq104 cq104, .bool false, .int .u64 0, .bool false, .int .u64 (0 + (cnt : Int) + 1 + 1), .slice none 0 0, .slice aq106 nq106 cq106, .slice aq107 nq107 cq107] ?_
        intro v112 Y C
        replace BB := belowC BB C yg17
        replace A := A.cell Xg17 C nXg17 (by decide)
        replace Xg36 := Xg36.chg C (show g36 ≠ g17 by omega)
        replace Xg46 := Xg46.chg C (show g46 ≠ g17 by omega)
        replace Xgdc := Xgdc.chg C (show gdc ≠ g17 by omega)
        replace Qq29 := Qq29.cell C eQq29g17
        replace Qq30 := Qq30.cell C eQq30g17
        replace Qq39 := Qq39.cell C eQq39g17
        replace Qq40 := Qq40.cell C eQq40g17
        replace Qdc0 := Qdc0.cell C eQdc0g17
        replace Qdc1 := Qdc1.cell C eQdc1g17
        replace Qu0 := Qu0.cell C eQu0g17
        replace Qu1 := Qu1.cell C eQu1g17
        replace Qu2 := Qu2.cell C eQu2g17
        replace Qu3 := Qu3.cell C eQu3g17
        replace Qq89 := Qq89.cell C eQq89g17
        replace Qq90 := Qq90.cell C eQq90g17
        replace Xg96 := Xg96.chg C (show g96 ≠ g17 by omega)
        replace Qq98 := Qq98.cell C eQq98g17
        replace Xg101 := Xg101.chg C (show g101 ≠ g17 by omega)
        replace Qq104 := Qq104.cell C eQq104g17
        replace Qq106 := Qq106.cell C eQq106g17
        replace Qq107 := Qq107.cell C eQq107g17
        clear C Xg17
        have Xg17 := Y
        clear Y
        refine gl_nil ?_
        refine ge_then ?_
        clear Qu0
        clear Qu1
        clear Qu2
        clear Qu3
        refine gc_reg ?_
        refine t 100 (pg g0) ?_
        refine tlr 101 [.int .u64 0, .int .u64 nn, .slice aq104 nq104 cq104, .bool false, .int .u64 0, .bool false, .int .u64 (0 + (cnt : Int) + 1 + 1), .slice none 0 0, .slice aq106 nq106 cq106, .slice aq107 nq107 cq107] Xg17 0 ?_
        have Fc : Fs (cutE (closeE (referE Eu 16 (0 + (cnt : Int))) 16 (0 + (cnt : Int) + 1) nn 0) 16 (0 + (cnt : Int) + 1) nn 0) 16 (0 + (cnt : Int) + 1) (upd Ru (0 + (cnt : Int) + 1) (Ru (0 + (cnt : Int)) + 0 / nn)) _ [(0 + (cnt : Int) + 1, nn, 0)] := Fk.cut (b := nn) (a := 0) ⟨by omega, by omega⟩ (by decide) (fun _ h => by cases h) (by simp)
        have k1 : (upd Ru (0 + (cnt : Int) + 1) (Ru (0 + (cnt : Int)) + 0 / nn)) (0 + (cnt : Int) + 1) = S1 := by unfold upd; rw [if_pos rfl, Int.zero_ediv]; omega
        have k0 : (upd Ru (0 + (cnt : Int) + 1) (Ru (0 + (cnt : Int)) + 0 / nn)) 0 = 0 := by unfold upd; rw [if_neg (by omega)]; exact z1
        have k2 : (upd Ru (0 + (cnt : Int) + 1) (Ru (0 + (cnt : Int)) + 0 / nn)) (0 + (cnt : Int)) = S1 := by unfold upd; rw [if_neg (by omega)]; omega
        obtain ⟨Rk, hRk⟩ : ∃ Rk, (upd Ru (0 + (cnt : Int) + 1) (Ru (0 + (cnt : Int)) + 0 / nn)) = Rk := ⟨_, rfl⟩
        rw [hRk] at Fc k0 k1 k2
        have hR1c : Rk (0 + (cnt : Int) + 1) ≤ 400000 * 18446744073709551616 ^ 4 := by omega
        refine tc 102 34 #[pg g0, .int .u64 16, .agg #[.int .u64 0, .int .u64 nn, .slice aq104 nq104 cq104, .bool false, .int .u64 0, .bool false, .int .u64 (0 + (cnt : Int) + 1 + 1), .slice none 0 0, .slice aq106 nq106 cq106, .slice aq107 nq107 cq107], .int .u64 0] (CuE.cast (E' := (cutE (closeE (referE Eu 16 (0 + (cnt : Int))) 16 (0 + (cnt : Int) + 1) nn 0) 16 (0 + (cnt : Int) + 1) nn 0)) (p := 0 + (cnt : Int) + 1) (cut_any (af := 0) A.sx (id := 16) ⟨by decide, by decide⟩ Qq104.nk (by omega) (nq_nil _ _).nk (by omega) Qq106.nk (by omega) Qq107.nk (by omega) (by omega) (by omega)) (by omega) rfl) ?_
        rintro _ v120 ⟨aq113, nq113, cq113, zq113, aq114, nq114, cq114, zq114, aq115, nq115, cq115, zq115, aq116, nq116, cq116, zq116, K117, n118, N119, rfl, S, qn118, qN119, hK, hC, Qq113, mq113, hq113, Qq114, mq114, hq114, Qq115, mq115, hq115, Qq116, mq116, hq116⟩
        refine ⟨_, rfl, ?_⟩
        have eQq113g17 : Ap _ _ _ := ne2 hq113 Xg17.lt
        have eQq113g36 : Ap _ _ _ := ne2 hq113 Xg36.lt
        have eQq113g46 : Ap _ _ _ := ne2 hq113 Xg46.lt
        have eQq113gdc : Ap _ _ _ := ne2 hq113 Xgdc.lt
        have eQq113g96 : Ap _ _ _ := ne2 hq113 Xg96.lt
        have eQq113g101 : Ap _ _ _ := ne2 hq113 Xg101.lt
        have eQq114g17 : Ap _ _ _ := ne2 hq114 Xg17.lt
        have eQq114g36 : Ap _ _ _ := ne2 hq114 Xg36.lt
        have eQq114g46 : Ap _ _ _ := ne2 hq114 Xg46.lt
        have eQq114gdc : Ap _ _ _ := ne2 hq114 Xgdc.lt
        have eQq114g96 : Ap _ _ _ := ne2 hq114 Xg96.lt
        have eQq114g101 : Ap _ _ _ := ne2 hq114 Xg101.lt
        have eQq115g17 : Ap _ _ _ := ne2 hq115 Xg17.lt
        have eQq115g36 : Ap _ _ _ := ne2 hq115 Xg36.lt
        have eQq115g46 : Ap _ _ _ := ne2 hq115 Xg46.lt
        have eQq115gdc : Ap _ _ _ := ne2 hq115 Xgdc.lt
        have eQq115g96 : Ap _ _ _ := ne2 hq115 Xg96.lt
        have eQq115g101 : Ap _ _ _ := ne2 hq115 Xg101.lt
        have eQq116g17 : Ap _ _ _ := ne2 hq116 Xg17.lt
        have eQq116g36 : Ap _ _ _ := ne2 hq116 Xg36.lt
        have eQq116g46 : Ap _ _ _ := ne2 hq116 Xg46.lt
        have eQq116gdc : Ap _ _ _ := ne2 hq116 Xgdc.lt
        have eQq116g96 : Ap _ _ _ := ne2 hq116 Xg96.lt
        have eQq116g101 : Ap _ _ _ := ne2 hq116 Xg101.lt
        clear hq113 hq114 hq115 hq116
        replace BB := belowO BB hC (fun b hb => Nat.le_trans hwB (A.sx.kb b hb))
        have mXg17 := not_opF Xg17 nXg17 hK
        replace Xg17 := Xg17.chg hC nXg17
        replace nXg17 := mXg17
        clear mXg17
        have mXg36 := not_opF Xg36 nXg36 hK
        replace Xg36 := Xg36.chg hC nXg36
        replace nXg36 := mXg36
        clear mXg36
        have mXg46 := not_opF Xg46 nXg46 hK
        replace Xg46 := Xg46.chg hC nXg46
        replace nXg46 := mXg46
        clear mXg46
        have mXgdc := not_opF Xgdc nXgdc hK
        replace Xgdc := Xgdc.chg hC nXgdc
        replace nXgdc := mXgdc
        clear mXgdc
        replace Qq29 := Qq29.op hK hC
        replace Qq30 := Qq30.op hK hC
        replace Qq39 := Qq39.op hK hC
        replace Qq40 := Qq40.op hK hC
        replace Qdc0 := Qdc0.op hK hC
        replace Qdc1 := Qdc1.op hK hC
        replace Qq89 := Qq89.op hK hC
        replace Qq90 := Qq90.op hK hC
        have mXg96 := not_opF Xg96 nXg96 hK
        replace Xg96 := Xg96.chg hC nXg96
        replace nXg96 := mXg96
        clear mXg96
        replace Qq98 := Qq98.op hK hC
        have mXg101 := not_opF Xg101 nXg101 hK
        replace Xg101 := Xg101.chg hC nXg101
        replace nXg101 := mXg101
        clear mXg101
        replace Qq104 := Qq104.op hK hC
        replace Qq106 := Qq106.op hK hC
        replace Qq107 := Qq107.op hK hC
        replace A : Al _ _ _ _ _ _ _ _ := ⟨S⟩
        clear S hK hC
        refine ts Xg17 0 (.agg #[.int .u64 0, .int .u64 0, .slice aq113 nq113 cq113, .bool false, .int .u64 0, .bool false, .int .u64 (0 + (cnt : Int) + 1 + 1), .slice aq114 nq114 cq114, .slice aq115 nq115 cq115, .slice aq116 nq116 cq116]) [.int .u64 0, .int .u64 0, .slice aq113 nq113 cq113, .bool false, .int .u64 0, .bool false, .int .u64 (0 + (cnt : Int) + 1 + 1), .slice aq114 nq114 cq114, .slice aq115 nq115 cq115, .slice aq116 nq116 cq116] [.int .u64 0, .int .u64 0, .slice aq113 nq113 cq113, .bool false, .int .u64 0, .bool false, .int .u64 (0 + (cnt : Int) + 1 + 1), .slice aq114 nq114 cq114, .slice aq115 nq115 cq115, .slice aq116 nq116 cq116] ?_
        intro v121 Y C
        replace BB := belowC BB C yg17
        replace A := A.cell Xg17 C nXg17 (by decide)
        replace Xg36 := Xg36.chg C (show g36 ≠ g17 by omega)
        replace Xg46 := Xg46.chg C (show g46 ≠ g17 by omega)
        replace Xgdc := Xgdc.chg C (show gdc ≠ g17 by omega)
        replace Qq29 := Qq29.cell C eQq29g17
        replace Qq30 := Qq30.cell C eQq30g17
        replace Qq39 := Qq39.cell C eQq39g17
        replace Qq40 := Qq40.cell C eQq40g17
        replace Qdc0 := Qdc0.cell C eQdc0g17
        replace Qdc1 := Qdc1.cell C eQdc1g17
        replace Qq89 := Qq89.cell C eQq89g17
        replace Qq90 := Qq90.cell C eQq90g17
        replace Xg96 := Xg96.chg C (show g96 ≠ g17 by omega)
        replace Qq98 := Qq98.cell C eQq98g17
        replace Xg101 := Xg101.chg C (show g101 ≠ g17 by omega)
        replace Qq104 := Qq104.cell C eQq104g17
        replace Qq106 := Qq106.cell C eQq106g17
        replace Qq107 := Qq107.cell C eQq107g17
        replace Qq113 := Qq113.cell C eQq113g17
        replace Qq114 := Qq114.cell C eQq114g17
        replace Qq115 := Qq115.cell C eQq115g17
        replace Qq116 := Qq116.cell C eQq116g17
        clear C Xg17
        have Xg17 := Y
        clear Y
        refine gl_nil ?_
        refine ge_then ?_
        clear Qq104
        clear Qq106
        clear Qq107
        refine gc_seq ?_
        refine gc_reg ?_
        refine t 103 (pg g0) ?_
        refine tlr 104 [.int .u64 0, .int .u64 0, .slice aq113 nq113 cq113, .bool false, .int .u64 0, .bool false, .int .u64 (0 + (cnt : Int) + 1 + 1), .slice aq114 nq114 cq114, .slice aq115 nq115 cq115, .slice aq116 nq116 cq116] Xg17 0 ?_
        refine t 105 (.slice ao2 cnt2 cp2) ?_
        obtain ⟨pbr, zzr, Dr⟩ := DB.k hs2 BB (fun b hb => Nat.le_trans hwB (A.sx.kb b hb)) (x := g17) nXg17
        have hsmr := DB.sm hs2
        have fewr := hs2.1
        refine tc 106 32 #[pg g0, .agg #[.int .u64 0, .int .u64 0, .slice aq113 nq113 cq113, .bool false, .int .u64 0, .bool false, .int .u64 (0 + (cnt : Int) + 1 + 1), .slice aq114 nq114 cq114, .slice aq115 nq115 cq115, .slice aq116 nq116 cq116], .slice ao2 cnt2 cp2] (pay_any (la := 0 + (cnt : Int) + 1) A.sx Fc ⟨by omega, by omega⟩ Qq113 (by omega) Qq114 (by omega) Qq115 (by omega) Qq116 (by omega) Dr hsmr (by omega) hR1c (by omega) (by omega)) ?_
        rintro _ v125 ⟨ar0, nr0, cr0, zr0, ar1, nr1, cr1, zr1, ar2, nr2, cr2, zr2, ar3, nr3, cr3, zr3, K122, n123, N124, Er, Rr, rfl, S, qn123, qN124, hK, hC, ⟨Qr0, mr0, fr0⟩, ⟨Qr1, mr1, fr1⟩, ⟨Qr2, mr2, fr2⟩, ⟨Qr3, mr3, fr3⟩, Fr, hsr, rlr⟩
        refine ⟨_, rfl, ?_⟩
        have eQr0g17 : Ap _ _ _ := ne5 fr0 Xg17.lt eQq113g17
        have eQr0g36 : Ap _ _ _ := ne5 fr0 Xg36.lt eQq113g36
        have eQr0g46 : Ap _ _ _ := ne5 fr0 Xg46.lt eQq113g46
        have eQr0gdc : Ap _ _ _ := ne5 fr0 Xgdc.lt eQq113gdc
        have eQr0g96 : Ap _ _ _ := ne5 fr0 Xg96.lt eQq113g96
        have eQr0g101 : Ap _ _ _ := ne5 fr0 Xg101.lt eQq113g101
        have eQr1g17 : Ap _ _ _ := ne5 fr1 Xg17.lt eQq114g17
        have eQr1g36 : Ap _ _ _ := ne5 fr1 Xg36.lt eQq114g36
        have eQr1g46 : Ap _ _ _ := ne5 fr1 Xg46.lt eQq114g46
        have eQr1gdc : Ap _ _ _ := ne5 fr1 Xgdc.lt eQq114gdc
        have eQr1g96 : Ap _ _ _ := ne5 fr1 Xg96.lt eQq114g96
        have eQr1g101 : Ap _ _ _ := ne5 fr1 Xg101.lt eQq114g101
        have eQr2g17 : Ap _ _ _ := ne5 fr2 Xg17.lt eQq115g17
        have eQr2g36 : Ap _ _ _ := ne5 fr2 Xg36.lt eQq115g36
        have eQr2g46 : Ap _ _ _ := ne5 fr2 Xg46.lt eQq115g46
        have eQr2gdc : Ap _ _ _ := ne5 fr2 Xgdc.lt eQq115gdc
        have eQr2g96 : Ap _ _ _ := ne5 fr2 Xg96.lt eQq115g96
        have eQr2g101 : Ap _ _ _ := ne5 fr2 Xg101.lt eQq115g101
        have eQr3g17 : Ap _ _ _ := ne5 fr3 Xg17.lt eQq116g17
        have eQr3g36 : Ap _ _ _ := ne5 fr3 Xg36.lt eQq116g36
        have eQr3g46 : Ap _ _ _ := ne5 fr3 Xg46.lt eQq116g46
        have eQr3gdc : Ap _ _ _ := ne5 fr3 Xgdc.lt eQq116gdc
        have eQr3g96 : Ap _ _ _ := ne5 fr3 Xg96.lt eQq116g96
        have eQr3g101 : Ap _ _ _ := ne5 fr3 Xg101.lt eQq116g101
        clear fr0 fr1 fr2 fr3
        replace BB := belowO BB hC (fun b hb => Nat.le_trans hwB (A.sx.kb b hb))
        have mXg17 := not_opF Xg17 nXg17 hK
        replace Xg17 := Xg17.chg hC nXg17
        replace nXg17 := mXg17
        clear mXg17
        have mXg36 := not_opF Xg36 nXg36 hK
        replace Xg36 := Xg36.chg hC nXg36
        replace nXg36 := mXg36
        clear mXg36
        have mXg46 := not_opF Xg46 nXg46 hK
        replace Xg46 := Xg46.chg hC nXg46
        replace nXg46 := mXg46
        clear mXg46
        have mXgdc := not_opF Xgdc nXgdc hK
        replace Xgdc := Xgdc.chg hC nXgdc
        replace nXgdc := mXgdc
        clear mXgdc
        replace Qq29 := Qq29.op hK hC
        replace Qq30 := Qq30.op hK hC
        replace Qq39 := Qq39.op hK hC
        replace Qq40 := Qq40.op hK hC
        replace Qdc0 := Qdc0.op hK hC
        replace Qdc1 := Qdc1.op hK hC
        replace Qq89 := Qq89.op hK hC
        replace Qq90 := Qq90.op hK hC
        have mXg96 := not_opF Xg96 nXg96 hK
        replace Xg96 := Xg96.chg hC nXg96
        replace nXg96 := mXg96
        clear mXg96
        replace Qq98 := Qq98.op hK hC
        have mXg101 := not_opF Xg101 nXg101 hK
        replace Xg101 := Xg101.chg hC nXg101
        replace nXg101 := mXg101
        clear mXg101
        replace Qq113 := Qq113.op hK hC
        replace Qq114 := Qq114.op hK hC
        replace Qq115 := Qq115.op hK hC
        replace Qq116 := Qq116.op hK hC
        replace A : Al _ _ _ _ _ _ _ _ := ⟨S⟩
        clear S hK hC
        rw [sQ_zero] at rlr
        have y0 : Rr 0 = 0 := (hsr 0 (by omega)).trans k0
        have y1 : Rr (0 + (cnt : Int)) = S1 := (hsr _ (by omega)).trans k2
        have y3 : Rr (0 + (cnt : Int) + 1) = S1 := (hsr _ (Int.le_refl _)).trans k1
        refine ts Xg17 0 (.agg #[.int .u64 0, .int .u64 0, .slice ar0 nr0 cr0, .bool false, .int .u64 0, .bool false, .int .u64 (0 + (cnt : Int) + 1 + (cnt2 : Int) + 1), .slice ar1 nr1 cr1, .slice ar2 nr2 cr2, .slice ar3 nr3 cr3]) [.int .u64 0, .int .u64 0, .slice ar0 nr0 cr0, .bool false, .int .u64 0, .bool false, .int .u64 (0 + (cnt : Int) + 1 + (cnt2 : Int) + 1), .slice ar1 nr1 cr1, .slice ar2 nr2 cr2, .slice ar3 nr3 cr3] [.int .u64 0, .int .u64 0, .slice ar0 nr0 cr0, .bool false, .int .u64 0, .bool false, .int .u64 (0 + (cnt : Int) + 1 + (cnt2 : Int) + 1), .slice ar1 nr1 cr1, .slice ar2 nr2 cr2, .slice ar3 nr3 cr3] ?_
        intro v126 Y C
        replace BB := belowC BB C yg17
        replace A := A.cell Xg17 C nXg17 (by decide)
        replace Xg36 := Xg36.chg C (show g36 ≠ g17 by omega)
        replace Xg46 := Xg46.chg C (show g46 ≠ g17 by omega)
        replace Xgdc := Xgdc.chg C (show gdc ≠ g17 by omega)
        replace Qq29 := Qq29.cell C eQq29g17
        replace Qq30 := Qq30.cell C eQq30g17
        replace Qq39 := Qq39.cell C eQq39g17
        replace Qq40 := Qq40.cell C eQq40g17
        replace Qdc0 := Qdc0.cell C eQdc0g17
        replace Qdc1 := Qdc1.cell C eQdc1g17
        replace Qq89 := Qq89.cell C eQq89g17
        replace Qq90 := Qq90.cell C eQq90g17
        replace Xg96 := Xg96.chg C (show g96 ≠ g17 by omega)
        replace Qq98 := Qq98.cell C eQq98g17
        replace Xg101 := Xg101.chg C (show g101 ≠ g17 by omega)
        replace Qq113 := Qq113.cell C eQq113g17
        replace Qq114 := Qq114.cell C eQq114g17
        replace Qq115 := Qq115.cell C eQq115g17
        replace Qq116 := Qq116.cell C eQq116g17
        replace Qr0 := Qr0.cell C eQr0g17
        replace Qr1 := Qr1.cell C eQr1g17
        replace Qr2 := Qr2.cell C eQr2g17
        replace Qr3 := Qr3.cell C eQr3g17
        clear C Xg17
        have Xg17 := Y
        clear Y
        refine gl_nil ?_
        refine ge_then ?_
        clear Qq113
        clear Qq114
        clear Qq115
        clear Qq116
        refine gc_fr [(4, .bool ct), (12, pg g0), (13, pg g17), (16, pg g36), (17, pg g46), (18, pg gdc), (19, pg g96), (20, pg g101)] (by kernel_rfl) ?_
        refine gc_seq ?_
        refine gc_reg ?_
        refine t 108 (pg g0) ?_
        refine tlr 109 [.int .u64 0, .int .u64 0, .slice ar0 nr0 cr0, .bool false, .int .u64 0, .bool false, .int .u64 (0 + (cnt : Int) + 1 + (cnt2 : Int) + 1), .slice ar1 nr1 cr1, .slice ar2 nr2 cr2, .slice ar3 nr3 cr3] Xg17 0 ?_
        refine tlr 110 [.slice aq29 nq29 cq29, .int .u64 0, .slice aq30 nq30 cq30] Xg36 0 ?_
        refine tc 111 20 #[pg g0, .int .u64 16, .agg #[.int .u64 0, .int .u64 0, .slice ar0 nr0 cr0, .bool false, .int .u64 0, .bool false, .int .u64 (0 + (cnt : Int) + 1 + (cnt2 : Int) + 1), .slice ar1 nr1 cr1, .slice ar2 nr2 cr2, .slice ar3 nr3 cr3], .agg #[.slice aq29 nq29 cq29, .int .u64 0, .slice aq30 nq30 cq30]] (ClmE.cast (c' := 1) (V' := (zv * S1 / U36)) (claim_fs (la := 0 + (cnt : Int) + 1 + (cnt2 : Int)) A.sx Fr Qq30 (by omega) (by simp) (by omega) (by simp) (by omega) (by omega)) (by rw [aft_one (by omega)]; rfl) (by rw [aft_one (by omega), cmV_cut (by omega), y3, y0]; congr 2; omega)) ?_
        rintro _ v128 ⟨aq127, nq127, cq127, zq127, rfl, S, C, Qq127, mq127, hq127⟩
        refine ⟨_, rfl, ?_⟩
        have eQq127g17 : Ap _ _ _ := ne2 hq127 Xg17.lt
        have eQq127g36 : Ap _ _ _ := ne2 hq127 Xg36.lt
        have eQq127g46 : Ap _ _ _ := ne2 hq127 Xg46.lt
        have eQq127gdc : Ap _ _ _ := ne2 hq127 Xgdc.lt
        have eQq127g96 : Ap _ _ _ := ne2 hq127 Xg96.lt
        have eQq127g101 : Ap _ _ _ := ne2 hq127 Xg101.lt
        clear hq127
        have hC := C.mono (fun b _ (e : b = g0) => e ▸ A.sx.sa.top)
        replace BB := belowO BB hC (fun b hb => Nat.le_trans hwB (A.sx.kb b hb))
        have mXg17 := not_opF Xg17 nXg17 (fun _ h => .inl h)
        replace Xg17 := Xg17.chg hC nXg17
        replace nXg17 := mXg17
        clear mXg17
        have mXg36 := not_opF Xg36 nXg36 (fun _ h => .inl h)
        replace Xg36 := Xg36.chg hC nXg36
        replace nXg36 := mXg36
        clear mXg36
        have mXg46 := not_opF Xg46 nXg46 (fun _ h => .inl h)
        replace Xg46 := Xg46.chg hC nXg46
        replace nXg46 := mXg46
        clear mXg46
        have mXgdc := not_opF Xgdc nXgdc (fun _ h => .inl h)
        replace Xgdc := Xgdc.chg hC nXgdc
        replace nXgdc := mXgdc
        clear mXgdc
        replace Qq29 := Qq29.op (fun _ h => .inl h) hC
        replace Qq30 := Qq30.op (fun _ h => .inl h) hC
        replace Qq39 := Qq39.op (fun _ h => .inl h) hC
        replace Qq40 := Qq40.op (fun _ h => .inl h) hC
        replace Qdc0 := Qdc0.op (fun _ h => .inl h) hC
        replace Qdc1 := Qdc1.op (fun _ h => .inl h) hC
        replace Qq89 := Qq89.op (fun _ h => .inl h) hC
        replace Qq90 := Qq90.op (fun _ h => .inl h) hC
        have mXg96 := not_opF Xg96 nXg96 (fun _ h => .inl h)
        replace Xg96 := Xg96.chg hC nXg96
        replace nXg96 := mXg96
        clear mXg96
        replace Qq98 := Qq98.op (fun _ h => .inl h) hC
        have mXg101 := not_opF Xg101 nXg101 (fun _ h => .inl h)
        replace Xg101 := Xg101.chg hC nXg101
        replace nXg101 := mXg101
        clear mXg101
        replace Qr0 := Qr0.op (fun _ h => .inl h) hC
        replace Qr1 := Qr1.op (fun _ h => .inl h) hC
        replace Qr2 := Qr2.op (fun _ h => .inl h) hC
        replace Qr3 := Qr3.op (fun _ h => .inl h) hC
        replace A : Al _ _ _ _ _ _ _ _ := ⟨S⟩
        clear S hC C
        refine t 107 (.tuple #[.agg #[.slice aq127 nq127 cq127], .int .i64 1]) ?_
        refine t 112 (.agg #[.slice aq127 nq127 cq127]) ?_
        refine t 113 (.int .i64 1) ?_
        have lXg17 := Xg17.lt
        have lXg36 := Xg36.lt
        have lXg46 := Xg46.lt
        have lXgdc := Xgdc.lt
        have lXg96 := Xg96.lt
        have lXg101 := Xg101.lt
        refine ta 22 [.slice none 0 0] 32 (pg) ?_
        intro v129 g130 Xg130 hg130 B
        have yg130 := Nat.le_trans BB.size hg130
        have nXg130 := A.new hg130
        have eQq29g130 : Ap _ _ _ := ne1 Qq29.lt hg130
        have eQq30g130 : Ap _ _ _ := ne1 Qq30.lt hg130
        have eQq39g130 : Ap _ _ _ := ne1 Qq39.lt hg130
        have eQq40g130 : Ap _ _ _ := ne1 Qq40.lt hg130
        have eQdc0g130 : Ap _ _ _ := ne1 Qdc0.lt hg130
        have eQdc1g130 : Ap _ _ _ := ne1 Qdc1.lt hg130
        have eQq89g130 : Ap _ _ _ := ne1 Qq89.lt hg130
        have eQq90g130 : Ap _ _ _ := ne1 Qq90.lt hg130
        have eQq98g130 : Ap _ _ _ := ne1 Qq98.lt hg130
        have eQr0g130 : Ap _ _ _ := ne1 Qr0.lt hg130
        have eQr1g130 : Ap _ _ _ := ne1 Qr1.lt hg130
        have eQr2g130 : Ap _ _ _ := ne1 Qr2.lt hg130
        have eQr3g130 : Ap _ _ _ := ne1 Qr3.lt hg130
        have eQq127g130 : Ap _ _ _ := ne1 Qq127.lt hg130
        replace BB := joinB BB B
        replace A := A.keep B
        replace Xg17 := Xg17.keep B
        replace Xg36 := Xg36.keep B
        replace Xg46 := Xg46.keep B
        replace Xgdc := Xgdc.keep B
        replace Qq29 := Qq29.keep B
        replace Qq30 := Qq30.keep B
        replace Qq39 := Qq39.keep B
        replace Qq40 := Qq40.keep B
        replace Qdc0 := Qdc0.keep B
        replace Qdc1 := Qdc1.keep B
        replace Qq89 := Qq89.keep B
        replace Qq90 := Qq90.keep B
        replace Xg96 := Xg96.keep B
        replace Qq98 := Qq98.keep B
        replace Xg101 := Xg101.keep B
        replace Qr0 := Qr0.keep B
        replace Qr1 := Qr1.keep B
        replace Qr2 := Qr2.keep B
        replace Qr3 := Qr3.keep B
        replace Qq127 := Qq127.keep B
        clear B
        refine ts Xg130 0 (.agg #[.slice aq127 nq127 cq127]) [.slice aq127 nq127 cq127] [.slice aq127 nq127 cq127] ?_
        intro v131 Y C
        replace BB := belowC BB C yg130
        replace A := A.cell Xg130 C nXg130 (by decide)
        replace Xg17 := Xg17.chg C (show g17 ≠ g130 by omega)
        replace Xg36 := Xg36.chg C (show g36 ≠ g130 by omega)
        replace Xg46 := Xg46.chg C (show g46 ≠ g130 by omega)
        replace Xgdc := Xgdc.chg C (show gdc ≠ g130 by omega)
        replace Qq29 := Qq29.cell C eQq29g130
        replace Qq30 := Qq30.cell C eQq30g130
        replace Qq39 := Qq39.cell C eQq39g130
        replace Qq40 := Qq40.cell C eQq40g130
        replace Qdc0 := Qdc0.cell C eQdc0g130
        replace Qdc1 := Qdc1.cell C eQdc1g130
        replace Qq89 := Qq89.cell C eQq89g130
        replace Qq90 := Qq90.cell C eQq90g130
        replace Xg96 := Xg96.chg C (show g96 ≠ g130 by omega)
        replace Qq98 := Qq98.cell C eQq98g130
        replace Xg101 := Xg101.chg C (show g101 ≠ g130 by omega)
        replace Qr0 := Qr0.cell C eQr0g130
        replace Qr1 := Qr1.cell C eQr1g130
        replace Qr2 := Qr2.cell C eQr2g130
        replace Qr3 := Qr3.cell C eQr3g130
        replace Qq127 := Qq127.cell C eQq127g130
        clear C Xg130
        have Xg130 := Y
        clear Y
        refine t 23 (.int .i64 1) ?_
        refine gl_nil ?_
        refine ge_then ?_
        clear Xg36
        clear Qq29
        clear Qq30
        refine gc_seq ?_
        refine gc_reg ?_
        refine t 115 (pg g0) ?_
        refine tlr 116 [.int .u64 0, .int .u64 0, .slice ar0 nr0 cr0, .bool false, .int .u64 0, .bool false, .int .u64 (0 + (cnt : Int) + 1 + (cnt2 : Int) + 1), .slice ar1 nr1 cr1, .slice ar2 nr2 cr2, .slice ar3 nr3 cr3] Xg17 0 ?_
        refine tlr 117 [.slice aq39 nq39 cq39, .int .u64 0, .slice aq40 nq40 cq40] Xg46 0 ?_
        refine tc 118 20 #[pg g0, .int .u64 16, .agg #[.int .u64 0, .int .u64 0, .slice ar0 nr0 cr0, .bool false, .int .u64 0, .bool false, .int .u64 (0 + (cnt : Int) + 1 + (cnt2 : Int) + 1), .slice ar1 nr1 cr1, .slice ar2 nr2 cr2, .slice ar3 nr3 cr3], .agg #[.slice aq39 nq39 cq39, .int .u64 0, .slice aq40 nq40 cq40]] (ClmE.cast (c' := 1) (V' := (zv * S1 / U36)) (claim_fs (la := 0 + (cnt : Int) + 1 + (cnt2 : Int)) A.sx Fr Qq40 (by omega) (by simp) (by omega) (by simp) (by omega) (by omega)) (by rw [aft_one (by omega)]; rfl) (by rw [aft_one (by omega), cmV_cut (by omega), y3, y0]; congr 2; omega)) ?_
        rintro _ v133 ⟨aq132, nq132, cq132, zq132, rfl, S, C, Qq132, mq132, hq132⟩
        refine ⟨_, rfl, ?_⟩
        have eQq132g17 : Ap _ _ _ := ne2 hq132 Xg17.lt
        have eQq132g46 : Ap _ _ _ := ne2 hq132 Xg46.lt
        have eQq132gdc : Ap _ _ _ := ne2 hq132 Xgdc.lt
        have eQq132g96 : Ap _ _ _ := ne2 hq132 Xg96.lt
        have eQq132g101 : Ap _ _ _ := ne2 hq132 Xg101.lt
        have eQq132g130 : Ap _ _ _ := ne2 hq132 Xg130.lt
        clear hq132
        have hC := C.mono (fun b _ (e : b = g0) => e ▸ A.sx.sa.top)
        replace BB := belowO BB hC (fun b hb => Nat.le_trans hwB (A.sx.kb b hb))
        have mXg17 := not_opF Xg17 nXg17 (fun _ h => .inl h)
        replace Xg17 := Xg17.chg hC nXg17
        replace nXg17 := mXg17
        clear mXg17
        have mXg46 := not_opF Xg46 nXg46 (fun _ h => .inl h)
        replace Xg46 := Xg46.chg hC nXg46
        replace nXg46 := mXg46
        clear mXg46
        have mXgdc := not_opF Xgdc nXgdc (fun _ h => .inl h)
        replace Xgdc := Xgdc.chg hC nXgdc
        replace nXgdc := mXgdc
        clear mXgdc
        replace Qq39 := Qq39.op (fun _ h => .inl h) hC
        replace Qq40 := Qq40.op (fun _ h => .inl h) hC
        replace Qdc0 := Qdc0.op (fun _ h => .inl h) hC
        replace Qdc1 := Qdc1.op (fun _ h => .inl h) hC
        replace Qq89 := Qq89.op (fun _ h => .inl h) hC
        replace Qq90 := Qq90.op (fun _ h => .inl h) hC
        have mXg96 := not_opF Xg96 nXg96 (fun _ h => .inl h)
        replace Xg96 := Xg96.chg hC nXg96
        replace nXg96 := mXg96
        clear mXg96
        replace Qq98 := Qq98.op (fun _ h => .inl h) hC
        have mXg101 := not_opF Xg101 nXg101 (fun _ h => .inl h)
        replace Xg101 := Xg101.chg hC nXg101
        replace nXg101 := mXg101
        clear mXg101
        replace Qr0 := Qr0.op (fun _ h => .inl h) hC
        replace Qr1 := Qr1.op (fun _ h => .inl h) hC
        replace Qr2 := Qr2.op (fun _ h => .inl h) hC
        replace Qr3 := Qr3.op (fun _ h => .inl h) hC
        replace Qq127 := Qq127.op (fun _ h => .inl h) hC
        have mXg130 := not_opF Xg130 nXg130 (fun _ h => .inl h)
        replace Xg130 := Xg130.chg hC nXg130
        replace nXg130 := mXg130
        clear mXg130
        replace A : Al _ _ _ _ _ _ _ _ := ⟨S⟩
        clear S hC C
        refine t 114 (.tuple #[.agg #[.slice aq132 nq132 cq132], .int .i64 1]) ?_
        refine t 119 (.agg #[.slice aq132 nq132 cq132]) ?_
        refine t 120 (.int .i64 1) ?_
        have lXg17 := Xg17.lt
        have lXg46 := Xg46.lt
        have lXgdc := Xgdc.lt
        have lXg96 := Xg96.lt
        have lXg101 := Xg101.lt
        have lXg130 := Xg130.lt
        refine ta 24 [.slice none 0 0] 32 (pg) ?_
        intro v134 g135 Xg135 hg135 B
        have yg135 := Nat.le_trans BB.size hg135
        have nXg135 := A.new hg135
        have eQq39g135 : Ap _ _ _ := ne1 Qq39.lt hg135
        have eQq40g135 : Ap _ _ _ := ne1 Qq40.lt hg135
        have eQdc0g135 : Ap _ _ _ := ne1 Qdc0.lt hg135
        have eQdc1g135 : Ap _ _ _ := ne1 Qdc1.lt hg135
        have eQq89g135 : Ap _ _ _ := ne1 Qq89.lt hg135
        have eQq90g135 : Ap _ _ _ := ne1 Qq90.lt hg135
        have eQq98g135 : Ap _ _ _ := ne1 Qq98.lt hg135
        have eQr0g135 : Ap _ _ _ := ne1 Qr0.lt hg135
        have eQr1g135 : Ap _ _ _ := ne1 Qr1.lt hg135
        have eQr2g135 : Ap _ _ _ := ne1 Qr2.lt hg135
        have eQr3g135 : Ap _ _ _ := ne1 Qr3.lt hg135
        have eQq127g135 : Ap _ _ _ := ne1 Qq127.lt hg135
        have eQq132g135 : Ap _ _ _ := ne1 Qq132.lt hg135
        replace BB := joinB BB B
        replace A := A.keep B
        replace Xg17 := Xg17.keep B
        replace Xg46 := Xg46.keep B
        replace Xgdc := Xgdc.keep B
        replace Qq39 := Qq39.keep B
        replace Qq40 := Qq40.keep B
        replace Qdc0 := Qdc0.keep B
        replace Qdc1 := Qdc1.keep B
        replace Qq89 := Qq89.keep B
        replace Qq90 := Qq90.keep B
        replace Xg96 := Xg96.keep B
        replace Qq98 := Qq98.keep B
        replace Xg101 := Xg101.keep B
        replace Qr0 := Qr0.keep B
        replace Qr1 := Qr1.keep B
        replace Qr2 := Qr2.keep B
        replace Qr3 := Qr3.keep B
        replace Qq127 := Qq127.keep B
        replace Xg130 := Xg130.keep B
        replace Qq132 := Qq132.keep B
        clear B
        refine ts Xg135 0 (.agg #[.slice aq132 nq132 cq132]) [.slice aq132 nq132 cq132] [.slice aq132 nq132 cq132] ?_
        intro v136 Y C
        replace BB := belowC BB C yg135
        replace A := A.cell Xg135 C nXg135 (by decide)
        replace Xg17 := Xg17.chg C (show g17 ≠ g135 by omega)
        replace Xg46 := Xg46.chg C (show g46 ≠ g135 by omega)
        replace Xgdc := Xgdc.chg C (show gdc ≠ g135 by omega)
        replace Qq39 := Qq39.cell C eQq39g135
        replace Qq40 := Qq40.cell C eQq40g135
        replace Qdc0 := Qdc0.cell C eQdc0g135
        replace Qdc1 := Qdc1.cell C eQdc1g135
        replace Qq89 := Qq89.cell C eQq89g135
        replace Qq90 := Qq90.cell C eQq90g135
        replace Xg96 := Xg96.chg C (show g96 ≠ g135 by omega)
        replace Qq98 := Qq98.cell C eQq98g135
        replace Xg101 := Xg101.chg C (show g101 ≠ g135 by omega)
        replace Qr0 := Qr0.cell C eQr0g135
        replace Qr1 := Qr1.cell C eQr1g135
        replace Qr2 := Qr2.cell C eQr2g135
        replace Qr3 := Qr3.cell C eQr3g135
        replace Qq127 := Qq127.cell C eQq127g135
        replace Xg130 := Xg130.chg C (show g130 ≠ g135 by omega)
        replace Qq132 := Qq132.cell C eQq132g135
        clear C Xg135
        have Xg135 := Y
        clear Y
        refine t 25 (.int .i64 1) ?_
        refine gl_nil ?_
        refine ge_then ?_
        clear Xg46
        clear Qq39
        clear Qq40
        refine gc_fr [(4, .bool ct), (12, pg g0), (13, pg g17), (18, pg gdc), (19, pg g96), (20, pg g101), (22, pg g130), (24, pg g135), (25, .int .i64 1)] (by kernel_rfl) ?_
        refine gc_seq ?_
        refine gc_reg ?_
        refine t 122 (pg g0) ?_
        refine tlr 123 [.int .u64 0, .int .u64 0, .slice ar0 nr0 cr0, .bool false, .int .u64 0, .bool false, .int .u64 (0 + (cnt : Int) + 1 + (cnt2 : Int) + 1), .slice ar1 nr1 cr1, .slice ar2 nr2 cr2, .slice ar3 nr3 cr3] Xg17 0 ?_
        refine tlr 124 [.slice a0c k0c c0c, .int .u64 0, .slice a1c k1c c1c] Xgdc 0 ?_
        refine tc 125 20 #[pg g0, .int .u64 16, .agg #[.int .u64 0, .int .u64 0, .slice ar0 nr0 cr0, .bool false, .int .u64 0, .bool false, .int .u64 (0 + (cnt : Int) + 1 + (cnt2 : Int) + 1), .slice ar1 nr1 cr1, .slice ar2 nr2 cr2, .slice ar3 nr3 cr3], .agg #[.slice a0c k0c c0c, .int .u64 0, .slice a1c k1c c1c]] (ClmE.cast (c' := 1) (V' := ((zv + zv) * S1 / U36)) (claim_fs (la := 0 + (cnt : Int) + 1 + (cnt2 : Int)) A.sx Fr Qdc1 (by omega) (by simp) (by omega) (by simp) (by omega) (by omega)) (by rw [aft_one (by omega)]; rfl) (by rw [aft_one (by omega), cmV_cut (by omega), y3, y0]; congr 2; omega)) ?_
        rintro _ v138 ⟨aq137, nq137, cq137, zq137, rfl, S, C, Qq137, mq137, hq137⟩
        refine ⟨_, rfl, ?_⟩
        have eQq137g17 : Ap _ _ _ := ne2 hq137 Xg17.lt
        have eQq137gdc : Ap _ _ _ := ne2 hq137 Xgdc.lt
        have eQq137g96 : Ap _ _ _ := ne2 hq137 Xg96.lt
        have eQq137g101 : Ap _ _ _ := ne2 hq137 Xg101.lt
        have eQq137g130 : Ap _ _ _ := ne2 hq137 Xg130.lt
        have eQq137g135 : Ap _ _ _ := ne2 hq137 Xg135.lt
        clear hq137
        have hC := C.mono (fun b _ (e : b = g0) => e ▸ A.sx.sa.top)
        replace BB := belowO BB hC (fun b hb => Nat.le_trans hwB (A.sx.kb b hb))
        have mXg17 := not_opF Xg17 nXg17 (fun _ h => .inl h)
        replace Xg17 := Xg17.chg hC nXg17
        replace nXg17 := mXg17
        clear mXg17
        have mXgdc := not_opF Xgdc nXgdc (fun _ h => .inl h)
        replace Xgdc := Xgdc.chg hC nXgdc
        replace nXgdc := mXgdc
        clear mXgdc
        replace Qdc0 := Qdc0.op (fun _ h => .inl h) hC
        replace Qdc1 := Qdc1.op (fun _ h => .inl h) hC
        replace Qq89 := Qq89.op (fun _ h => .inl h) hC
        replace Qq90 := Qq90.op (fun _ h => .inl h) hC
        have mXg96 := not_opF Xg96 nXg96 (fun _ h => .inl h)
        replace Xg96 := Xg96.chg hC nXg96
        replace nXg96 := mXg96
        clear mXg96
        replace Qq98 := Qq98.op (fun _ h => .inl h) hC
        have mXg101 := not_opF Xg101 nXg101 (fun _ h => .inl h)
        replace Xg101 := Xg101.chg hC nXg101
        replace nXg101 := mXg101
        clear mXg101
        replace Qr0 := Qr0.op (fun _ h => .inl h) hC
        replace Qr1 := Qr1.op (fun _ h => .inl h) hC
        replace Qr2 := Qr2.op (fun _ h => .inl h) hC
        replace Qr3 := Qr3.op (fun _ h => .inl h) hC
        replace Qq127 := Qq127.op (fun _ h => .inl h) hC
        have mXg130 := not_opF Xg130 nXg130 (fun _ h => .inl h)
        replace Xg130 := Xg130.chg hC nXg130
        replace nXg130 := mXg130
        clear mXg130
        replace Qq132 := Qq132.op (fun _ h => .inl h) hC
        have mXg135 := not_opF Xg135 nXg135 (fun _ h => .inl h)
        replace Xg135 := Xg135.chg hC nXg135
        replace nXg135 := mXg135
        clear mXg135
        replace A : Al _ _ _ _ _ _ _ _ := ⟨S⟩
        clear S hC C
        refine t 121 (.tuple #[.agg #[.slice aq137 nq137 cq137], .int .i64 1]) ?_
        refine t 126 (.agg #[.slice aq137 nq137 cq137]) ?_
        refine t 127 (.int .i64 1) ?_
        have lXg17 := Xg17.lt
        have lXgdc := Xgdc.lt
        have lXg96 := Xg96.lt
        have lXg101 := Xg101.lt
        have lXg130 := Xg130.lt
        have lXg135 := Xg135.lt
        refine ta 26 [.slice none 0 0] 32 (pg) ?_
        intro v139 g140 Xg140 hg140 B
        have yg140 := Nat.le_trans BB.size hg140
        have nXg140 := A.new hg140
        have eQdc0g140 : Ap _ _ _ := ne1 Qdc0.lt hg140
        have eQdc1g140 : Ap _ _ _ := ne1 Qdc1.lt hg140
        have eQq89g140 : Ap _ _ _ := ne1 Qq89.lt hg140
        have eQq90g140 : Ap _ _ _ := ne1 Qq90.lt hg140
        have eQq98g140 : Ap _ _ _ := ne1 Qq98.lt hg140
        have eQr0g140 : Ap _ _ _ := ne1 Qr0.lt hg140
        have eQr1g140 : Ap _ _ _ := ne1 Qr1.lt hg140
        have eQr2g140 : Ap _ _ _ := ne1 Qr2.lt hg140
        have eQr3g140 : Ap _ _ _ := ne1 Qr3.lt hg140
        have eQq127g140 : Ap _ _ _ := ne1 Qq127.lt hg140
        have eQq132g140 : Ap _ _ _ := ne1 Qq132.lt hg140
        have eQq137g140 : Ap _ _ _ := ne1 Qq137.lt hg140
        replace BB := joinB BB B
        replace A := A.keep B
        replace Xg17 := Xg17.keep B
        replace Xgdc := Xgdc.keep B
        replace Qdc0 := Qdc0.keep B
        replace Qdc1 := Qdc1.keep B
        replace Qq89 := Qq89.keep B
        replace Qq90 := Qq90.keep B
        replace Xg96 := Xg96.keep B
        replace Qq98 := Qq98.keep B
        replace Xg101 := Xg101.keep B
        replace Qr0 := Qr0.keep B
        replace Qr1 := Qr1.keep B
        replace Qr2 := Qr2.keep B
        replace Qr3 := Qr3.keep B
        replace Qq127 := Qq127.keep B
        replace Xg130 := Xg130.keep B
        replace Qq132 := Qq132.keep B
        replace Xg135 := Xg135.keep B
        replace Qq137 := Qq137.keep B
        clear B
        refine ts Xg140 0 (.agg #[.slice aq137 nq137 cq137]) [.slice aq137 nq137 cq137] [.slice aq137 nq137 cq137] ?_
        intro v141 Y C
        replace BB := belowC BB C yg140
        replace A := A.cell Xg140 C nXg140 (by decide)
        replace Xg17 := Xg17.chg C (show g17 ≠ g140 by omega)
        replace Xgdc := Xgdc.chg C (show gdc ≠ g140 by omega)
        replace Qdc0 := Qdc0.cell C eQdc0g140
        replace Qdc1 := Qdc1.cell C eQdc1g140
        replace Qq89 := Qq89.cell C eQq89g140
        replace Qq90 := Qq90.cell C eQq90g140
        replace Xg96 := Xg96.chg C (show g96 ≠ g140 by omega)
        replace Qq98 := Qq98.cell C eQq98g140
        replace Xg101 := Xg101.chg C (show g101 ≠ g140 by omega)
        replace Qr0 := Qr0.cell C eQr0g140
        replace Qr1 := Qr1.cell C eQr1g140
        replace Qr2 := Qr2.cell C eQr2g140
        replace Qr3 := Qr3.cell C eQr3g140
        replace Qq127 := Qq127.cell C eQq127g140
        replace Xg130 := Xg130.chg C (show g130 ≠ g140 by omega)
        replace Qq132 := Qq132.cell C eQq132g140
        replace Xg135 := Xg135.chg C (show g135 ≠ g140 by omega)
        replace Qq137 := Qq137.cell C eQq137g140
        clear C Xg140
        have Xg140 := Y
        clear Y
        refine t 27 (.int .i64 1) ?_
        refine gl_nil ?_
        refine ge_then ?_
        clear Xgdc
        clear Qdc0
        clear Qdc1
        refine gc_seq ?_
        refine gc_reg ?_
        refine t 129 (pg g0) ?_
        refine tlr 130 [.int .u64 0, .int .u64 0, .slice ar0 nr0 cr0, .bool false, .int .u64 0, .bool false, .int .u64 (0 + (cnt : Int) + 1 + (cnt2 : Int) + 1), .slice ar1 nr1 cr1, .slice ar2 nr2 cr2, .slice ar3 nr3 cr3] Xg17 0 ?_
        refine tlr 131 [.slice aq89 nq89 cq89, .int .u64 (0 + (cnt : Int)), .slice aq90 nq90 cq90] Xg96 0 ?_
        refine tc 132 20 #[pg g0, .int .u64 16, .agg #[.int .u64 0, .int .u64 0, .slice ar0 nr0 cr0, .bool false, .int .u64 0, .bool false, .int .u64 (0 + (cnt : Int) + 1 + (cnt2 : Int) + 1), .slice ar1 nr1 cr1, .slice ar2 nr2 cr2, .slice ar3 nr3 cr3], .agg #[.slice aq89 nq89 cq89, .int .u64 (0 + (cnt : Int)), .slice aq90 nq90 cq90]] (ClmE.cast (c' := 1) (V' := 0) (claim_fs (la := 0 + (cnt : Int) + 1 + (cnt2 : Int)) A.sx Fr Qq90 (by omega) (by simp) (by omega) (by simp) (by omega) (by omega)) (by rw [aft_one (by omega)]; rfl) (by rw [aft_one (by omega), cmV_cut (by omega), y3, y1]; rw [Int.sub_self, Int.mul_zero, Int.zero_ediv])) ?_
        rintro _ v143 ⟨aq142, nq142, cq142, zq142, rfl, S, C, Qq142, mq142, hq142⟩
        refine ⟨_, rfl, ?_⟩
        have eQq142g17 : Ap _ _ _ := ne2 hq142 Xg17.lt
        have eQq142g96 : Ap _ _ _ := ne2 hq142 Xg96.lt
        have eQq142g101 : Ap _ _ _ := ne2 hq142 Xg101.lt
        have eQq142g130 : Ap _ _ _ := ne2 hq142 Xg130.lt
        have eQq142g135 : Ap _ _ _ := ne2 hq142 Xg135.lt
        have eQq142g140 : Ap _ _ _ := ne2 hq142 Xg140.lt
        clear hq142
        have hC := C.mono (fun b _ (e : b = g0) => e ▸ A.sx.sa.top)
        replace BB := belowO BB hC (fun b hb => Nat.le_trans hwB (A.sx.kb b hb))
        have mXg17 := not_opF Xg17 nXg17 (fun _ h => .inl h)
        replace Xg17 := Xg17.chg hC nXg17
        replace nXg17 := mXg17
        clear mXg17
        replace Qq89 := Qq89.op (fun _ h => .inl h) hC
        replace Qq90 := Qq90.op (fun _ h => .inl h) hC
        have mXg96 := not_opF Xg96 nXg96 (fun _ h => .inl h)
        replace Xg96 := Xg96.chg hC nXg96
        replace nXg96 := mXg96
        clear mXg96
        replace Qq98 := Qq98.op (fun _ h => .inl h) hC
        have mXg101 := not_opF Xg101 nXg101 (fun _ h => .inl h)
        replace Xg101 := Xg101.chg hC nXg101
        replace nXg101 := mXg101
        clear mXg101
        replace Qr0 := Qr0.op (fun _ h => .inl h) hC
        replace Qr1 := Qr1.op (fun _ h => .inl h) hC
        replace Qr2 := Qr2.op (fun _ h => .inl h) hC
        replace Qr3 := Qr3.op (fun _ h => .inl h) hC
        replace Qq127 := Qq127.op (fun _ h => .inl h) hC
        have mXg130 := not_opF Xg130 nXg130 (fun _ h => .inl h)
        replace Xg130 := Xg130.chg hC nXg130
        replace nXg130 := mXg130
        clear mXg130
        replace Qq132 := Qq132.op (fun _ h => .inl h) hC
        have mXg135 := not_opF Xg135 nXg135 (fun _ h => .inl h)
        replace Xg135 := Xg135.chg hC nXg135
        replace nXg135 := mXg135
        clear mXg135
        replace Qq137 := Qq137.op (fun _ h => .inl h) hC
        have mXg140 := not_opF Xg140 nXg140 (fun _ h => .inl h)
        replace Xg140 := Xg140.chg hC nXg140
        replace nXg140 := mXg140
        clear mXg140
        replace A : Al _ _ _ _ _ _ _ _ := ⟨S⟩
        clear S hC C
        refine t 128 (.tuple #[.agg #[.slice aq142 nq142 cq142], .int .i64 1]) ?_
        refine t 133 (.agg #[.slice aq142 nq142 cq142]) ?_
        refine t 134 (.int .i64 1) ?_
        have lXg17 := Xg17.lt
        have lXg96 := Xg96.lt
        have lXg101 := Xg101.lt
        have lXg130 := Xg130.lt
        have lXg135 := Xg135.lt
        have lXg140 := Xg140.lt
        refine ta 28 [.slice none 0 0] 32 (pg) ?_
        intro v144 g145 Xg145 hg145 B
        have yg145 := Nat.le_trans BB.size hg145
        have nXg145 := A.new hg145
        have eQq89g145 : Ap _ _ _ := ne1 Qq89.lt hg145
        have eQq90g145 : Ap _ _ _ := ne1 Qq90.lt hg145
        have eQq98g145 : Ap _ _ _ := ne1 Qq98.lt hg145
        have eQr0g145 : Ap _ _ _ := ne1 Qr0.lt hg145
        have eQr1g145 : Ap _ _ _ := ne1 Qr1.lt hg145
        have eQr2g145 : Ap _ _ _ := ne1 Qr2.lt hg145
        have eQr3g145 : Ap _ _ _ := ne1 Qr3.lt hg145
        have eQq127g145 : Ap _ _ _ := ne1 Qq127.lt hg145
        have eQq132g145 : Ap _ _ _ := ne1 Qq132.lt hg145
        have eQq137g145 : Ap _ _ _ := ne1 Qq137.lt hg145
        have eQq142g145 : Ap _ _ _ := ne1 Qq142.lt hg145
        replace BB := joinB BB B
        replace A := A.keep B
        replace Xg17 := Xg17.keep B
        replace Qq89 := Qq89.keep B
        replace Qq90 := Qq90.keep B
        replace Xg96 := Xg96.keep B
        replace Qq98 := Qq98.keep B
        replace Xg101 := Xg101.keep B
        replace Qr0 := Qr0.keep B
        replace Qr1 := Qr1.keep B
        replace Qr2 := Qr2.keep B
        replace Qr3 := Qr3.keep B
        replace Qq127 := Qq127.keep B
        replace Xg130 := Xg130.keep B
        replace Qq132 := Qq132.keep B
        replace Xg135 := Xg135.keep B
        replace Qq137 := Qq137.keep B
        replace Xg140 := Xg140.keep B
        replace Qq142 := Qq142.keep B
        clear B
        refine ts Xg145 0 (.agg #[.slice aq142 nq142 cq142]) [.slice aq142 nq142 cq142] [.slice aq142 nq142 cq142] ?_
        intro v146 Y C
        replace BB := belowC BB C yg145
        replace A := A.cell Xg145 C nXg145 (by decide)
        replace Xg17 := Xg17.chg C (show g17 ≠ g145 by omega)
        replace Qq89 := Qq89.cell C eQq89g145
        replace Qq90 := Qq90.cell C eQq90g145
        replace Xg96 := Xg96.chg C (show g96 ≠ g145 by omega)
        replace Qq98 := Qq98.cell C eQq98g145
        replace Xg101 := Xg101.chg C (show g101 ≠ g145 by omega)
        replace Qr0 := Qr0.cell C eQr0g145
        replace Qr1 := Qr1.cell C eQr1g145
        replace Qr2 := Qr2.cell C eQr2g145
        replace Qr3 := Qr3.cell C eQr3g145
        replace Qq127 := Qq127.cell C eQq127g145
        replace Xg130 := Xg130.chg C (show g130 ≠ g145 by omega)
        replace Qq132 := Qq132.cell C eQq132g145
        replace Xg135 := Xg135.chg C (show g135 ≠ g145 by omega)
        replace Qq137 := Qq137.cell C eQq137g145
        replace Xg140 := Xg140.chg C (show g140 ≠ g145 by omega)
        replace Qq142 := Qq142.cell C eQq142g145
        clear C Xg145
        have Xg145 := Y
        clear Y
        refine t 29 (.int .i64 1) ?_
        refine gl_nil ?_
        refine ge_then ?_
        clear Xg17
        clear Xg96
        clear Qq89
        clear Qq90
        clear Qr0
        clear Qr1
        clear Qr2
        clear Qr3
        refine gc_fr [(4, .bool ct), (20, pg g101), (22, pg g130), (24, pg g135), (25, .int .i64 1), (26, pg g140), (28, pg g145)] (by kernel_rfl) ?_
        refine gc_seq ?_
        refine gc_seq ?_
        refine gc_reg ?_
        refine tq 135 (.bool ct) (.bool true) (congrArg Value.bool b103) ?_
        refine t 136 (.bool true) ?_
        refine tlr 137 [.slice aq127 nq127 cq127] Xg130 0 ?_
        refine tlr 138 [.slice aq98 nq98 cq98] Xg101 0 ?_
        have hc147 : (zv * S1 / U36) = (zv * S1 / U36) := by rfl
        refine tc 139 28 #[.agg #[.slice aq127 nq127 cq127], .agg #[.slice aq98 nq98 cq98]] (dCmpEq Qq127.nat Qq98.nat (by omega) (by omega) hc147) ?_
        rintro _ v149 ⟨rfl, B⟩
        refine ⟨_, rfl, ?_⟩
        replace BB := joinB BB B
        replace A := A.keep B
        replace Qq98 := Qq98.keep B
        replace Xg101 := Xg101.keep B
        replace Qq127 := Qq127.keep B
        replace Xg130 := Xg130.keep B
        replace Qq132 := Qq132.keep B
        replace Xg135 := Xg135.keep B
        replace Qq137 := Qq137.keep B
        replace Xg140 := Xg140.keep B
        replace Qq142 := Qq142.keep B
        replace Xg145 := Xg145.keep B
        clear B
        refine t 140 (.bool false) ?_
        refine t 141 (.bool false) ?_
        refine tlr 142 [.slice aq142 nq142 cq142] Xg145 0 ?_
        refine tc 143 21 #[.agg #[.slice aq142 nq142 cq142]] (dZ (b := true) Qq142.nat (by omega) rfl) ?_
        rintro _ v150 ⟨rfl, B⟩
        refine ⟨_, rfl, ?_⟩
        replace BB := joinB BB B
        replace A := A.keep B
        replace Qq98 := Qq98.keep B
        replace Xg101 := Xg101.keep B
        replace Qq127 := Qq127.keep B
        replace Xg130 := Xg130.keep B
        replace Qq132 := Qq132.keep B
        replace Xg135 := Xg135.keep B
        replace Qq137 := Qq137.keep B
        replace Xg140 := Xg140.keep B
        replace Qq142 := Qq142.keep B
        replace Xg145 := Xg145.keep B
        clear B
        refine t 144 (.bool false) ?_
        refine t 145 (.bool false) ?_
        refine t 146 (.bool false) ?_
        refine t 147 (.int .i64 1) ?_
        refine t 148 (.bool false) ?_
        refine t 149 (.bool false) ?_
        refine t 150 (.bool false) ?_
        refine gl_nil ?_
        refine ge_then ?_
        clear Xg101
        clear Qq98
        refine gc_fr [(22, pg g130), (24, pg g135), (26, pg g140), (28, pg g145), (150, .bool false)] (by kernel_rfl) ?_
        refine gc_no ?_
        refine gc_skip ?_
        refine ge_then ?_
        refine gc_seq ?_
        replace BB := BB.drew
        replace A := A.drew
        replace Qq127 := Qq127.drew
        replace Xg130 := Xg130.drew
        replace Qq132 := Qq132.drew
        replace Xg135 := Xg135.drew
        replace Qq137 := Qq137.drew
        replace Xg140 := Xg140.drew
        replace Qq142 := Qq142.drew
        replace Xg145 := Xg145.drew
        refine gc_draw (fun w' => Blk w' g130 [.slice aq127 nq127 cq127] 32 ∧ Blk w' g135 [.slice aq132 nq132 cq132] 32 ∧ Blk w' g140 [.slice aq137 nq137 cq137] 32 ∧ Blk w' g145 [.slice aq142 nq142 cq142] 32) (fun _ => false) ⟨Xg130, Xg135, Xg140, Xg145⟩ ?_
        refine zlr 0 151 [.slice aq127 nq127 cq127] (fun _ h => h.1) 0 ?_
        refine zlr 1 152 [.slice aq132 nq132 cq132] (fun _ h => h.2.1) 0 ?_
        have hc151 : (zv * S1 / U36) = (zv * S1 / U36) := by rfl
        refine zc 2 153 28 #[.agg #[.slice aq127 nq127 cq127], .agg #[.slice aq132 nq132 cq132]] (dCmpEq Qq127.nat Qq132.nat (by omega) (by omega) hc151) ?_
        rintro _ v153 ⟨rfl, B⟩
        replace BB := joinB BB B
        replace A := A.keep B
        replace Qq127 := Qq127.keep B
        replace Xg130 := Xg130.keep B
        replace Qq132 := Qq132.keep B
        replace Xg135 := Xg135.keep B
        replace Qq137 := Qq137.keep B
        replace Xg140 := Xg140.keep B
        replace Qq142 := Qq142.keep B
        replace Xg145 := Xg145.keep B
        clear B
        refine ⟨_, rfl, ⟨Xg130, Xg135, Xg140, Xg145⟩, ?_⟩
        refine z 3 154 (.bool true) ?_
        refine z 4 155 (.bool true) ?_
        refine zlr 5 156 [.slice aq137 nq137 cq137] (fun _ h => h.2.2.1) 0 ?_
        refine zlr 6 157 [.slice aq127 nq127 cq127] (fun _ h => h.1) 0 ?_
        refine zlr 7 158 [.slice aq132 nq132 cq132] (fun _ h => h.2.1) 0 ?_
        refine zc 8 159 27 #[.agg #[.slice aq127 nq127 cq127], .agg #[.slice aq132 nq132 cq132]] (eAdd Qq127.nat (by omega) Qq132.nat (by omega)) ?_
        rintro _ v155 ⟨aq154, nq154, cq154, zq154, rfl, Mq154, hq154, mq154, B⟩
        have eQq154g130 : Ap _ _ _ := ne2 hq154 Xg130.lt
        have eQq154g135 : Ap _ _ _ := ne2 hq154 Xg135.lt
        have eQq154g140 : Ap _ _ _ := ne2 hq154 Xg140.lt
        have eQq154g145 : Ap _ _ _ := ne2 hq154 Xg145.lt
        have Qq154 := nq_of A.sx Mq154 hq154
        clear Mq154 hq154
        replace BB := joinB BB B
        replace A := A.keep B
        replace Qq127 := Qq127.keep B
        replace Xg130 := Xg130.keep B
        replace Qq132 := Qq132.keep B
        replace Xg135 := Xg135.keep B
        replace Qq137 := Qq137.keep B
        replace Xg140 := Xg140.keep B
        replace Qq142 := Qq142.keep B
        replace Xg145 := Xg145.keep B
        clear B
        refine ⟨_, rfl, ⟨Xg130, Xg135, Xg140, Xg145⟩, ?_⟩
        have hc156 : (zv * S1 / U36) + (zv * S1 / U36) ≤ ((zv + zv) * S1 / U36) := by exact al_ge _ _
        refine zc 9 160 28 #[.agg #[.slice aq137 nq137 cq137], .agg #[.slice aq154 nq154 cq154]] (dCmpGe Qq137.nat Qq154.nat (by omega) (by omega) hc156) ?_
        rintro _ v158 ⟨r157, rfl, hr157, B⟩
        replace BB := joinB BB B
        replace A := A.keep B
        replace Qq127 := Qq127.keep B
        replace Xg130 := Xg130.keep B
        replace Qq132 := Qq132.keep B
        replace Xg135 := Xg135.keep B
        replace Qq137 := Qq137.keep B
        replace Xg140 := Xg140.keep B
        replace Qq142 := Qq142.keep B
        replace Xg145 := Xg145.keep B
        replace Qq154 := Qq154.keep B
        clear B
        refine ⟨_, rfl, ⟨Xg130, Xg135, Xg140, Xg145⟩, ?_⟩
        have t159 : (0 : Int) ≤ r157 := by omega
        refine zq 10 161 (.bool (decide ((0 : Int) ≤ r157))) (.bool true) (congrArg Value.bool (decide_eq_true t159)) ?_
        refine z 11 162 (.bool true) ?_
        refine z 12 163 (.bool true) ?_
        refine zlr 13 164 [.slice aq142 nq142 cq142] (fun _ h => h.2.2.2) 0 ?_
        refine zlr 14 165 [.slice aq127 nq127 cq127] (fun _ h => h.1) 0 ?_
        have hc160 : 0 ≤ (zv * S1 / U36) := by exact Int.ediv_nonneg (Int.mul_nonneg hz0 sb1.1) (by decide)
        refine zc 15 166 28 #[.agg #[.slice aq142 nq142 cq142], .agg #[.slice aq127 nq127 cq127]] (dCmpLe Qq142.nat Qq127.nat (by omega) (by omega) hc160) ?_
        rintro _ v162 ⟨r161, rfl, hr161, B⟩
        replace BB := joinB BB B
        replace A := A.keep B
        replace Qq127 := Qq127.keep B
        replace Xg130 := Xg130.keep B
        replace Qq132 := Qq132.keep B
        replace Xg135 := Xg135.keep B
        replace Qq137 := Qq137.keep B
        replace Xg140 := Xg140.keep B
        replace Qq142 := Qq142.keep B
        replace Xg145 := Xg145.keep B
        replace Qq154 := Qq154.keep B
        clear B
        refine ⟨_, rfl, ⟨Xg130, Xg135, Xg140, Xg145⟩, ?_⟩
        have t163 : (r161 : Int) ≤ 0 := by omega
        refine zq 16 167 (.bool (decide ((r161 : Int) ≤ 0))) (.bool true) (congrArg Value.bool (decide_eq_true t163)) ?_
        refine z 17 168 (.bool true) ?_
        refine z 18 10 (.bool true) ?_
        refine gz_done ?_
        refine ge_then ?_
        clear Xg130
        clear Xg135
        clear Xg140
        clear Xg145
        clear Qq127
        clear Qq132
        clear Qq137
        clear Qq142
        clear Qq154
        refine gc_fr [(10, .bool true)] (by kernel_rfl) ?_
        refine gc_ret ?_
        refine ge_ret (.bool true) (rs1 10 (by kernel_rfl) (by kernel_rfl)) ?_
        exact ⟨rfl, BB⟩
      · refine gc_no (hc := congrArg Value.bool b103) ?_
        refine gc_skip ?_
        refine ge_then ?_
        refine gc_seq ?_
        refine gc_reg ?_
        refine t 103 (pg g0) ?_
        refine tlr 104 [.int .u64 0, .int .u64 nn, .slice au0 nu0 cu0, .bool false, .int .u64 0, .bool false, .int .u64 (0 + (cnt : Int) + 1), .slice au1 nu1 cu1, .slice au2 nu2 cu2, .slice au3 nu3 cu3] Xg17 0 ?_
        refine t 105 (.slice ao2 cnt2 cp2) ?_
        obtain ⟨pbr, zzr, Dr⟩ := DB.k hs2 BB (fun b hb => Nat.le_trans hwB (A.sx.kb b hb)) (x := g17) nXg17
        have hsmr := DB.sm hs2
        have fewr := hs2.1
        refine tc 106 32 #[pg g0, .agg #[.int .u64 0, .int .u64 nn, .slice au0 nu0 cu0, .bool false, .int .u64 0, .bool false, .int .u64 (0 + (cnt : Int) + 1), .slice au1 nu1 cu1, .slice au2 nu2 cu2, .slice au3 nu3 cu3], .slice ao2 cnt2 cp2] (pay_any (la := 0 + (cnt : Int)) A.sx F88 ⟨by omega, by omega⟩ Qu0 (by omega) Qu1 (by omega) Qu2 (by omega) Qu3 (by omega) Dr hsmr (by omega) hR1 (by omega) (by omega)) ?_
        rintro _ v167 ⟨ar0, nr0, cr0, zr0, ar1, nr1, cr1, zr1, ar2, nr2, cr2, zr2, ar3, nr3, cr3, zr3, K164, n165, N166, Er, Rr, rfl, S, qn165, qN166, hK, hC, ⟨Qr0, mr0, fr0⟩, ⟨Qr1, mr1, fr1⟩, ⟨Qr2, mr2, fr2⟩, ⟨Qr3, mr3, fr3⟩, Fr, hsr, rlr⟩
        refine ⟨_, rfl, ?_⟩
        have eQr0g17 : Ap _ _ _ := ne5 fr0 Xg17.lt eQu0g17
        have eQr0g36 : Ap _ _ _ := ne5 fr0 Xg36.lt eQu0g36
        have eQr0g46 : Ap _ _ _ := ne5 fr0 Xg46.lt eQu0g46
        have eQr0gdc : Ap _ _ _ := ne5 fr0 Xgdc.lt eQu0gdc
        have eQr0g96 : Ap _ _ _ := ne5 fr0 Xg96.lt eQu0g96
        have eQr0g101 : Ap _ _ _ := ne5 fr0 Xg101.lt eQu0g101
        have eQr1g17 : Ap _ _ _ := ne5 fr1 Xg17.lt eQu1g17
        have eQr1g36 : Ap _ _ _ := ne5 fr1 Xg36.lt eQu1g36
        have eQr1g46 : Ap _ _ _ := ne5 fr1 Xg46.lt eQu1g46
        have eQr1gdc : Ap _ _ _ := ne5 fr1 Xgdc.lt eQu1gdc
        have eQr1g96 : Ap _ _ _ := ne5 fr1 Xg96.lt eQu1g96
        have eQr1g101 : Ap _ _ _ := ne5 fr1 Xg101.lt eQu1g101
        have eQr2g17 : Ap _ _ _ := ne5 fr2 Xg17.lt eQu2g17
        have eQr2g36 : Ap _ _ _ := ne5 fr2 Xg36.lt eQu2g36
        have eQr2g46 : Ap _ _ _ := ne5 fr2 Xg46.lt eQu2g46
        have eQr2gdc : Ap _ _ _ := ne5 fr2 Xgdc.lt eQu2gdc
        have eQr2g96 : Ap _ _ _ := ne5 fr2 Xg96.lt eQu2g96
        have eQr2g101 : Ap _ _ _ := ne5 fr2 Xg101.lt eQu2g101
        have eQr3g17 : Ap _ _ _ := ne5 fr3 Xg17.lt eQu3g17
        have eQr3g36 : Ap _ _ _ := ne5 fr3 Xg36.lt eQu3g36
        have eQr3g46 : Ap _ _ _ := ne5 fr3 Xg46.lt eQu3g46
        have eQr3gdc : Ap _ _ _ := ne5 fr3 Xgdc.lt eQu3gdc
        have eQr3g96 : Ap _ _ _ := ne5 fr3 Xg96.lt eQu3g96
        have eQr3g101 : Ap _ _ _ := ne5 fr3 Xg101.lt eQu3g101
        clear fr0 fr1 fr2 fr3
        replace BB := belowO BB hC (fun b hb => Nat.le_trans hwB (A.sx.kb b hb))
        have mXg17 := not_opF Xg17 nXg17 hK
        replace Xg17 := Xg17.chg hC nXg17
        replace nXg17 := mXg17
        clear mXg17
        have mXg36 := not_opF Xg36 nXg36 hK
        replace Xg36 := Xg36.chg hC nXg36
        replace nXg36 := mXg36
        clear mXg36
        have mXg46 := not_opF Xg46 nXg46 hK
        replace Xg46 := Xg46.chg hC nXg46
        replace nXg46 := mXg46
        clear mXg46
        have mXgdc := not_opF Xgdc nXgdc hK
        replace Xgdc := Xgdc.chg hC nXgdc
        replace nXgdc := mXgdc
        clear mXgdc
        replace Qq29 := Qq29.op hK hC
        replace Qq30 := Qq30.op hK hC
        replace Qq39 := Qq39.op hK hC
        replace Qq40 := Qq40.op hK hC
        replace Qdc0 := Qdc0.op hK hC
        replace Qdc1 := Qdc1.op hK hC
        replace Qu0 := Qu0.op hK hC
        replace Qu1 := Qu1.op hK hC
        replace Qu2 := Qu2.op hK hC
        replace Qu3 := Qu3.op hK hC
        replace Qq89 := Qq89.op hK hC
        replace Qq90 := Qq90.op hK hC
        have mXg96 := not_opF Xg96 nXg96 hK
        replace Xg96 := Xg96.chg hC nXg96
        replace nXg96 := mXg96
        clear mXg96
        replace Qq98 := Qq98.op hK hC
        have mXg101 := not_opF Xg101 nXg101 hK
        replace Xg101 := Xg101.chg hC nXg101
        replace nXg101 := mXg101
        clear mXg101
        replace A : Al _ _ _ _ _ _ _ _ := ⟨S⟩
        clear S hK hC
        have sb2 := sQ_le (n := nn) (by omega) hsmr cnt2 (Nat.le_refl _)
        rw [← hS2] at rlr sb2
        have y0 : Rr 0 = 0 := (hsr 0 (by omega)).trans z1
        have y1 : Rr (0 + (cnt : Int)) = S1 := (hsr _ (Int.le_refl _)).trans (by omega)
        have y2 : Rr (0 + (cnt : Int) + (cnt2 : Int)) = S1 + S2 := by omega
        refine ts Xg17 0 (.agg #[.int .u64 0, .int .u64 nn, .slice ar0 nr0 cr0, .bool false, .int .u64 0, .bool false, .int .u64 (0 + (cnt : Int) + (cnt2 : Int) + 1), .slice ar1 nr1 cr1, .slice ar2 nr2 cr2, .slice ar3 nr3 cr3]) [.int .u64 0, .int .u64 nn, .slice ar0 nr0 cr0, .bool false, .int .u64 0, .bool false, .int .u64 (0 + (cnt : Int) + (cnt2 : Int) + 1), .slice ar1 nr1 cr1, .slice ar2 nr2 cr2, .slice ar3 nr3 cr3] [.int .u64 0, .int .u64 nn, .slice ar0 nr0 cr0, .bool false, .int .u64 0, .bool false, .int .u64 (0 + (cnt : Int) + (cnt2 : Int) + 1), .slice ar1 nr1 cr1, .slice ar2 nr2 cr2, .slice ar3 nr3 cr3] ?_
        intro v168 Y C
        replace BB := belowC BB C yg17
        replace A := A.cell Xg17 C nXg17 (by decide)
        replace Xg36 := Xg36.chg C (show g36 ≠ g17 by omega)
        replace Xg46 := Xg46.chg C (show g46 ≠ g17 by omega)
        replace Xgdc := Xgdc.chg C (show gdc ≠ g17 by omega)
        replace Qq29 := Qq29.cell C eQq29g17
        replace Qq30 := Qq30.cell C eQq30g17
        replace Qq39 := Qq39.cell C eQq39g17
        replace Qq40 := Qq40.cell C eQq40g17
        replace Qdc0 := Qdc0.cell C eQdc0g17
        replace Qdc1 := Qdc1.cell C eQdc1g17
        replace Qu0 := Qu0.cell C eQu0g17
        replace Qu1 := Qu1.cell C eQu1g17
        replace Qu2 := Qu2.cell C eQu2g17
        replace Qu3 := Qu3.cell C eQu3g17
        replace Qq89 := Qq89.cell C eQq89g17
        replace Qq90 := Qq90.cell C eQq90g17
        replace Xg96 := Xg96.chg C (show g96 ≠ g17 by omega)
        replace Qq98 := Qq98.cell C eQq98g17
        replace Xg101 := Xg101.chg C (show g101 ≠ g17 by omega)
        replace Qr0 := Qr0.cell C eQr0g17
        replace Qr1 := Qr1.cell C eQr1g17
        replace Qr2 := Qr2.cell C eQr2g17
        replace Qr3 := Qr3.cell C eQr3g17
        clear C Xg17
        have Xg17 := Y
        clear Y
        refine gl_nil ?_
        refine ge_then ?_
        clear Qu0
        clear Qu1
        clear Qu2
        clear Qu3
        refine gc_seq ?_
        refine gc_reg ?_
        refine t 108 (pg g0) ?_
        refine tlr 109 [.int .u64 0, .int .u64 nn, .slice ar0 nr0 cr0, .bool false, .int .u64 0, .bool false, .int .u64 (0 + (cnt : Int) + (cnt2 : Int) + 1), .slice ar1 nr1 cr1, .slice ar2 nr2 cr2, .slice ar3 nr3 cr3] Xg17 0 ?_
        refine tlr 110 [.slice aq29 nq29 cq29, .int .u64 0, .slice aq30 nq30 cq30] Xg36 0 ?_
        refine tc 111 20 #[pg g0, .int .u64 16, .agg #[.int .u64 0, .int .u64 nn, .slice ar0 nr0 cr0, .bool false, .int .u64 0, .bool false, .int .u64 (0 + (cnt : Int) + (cnt2 : Int) + 1), .slice ar1 nr1 cr1, .slice ar2 nr2 cr2, .slice ar3 nr3 cr3], .agg #[.slice aq29 nq29 cq29, .int .u64 0, .slice aq30 nq30 cq30]] (ClmE.cast (c' := 0) (V' := (zv * (S1 + S2) / U36)) (claim_fs (la := 0 + (cnt : Int) + (cnt2 : Int)) A.sx Fr Qq30 (by omega) (by simp) (by omega) (by simp) (by omega) (by omega)) (rfl) (by rw [aft_nil, cmV_nil (by omega), y2, y0]; congr 2; omega)) ?_
        rintro _ v170 ⟨aq169, nq169, cq169, zq169, rfl, S, C, Qq169, mq169, hq169⟩
        refine ⟨_, rfl, ?_⟩
        have eQq169g17 : Ap _ _ _ := ne2 hq169 Xg17.lt
        have eQq169g36 : Ap _ _ _ := ne2 hq169 Xg36.lt
        have eQq169g46 : Ap _ _ _ := ne2 hq169 Xg46.lt
        have eQq169gdc : Ap _ _ _ := ne2 hq169 Xgdc.lt
        have eQq169g96 : Ap _ _ _ := ne2 hq169 Xg96.lt
        have eQq169g101 : Ap _ _ _ := ne2 hq169 Xg101.lt
        clear hq169
        have hC := C.mono (fun b _ (e : b = g0) => e ▸ A.sx.sa.top)
        replace BB := belowO BB hC (fun b hb => Nat.le_trans hwB (A.sx.kb b hb))
        have mXg17 := not_opF Xg17 nXg17 (fun _ h => .inl h)
        replace Xg17 := Xg17.chg hC nXg17
        replace nXg17 := mXg17
        clear mXg17
        have mXg36 := not_opF Xg36 nXg36 (fun _ h => .inl h)
        replace Xg36 := Xg36.chg hC nXg36
        replace nXg36 := mXg36
        clear mXg36
        have mXg46 := not_opF Xg46 nXg46 (fun _ h => .inl h)
        replace Xg46 := Xg46.chg hC nXg46
        replace nXg46 := mXg46
        clear mXg46
        have mXgdc := not_opF Xgdc nXgdc (fun _ h => .inl h)
        replace Xgdc := Xgdc.chg hC nXgdc
        replace nXgdc := mXgdc
        clear mXgdc
        replace Qq29 := Qq29.op (fun _ h => .inl h) hC
        replace Qq30 := Qq30.op (fun _ h => .inl h) hC
        replace Qq39 := Qq39.op (fun _ h => .inl h) hC
        replace Qq40 := Qq40.op (fun _ h => .inl h) hC
        replace Qdc0 := Qdc0.op (fun _ h => .inl h) hC
        replace Qdc1 := Qdc1.op (fun _ h => .inl h) hC
        replace Qq89 := Qq89.op (fun _ h => .inl h) hC
        replace Qq90 := Qq90.op (fun _ h => .inl h) hC
        have mXg96 := not_opF Xg96 nXg96 (fun _ h => .inl h)
        replace Xg96 := Xg96.chg hC nXg96
        replace nXg96 := mXg96
        clear mXg96
        replace Qq98 := Qq98.op (fun _ h => .inl h) hC
        have mXg101 := not_opF Xg101 nXg101 (fun _ h => .inl h)
        replace Xg101 := Xg101.chg hC nXg101
        replace nXg101 := mXg101
        clear mXg101
        replace Qr0 := Qr0.op (fun _ h => .inl h) hC
        replace Qr1 := Qr1.op (fun _ h => .inl h) hC
        replace Qr2 := Qr2.op (fun _ h => .inl h) hC
        replace Qr3 := Qr3.op (fun _ h => .inl h) hC
        replace A : Al _ _ _ _ _ _ _ _ := ⟨S⟩
        clear S hC C
        refine t 107 (.tuple #[.agg #[.slice aq169 nq169 cq169], .int .i64 0]) ?_
        refine t 112 (.agg #[.slice aq169 nq169 cq169]) ?_
        refine t 113 (.int .i64 0) ?_
        have lXg17 := Xg17.lt
        have lXg36 := Xg36.lt
        have lXg46 := Xg46.lt
        have lXgdc := Xgdc.lt
        have lXg96 := Xg96.lt
        have lXg101 := Xg101.lt
        refine ta 22 [.slice none 0 0] 32 (pg) ?_
        intro v171 g172 Xg172 hg172 B
        have yg172 := Nat.le_trans BB.size hg172
        have nXg172 := A.new hg172
        have eQq29g172 : Ap _ _ _ := ne1 Qq29.lt hg172
        have eQq30g172 : Ap _ _ _ := ne1 Qq30.lt hg172
        have eQq39g172 : Ap _ _ _ := ne1 Qq39.lt hg172
        have eQq40g172 : Ap _ _ _ := ne1 Qq40.lt hg172
        have eQdc0g172 : Ap _ _ _ := ne1 Qdc0.lt hg172
        have eQdc1g172 : Ap _ _ _ := ne1 Qdc1.lt hg172
        have eQq89g172 : Ap _ _ _ := ne1 Qq89.lt hg172
        have eQq90g172 : Ap _ _ _ := ne1 Qq90.lt hg172
        have eQq98g172 : Ap _ _ _ := ne1 Qq98.lt hg172
        have eQr0g172 : Ap _ _ _ := ne1 Qr0.lt hg172
        have eQr1g172 : Ap _ _ _ := ne1 Qr1.lt hg172
        have eQr2g172 : Ap _ _ _ := ne1 Qr2.lt hg172
        have eQr3g172 : Ap _ _ _ := ne1 Qr3.lt hg172
        have eQq169g172 : Ap _ _ _ := ne1 Qq169.lt hg172
        replace BB := joinB BB B
        replace A := A.keep B
        replace Xg17 := Xg17.keep B
        replace Xg36 := Xg36.keep B
        replace Xg46 := Xg46.keep B
        replace Xgdc := Xgdc.keep B
        replace Qq29 := Qq29.keep B
        replace Qq30 := Qq30.keep B
        replace Qq39 := Qq39.keep B
        replace Qq40 := Qq40.keep B
        replace Qdc0 := Qdc0.keep B
        replace Qdc1 := Qdc1.keep B
        replace Qq89 := Qq89.keep B
        replace Qq90 := Qq90.keep B
        replace Xg96 := Xg96.keep B
        replace Qq98 := Qq98.keep B
        replace Xg101 := Xg101.keep B
        replace Qr0 := Qr0.keep B
        replace Qr1 := Qr1.keep B
        replace Qr2 := Qr2.keep B
        replace Qr3 := Qr3.keep B
        replace Qq169 := Qq169.keep B
        clear B
        refine ts Xg172 0 (.agg #[.slice aq169 nq169 cq169]) [.slice aq169 nq169 cq169] [.slice aq169 nq169 cq169] ?_
        intro v173 Y C
        replace BB := belowC BB C yg172
        replace A := A.cell Xg172 C nXg172 (by decide)
        replace Xg17 := Xg17.chg C (show g17 ≠ g172 by omega)
        replace Xg36 := Xg36.chg C (show g36 ≠ g172 by omega)
        replace Xg46 := Xg46.chg C (show g46 ≠ g172 by omega)
        replace Xgdc := Xgdc.chg C (show gdc ≠ g172 by omega)
        replace Qq29 := Qq29.cell C eQq29g172
        replace Qq30 := Qq30.cell C eQq30g172
        replace Qq39 := Qq39.cell C eQq39g172
        replace Qq40 := Qq40.cell C eQq40g172
        replace Qdc0 := Qdc0.cell C eQdc0g172
        replace Qdc1 := Qdc1.cell C eQdc1g172
        replace Qq89 := Qq89.cell C eQq89g172
        replace Qq90 := Qq90.cell C eQq90g172
        replace Xg96 := Xg96.chg C (show g96 ≠ g172 by omega)
        replace Qq98 := Qq98.cell C eQq98g172
        replace Xg101 := Xg101.chg C (show g101 ≠ g172 by omega)
        replace Qr0 := Qr0.cell C eQr0g172
        replace Qr1 := Qr1.cell C eQr1g172
        replace Qr2 := Qr2.cell C eQr2g172
        replace Qr3 := Qr3.cell C eQr3g172
        replace Qq169 := Qq169.cell C eQq169g172
        clear C Xg172
        have Xg172 := Y
        clear Y
        refine t 23 (.int .i64 0) ?_
        refine gl_nil ?_
        refine ge_then ?_
        clear Xg36
        clear Qq29
        clear Qq30
        refine gc_fr [(4, .bool ct), (12, pg g0), (13, pg g17), (17, pg g46), (18, pg gdc), (19, pg g96), (20, pg g101), (22, pg g172)] (by kernel_rfl) ?_
        refine gc_seq ?_
        refine gc_reg ?_
        refine t 115 (pg g0) ?_
        refine tlr 116 [.int .u64 0, .int .u64 nn, .slice ar0 nr0 cr0, .bool false, .int .u64 0, .bool false, .int .u64 (0 + (cnt : Int) + (cnt2 : Int) + 1), .slice ar1 nr1 cr1, .slice ar2 nr2 cr2, .slice ar3 nr3 cr3] Xg17 0 ?_
        refine tlr 117 [.slice aq39 nq39 cq39, .int .u64 0, .slice aq40 nq40 cq40] Xg46 0 ?_
        refine tc 118 20 #[pg g0, .int .u64 16, .agg #[.int .u64 0, .int .u64 nn, .slice ar0 nr0 cr0, .bool false, .int .u64 0, .bool false, .int .u64 (0 + (cnt : Int) + (cnt2 : Int) + 1), .slice ar1 nr1 cr1, .slice ar2 nr2 cr2, .slice ar3 nr3 cr3], .agg #[.slice aq39 nq39 cq39, .int .u64 0, .slice aq40 nq40 cq40]] (ClmE.cast (c' := 0) (V' := (zv * (S1 + S2) / U36)) (claim_fs (la := 0 + (cnt : Int) + (cnt2 : Int)) A.sx Fr Qq40 (by omega) (by simp) (by omega) (by simp) (by omega) (by omega)) (rfl) (by rw [aft_nil, cmV_nil (by omega), y2, y0]; congr 2; omega)) ?_
        rintro _ v175 ⟨aq174, nq174, cq174, zq174, rfl, S, C, Qq174, mq174, hq174⟩
        refine ⟨_, rfl, ?_⟩
        have eQq174g17 : Ap _ _ _ := ne2 hq174 Xg17.lt
        have eQq174g46 : Ap _ _ _ := ne2 hq174 Xg46.lt
        have eQq174gdc : Ap _ _ _ := ne2 hq174 Xgdc.lt
        have eQq174g96 : Ap _ _ _ := ne2 hq174 Xg96.lt
        have eQq174g101 : Ap _ _ _ := ne2 hq174 Xg101.lt
        have eQq174g172 : Ap _ _ _ := ne2 hq174 Xg172.lt
        clear hq174
        have hC := C.mono (fun b _ (e : b = g0) => e ▸ A.sx.sa.top)
        replace BB := belowO BB hC (fun b hb => Nat.le_trans hwB (A.sx.kb b hb))
        have mXg17 := not_opF Xg17 nXg17 (fun _ h => .inl h)
        replace Xg17 := Xg17.chg hC nXg17
        replace nXg17 := mXg17
        clear mXg17
        have mXg46 := not_opF Xg46 nXg46 (fun _ h => .inl h)
        replace Xg46 := Xg46.chg hC nXg46
        replace nXg46 := mXg46
        clear mXg46
        have mXgdc := not_opF Xgdc nXgdc (fun _ h => .inl h)
        replace Xgdc := Xgdc.chg hC nXgdc
        replace nXgdc := mXgdc
        clear mXgdc
        replace Qq39 := Qq39.op (fun _ h => .inl h) hC
        replace Qq40 := Qq40.op (fun _ h => .inl h) hC
        replace Qdc0 := Qdc0.op (fun _ h => .inl h) hC
        replace Qdc1 := Qdc1.op (fun _ h => .inl h) hC
        replace Qq89 := Qq89.op (fun _ h => .inl h) hC
        replace Qq90 := Qq90.op (fun _ h => .inl h) hC
        have mXg96 := not_opF Xg96 nXg96 (fun _ h => .inl h)
        replace Xg96 := Xg96.chg hC nXg96
        replace nXg96 := mXg96
        clear mXg96
        replace Qq98 := Qq98.op (fun _ h => .inl h) hC
        have mXg101 := not_opF Xg101 nXg101 (fun _ h => .inl h)
        replace Xg101 := Xg101.chg hC nXg101
        replace nXg101 := mXg101
        clear mXg101
        replace Qr0 := Qr0.op (fun _ h => .inl h) hC
        replace Qr1 := Qr1.op (fun _ h => .inl h) hC
        replace Qr2 := Qr2.op (fun _ h => .inl h) hC
        replace Qr3 := Qr3.op (fun _ h => .inl h) hC
        replace Qq169 := Qq169.op (fun _ h => .inl h) hC
        have mXg172 := not_opF Xg172 nXg172 (fun _ h => .inl h)
        replace Xg172 := Xg172.chg hC nXg172
        replace nXg172 := mXg172
        clear mXg172
        replace A : Al _ _ _ _ _ _ _ _ := ⟨S⟩
        clear S hC C
        refine t 114 (.tuple #[.agg #[.slice aq174 nq174 cq174], .int .i64 0]) ?_
        refine t 119 (.agg #[.slice aq174 nq174 cq174]) ?_
        refine t 120 (.int .i64 0) ?_
        have lXg17 := Xg17.lt
        have lXg46 := Xg46.lt
        have lXgdc := Xgdc.lt
        have lXg96 := Xg96.lt
        have lXg101 := Xg101.lt
        have lXg172 := Xg172.lt
        refine ta 24 [.slice none 0 0] 32 (pg) ?_
        intro v176 g177 Xg177 hg177 B
        have yg177 := Nat.le_trans BB.size hg177
        have nXg177 := A.new hg177
        have eQq39g177 : Ap _ _ _ := ne1 Qq39.lt hg177
        have eQq40g177 : Ap _ _ _ := ne1 Qq40.lt hg177
        have eQdc0g177 : Ap _ _ _ := ne1 Qdc0.lt hg177
        have eQdc1g177 : Ap _ _ _ := ne1 Qdc1.lt hg177
        have eQq89g177 : Ap _ _ _ := ne1 Qq89.lt hg177
        have eQq90g177 : Ap _ _ _ := ne1 Qq90.lt hg177
        have eQq98g177 : Ap _ _ _ := ne1 Qq98.lt hg177
        have eQr0g177 : Ap _ _ _ := ne1 Qr0.lt hg177
        have eQr1g177 : Ap _ _ _ := ne1 Qr1.lt hg177
        have eQr2g177 : Ap _ _ _ := ne1 Qr2.lt hg177
        have eQr3g177 : Ap _ _ _ := ne1 Qr3.lt hg177
        have eQq169g177 : Ap _ _ _ := ne1 Qq169.lt hg177
        have eQq174g177 : Ap _ _ _ := ne1 Qq174.lt hg177
        replace BB := joinB BB B
        replace A := A.keep B
        replace Xg17 := Xg17.keep B
        replace Xg46 := Xg46.keep B
        replace Xgdc := Xgdc.keep B
        replace Qq39 := Qq39.keep B
        replace Qq40 := Qq40.keep B
        replace Qdc0 := Qdc0.keep B
        replace Qdc1 := Qdc1.keep B
        replace Qq89 := Qq89.keep B
        replace Qq90 := Qq90.keep B
        replace Xg96 := Xg96.keep B
        replace Qq98 := Qq98.keep B
        replace Xg101 := Xg101.keep B
        replace Qr0 := Qr0.keep B
        replace Qr1 := Qr1.keep B
        replace Qr2 := Qr2.keep B
        replace Qr3 := Qr3.keep B
        replace Qq169 := Qq169.keep B
        replace Xg172 := Xg172.keep B
        replace Qq174 := Qq174.keep B
        clear B
        refine ts Xg177 0 (.agg #[.slice aq174 nq174 cq174]) [.slice aq174 nq174 cq174] [.slice aq174 nq174 cq174] ?_
        intro v178 Y C
        replace BB := belowC BB C yg177
        replace A := A.cell Xg177 C nXg177 (by decide)
        replace Xg17 := Xg17.chg C (show g17 ≠ g177 by omega)
        replace Xg46 := Xg46.chg C (show g46 ≠ g177 by omega)
        replace Xgdc := Xgdc.chg C (show gdc ≠ g177 by omega)
        replace Qq39 := Qq39.cell C eQq39g177
        replace Qq40 := Qq40.cell C eQq40g177
        replace Qdc0 := Qdc0.cell C eQdc0g177
        replace Qdc1 := Qdc1.cell C eQdc1g177
        replace Qq89 := Qq89.cell C eQq89g177
        replace Qq90 := Qq90.cell C eQq90g177
        replace Xg96 := Xg96.chg C (show g96 ≠ g177 by omega)
        replace Qq98 := Qq98.cell C eQq98g177
        replace Xg101 := Xg101.chg C (show g101 ≠ g177 by omega)
        replace Qr0 := Qr0.cell C eQr0g177
        replace Qr1 := Qr1.cell C eQr1g177
        replace Qr2 := Qr2.cell C eQr2g177
        replace Qr3 := Qr3.cell C eQr3g177
        replace Qq169 := Qq169.cell C eQq169g177
        replace Xg172 := Xg172.chg C (show g172 ≠ g177 by omega)
        replace Qq174 := Qq174.cell C eQq174g177
        clear C Xg177
        have Xg177 := Y
        clear Y
        refine t 25 (.int .i64 0) ?_
        refine gl_nil ?_
        refine ge_then ?_
        clear Xg46
        clear Qq39
        clear Qq40
        refine gc_seq ?_
        refine gc_reg ?_
        refine t 122 (pg g0) ?_
        refine tlr 123 [.int .u64 0, .int .u64 nn, .slice ar0 nr0 cr0, .bool false, .int .u64 0, .bool false, .int .u64 (0 + (cnt : Int) + (cnt2 : Int) + 1), .slice ar1 nr1 cr1, .slice ar2 nr2 cr2, .slice ar3 nr3 cr3] Xg17 0 ?_
        refine tlr 124 [.slice a0c k0c c0c, .int .u64 0, .slice a1c k1c c1c] Xgdc 0 ?_
        refine tc 125 20 #[pg g0, .int .u64 16, .agg #[.int .u64 0, .int .u64 nn, .slice ar0 nr0 cr0, .bool false, .int .u64 0, .bool false, .int .u64 (0 + (cnt : Int) + (cnt2 : Int) + 1), .slice ar1 nr1 cr1, .slice ar2 nr2 cr2, .slice ar3 nr3 cr3], .agg #[.slice a0c k0c c0c, .int .u64 0, .slice a1c k1c c1c]] (ClmE.cast (c' := 0) (V' := ((zv + zv) * (S1 + S2) / U36)) (claim_fs (la := 0 + (cnt : Int) + (cnt2 : Int)) A.sx Fr Qdc1 (by omega) (by simp) (by omega) (by simp) (by omega) (by omega)) (rfl) (by rw [aft_nil, cmV_nil (by omega), y2, y0]; congr 2; omega)) ?_
        rintro _ v180 ⟨aq179, nq179, cq179, zq179, rfl, S, C, Qq179, mq179, hq179⟩
        refine ⟨_, rfl, ?_⟩
        have eQq179g17 : Ap _ _ _ := ne2 hq179 Xg17.lt
        have eQq179gdc : Ap _ _ _ := ne2 hq179 Xgdc.lt
        have eQq179g96 : Ap _ _ _ := ne2 hq179 Xg96.lt
        have eQq179g101 : Ap _ _ _ := ne2 hq179 Xg101.lt
        have eQq179g172 : Ap _ _ _ := ne2 hq179 Xg172.lt
        have eQq179g177 : Ap _ _ _ := ne2 hq179 Xg177.lt
        clear hq179
        have hC := C.mono (fun b _ (e : b = g0) => e ▸ A.sx.sa.top)
        replace BB := belowO BB hC (fun b hb => Nat.le_trans hwB (A.sx.kb b hb))
        have mXg17 := not_opF Xg17 nXg17 (fun _ h => .inl h)
        replace Xg17 := Xg17.chg hC nXg17
        replace nXg17 := mXg17
        clear mXg17
        have mXgdc := not_opF Xgdc nXgdc (fun _ h => .inl h)
        replace Xgdc := Xgdc.chg hC nXgdc
        replace nXgdc := mXgdc
        clear mXgdc
        replace Qdc0 := Qdc0.op (fun _ h => .inl h) hC
        replace Qdc1 := Qdc1.op (fun _ h => .inl h) hC
        replace Qq89 := Qq89.op (fun _ h => .inl h) hC
        replace Qq90 := Qq90.op (fun _ h => .inl h) hC
        have mXg96 := not_opF Xg96 nXg96 (fun _ h => .inl h)
        replace Xg96 := Xg96.chg hC nXg96
        replace nXg96 := mXg96
        clear mXg96
        replace Qq98 := Qq98.op (fun _ h => .inl h) hC
        have mXg101 := not_opF Xg101 nXg101 (fun _ h => .inl h)
        replace Xg101 := Xg101.chg hC nXg101
        replace nXg101 := mXg101
        clear mXg101
        replace Qr0 := Qr0.op (fun _ h => .inl h) hC
        replace Qr1 := Qr1.op (fun _ h => .inl h) hC
        replace Qr2 := Qr2.op (fun _ h => .inl h) hC
        replace Qr3 := Qr3.op (fun _ h => .inl h) hC
        replace Qq169 := Qq169.op (fun _ h => .inl h) hC
        have mXg172 := not_opF Xg172 nXg172 (fun _ h => .inl h)
        replace Xg172 := Xg172.chg hC nXg172
        replace nXg172 := mXg172
        clear mXg172
        replace Qq174 := Qq174.op (fun _ h => .inl h) hC
        have mXg177 := not_opF Xg177 nXg177 (fun _ h => .inl h)
        replace Xg177 := Xg177.chg hC nXg177
        replace nXg177 := mXg177
        clear mXg177
        replace A : Al _ _ _ _ _ _ _ _ := ⟨S⟩
        clear S hC C
        refine t 121 (.tuple #[.agg #[.slice aq179 nq179 cq179], .int .i64 0]) ?_
        refine t 126 (.agg #[.slice aq179 nq179 cq179]) ?_
        refine t 127 (.int .i64 0) ?_
        have lXg17 := Xg17.lt
        have lXgdc := Xgdc.lt
        have lXg96 := Xg96.lt
        have lXg101 := Xg101.lt
        have lXg172 := Xg172.lt
        have lXg177 := Xg177.lt
        refine ta 26 [.slice none 0 0] 32 (pg) ?_
        intro v181 g182 Xg182 hg182 B
        have yg182 := Nat.le_trans BB.size hg182
        have nXg182 := A.new hg182
        have eQdc0g182 : Ap _ _ _ := ne1 Qdc0.lt hg182
        have eQdc1g182 : Ap _ _ _ := ne1 Qdc1.lt hg182
        have eQq89g182 : Ap _ _ _ := ne1 Qq89.lt hg182
        have eQq90g182 : Ap _ _ _ := ne1 Qq90.lt hg182
        have eQq98g182 : Ap _ _ _ := ne1 Qq98.lt hg182
        have eQr0g182 : Ap _ _ _ := ne1 Qr0.lt hg182
        have eQr1g182 : Ap _ _ _ := ne1 Qr1.lt hg182
        have eQr2g182 : Ap _ _ _ := ne1 Qr2.lt hg182
        have eQr3g182 : Ap _ _ _ := ne1 Qr3.lt hg182
        have eQq169g182 : Ap _ _ _ := ne1 Qq169.lt hg182
        have eQq174g182 : Ap _ _ _ := ne1 Qq174.lt hg182
        have eQq179g182 : Ap _ _ _ := ne1 Qq179.lt hg182
        replace BB := joinB BB B
        replace A := A.keep B
        replace Xg17 := Xg17.keep B
        replace Xgdc := Xgdc.keep B
        replace Qdc0 := Qdc0.keep B
        replace Qdc1 := Qdc1.keep B
        replace Qq89 := Qq89.keep B
        replace Qq90 := Qq90.keep B
        replace Xg96 := Xg96.keep B
        replace Qq98 := Qq98.keep B
        replace Xg101 := Xg101.keep B
        replace Qr0 := Qr0.keep B
        replace Qr1 := Qr1.keep B
        replace Qr2 := Qr2.keep B
        replace Qr3 := Qr3.keep B
        replace Qq169 := Qq169.keep B
        replace Xg172 := Xg172.keep B
        replace Qq174 := Qq174.keep B
        replace Xg177 := Xg177.keep B
        replace Qq179 := Qq179.keep B
        clear B
        refine ts Xg182 0 (.agg #[.slice aq179 nq179 cq179]) [.slice aq179 nq179 cq179] [.slice aq179 nq179 cq179] ?_
        intro v183 Y C
        replace BB := belowC BB C yg182
        replace A := A.cell Xg182 C nXg182 (by decide)
        replace Xg17 := Xg17.chg C (show g17 ≠ g182 by omega)
        replace Xgdc := Xgdc.chg C (show gdc ≠ g182 by omega)
        replace Qdc0 := Qdc0.cell C eQdc0g182
        replace Qdc1 := Qdc1.cell C eQdc1g182
        replace Qq89 := Qq89.cell C eQq89g182
        replace Qq90 := Qq90.cell C eQq90g182
        replace Xg96 := Xg96.chg C (show g96 ≠ g182 by omega)
        replace Qq98 := Qq98.cell C eQq98g182
        replace Xg101 := Xg101.chg C (show g101 ≠ g182 by omega)
        replace Qr0 := Qr0.cell C eQr0g182
        replace Qr1 := Qr1.cell C eQr1g182
        replace Qr2 := Qr2.cell C eQr2g182
        replace Qr3 := Qr3.cell C eQr3g182
        replace Qq169 := Qq169.cell C eQq169g182
        replace Xg172 := Xg172.chg C (show g172 ≠ g182 by omega)
        replace Qq174 := Qq174.cell C eQq174g182
        replace Xg177 := Xg177.chg C (show g177 ≠ g182 by omega)
        replace Qq179 := Qq179.cell C eQq179g182
        clear C Xg182
        have Xg182 := Y
        clear Y
        refine t 27 (.int .i64 0) ?_
        refine gl_nil ?_
        refine ge_then ?_
        clear Xgdc
        clear Qdc0
        clear Qdc1
        refine gc_fr [(4, .bool ct), (12, pg g0), (13, pg g17), (19, pg g96), (20, pg g101), (22, pg g172), (24, pg g177), (25, .int .i64 0), (26, pg g182)] (by kernel_rfl) ?_
        refine gc_seq ?_
        refine gc_reg ?_
        refine t 129 (pg g0) ?_
        refine tlr 130 [.int .u64 0, .int .u64 nn, .slice ar0 nr0 cr0, .bool false, .int .u64 0, .bool false, .int .u64 (0 + (cnt : Int) + (cnt2 : Int) + 1), .slice ar1 nr1 cr1, .slice ar2 nr2 cr2, .slice ar3 nr3 cr3] Xg17 0 ?_
        refine tlr 131 [.slice aq89 nq89 cq89, .int .u64 (0 + (cnt : Int)), .slice aq90 nq90 cq90] Xg96 0 ?_
        refine tc 132 20 #[pg g0, .int .u64 16, .agg #[.int .u64 0, .int .u64 nn, .slice ar0 nr0 cr0, .bool false, .int .u64 0, .bool false, .int .u64 (0 + (cnt : Int) + (cnt2 : Int) + 1), .slice ar1 nr1 cr1, .slice ar2 nr2 cr2, .slice ar3 nr3 cr3], .agg #[.slice aq89 nq89 cq89, .int .u64 (0 + (cnt : Int)), .slice aq90 nq90 cq90]] (ClmE.cast (c' := 0) (V' := (zv * S2 / U36)) (claim_fs (la := 0 + (cnt : Int) + (cnt2 : Int)) A.sx Fr Qq90 (by omega) (by simp) (by omega) (by simp) (by omega) (by omega)) (rfl) (by rw [aft_nil, cmV_nil (by omega), y2, y1]; congr 2; omega)) ?_
        rintro _ v185 ⟨aq184, nq184, cq184, zq184, rfl, S, C, Qq184, mq184, hq184⟩
        refine ⟨_, rfl, ?_⟩
        have eQq184g17 : Ap _ _ _ := ne2 hq184 Xg17.lt
        have eQq184g96 : Ap _ _ _ := ne2 hq184 Xg96.lt
        have eQq184g101 : Ap _ _ _ := ne2 hq184 Xg101.lt
        have eQq184g172 : Ap _ _ _ := ne2 hq184 Xg172.lt
        have eQq184g177 : Ap _ _ _ := ne2 hq184 Xg177.lt
        have eQq184g182 : Ap _ _ _ := ne2 hq184 Xg182.lt
        clear hq184
        have hC := C.mono (fun b _ (e : b = g0) => e ▸ A.sx.sa.top)
        replace BB := belowO BB hC (fun b hb => Nat.le_trans hwB (A.sx.kb b hb))
        have mXg17 := not_opF Xg17 nXg17 (fun _ h => .inl h)
        replace Xg17 := Xg17.chg hC nXg17
        replace nXg17 := mXg17
        clear mXg17
        replace Qq89 := Qq89.op (fun _ h => .inl h) hC
        replace Qq90 := Qq90.op (fun _ h => .inl h) hC
        have mXg96 := not_opF Xg96 nXg96 (fun _ h => .inl h)
        replace Xg96 := Xg96.chg hC nXg96
        replace nXg96 := mXg96
        clear mXg96
        replace Qq98 := Qq98.op (fun _ h => .inl h) hC
        have mXg101 := not_opF Xg101 nXg101 (fun _ h => .inl h)
        replace Xg101 := Xg101.chg hC nXg101
        replace nXg101 := mXg101
        clear mXg101
        replace Qr0 := Qr0.op (fun _ h => .inl h) hC
        replace Qr1 := Qr1.op (fun _ h => .inl h) hC
        replace Qr2 := Qr2.op (fun _ h => .inl h) hC
        replace Qr3 := Qr3.op (fun _ h => .inl h) hC
        replace Qq169 := Qq169.op (fun _ h => .inl h) hC
        have mXg172 := not_opF Xg172 nXg172 (fun _ h => .inl h)
        replace Xg172 := Xg172.chg hC nXg172
        replace nXg172 := mXg172
        clear mXg172
        replace Qq174 := Qq174.op (fun _ h => .inl h) hC
        have mXg177 := not_opF Xg177 nXg177 (fun _ h => .inl h)
        replace Xg177 := Xg177.chg hC nXg177
        replace nXg177 := mXg177
        clear mXg177
        replace Qq179 := Qq179.op (fun _ h => .inl h) hC
        have mXg182 := not_opF Xg182 nXg182 (fun _ h => .inl h)
        replace Xg182 := Xg182.chg hC nXg182
        replace nXg182 := mXg182
        clear mXg182
        replace A : Al _ _ _ _ _ _ _ _ := ⟨S⟩
        clear S hC C
        refine t 128 (.tuple #[.agg #[.slice aq184 nq184 cq184], .int .i64 0]) ?_
        refine t 133 (.agg #[.slice aq184 nq184 cq184]) ?_
        refine t 134 (.int .i64 0) ?_
        have lXg17 := Xg17.lt
        have lXg96 := Xg96.lt
        have lXg101 := Xg101.lt
        have lXg172 := Xg172.lt
        have lXg177 := Xg177.lt
        have lXg182 := Xg182.lt
        refine ta 28 [.slice none 0 0] 32 (pg) ?_
        intro v186 g187 Xg187 hg187 B
        have yg187 := Nat.le_trans BB.size hg187
        have nXg187 := A.new hg187
        have eQq89g187 : Ap _ _ _ := ne1 Qq89.lt hg187
        have eQq90g187 : Ap _ _ _ := ne1 Qq90.lt hg187
        have eQq98g187 : Ap _ _ _ := ne1 Qq98.lt hg187
        have eQr0g187 : Ap _ _ _ := ne1 Qr0.lt hg187
        have eQr1g187 : Ap _ _ _ := ne1 Qr1.lt hg187
        have eQr2g187 : Ap _ _ _ := ne1 Qr2.lt hg187
        have eQr3g187 : Ap _ _ _ := ne1 Qr3.lt hg187
        have eQq169g187 : Ap _ _ _ := ne1 Qq169.lt hg187
        have eQq174g187 : Ap _ _ _ := ne1 Qq174.lt hg187
        have eQq179g187 : Ap _ _ _ := ne1 Qq179.lt hg187
        have eQq184g187 : Ap _ _ _ := ne1 Qq184.lt hg187
        replace BB := joinB BB B
        replace A := A.keep B
        replace Xg17 := Xg17.keep B
        replace Qq89 := Qq89.keep B
        replace Qq90 := Qq90.keep B
        replace Xg96 := Xg96.keep B
        replace Qq98 := Qq98.keep B
        replace Xg101 := Xg101.keep B
        replace Qr0 := Qr0.keep B
        replace Qr1 := Qr1.keep B
        replace Qr2 := Qr2.keep B
        replace Qr3 := Qr3.keep B
        replace Qq169 := Qq169.keep B
        replace Xg172 := Xg172.keep B
        replace Qq174 := Qq174.keep B
        replace Xg177 := Xg177.keep B
        replace Qq179 := Qq179.keep B
        replace Xg182 := Xg182.keep B
        replace Qq184 := Qq184.keep B
        clear B
        refine ts Xg187 0 (.agg #[.slice aq184 nq184 cq184]) [.slice aq184 nq184 cq184] [.slice aq184 nq184 cq184] ?_
        intro v188 Y C
        replace BB := belowC BB C yg187
        replace A := A.cell Xg187 C nXg187 (by decide)
        replace Xg17 := Xg17.chg C (show g17 ≠ g187 by omega)
        replace Qq89 := Qq89.cell C eQq89g187
        replace Qq90 := Qq90.cell C eQq90g187
        replace Xg96 := Xg96.chg C (show g96 ≠ g187 by omega)
        replace Qq98 := Qq98.cell C eQq98g187
        replace Xg101 := Xg101.chg C (show g101 ≠ g187 by omega)
        replace Qr0 := Qr0.cell C eQr0g187
        replace Qr1 := Qr1.cell C eQr1g187
        replace Qr2 := Qr2.cell C eQr2g187
        replace Qr3 := Qr3.cell C eQr3g187
        replace Qq169 := Qq169.cell C eQq169g187
        replace Xg172 := Xg172.chg C (show g172 ≠ g187 by omega)
        replace Qq174 := Qq174.cell C eQq174g187
        replace Xg177 := Xg177.chg C (show g177 ≠ g187 by omega)
        replace Qq179 := Qq179.cell C eQq179g187
        replace Xg182 := Xg182.chg C (show g182 ≠ g187 by omega)
        replace Qq184 := Qq184.cell C eQq184g187
        clear C Xg187
        have Xg187 := Y
        clear Y
        refine t 29 (.int .i64 0) ?_
        refine gl_nil ?_
        refine ge_then ?_
        clear Xg17
        clear Xg96
        clear Qq89
        clear Qq90
        clear Qr0
        clear Qr1
        clear Qr2
        clear Qr3
        refine gc_seq ?_
        refine gc_seq ?_
        refine gc_reg ?_
        refine tq 135 (.bool ct) (.bool false) (congrArg Value.bool b103) ?_
        refine t 136 (.bool false) ?_
        refine tn 137 ?_
        refine tn 138 ?_
        refine tn 139 ?_
        refine tn 140 ?_
        refine tn 141 ?_
        refine tn 142 ?_
        refine tn 143 ?_
        refine tn 144 ?_
        refine tn 145 ?_
        refine tn 146 ?_
        refine tn 147 ?_
        refine tn 148 ?_
        refine tn 149 ?_
        refine t 150 (.bool false) ?_
        refine gl_nil ?_
        refine ge_then ?_
        clear Xg101
        clear Qq98
        refine gc_fr [(22, pg g172), (24, pg g177), (26, pg g182), (28, pg g187), (150, .bool false)] (by kernel_rfl) ?_
        refine gc_no ?_
        refine gc_skip ?_
        refine ge_then ?_
        refine gc_seq ?_
        replace BB := BB.drew
        replace A := A.drew
        replace Qq169 := Qq169.drew
        replace Xg172 := Xg172.drew
        replace Qq174 := Qq174.drew
        replace Xg177 := Xg177.drew
        replace Qq179 := Qq179.drew
        replace Xg182 := Xg182.drew
        replace Qq184 := Qq184.drew
        replace Xg187 := Xg187.drew
        refine gc_draw (fun w' => Blk w' g172 [.slice aq169 nq169 cq169] 32 ∧ Blk w' g177 [.slice aq174 nq174 cq174] 32 ∧ Blk w' g182 [.slice aq179 nq179 cq179] 32 ∧ Blk w' g187 [.slice aq184 nq184 cq184] 32) (fun _ => false) ⟨Xg172, Xg177, Xg182, Xg187⟩ ?_
        refine zlr 0 151 [.slice aq169 nq169 cq169] (fun _ h => h.1) 0 ?_
        refine zlr 1 152 [.slice aq174 nq174 cq174] (fun _ h => h.2.1) 0 ?_
        have hc189 : (zv * (S1 + S2) / U36) = (zv * (S1 + S2) / U36) := by rfl
        refine zc 2 153 28 #[.agg #[.slice aq169 nq169 cq169], .agg #[.slice aq174 nq174 cq174]] (dCmpEq Qq169.nat Qq174.nat (by omega) (by omega) hc189) ?_
        rintro _ v191 ⟨rfl, B⟩
        replace BB := joinB BB B
        replace A := A.keep B
        replace Qq169 := Qq169.keep B
        replace Xg172 := Xg172.keep B
        replace Qq174 := Qq174.keep B
        replace Xg177 := Xg177.keep B
        replace Qq179 := Qq179.keep B
        replace Xg182 := Xg182.keep B
        replace Qq184 := Qq184.keep B
        replace Xg187 := Xg187.keep B
        clear B
        refine ⟨_, rfl, ⟨Xg172, Xg177, Xg182, Xg187⟩, ?_⟩
        refine z 3 154 (.bool true) ?_
        refine z 4 155 (.bool true) ?_
        refine zlr 5 156 [.slice aq179 nq179 cq179] (fun _ h => h.2.2.1) 0 ?_
        refine zlr 6 157 [.slice aq169 nq169 cq169] (fun _ h => h.1) 0 ?_
        refine zlr 7 158 [.slice aq174 nq174 cq174] (fun _ h => h.2.1) 0 ?_
        refine zc 8 159 27 #[.agg #[.slice aq169 nq169 cq169], .agg #[.slice aq174 nq174 cq174]] (eAdd Qq169.nat (by omega) Qq174.nat (by omega)) ?_
        rintro _ v193 ⟨aq192, nq192, cq192, zq192, rfl, Mq192, hq192, mq192, B⟩
        have eQq192g172 : Ap _ _ _ := ne2 hq192 Xg172.lt
        have eQq192g177 : Ap _ _ _ := ne2 hq192 Xg177.lt
        have eQq192g182 : Ap _ _ _ := ne2 hq192 Xg182.lt
        have eQq192g187 : Ap _ _ _ := ne2 hq192 Xg187.lt
        have Qq192 := nq_of A.sx Mq192 hq192
        clear Mq192 hq192
        replace BB := joinB BB B
        replace A := A.keep B
        replace Qq169 := Qq169.keep B
        replace Xg172 := Xg172.keep B
        replace Qq174 := Qq174.keep B
        replace Xg177 := Xg177.keep B
        replace Qq179 := Qq179.keep B
        replace Xg182 := Xg182.keep B
        replace Qq184 := Qq184.keep B
        replace Xg187 := Xg187.keep B
        clear B
        refine ⟨_, rfl, ⟨Xg172, Xg177, Xg182, Xg187⟩, ?_⟩
        have hc194 : (zv * (S1 + S2) / U36) + (zv * (S1 + S2) / U36) ≤ ((zv + zv) * (S1 + S2) / U36) := by exact al_ge _ _
        refine zc 9 160 28 #[.agg #[.slice aq179 nq179 cq179], .agg #[.slice aq192 nq192 cq192]] (dCmpGe Qq179.nat Qq192.nat (by omega) (by omega) hc194) ?_
        rintro _ v196 ⟨r195, rfl, hr195, B⟩
        replace BB := joinB BB B
        replace A := A.keep B
        replace Qq169 := Qq169.keep B
        replace Xg172 := Xg172.keep B
        replace Qq174 := Qq174.keep B
        replace Xg177 := Xg177.keep B
        replace Qq179 := Qq179.keep B
        replace Xg182 := Xg182.keep B
        replace Qq184 := Qq184.keep B
        replace Xg187 := Xg187.keep B
        replace Qq192 := Qq192.keep B
        clear B
        refine ⟨_, rfl, ⟨Xg172, Xg177, Xg182, Xg187⟩, ?_⟩
        have t197 : (0 : Int) ≤ r195 := by omega
        refine zq 10 161 (.bool (decide ((0 : Int) ≤ r195))) (.bool true) (congrArg Value.bool (decide_eq_true t197)) ?_
        refine z 11 162 (.bool true) ?_
        refine z 12 163 (.bool true) ?_
        refine zlr 13 164 [.slice aq184 nq184 cq184] (fun _ h => h.2.2.2) 0 ?_
        refine zlr 14 165 [.slice aq169 nq169 cq169] (fun _ h => h.1) 0 ?_
        have hc198 : (zv * S2 / U36) ≤ (zv * (S1 + S2) / U36) := by exact al_le hz0 sb1.1
        refine zc 15 166 28 #[.agg #[.slice aq184 nq184 cq184], .agg #[.slice aq169 nq169 cq169]] (dCmpLe Qq184.nat Qq169.nat (by omega) (by omega) hc198) ?_
        rintro _ v200 ⟨r199, rfl, hr199, B⟩
        replace BB := joinB BB B
        replace A := A.keep B
        replace Qq169 := Qq169.keep B
        replace Xg172 := Xg172.keep B
        replace Qq174 := Qq174.keep B
        replace Xg177 := Xg177.keep B
        replace Qq179 := Qq179.keep B
        replace Xg182 := Xg182.keep B
        replace Qq184 := Qq184.keep B
        replace Xg187 := Xg187.keep B
        replace Qq192 := Qq192.keep B
        clear B
        refine ⟨_, rfl, ⟨Xg172, Xg177, Xg182, Xg187⟩, ?_⟩
        have t201 : (r199 : Int) ≤ 0 := by omega
        refine zq 16 167 (.bool (decide ((r199 : Int) ≤ 0))) (.bool true) (congrArg Value.bool (decide_eq_true t201)) ?_
        refine z 17 168 (.bool true) ?_
        refine z 18 10 (.bool true) ?_
        refine gz_done ?_
        refine ge_then ?_
        clear Xg172
        clear Xg177
        clear Xg182
        clear Xg187
        clear Qq169
        clear Qq174
        clear Qq179
        clear Qq184
        clear Qq192
        refine gc_fr [(10, .bool true)] (by kernel_rfl) ?_
        refine gc_ret ?_
        refine ge_ret (.bool true) (rs1 10 (by kernel_rfl) (by kernel_rfl)) ?_
        exact ⟨rfl, BB⟩
end Fo
namespace f1Alike
open Go.RowKit Go.Lib Lim Fo
theorem walk (y0 y1 : Int) (a2 : Option Addr) (len2 cap2 : Nat) (a3 : Option Addr) (len3 cap3 : Nat) (y4 : Bool) (w : World) (wy0 : (Lit.int .u64 y0).wf = true) (wy1 : (Lit.int .u64 y1).wf = true) (w2 : DecsIn w a2 len2 cap2) (w3 : DecsIn w a3 len3 cap3) :
    Calls Tryz.prog 7 #[.int .u64 y0, .int .u64 y1, .slice a2 len2 cap2, .slice a3 len3 cap3, .bool y4] w fun e w' => e = .returned (.bool true) ∧ Below w.heap.size w w' := by
  obtain ⟨b, o, aa, ns, cc, xs, DA⟩ := w2.open
  obtain ⟨b2, o2, aa2, ns2, cc2, xs2, DB⟩ := w3.open
  exact f1Alike_walk (u64r wy0) (u64r wy1) DA DB
end f1Alike
end Go.Proofs.YthfepflplbahkaaGreatDoor
