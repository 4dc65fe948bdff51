/- gleanlaw10.ShareSplit. -/
import Derived.Test.YtgflacmnfegjlaaDoorJda
namespace Go.Proofs.YtgflacmnfegjlaaDoor
open Go.RowKit Go.Lib Lim Pg Gl Sh
set_option maxHeartbeats 8000000 in
set_option maxRecDepth 100000 in
theorem shareSplit_walk {w : World} {tok : Int} {ao : Option Addr} {n c pb po : Nat} {aa : Nat → Option Addr} {ns cc : Nat → Nat} {xs : Nat → Int} (rt : 0 ≤ tok ∧ tok < 18446744073709551616) (DA : DecsA w ao n pb po aa ns cc xs) :
    Calls Tryd.prog 3 #[.int .u64 tok, .slice ao n c] w fun e w' => e = .returned (.bool true) ∧ Below w.heap.size w w' := by
  have BB := Below.refl w.heap.size w
  have hnn : ∀ i, i < n → 0 ≤ xs i := fun i hi => (DA.nat i hi).nonneg
  refine gc_enter (n := 146) Tryd.func3 rfl (by kernel_rfl) (by kernel_rfl) ?_
  refine gc_seq ?_
  refine gc_reg ?_
  refine t 4 (.bool false) ?_
  refine gl_nil ?_
  refine ge_then ?_
  refine gc_seq ?_
  refine gc_seq ?_
  refine gc_reg ?_
  refine tc 17 4 #[] (knownS) ?_
  rintro _ v1 ⟨rfl, B⟩
  refine ⟨_, rfl, ?_⟩
  have sz2 := B.size
  replace BB := joinB BB B
  clear B
  refine t 18 (.bool false) ?_
  refine gl_nil ?_
  refine ge_then ?_
  refine gc_no ?_
  refine gc_skip ?_
  refine ge_then ?_
  refine gc_seq ?_
  refine gc_seq ?_
  refine gc_reg ?_
  refine t 19 (.slice ao n c) ?_
  refine t 20 (.int .i64 ((n : Nat) : Int)) ?_
  by_cases c3 : (20 : Int) < ((n : Nat) : Int)
  · refine tq 21 (.bool (decide ((20 : Int) < ((n : Nat) : Int)))) (.bool true) (congrArg Value.bool (decide_eq_true c3)) ?_
    refine t 22 (.bool true) ?_
    refine tn 23 ?_
    refine tn 24 ?_
    refine tn 25 ?_
    refine t 26 (.bool true) ?_
    refine gl_nil ?_
    refine ge_then ?_
    refine gc_fr [(0, .int .u64 tok), (1, .slice ao n c), (4, .bool false), (26, .bool true)] (by kernel_rfl) ?_
    refine gc_yes ?_
    refine gc_seq ?_
    refine gc_reg ?_
    refine t 4 (.bool true) ?_
    refine gl_nil ?_
    refine ge_then ?_
    refine gc_ret ?_
    refine ge_tr ?_
    refine ge_ret (.bool true) (rs1 4 (by kernel_rfl) (by kernel_rfl)) ?_
    exact ⟨rfl, BB⟩
  · refine tq 21 (.bool (decide ((20 : Int) < ((n : Nat) : Int)))) (.bool false) (congrArg Value.bool (decide_eq_false c3)) ?_
    refine t 22 (.bool false) ?_
    refine t 23 (.slice ao n c) ?_
    refine tc 24 5 #[.slice ao n c] (small_keep DA BB) ?_
    rintro _ v4 ⟨bl, rfl, hsm, B⟩
    refine ⟨_, rfl, ?_⟩
    have sz5 := B.size
    replace BB := joinB BB B
    clear B
    cases bl
    · skip
      refine t 25 (.bool true) ?_
      refine t 26 (.bool true) ?_
      refine gl_nil ?_
      refine ge_then ?_
      refine gc_fr [(0, .int .u64 tok), (1, .slice ao n c), (4, .bool false), (26, .bool true)] (by kernel_rfl) ?_
      refine gc_yes ?_
      refine gc_seq ?_
      refine gc_reg ?_
      refine t 4 (.bool true) ?_
      refine gl_nil ?_
      refine ge_then ?_
      refine gc_ret ?_
      refine ge_tr ?_
      refine ge_ret (.bool true) (rs1 4 (by kernel_rfl) (by kernel_rfl)) ?_
      exact ⟨rfl, BB⟩
    · replace hsm := hsm rfl
      refine t 25 (.bool false) ?_
      refine t 26 (.bool false) ?_
      refine gl_nil ?_
      refine ge_then ?_
      refine gc_fr [(0, .int .u64 tok), (1, .slice ao n c), (4, .bool false), (26, .bool false)] (by kernel_rfl) ?_
      refine gc_no ?_
      refine gc_skip ?_
      refine ge_then ?_
      refine gc_seq ?_
      refine gc_reg ?_
      refine t 27 (.agg #[.slice none 0 0]) ?_
      refine ta 5 [.slice none 0 0] 29 (pg) ?_
      intro v6 g7 Xg7 hg7 B
      have zg7 := Nat.le_trans BB.size hg7
      have sz8 := B.size
      replace BB := joinB BB B
      clear B
      refine ts Xg7 0 (.agg #[.slice none 0 0]) [.slice none 0 0] [.slice none 0 0] ?_
      intro v9 Y C
      have sz10 := C.size
      replace BB := belowC BB C (by omega)
      clear C Xg7
      have Xg7 := Y
      clear Y
      refine gl_nil ?_
      refine ge_then ?_
      refine gc_seq ?_
      refine gc_seq ?_
      refine gc_reg ?_
      refine t 6 (.int .i64 0) ?_
      refine gl_nil ?_
      refine ge_then ?_
      refine gc_block ?_
      refine gc_loop (fun i => n - i) (fun (i : Nat) => [(0, .int .u64 tok), (1, .slice ao n c), (5, pg g7), (6, .int .i64 (i : Int))]) (fun i w' => i ≤ n ∧ (∃ A N C, Blk w' g7 [.slice A N C] 29 ∧ NatO w' A N C (sm xs i) ∧ N ≤ 13 * i) ∧ Below w.heap.size w w') 0 ⟨Nat.zero_le _, ⟨none, 0, 0, Xg7, natO_nil _, Nat.zero_le _⟩, BB⟩ (by kernel_rfl) ?_
      clear BB
      clear Xg7
      rintro i v11 ⟨hi, ⟨A, N, C, XA, OA, LA⟩, BB⟩
      refine gc_seq ?_
      refine gc_seq ?_
      refine gc_reg ?_
      refine t 28 (.int .i64 (i : Int)) ?_
      refine t 29 (.slice ao n c) ?_
      refine t 30 (.int .i64 ((n : Nat) : Int)) ?_
      by_cases ci : (i : Int) < ((n : Nat) : Int)
      · have hk_i : i < n := by omega
        have hs_i := hsm i hk_i
        refine tq 31 (.bool (decide ((i : Int) < ((n : Nat) : Int)))) (.bool true) (congrArg Value.bool (decide_eq_true ci)) ?_
        refine gl_nil ?_
        refine ge_then ?_
        refine gc_yes ?_
        refine gc_skip ?_
        refine ge_then ?_
        refine gc_seq ?_
        refine gc_block ?_
        replace BB := BB.drew
        replace XA := XA.drew
        replace OA := OA.keep (Below.refl _ _).drew
        refine gc_draw (fun w' => Blk w' g7 [.slice A N C] 29 ∧ Below w.heap.size w w') (fun i => decide (6 ≤ i)) ⟨XA, BB⟩ ?_
        refine zlr 0 34 [.slice A N C] (fun _ h => h.1) 0 ?_
        refine z 1 35 (.slice ao n c) ?_
        refine z 2 36 (.int .i64 (i : Int)) ?_
        refine zr 3 37 (pq pb (po + i)) (fun _ _ => congr_v (by rw [Nat.mul_one]) (run_ixa 1 pb po n c i hk_i DA.ptr)) ?_
        refine zr 4 38 (.agg #[.slice (aa i) (ns i) (cc i)]) (fun _ h => run_ldd (cellB h.2 (DA.cell i hk_i))) ?_
        refine zc 5 39 6 #[.agg #[.slice A N C], .agg #[.slice (aa i) (ns i) (cc i)]] (dAdd OA.a ((DA.nat i hk_i).keep BB) (by omega) (by omega)) ?_
        rintro _ v13 ⟨aq12, nq12, cq12, rfl, Oq12, Lq12, B⟩
        have sz14 := B.size
        replace BB := joinB BB B
        replace XA := XA.keep B
        replace OA := OA.keep B
        clear B
        refine ⟨_, rfl, ⟨XA, BB⟩, ?_⟩
        refine gz_late ?_
        refine ys 6 XA 0 (.agg #[.slice aq12 nq12 cq12]) [.slice aq12 nq12 cq12] [.slice aq12 nq12 cq12] ?_
        intro v15 Y C
        have sz16 := C.size
        replace BB := belowC BB C (by omega)
        replace OA := NatO.chg1 OA XA C
        replace Oq12 := NatO.chg1 Oq12 XA C
        clear C XA
        have XA := Y
        clear Y
        refine gy_done ?_
        refine ge_bn ?_
        refine ge_then ?_
        refine gc_fr [(0, .int .u64 tok), (1, .slice ao n c), (5, pg g7), (6, .int .i64 (i : Int)), (28, .int .i64 (i : Int)), (29, .slice ao n c), (30, .int .i64 ((n : Nat) : Int)), (31, .bool true), (34, .agg #[.slice A N C]), (35, .slice ao n c), (36, .int .i64 (i : Int)), (37, pq pb (po + i)), (38, .agg #[.slice (aa i) (ns i) (cc i)]), (39, .agg #[.slice aq12 nq12 cq12])] (by kernel_rfl) ?_
        refine gc_reg ?_
        refine t 32 (.int .i64 (i : Int)) ?_
        refine tq 33 (.int .i64 (IntKind.i64.wrap ((i : Int) + 1))) (.int .i64 ((i : Int) + 1)) (wi (by omega)) ?_
        refine t 6 (.int .i64 ((i : Int) + 1)) ?_
        refine gl_nil ?_
        exact ge_round (i + 1) (by omega) ⟨by omega, ⟨_, _, _, XA, Oq12, by omega⟩, BB⟩ (by kernel_rfl)
      · refine tq 31 (.bool (decide ((i : Int) < ((n : Nat) : Int)))) (.bool false) (congrArg Value.bool (decide_eq_false ci)) ?_
        refine gl_nil ?_
        refine ge_then ?_
        refine gc_no ?_
        refine gc_exit ?_
        refine ge_tx ?_
        refine ge_tx ?_
        refine ge_bx ?_
        refine ge_then ?_
        refine gc_seq ?_
        refine gc_reg ?_
        refine t 40 (.agg #[.slice none 0 0]) ?_
        have lXA := XA.lt
        refine ta 7 [.slice none 0 0] 29 (pg) ?_
        intro v17 g18 Xg18 hg18 B
        have zg18 := Nat.le_trans BB.size hg18
        have sz19 := B.size
        replace BB := joinB BB B
        replace XA := XA.keep B
        replace OA := OA.keep B
        clear B
        refine ts Xg18 0 (.agg #[.slice none 0 0]) [.slice none 0 0] [.slice none 0 0] ?_
        intro v20 Y C
        have sz21 := C.size
        replace BB := belowC BB C (by omega)
        replace XA := XA.chg C (show g7 ≠ g18 by omega)
        replace OA := NatO.chg1 OA Xg18 C
        clear C Xg18
        have Xg18 := Y
        clear Y
        refine gl_nil ?_
        refine ge_then ?_
        refine gc_seq ?_
        refine gc_seq ?_
        refine gc_reg ?_
        refine t 8 (.int .i64 0) ?_
        refine gl_nil ?_
        refine ge_then ?_
        refine gc_block ?_
        have hin : i = n := by omega
        have OT : NatO _ A N C (sm xs n) := hin ▸ OA
        refine gc_loop (fun i => n - i) (fun (i : Nat) => [(0, .int .u64 tok), (1, .slice ao n c), (5, pg g7), (7, pg g18), (8, .int .i64 (i : Int))]) (fun i w' => i ≤ n ∧ (∃ A N C, Blk w' g7 [.slice A N C] 29 ∧ NatO w' A N C (sm xs n) ∧ N ≤ 260) ∧ (∃ A N C, Blk w' g18 [.slice A N C] 29 ∧ NatO w' A N C (sm (fun j => woV tok (sm xs n) (xs j)) i) ∧ N ≤ 54 * i) ∧ Below w.heap.size w w') 0 ⟨Nat.zero_le _, ⟨_, _, _, XA, OT, by omega⟩, ⟨none, 0, 0, Xg18, natO_nil _, Nat.zero_le _⟩, BB⟩ (by kernel_rfl) ?_
        clear BB
        clear XA
        clear OA
        clear Xg18
        clear OT
        clear hin LA
        rintro i v22 ⟨hi, ⟨A, N, C, XA, OA, LA⟩, ⟨A2, N2, C2, XS, OS, LS⟩, BB⟩
        refine gc_seq ?_
        refine gc_seq ?_
        refine gc_reg ?_
        refine t 41 (.int .i64 (i : Int)) ?_
        refine t 42 (.slice ao n c) ?_
        refine t 43 (.int .i64 ((n : Nat) : Int)) ?_
        by_cases ci : (i : Int) < ((n : Nat) : Int)
        · have hk_i : i < n := by omega
          have hs_i := hsm i hk_i
          refine tq 44 (.bool (decide ((i : Int) < ((n : Nat) : Int)))) (.bool true) (congrArg Value.bool (decide_eq_true ci)) ?_
          refine gl_nil ?_
          refine ge_then ?_
          refine gc_yes ?_
          refine gc_skip ?_
          refine ge_then ?_
          refine gc_seq ?_
          refine gc_block ?_
          refine gc_join (fun (gw : Nat) => [(0, .int .u64 tok), (1, .slice ao n c), (5, pg g7), (7, pg g18), (8, .int .i64 (i : Int)), (9, pg gw)]) (fun gw w' => g7 ≠ gw ∧ g18 ≠ gw ∧ w.heap.size ≤ gw ∧ (∃ A N C, Blk w' gw [.slice A N C] 29 ∧ NatO w' A N C (woV tok (sm xs n) (xs i)) ∧ N ≤ 53) ∧ Blk w' g7 [.slice A N C] 29 ∧ NatO w' A N C (sm xs n) ∧ Blk w' g18 [.slice A2 N2 C2] 29 ∧ NatO w' A2 N2 C2 (sm (fun j => woV tok (sm xs n) (xs j)) i) ∧ Below w.heap.size w w') ?_ ?_
          · replace BB := BB.drew
            replace XA := XA.drew
            replace OA := OA.keep (Below.refl _ _).drew
            replace XS := XS.drew
            replace OS := OS.keep (Below.refl _ _).drew
            refine gc_draw (fun w' => Blk w' g7 [.slice A N C] 29 ∧ Below w.heap.size w w') (fun _ => false) ⟨XA, BB⟩ ?_
            refine z 0 47 (.int .u64 tok) ?_
            refine zlr 1 48 [.slice A N C] (fun _ h => h.1) 0 ?_
            refine z 2 49 (.slice ao n c) ?_
            refine z 3 50 (.int .i64 (i : Int)) ?_
            refine zr 4 51 (pq pb (po + i)) (fun _ _ => congr_v (by rw [Nat.mul_one]) (run_ixa 1 pb po n c i hk_i DA.ptr)) ?_
            refine zr 5 52 (.agg #[.slice (aa i) (ns i) (cc i)]) (fun _ h => run_ldd (cellB h.2 (DA.cell i hk_i))) ?_
            refine gz_ready [6, 7] ?_
            refine ga_call 6 (some 53) 7 #[.int .u64 tok, .agg #[.slice A N C], .agg #[.slice (aa i) (ns i) (cc i)]] (sWorth rt OA.a (by omega) ((DA.nat i hk_i).keep BB) (by omega)) ?_ ?_
            · rintro _ v24 ⟨aq23, nq23, cq23, rfl, Oq23, Lq23, B⟩
              have sz25 := B.size
              replace BB := joinB BB B
              replace XA := XA.keep B
              replace OA := OA.keep B
              replace XS := XS.keep B
              replace OS := OS.keep B
              clear B
              refine ⟨_, rfl, ⟨XA, BB⟩, ?_⟩
              have lXA := XA.lt
              have lXS := XS.lt
              refine za 7 9 [.slice none 0 0] 29 (pg) ?_
              intro v26 g27 Xg27 hg27 B
              have zg27 := Nat.le_trans BB.size hg27
              have sz28 := B.size
              replace BB := joinB BB B
              replace XA := XA.keep B
              replace OA := OA.keep B
              replace XS := XS.keep B
              replace OS := OS.keep B
              replace Oq23 := Oq23.keep B
              clear B
              refine ⟨⟨XA, BB⟩, ?_⟩
              refine zs 8 Xg27 0 (.agg #[.slice aq23 nq23 cq23]) [.slice aq23 nq23 cq23] [.slice aq23 nq23 cq23] ?_
              intro v29 Y C
              have sz30 := C.size
              replace BB := belowC BB C (by omega)
              replace XA := XA.chg C (show g7 ≠ g27 by omega)
              replace OA := NatO.chg1 OA Xg27 C
              replace XS := XS.chg C (show g18 ≠ g27 by omega)
              replace OS := NatO.chg1 OS Xg27 C
              replace Oq23 := NatO.chg1 Oq23 Xg27 C
              clear C Xg27
              have Xg27 := Y
              clear Y
              refine ⟨⟨XA, BB⟩, ?_⟩
              refine gz_done ?_
              exact ge_join g27 ⟨by omega, by omega, by omega, ⟨_, _, _, Xg27, Oq23, by omega⟩, XA, OA, XS, OS, BB⟩ (by kernel_rfl)
            have lXA := XA.lt
            have lXS := XS.lt
            refine zaa 7 9 [.slice none 0 0] 29 (pg) ?_ ?_
            · intro v31 g32 Xg32 hg32 B
              have zg32 := Nat.le_trans BB.size hg32
              have sz33 := B.size
              replace BB := joinB BB B
              replace XA := XA.keep B
              replace OA := OA.keep B
              replace XS := XS.keep B
              replace OS := OS.keep B
              clear B
              refine ⟨⟨XA, BB⟩, ?_⟩
              refine zc 6 53 7 #[.int .u64 tok, .agg #[.slice A N C], .agg #[.slice (aa i) (ns i) (cc i)]] (sWorth rt OA.a (by omega) ((DA.nat i hk_i).keep BB) (by omega)) ?_
              rintro _ v35 ⟨aq34, nq34, cq34, rfl, Oq34, Lq34, B⟩
              have sz36 := B.size
              replace BB := joinB BB B
              replace XA := XA.keep B
              replace OA := OA.keep B
              replace XS := XS.keep B
              replace OS := OS.keep B
              replace Xg32 := Xg32.keep B
              clear B
              refine ⟨_, rfl, ⟨XA, BB⟩, ?_⟩
              refine zs 8 Xg32 0 (.agg #[.slice aq34 nq34 cq34]) [.slice aq34 nq34 cq34] [.slice aq34 nq34 cq34] ?_
              intro v37 Y C
              have sz38 := C.size
              replace BB := belowC BB C (by omega)
              replace XA := XA.chg C (show g7 ≠ g32 by omega)
              replace OA := NatO.chg1 OA Xg32 C
              replace XS := XS.chg C (show g18 ≠ g32 by omega)
              replace OS := NatO.chg1 OS Xg32 C
              replace Oq34 := NatO.chg1 Oq34 Xg32 C
              clear C Xg32
              have Xg32 := Y
              clear Y
              refine ⟨⟨XA, BB⟩, ?_⟩
              refine gz_done ?_
              exact ge_join g32 ⟨by omega, by omega, by omega, ⟨_, _, _, Xg32, Oq34, by omega⟩, XA, OA, XS, OS, BB⟩ (by kernel_rfl)
            exact ga_nil
          clear BB
          clear XA
          clear OA
          clear XS
          clear OS
          rintro gw v39 ⟨na, nb, zgw, ⟨A3, N3, C3, XW, OW, LW⟩, XA, OA, XS, OS, BB⟩
          refine gc_seq ?_
          refine gc_reg ?_
          refine tlr 54 [.slice A2 N2 C2] XS 0 ?_
          refine tlr 55 [.slice A3 N3 C3] XW 0 ?_
          refine tc 56 6 #[.agg #[.slice A2 N2 C2], .agg #[.slice A3 N3 C3]] (dAdd OS.a OW.a (by omega) (by omega)) ?_
          rintro _ v41 ⟨aq40, nq40, cq40, rfl, Oq40, Lq40, B⟩
          refine ⟨_, rfl, ?_⟩
          have sz42 := B.size
          replace BB := joinB BB B
          replace XA := XA.keep B
          replace OA := OA.keep B
          replace XS := XS.keep B
          replace OS := OS.keep B
          replace XW := XW.keep B
          replace OW := OW.keep B
          clear B
          refine ts XS 0 (.agg #[.slice aq40 nq40 cq40]) [.slice aq40 nq40 cq40] [.slice aq40 nq40 cq40] ?_
          intro v43 Y C
          have sz44 := C.size
          replace BB := belowC BB C (by omega)
          replace XA := XA.chg C (show g7 ≠ g18 by omega)
          replace OA := NatO.chg1 OA XS C
          replace OS := NatO.chg1 OS XS C
          replace XW := XW.chg C (show gw ≠ g18 by omega)
          replace OW := NatO.chg1 OW XS C
          replace Oq40 := NatO.chg1 Oq40 XS C
          clear C XS
          have XS := Y
          clear Y
          refine gl_nil ?_
          refine ge_then ?_
          refine gc_seq ?_
          replace BB := BB.drew
          replace XA := XA.drew
          replace OA := OA.keep (Below.refl _ _).drew
          replace XS := XS.drew
          replace OS := OS.keep (Below.refl _ _).drew
          replace XW := XW.drew
          replace OW := OW.keep (Below.refl _ _).drew
          replace Oq40 := Oq40.keep (Below.refl _ _).drew
          refine gc_draw (fun w' => Blk w' g7 [.slice A N C] 29 ∧ Below w.heap.size w w') (fun _ => false) ⟨XA, BB⟩ ?_
          refine z 0 58 (.int .u64 tok) ?_
          refine zlr 1 59 [.slice A N C] (fun _ h => h.1) 0 ?_
          refine z 2 60 (.slice ao n c) ?_
          refine z 3 61 (.int .i64 (i : Int)) ?_
          refine zr 4 62 (pq pb (po + i)) (fun _ _ => congr_v (by rw [Nat.mul_one]) (run_ixa 1 pb po n c i hk_i DA.ptr)) ?_
          refine zr 5 63 (.agg #[.slice (aa i) (ns i) (cc i)]) (fun _ h => run_ldd (cellB h.2 (DA.cell i hk_i))) ?_
          have e_i : reE (sm xs n) (xs i) = 0 := re_zero (sm_le hnn hk_i)
          have r_i := reV_rng (S := (sm xs n)) (x := xs i) rt.1 (hnn i hk_i)
          refine zc 6 64 8 #[.int .u64 tok, .agg #[.slice A N C], .agg #[.slice (aa i) (ns i) (cc i)]] (sRedeem rt OA.a (by omega) ((DA.nat i hk_i).keep BB) (by omega)) ?_
          rintro _ v45 ⟨rfl, B⟩
          have sz46 := B.size
          replace BB := joinB BB B
          replace XA := XA.keep B
          replace OA := OA.keep B
          replace XS := XS.keep B
          replace OS := OS.keep B
          replace XW := XW.keep B
          replace OW := OW.keep B
          replace Oq40 := Oq40.keep B
          clear B
          refine ⟨_, rfl, ⟨XA, BB⟩, ?_⟩
          refine z 7 57 (.tuple #[.int .u64 (reV tok (sm xs n) (xs i)), .int .i64 (reE (sm xs n) (xs i))]) ?_
          refine z 8 65 (.int .u64 (reV tok (sm xs n) (xs i))) ?_
          refine z 9 66 (.int .i64 (reE (sm xs n) (xs i))) ?_
          refine z 10 10 (.int .u64 (reV tok (sm xs n) (xs i))) ?_
          refine z 11 11 (.int .i64 (reE (sm xs n) (xs i))) ?_
          refine gz_done ?_
          refine ge_then ?_
          refine gc_fr [(0, .int .u64 tok), (1, .slice ao n c), (5, pg g7), (7, pg g18), (8, .int .i64 (i : Int)), (9, pg gw), (10, .int .u64 (reV tok (sm xs n) (xs i))), (11, .int .i64 (reE (sm xs n) (xs i))), (54, .agg #[.slice A2 N2 C2]), (55, .agg #[.slice A3 N3 C3]), (56, .agg #[.slice aq40 nq40 cq40]), (57, .tuple #[.int .u64 (reV tok (sm xs n) (xs i)), .int .i64 (reE (sm xs n) (xs i))]), (58, .int .u64 tok), (59, .agg #[.slice A N C]), (60, .slice ao n c), (61, .int .i64 (i : Int)), (62, pq pb (po + i)), (63, .agg #[.slice (aa i) (ns i) (cc i)]), (64, .tuple #[.int .u64 (reV tok (sm xs n) (xs i)), .int .i64 (reE (sm xs n) (xs i))]), (65, .int .u64 (reV tok (sm xs n) (xs i))), (66, .int .i64 (reE (sm xs n) (xs i)))] (by kernel_rfl) ?_
          refine gc_seq ?_
          refine gc_reg ?_
          refine tlr 68 [.slice A3 N3 C3] XW 0 ?_
          refine tc 69 9 #[.agg #[.slice A3 N3 C3]] (dTrunc OW.a (by omega)) ?_
          rintro _ v48 ⟨aq47, nq47, cq47, aq47y, nq47y, cq47y, rfl, Oq47, -, Lq47, -, B⟩
          refine ⟨_, rfl, ?_⟩
          have sz49 := B.size
          replace BB := joinB BB B
          replace XA := XA.keep B
          replace OA := OA.keep B
          replace XS := XS.keep B
          replace OS := OS.keep B
          replace XW := XW.keep B
          replace OW := OW.keep B
          replace Oq40 := Oq40.keep B
          clear B
          refine t 67 (.tuple #[.slice aq47 nq47 cq47, .agg #[.slice aq47y nq47y cq47y]]) ?_
          refine t 70 (.slice aq47 nq47 cq47) ?_
          refine t 71 (.agg #[.slice aq47y nq47y cq47y]) ?_
          have lXA := XA.lt
          have lXS := XS.lt
          have lXW := XW.lt
          refine ta 13 [.slice none 0 0] 29 (pg) ?_
          intro v50 g51 Xg51 hg51 B
          have zg51 := Nat.le_trans BB.size hg51
          have sz52 := B.size
          replace BB := joinB BB B
          replace XA := XA.keep B
          replace OA := OA.keep B
          replace XS := XS.keep B
          replace OS := OS.keep B
          replace XW := XW.keep B
          replace OW := OW.keep B
          replace Oq40 := Oq40.keep B
          replace Oq47 := Oq47.keep B
          clear B
          refine t 12 (.slice aq47 nq47 cq47) ?_
          refine ts Xg51 0 (.agg #[.slice aq47y nq47y cq47y]) [.slice aq47y nq47y cq47y] [.slice aq47y nq47y cq47y] ?_
          intro v53 Y C
          have sz54 := C.size
          replace BB := belowC BB C (by omega)
          replace XA := XA.chg C (show g7 ≠ g51 by omega)
          replace OA := NatO.chg1 OA Xg51 C
          replace XS := XS.chg C (show g18 ≠ g51 by omega)
          replace OS := NatO.chg1 OS Xg51 C
          replace XW := XW.chg C (show gw ≠ g51 by omega)
          replace OW := NatO.chg1 OW Xg51 C
          replace Oq40 := NatO.chg1 Oq40 Xg51 C
          replace Oq47 := NatO.chg1 Oq47 Xg51 C
          clear C Xg51
          have Xg51 := Y
          clear Y
          refine gl_nil ?_
          refine ge_then ?_
          refine gc_join (fun (_ : Unit) => [(0, .int .u64 tok), (1, .slice ao n c), (5, pg g7), (7, pg g18), (8, .int .i64 (i : Int)), (10, .int .u64 (reV tok (sm xs n) (xs i)))]) (fun _ w' => Blk w' g7 [.slice A N C] 29 ∧ NatO w' A N C (sm xs n) ∧ Blk w' g18 [.slice aq40 nq40 cq40] 29 ∧ NatO w' aq40 nq40 cq40 ((sm (fun j => woV tok (sm xs n) (xs j)) i) + (woV tok (sm xs n) (xs i))) ∧ Below w.heap.size w w') ?_ ?_
          · refine gc_seq ?_
            replace BB := BB.drew
            replace XA := XA.drew
            replace OA := OA.keep (Below.refl _ _).drew
            replace XS := XS.drew
            replace OS := OS.keep (Below.refl _ _).drew
            replace XW := XW.drew
            replace OW := OW.keep (Below.refl _ _).drew
            replace Oq40 := Oq40.keep (Below.refl _ _).drew
            replace Oq47 := Oq47.keep (Below.refl _ _).drew
            replace Xg51 := Xg51.drew
            refine gc_draw (fun w' => Blk w' g7 [.slice A N C] 29 ∧ Below w.heap.size w w') (fun _ => false) ⟨XA, BB⟩ ?_
            refine z 0 72 (.int .i64 (reE (sm xs n) (xs i))) ?_
            refine zq 1 73 (.bool ((reE (sm xs n) (xs i) : Int) != 0)) (.bool false) (congrArg Value.bool (bne_eq_false_iff_eq.2 e_i)) ?_
            refine z 2 74 (.bool false) ?_
            refine z 3 75 (.slice ao n c) ?_
            refine z 4 76 (.int .i64 (i : Int)) ?_
            refine zr 5 77 (pq pb (po + i)) (fun _ _ => congr_v (by rw [Nat.mul_one]) (run_ixa 1 pb po n c i hk_i DA.ptr)) ?_
            refine zr 6 78 (.agg #[.slice (aa i) (ns i) (cc i)]) (fun _ h => run_ldd (cellB h.2 (DA.cell i hk_i))) ?_
            refine zlr 7 79 [.slice A N C] (fun _ h => h.1) 0 ?_
            by_cases c55 : xs i < (sm xs n)
            · refine zc 8 80 10 #[.agg #[.slice (aa i) (ns i) (cc i)], .agg #[.slice A N C]] (cmpD ((DA.nat i hk_i).keep BB) OA.a (by omega) (by omega) (-1) (sgn_lt c55)) ?_
              rintro _ v56 ⟨rfl, B⟩
              have sz57 := B.size
              replace BB := joinB BB B
              replace XA := XA.keep B
              replace OA := OA.keep B
              replace XS := XS.keep B
              replace OS := OS.keep B
              replace XW := XW.keep B
              replace OW := OW.keep B
              replace Oq40 := Oq40.keep B
              replace Oq47 := Oq47.keep B
              replace Xg51 := Xg51.keep B
              clear B
              refine ⟨_, rfl, ⟨XA, BB⟩, ?_⟩
              refine z 9 81 (.bool true) ?_
              refine z 10 82 (.bool true) ?_
              refine z 11 83 (.slice aq47 nq47 cq47) ?_
              refine z 12 84 (.int .u64 (reV tok (sm xs n) (xs i))) ?_
              refine zc 13 85 12 #[.int .u64 (reV tok (sm xs n) (xs i))] (nOf (x := reV tok (sm xs n) (xs i)) r_i.1 (Int.lt_of_le_of_lt r_i.2 rt.2)) ?_
              rintro _ v59 ⟨aq58, nq58, cq58, rfl, Oq58, Lq58, B⟩
              have sz60 := B.size
              replace BB := joinB BB B
              replace XA := XA.keep B
              replace OA := OA.keep B
              replace XS := XS.keep B
              replace OS := OS.keep B
              replace XW := XW.keep B
              replace OW := OW.keep B
              replace Oq40 := Oq40.keep B
              replace Oq47 := Oq47.keep B
              replace Xg51 := Xg51.keep B
              clear B
              refine ⟨_, rfl, ⟨XA, BB⟩, ?_⟩
              refine zc 14 86 11 #[.slice aq47 nq47 cq47, .slice aq58 nq58 cq58] (natT Oq47 Oq58 (by omega) (by omega) (wo_part (hnn i hk_i) c55)) ?_
              rintro _ v61 ⟨rfl, B⟩
              have sz62 := B.size
              replace BB := joinB BB B
              replace XA := XA.keep B
              replace OA := OA.keep B
              replace XS := XS.keep B
              replace OS := OS.keep B
              replace XW := XW.keep B
              replace OW := OW.keep B
              replace Oq40 := Oq40.keep B
              replace Oq47 := Oq47.keep B
              replace Xg51 := Xg51.keep B
              replace Oq58 := Oq58.keep B
              clear B
              refine ⟨_, rfl, ⟨XA, BB⟩, ?_⟩
              refine z 15 87 (.bool false) ?_
              refine z 16 88 (.bool false) ?_
              refine z 17 89 (.bool false) ?_
              refine gz_done ?_
              refine ge_then ?_
              refine gc_fr [(0, .int .u64 tok), (1, .slice ao n c), (5, pg g7), (7, pg g18), (8, .int .i64 (i : Int)), (9, pg gw), (10, .int .u64 (reV tok (sm xs n) (xs i))), (11, .int .i64 (reE (sm xs n) (xs i))), (12, .slice aq47 nq47 cq47), (13, pg g51), (54, .agg #[.slice A2 N2 C2]), (55, .agg #[.slice A3 N3 C3]), (56, .agg #[.slice aq40 nq40 cq40]), (57, .tuple #[.int .u64 (reV tok (sm xs n) (xs i)), .int .i64 (reE (sm xs n) (xs i))]), (58, .int .u64 tok), (59, .agg #[.slice A N C]), (60, .slice ao n c), (61, .int .i64 (i : Int)), (62, pq pb (po + i)), (63, .agg #[.slice (aa i) (ns i) (cc i)]), (64, .tuple #[.int .u64 (reV tok (sm xs n) (xs i)), .int .i64 (reE (sm xs n) (xs i))]), (65, .int .u64 (reV tok (sm xs n) (xs i))), (66, .int .i64 (reE (sm xs n) (xs i))), (67, .tuple #[.slice aq47 nq47 cq47, .agg #[.slice aq47y nq47y cq47y]]), (68, .agg #[.slice A3 N3 C3]), (69, .tuple #[.slice aq47 nq47 cq47, .agg #[.slice aq47y nq47y cq47y]]), (70, .slice aq47 nq47 cq47), (71, .agg #[.slice aq47y nq47y cq47y]), (72, .int .i64 (reE (sm xs n) (xs i))), (73, .bool false), (74, .bool false), (75, .slice ao n c), (76, .int .i64 (i : Int)), (77, pq pb (po + i)), (78, .agg #[.slice (aa i) (ns i) (cc i)]), (79, .agg #[.slice A N C]), (80, .int .i64 (-1)), (81, .bool true), (82, .bool true), (83, .slice aq47 nq47 cq47), (84, .int .u64 (reV tok (sm xs n) (xs i))), (85, .slice aq58 nq58 cq58), (86, .bool true), (87, .bool false), (88, .bool false), (89, .bool false)] (by kernel_rfl) ?_
              refine gc_no ?_
              refine gc_skip ?_
              exact ge_join () ⟨XA, OA, XS, Oq40, BB⟩ (by kernel_rfl)
            · by_cases c63 : xs i = (sm xs n)
              · refine zc 8 80 10 #[.agg #[.slice (aa i) (ns i) (cc i)], .agg #[.slice A N C]] (cmpD ((DA.nat i hk_i).keep BB) OA.a (by omega) (by omega) 0 (sgn_eq c63)) ?_
                rintro _ v64 ⟨rfl, B⟩
                have sz65 := B.size
                replace BB := joinB BB B
                replace XA := XA.keep B
                replace OA := OA.keep B
                replace XS := XS.keep B
                replace OS := OS.keep B
                replace XW := XW.keep B
                replace OW := OW.keep B
                replace Oq40 := Oq40.keep B
                replace Oq47 := Oq47.keep B
                replace Xg51 := Xg51.keep B
                clear B
                refine ⟨_, rfl, ⟨XA, BB⟩, ?_⟩
                refine z 9 81 (.bool false) ?_
                refine z 10 82 (.bool false) ?_
                refine zn 11 83 ?_
                refine zn 12 84 ?_
                refine zn 13 85 ?_
                refine zn 14 86 ?_
                refine zn 15 87 ?_
                refine z 16 88 (.bool false) ?_
                refine z 17 89 (.bool false) ?_
                refine gz_done ?_
                refine ge_then ?_
                refine gc_fr [(0, .int .u64 tok), (1, .slice ao n c), (5, pg g7), (7, pg g18), (8, .int .i64 (i : Int)), (9, pg gw), (10, .int .u64 (reV tok (sm xs n) (xs i))), (11, .int .i64 (reE (sm xs n) (xs i))), (12, .slice aq47 nq47 cq47), (13, pg g51), (54, .agg #[.slice A2 N2 C2]), (55, .agg #[.slice A3 N3 C3]), (56, .agg #[.slice aq40 nq40 cq40]), (57, .tuple #[.int .u64 (reV tok (sm xs n) (xs i)), .int .i64 (reE (sm xs n) (xs i))]), (58, .int .u64 tok), (59, .agg #[.slice A N C]), (60, .slice ao n c), (61, .int .i64 (i : Int)), (62, pq pb (po + i)), (63, .agg #[.slice (aa i) (ns i) (cc i)]), (64, .tuple #[.int .u64 (reV tok (sm xs n) (xs i)), .int .i64 (reE (sm xs n) (xs i))]), (65, .int .u64 (reV tok (sm xs n) (xs i))), (66, .int .i64 (reE (sm xs n) (xs i))), (67, .tuple #[.slice aq47 nq47 cq47, .agg #[.slice aq47y nq47y cq47y]]), (68, .agg #[.slice A3 N3 C3]), (69, .tuple #[.slice aq47 nq47 cq47, .agg #[.slice aq47y nq47y cq47y]]), (70, .slice aq47 nq47 cq47), (71, .agg #[.slice aq47y nq47y cq47y]), (72, .int .i64 (reE (sm xs n) (xs i))), (73, .bool false), (74, .bool false), (75, .slice ao n c), (76, .int .i64 (i : Int)), (77, pq pb (po + i)), (78, .agg #[.slice (aa i) (ns i) (cc i)]), (79, .agg #[.slice A N C]), (80, .int .i64 0), (81, .bool false), (82, .bool false), (83, undef), (84, undef), (85, undef), (86, undef), (87, undef), (88, .bool false), (89, .bool false)] (by kernel_rfl) ?_
                refine gc_no ?_
                refine gc_skip ?_
                exact ge_join () ⟨XA, OA, XS, Oq40, BB⟩ (by kernel_rfl)
              · refine zc 8 80 10 #[.agg #[.slice (aa i) (ns i) (cc i)], .agg #[.slice A N C]] (cmpD ((DA.nat i hk_i).keep BB) OA.a (by omega) (by omega) 1 (sgn_gt (lt_of c55 (fun e => c63 e.symm)))) ?_
                rintro _ v66 ⟨rfl, B⟩
                have sz67 := B.size
                replace BB := joinB BB B
                replace XA := XA.keep B
                replace OA := OA.keep B
                replace XS := XS.keep B
                replace OS := OS.keep B
                replace XW := XW.keep B
                replace OW := OW.keep B
                replace Oq40 := Oq40.keep B
                replace Oq47 := Oq47.keep B
                replace Xg51 := Xg51.keep B
                clear B
                refine ⟨_, rfl, ⟨XA, BB⟩, ?_⟩
                refine z 9 81 (.bool false) ?_
                refine z 10 82 (.bool false) ?_
                refine zn 11 83 ?_
                refine zn 12 84 ?_
                refine zn 13 85 ?_
                refine zn 14 86 ?_
                refine zn 15 87 ?_
                refine z 16 88 (.bool false) ?_
                refine z 17 89 (.bool false) ?_
                refine gz_done ?_
                refine ge_then ?_
                refine gc_fr [(0, .int .u64 tok), (1, .slice ao n c), (5, pg g7), (7, pg g18), (8, .int .i64 (i : Int)), (9, pg gw), (10, .int .u64 (reV tok (sm xs n) (xs i))), (11, .int .i64 (reE (sm xs n) (xs i))), (12, .slice aq47 nq47 cq47), (13, pg g51), (54, .agg #[.slice A2 N2 C2]), (55, .agg #[.slice A3 N3 C3]), (56, .agg #[.slice aq40 nq40 cq40]), (57, .tuple #[.int .u64 (reV tok (sm xs n) (xs i)), .int .i64 (reE (sm xs n) (xs i))]), (58, .int .u64 tok), (59, .agg #[.slice A N C]), (60, .slice ao n c), (61, .int .i64 (i : Int)), (62, pq pb (po + i)), (63, .agg #[.slice (aa i) (ns i) (cc i)]), (64, .tuple #[.int .u64 (reV tok (sm xs n) (xs i)), .int .i64 (reE (sm xs n) (xs i))]), (65, .int .u64 (reV tok (sm xs n) (xs i))), (66, .int .i64 (reE (sm xs n) (xs i))), (67, .tuple #[.slice aq47 nq47 cq47, .agg #[.slice aq47y nq47y cq47y]]), (68, .agg #[.slice A3 N3 C3]), (69, .tuple #[.slice aq47 nq47 cq47, .agg #[.slice aq47y nq47y cq47y]]), (70, .slice aq47 nq47 cq47), (71, .agg #[.slice aq47y nq47y cq47y]), (72, .int .i64 (reE (sm xs n) (xs i))), (73, .bool false), (74, .bool false), (75, .slice ao n c), (76, .int .i64 (i : Int)), (77, pq pb (po + i)), (78, .agg #[.slice (aa i) (ns i) (cc i)]), (79, .agg #[.slice A N C]), (80, .int .i64 1), (81, .bool false), (82, .bool false), (83, undef), (84, undef), (85, undef), (86, undef), (87, undef), (88, .bool false), (89, .bool false)] (by kernel_rfl) ?_
                refine gc_no ?_
                refine gc_skip ?_
                exact ge_join () ⟨XA, OA, XS, Oq40, BB⟩ (by kernel_rfl)
          clear BB
          clear XA
          clear OA
          clear XS
          clear OS
          clear XW
          clear OW
          clear Oq40
          clear Oq47
          clear Xg51
          rintro _ v68 ⟨XA, OA, XS, OS, BB⟩
          refine gc_seq ?_
          refine gc_reg ?_
          refine t 14 (.int .i64 0) ?_
          refine gl_nil ?_
          refine ge_then ?_
          refine gc_block ?_
          refine gc_loop (fun k => i - k) (fun (k : Nat) => [(0, .int .u64 tok), (1, .slice ao n c), (5, pg g7), (7, pg g18), (8, .int .i64 (i : Int)), (10, .int .u64 (reV tok (sm xs n) (xs i))), (14, .int .i64 (k : Int))]) (fun k w' => k ≤ i ∧ Blk w' g7 [.slice A N C] 29 ∧ NatO w' A N C (sm xs n) ∧ Blk w' g18 [.slice aq40 nq40 cq40] 29 ∧ NatO w' aq40 nq40 cq40 ((sm (fun j => woV tok (sm xs n) (xs j)) i) + (woV tok (sm xs n) (xs i))) ∧ Below w.heap.size w w') 0 ⟨Nat.zero_le _, XA, OA, XS, OS, BB⟩ (by kernel_rfl) ?_
          clear BB
          clear XA
          clear OA
          clear XS
          clear OS
          rintro k v69 ⟨hki, XA, OA, XS, OS, BB⟩
          refine gc_seq ?_
          refine gc_seq ?_
          refine gc_reg ?_
          refine t 90 (.int .i64 (k : Int)) ?_
          refine t 91 (.int .i64 (i : Int)) ?_
          by_cases ck : (k : Int) < (i : Int)
          · have hk_k : k < n := by omega
            have hs_k := hsm k hk_k
            refine tq 92 (.bool (decide ((k : Int) < (i : Int)))) (.bool true) (congrArg Value.bool (decide_eq_true ck)) ?_
            refine gl_nil ?_
            refine ge_then ?_
            refine gc_yes ?_
            refine gc_skip ?_
            refine ge_then ?_
            refine gc_seq ?_
            refine gc_block ?_
            refine gc_seq ?_
            replace BB := BB.drew
            replace XA := XA.drew
            replace OA := OA.keep (Below.refl _ _).drew
            replace XS := XS.drew
            replace OS := OS.keep (Below.refl _ _).drew
            refine gc_draw (fun w' => Blk w' g7 [.slice A N C] 29 ∧ Below w.heap.size w w') (fun _ => false) ⟨XA, BB⟩ ?_
            refine z 0 96 (.int .u64 tok) ?_
            refine zlr 1 97 [.slice A N C] (fun _ h => h.1) 0 ?_
            refine z 2 98 (.slice ao n c) ?_
            refine z 3 99 (.int .i64 (k : Int)) ?_
            refine zr 4 100 (pq pb (po + k)) (fun _ _ => congr_v (by rw [Nat.mul_one]) (run_ixa 1 pb po n c k hk_k DA.ptr)) ?_
            refine zr 5 101 (.agg #[.slice (aa k) (ns k) (cc k)]) (fun _ h => run_ldd (cellB h.2 (DA.cell k hk_k))) ?_
            have e_k : reE (sm xs n) (xs k) = 0 := re_zero (sm_le hnn hk_k)
            have r_k := reV_rng (S := (sm xs n)) (x := xs k) rt.1 (hnn k hk_k)
            refine zc 6 102 8 #[.int .u64 tok, .agg #[.slice A N C], .agg #[.slice (aa k) (ns k) (cc k)]] (sRedeem rt OA.a (by omega) ((DA.nat k hk_k).keep BB) (by omega)) ?_
            rintro _ v70 ⟨rfl, B⟩
            have sz71 := B.size
            replace BB := joinB BB B
            replace XA := XA.keep B
            replace OA := OA.keep B
            replace XS := XS.keep B
            replace OS := OS.keep B
            clear B
            refine ⟨_, rfl, ⟨XA, BB⟩, ?_⟩
            refine z 7 95 (.tuple #[.int .u64 (reV tok (sm xs n) (xs k)), .int .i64 (reE (sm xs n) (xs k))]) ?_
            refine z 8 103 (.int .u64 (reV tok (sm xs n) (xs k))) ?_
            refine z 9 104 (.int .i64 (reE (sm xs n) (xs k))) ?_
            refine z 10 15 (.int .u64 (reV tok (sm xs n) (xs k))) ?_
            refine z 11 16 (.int .i64 (reE (sm xs n) (xs k))) ?_
            refine gz_done ?_
            refine ge_then ?_
            refine gc_fr [(0, .int .u64 tok), (1, .slice ao n c), (5, pg g7), (7, pg g18), (8, .int .i64 (i : Int)), (10, .int .u64 (reV tok (sm xs n) (xs i))), (14, .int .i64 (k : Int)), (15, .int .u64 (reV tok (sm xs n) (xs k))), (16, .int .i64 (reE (sm xs n) (xs k))), (90, .int .i64 (k : Int)), (91, .int .i64 (i : Int)), (92, .bool true), (95, .tuple #[.int .u64 (reV tok (sm xs n) (xs k)), .int .i64 (reE (sm xs n) (xs k))]), (96, .int .u64 tok), (97, .agg #[.slice A N C]), (98, .slice ao n c), (99, .int .i64 (k : Int)), (100, pq pb (po + k)), (101, .agg #[.slice (aa k) (ns k) (cc k)]), (102, .tuple #[.int .u64 (reV tok (sm xs n) (xs k)), .int .i64 (reE (sm xs n) (xs k))]), (103, .int .u64 (reV tok (sm xs n) (xs k))), (104, .int .i64 (reE (sm xs n) (xs k)))] (by kernel_rfl) ?_
            refine gc_seq ?_
            replace BB := BB.drew
            replace XA := XA.drew
            replace OA := OA.keep (Below.refl _ _).drew
            replace XS := XS.drew
            replace OS := OS.keep (Below.refl _ _).drew
            refine gc_draw (fun w' => Below w.heap.size w w') (fun _ => false) BB ?_
            refine z 0 105 (.int .i64 (reE (sm xs n) (xs k))) ?_
            refine zq 1 106 (.bool ((reE (sm xs n) (xs k) : Int) != 0)) (.bool false) (congrArg Value.bool (bne_eq_false_iff_eq.2 e_k)) ?_
            refine z 2 107 (.bool false) ?_
            refine z 3 108 (.slice ao n c) ?_
            refine z 4 109 (.int .i64 (k : Int)) ?_
            refine zr 5 110 (pq pb (po + k)) (fun _ _ => congr_v (by rw [Nat.mul_one]) (run_ixa 1 pb po n c k hk_k DA.ptr)) ?_
            refine zr 6 111 (.agg #[.slice (aa k) (ns k) (cc k)]) (fun _ h => run_ldd (cellB h (DA.cell k hk_k))) ?_
            refine z 7 112 (.slice ao n c) ?_
            refine z 8 113 (.int .i64 (i : Int)) ?_
            refine zr 9 114 (pq pb (po + i)) (fun _ _ => congr_v (by rw [Nat.mul_one]) (run_ixa 1 pb po n c i hk_i DA.ptr)) ?_
            refine zr 10 115 (.agg #[.slice (aa i) (ns i) (cc i)]) (fun _ h => run_ldd (cellB h (DA.cell i hk_i))) ?_
            by_cases c72 : xs k < xs i
            · refine zc 11 116 10 #[.agg #[.slice (aa k) (ns k) (cc k)], .agg #[.slice (aa i) (ns i) (cc i)]] (cmpD ((DA.nat k hk_k).keep BB) ((DA.nat i hk_i).keep BB) (by omega) (by omega) (-1) (sgn_lt c72)) ?_
              rintro _ v73 ⟨rfl, B⟩
              have sz74 := B.size
              replace BB := joinB BB B
              replace XA := XA.keep B
              replace OA := OA.keep B
              replace XS := XS.keep B
              replace OS := OS.keep B
              clear B
              refine ⟨_, rfl, BB, ?_⟩
              refine z 12 117 (.bool true) ?_
              refine z 13 118 (.bool true) ?_
              refine z 14 119 (.int .u64 (reV tok (sm xs n) (xs k))) ?_
              refine z 15 120 (.int .u64 (reV tok (sm xs n) (xs i))) ?_
              have ng75 : ¬ reV tok (sm xs n) (xs i) < reV tok (sm xs n) (xs k) := by
                have := re_mono (T := tok) (S := (sm xs n)) rt.1 (hnn k hk_k) (show xs k ≤ xs i by omega) (sm_le hnn hk_i)
                omega
              refine zq 16 121 (.bool (decide ((reV tok (sm xs n) (xs i) : Int) < reV tok (sm xs n) (xs k)))) (.bool false) (congrArg Value.bool (decide_eq_false ng75)) ?_
              refine z 17 122 (.bool false) ?_
              refine z 18 123 (.bool false) ?_
              refine z 19 124 (.bool false) ?_
              refine z 20 125 (.slice ao n c) ?_
              refine z 21 126 (.int .i64 (k : Int)) ?_
              refine zr 22 127 (pq pb (po + k)) (fun _ _ => congr_v (by rw [Nat.mul_one]) (run_ixa 1 pb po n c k hk_k DA.ptr)) ?_
              refine zr 23 128 (.agg #[.slice (aa k) (ns k) (cc k)]) (fun _ h => run_ldd (cellB h (DA.cell k hk_k))) ?_
              refine z 24 129 (.slice ao n c) ?_
              refine z 25 130 (.int .i64 (i : Int)) ?_
              refine zr 26 131 (pq pb (po + i)) (fun _ _ => congr_v (by rw [Nat.mul_one]) (run_ixa 1 pb po n c i hk_i DA.ptr)) ?_
              refine zr 27 132 (.agg #[.slice (aa i) (ns i) (cc i)]) (fun _ h => run_ldd (cellB h (DA.cell i hk_i))) ?_
              refine zc 28 133 10 #[.agg #[.slice (aa k) (ns k) (cc k)], .agg #[.slice (aa i) (ns i) (cc i)]] (cmpD ((DA.nat k hk_k).keep BB) ((DA.nat i hk_i).keep BB) (by omega) (by omega) (-1) (sgn_lt c72)) ?_
              rintro _ v76 ⟨rfl, B⟩
              have sz77 := B.size
              replace BB := joinB BB B
              replace XA := XA.keep B
              replace OA := OA.keep B
              replace XS := XS.keep B
              replace OS := OS.keep B
              clear B
              refine ⟨_, rfl, BB, ?_⟩
              refine z 29 134 (.bool false) ?_
              refine z 30 135 (.bool false) ?_
              refine zn 31 136 ?_
              refine zn 32 137 ?_
              refine zn 33 138 ?_
              refine z 34 139 (.bool false) ?_
              refine z 35 140 (.bool false) ?_
              refine gz_done ?_
              refine ge_then ?_
              refine gc_fr [(0, .int .u64 tok), (1, .slice ao n c), (5, pg g7), (7, pg g18), (8, .int .i64 (i : Int)), (10, .int .u64 (reV tok (sm xs n) (xs i))), (14, .int .i64 (k : Int)), (15, .int .u64 (reV tok (sm xs n) (xs k))), (16, .int .i64 (reE (sm xs n) (xs k))), (90, .int .i64 (k : Int)), (91, .int .i64 (i : Int)), (92, .bool true), (95, .tuple #[.int .u64 (reV tok (sm xs n) (xs k)), .int .i64 (reE (sm xs n) (xs k))]), (96, .int .u64 tok), (97, .agg #[.slice A N C]), (98, .slice ao n c), (99, .int .i64 (k : Int)), (100, pq pb (po + k)), (101, .agg #[.slice (aa k) (ns k) (cc k)]), (102, .tuple #[.int .u64 (reV tok (sm xs n) (xs k)), .int .i64 (reE (sm xs n) (xs k))]), (103, .int .u64 (reV tok (sm xs n) (xs k))), (104, .int .i64 (reE (sm xs n) (xs k))), (105, .int .i64 (reE (sm xs n) (xs k))), (106, .bool false), (107, .bool false), (108, .slice ao n c), (109, .int .i64 (k : Int)), (110, pq pb (po + k)), (111, .agg #[.slice (aa k) (ns k) (cc k)]), (112, .slice ao n c), (113, .int .i64 (i : Int)), (114, pq pb (po + i)), (115, .agg #[.slice (aa i) (ns i) (cc i)]), (116, .int .i64 (-1)), (117, .bool true), (118, .bool true), (119, .int .u64 (reV tok (sm xs n) (xs k))), (120, .int .u64 (reV tok (sm xs n) (xs i))), (121, .bool false), (122, .bool false), (123, .bool false), (124, .bool false), (125, .slice ao n c), (126, .int .i64 (k : Int)), (127, pq pb (po + k)), (128, .agg #[.slice (aa k) (ns k) (cc k)]), (129, .slice ao n c), (130, .int .i64 (i : Int)), (131, pq pb (po + i)), (132, .agg #[.slice (aa i) (ns i) (cc i)]), (133, .int .i64 (-1)), (134, .bool false), (135, .bool false), (136, undef), (137, undef), (138, undef), (139, .bool false), (140, .bool false)] (by kernel_rfl) ?_
              refine gc_no ?_
              refine gc_skip ?_
              refine ge_bn ?_
              refine ge_then ?_
              refine gc_reg ?_
              refine t 93 (.int .i64 (k : Int)) ?_
              refine tq 94 (.int .i64 (IntKind.i64.wrap ((k : Int) + 1))) (.int .i64 ((k : Int) + 1)) (wi (by omega)) ?_
              refine t 14 (.int .i64 ((k : Int) + 1)) ?_
              refine gl_nil ?_
              exact ge_round (k + 1) (by omega) ⟨by omega, XA, OA, XS, OS, BB⟩ (by kernel_rfl)
            · by_cases c78 : xs k = xs i
              · refine zc 11 116 10 #[.agg #[.slice (aa k) (ns k) (cc k)], .agg #[.slice (aa i) (ns i) (cc i)]] (cmpD ((DA.nat k hk_k).keep BB) ((DA.nat i hk_i).keep BB) (by omega) (by omega) 0 (sgn_eq c78)) ?_
                rintro _ v79 ⟨rfl, B⟩
                have sz80 := B.size
                replace BB := joinB BB B
                replace XA := XA.keep B
                replace OA := OA.keep B
                replace XS := XS.keep B
                replace OS := OS.keep B
                clear B
                refine ⟨_, rfl, BB, ?_⟩
                refine z 12 117 (.bool true) ?_
                refine z 13 118 (.bool true) ?_
                refine z 14 119 (.int .u64 (reV tok (sm xs n) (xs k))) ?_
                refine z 15 120 (.int .u64 (reV tok (sm xs n) (xs i))) ?_
                have ng81 : ¬ reV tok (sm xs n) (xs i) < reV tok (sm xs n) (xs k) := by
                  have := re_mono (T := tok) (S := (sm xs n)) rt.1 (hnn k hk_k) (show xs k ≤ xs i by omega) (sm_le hnn hk_i)
                  omega
                refine zq 16 121 (.bool (decide ((reV tok (sm xs n) (xs i) : Int) < reV tok (sm xs n) (xs k)))) (.bool false) (congrArg Value.bool (decide_eq_false ng81)) ?_
                refine z 17 122 (.bool false) ?_
                refine z 18 123 (.bool false) ?_
                refine z 19 124 (.bool false) ?_
                refine z 20 125 (.slice ao n c) ?_
                refine z 21 126 (.int .i64 (k : Int)) ?_
                refine zr 22 127 (pq pb (po + k)) (fun _ _ => congr_v (by rw [Nat.mul_one]) (run_ixa 1 pb po n c k hk_k DA.ptr)) ?_
                refine zr 23 128 (.agg #[.slice (aa k) (ns k) (cc k)]) (fun _ h => run_ldd (cellB h (DA.cell k hk_k))) ?_
                refine z 24 129 (.slice ao n c) ?_
                refine z 25 130 (.int .i64 (i : Int)) ?_
                refine zr 26 131 (pq pb (po + i)) (fun _ _ => congr_v (by rw [Nat.mul_one]) (run_ixa 1 pb po n c i hk_i DA.ptr)) ?_
                refine zr 27 132 (.agg #[.slice (aa i) (ns i) (cc i)]) (fun _ h => run_ldd (cellB h (DA.cell i hk_i))) ?_
                refine zc 28 133 10 #[.agg #[.slice (aa k) (ns k) (cc k)], .agg #[.slice (aa i) (ns i) (cc i)]] (cmpD ((DA.nat k hk_k).keep BB) ((DA.nat i hk_i).keep BB) (by omega) (by omega) 0 (sgn_eq c78)) ?_
                rintro _ v82 ⟨rfl, B⟩
                have sz83 := B.size
                replace BB := joinB BB B
                replace XA := XA.keep B
                replace OA := OA.keep B
                replace XS := XS.keep B
                replace OS := OS.keep B
                clear B
                refine ⟨_, rfl, BB, ?_⟩
                refine z 29 134 (.bool true) ?_
                refine z 30 135 (.bool true) ?_
                refine z 31 136 (.int .u64 (reV tok (sm xs n) (xs k))) ?_
                refine z 32 137 (.int .u64 (reV tok (sm xs n) (xs i))) ?_
                have ng84 : ¬ reV tok (sm xs n) (xs k) < reV tok (sm xs n) (xs i) := by
                  have := re_mono (T := tok) (S := (sm xs n)) rt.1 (hnn i hk_i) (show xs i ≤ xs k by omega) (sm_le hnn hk_k)
                  omega
                refine zq 33 138 (.bool (decide ((reV tok (sm xs n) (xs k) : Int) < reV tok (sm xs n) (xs i)))) (.bool false) (congrArg Value.bool (decide_eq_false ng84)) ?_
                refine z 34 139 (.bool false) ?_
                refine z 35 140 (.bool false) ?_
                refine gz_done ?_
                refine ge_then ?_
                refine gc_fr [(0, .int .u64 tok), (1, .slice ao n c), (5, pg g7), (7, pg g18), (8, .int .i64 (i : Int)), (10, .int .u64 (reV tok (sm xs n) (xs i))), (14, .int .i64 (k : Int)), (15, .int .u64 (reV tok (sm xs n) (xs k))), (16, .int .i64 (reE (sm xs n) (xs k))), (90, .int .i64 (k : Int)), (91, .int .i64 (i : Int)), (92, .bool true), (95, .tuple #[.int .u64 (reV tok (sm xs n) (xs k)), .int .i64 (reE (sm xs n) (xs k))]), (96, .int .u64 tok), (97, .agg #[.slice A N C]), (98, .slice ao n c), (99, .int .i64 (k : Int)), (100, pq pb (po + k)), (101, .agg #[.slice (aa k) (ns k) (cc k)]), (102, .tuple #[.int .u64 (reV tok (sm xs n) (xs k)), .int .i64 (reE (sm xs n) (xs k))]), (103, .int .u64 (reV tok (sm xs n) (xs k))), (104, .int .i64 (reE (sm xs n) (xs k))), (105, .int .i64 (reE (sm xs n) (xs k))), (106, .bool false), (107, .bool false), (108, .slice ao n c), (109, .int .i64 (k : Int)), (110, pq pb (po + k)), (111, .agg #[.slice (aa k) (ns k) (cc k)]), (112, .slice ao n c), (113, .int .i64 (i : Int)), (114, pq pb (po + i)), (115, .agg #[.slice (aa i) (ns i) (cc i)]), (116, .int .i64 0), (117, .bool true), (118, .bool true), (119, .int .u64 (reV tok (sm xs n) (xs k))), (120, .int .u64 (reV tok (sm xs n) (xs i))), (121, .bool false), (122, .bool false), (123, .bool false), (124, .bool false), (125, .slice ao n c), (126, .int .i64 (k : Int)), (127, pq pb (po + k)), (128, .agg #[.slice (aa k) (ns k) (cc k)]), (129, .slice ao n c), (130, .int .i64 (i : Int)), (131, pq pb (po + i)), (132, .agg #[.slice (aa i) (ns i) (cc i)]), (133, .int .i64 0), (134, .bool true), (135, .bool true), (136, .int .u64 (reV tok (sm xs n) (xs k))), (137, .int .u64 (reV tok (sm xs n) (xs i))), (138, .bool false), (139, .bool false), (140, .bool false)] (by kernel_rfl) ?_
                refine gc_no ?_
                refine gc_skip ?_
                refine ge_bn ?_
                refine ge_then ?_
                refine gc_reg ?_
                refine t 93 (.int .i64 (k : Int)) ?_
                refine tq 94 (.int .i64 (IntKind.i64.wrap ((k : Int) + 1))) (.int .i64 ((k : Int) + 1)) (wi (by omega)) ?_
                refine t 14 (.int .i64 ((k : Int) + 1)) ?_
                refine gl_nil ?_
                exact ge_round (k + 1) (by omega) ⟨by omega, XA, OA, XS, OS, BB⟩ (by kernel_rfl)
              · refine zc 11 116 10 #[.agg #[.slice (aa k) (ns k) (cc k)], .agg #[.slice (aa i) (ns i) (cc i)]] (cmpD ((DA.nat k hk_k).keep BB) ((DA.nat i hk_i).keep BB) (by omega) (by omega) 1 (sgn_gt (lt_of c72 (fun e => c78 e.symm)))) ?_
                rintro _ v85 ⟨rfl, B⟩
                have sz86 := B.size
                replace BB := joinB BB B
                replace XA := XA.keep B
                replace OA := OA.keep B
                replace XS := XS.keep B
                replace OS := OS.keep B
                clear B
                refine ⟨_, rfl, BB, ?_⟩
                refine z 12 117 (.bool false) ?_
                refine z 13 118 (.bool false) ?_
                refine zn 14 119 ?_
                refine zn 15 120 ?_
                refine zn 16 121 ?_
                refine z 17 122 (.bool false) ?_
                refine z 18 123 (.bool false) ?_
                refine z 19 124 (.bool false) ?_
                refine z 20 125 (.slice ao n c) ?_
                refine z 21 126 (.int .i64 (k : Int)) ?_
                refine zr 22 127 (pq pb (po + k)) (fun _ _ => congr_v (by rw [Nat.mul_one]) (run_ixa 1 pb po n c k hk_k DA.ptr)) ?_
                refine zr 23 128 (.agg #[.slice (aa k) (ns k) (cc k)]) (fun _ h => run_ldd (cellB h (DA.cell k hk_k))) ?_
                refine z 24 129 (.slice ao n c) ?_
                refine z 25 130 (.int .i64 (i : Int)) ?_
                refine zr 26 131 (pq pb (po + i)) (fun _ _ => congr_v (by rw [Nat.mul_one]) (run_ixa 1 pb po n c i hk_i DA.ptr)) ?_
                refine zr 27 132 (.agg #[.slice (aa i) (ns i) (cc i)]) (fun _ h => run_ldd (cellB h (DA.cell i hk_i))) ?_
                refine zc 28 133 10 #[.agg #[.slice (aa k) (ns k) (cc k)], .agg #[.slice (aa i) (ns i) (cc i)]] (cmpD ((DA.nat k hk_k).keep BB) ((DA.nat i hk_i).keep BB) (by omega) (by omega) 1 (sgn_gt (lt_of c72 (fun e => c78 e.symm)))) ?_
                rintro _ v87 ⟨rfl, B⟩
                have sz88 := B.size
                replace BB := joinB BB B
                replace XA := XA.keep B
                replace OA := OA.keep B
                replace XS := XS.keep B
                replace OS := OS.keep B
                clear B
                refine ⟨_, rfl, BB, ?_⟩
                refine z 29 134 (.bool true) ?_
                refine z 30 135 (.bool true) ?_
                refine z 31 136 (.int .u64 (reV tok (sm xs n) (xs k))) ?_
                refine z 32 137 (.int .u64 (reV tok (sm xs n) (xs i))) ?_
                have ng89 : ¬ reV tok (sm xs n) (xs k) < reV tok (sm xs n) (xs i) := by
                  have := re_mono (T := tok) (S := (sm xs n)) rt.1 (hnn i hk_i) (show xs i ≤ xs k by omega) (sm_le hnn hk_k)
                  omega
                refine zq 33 138 (.bool (decide ((reV tok (sm xs n) (xs k) : Int) < reV tok (sm xs n) (xs i)))) (.bool false) (congrArg Value.bool (decide_eq_false ng89)) ?_
                refine z 34 139 (.bool false) ?_
                refine z 35 140 (.bool false) ?_
                refine gz_done ?_
                refine ge_then ?_
                refine gc_fr [(0, .int .u64 tok), (1, .slice ao n c), (5, pg g7), (7, pg g18), (8, .int .i64 (i : Int)), (10, .int .u64 (reV tok (sm xs n) (xs i))), (14, .int .i64 (k : Int)), (15, .int .u64 (reV tok (sm xs n) (xs k))), (16, .int .i64 (reE (sm xs n) (xs k))), (90, .int .i64 (k : Int)), (91, .int .i64 (i : Int)), (92, .bool true), (95, .tuple #[.int .u64 (reV tok (sm xs n) (xs k)), .int .i64 (reE (sm xs n) (xs k))]), (96, .int .u64 tok), (97, .agg #[.slice A N C]), (98, .slice ao n c), (99, .int .i64 (k : Int)), (100, pq pb (po + k)), (101, .agg #[.slice (aa k) (ns k) (cc k)]), (102, .tuple #[.int .u64 (reV tok (sm xs n) (xs k)), .int .i64 (reE (sm xs n) (xs k))]), (103, .int .u64 (reV tok (sm xs n) (xs k))), (104, .int .i64 (reE (sm xs n) (xs k))), (105, .int .i64 (reE (sm xs n) (xs k))), (106, .bool false), (107, .bool false), (108, .slice ao n c), (109, .int .i64 (k : Int)), (110, pq pb (po + k)), (111, .agg #[.slice (aa k) (ns k) (cc k)]), (112, .slice ao n c), (113, .int .i64 (i : Int)), (114, pq pb (po + i)), (115, .agg #[.slice (aa i) (ns i) (cc i)]), (116, .int .i64 1), (117, .bool false), (118, .bool false), (119, undef), (120, undef), (121, undef), (122, .bool false), (123, .bool false), (124, .bool false), (125, .slice ao n c), (126, .int .i64 (k : Int)), (127, pq pb (po + k)), (128, .agg #[.slice (aa k) (ns k) (cc k)]), (129, .slice ao n c), (130, .int .i64 (i : Int)), (131, pq pb (po + i)), (132, .agg #[.slice (aa i) (ns i) (cc i)]), (133, .int .i64 1), (134, .bool true), (135, .bool true), (136, .int .u64 (reV tok (sm xs n) (xs k))), (137, .int .u64 (reV tok (sm xs n) (xs i))), (138, .bool false), (139, .bool false), (140, .bool false)] (by kernel_rfl) ?_
                refine gc_no ?_
                refine gc_skip ?_
                refine ge_bn ?_
                refine ge_then ?_
                refine gc_reg ?_
                refine t 93 (.int .i64 (k : Int)) ?_
                refine tq 94 (.int .i64 (IntKind.i64.wrap ((k : Int) + 1))) (.int .i64 ((k : Int) + 1)) (wi (by omega)) ?_
                refine t 14 (.int .i64 ((k : Int) + 1)) ?_
                refine gl_nil ?_
                exact ge_round (k + 1) (by omega) ⟨by omega, XA, OA, XS, OS, BB⟩ (by kernel_rfl)
          · refine tq 92 (.bool (decide ((k : Int) < (i : Int)))) (.bool false) (congrArg Value.bool (decide_eq_false ck)) ?_
            refine gl_nil ?_
            refine ge_then ?_
            refine gc_no ?_
            refine gc_exit ?_
            refine ge_tx ?_
            refine ge_tx ?_
            refine ge_bx ?_
            refine ge_bn ?_
            refine ge_then ?_
            refine gc_reg ?_
            refine t 45 (.int .i64 (i : Int)) ?_
            refine tq 46 (.int .i64 (IntKind.i64.wrap ((i : Int) + 1))) (.int .i64 ((i : Int) + 1)) (wi (by omega)) ?_
            refine t 8 (.int .i64 ((i : Int) + 1)) ?_
            refine gl_nil ?_
            exact ge_round (i + 1) (by omega) ⟨by omega, ⟨_, _, _, XA, OA, LA⟩, ⟨_, _, _, XS, OS, by omega⟩, BB⟩ (by kernel_rfl)
        · refine tq 44 (.bool (decide ((i : Int) < ((n : Nat) : Int)))) (.bool false) (congrArg Value.bool (decide_eq_false ci)) ?_
          refine gl_nil ?_
          refine ge_then ?_
          refine gc_no ?_
          refine gc_exit ?_
          refine ge_tx ?_
          refine ge_tx ?_
          refine ge_bx ?_
          refine ge_then ?_
          refine gc_seq ?_
          replace BB := BB.drew
          replace XA := XA.drew
          replace OA := OA.keep (Below.refl _ _).drew
          replace XS := XS.drew
          replace OS := OS.keep (Below.refl _ _).drew
          refine gc_draw (fun w' => Blk w' g18 [.slice A2 N2 C2] 29 ∧ Below w.heap.size w w') (fun _ => false) ⟨XS, BB⟩ ?_
          refine zlr 0 141 [.slice A2 N2 C2] (fun _ h => h.1) 0 ?_
          refine z 1 142 (.int .u64 tok) ?_
          refine zc 2 143 13 #[.int .u64 tok] (dOf rt.1 rt.2) ?_
          rintro _ v91 ⟨aq90, nq90, cq90, rfl, Oq90, Lq90, B⟩
          have sz92 := B.size
          replace BB := joinB BB B
          replace XA := XA.keep B
          replace OA := OA.keep B
          replace XS := XS.keep B
          replace OS := OS.keep B
          clear B
          refine ⟨_, rfl, ⟨XS, BB⟩, ?_⟩
          by_cases c93 : (sm (fun j => woV tok (sm xs n) (xs j)) i) < (tok * U36)
          · refine zc 3 144 10 #[.agg #[.slice A2 N2 C2], .agg #[.slice aq90 nq90 cq90]] (cmpD OS.a Oq90.a (by omega) (by omega) (-1) (sgn_lt c93)) ?_
            rintro _ v94 ⟨rfl, B⟩
            have sz95 := B.size
            replace BB := joinB BB B
            replace XA := XA.keep B
            replace OA := OA.keep B
            replace XS := XS.keep B
            replace OS := OS.keep B
            replace Oq90 := Oq90.keep B
            clear B
            refine ⟨_, rfl, ⟨XS, BB⟩, ?_⟩
            refine z 4 145 (.bool true) ?_
            refine z 5 4 (.bool true) ?_
            refine gz_done ?_
            refine ge_then ?_
            refine gc_fr [(4, .bool true)] (by kernel_rfl) ?_
            refine gc_ret ?_
            refine ge_ret (.bool true) (rs1 4 (by kernel_rfl) (by kernel_rfl)) ?_
            exact ⟨rfl, BB⟩
          · by_cases c96 : (sm (fun j => woV tok (sm xs n) (xs j)) i) = (tok * U36)
            · refine zc 3 144 10 #[.agg #[.slice A2 N2 C2], .agg #[.slice aq90 nq90 cq90]] (cmpD OS.a Oq90.a (by omega) (by omega) 0 (sgn_eq c96)) ?_
              rintro _ v97 ⟨rfl, B⟩
              have sz98 := B.size
              replace BB := joinB BB B
              replace XA := XA.keep B
              replace OA := OA.keep B
              replace XS := XS.keep B
              replace OS := OS.keep B
              replace Oq90 := Oq90.keep B
              clear B
              refine ⟨_, rfl, ⟨XS, BB⟩, ?_⟩
              refine z 4 145 (.bool true) ?_
              refine z 5 4 (.bool true) ?_
              refine gz_done ?_
              refine ge_then ?_
              refine gc_fr [(4, .bool true)] (by kernel_rfl) ?_
              refine gc_ret ?_
              refine ge_ret (.bool true) (rs1 4 (by kernel_rfl) (by kernel_rfl)) ?_
              exact ⟨rfl, BB⟩
            · have hin : i = n := by omega
              have hm : (sm (fun j => woV tok (sm xs n) (xs j)) i) ≤ tok * U36 := by rw [hin]; exact wo_most n rt.1 hnn
              exact absurd hm (by omega)
namespace shareSplit
theorem u64r {v : Int} (b : (Lit.int .u64 v).wf = true) : 0 ≤ v ∧ v < 18446744073709551616 := by
  have := bounds_u64 b
  omega
/-- decimals in memory, as an argument lays them -/
structure DecsIn (w : World) (a : Option Addr) (len cap : Nat) : Prop where
  few : len ≤ cap ∧ cap ≤ maxLen
  row : ∀ i, i < len → ∃ b o a0 n0 c0 z0, a = some ⟨b, o, none⟩ ∧ w.cell? ⟨b, o + i, none⟩ = some (.slice a0 n0 c0) ∧ IsRow w a0 n0 c0 z0
theorem DecsIn.open {w : World} {a : Option Addr} {len cap : Nat} (h : DecsIn w a len cap) : ∃ b o aa ns cc xs, DecsA w a len b o aa ns cc xs := by
  have hb : ∃ b o, 0 < len → a = some ⟨b, o, none⟩ := by
    rcases Nat.eq_zero_or_pos len with h0 | h0
    · exact ⟨0, 0, fun h => by omega⟩
    · obtain ⟨b, o, _, _, _, _, e, _⟩ := h.row 0 h0
      exact ⟨b, o, fun _ => e⟩
  obtain ⟨b, o, hp⟩ := hb
  have hr : ∀ i, ∃ p : Option Addr × Nat × Nat × Int, i < len → w.cell? ⟨b, o + i, none⟩ = some (.slice p.1 p.2.1 p.2.2.1) ∧ NatA w p.1 p.2.1 p.2.2.1 p.2.2.2 ∧ p.2.1 ≤ 9223372036854775807 := fun i => by
    by_cases hi : i < len
    · obtain ⟨b', o', a0, n0, c0, z0, e, h1, h2⟩ := h.row i hi
      have e' := hp (by omega)
      rw [e] at e'
      cases e'
      obtain ⟨g1, o1, l1, hl1, hc1, hm1, W1, h3⟩ := h2.open
      exact ⟨(a0, n0, c0, val l1), fun _ => ⟨h1, ⟨g1, o1, l1, hl1, hc1, W1, h3, rfl⟩, hm1⟩⟩
    · exact ⟨(none, 0, 0, 0), fun h => absurd h hi⟩
  obtain ⟨f, hf⟩ := Classical.skolem.1 hr
  have hm := h.few
  unfold maxLen at hm
  exact ⟨b, o, fun i => (f i).1, fun i => (f i).2.1, fun i => (f i).2.2.1, fun i => (f i).2.2.2, hp, fun i hi => (hf i hi).1, fun i hi => (hf i hi).2.1, by omega, fun i hi => (hf i hi).2.2⟩
theorem walk (y0 : Int) (a1 : Option Addr) (len1 cap1 : Nat) (w : World) (wy0 : (Lit.int .u64 y0).wf = true) (w1 : DecsIn w a1 len1 cap1) :
    Calls Tryd.prog 3 #[.int .u64 y0, .slice a1 len1 cap1] w fun e w' => e = .returned (.bool true) ∧ Below w.heap.size w w' := by
  obtain ⟨b, o, aa, ns, cc, xs, DA⟩ := w1.open
  exact shareSplit_walk (u64r wy0) DA
end shareSplit
end Go.Proofs.YtgflacmnfegjlaaDoor
