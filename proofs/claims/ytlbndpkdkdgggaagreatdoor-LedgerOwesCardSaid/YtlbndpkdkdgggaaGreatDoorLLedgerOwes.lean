/- gleanlaw24.LedgerOwes returns true for every input. (tools/gen_lgo.py) -/
import Derived.Test.YtlbndpkdkdgggaaGreatDoorJrr
namespace Go.Proofs.YtlbndpkdkdgggaaGreatDoor
namespace ledgerOwes
open Go.RowKit Go.Lib Lim Pg Gl Lg
theorem heldW {fn : FuncId} {vs : Array Value} {w : World} {n : Nat} {wx wy : Nat → Rat} {gs : Nat → Int} {q : Int} (e : wx = wy) (h : Calls Tryz.prog fn vs w fun e w' => ∃ g K, e = .returned (pg g) ∧ Lm w' g K (GS n (FA zF wx 0 0) (1, 0, 0, 0)) ∧ (∀ b, K b → w.heap.size ≤ b) ∧ Below w.heap.size w w') : Calls Tryz.prog fn vs w fun e w' => ∃ g K, e = .returned (pg g) ∧ Lm w' g K (G1 n (oR wy gs q 0) wy 0 0) ∧ (∀ b, K b → w.heap.size ≤ b) ∧ Below w.heap.size w w' := e ▸ h
set_option maxHeartbeats 4000000 in
set_option maxRecDepth 100000 in
theorem owes_any {w : World} {ao bo : Option Addr} {n c pb po nB cB pbB poB : Nat} {aa aaB : Nat → Option Addr} {ns cc nsB ccB : Nat → Nat} {xs xsB : Nat → Int} {aq : Option Addr} {nq cq : Nat} {y tk at_ : Int} (DA : DecsA w ao n pb po aa ns cc xs) (Ny : NatA w aq nq cq y) (DB : DecsA w bo nB pbB poB aaB nsB ccB xsB) (ht : 0 ≤ tk ∧ tk < 18446744073709551616) :
    Calls Tryz.prog 6 #[.slice ao n c, .agg #[.slice aq nq cq], .slice bo nB cB, .int .u64 tk, .int .i64 at_] w fun e w' => e = .returned (.bool true) ∧ Below w.heap.size w w' := by
  have hfew := DA.few.1
  have hfewB := DB.few.1
  have BB := Below.refl w.heap.size w
  refine gc_enter (n := 146) Tryz.func6 rfl (by kernel_rfl) (by kernel_rfl) ?_
  refine gc_seq ?_
  refine gc_reg ?_
  refine ta 6 [.slice aq nq cq] 35 (pg) ?_
  intro v1 g2 Xg2 hg2 B
  have hbg2 := Nat.le_trans BB.size hg2
  replace BB := joinB BB B
  clear B
  refine t 10 (.bool false) ?_
  refine gl_nil ?_
  refine ge_then ?_
  refine gc_seq ?_
  refine gc_seq ?_
  refine gc_reg ?_
  refine tc 25 9 #[] (known24) ?_
  rintro _ v3 ⟨rfl, B⟩
  refine ⟨_, rfl, ?_⟩
  replace BB := joinB BB B
  replace Xg2 := Xg2.keep B
  clear B
  refine t 26 (.bool false) ?_
  refine gl_nil ?_
  refine ge_then ?_
  refine gc_no ?_
  refine gc_skip ?_
  refine ge_then ?_
  refine gc_seq ?_
  refine gc_seq ?_
  refine gc_reg ?_
  refine t 27 (.slice ao n c) ?_
  refine t 28 (.int .i64 ((n : Nat) : Int)) ?_
  by_cases c4 : (12 : Int) < ((n : Nat) : Int)
  · refine tq 29 (.bool (decide ((12 : Int) < ((n : Nat) : Int)))) (.bool true) (congrArg Value.bool (decide_eq_true c4)) ?_
    refine t 30 (.bool true) ?_
    refine tn 31 ?_
    refine tn 32 ?_
    refine tn 33 ?_
    refine t 34 (.bool true) ?_
    refine t 35 (.bool true) ?_
    refine tn 36 ?_
    refine tn 37 ?_
    refine tn 38 ?_
    refine tn 39 ?_
    refine t 40 (.bool true) ?_
    refine t 41 (.bool true) ?_
    refine tn 42 ?_
    refine tn 43 ?_
    refine tn 44 ?_
    refine t 45 (.bool true) ?_
    refine gl_nil ?_
    refine ge_then ?_
    refine gc_fr [(0, .slice ao n c), (2, .slice bo nB cB), (3, .int .u64 tk), (4, .int .i64 at_), (6, pg g2), (10, .bool false), (45, .bool true)] (by kernel_rfl) ?_
    refine gc_yes ?_
    refine gc_seq ?_
    refine gc_reg ?_
    refine t 10 (.bool true) ?_
    refine gl_nil ?_
    refine ge_then ?_
    refine gc_ret ?_
    refine ge_tr ?_
    refine ge_ret (.bool true) (rs1 10 (by kernel_rfl) (by kernel_rfl)) ?_
    exact ⟨rfl, BB⟩
  · refine tq 29 (.bool (decide ((12 : Int) < ((n : Nat) : Int)))) (.bool false) (congrArg Value.bool (decide_eq_false c4)) ?_
    refine t 30 (.bool false) ?_
    refine t 31 (.slice ao n c) ?_
    refine t 32 (.int .i64 ((n : Nat) : Int)) ?_
    by_cases c5 : ((n : Nat) : Int) = 0
    · refine tq 33 (.bool (((n : Nat) : Int) == 0)) (.bool true) (congrArg Value.bool (beq_iff_eq.2 c5)) ?_
      refine t 34 (.bool true) ?_
      refine t 35 (.bool true) ?_
      refine tn 36 ?_
      refine tn 37 ?_
      refine tn 38 ?_
      refine tn 39 ?_
      refine t 40 (.bool true) ?_
      refine t 41 (.bool true) ?_
      refine tn 42 ?_
      refine tn 43 ?_
      refine tn 44 ?_
      refine t 45 (.bool true) ?_
      refine gl_nil ?_
      refine ge_then ?_
      refine gc_fr [(0, .slice ao n c), (2, .slice bo nB cB), (3, .int .u64 tk), (4, .int .i64 at_), (6, pg g2), (10, .bool false), (45, .bool true)] (by kernel_rfl) ?_
      refine gc_yes ?_
      refine gc_seq ?_
      refine gc_reg ?_
      refine t 10 (.bool true) ?_
      refine gl_nil ?_
      refine ge_then ?_
      refine gc_ret ?_
      refine ge_tr ?_
      refine ge_ret (.bool true) (rs1 10 (by kernel_rfl) (by kernel_rfl)) ?_
      exact ⟨rfl, BB⟩
    · refine tq 33 (.bool (((n : Nat) : Int) == 0)) (.bool false) (congrArg Value.bool (beq_eq_false_iff_ne.2 c5)) ?_
      refine t 34 (.bool false) ?_
      refine t 35 (.bool false) ?_
      refine t 36 (pg g2) ?_
      refine tl 37 (.slice aq nq cq) Xg2 0 ?_
      refine t 38 (.int .i64 ((nq : Nat) : Int)) ?_
      by_cases c6 : (4 : Int) < ((nq : Nat) : Int)
      · refine tq 39 (.bool (decide ((4 : Int) < ((nq : Nat) : Int)))) (.bool true) (congrArg Value.bool (decide_eq_true c6)) ?_
        refine t 40 (.bool true) ?_
        refine t 41 (.bool true) ?_
        refine tn 42 ?_
        refine tn 43 ?_
        refine tn 44 ?_
        refine t 45 (.bool true) ?_
        refine gl_nil ?_
        refine ge_then ?_
        refine gc_fr [(0, .slice ao n c), (2, .slice bo nB cB), (3, .int .u64 tk), (4, .int .i64 at_), (6, pg g2), (10, .bool false), (45, .bool true)] (by kernel_rfl) ?_
        refine gc_yes ?_
        refine gc_seq ?_
        refine gc_reg ?_
        refine t 10 (.bool true) ?_
        refine gl_nil ?_
        refine ge_then ?_
        refine gc_ret ?_
        refine ge_tr ?_
        refine ge_ret (.bool true) (rs1 10 (by kernel_rfl) (by kernel_rfl)) ?_
        exact ⟨rfl, BB⟩
      · refine tq 39 (.bool (decide ((4 : Int) < ((nq : Nat) : Int)))) (.bool false) (congrArg Value.bool (decide_eq_false c6)) ?_
        refine t 40 (.bool false) ?_
        refine t 41 (.bool false) ?_
        refine t 42 (.slice bo nB cB) ?_
        refine t 43 (.int .i64 ((nB : Nat) : Int)) ?_
        by_cases c7 : (12 : Int) < ((nB : Nat) : Int)
        · refine tq 44 (.bool (decide ((12 : Int) < ((nB : Nat) : Int)))) (.bool true) (congrArg Value.bool (decide_eq_true c7)) ?_
          refine t 45 (.bool true) ?_
          refine gl_nil ?_
          refine ge_then ?_
          refine gc_fr [(0, .slice ao n c), (2, .slice bo nB cB), (3, .int .u64 tk), (4, .int .i64 at_), (6, pg g2), (10, .bool false), (45, .bool true)] (by kernel_rfl) ?_
          refine gc_yes ?_
          refine gc_seq ?_
          refine gc_reg ?_
          refine t 10 (.bool true) ?_
          refine gl_nil ?_
          refine ge_then ?_
          refine gc_ret ?_
          refine ge_tr ?_
          refine ge_ret (.bool true) (rs1 10 (by kernel_rfl) (by kernel_rfl)) ?_
          exact ⟨rfl, BB⟩
        · refine tq 44 (.bool (decide ((12 : Int) < ((nB : Nat) : Int)))) (.bool false) (congrArg Value.bool (decide_eq_false c7)) ?_
          refine t 45 (.bool false) ?_
          refine gl_nil ?_
          refine ge_then ?_
          refine gc_fr [(0, .slice ao n c), (2, .slice bo nB cB), (3, .int .u64 tk), (4, .int .i64 at_), (6, pg g2), (10, .bool false), (45, .bool false)] (by kernel_rfl) ?_
          refine gc_no ?_
          refine gc_skip ?_
          refine ge_then ?_
          refine gc_seq ?_
          refine gc_seq ?_
          refine gc_reg ?_
          refine t 11 (.int .i64 0) ?_
          refine gl_nil ?_
          refine ge_then ?_
          refine gc_block ?_
          refine gc_loop (fun i => n - i) (fun (i : Nat) => [(0, .slice ao n c), (2, .slice bo nB cB), (3, .int .u64 tk), (4, .int .i64 at_), (6, pg g2), (10, .bool false), (11, .int .i64 (i : Int))]) (fun i w' => i ≤ n ∧ (∀ j, j < i → ns j ≤ 4) ∧ Below w.heap.size w w' ∧ Blk w' g2 [.slice aq nq cq] 35) 0 ⟨Nat.zero_le _, fun j hj => absurd hj (Nat.not_lt_zero _), BB, Xg2⟩ (by kernel_rfl) ?_
          clear BB Xg2
          rintro i v8 ⟨hi, hx_i, BB, Xg2⟩
          refine gc_seq ?_
          refine gc_seq ?_
          refine gc_reg ?_
          refine t 46 (.int .i64 (i : Int)) ?_
          refine t 47 (.slice ao n c) ?_
          refine t 48 (.int .i64 ((n : Nat) : Int)) ?_
          by_cases c9 : (i : Int) < ((n : Nat) : Int)
          · have hk_i : i < n := by omega
            refine tq 49 (.bool (decide ((i : Int) < ((n : Nat) : Int)))) (.bool true) (congrArg Value.bool (decide_eq_true c9)) ?_
            refine gl_nil ?_
            refine ge_then ?_
            refine gc_yes ?_
            refine gc_skip ?_
            refine ge_then ?_
            refine gc_seq ?_
            refine gc_block ?_
            refine gc_seq ?_
            refine gc_reg ?_
            refine t 52 (.slice ao n c) ?_
            refine t 53 (.int .i64 (i : Int)) ?_
            refine tr 54 (pq pb (po + i)) (congr_v (by rw [Nat.mul_one]) (run_ixa 1 pb po n c i hk_i DA.ptr)) ?_
            refine t 55 (pq pb (po + i)) ?_
            refine tr 56 (.slice (aa i) (ns i) (cc i)) (run_ldn (cellB BB (DA.cell i hk_i))) ?_
            refine t 57 (.int .i64 ((ns i : Nat) : Int)) ?_
            by_cases c10 : (4 : Int) < ((ns i : Nat) : Int)
            · refine tq 58 (.bool (decide ((4 : Int) < ((ns i : Nat) : Int)))) (.bool true) (congrArg Value.bool (decide_eq_true c10)) ?_
              refine gl_nil ?_
              refine ge_then ?_
              refine gc_yes ?_
              refine gc_seq ?_
              refine gc_reg ?_
              refine t 10 (.bool true) ?_
              refine gl_nil ?_
              refine ge_then ?_
              refine gc_fr [(0, .slice ao n c), (2, .slice bo nB cB), (3, .int .u64 tk), (4, .int .i64 at_), (6, pg g2), (10, .bool true), (11, .int .i64 (i : Int)), (46, .int .i64 (i : Int)), (47, .slice ao n c), (48, .int .i64 ((n : Nat) : Int)), (49, .bool true), (52, .slice ao n c), (53, .int .i64 (i : Int)), (54, pq pb (po + i)), (55, pq pb (po + i)), (56, .slice (aa i) (ns i) (cc i)), (57, .int .i64 ((ns i : Nat) : Int)), (58, .bool true)] (by kernel_rfl) ?_
              refine gc_ret ?_
              refine ge_br ?_
              refine ge_tr ?_
              refine ge_tr ?_
              refine ge_br ?_
              refine ge_tr ?_
              refine ge_ret (.bool true) (rs1 10 (by kernel_rfl) (by kernel_rfl)) ?_
              exact ⟨rfl, BB⟩
            · refine tq 58 (.bool (decide ((4 : Int) < ((ns i : Nat) : Int)))) (.bool false) (congrArg Value.bool (decide_eq_false c10)) ?_
              refine gl_nil ?_
              refine ge_then ?_
              refine gc_no ?_
              refine gc_skip ?_
              refine ge_bn ?_
              refine ge_then ?_
              refine gc_reg ?_
              refine t 50 (.int .i64 (i : Int)) ?_
              refine tq 51 (.int .i64 (IntKind.i64.wrap ((i : Int) + 1))) (.int .i64 ((i : Int) + 1)) (wi (by omega)) ?_
              refine t 11 (.int .i64 ((i : Int) + 1)) ?_
              refine gl_nil ?_
              exact ge_round (i + 1) (by omega) ⟨by omega, fun j hj => (Nat.lt_or_ge j i).elim (hx_i j) (fun h => (show i = j by omega) ▸ (show ns i ≤ 4 by omega)), BB, Xg2⟩ (by kernel_rfl)
          · have h4 : ∀ j, j < n → ns j ≤ 4 := fun j hj => hx_i j (by omega)
            have hn : n ≤ 12 := by omega
            have hxF : ∀ j, j < n → 0 ≤ xs j ∧ xs j < 2 ^ (64 * 4) := fun j hj => ⟨(DA.nat j hj).nonneg, nat_lt (DA.nat j hj) (h4 j hj)⟩
            have hyF : 0 ≤ y ∧ y < 2 ^ (64 * 4) := ⟨Ny.nonneg, nat_lt Ny (by omega)⟩
            have w0 := w_bd (n := n) hxF hyF ht
            generalize hW : wF xs y tk = wA at w0
            refine tq 49 (.bool (decide ((i : Int) < ((n : Nat) : Int)))) (.bool false) (congrArg Value.bool (decide_eq_false c9)) ?_
            refine gl_nil ?_
            refine ge_then ?_
            refine gc_no ?_
            refine gc_exit ?_
            refine ge_tx ?_
            refine ge_tx ?_
            refine ge_bx ?_
            refine ge_then ?_
            refine gc_seq ?_
            refine gc_reg ?_
            refine t 59 (.slice ao n c) ?_
            refine tlr 60 [.slice aq nq cq] Xg2 0 ?_
            refine t 61 (.int .u64 tk) ?_
            have hsz := BB.size
            have ltg2 := Xg2.lt
            refine tc 62 34 #[.slice ao n c, .agg #[.slice aq nq cq], .int .u64 tk] (heldW (gs := xsB) (q := tk) hW (held_any (DA.keep BB) hn h4 (Ny.keep BB) (by omega) ht)) ?_
            rintro _ v12 ⟨gL11, KL11, rfl, ML11, hlo_KL11, B⟩
            refine ⟨_, rfl, ?_⟩
            replace BB := joinB BB B
            replace Xg2 := Xg2.keep B
            clear B
            have hkg2_KL11 : ¬ KL11 g2 := fun h => absurd (hlo_KL11 _ h) (Nat.not_le.2 ltg2)
            replace hlo_KL11 : ∀ b, KL11 b → w.heap.size ≤ b := fun b h => Nat.le_trans hsz (hlo_KL11 b h)
            clear hsz ltg2
            refine t 12 (pg gL11) ?_
            refine gl_nil ?_
            refine ge_then ?_
            refine gc_seq ?_
            refine gc_seq ?_
            refine gc_reg ?_
            refine t 13 (.int .i64 0) ?_
            refine gl_nil ?_
            refine ge_then ?_
            refine gc_block ?_
            refine gc_loop (fun j => nB - j) (fun (j : Nat) => [(0, .slice ao n c), (2, .slice bo nB cB), (3, .int .u64 tk), (4, .int .i64 at_), (10, .bool false), (12, pg gL11), (13, .int .i64 (j : Int))]) (fun j w' => j ≤ nB ∧ (∀ k, k < j → nsB k ≤ 4) ∧ Below w.heap.size w w' ∧ Blk w' g2 [.slice aq nq cq] 35 ∧ ∃ K, Lm w' gL11 K (G1 n (oR wA xsB tk j) wA 0 0) ∧ (∀ b, K b → w.heap.size ≤ b) ∧ ¬ K g2) 0 ⟨Nat.zero_le _, fun j hj => absurd hj (Nat.not_lt_zero _), BB, Xg2, KL11, ML11, hlo_KL11, hkg2_KL11⟩ (by kernel_rfl) ?_
            clear BB Xg2 ML11 hlo_KL11 hkg2_KL11
            rintro j v13 ⟨hj, hx_j, BB, Xg2, K14, MK14, hlo_K14, hkg2_K14⟩
            refine gc_seq ?_
            refine gc_seq ?_
            refine gc_reg ?_
            refine t 63 (.int .i64 (j : Int)) ?_
            refine t 64 (.slice bo nB cB) ?_
            refine t 65 (.int .i64 ((nB : Nat) : Int)) ?_
            by_cases c15 : (j : Int) < ((nB : Nat) : Int)
            · have hk_j : j < nB := by omega
              refine tq 66 (.bool (decide ((j : Int) < ((nB : Nat) : Int)))) (.bool true) (congrArg Value.bool (decide_eq_true c15)) ?_
              refine gl_nil ?_
              refine ge_then ?_
              refine gc_yes ?_
              refine gc_skip ?_
              refine ge_then ?_
              refine gc_seq ?_
              refine gc_block ?_
              refine gc_seq ?_
              refine gc_seq ?_
              refine gc_reg ?_
              refine t 69 (.slice bo nB cB) ?_
              refine t 70 (.int .i64 (j : Int)) ?_
              refine tr 71 (pq pbB (poB + j)) (congr_v (by rw [Nat.mul_one]) (run_ixa 1 pbB poB nB cB j hk_j DB.ptr)) ?_
              refine t 72 (pq pbB (poB + j)) ?_
              refine tr 73 (.slice (aaB j) (nsB j) (ccB j)) (run_ldn (cellB BB (DB.cell j hk_j))) ?_
              refine t 74 (.int .i64 ((nsB j : Nat) : Int)) ?_
              by_cases c16 : (4 : Int) < ((nsB j : Nat) : Int)
              · refine tq 75 (.bool (decide ((4 : Int) < ((nsB j : Nat) : Int)))) (.bool true) (congrArg Value.bool (decide_eq_true c16)) ?_
                refine gl_nil ?_
                refine ge_then ?_
                refine gc_yes ?_
                refine gc_seq ?_
                refine gc_reg ?_
                refine t 10 (.bool true) ?_
                refine gl_nil ?_
                refine ge_then ?_
                refine gc_fr [(0, .slice ao n c), (2, .slice bo nB cB), (3, .int .u64 tk), (4, .int .i64 at_), (10, .bool true), (12, pg gL11), (13, .int .i64 (j : Int)), (63, .int .i64 (j : Int)), (64, .slice bo nB cB), (65, .int .i64 ((nB : Nat) : Int)), (66, .bool true), (69, .slice bo nB cB), (70, .int .i64 (j : Int)), (71, pq pbB (poB + j)), (72, pq pbB (poB + j)), (73, .slice (aaB j) (nsB j) (ccB j)), (74, .int .i64 ((nsB j : Nat) : Int)), (75, .bool true)] (by kernel_rfl) ?_
                refine gc_ret ?_
                refine ge_tr ?_
                refine ge_br ?_
                refine ge_tr ?_
                refine ge_tr ?_
                refine ge_br ?_
                refine ge_tr ?_
                refine ge_ret (.bool true) (rs1 10 (by kernel_rfl) (by kernel_rfl)) ?_
                exact ⟨rfl, BB⟩
              · refine tq 75 (.bool (decide ((4 : Int) < ((nsB j : Nat) : Int)))) (.bool false) (congrArg Value.bool (decide_eq_false c16)) ?_
                refine gl_nil ?_
                refine ge_then ?_
                refine gc_no ?_
                refine gc_skip ?_
                refine ge_then ?_
                refine gc_reg ?_
                refine t 76 (pg gL11) ?_
                refine t 77 (.slice bo nB cB) ?_
                refine t 78 (.int .i64 (j : Int)) ?_
                refine tr 79 (pq pbB (poB + j)) (congr_v (by rw [Nat.mul_one]) (run_ixa 1 pbB poB nB cB j hk_j DB.ptr)) ?_
                refine tr 80 (.agg #[.slice (aaB j) (nsB j) (ccB j)]) (run_ldd (cellB BB (DB.cell j hk_j))) ?_
                refine t 81 (.int .u64 tk) ?_
                refine tc 82 12 #[pg gL11, .int .u64 16, .agg #[.slice (aaB j) (nsB j) (ccB j)], .int .u64 tk] (lGive ⟨by decide, by decide⟩ ((DB.nat j hk_j).keep BB) (by omega) ht MK14 (L := 20000) (fa_fs (Bd.up (oR_bd (m := j) w0 (fun k hk => ⟨(DB.nat k (by omega)).nonneg, nat_lt (DB.nat k (by omega)) (hx_j k (by omega))⟩) ht j (Nat.le_refl _)) (by omega)) (w0.up (by decide)) ⟨by decide, by decide +kernel⟩ ⟨by decide, by decide +kernel⟩ (by decide)) (by decide) (by rw [GS_len]; omega)) ?_
                rintro _ v19 ⟨K17, rfl, M18, hK, C, P⟩
                refine ⟨_, rfl, ?_⟩
                have hlo_K17 : ∀ b, K17 b → w.heap.size ≤ b := fun b h => (hK b h).elim (hlo_K14 b) (fun h => Nat.le_trans BB.size h)
                have hkg2_K17 : ¬ K17 g2 := fun h => (hK _ h).elim hkg2_K14 (fun h => absurd Xg2.lt (Nat.not_lt.2 h))
                replace BB := belowK BB C hlo_K14
                replace Xg2 := Xg2.chg C hkg2_K14
                clear hlo_K14 hkg2_K14 MK14 hK C P
                replace M18 := (show Lm _ _ _ (G1 n (oR wA xsB tk (j + 1)) wA 0 0) from (show sGive (G1 n (oR wA xsB tk j) wA 0 0) 16 (xsB j) tk = (G1 n (oR wA xsB tk (j + 1)) wA 0 0) from give_eq) ▸ M18)
                refine gl_nil ?_
                refine ge_bn ?_
                refine ge_then ?_
                refine gc_fr [(0, .slice ao n c), (2, .slice bo nB cB), (3, .int .u64 tk), (4, .int .i64 at_), (10, .bool false), (12, pg gL11), (13, .int .i64 (j : Int)), (63, .int .i64 (j : Int)), (64, .slice bo nB cB), (65, .int .i64 ((nB : Nat) : Int)), (66, .bool true), (69, .slice bo nB cB), (70, .int .i64 (j : Int)), (71, pq pbB (poB + j)), (72, pq pbB (poB + j)), (73, .slice (aaB j) (nsB j) (ccB j)), (74, .int .i64 ((nsB j : Nat) : Int)), (75, .bool false), (76, pg gL11), (77, .slice bo nB cB), (78, .int .i64 (j : Int)), (79, pq pbB (poB + j)), (80, .agg #[.slice (aaB j) (nsB j) (ccB j)]), (81, .int .u64 tk)] (by kernel_rfl) ?_
                refine gc_reg ?_
                refine t 67 (.int .i64 (j : Int)) ?_
                refine tq 68 (.int .i64 (IntKind.i64.wrap ((j : Int) + 1))) (.int .i64 ((j : Int) + 1)) (wi (by omega)) ?_
                refine t 13 (.int .i64 ((j : Int) + 1)) ?_
                refine gl_nil ?_
                exact ge_round (j + 1) (by omega) ⟨by omega, fun k hk => (Nat.lt_or_ge k j).elim (hx_j k) (fun h => (show j = k by omega) ▸ (show nsB j ≤ 4 by omega)), BB, Xg2, K17, M18, hlo_K17, hkg2_K17⟩ (by kernel_rfl)
            · have h4B : ∀ k, k < nB → nsB k ≤ 4 := fun k hk => hx_j k (by omega)
              have oj := oR_bd (m := nB) w0 (fun k hk => ⟨(DB.nat k hk).nonneg, nat_lt (DB.nat k hk) (h4B k hk)⟩) ht j (by omega)
              rw [show j = nB by omega] at oj
              generalize hO : oR wA xsB tk nB = oA at oj
              replace oj : Bd n oA 20000 := oj.up (by omega)
              rw [show j = nB by omega, hO] at MK14
              refine tq 66 (.bool (decide ((j : Int) < ((nB : Nat) : Int)))) (.bool false) (congrArg Value.bool (decide_eq_false c15)) ?_
              refine gl_nil ?_
              refine ge_then ?_
              refine gc_no ?_
              refine gc_exit ?_
              refine ge_tx ?_
              refine ge_tx ?_
              refine ge_bx ?_
              refine ge_then ?_
              refine gc_seq ?_
              refine gc_reg ?_
              refine t 83 (.int .i64 at_) ?_
              refine t 84 (.slice ao n c) ?_
              refine t 85 (.int .i64 ((n : Nat) : Int)) ?_
              refine tc 86 43 #[.int .i64 at_, .int .i64 ((n : Nat) : Int)] (place _ n (by omega) (by omega) _) ?_
              rintro _ v20 ⟨m, rfl, hm, B⟩
              refine ⟨_, rfl, ?_⟩
              replace BB := joinB BB B
              replace Xg2 := Xg2.keep B
              replace MK14 := MK14.keep B
              clear B
              have hge := rs_ge (fun i hi => (oj i hi).1) hm
              have hsub : Ft (rs oA n - oA m) (64 * 10000) := by
                rw [← rs_but hm]
                exact ft_up (rs_ft (L := 20000) fun i hi => by
                  by_cases h : i = m
                  · rw [if_pos h]; exact ⟨Rat.le_refl, by decide +kernel⟩
                  · rw [if_neg h]; exact oj i hi) (by omega)
              refine tr 87 (.int .u64 (m : Int)) (run_iu (⟨by omega, by omega⟩)) ?_
              refine t 14 (.int .u64 (m : Int)) ?_
              refine gl_nil ?_
              refine ge_then ?_
              refine gc_seq ?_
              refine gc_reg ?_
              refine t 88 (pg gL11) ?_
              refine tc 89 29 #[pg gL11, .int .u64 16] (rdl (lOwes ⟨by decide, by decide⟩ MK14 (L := 20000) (fa_fs oj (w0.up (by decide)) ⟨by decide, by decide +kernel⟩ ⟨by decide, by decide +kernel⟩ (by decide)) (by decide) (by rw [GS_len]; omega)) (show sOwes (G1 n oA wA 0 0) 16 = (rs oA n) from owes16)) ?_
              rintro _ v22 ⟨aq21, kq21, dq21, bq21, lq21, eq21, rfl, Qq21, B⟩
              refine ⟨_, rfl, ?_⟩
              replace BB := joinB BB B
              replace Xg2 := Xg2.keep B
              replace MK14 := MK14.keep B
              clear B
              refine t 90 (pg gL11) ?_
              refine tc 91 27 #[pg gL11, .int .u64 16] (rdl (lStakes ⟨by decide, by decide⟩ MK14 (L := 20000) (fa_fs oj (w0.up (by decide)) ⟨by decide, by decide +kernel⟩ ⟨by decide, by decide +kernel⟩ (by decide)) (by decide) (by rw [GS_len]; omega)) (show sStakes (G1 n oA wA 0 0) 16 = (rs wA n) from stakes16)) ?_
              rintro _ v24 ⟨aq23, kq23, dq23, bq23, lq23, eq23, rfl, Qq23, B⟩
              refine ⟨_, rfl, ?_⟩
              replace BB := joinB BB B
              replace Xg2 := Xg2.keep B
              replace MK14 := MK14.keep B
              replace Qq21 := Qq21.keep B
              clear B
              have lXg2 := Xg2.lt
              refine ta 15 [.slice none 0 0, .slice none 0 0] 40 (pg) ?_
              intro v25 g26 Xg26 hg26 B
              have hkg26_K14 : ¬ K14 g26 := fun h => absurd (MK14.lt h) (Nat.not_lt.2 hg26)
              have hbg26 := Nat.le_trans BB.size hg26
              replace BB := joinB BB B
              replace Xg2 := Xg2.keep B
              replace MK14 := MK14.keep B
              replace Qq21 := Qq21.keep B
              replace Qq23 := Qq23.keep B
              clear B
              have lXg2 := Xg2.lt
              have lXg26 := Xg26.lt
              refine ta 16 [.slice none 0 0, .slice none 0 0] 40 (pg) ?_
              intro v27 g28 Xg28 hg28 B
              have hkg28_K14 : ¬ K14 g28 := fun h => absurd (MK14.lt h) (Nat.not_lt.2 hg28)
              have hbg28 := Nat.le_trans BB.size hg28
              replace BB := joinB BB B
              replace Xg2 := Xg2.keep B
              replace MK14 := MK14.keep B
              replace Qq21 := Qq21.keep B
              replace Qq23 := Qq23.keep B
              replace Xg26 := Xg26.keep B
              clear B
              refine ts Xg26 0 (.agg #[.slice aq21 kq21 dq21, .slice bq21 lq21 eq21]) [.slice aq21 kq21 dq21, .slice bq21 lq21 eq21] [.slice aq21 kq21 dq21, .slice bq21 lq21 eq21] ?_
              intro v29 Y C
              replace BB := belowC BB C (by omega)
              replace Xg2 := Xg2.chg C (show g2 ≠ g26 by omega)
              replace MK14 := MK14.off C (Lp.cg Xg26 C (by rfl)) (fun b h e => hkg26_K14 (e ▸ h))
              replace Qq21 := Qq21.cg Xg26 C (by rfl)
              replace Qq23 := Qq23.cg Xg26 C (by rfl)
              replace Xg28 := Xg28.chg C (show g28 ≠ g26 by omega)
              clear C Xg26
              have Xg26 := Y
              clear Y
              refine ts Xg28 0 (.agg #[.slice aq23 kq23 dq23, .slice bq23 lq23 eq23]) [.slice aq23 kq23 dq23, .slice bq23 lq23 eq23] [.slice aq23 kq23 dq23, .slice bq23 lq23 eq23] ?_
              intro v30 Y C
              replace BB := belowC BB C (by omega)
              replace Xg2 := Xg2.chg C (show g2 ≠ g28 by omega)
              replace MK14 := MK14.off C (Lp.cg Xg28 C (by rfl)) (fun b h e => hkg28_K14 (e ▸ h))
              replace Qq21 := Qq21.cg Xg28 C (by rfl)
              replace Qq23 := Qq23.cg Xg28 C (by rfl)
              replace Xg26 := Xg26.chg C (show g26 ≠ g28 by omega)
              clear C Xg28
              have Xg28 := Y
              clear Y
              refine gl_nil ?_
              refine ge_then ?_
              refine gc_fr [(10, .bool false), (12, pg gL11), (14, .int .u64 (m : Int)), (15, pg g26), (16, pg g28)] (by kernel_rfl) ?_
              refine gc_seq ?_
              refine gc_reg ?_
              refine t 93 (pg gL11) ?_
              refine t 94 (.int .u64 (m : Int)) ?_
              refine tc 95 14 #[pg gL11, .int .u64 16, .int .u64 (m : Int)] (setl (lSettle ⟨by decide, by decide⟩ ⟨by omega, by omega⟩ MK14 (L := 20000) (fa_fs oj (w0.up (by decide)) ⟨by decide, by decide +kernel⟩ ⟨by decide, by decide +kernel⟩ (by decide)) (by decide) (by rw [GS_len]; omega)) (s := (oA m)) (p' := 1) (q' := 0) (by rw [told1 hm]) (by rw [told1 hm]) (by rw [told1 hm])) ?_
              rintro _ v34 ⟨aq33, kq33, dq33, bq33, lq33, eq33, K31, rfl, Qq33, M32, hK, C, P⟩
              refine ⟨_, rfl, ?_⟩
              have hlo_K31 : ∀ b, K31 b → w.heap.size ≤ b := fun b h => (hK b h).elim (hlo_K14 b) (fun h => Nat.le_trans BB.size h)
              have hkg2_K31 : ¬ K31 g2 := fun h => (hK _ h).elim hkg2_K14 (fun h => absurd Xg2.lt (Nat.not_lt.2 h))
              have hkg26_K31 : ¬ K31 g26 := fun h => (hK _ h).elim hkg26_K14 (fun h => absurd Xg26.lt (Nat.not_lt.2 h))
              have hkg28_K31 : ¬ K31 g28 := fun h => (hK _ h).elim hkg28_K14 (fun h => absurd Xg28.lt (Nat.not_lt.2 h))
              replace BB := belowK BB C hlo_K14
              replace Xg2 := Xg2.chg C hkg2_K14
              replace Qq21 := Qq21.lp P
              replace Qq23 := Qq23.lp P
              replace Xg26 := Xg26.chg C hkg26_K14
              replace Xg28 := Xg28.chg C hkg28_K14
              clear hlo_K14 hkg2_K14 hkg26_K14 hkg28_K14 MK14 hK C P
              replace M32 := (show Lm _ _ _ (GS n (sF oA wA m 1) (1, 0, 0, 0)) from (show sClear (sTick (G1 n oA wA 0 0) 16) 16 (m : Int) = (GS n (sF oA wA m 1) (1, 0, 0, 0)) from settle1) ▸ M32)
              refine t 92 (.tuple #[.agg #[.slice aq33 kq33 dq33, .slice bq33 lq33 eq33], .int .i64 1, .int .i64 0]) ?_
              refine t 96 (.agg #[.slice aq33 kq33 dq33, .slice bq33 lq33 eq33]) ?_
              refine t 97 (.int .i64 1) ?_
              refine t 98 (.int .i64 0) ?_
              have lXg2 := Xg2.lt
              have lXg26 := Xg26.lt
              have lXg28 := Xg28.lt
              refine ta 17 [.slice none 0 0, .slice none 0 0] 40 (pg) ?_
              intro v35 g36 Xg36 hg36 B
              have hkg36_K31 : ¬ K31 g36 := fun h => absurd (M32.lt h) (Nat.not_lt.2 hg36)
              have hbg36 := Nat.le_trans BB.size hg36
              replace BB := joinB BB B
              replace Xg2 := Xg2.keep B
              replace Qq21 := Qq21.keep B
              replace Qq23 := Qq23.keep B
              replace Xg26 := Xg26.keep B
              replace Xg28 := Xg28.keep B
              replace M32 := M32.keep B
              replace Qq33 := Qq33.keep B
              clear B
              refine ts Xg36 0 (.agg #[.slice aq33 kq33 dq33, .slice bq33 lq33 eq33]) [.slice aq33 kq33 dq33, .slice bq33 lq33 eq33] [.slice aq33 kq33 dq33, .slice bq33 lq33 eq33] ?_
              intro v37 Y C
              replace BB := belowC BB C (by omega)
              replace Xg2 := Xg2.chg C (show g2 ≠ g36 by omega)
              replace Qq21 := Qq21.cg Xg36 C (by rfl)
              replace Qq23 := Qq23.cg Xg36 C (by rfl)
              replace Xg26 := Xg26.chg C (show g26 ≠ g36 by omega)
              replace Xg28 := Xg28.chg C (show g28 ≠ g36 by omega)
              replace M32 := M32.off C (Lp.cg Xg36 C (by rfl)) (fun b h e => hkg36_K31 (e ▸ h))
              replace Qq33 := Qq33.cg Xg36 C (by rfl)
              clear C Xg36
              have Xg36 := Y
              clear Y
              refine t 18 (.int .i64 1) ?_
              refine t 19 (.int .i64 0) ?_
              refine gl_nil ?_
              refine ge_then ?_
              refine gc_seq ?_
              refine gc_reg ?_
              refine tlr 100 [.slice aq21 kq21 dq21, .slice bq21 lq21 eq21] Xg26 0 ?_
              refine tlr 101 [.slice aq33 kq33 dq33, .slice bq33 lq33 eq33] Xg36 0 ?_
              refine tc 102 44 #[.agg #[.slice aq21 kq21 dq21, .slice bq21 lq21 eq21], .agg #[.slice aq33 kq33 dq33, .slice bq33 lq33 eq33]] (pSub (B := 10000) (Qq21.v (ft_up (rs_ft oj) (by omega))) (Qq33.v (ft_up (oj m hm).2 (by decide))) (by decide) hge) ?_
              rintro _ v39 ⟨aq38, kq38, dq38, bq38, lq38, eq38, rfl, Qq38, B⟩
              refine ⟨_, rfl, ?_⟩
              replace BB := joinB BB B
              replace Xg2 := Xg2.keep B
              replace Qq21 := Qq21.keep B
              replace Qq23 := Qq23.keep B
              replace Xg26 := Xg26.keep B
              replace Xg28 := Xg28.keep B
              replace M32 := M32.keep B
              replace Qq33 := Qq33.keep B
              replace Xg36 := Xg36.keep B
              clear B
              refine t 99 (.tuple #[.agg #[.slice aq38 kq38 dq38, .slice bq38 lq38 eq38], .int .i64 0]) ?_
              refine t 103 (.agg #[.slice aq38 kq38 dq38, .slice bq38 lq38 eq38]) ?_
              refine t 104 (.int .i64 0) ?_
              have lXg2 := Xg2.lt
              have lXg26 := Xg26.lt
              have lXg28 := Xg28.lt
              have lXg36 := Xg36.lt
              refine ta 20 [.slice none 0 0, .slice none 0 0] 40 (pg) ?_
              intro v40 g41 Xg41 hg41 B
              have hkg41_K31 : ¬ K31 g41 := fun h => absurd (M32.lt h) (Nat.not_lt.2 hg41)
              have hbg41 := Nat.le_trans BB.size hg41
              replace BB := joinB BB B
              replace Xg2 := Xg2.keep B
              replace Qq21 := Qq21.keep B
              replace Qq23 := Qq23.keep B
              replace Xg26 := Xg26.keep B
              replace Xg28 := Xg28.keep B
              replace M32 := M32.keep B
              replace Qq33 := Qq33.keep B
              replace Xg36 := Xg36.keep B
              replace Qq38 := Qq38.keep B
              clear B
              refine ts Xg41 0 (.agg #[.slice aq38 kq38 dq38, .slice bq38 lq38 eq38]) [.slice aq38 kq38 dq38, .slice bq38 lq38 eq38] [.slice aq38 kq38 dq38, .slice bq38 lq38 eq38] ?_
              intro v42 Y C
              replace BB := belowC BB C (by omega)
              replace Xg2 := Xg2.chg C (show g2 ≠ g41 by omega)
              replace Qq21 := Qq21.cg Xg41 C (by rfl)
              replace Qq23 := Qq23.cg Xg41 C (by rfl)
              replace Xg26 := Xg26.chg C (show g26 ≠ g41 by omega)
              replace Xg28 := Xg28.chg C (show g28 ≠ g41 by omega)
              replace M32 := M32.off C (Lp.cg Xg41 C (by rfl)) (fun b h e => hkg41_K31 (e ▸ h))
              replace Qq33 := Qq33.cg Xg41 C (by rfl)
              replace Xg36 := Xg36.chg C (show g36 ≠ g41 by omega)
              replace Qq38 := Qq38.cg Xg41 C (by rfl)
              clear C Xg41
              have Xg41 := Y
              clear Y
              refine t 21 (.int .i64 0) ?_
              refine gl_nil ?_
              refine ge_then ?_
              refine gc_fr [(10, .bool false), (12, pg gL11), (14, .int .u64 (m : Int)), (16, pg g28), (18, .int .i64 1), (19, .int .i64 0), (20, pg g41), (21, .int .i64 0)] (by kernel_rfl) ?_
              refine gc_seq ?_
              refine gc_reg ?_
              refine t 106 (pg gL11) ?_
              refine t 107 (.int .u64 (m : Int)) ?_
              refine tc 108 14 #[pg gL11, .int .u64 16, .int .u64 (m : Int)] (setl (lSettle ⟨by decide, by decide⟩ ⟨by omega, by omega⟩ M32 (L := 20000) (sF_fs oj (w0.up (by decide)) ⟨by decide, by decide +kernel⟩ (by decide)) (by decide) (by rw [GS_len]; omega)) (s := (0 : Rat)) (p' := 1) (q' := 0) (by rw [told2 hm]) (by rw [told2 hm]) (by rw [told2 hm])) ?_
              rintro _ v46 ⟨aq45, kq45, dq45, bq45, lq45, eq45, K43, rfl, Qq45, M44, hK, C, P⟩
              refine ⟨_, rfl, ?_⟩
              have hlo_K43 : ∀ b, K43 b → w.heap.size ≤ b := fun b h => (hK b h).elim (hlo_K31 b) (fun h => Nat.le_trans BB.size h)
              have hkg2_K43 : ¬ K43 g2 := fun h => (hK _ h).elim hkg2_K31 (fun h => absurd Xg2.lt (Nat.not_lt.2 h))
              have hkg26_K43 : ¬ K43 g26 := fun h => (hK _ h).elim hkg26_K31 (fun h => absurd Xg26.lt (Nat.not_lt.2 h))
              have hkg28_K43 : ¬ K43 g28 := fun h => (hK _ h).elim hkg28_K31 (fun h => absurd Xg28.lt (Nat.not_lt.2 h))
              have hkg36_K43 : ¬ K43 g36 := fun h => (hK _ h).elim hkg36_K31 (fun h => absurd Xg36.lt (Nat.not_lt.2 h))
              have hkg41_K43 : ¬ K43 g41 := fun h => (hK _ h).elim hkg41_K31 (fun h => absurd Xg41.lt (Nat.not_lt.2 h))
              replace BB := belowK BB C hlo_K31
              replace Xg2 := Xg2.chg C hkg2_K31
              replace Qq21 := Qq21.lp P
              replace Qq23 := Qq23.lp P
              replace Xg26 := Xg26.chg C hkg26_K31
              replace Xg28 := Xg28.chg C hkg28_K31
              replace Qq33 := Qq33.lp P
              replace Xg36 := Xg36.chg C hkg36_K31
              replace Qq38 := Qq38.lp P
              replace Xg41 := Xg41.chg C hkg41_K31
              clear hlo_K31 hkg2_K31 hkg26_K31 hkg28_K31 hkg36_K31 hkg41_K31 M32 hK C P
              replace M44 := (show Lm _ _ _ (GS n (sF oA wA m 2) (1, 0, 0, 0)) from (show sClear (sTick (GS n (sF oA wA m 1) (1, 0, 0, 0)) 16) 16 (m : Int) = (GS n (sF oA wA m 2) (1, 0, 0, 0)) from settle2) ▸ M44)
              refine t 105 (.tuple #[.agg #[.slice aq45 kq45 dq45, .slice bq45 lq45 eq45], .int .i64 1, .int .i64 0]) ?_
              refine t 109 (.agg #[.slice aq45 kq45 dq45, .slice bq45 lq45 eq45]) ?_
              refine t 110 (.int .i64 1) ?_
              refine t 111 (.int .i64 0) ?_
              have lXg2 := Xg2.lt
              have lXg26 := Xg26.lt
              have lXg28 := Xg28.lt
              have lXg36 := Xg36.lt
              have lXg41 := Xg41.lt
              refine ta 22 [.slice none 0 0, .slice none 0 0] 40 (pg) ?_
              intro v47 g48 Xg48 hg48 B
              have hkg48_K43 : ¬ K43 g48 := fun h => absurd (M44.lt h) (Nat.not_lt.2 hg48)
              have hbg48 := Nat.le_trans BB.size hg48
              replace BB := joinB BB B
              replace Xg2 := Xg2.keep B
              replace Qq21 := Qq21.keep B
              replace Qq23 := Qq23.keep B
              replace Xg26 := Xg26.keep B
              replace Xg28 := Xg28.keep B
              replace Qq33 := Qq33.keep B
              replace Xg36 := Xg36.keep B
              replace Qq38 := Qq38.keep B
              replace Xg41 := Xg41.keep B
              replace M44 := M44.keep B
              replace Qq45 := Qq45.keep B
              clear B
              refine ts Xg48 0 (.agg #[.slice aq45 kq45 dq45, .slice bq45 lq45 eq45]) [.slice aq45 kq45 dq45, .slice bq45 lq45 eq45] [.slice aq45 kq45 dq45, .slice bq45 lq45 eq45] ?_
              intro v49 Y C
              replace BB := belowC BB C (by omega)
              replace Xg2 := Xg2.chg C (show g2 ≠ g48 by omega)
              replace Qq21 := Qq21.cg Xg48 C (by rfl)
              replace Qq23 := Qq23.cg Xg48 C (by rfl)
              replace Xg26 := Xg26.chg C (show g26 ≠ g48 by omega)
              replace Xg28 := Xg28.chg C (show g28 ≠ g48 by omega)
              replace Qq33 := Qq33.cg Xg48 C (by rfl)
              replace Xg36 := Xg36.chg C (show g36 ≠ g48 by omega)
              replace Qq38 := Qq38.cg Xg48 C (by rfl)
              replace Xg41 := Xg41.chg C (show g41 ≠ g48 by omega)
              replace M44 := M44.off C (Lp.cg Xg48 C (by rfl)) (fun b h e => hkg48_K43 (e ▸ h))
              replace Qq45 := Qq45.cg Xg48 C (by rfl)
              clear C Xg48
              have Xg48 := Y
              clear Y
              refine t 23 (.int .i64 1) ?_
              refine t 24 (.int .i64 0) ?_
              refine gl_nil ?_
              refine ge_then ?_
              refine gc_seq ?_
              replace Ny := Ny
              replace BB := BB.drew
              replace Xg2 := Xg2.drew
              replace Qq21 := Qq21.drew
              replace Qq23 := Qq23.drew
              replace Xg26 := Xg26.drew
              replace Xg28 := Xg28.drew
              replace Qq33 := Qq33.drew
              replace Xg36 := Xg36.drew
              replace Qq38 := Qq38.drew
              replace Xg41 := Xg41.drew
              replace M44 := M44.drew
              replace Qq45 := Qq45.drew
              replace Xg48 := Xg48.drew
              refine gc_draw (fun w' => Blk w' g41 [.slice aq38 kq38 dq38, .slice bq38 lq38 eq38] 40 ∧ Blk w' g28 [.slice aq23 kq23 dq23, .slice bq23 lq23 eq23] 40 ∧ Blk w' g48 [.slice aq45 kq45 dq45, .slice bq45 lq45 eq45] 40 ∧ Below w.heap.size w w') (fun _ => false) ⟨Xg41, Xg28, Xg48, BB⟩ ?_
              refine z 0 112 (.int .i64 0) ?_
              refine z 1 113 (.bool true) ?_
              refine z 2 114 (.bool true) ?_
              refine z 3 115 (pg gL11) ?_
              refine zlr 5 117 [.slice aq38 kq38 dq38, .slice bq38 lq38 eq38] (fun _ h => h.1) 0 ?_
              refine zc 4 116 29 #[pg gL11, .int .u64 16] (rdl (lOwes ⟨by decide, by decide⟩ M44 (L := 20000) (sF_fs oj (w0.up (by decide)) ⟨by decide, by decide +kernel⟩ (by decide)) (by decide) (by rw [GS_len]; omega)) (show sOwes (GS n (sF oA wA m 2) (1, 0, 0, 0)) 16 = (rs oA n - oA m) from sF_owes hm)) ?_
              rintro _ v51 ⟨aq50, kq50, dq50, bq50, lq50, eq50, rfl, Qq50, B⟩
              replace BB := joinB BB B
              replace Xg2 := Xg2.keep B
              replace Qq21 := Qq21.keep B
              replace Qq23 := Qq23.keep B
              replace Xg26 := Xg26.keep B
              replace Xg28 := Xg28.keep B
              replace Qq33 := Qq33.keep B
              replace Xg36 := Xg36.keep B
              replace Qq38 := Qq38.keep B
              replace Xg41 := Xg41.keep B
              replace M44 := M44.keep B
              replace Qq45 := Qq45.keep B
              replace Xg48 := Xg48.keep B
              clear B
              refine ⟨_, rfl, ⟨Xg41, Xg28, Xg48, BB⟩, ?_⟩
              refine zc 6 118 16 #[.agg #[.slice aq50 kq50 dq50, .slice bq50 lq50 eq50], .agg #[.slice aq38 kq38 dq38, .slice bq38 lq38 eq38]] (pSameL (B := 10000) Qq50 Qq38 hsub hsub (by decide) (t := true) (decide_eq_true (rfl))) ?_
              rintro _ v52 ⟨rfl, B⟩
              replace BB := joinB BB B
              replace Xg2 := Xg2.keep B
              replace Qq21 := Qq21.keep B
              replace Qq23 := Qq23.keep B
              replace Xg26 := Xg26.keep B
              replace Xg28 := Xg28.keep B
              replace Qq33 := Qq33.keep B
              replace Xg36 := Xg36.keep B
              replace Qq38 := Qq38.keep B
              replace Xg41 := Xg41.keep B
              replace M44 := M44.keep B
              replace Qq45 := Qq45.keep B
              replace Xg48 := Xg48.keep B
              replace Qq50 := Qq50.keep B
              clear B
              refine ⟨_, rfl, ⟨Xg41, Xg28, Xg48, BB⟩, ?_⟩
              refine z 7 119 (.bool true) ?_
              refine z 8 120 (.bool true) ?_
              refine z 9 121 (pg gL11) ?_
              refine zlr 11 123 [.slice aq23 kq23 dq23, .slice bq23 lq23 eq23] (fun _ h => h.2.1) 0 ?_
              refine zc 10 122 27 #[pg gL11, .int .u64 16] (rdl (lStakes ⟨by decide, by decide⟩ M44 (L := 20000) (sF_fs oj (w0.up (by decide)) ⟨by decide, by decide +kernel⟩ (by decide)) (by decide) (by rw [GS_len]; omega)) (show sStakes (GS n (sF oA wA m 2) (1, 0, 0, 0)) 16 = (rs wA n) from sF_stakes)) ?_
              rintro _ v54 ⟨aq53, kq53, dq53, bq53, lq53, eq53, rfl, Qq53, B⟩
              replace BB := joinB BB B
              replace Xg2 := Xg2.keep B
              replace Qq21 := Qq21.keep B
              replace Qq23 := Qq23.keep B
              replace Xg26 := Xg26.keep B
              replace Xg28 := Xg28.keep B
              replace Qq33 := Qq33.keep B
              replace Xg36 := Xg36.keep B
              replace Qq38 := Qq38.keep B
              replace Xg41 := Xg41.keep B
              replace M44 := M44.keep B
              replace Qq45 := Qq45.keep B
              replace Xg48 := Xg48.keep B
              replace Qq50 := Qq50.keep B
              clear B
              refine ⟨_, rfl, ⟨Xg41, Xg28, Xg48, BB⟩, ?_⟩
              refine zc 12 124 16 #[.agg #[.slice aq53 kq53 dq53, .slice bq53 lq53 eq53], .agg #[.slice aq23 kq23 dq23, .slice bq23 lq23 eq23]] (pSameL (B := 10000) Qq53 Qq23 (ft_up (rs_ft w0) (by omega)) (ft_up (rs_ft w0) (by omega)) (by decide) (t := true) (decide_eq_true (rfl))) ?_
              rintro _ v55 ⟨rfl, B⟩
              replace BB := joinB BB B
              replace Xg2 := Xg2.keep B
              replace Qq21 := Qq21.keep B
              replace Qq23 := Qq23.keep B
              replace Xg26 := Xg26.keep B
              replace Xg28 := Xg28.keep B
              replace Qq33 := Qq33.keep B
              replace Xg36 := Xg36.keep B
              replace Qq38 := Qq38.keep B
              replace Xg41 := Xg41.keep B
              replace M44 := M44.keep B
              replace Qq45 := Qq45.keep B
              replace Xg48 := Xg48.keep B
              replace Qq50 := Qq50.keep B
              replace Qq53 := Qq53.keep B
              clear B
              refine ⟨_, rfl, ⟨Xg41, Xg28, Xg48, BB⟩, ?_⟩
              refine z 13 125 (.bool true) ?_
              refine z 14 126 (.bool true) ?_
              refine z 15 127 (.int .i64 1) ?_
              refine z 16 128 (.bool true) ?_
              refine z 17 129 (.bool true) ?_
              refine z 18 130 (.bool true) ?_
              refine z 19 131 (.int .i64 0) ?_
              refine z 20 132 (.bool true) ?_
              refine z 21 133 (.bool true) ?_
              refine z 22 134 (.bool true) ?_
              refine z 23 135 (.int .i64 1) ?_
              refine z 24 136 (.bool true) ?_
              refine z 25 137 (.bool true) ?_
              refine z 26 138 (.bool true) ?_
              refine z 27 139 (.int .i64 0) ?_
              refine z 28 140 (.bool true) ?_
              refine z 29 141 (.bool true) ?_
              refine z 30 142 (.bool true) ?_
              refine zlr 31 143 [.slice aq45 kq45 dq45, .slice bq45 lq45 eq45] (fun _ h => h.2.2.1) 0 ?_
              refine zc 32 144 40 #[.agg #[.slice aq45 kq45 dq45, .slice bq45 lq45 eq45]] (pZeroL (B := 10000) (Qq45.v (by decide +kernel)) (by decide) (t := true) (decide_eq_true (rfl))) ?_
              rintro _ v56 ⟨rfl, B⟩
              replace BB := joinB BB B
              replace Xg2 := Xg2.keep B
              replace Qq21 := Qq21.keep B
              replace Qq23 := Qq23.keep B
              replace Xg26 := Xg26.keep B
              replace Xg28 := Xg28.keep B
              replace Qq33 := Qq33.keep B
              replace Xg36 := Xg36.keep B
              replace Qq38 := Qq38.keep B
              replace Xg41 := Xg41.keep B
              replace M44 := M44.keep B
              replace Qq45 := Qq45.keep B
              replace Xg48 := Xg48.keep B
              replace Qq50 := Qq50.keep B
              replace Qq53 := Qq53.keep B
              clear B
              refine ⟨_, rfl, ⟨Xg41, Xg28, Xg48, BB⟩, ?_⟩
              refine z 33 145 (.bool true) ?_
              refine z 34 10 (.bool true) ?_
              refine gz_done ?_
              refine ge_then ?_
              refine gc_fr [(10, .bool true)] (by kernel_rfl) ?_
              refine gc_ret ?_
              refine ge_ret (.bool true) (rs1 10 (by kernel_rfl) (by kernel_rfl)) ?_
              exact ⟨rfl, BB⟩
theorem walk (a0 : Option Addr) (len0 cap0 : Nat) (a1 : Option Addr) (len1 cap1 : Nat) (z1 : List Int) (a2 : Option Addr) (len2 cap2 : Nat) (x3 : Int) (x4 : Int) (w : World) (w0 : DecsIn w a0 len0 cap0) (w1 : IsRow w a1 len1 cap1 z1) (w2 : DecsIn w a2 len2 cap2) (wx3 : (Lit.int .u64 x3).wf = true) (wx4 : (Lit.int .i64 x4).wf = true) : Calls Tryz.prog 6 #[.slice a0 len0 cap0, .agg #[.slice a1 len1 cap1], .slice a2 len2 cap2, .int .u64 x3, .int .i64 x4] w fun e w' => e = .returned (.bool true) ∧ Below w.heap.size w w' := by
  obtain ⟨pb0, po0, aa0, ns0, cc0, xs0, DA0⟩ := w0.open
  obtain ⟨g1, o1, l1, hl1, hc1, hm1, W1, h1⟩ := w1.open
  have N1 : NatA w a1 len1 cap1 (val l1) := ⟨g1, o1, l1, hl1, hc1, W1, h1, rfl⟩
  obtain ⟨pb2, po2, aa2, ns2, cc2, xs2, DA2⟩ := w2.open
  have hw3 := bounds_u64 wx3
  have hx3 : 0 ≤ x3 ∧ x3 < 18446744073709551616 := by omega
  have hw4 := bounds_i64 wx4
  exact owes_any DA0 N1 DA2 hx3
end ledgerOwes
end Go.Proofs.YtlbndpkdkdgggaaGreatDoor
