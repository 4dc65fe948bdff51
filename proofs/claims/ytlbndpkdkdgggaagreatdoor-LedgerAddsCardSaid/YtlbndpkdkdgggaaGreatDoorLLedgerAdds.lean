/- gleanlaw24.LedgerAdds returns true for every input. (tools/gen_lga.py) -/
import Derived.Test.YtlbndpkdkdgggaaGreatDoorJrr
namespace Go.Proofs.YtlbndpkdkdgggaaGreatDoor
namespace ledgerAdds
open Go.RowKit Go.Lib Lim Pg Gl Lg
theorem heldW {fn : FuncId} {vs : Array Value} {w : World} {n : Nat} {wx wy : Nat → Rat} (e : wx = wy) (h : Calls Tryz.prog fn vs w fun e w' => ∃ g K, e = .returned (pg g) ∧ Lm w' g K (GS n (FA zF wx 0 0) (1, 0, 0, 0)) ∧ (∀ b, K b → w.heap.size ≤ b) ∧ Below w.heap.size w w') : Calls Tryz.prog fn vs w fun e w' => ∃ g K, e = .returned (pg g) ∧ Lm w' g K (G1 n zF wy 0 0) ∧ (∀ b, K b → w.heap.size ≤ b) ∧ Below w.heap.size w w' := e ▸ h
set_option maxHeartbeats 4000000 in
set_option maxRecDepth 100000 in
theorem adds_any {w : World} {ao : Option Addr} {n c pb po : Nat} {aa : Nat → Option Addr} {ns cc : Nat → Nat} {xs : Nat → Int} {aq ar as_ : Option Addr} {nq cq nr cr ns_ cs_ : Nat} {y r zb tk md af : Int} (DA : DecsA w ao n pb po aa ns cc xs) (Ny : NatA w aq nq cq y) (Nr : NatA w ar nr cr r) (Ns : NatA w as_ ns_ cs_ zb) (ht : 0 ≤ tk ∧ tk < 18446744073709551616) (hm : 0 ≤ md ∧ md < 18446744073709551616) (ha : 0 ≤ af ∧ af < 18446744073709551616) :
    Calls Tryz.prog 7 #[.slice ao n c, .agg #[.slice aq nq cq], .agg #[.slice ar nr cr], .agg #[.slice as_ ns_ cs_], .int .u64 tk, .int .u64 md, .int .u64 af] w fun e w' => e = .returned (.bool true) ∧ Below w.heap.size w w' := by
  have hfew := DA.few.1
  have BB := Below.refl w.heap.size w
  refine gc_enter (n := 150) Tryz.func7 rfl (by kernel_rfl) (by kernel_rfl) ?_
  refine gc_seq ?_
  refine gc_reg ?_
  refine ta 8 [.slice aq nq cq] 35 (pg) ?_
  intro v1 g2 Xg2 hg2 B
  have hbg2 := Nat.le_trans BB.size hg2
  replace BB := joinB BB B
  clear B
  have lXg2 := Xg2.lt
  refine ta 9 [.slice ar nr cr] 35 (pg) ?_
  intro v3 g4 Xg4 hg4 B
  have hbg4 := Nat.le_trans BB.size hg4
  replace BB := joinB BB B
  replace Xg2 := Xg2.keep B
  clear B
  have lXg2 := Xg2.lt
  have lXg4 := Xg4.lt
  refine ta 10 [.slice as_ ns_ cs_] 35 (pg) ?_
  intro v5 g6 Xg6 hg6 B
  have hbg6 := Nat.le_trans BB.size hg6
  replace BB := joinB BB B
  replace Xg2 := Xg2.keep B
  replace Xg4 := Xg4.keep B
  clear B
  refine t 14 (.bool false) ?_
  refine gl_nil ?_
  refine ge_then ?_
  refine gc_seq ?_
  refine gc_seq ?_
  refine gc_reg ?_
  refine tc 22 9 #[] (known24) ?_
  rintro _ v7 ⟨rfl, B⟩
  refine ⟨_, rfl, ?_⟩
  replace BB := joinB BB B
  replace Xg2 := Xg2.keep B
  replace Xg4 := Xg4.keep B
  replace Xg6 := Xg6.keep B
  clear B
  refine t 23 (.bool false) ?_
  refine gl_nil ?_
  refine ge_then ?_
  refine gc_fr [(0, .slice ao n c), (4, .int .u64 tk), (5, .int .u64 md), (6, .int .u64 af), (8, pg g2), (9, pg g4), (10, pg g6), (14, .bool false), (23, .bool false)] (by kernel_rfl) ?_
  refine gc_no ?_
  refine gc_skip ?_
  refine ge_then ?_
  refine gc_seq ?_
  refine gc_seq ?_
  refine gc_reg ?_
  refine t 24 (.slice ao n c) ?_
  refine t 25 (.int .i64 ((n : Nat) : Int)) ?_
  by_cases c8 : (12 : Int) < ((n : Nat) : Int)
  · refine tq 26 (.bool (decide ((12 : Int) < ((n : Nat) : Int)))) (.bool true) (congrArg Value.bool (decide_eq_true c8)) ?_
    refine t 27 (.bool true) ?_
    refine tn 28 ?_
    refine tn 29 ?_
    refine tn 30 ?_
    refine tn 31 ?_
    refine t 32 (.bool true) ?_
    refine t 33 (.bool true) ?_
    refine tn 34 ?_
    refine tn 35 ?_
    refine tn 36 ?_
    refine tn 37 ?_
    refine t 38 (.bool true) ?_
    refine t 39 (.bool true) ?_
    refine tn 40 ?_
    refine tn 41 ?_
    refine tn 42 ?_
    refine tn 43 ?_
    refine t 44 (.bool true) ?_
    refine t 45 (.bool true) ?_
    refine tn 46 ?_
    refine tn 47 ?_
    refine t 48 (.bool true) ?_
    refine gl_nil ?_
    refine ge_then ?_
    refine gc_fr [(0, .slice ao n c), (4, .int .u64 tk), (5, .int .u64 md), (6, .int .u64 af), (8, pg g2), (9, pg g4), (10, pg g6), (14, .bool false), (48, .bool true)] (by kernel_rfl) ?_
    refine gc_yes ?_
    refine gc_seq ?_
    refine gc_reg ?_
    refine t 14 (.bool true) ?_
    refine gl_nil ?_
    refine ge_then ?_
    refine gc_ret ?_
    refine ge_tr ?_
    refine ge_ret (.bool true) (rs1 14 (by kernel_rfl) (by kernel_rfl)) ?_
    exact ⟨rfl, BB⟩
  · refine tq 26 (.bool (decide ((12 : Int) < ((n : Nat) : Int)))) (.bool false) (congrArg Value.bool (decide_eq_false c8)) ?_
    refine t 27 (.bool false) ?_
    refine t 28 (pg g2) ?_
    refine tl 29 (.slice aq nq cq) Xg2 0 ?_
    refine t 30 (.int .i64 ((nq : Nat) : Int)) ?_
    by_cases c9 : (4 : Int) < ((nq : Nat) : Int)
    · refine tq 31 (.bool (decide ((4 : Int) < ((nq : Nat) : Int)))) (.bool true) (congrArg Value.bool (decide_eq_true c9)) ?_
      refine t 32 (.bool true) ?_
      refine t 33 (.bool true) ?_
      refine tn 34 ?_
      refine tn 35 ?_
      refine tn 36 ?_
      refine tn 37 ?_
      refine t 38 (.bool true) ?_
      refine t 39 (.bool true) ?_
      refine tn 40 ?_
      refine tn 41 ?_
      refine tn 42 ?_
      refine tn 43 ?_
      refine t 44 (.bool true) ?_
      refine t 45 (.bool true) ?_
      refine tn 46 ?_
      refine tn 47 ?_
      refine t 48 (.bool true) ?_
      refine gl_nil ?_
      refine ge_then ?_
      refine gc_fr [(0, .slice ao n c), (4, .int .u64 tk), (5, .int .u64 md), (6, .int .u64 af), (8, pg g2), (9, pg g4), (10, pg g6), (14, .bool false), (48, .bool true)] (by kernel_rfl) ?_
      refine gc_yes ?_
      refine gc_seq ?_
      refine gc_reg ?_
      refine t 14 (.bool true) ?_
      refine gl_nil ?_
      refine ge_then ?_
      refine gc_ret ?_
      refine ge_tr ?_
      refine ge_ret (.bool true) (rs1 14 (by kernel_rfl) (by kernel_rfl)) ?_
      exact ⟨rfl, BB⟩
    · refine tq 31 (.bool (decide ((4 : Int) < ((nq : Nat) : Int)))) (.bool false) (congrArg Value.bool (decide_eq_false c9)) ?_
      refine t 32 (.bool false) ?_
      refine t 33 (.bool false) ?_
      refine t 34 (pg g4) ?_
      refine tl 35 (.slice ar nr cr) Xg4 0 ?_
      refine t 36 (.int .i64 ((nr : Nat) : Int)) ?_
      by_cases c10 : (4 : Int) < ((nr : Nat) : Int)
      · refine tq 37 (.bool (decide ((4 : Int) < ((nr : Nat) : Int)))) (.bool true) (congrArg Value.bool (decide_eq_true c10)) ?_
        refine t 38 (.bool true) ?_
        refine t 39 (.bool true) ?_
        refine tn 40 ?_
        refine tn 41 ?_
        refine tn 42 ?_
        refine tn 43 ?_
        refine t 44 (.bool true) ?_
        refine t 45 (.bool true) ?_
        refine tn 46 ?_
        refine tn 47 ?_
        refine t 48 (.bool true) ?_
        refine gl_nil ?_
        refine ge_then ?_
        refine gc_fr [(0, .slice ao n c), (4, .int .u64 tk), (5, .int .u64 md), (6, .int .u64 af), (8, pg g2), (9, pg g4), (10, pg g6), (14, .bool false), (48, .bool true)] (by kernel_rfl) ?_
        refine gc_yes ?_
        refine gc_seq ?_
        refine gc_reg ?_
        refine t 14 (.bool true) ?_
        refine gl_nil ?_
        refine ge_then ?_
        refine gc_ret ?_
        refine ge_tr ?_
        refine ge_ret (.bool true) (rs1 14 (by kernel_rfl) (by kernel_rfl)) ?_
        exact ⟨rfl, BB⟩
      · refine tq 37 (.bool (decide ((4 : Int) < ((nr : Nat) : Int)))) (.bool false) (congrArg Value.bool (decide_eq_false c10)) ?_
        refine t 38 (.bool false) ?_
        refine t 39 (.bool false) ?_
        refine t 40 (pg g6) ?_
        refine tl 41 (.slice as_ ns_ cs_) Xg6 0 ?_
        refine t 42 (.int .i64 ((ns_ : Nat) : Int)) ?_
        by_cases c11 : (4 : Int) < ((ns_ : Nat) : Int)
        · refine tq 43 (.bool (decide ((4 : Int) < ((ns_ : Nat) : Int)))) (.bool true) (congrArg Value.bool (decide_eq_true c11)) ?_
          refine t 44 (.bool true) ?_
          refine t 45 (.bool true) ?_
          refine tn 46 ?_
          refine tn 47 ?_
          refine t 48 (.bool true) ?_
          refine gl_nil ?_
          refine ge_then ?_
          refine gc_fr [(0, .slice ao n c), (4, .int .u64 tk), (5, .int .u64 md), (6, .int .u64 af), (8, pg g2), (9, pg g4), (10, pg g6), (14, .bool false), (48, .bool true)] (by kernel_rfl) ?_
          refine gc_yes ?_
          refine gc_seq ?_
          refine gc_reg ?_
          refine t 14 (.bool true) ?_
          refine gl_nil ?_
          refine ge_then ?_
          refine gc_ret ?_
          refine ge_tr ?_
          refine ge_ret (.bool true) (rs1 14 (by kernel_rfl) (by kernel_rfl)) ?_
          exact ⟨rfl, BB⟩
        · refine tq 43 (.bool (decide ((4 : Int) < ((ns_ : Nat) : Int)))) (.bool false) (congrArg Value.bool (decide_eq_false c11)) ?_
          refine t 44 (.bool false) ?_
          refine t 45 (.bool false) ?_
          refine t 46 (.int .u64 md) ?_
          by_cases hmz : (md : Int) = 0
          · refine tq 47 (.bool ((md : Int) == 0)) (.bool true) (congrArg Value.bool (beq_iff_eq.2 hmz)) ?_
            refine t 48 (.bool true) ?_
            refine gl_nil ?_
            refine ge_then ?_
            refine gc_fr [(0, .slice ao n c), (4, .int .u64 tk), (5, .int .u64 md), (6, .int .u64 af), (8, pg g2), (9, pg g4), (10, pg g6), (14, .bool false), (48, .bool true)] (by kernel_rfl) ?_
            refine gc_yes ?_
            refine gc_seq ?_
            refine gc_reg ?_
            refine t 14 (.bool true) ?_
            refine gl_nil ?_
            refine ge_then ?_
            refine gc_ret ?_
            refine ge_tr ?_
            refine ge_ret (.bool true) (rs1 14 (by kernel_rfl) (by kernel_rfl)) ?_
            exact ⟨rfl, BB⟩
          · refine tq 47 (.bool ((md : Int) == 0)) (.bool false) (congrArg Value.bool (beq_eq_false_iff_ne.2 hmz)) ?_
            refine t 48 (.bool false) ?_
            refine gl_nil ?_
            refine ge_then ?_
            refine gc_fr [(0, .slice ao n c), (4, .int .u64 tk), (5, .int .u64 md), (6, .int .u64 af), (8, pg g2), (9, pg g4), (10, pg g6), (14, .bool false), (48, .bool false)] (by kernel_rfl) ?_
            refine gc_no ?_
            refine gc_skip ?_
            refine ge_then ?_
            refine gc_seq ?_
            refine gc_seq ?_
            refine gc_reg ?_
            refine t 15 (.int .i64 0) ?_
            refine gl_nil ?_
            refine ge_then ?_
            refine gc_block ?_
            refine gc_loop (fun i => n - i) (fun (i : Nat) => [(0, .slice ao n c), (4, .int .u64 tk), (5, .int .u64 md), (6, .int .u64 af), (8, pg g2), (9, pg g4), (10, pg g6), (14, .bool false), (15, .int .i64 (i : Int))]) (fun i w' => i ≤ n ∧ (∀ j, j < i → ns j ≤ 4) ∧ Below w.heap.size w w' ∧ Blk w' g2 [.slice aq nq cq] 35 ∧ Blk w' g4 [.slice ar nr cr] 35 ∧ Blk w' g6 [.slice as_ ns_ cs_] 35) 0 ⟨Nat.zero_le _, fun j hj => absurd hj (Nat.not_lt_zero _), BB, Xg2, Xg4, Xg6⟩ (by kernel_rfl) ?_
            clear BB Xg2 Xg4 Xg6
            rintro i v12 ⟨hi, hx_i, BB, Xg2, Xg4, Xg6⟩
            refine gc_seq ?_
            refine gc_seq ?_
            refine gc_reg ?_
            refine t 49 (.int .i64 (i : Int)) ?_
            refine t 50 (.slice ao n c) ?_
            refine t 51 (.int .i64 ((n : Nat) : Int)) ?_
            by_cases c13 : (i : Int) < ((n : Nat) : Int)
            · have hk_i : i < n := by omega
              refine tq 52 (.bool (decide ((i : Int) < ((n : Nat) : Int)))) (.bool true) (congrArg Value.bool (decide_eq_true c13)) ?_
              refine gl_nil ?_
              refine ge_then ?_
              refine gc_yes ?_
              refine gc_skip ?_
              refine ge_then ?_
              refine gc_seq ?_
              refine gc_block ?_
              refine gc_seq ?_
              refine gc_reg ?_
              refine t 55 (.slice ao n c) ?_
              refine t 56 (.int .i64 (i : Int)) ?_
              refine tr 57 (pq pb (po + i)) (congr_v (by rw [Nat.mul_one]) (run_ixa 1 pb po n c i hk_i DA.ptr)) ?_
              refine t 58 (pq pb (po + i)) ?_
              refine tr 59 (.slice (aa i) (ns i) (cc i)) (run_ldn (cellB BB (DA.cell i hk_i))) ?_
              refine t 60 (.int .i64 ((ns i : Nat) : Int)) ?_
              by_cases c14 : (4 : Int) < ((ns i : Nat) : Int)
              · refine tq 61 (.bool (decide ((4 : Int) < ((ns i : Nat) : Int)))) (.bool true) (congrArg Value.bool (decide_eq_true c14)) ?_
                refine gl_nil ?_
                refine ge_then ?_
                refine gc_yes ?_
                refine gc_seq ?_
                refine gc_reg ?_
                refine t 14 (.bool true) ?_
                refine gl_nil ?_
                refine ge_then ?_
                refine gc_fr [(0, .slice ao n c), (4, .int .u64 tk), (5, .int .u64 md), (6, .int .u64 af), (8, pg g2), (9, pg g4), (10, pg g6), (14, .bool true), (15, .int .i64 (i : Int)), (49, .int .i64 (i : Int)), (50, .slice ao n c), (51, .int .i64 ((n : Nat) : Int)), (52, .bool true), (55, .slice ao n c), (56, .int .i64 (i : Int)), (57, pq pb (po + i)), (58, pq pb (po + i)), (59, .slice (aa i) (ns i) (cc i)), (60, .int .i64 ((ns i : Nat) : Int)), (61, .bool true)] (by kernel_rfl) ?_
                refine gc_ret ?_
                refine ge_br ?_
                refine ge_tr ?_
                refine ge_tr ?_
                refine ge_br ?_
                refine ge_tr ?_
                refine ge_ret (.bool true) (rs1 14 (by kernel_rfl) (by kernel_rfl)) ?_
                exact ⟨rfl, BB⟩
              · refine tq 61 (.bool (decide ((4 : Int) < ((ns i : Nat) : Int)))) (.bool false) (congrArg Value.bool (decide_eq_false c14)) ?_
                refine gl_nil ?_
                refine ge_then ?_
                refine gc_no ?_
                refine gc_skip ?_
                refine ge_bn ?_
                refine ge_then ?_
                refine gc_reg ?_
                refine t 53 (.int .i64 (i : Int)) ?_
                refine tq 54 (.int .i64 (IntKind.i64.wrap ((i : Int) + 1))) (.int .i64 ((i : Int) + 1)) (wi (by omega)) ?_
                refine t 15 (.int .i64 ((i : Int) + 1)) ?_
                refine gl_nil ?_
                exact ge_round (i + 1) (by omega) ⟨by omega, fun j hj => (Nat.lt_or_ge j i).elim (hx_i j) (fun h => (show i = j by omega) ▸ (show ns i ≤ 4 by omega)), BB, Xg2, Xg4, Xg6⟩ (by kernel_rfl)
            · have h4 : ∀ j, j < n → ns j ≤ 4 := fun j hj => hx_i j (by omega)
              have hn : n ≤ 12 := by omega
              have hxF : ∀ j, j < n → 0 ≤ xs j ∧ xs j < 2 ^ (64 * 4) := fun j hj => ⟨(DA.nat j hj).nonneg, nat_lt (DA.nat j hj) (h4 j hj)⟩
              have hyF : 0 ≤ y ∧ y < 2 ^ (64 * 4) := ⟨Ny.nonneg, nat_lt Ny (by omega)⟩
              have hrF : 0 ≤ r ∧ r < 2 ^ (64 * 4) := ⟨Nr.nonneg, nat_lt Nr (by omega)⟩
              have hzF : 0 ≤ zb ∧ zb < 2 ^ (64 * 4) := ⟨Ns.nonneg, nat_lt Ns (by omega)⟩
              have e9 : (2 : Int) ^ (64 * 4) + 2 ^ (64 * 4) < 2 ^ (64 * 9) := by decide +kernel
              have w0 := w_bd (n := n) hxF hyF ht
              have o1 := g_bd (z_bd (n := n)) w0 (r := r) (by omega) ht
              have o2 := g_bd o1 w0 (r := zb) (by omega) ht
              have o3 := g_bd (z_bd (n := n)) w0 (r := r + zb) (by omega) ht
              have w1 := c_bd w0 hm ht
              have w2 := c_bd w1 ha hm
              have w3 := c_bd w0 ha ht
              generalize hA : gF zF (wF xs y tk) r tk = oA at o1 o2
              generalize hB : gF oA (wF xs y tk) zb tk = oB at o2
              generalize hC : gF zF (wF xs y tk) (r + zb) tk = oC at o3
              generalize hD : cF (wF xs y tk) tk md = wD at w1 w2
              generalize hE : cF wD md af = wE at w2
              generalize hG : cF (wF xs y tk) tk af = wG at w3
              have oe : ∀ i, oB i = oC i := fun i => by rw [← hB, ← hA, ← hC]; exact gg_eq
              have we : ∀ i, i < n → wE i = wG i := fun i hi => by rw [← hE, ← hD, ← hG]; exact cc_eq hmz hi
              generalize hW : wF xs y tk = wA at w0
              refine tq 52 (.bool (decide ((i : Int) < ((n : Nat) : Int)))) (.bool false) (congrArg Value.bool (decide_eq_false c13)) ?_
              refine gl_nil ?_
              refine ge_then ?_
              refine gc_no ?_
              refine gc_exit ?_
              refine ge_tx ?_
              refine ge_tx ?_
              refine ge_bx ?_
              refine ge_then ?_
              refine gc_seq ?_
              replace Ny := Ny
              replace Nr := Nr
              replace Ns := Ns
              replace BB := BB.drew
              replace Xg2 := Xg2.drew
              replace Xg4 := Xg4.drew
              replace Xg6 := Xg6.drew
              refine gc_draw (fun w' => Blk w' g2 [.slice aq nq cq] 35 ∧ Below w.heap.size w w') (fun _ => false) ⟨Xg2, BB⟩ ?_
              refine z 0 62 (.slice ao n c) ?_
              refine zlr 1 63 [.slice aq nq cq] (fun _ h => h.1) 0 ?_
              refine z 2 64 (.int .u64 tk) ?_
              refine z 4 66 (.slice ao n c) ?_
              refine zlr 5 67 [.slice aq nq cq] (fun _ h => h.1) 0 ?_
              refine z 6 68 (.int .u64 tk) ?_
              have hsz := BB.size
              have ltg2 := Xg2.lt
              have ltg4 := Xg4.lt
              have ltg6 := Xg6.lt
              refine zc 3 65 34 #[.slice ao n c, .agg #[.slice aq nq cq], .int .u64 tk] (heldW hW (held_any (DA.keep BB) hn h4 (Ny.keep BB) (by omega) ht)) ?_
              rintro _ v16 ⟨gL15, KL15, rfl, ML15, hlo_KL15, B⟩
              replace BB := joinB BB B
              replace Xg2 := Xg2.keep B
              replace Xg4 := Xg4.keep B
              replace Xg6 := Xg6.keep B
              clear B
              have hkg2_KL15 : ¬ KL15 g2 := fun h => absurd (hlo_KL15 _ h) (Nat.not_le.2 ltg2)
              have hkg4_KL15 : ¬ KL15 g4 := fun h => absurd (hlo_KL15 _ h) (Nat.not_le.2 ltg4)
              have hkg6_KL15 : ¬ KL15 g6 := fun h => absurd (hlo_KL15 _ h) (Nat.not_le.2 ltg6)
              replace hlo_KL15 : ∀ b, KL15 b → w.heap.size ≤ b := fun b h => Nat.le_trans hsz (hlo_KL15 b h)
              clear hsz ltg2 ltg4 ltg6
              refine ⟨_, rfl, ⟨Xg2, BB⟩, ?_⟩
              have hsz := BB.size
              have ltg2 := Xg2.lt
              have ltg4 := Xg4.lt
              have ltg6 := Xg6.lt
              have lmKL15 := fun b => ML15.lt (b := b)
              refine zc 7 69 34 #[.slice ao n c, .agg #[.slice aq nq cq], .int .u64 tk] (heldW hW (held_any (DA.keep BB) hn h4 (Ny.keep BB) (by omega) ht)) ?_
              rintro _ v18 ⟨gL17, KL17, rfl, ML17, hlo_KL17, B⟩
              replace BB := joinB BB B
              replace Xg2 := Xg2.keep B
              replace Xg4 := Xg4.keep B
              replace Xg6 := Xg6.keep B
              replace ML15 := ML15.keep B
              clear B
              have hkg2_KL17 : ¬ KL17 g2 := fun h => absurd (hlo_KL17 _ h) (Nat.not_le.2 ltg2)
              have hkg4_KL17 : ¬ KL17 g4 := fun h => absurd (hlo_KL17 _ h) (Nat.not_le.2 ltg4)
              have hkg6_KL17 : ¬ KL17 g6 := fun h => absurd (hlo_KL17 _ h) (Nat.not_le.2 ltg6)
              have hd_KL17_KL15 : ∀ b, KL17 b → ¬ KL15 b := fun b h k => absurd (hlo_KL17 _ h) (Nat.not_le.2 (lmKL15 b k))
              have hd_KL15_KL17 : ∀ b, KL15 b → ¬ KL17 b := fun b h k => hd_KL17_KL15 b k h
              replace hlo_KL17 : ∀ b, KL17 b → w.heap.size ≤ b := fun b h => Nat.le_trans hsz (hlo_KL17 b h)
              clear hsz ltg2 ltg4 ltg6 lmKL15
              refine ⟨_, rfl, ⟨Xg2, BB⟩, ?_⟩
              refine z 8 16 (pg gL15) ?_
              refine z 9 17 (pg gL17) ?_
              refine gz_done ?_
              refine ge_then ?_
              refine gc_fr [(0, .slice ao n c), (4, .int .u64 tk), (5, .int .u64 md), (6, .int .u64 af), (9, pg g4), (10, pg g6), (14, .bool false), (16, pg gL15), (17, pg gL17)] (by kernel_rfl) ?_
              refine gc_seq ?_
              refine gc_reg ?_
              refine t 70 (pg gL15) ?_
              refine tlr 71 [.slice ar nr cr] Xg4 0 ?_
              refine t 72 (.int .u64 tk) ?_
              refine tc 73 12 #[pg gL15, .int .u64 16, .agg #[.slice ar nr cr], .int .u64 tk] (lGive ⟨by decide, by decide⟩ (Nr.keep BB) (by omega) ht ML15 (L := 6400) (fa_fs (z_bd.up (by decide)) (w0.up (by decide)) ⟨by decide, by decide +kernel⟩ ⟨by decide, by decide +kernel⟩ (by decide)) (by decide) (by rw [GS_len]; omega)) ?_
              rintro _ v21 ⟨K19, rfl, M20, hK, C, P⟩
              refine ⟨_, rfl, ?_⟩
              have hlo_K19 : ∀ b, K19 b → w.heap.size ≤ b := fun b h => (hK b h).elim (hlo_KL15 b) (fun h => Nat.le_trans BB.size h)
              have hkg2_K19 : ¬ K19 g2 := fun h => (hK _ h).elim hkg2_KL15 (fun h => absurd Xg2.lt (Nat.not_lt.2 h))
              have hkg4_K19 : ¬ K19 g4 := fun h => (hK _ h).elim hkg4_KL15 (fun h => absurd Xg4.lt (Nat.not_lt.2 h))
              have hkg6_K19 : ¬ K19 g6 := fun h => (hK _ h).elim hkg6_KL15 (fun h => absurd Xg6.lt (Nat.not_lt.2 h))
              have hd_K19_KL17 : ∀ b, K19 b → ¬ KL17 b := fun b h k => (hK b h).elim (fun h => hd_KL15_KL17 b h k) (fun h => absurd (ML17.lt k) (Nat.not_lt.2 h))
              have hd_KL17_K19 : ∀ b, KL17 b → ¬ K19 b := fun b h k => hd_K19_KL17 b k h
              replace BB := belowK BB C hlo_KL15
              replace Xg2 := Xg2.chg C hkg2_KL15
              replace Xg4 := Xg4.chg C hkg4_KL15
              replace Xg6 := Xg6.chg C hkg6_KL15
              replace ML17 := ML17.off C P hd_KL17_KL15
              clear hlo_KL15 hkg2_KL15 hkg4_KL15 hkg6_KL15 hd_KL15_KL17 hd_KL17_KL15 ML15 hK C P
              replace M20 := (show Lm _ _ _ (G1 n oA wA 0 0) from (show sGive (G1 n zF wA 0 0) 16 r tk = (G1 n oA wA 0 0) from give_eq.trans (by rw [← hA, ← hW])) ▸ M20)
              refine gl_nil ?_
              refine ge_then ?_
              refine gc_seq ?_
              refine gc_reg ?_
              refine t 74 (pg gL15) ?_
              refine tlr 75 [.slice as_ ns_ cs_] Xg6 0 ?_
              refine t 76 (.int .u64 tk) ?_
              refine tc 77 12 #[pg gL15, .int .u64 16, .agg #[.slice as_ ns_ cs_], .int .u64 tk] (lGive ⟨by decide, by decide⟩ (Ns.keep BB) (by omega) ht M20 (L := 6400) (fa_fs (o1.up (by decide)) (w0.up (by decide)) ⟨by decide, by decide +kernel⟩ ⟨by decide, by decide +kernel⟩ (by decide)) (by decide) (by rw [GS_len]; omega)) ?_
              rintro _ v24 ⟨K22, rfl, M23, hK, C, P⟩
              refine ⟨_, rfl, ?_⟩
              have hlo_K22 : ∀ b, K22 b → w.heap.size ≤ b := fun b h => (hK b h).elim (hlo_K19 b) (fun h => Nat.le_trans BB.size h)
              have hkg2_K22 : ¬ K22 g2 := fun h => (hK _ h).elim hkg2_K19 (fun h => absurd Xg2.lt (Nat.not_lt.2 h))
              have hkg4_K22 : ¬ K22 g4 := fun h => (hK _ h).elim hkg4_K19 (fun h => absurd Xg4.lt (Nat.not_lt.2 h))
              have hkg6_K22 : ¬ K22 g6 := fun h => (hK _ h).elim hkg6_K19 (fun h => absurd Xg6.lt (Nat.not_lt.2 h))
              have hd_K22_KL17 : ∀ b, K22 b → ¬ KL17 b := fun b h k => (hK b h).elim (fun h => hd_K19_KL17 b h k) (fun h => absurd (ML17.lt k) (Nat.not_lt.2 h))
              have hd_KL17_K22 : ∀ b, KL17 b → ¬ K22 b := fun b h k => hd_K22_KL17 b k h
              replace BB := belowK BB C hlo_K19
              replace Xg2 := Xg2.chg C hkg2_K19
              replace Xg4 := Xg4.chg C hkg4_K19
              replace Xg6 := Xg6.chg C hkg6_K19
              replace ML17 := ML17.off C P hd_KL17_K19
              clear hlo_K19 hkg2_K19 hkg4_K19 hkg6_K19 hd_K19_KL17 hd_KL17_K19 M20 hK C P
              replace M23 := (show Lm _ _ _ (G1 n oB wA 0 0) from (show sGive (G1 n oA wA 0 0) 16 zb tk = (G1 n oB wA 0 0) from give_eq.trans (by rw [← hB, ← hW])) ▸ M23)
              refine gl_nil ?_
              refine ge_then ?_
              refine gc_seq ?_
              refine gc_reg ?_
              refine t 78 (pg gL17) ?_
              refine tlr 79 [.slice ar nr cr] Xg4 0 ?_
              refine tlr 80 [.slice as_ ns_ cs_] Xg6 0 ?_
              refine tc 81 45 #[.agg #[.slice ar nr cr], .agg #[.slice as_ ns_ cs_]] (dAdd (Nr.keep BB) (Ns.keep BB) (by omega) (by omega)) ?_
              rintro _ v26 ⟨an25, kn25, dn25, rfl, Nn25, ln25, B⟩
              refine ⟨_, rfl, ?_⟩
              replace BB := joinB BB B
              replace Xg2 := Xg2.keep B
              replace Xg4 := Xg4.keep B
              replace Xg6 := Xg6.keep B
              replace ML17 := ML17.keep B
              replace M23 := M23.keep B
              clear B
              refine t 82 (.int .u64 tk) ?_
              refine tc 83 12 #[pg gL17, .int .u64 16, .agg #[.slice an25 kn25 dn25], .int .u64 tk] (lGive ⟨by decide, by decide⟩ Nn25.a (by omega) ht ML17 (L := 6400) (fa_fs (z_bd.up (by decide)) (w0.up (by decide)) ⟨by decide, by decide +kernel⟩ ⟨by decide, by decide +kernel⟩ (by decide)) (by decide) (by rw [GS_len]; omega)) ?_
              rintro _ v29 ⟨K27, rfl, M28, hK, C, P⟩
              refine ⟨_, rfl, ?_⟩
              have hlo_K27 : ∀ b, K27 b → w.heap.size ≤ b := fun b h => (hK b h).elim (hlo_KL17 b) (fun h => Nat.le_trans BB.size h)
              have hkg2_K27 : ¬ K27 g2 := fun h => (hK _ h).elim hkg2_KL17 (fun h => absurd Xg2.lt (Nat.not_lt.2 h))
              have hkg4_K27 : ¬ K27 g4 := fun h => (hK _ h).elim hkg4_KL17 (fun h => absurd Xg4.lt (Nat.not_lt.2 h))
              have hkg6_K27 : ¬ K27 g6 := fun h => (hK _ h).elim hkg6_KL17 (fun h => absurd Xg6.lt (Nat.not_lt.2 h))
              have hd_K27_K22 : ∀ b, K27 b → ¬ K22 b := fun b h k => (hK b h).elim (fun h => hd_KL17_K22 b h k) (fun h => absurd (M23.lt k) (Nat.not_lt.2 h))
              have hd_K22_K27 : ∀ b, K22 b → ¬ K27 b := fun b h k => hd_K27_K22 b k h
              replace BB := belowK BB C hlo_KL17
              replace Xg2 := Xg2.chg C hkg2_KL17
              replace Xg4 := Xg4.chg C hkg4_KL17
              replace Xg6 := Xg6.chg C hkg6_KL17
              replace M23 := M23.off C P hd_K22_KL17
              replace Nn25 := NatO.lp Nn25 P
              clear hlo_KL17 hkg2_KL17 hkg4_KL17 hkg6_KL17 hd_KL17_K22 hd_K22_KL17 ML17 hK C P
              replace M28 := (show Lm _ _ _ (G1 n oC wA 0 0) from (show sGive (G1 n zF wA 0 0) 16 (r + zb) tk = (G1 n oC wA 0 0) from give_eq.trans (by rw [← hC, ← hW])) ▸ M28)
              refine gl_nil ?_
              refine ge_then ?_
              refine gc_fr [(0, .slice ao n c), (4, .int .u64 tk), (5, .int .u64 md), (6, .int .u64 af), (14, .bool false), (16, pg gL15), (17, pg gL17)] (by kernel_rfl) ?_
              refine gc_seq ?_
              refine gc_reg ?_
              refine t 84 (pg gL15) ?_
              refine t 85 (.int .u64 tk) ?_
              refine t 86 (.int .u64 md) ?_
              refine tc 87 21 #[pg gL15, .int .u64 16, .int .u64 tk, .int .u64 md] (lCut ⟨by decide, by decide⟩ ht hm M23 (L := 6400) (fa_fs (o2.up (by decide)) (w0.up (by decide)) ⟨by decide, by decide +kernel⟩ ⟨by decide, by decide +kernel⟩ (by decide)) (by decide) (by rw [GS_len]; omega)) ?_
              rintro _ v32 ⟨K30, rfl, M31, hK, C, P⟩
              refine ⟨_, rfl, ?_⟩
              have hlo_K30 : ∀ b, K30 b → w.heap.size ≤ b := fun b h => (hK b h).elim (hlo_K22 b) (fun h => Nat.le_trans BB.size h)
              have hkg2_K30 : ¬ K30 g2 := fun h => (hK _ h).elim hkg2_K22 (fun h => absurd Xg2.lt (Nat.not_lt.2 h))
              have hkg4_K30 : ¬ K30 g4 := fun h => (hK _ h).elim hkg4_K22 (fun h => absurd Xg4.lt (Nat.not_lt.2 h))
              have hkg6_K30 : ¬ K30 g6 := fun h => (hK _ h).elim hkg6_K22 (fun h => absurd Xg6.lt (Nat.not_lt.2 h))
              have hd_K30_K27 : ∀ b, K30 b → ¬ K27 b := fun b h k => (hK b h).elim (fun h => hd_K22_K27 b h k) (fun h => absurd (M28.lt k) (Nat.not_lt.2 h))
              have hd_K27_K30 : ∀ b, K27 b → ¬ K30 b := fun b h k => hd_K30_K27 b k h
              replace BB := belowK BB C hlo_K22
              replace Xg2 := Xg2.chg C hkg2_K22
              replace Xg4 := Xg4.chg C hkg4_K22
              replace Xg6 := Xg6.chg C hkg6_K22
              replace Nn25 := NatO.lp Nn25 P
              replace M28 := M28.off C P hd_K27_K22
              clear hlo_K22 hkg2_K22 hkg4_K22 hkg6_K22 hd_K22_K27 hd_K27_K22 M23 hK C P
              replace M31 := (show Lm _ _ _ (G1 n oB wD 1 1) from (show sCut (G1 n oB wA 0 0) 16 tk md = (G1 n oB wD 1 1) from cut_eq.trans (by rw [← hD, ← hW]; rfl)) ▸ M31)
              refine gl_nil ?_
              refine ge_then ?_
              refine gc_seq ?_
              refine gc_reg ?_
              refine t 88 (pg gL15) ?_
              refine t 89 (.int .u64 md) ?_
              refine t 90 (.int .u64 af) ?_
              refine tc 91 21 #[pg gL15, .int .u64 16, .int .u64 md, .int .u64 af] (lCut ⟨by decide, by decide⟩ hm ha M31 (L := 6400) (fa_fs (o2.up (by decide)) (w1.up (by decide)) ⟨by decide, by decide +kernel⟩ ⟨by decide, by decide +kernel⟩ (by decide)) (by decide) (by rw [GS_len]; omega)) ?_
              rintro _ v35 ⟨K33, rfl, M34, hK, C, P⟩
              refine ⟨_, rfl, ?_⟩
              have hlo_K33 : ∀ b, K33 b → w.heap.size ≤ b := fun b h => (hK b h).elim (hlo_K30 b) (fun h => Nat.le_trans BB.size h)
              have hkg2_K33 : ¬ K33 g2 := fun h => (hK _ h).elim hkg2_K30 (fun h => absurd Xg2.lt (Nat.not_lt.2 h))
              have hkg4_K33 : ¬ K33 g4 := fun h => (hK _ h).elim hkg4_K30 (fun h => absurd Xg4.lt (Nat.not_lt.2 h))
              have hkg6_K33 : ¬ K33 g6 := fun h => (hK _ h).elim hkg6_K30 (fun h => absurd Xg6.lt (Nat.not_lt.2 h))
              have hd_K33_K27 : ∀ b, K33 b → ¬ K27 b := fun b h k => (hK b h).elim (fun h => hd_K30_K27 b h k) (fun h => absurd (M28.lt k) (Nat.not_lt.2 h))
              have hd_K27_K33 : ∀ b, K27 b → ¬ K33 b := fun b h k => hd_K33_K27 b k h
              replace BB := belowK BB C hlo_K30
              replace Xg2 := Xg2.chg C hkg2_K30
              replace Xg4 := Xg4.chg C hkg4_K30
              replace Xg6 := Xg6.chg C hkg6_K30
              replace Nn25 := NatO.lp Nn25 P
              replace M28 := M28.off C P hd_K27_K30
              clear hlo_K30 hkg2_K30 hkg4_K30 hkg6_K30 hd_K30_K27 hd_K27_K30 M31 hK C P
              replace M34 := (show Lm _ _ _ (G1 n oB wE 2 2) from (show sCut (G1 n oB wD 1 1) 16 md af = (G1 n oB wE 2 2) from cut_eq.trans (by rw [← hE]; rfl)) ▸ M34)
              refine gl_nil ?_
              refine ge_then ?_
              refine gc_seq ?_
              refine gc_reg ?_
              refine t 92 (pg gL17) ?_
              refine t 93 (.int .u64 tk) ?_
              refine t 94 (.int .u64 af) ?_
              refine tc 95 21 #[pg gL17, .int .u64 16, .int .u64 tk, .int .u64 af] (lCut ⟨by decide, by decide⟩ ht ha M28 (L := 6400) (fa_fs (o3.up (by decide)) (w0.up (by decide)) ⟨by decide, by decide +kernel⟩ ⟨by decide, by decide +kernel⟩ (by decide)) (by decide) (by rw [GS_len]; omega)) ?_
              rintro _ v38 ⟨K36, rfl, M37, hK, C, P⟩
              refine ⟨_, rfl, ?_⟩
              have hlo_K36 : ∀ b, K36 b → w.heap.size ≤ b := fun b h => (hK b h).elim (hlo_K27 b) (fun h => Nat.le_trans BB.size h)
              have hkg2_K36 : ¬ K36 g2 := fun h => (hK _ h).elim hkg2_K27 (fun h => absurd Xg2.lt (Nat.not_lt.2 h))
              have hkg4_K36 : ¬ K36 g4 := fun h => (hK _ h).elim hkg4_K27 (fun h => absurd Xg4.lt (Nat.not_lt.2 h))
              have hkg6_K36 : ¬ K36 g6 := fun h => (hK _ h).elim hkg6_K27 (fun h => absurd Xg6.lt (Nat.not_lt.2 h))
              have hd_K36_K33 : ∀ b, K36 b → ¬ K33 b := fun b h k => (hK b h).elim (fun h => hd_K27_K33 b h k) (fun h => absurd (M34.lt k) (Nat.not_lt.2 h))
              have hd_K33_K36 : ∀ b, K33 b → ¬ K36 b := fun b h k => hd_K36_K33 b k h
              replace BB := belowK BB C hlo_K27
              replace Xg2 := Xg2.chg C hkg2_K27
              replace Xg4 := Xg4.chg C hkg4_K27
              replace Xg6 := Xg6.chg C hkg6_K27
              replace Nn25 := NatO.lp Nn25 P
              replace M34 := M34.off C P hd_K33_K27
              clear hlo_K27 hkg2_K27 hkg4_K27 hkg6_K27 hd_K27_K33 hd_K33_K27 M28 hK C P
              replace M37 := (show Lm _ _ _ (G1 n oC wG 1 1) from (show sCut (G1 n oC wA 0 0) 16 tk af = (G1 n oC wG 1 1) from cut_eq.trans (by rw [← hG, ← hW]; rfl)) ▸ M37)
              refine gl_nil ?_
              refine ge_then ?_
              refine gc_fr [(0, .slice ao n c), (14, .bool false), (16, pg gL15), (17, pg gL17)] (by kernel_rfl) ?_
              refine gc_seq ?_
              refine gc_seq ?_
              refine gc_reg ?_
              refine t 18 (.int .u64 0) ?_
              refine gl_nil ?_
              refine ge_then ?_
              refine gc_block ?_
              refine gc_loop (fun k => n - k) (fun (k : Nat) => [(0, .slice ao n c), (14, .bool false), (16, pg gL15), (17, pg gL17), (18, .int .u64 (k : Int))]) (fun k w' => k ≤ n ∧ Below w.heap.size w w' ∧ Blk w' g2 [.slice aq nq cq] 35 ∧ Blk w' g4 [.slice ar nr cr] 35 ∧ Blk w' g6 [.slice as_ ns_ cs_] 35 ∧ NatO w' an25 kn25 dn25 (r + zb) ∧ Lm w' gL15 K33 (G1 n oB wE 2 2) ∧ Lm w' gL17 K36 (G1 n oC wG 1 1)) 0 ⟨Nat.zero_le _, BB, Xg2, Xg4, Xg6, Nn25, M34, M37⟩ (by kernel_rfl) ?_
              clear BB Xg2 Xg4 Xg6 Nn25 M34 M37
              rintro k v39 ⟨hk, BB, Xg2, Xg4, Xg6, Nn25, M34, M37⟩
              refine gc_seq ?_
              refine gc_seq ?_
              refine gc_reg ?_
              refine t 96 (.int .u64 (k : Int)) ?_
              refine t 97 (.slice ao n c) ?_
              refine t 98 (.int .i64 ((n : Nat) : Int)) ?_
              refine tr 99 (.int .u64 ((n : Nat) : Int)) (run_iu (⟨by omega, by omega⟩)) ?_
              by_cases c40 : (k : Int) < ((n : Nat) : Int)
              · have hk_k : k < n := by omega
                refine tq 100 (.bool (decide ((k : Int) < ((n : Nat) : Int)))) (.bool true) (congrArg Value.bool (decide_eq_true c40)) ?_
                refine gl_nil ?_
                refine ge_then ?_
                refine gc_yes ?_
                refine gc_skip ?_
                refine ge_then ?_
                refine gc_seq ?_
                refine gc_block ?_
                refine gc_seq ?_
                refine gc_reg ?_
                refine t 103 (pg gL15) ?_
                refine t 104 (.int .u64 (k : Int)) ?_
                refine tc 105 25 #[pg gL15, .int .u64 16, .int .u64 (k : Int)] (rdl (lOwed ⟨by decide, by decide⟩ ⟨by omega, by omega⟩ M34 (L := 6400) (fa_fs (o2.up (by decide)) (w2.up (by decide)) ⟨by decide, by decide +kernel⟩ ⟨by decide, by decide +kernel⟩ (by decide)) (by decide) (by rw [GS_len]; omega)) (show sOwed (G1 n oB wE 2 2) 16 (k : Int) = oB k from owed16 hk_k)) ?_
                rintro _ v42 ⟨aq41, kq41, dq41, bq41, lq41, eq41, rfl, Qq41, B⟩
                refine ⟨_, rfl, ?_⟩
                replace BB := joinB BB B
                replace Xg2 := Xg2.keep B
                replace Xg4 := Xg4.keep B
                replace Xg6 := Xg6.keep B
                replace Nn25 := Nn25.keep B
                replace M34 := M34.keep B
                replace M37 := M37.keep B
                clear B
                refine t 106 (pg gL17) ?_
                refine t 107 (.int .u64 (k : Int)) ?_
                refine tc 108 25 #[pg gL17, .int .u64 16, .int .u64 (k : Int)] (rdl (lOwed ⟨by decide, by decide⟩ ⟨by omega, by omega⟩ M37 (L := 6400) (fa_fs (o3.up (by decide)) (w3.up (by decide)) ⟨by decide, by decide +kernel⟩ ⟨by decide, by decide +kernel⟩ (by decide)) (by decide) (by rw [GS_len]; omega)) (show sOwed (G1 n oC wG 1 1) 16 (k : Int) = oC k from owed16 hk_k)) ?_
                rintro _ v44 ⟨aq43, kq43, dq43, bq43, lq43, eq43, rfl, Qq43, B⟩
                refine ⟨_, rfl, ?_⟩
                replace BB := joinB BB B
                replace Xg2 := Xg2.keep B
                replace Xg4 := Xg4.keep B
                replace Xg6 := Xg6.keep B
                replace Nn25 := Nn25.keep B
                replace M34 := M34.keep B
                replace M37 := M37.keep B
                replace Qq41 := Qq41.keep B
                clear B
                refine tc 109 16 #[.agg #[.slice aq41 kq41 dq41, .slice bq41 lq41 eq41], .agg #[.slice aq43 kq43 dq43, .slice bq43 lq43 eq43]] (pSameL (B := 2000) Qq41 Qq43 (ft_up (o2 k hk_k).2 (by decide)) (ft_up (o3 k hk_k).2 (by decide)) (by decide) (t := true) (decide_eq_true (oe k))) ?_
                rintro _ v45 ⟨rfl, B⟩
                refine ⟨_, rfl, ?_⟩
                replace BB := joinB BB B
                replace Xg2 := Xg2.keep B
                replace Xg4 := Xg4.keep B
                replace Xg6 := Xg6.keep B
                replace Nn25 := Nn25.keep B
                replace M34 := M34.keep B
                replace M37 := M37.keep B
                replace Qq41 := Qq41.keep B
                replace Qq43 := Qq43.keep B
                clear B
                refine t 110 (.bool false) ?_
                refine t 111 (.bool false) ?_
                refine t 112 (pg gL15) ?_
                refine t 113 (.int .u64 (k : Int)) ?_
                refine tc 114 23 #[pg gL15, .int .u64 16, .int .u64 (k : Int)] (rdl (lStake ⟨by decide, by decide⟩ ⟨by omega, by omega⟩ M34 (L := 6400) (fa_fs (o2.up (by decide)) (w2.up (by decide)) ⟨by decide, by decide +kernel⟩ ⟨by decide, by decide +kernel⟩ (by decide)) (by decide) (by rw [GS_len]; omega)) (show sWorth (G1 n oB wE 2 2) 16 (k : Int) = wE k from worth16 hk_k)) ?_
                rintro _ v47 ⟨aq46, kq46, dq46, bq46, lq46, eq46, rfl, Qq46, B⟩
                refine ⟨_, rfl, ?_⟩
                replace BB := joinB BB B
                replace Xg2 := Xg2.keep B
                replace Xg4 := Xg4.keep B
                replace Xg6 := Xg6.keep B
                replace Nn25 := Nn25.keep B
                replace M34 := M34.keep B
                replace M37 := M37.keep B
                replace Qq41 := Qq41.keep B
                replace Qq43 := Qq43.keep B
                clear B
                refine t 115 (pg gL17) ?_
                refine t 116 (.int .u64 (k : Int)) ?_
                refine tc 117 23 #[pg gL17, .int .u64 16, .int .u64 (k : Int)] (rdl (lStake ⟨by decide, by decide⟩ ⟨by omega, by omega⟩ M37 (L := 6400) (fa_fs (o3.up (by decide)) (w3.up (by decide)) ⟨by decide, by decide +kernel⟩ ⟨by decide, by decide +kernel⟩ (by decide)) (by decide) (by rw [GS_len]; omega)) (show sWorth (G1 n oC wG 1 1) 16 (k : Int) = wG k from worth16 hk_k)) ?_
                rintro _ v49 ⟨aq48, kq48, dq48, bq48, lq48, eq48, rfl, Qq48, B⟩
                refine ⟨_, rfl, ?_⟩
                replace BB := joinB BB B
                replace Xg2 := Xg2.keep B
                replace Xg4 := Xg4.keep B
                replace Xg6 := Xg6.keep B
                replace Nn25 := Nn25.keep B
                replace M34 := M34.keep B
                replace M37 := M37.keep B
                replace Qq41 := Qq41.keep B
                replace Qq43 := Qq43.keep B
                replace Qq46 := Qq46.keep B
                clear B
                refine tc 118 16 #[.agg #[.slice aq46 kq46 dq46, .slice bq46 lq46 eq46], .agg #[.slice aq48 kq48 dq48, .slice bq48 lq48 eq48]] (pSameL (B := 2000) Qq46 Qq48 (ft_up (w2 k hk_k).2 (by decide)) (ft_up (w3 k hk_k).2 (by decide)) (by decide) (t := true) (decide_eq_true (we k hk_k))) ?_
                rintro _ v50 ⟨rfl, B⟩
                refine ⟨_, rfl, ?_⟩
                replace BB := joinB BB B
                replace Xg2 := Xg2.keep B
                replace Xg4 := Xg4.keep B
                replace Xg6 := Xg6.keep B
                replace Nn25 := Nn25.keep B
                replace M34 := M34.keep B
                replace M37 := M37.keep B
                replace Qq41 := Qq41.keep B
                replace Qq43 := Qq43.keep B
                replace Qq46 := Qq46.keep B
                replace Qq48 := Qq48.keep B
                clear B
                refine t 119 (.bool false) ?_
                refine t 120 (.bool false) ?_
                refine gl_nil ?_
                refine ge_then ?_
                refine gc_fr [(0, .slice ao n c), (14, .bool false), (16, pg gL15), (17, pg gL17), (18, .int .u64 (k : Int)), (96, .int .u64 (k : Int)), (97, .slice ao n c), (98, .int .i64 ((n : Nat) : Int)), (99, .int .u64 ((n : Nat) : Int)), (100, .bool true), (103, pg gL15), (104, .int .u64 (k : Int)), (105, .agg #[.slice aq41 kq41 dq41, .slice bq41 lq41 eq41]), (106, pg gL17), (107, .int .u64 (k : Int)), (108, .agg #[.slice aq43 kq43 dq43, .slice bq43 lq43 eq43]), (109, .bool true), (110, .bool false), (111, .bool false), (112, pg gL15), (113, .int .u64 (k : Int)), (114, .agg #[.slice aq46 kq46 dq46, .slice bq46 lq46 eq46]), (115, pg gL17), (116, .int .u64 (k : Int)), (117, .agg #[.slice aq48 kq48 dq48, .slice bq48 lq48 eq48]), (118, .bool true), (119, .bool false), (120, .bool false)] (by kernel_rfl) ?_
                refine gc_no ?_
                refine gc_skip ?_
                refine ge_bn ?_
                refine ge_then ?_
                refine gc_reg ?_
                refine t 101 (.int .u64 (k : Int)) ?_
                refine tq 102 (.int .u64 (IntKind.u64.wrap ((k : Int) + 1))) (.int .u64 ((k : Int) + 1)) (wu (by omega)) ?_
                refine t 18 (.int .u64 ((k : Int) + 1)) ?_
                refine gl_nil ?_
                exact ge_round (k + 1) (by omega) ⟨by omega, BB, Xg2, Xg4, Xg6, Nn25, M34, M37⟩ (by kernel_rfl)
              · skip
                refine tq 100 (.bool (decide ((k : Int) < ((n : Nat) : Int)))) (.bool false) (congrArg Value.bool (decide_eq_false c40)) ?_
                refine gl_nil ?_
                refine ge_then ?_
                refine gc_no ?_
                refine gc_exit ?_
                refine ge_tx ?_
                refine ge_tx ?_
                refine ge_bx ?_
                refine ge_then ?_
                refine gc_seq ?_
                refine gc_reg ?_
                refine t 122 (pg gL15) ?_
                refine tc 123 14 #[pg gL15, .int .u64 17, .int .u64 0] (setl (lSettle ⟨by decide, by decide⟩ ⟨by decide, by decide⟩ M34 (L := 6400) (fa_fs (o2.up (by decide)) (w2.up (by decide)) ⟨by decide, by decide +kernel⟩ ⟨by decide, by decide +kernel⟩ (by decide)) (by decide) (by rw [GS_len]; omega)) (s := (0 : Rat)) (p' := 1) (q' := 0) (by rw [told17]) (by rw [told17]; rfl) (by rw [told17])) ?_
                rintro _ v54 ⟨aq53, kq53, dq53, bq53, lq53, eq53, K51, rfl, Qq53, M52, hK, C, P⟩
                refine ⟨_, rfl, ?_⟩
                have hlo_K51 : ∀ b, K51 b → w.heap.size ≤ b := fun b h => (hK b h).elim (hlo_K33 b) (fun h => Nat.le_trans BB.size h)
                have hkg2_K51 : ¬ K51 g2 := fun h => (hK _ h).elim hkg2_K33 (fun h => absurd Xg2.lt (Nat.not_lt.2 h))
                have hkg4_K51 : ¬ K51 g4 := fun h => (hK _ h).elim hkg4_K33 (fun h => absurd Xg4.lt (Nat.not_lt.2 h))
                have hkg6_K51 : ¬ K51 g6 := fun h => (hK _ h).elim hkg6_K33 (fun h => absurd Xg6.lt (Nat.not_lt.2 h))
                have hd_K51_K36 : ∀ b, K51 b → ¬ K36 b := fun b h k => (hK b h).elim (fun h => hd_K33_K36 b h k) (fun h => absurd (M37.lt k) (Nat.not_lt.2 h))
                have hd_K36_K51 : ∀ b, K36 b → ¬ K51 b := fun b h k => hd_K51_K36 b k h
                replace BB := belowK BB C hlo_K33
                replace Xg2 := Xg2.chg C hkg2_K33
                replace Xg4 := Xg4.chg C hkg4_K33
                replace Xg6 := Xg6.chg C hkg6_K33
                replace Nn25 := NatO.lp Nn25 P
                replace M37 := M37.off C P hd_K36_K33
                clear hlo_K33 hkg2_K33 hkg4_K33 hkg6_K33 hd_K33_K36 hd_K36_K33 M34 hK C P
                replace M52 := (show Lm _ _ _ (G1 n oB wE 2 2) from (show sClear (sTick (G1 n oB wE 2 2) 17) 17 0 = (G1 n oB wE 2 2) from clear17) ▸ M52)
                refine t 121 (.tuple #[.agg #[.slice aq53 kq53 dq53, .slice bq53 lq53 eq53], .int .i64 1, .int .i64 0]) ?_
                refine t 124 (.agg #[.slice aq53 kq53 dq53, .slice bq53 lq53 eq53]) ?_
                refine t 125 (.int .i64 1) ?_
                refine t 126 (.int .i64 0) ?_
                have lXg2 := Xg2.lt
                have lXg4 := Xg4.lt
                have lXg6 := Xg6.lt
                refine ta 19 [.slice none 0 0, .slice none 0 0] 40 (pg) ?_
                intro v55 g56 Xg56 hg56 B
                have hkg56_K36 : ¬ K36 g56 := fun h => absurd (M37.lt h) (Nat.not_lt.2 hg56)
                have hkg56_K51 : ¬ K51 g56 := fun h => absurd (M52.lt h) (Nat.not_lt.2 hg56)
                have hbg56 := Nat.le_trans BB.size hg56
                replace BB := joinB BB B
                replace Xg2 := Xg2.keep B
                replace Xg4 := Xg4.keep B
                replace Xg6 := Xg6.keep B
                replace Nn25 := Nn25.keep B
                replace M37 := M37.keep B
                replace M52 := M52.keep B
                replace Qq53 := Qq53.keep B
                clear B
                refine ts Xg56 0 (.agg #[.slice aq53 kq53 dq53, .slice bq53 lq53 eq53]) [.slice aq53 kq53 dq53, .slice bq53 lq53 eq53] [.slice aq53 kq53 dq53, .slice bq53 lq53 eq53] ?_
                intro v57 Y C
                replace BB := belowC BB C (by omega)
                replace Xg2 := Xg2.chg C (show g2 ≠ g56 by omega)
                replace Xg4 := Xg4.chg C (show g4 ≠ g56 by omega)
                replace Xg6 := Xg6.chg C (show g6 ≠ g56 by omega)
                replace Nn25 := NatO.cg Nn25 Xg56 C (by rfl)
                replace M37 := M37.off C (Lp.cg Xg56 C (by rfl)) (fun b h e => hkg56_K36 (e ▸ h))
                replace M52 := M52.off C (Lp.cg Xg56 C (by rfl)) (fun b h e => hkg56_K51 (e ▸ h))
                replace Qq53 := Qq53.cg Xg56 C (by rfl)
                clear C Xg56
                have Xg56 := Y
                clear Y
                refine t 20 (.int .i64 1) ?_
                refine t 21 (.int .i64 0) ?_
                refine gl_nil ?_
                refine ge_then ?_
                refine gc_fr [(14, .bool false), (16, pg gL15), (17, pg gL17), (19, pg g56), (20, .int .i64 1), (21, .int .i64 0)] (by kernel_rfl) ?_
                refine gc_seq ?_
                refine gc_reg ?_
                refine tlr 127 [.slice aq53 kq53 dq53, .slice bq53 lq53 eq53] Xg56 0 ?_
                refine tc 128 40 #[.agg #[.slice aq53 kq53 dq53, .slice bq53 lq53 eq53]] (pZeroL (B := 2000) (Qq53.v (by decide +kernel)) (by decide) (t := true) (decide_eq_true (rfl))) ?_
                rintro _ v58 ⟨rfl, B⟩
                refine ⟨_, rfl, ?_⟩
                replace BB := joinB BB B
                replace Xg2 := Xg2.keep B
                replace Xg4 := Xg4.keep B
                replace Xg6 := Xg6.keep B
                replace Nn25 := Nn25.keep B
                replace M37 := M37.keep B
                replace M52 := M52.keep B
                replace Qq53 := Qq53.keep B
                replace Xg56 := Xg56.keep B
                clear B
                refine t 129 (.bool true) ?_
                refine t 130 (.int .i64 1) ?_
                refine t 131 (.bool true) ?_
                refine t 132 (.bool true) ?_
                refine t 133 (.bool true) ?_
                refine t 134 (.int .i64 0) ?_
                refine t 135 (.bool true) ?_
                refine t 136 (.bool true) ?_
                refine t 137 (.bool true) ?_
                refine t 138 (pg gL15) ?_
                refine tc 139 29 #[pg gL15, .int .u64 16] (rdl (lOwes ⟨by decide, by decide⟩ M52 (L := 6400) (fa_fs (o2.up (by decide)) (w2.up (by decide)) ⟨by decide, by decide +kernel⟩ ⟨by decide, by decide +kernel⟩ (by decide)) (by decide) (by rw [GS_len]; omega)) (show sOwes (G1 n oB wE 2 2) 16 = rs oB n from owes16)) ?_
                rintro _ v60 ⟨aq59, kq59, dq59, bq59, lq59, eq59, rfl, Qq59, B⟩
                refine ⟨_, rfl, ?_⟩
                replace BB := joinB BB B
                replace Xg2 := Xg2.keep B
                replace Xg4 := Xg4.keep B
                replace Xg6 := Xg6.keep B
                replace Nn25 := Nn25.keep B
                replace M37 := M37.keep B
                replace M52 := M52.keep B
                replace Qq53 := Qq53.keep B
                replace Xg56 := Xg56.keep B
                clear B
                refine t 140 (pg gL17) ?_
                refine tc 141 29 #[pg gL17, .int .u64 16] (rdl (lOwes ⟨by decide, by decide⟩ M37 (L := 6400) (fa_fs (o3.up (by decide)) (w3.up (by decide)) ⟨by decide, by decide +kernel⟩ ⟨by decide, by decide +kernel⟩ (by decide)) (by decide) (by rw [GS_len]; omega)) (show sOwes (G1 n oC wG 1 1) 16 = rs oC n from owes16)) ?_
                rintro _ v62 ⟨aq61, kq61, dq61, bq61, lq61, eq61, rfl, Qq61, B⟩
                refine ⟨_, rfl, ?_⟩
                replace BB := joinB BB B
                replace Xg2 := Xg2.keep B
                replace Xg4 := Xg4.keep B
                replace Xg6 := Xg6.keep B
                replace Nn25 := Nn25.keep B
                replace M37 := M37.keep B
                replace M52 := M52.keep B
                replace Qq53 := Qq53.keep B
                replace Xg56 := Xg56.keep B
                replace Qq59 := Qq59.keep B
                clear B
                refine tc 142 16 #[.agg #[.slice aq59 kq59 dq59, .slice bq59 lq59 eq59], .agg #[.slice aq61 kq61 dq61, .slice bq61 lq61 eq61]] (pSameL (B := 2000) Qq59 Qq61 (ft_up (rs_ft o2) (by omega)) (ft_up (rs_ft o3) (by omega)) (by decide) (t := true) (decide_eq_true (rs_eq fun i _ => oe i))) ?_
                rintro _ v63 ⟨rfl, B⟩
                refine ⟨_, rfl, ?_⟩
                replace BB := joinB BB B
                replace Xg2 := Xg2.keep B
                replace Xg4 := Xg4.keep B
                replace Xg6 := Xg6.keep B
                replace Nn25 := Nn25.keep B
                replace M37 := M37.keep B
                replace M52 := M52.keep B
                replace Qq53 := Qq53.keep B
                replace Xg56 := Xg56.keep B
                replace Qq59 := Qq59.keep B
                replace Qq61 := Qq61.keep B
                clear B
                refine t 143 (.bool true) ?_
                refine t 144 (.bool true) ?_
                refine t 145 (pg gL15) ?_
                refine tc 146 27 #[pg gL15, .int .u64 17] (rdl (lStakes ⟨by decide, by decide⟩ M52 (L := 6400) (fa_fs (o2.up (by decide)) (w2.up (by decide)) ⟨by decide, by decide +kernel⟩ ⟨by decide, by decide +kernel⟩ (by decide)) (by decide) (by rw [GS_len]; omega)) (show sStakes (G1 n oB wE 2 2) 17 = (1 : Rat) from stakes17)) ?_
                rintro _ v65 ⟨aq64, kq64, dq64, bq64, lq64, eq64, rfl, Qq64, B⟩
                refine ⟨_, rfl, ?_⟩
                replace BB := joinB BB B
                replace Xg2 := Xg2.keep B
                replace Xg4 := Xg4.keep B
                replace Xg6 := Xg6.keep B
                replace Nn25 := Nn25.keep B
                replace M37 := M37.keep B
                replace M52 := M52.keep B
                replace Qq53 := Qq53.keep B
                replace Xg56 := Xg56.keep B
                replace Qq59 := Qq59.keep B
                replace Qq61 := Qq61.keep B
                clear B
                refine tc 147 42 #[.int .u64 1, .int .u64 1] (frac_any (n := 1) (d := 1) ⟨by decide, by decide⟩ ⟨by decide, by decide⟩ (by decide)) ?_
                rintro _ v67 ⟨aq66, kq66, dq66, bq66, lq66, eq66, rfl, Qq66, B⟩
                refine ⟨_, rfl, ?_⟩
                replace BB := joinB BB B
                replace Xg2 := Xg2.keep B
                replace Xg4 := Xg4.keep B
                replace Xg6 := Xg6.keep B
                replace Nn25 := Nn25.keep B
                replace M37 := M37.keep B
                replace M52 := M52.keep B
                replace Qq53 := Qq53.keep B
                replace Xg56 := Xg56.keep B
                replace Qq59 := Qq59.keep B
                replace Qq61 := Qq61.keep B
                replace Qq64 := Qq64.keep B
                clear B
                refine tc 148 16 #[.agg #[.slice aq64 kq64 dq64, .slice bq64 lq64 eq64], .agg #[.slice aq66 kq66 dq66, .slice bq66 lq66 eq66]] (pSameL (B := 2000) Qq64 Qq66 (by decide +kernel) (by decide +kernel) (by decide) (t := true) (decide_eq_true (by decide +kernel))) ?_
                rintro _ v68 ⟨rfl, B⟩
                refine ⟨_, rfl, ?_⟩
                replace BB := joinB BB B
                replace Xg2 := Xg2.keep B
                replace Xg4 := Xg4.keep B
                replace Xg6 := Xg6.keep B
                replace Nn25 := Nn25.keep B
                replace M37 := M37.keep B
                replace M52 := M52.keep B
                replace Qq53 := Qq53.keep B
                replace Xg56 := Xg56.keep B
                replace Qq59 := Qq59.keep B
                replace Qq61 := Qq61.keep B
                replace Qq64 := Qq64.keep B
                replace Qq66 := Qq66.keep B
                clear B
                refine t 149 (.bool true) ?_
                refine t 14 (.bool true) ?_
                refine gl_nil ?_
                refine ge_then ?_
                refine gc_fr [(14, .bool true)] (by kernel_rfl) ?_
                refine gc_ret ?_
                refine ge_ret (.bool true) (rs1 14 (by kernel_rfl) (by kernel_rfl)) ?_
                exact ⟨rfl, BB⟩
theorem walk (a0 : Option Addr) (len0 cap0 : Nat) (a1 : Option Addr) (len1 cap1 : Nat) (z1 : List Int) (a2 : Option Addr) (len2 cap2 : Nat) (z2 : List Int) (a3 : Option Addr) (len3 cap3 : Nat) (z3 : List Int) (x4 : Int) (x5 : Int) (x6 : Int) (w : World) (w0 : DecsIn w a0 len0 cap0) (w1 : IsRow w a1 len1 cap1 z1) (w2 : IsRow w a2 len2 cap2 z2) (w3 : IsRow w a3 len3 cap3 z3) (wx4 : (Lit.int .u64 x4).wf = true) (wx5 : (Lit.int .u64 x5).wf = true) (wx6 : (Lit.int .u64 x6).wf = true) : Calls Tryz.prog 7 #[.slice a0 len0 cap0, .agg #[.slice a1 len1 cap1], .agg #[.slice a2 len2 cap2], .agg #[.slice a3 len3 cap3], .int .u64 x4, .int .u64 x5, .int .u64 x6] w fun e w' => e = .returned (.bool true) ∧ Below w.heap.size w w' := by
  obtain ⟨pb0, po0, aa0, ns0, cc0, xs0, DA0⟩ := w0.open
  obtain ⟨g1, o1, l1, hl1, hc1, hm1, W1, h1⟩ := w1.open
  have N1 : NatA w a1 len1 cap1 (val l1) := ⟨g1, o1, l1, hl1, hc1, W1, h1, rfl⟩
  obtain ⟨g2, o2, l2, hl2, hc2, hm2, W2, h2⟩ := w2.open
  have N2 : NatA w a2 len2 cap2 (val l2) := ⟨g2, o2, l2, hl2, hc2, W2, h2, rfl⟩
  obtain ⟨g3, o3, l3, hl3, hc3, hm3, W3, h3⟩ := w3.open
  have N3 : NatA w a3 len3 cap3 (val l3) := ⟨g3, o3, l3, hl3, hc3, W3, h3, rfl⟩
  have hw4 := bounds_u64 wx4
  have hx4 : 0 ≤ x4 ∧ x4 < 18446744073709551616 := by omega
  have hw5 := bounds_u64 wx5
  have hx5 : 0 ≤ x5 ∧ x5 < 18446744073709551616 := by omega
  have hw6 := bounds_u64 wx6
  have hx6 : 0 ≤ x6 ∧ x6 < 18446744073709551616 := by omega
  exact adds_any DA0 N1 N2 N3 hx4 hx5 hx6
end ledgerAdds
end Go.Proofs.YtlbndpkdkdgggaaGreatDoor
