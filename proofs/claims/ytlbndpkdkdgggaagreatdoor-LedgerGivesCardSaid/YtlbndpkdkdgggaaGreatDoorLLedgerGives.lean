/- gleanlaw24.LedgerGives returns true for every input. (tools/gen_lgg.py) -/
import Derived.Test.YtlbndpkdkdgggaaGreatDoorJrr
namespace Go.Proofs.YtlbndpkdkdgggaaGreatDoor
namespace ledgerGives
open Go.RowKit Go.Lib Lim Pg Gl Lg
theorem heldW {fn : FuncId} {vs : Array Value} {w : World} {n : Nat} {wx wy : Nat → Rat} (e : wx = wy) (h : Calls Tryz.prog fn vs w fun e w' => ∃ g K, e = .returned (pg g) ∧ Lm w' g K (GS n (FA zF wx 0 0) (1, 0, 0, 0)) ∧ (∀ b, K b → w.heap.size ≤ b) ∧ Below w.heap.size w w') : Calls Tryz.prog fn vs w fun e w' => ∃ g K, e = .returned (pg g) ∧ Lm w' g K (G1 n zF wy 0 0) ∧ (∀ b, K b → w.heap.size ≤ b) ∧ Below w.heap.size w w' := e ▸ h
theorem rdlt {fn : FuncId} {vs : Array Value} {w : World} {r s : Rat} (h : Calls Tryz.prog fn vs w fun e w' => ∃ a n c b m d_, e = .returned (.tuple #[.agg #[.slice a n c, .slice b m d_], .int .i64 0]) ∧ RQ w' a n c b m d_ r ∧ Below w.heap.size w w') (e : r = s) : Calls Tryz.prog fn vs w fun e w' => ∃ a n c b m d_, e = .returned (.tuple #[.agg #[.slice a n c, .slice b m d_], .int .i64 0]) ∧ RQ w' a n c b m d_ s ∧ Below w.heap.size w w' := e ▸ h
theorem int_ft {x : Int} (h : 0 ≤ x ∧ x < 18446744073709551616) : 0 ≤ (x : Rat) ∧ Ft (x : Rat) 64 := by
  have e : (x : Rat) = (x : Rat) / ((1 : Int) : Rat) := by rw [show ((1 : Int) : Rat) = 1 by decide +kernel]; grind
  rw [e]
  exact ⟨fr_nn h.1 (by decide), ft_of (by decide) h.1 rfl (by omega) (by decide)⟩
theorem div_ft {a b : Rat} {L M : Nat} (h : 0 ≤ a ∧ Ft a L) (k : 0 ≤ b ∧ Ft b M) (hb : b ≠ 0) : 0 ≤ a / b ∧ Ft (a / b) (L + M) := by
  obtain ⟨p, q, a1, a2, a3, a4, a5⟩ := ft_rep h.2 h.1
  obtain ⟨p', q', b1, b2, b3, b4, b5⟩ := ft_rep k.2 k.1
  have hp : 0 < p' := by
    rcases Int.lt_or_eq_of_le b1 with e | e
    · exact e
    · exact absurd (by rw [b3, ← e, show ((0 : Int) : Rat) = 0 by decide +kernel, Rat.div_def, Rat.zero_mul]) hb
  have e : a / b = ((p * q' : Int) : Rat) / ((q * p' : Int) : Rat) := by rw [a3, b3, fr_div a2 b2 hp]
  rw [e]
  exact ⟨fr_nn (Int.mul_nonneg a1 (by omega)) (Int.mul_pos a2 hp), ft_of (Int.mul_pos a2 hp) (Int.mul_nonneg a1 (by omega)) rfl (pw_lt a1 a4 b5) (pw_lt (by omega) a5 b4)⟩
theorem give1 {w : Nat → Rat} {r t : Int} (h : ¬ t = 0) {i : Nat} : gF zF w r t i = ((r : Rat) / ((U36 : Int) : Rat)) / ((t : Int) : Rat) * w i := by
  unfold gF zF qv
  rw [if_neg h]
  have h1 : ((U36 : Int) : Rat) ≠ 0 := cne (by decide)
  have h2 : (t : Rat) ≠ 0 := fun k => h (Rat.intCast_eq_zero_iff.1 k)
  rw [show ((1 : Int) : Rat) = 1 by decide +kernel]
  grind
theorem cut1 {w : Nat → Rat} {b a : Int} (h : ¬ b = 0) {i : Nat} : cF w b a i = w i * ((a : Rat) / (b : Rat)) := by
  unfold cF qv
  rw [if_neg h]
set_option maxHeartbeats 4000000 in
set_option maxRecDepth 100000 in
theorem gives_any {w : World} {ao : Option Addr} {n c pb po : Nat} {aa : Nat → Option Addr} {ns cc : Nat → Nat} {xs : Nat → Int} {aq ar : Option Addr} {nq cq nr cr : Nat} {y r tk af : Int} (DA : DecsA w ao n pb po aa ns cc xs) (Ny : NatA w aq nq cq y) (Nr : NatA w ar nr cr r) (ht : 0 ≤ tk ∧ tk < 18446744073709551616) (ha : 0 ≤ af ∧ af < 18446744073709551616) :
    Calls Tryz.prog 5 #[.slice ao n c, .agg #[.slice aq nq cq], .agg #[.slice ar nr cr], .int .u64 tk, .int .u64 af] w fun e w' => e = .returned (.bool true) ∧ Below w.heap.size w w' := by
  have hfew := DA.few.1
  obtain ⟨rd, hrd⟩ : ∃ rd, ((r : Int) : Rat) / ((U36 : Int) : Rat) = rd := ⟨_, rfl⟩
  obtain ⟨tQ, htr⟩ : ∃ tQ, ((tk : Int) : Rat) = tQ := ⟨_, rfl⟩
  obtain ⟨sh, hsh0⟩ : ∃ sh, rd / tQ = sh := ⟨_, rfl⟩
  obtain ⟨fr, hfr⟩ : ∃ fr, ((af : Int) : Rat) / ((tk : Int) : Rat) = fr := ⟨_, rfl⟩
  have BB := Below.refl w.heap.size w
  refine gc_enter (n := 164) Tryz.func5 rfl (by kernel_rfl) (by kernel_rfl) ?_
  refine gc_seq ?_
  refine gc_reg ?_
  refine ta 6 [.slice aq nq cq] 35 (pg) ?_
  intro v1 g2 Xg2 hg2 B
  have hbg2 := Nat.le_trans BB.size hg2
  replace BB := joinB BB B
  clear B
  have lXg2 := Xg2.lt
  refine ta 7 [.slice ar nr cr] 35 (pg) ?_
  intro v3 g4 Xg4 hg4 B
  have hbg4 := Nat.le_trans BB.size hg4
  replace BB := joinB BB B
  replace Xg2 := Xg2.keep B
  clear B
  refine t 10 (.bool false) ?_
  refine gl_nil ?_
  refine ge_then ?_
  refine gc_seq ?_
  refine gc_seq ?_
  refine gc_reg ?_
  refine tc 21 9 #[] (known24) ?_
  rintro _ v5 ⟨rfl, B⟩
  refine ⟨_, rfl, ?_⟩
  replace BB := joinB BB B
  replace Xg2 := Xg2.keep B
  replace Xg4 := Xg4.keep B
  clear B
  refine t 22 (.bool false) ?_
  refine gl_nil ?_
  refine ge_then ?_
  refine gc_no ?_
  refine gc_skip ?_
  refine ge_then ?_
  refine gc_seq ?_
  refine gc_seq ?_
  refine gc_reg ?_
  refine t 23 (.slice ao n c) ?_
  refine t 24 (.int .i64 ((n : Nat) : Int)) ?_
  by_cases c6 : (12 : Int) < ((n : Nat) : Int)
  · refine tq 25 (.bool (decide ((12 : Int) < ((n : Nat) : Int)))) (.bool true) (congrArg Value.bool (decide_eq_true c6)) ?_
    refine t 26 (.bool true) ?_
    refine tn 27 ?_
    refine tn 28 ?_
    refine tn 29 ?_
    refine tn 30 ?_
    refine t 31 (.bool true) ?_
    refine t 32 (.bool true) ?_
    refine tn 33 ?_
    refine tn 34 ?_
    refine tn 35 ?_
    refine tn 36 ?_
    refine t 37 (.bool true) ?_
    refine t 38 (.bool true) ?_
    refine tn 39 ?_
    refine tn 40 ?_
    refine t 41 (.bool true) ?_
    refine t 42 (.bool true) ?_
    refine tn 43 ?_
    refine tn 44 ?_
    refine t 45 (.bool true) ?_
    refine gl_nil ?_
    refine ge_then ?_
    refine gc_fr [(0, .slice ao n c), (3, .int .u64 tk), (4, .int .u64 af), (6, pg g2), (7, pg g4), (10, .bool false), (45, .bool true)] (by kernel_rfl) ?_
    refine gc_yes ?_
    refine gc_seq ?_
    refine gc_reg ?_
    refine t 10 (.bool true) ?_
    refine gl_nil ?_
    refine ge_then ?_
    refine gc_ret ?_
    refine ge_tr ?_
    refine ge_ret (.bool true) (rs1 10 (by kernel_rfl) (by kernel_rfl)) ?_
    exact ⟨rfl, BB⟩
  · refine tq 25 (.bool (decide ((12 : Int) < ((n : Nat) : Int)))) (.bool false) (congrArg Value.bool (decide_eq_false c6)) ?_
    refine t 26 (.bool false) ?_
    refine t 27 (pg g2) ?_
    refine tl 28 (.slice aq nq cq) Xg2 0 ?_
    refine t 29 (.int .i64 ((nq : Nat) : Int)) ?_
    by_cases c7 : (4 : Int) < ((nq : Nat) : Int)
    · refine tq 30 (.bool (decide ((4 : Int) < ((nq : Nat) : Int)))) (.bool true) (congrArg Value.bool (decide_eq_true c7)) ?_
      refine t 31 (.bool true) ?_
      refine t 32 (.bool true) ?_
      refine tn 33 ?_
      refine tn 34 ?_
      refine tn 35 ?_
      refine tn 36 ?_
      refine t 37 (.bool true) ?_
      refine t 38 (.bool true) ?_
      refine tn 39 ?_
      refine tn 40 ?_
      refine t 41 (.bool true) ?_
      refine t 42 (.bool true) ?_
      refine tn 43 ?_
      refine tn 44 ?_
      refine t 45 (.bool true) ?_
      refine gl_nil ?_
      refine ge_then ?_
      refine gc_fr [(0, .slice ao n c), (3, .int .u64 tk), (4, .int .u64 af), (6, pg g2), (7, pg g4), (10, .bool false), (45, .bool true)] (by kernel_rfl) ?_
      refine gc_yes ?_
      refine gc_seq ?_
      refine gc_reg ?_
      refine t 10 (.bool true) ?_
      refine gl_nil ?_
      refine ge_then ?_
      refine gc_ret ?_
      refine ge_tr ?_
      refine ge_ret (.bool true) (rs1 10 (by kernel_rfl) (by kernel_rfl)) ?_
      exact ⟨rfl, BB⟩
    · refine tq 30 (.bool (decide ((4 : Int) < ((nq : Nat) : Int)))) (.bool false) (congrArg Value.bool (decide_eq_false c7)) ?_
      refine t 31 (.bool false) ?_
      refine t 32 (.bool false) ?_
      refine t 33 (pg g4) ?_
      refine tl 34 (.slice ar nr cr) Xg4 0 ?_
      refine t 35 (.int .i64 ((nr : Nat) : Int)) ?_
      by_cases c8 : (4 : Int) < ((nr : Nat) : Int)
      · refine tq 36 (.bool (decide ((4 : Int) < ((nr : Nat) : Int)))) (.bool true) (congrArg Value.bool (decide_eq_true c8)) ?_
        refine t 37 (.bool true) ?_
        refine t 38 (.bool true) ?_
        refine tn 39 ?_
        refine tn 40 ?_
        refine t 41 (.bool true) ?_
        refine t 42 (.bool true) ?_
        refine tn 43 ?_
        refine tn 44 ?_
        refine t 45 (.bool true) ?_
        refine gl_nil ?_
        refine ge_then ?_
        refine gc_fr [(0, .slice ao n c), (3, .int .u64 tk), (4, .int .u64 af), (6, pg g2), (7, pg g4), (10, .bool false), (45, .bool true)] (by kernel_rfl) ?_
        refine gc_yes ?_
        refine gc_seq ?_
        refine gc_reg ?_
        refine t 10 (.bool true) ?_
        refine gl_nil ?_
        refine ge_then ?_
        refine gc_ret ?_
        refine ge_tr ?_
        refine ge_ret (.bool true) (rs1 10 (by kernel_rfl) (by kernel_rfl)) ?_
        exact ⟨rfl, BB⟩
      · refine tq 36 (.bool (decide ((4 : Int) < ((nr : Nat) : Int)))) (.bool false) (congrArg Value.bool (decide_eq_false c8)) ?_
        refine t 37 (.bool false) ?_
        refine t 38 (.bool false) ?_
        refine t 39 (.int .u64 tk) ?_
        by_cases htz : (tk : Int) = 0
        · refine tq 40 (.bool ((tk : Int) == 0)) (.bool true) (congrArg Value.bool (beq_iff_eq.2 htz)) ?_
          refine t 41 (.bool true) ?_
          refine t 42 (.bool true) ?_
          refine tn 43 ?_
          refine tn 44 ?_
          refine t 45 (.bool true) ?_
          refine gl_nil ?_
          refine ge_then ?_
          refine gc_fr [(0, .slice ao n c), (3, .int .u64 tk), (4, .int .u64 af), (6, pg g2), (7, pg g4), (10, .bool false), (45, .bool true)] (by kernel_rfl) ?_
          refine gc_yes ?_
          refine gc_seq ?_
          refine gc_reg ?_
          refine t 10 (.bool true) ?_
          refine gl_nil ?_
          refine ge_then ?_
          refine gc_ret ?_
          refine ge_tr ?_
          refine ge_ret (.bool true) (rs1 10 (by kernel_rfl) (by kernel_rfl)) ?_
          exact ⟨rfl, BB⟩
        · refine tq 40 (.bool ((tk : Int) == 0)) (.bool false) (congrArg Value.bool (beq_eq_false_iff_ne.2 htz)) ?_
          refine t 41 (.bool false) ?_
          refine t 42 (.bool false) ?_
          refine tlr 43 [.slice aq nq cq] Xg2 0 ?_
          by_cases hyz : y = 0
          · refine tc 44 33 #[.agg #[.slice aq nq cq]] (zeroD (Ny.keep BB) (by omega) true (decide_eq_true hyz)) ?_
            rintro _ v9 ⟨rfl, B⟩
            refine ⟨_, rfl, ?_⟩
            replace BB := joinB BB B
            replace Xg2 := Xg2.keep B
            replace Xg4 := Xg4.keep B
            clear B
            refine t 45 (.bool true) ?_
            refine gl_nil ?_
            refine ge_then ?_
            refine gc_fr [(0, .slice ao n c), (3, .int .u64 tk), (4, .int .u64 af), (6, pg g2), (7, pg g4), (10, .bool false), (45, .bool true)] (by kernel_rfl) ?_
            refine gc_yes ?_
            refine gc_seq ?_
            refine gc_reg ?_
            refine t 10 (.bool true) ?_
            refine gl_nil ?_
            refine ge_then ?_
            refine gc_ret ?_
            refine ge_tr ?_
            refine ge_ret (.bool true) (rs1 10 (by kernel_rfl) (by kernel_rfl)) ?_
            exact ⟨rfl, BB⟩
          · refine tc 44 33 #[.agg #[.slice aq nq cq]] (zeroD (Ny.keep BB) (by omega) false (decide_eq_false hyz)) ?_
            rintro _ v10 ⟨rfl, B⟩
            refine ⟨_, rfl, ?_⟩
            replace BB := joinB BB B
            replace Xg2 := Xg2.keep B
            replace Xg4 := Xg4.keep B
            clear B
            refine t 45 (.bool false) ?_
            refine gl_nil ?_
            refine ge_then ?_
            refine gc_fr [(0, .slice ao n c), (3, .int .u64 tk), (4, .int .u64 af), (6, pg g2), (7, pg g4), (10, .bool false), (45, .bool false)] (by kernel_rfl) ?_
            refine gc_no ?_
            refine gc_skip ?_
            refine ge_then ?_
            refine gc_seq ?_
            refine gc_seq ?_
            refine gc_reg ?_
            refine t 11 (.int .i64 0) ?_
            refine gl_nil ?_
            refine ge_then ?_
            refine gc_block ?_
            refine gc_loop (fun i => n - i) (fun (i : Nat) => [(0, .slice ao n c), (3, .int .u64 tk), (4, .int .u64 af), (6, pg g2), (7, pg g4), (10, .bool false), (11, .int .i64 (i : Int))]) (fun i w' => i ≤ n ∧ (∀ j, j < i → ns j ≤ 4) ∧ Below w.heap.size w w' ∧ Blk w' g2 [.slice aq nq cq] 35 ∧ Blk w' g4 [.slice ar nr cr] 35) 0 ⟨Nat.zero_le _, fun j hj => absurd hj (Nat.not_lt_zero _), BB, Xg2, Xg4⟩ (by kernel_rfl) ?_
            clear BB Xg2 Xg4
            rintro i v11 ⟨hi, hx_i, BB, Xg2, Xg4⟩
            refine gc_seq ?_
            refine gc_seq ?_
            refine gc_reg ?_
            refine t 46 (.int .i64 (i : Int)) ?_
            refine t 47 (.slice ao n c) ?_
            refine t 48 (.int .i64 ((n : Nat) : Int)) ?_
            by_cases c12 : (i : Int) < ((n : Nat) : Int)
            · have hk_i : i < n := by omega
              refine tq 49 (.bool (decide ((i : Int) < ((n : Nat) : Int)))) (.bool true) (congrArg Value.bool (decide_eq_true c12)) ?_
              refine gl_nil ?_
              refine ge_then ?_
              refine gc_yes ?_
              refine gc_skip ?_
              refine ge_then ?_
              refine gc_seq ?_
              refine gc_block ?_
              refine gc_seq ?_
              refine gc_reg ?_
              refine t 52 (.slice ao n c) ?_
              refine t 53 (.int .i64 (i : Int)) ?_
              refine tr 54 (pq pb (po + i)) (congr_v (by rw [Nat.mul_one]) (run_ixa 1 pb po n c i hk_i DA.ptr)) ?_
              refine t 55 (pq pb (po + i)) ?_
              refine tr 56 (.slice (aa i) (ns i) (cc i)) (run_ldn (cellB BB (DA.cell i hk_i))) ?_
              refine t 57 (.int .i64 ((ns i : Nat) : Int)) ?_
              by_cases c13 : (4 : Int) < ((ns i : Nat) : Int)
              · refine tq 58 (.bool (decide ((4 : Int) < ((ns i : Nat) : Int)))) (.bool true) (congrArg Value.bool (decide_eq_true c13)) ?_
                refine gl_nil ?_
                refine ge_then ?_
                refine gc_yes ?_
                refine gc_seq ?_
                refine gc_reg ?_
                refine t 10 (.bool true) ?_
                refine gl_nil ?_
                refine ge_then ?_
                refine gc_fr [(0, .slice ao n c), (3, .int .u64 tk), (4, .int .u64 af), (6, pg g2), (7, pg g4), (10, .bool true), (11, .int .i64 (i : Int)), (46, .int .i64 (i : Int)), (47, .slice ao n c), (48, .int .i64 ((n : Nat) : Int)), (49, .bool true), (52, .slice ao n c), (53, .int .i64 (i : Int)), (54, pq pb (po + i)), (55, pq pb (po + i)), (56, .slice (aa i) (ns i) (cc i)), (57, .int .i64 ((ns i : Nat) : Int)), (58, .bool true)] (by kernel_rfl) ?_
                refine gc_ret ?_
                refine ge_br ?_
                refine ge_tr ?_
                refine ge_tr ?_
                refine ge_br ?_
                refine ge_tr ?_
                refine ge_ret (.bool true) (rs1 10 (by kernel_rfl) (by kernel_rfl)) ?_
                exact ⟨rfl, BB⟩
              · refine tq 58 (.bool (decide ((4 : Int) < ((ns i : Nat) : Int)))) (.bool false) (congrArg Value.bool (decide_eq_false c13)) ?_
                refine gl_nil ?_
                refine ge_then ?_
                refine gc_no ?_
                refine gc_skip ?_
                refine ge_bn ?_
                refine ge_then ?_
                refine gc_reg ?_
                refine t 50 (.int .i64 (i : Int)) ?_
                refine tq 51 (.int .i64 (IntKind.i64.wrap ((i : Int) + 1))) (.int .i64 ((i : Int) + 1)) (wi (by omega)) ?_
                refine t 11 (.int .i64 ((i : Int) + 1)) ?_
                refine gl_nil ?_
                exact ge_round (i + 1) (by omega) ⟨by omega, fun j hj => (Nat.lt_or_ge j i).elim (hx_i j) (fun h => (show i = j by omega) ▸ (show ns i ≤ 4 by omega)), BB, Xg2, Xg4⟩ (by kernel_rfl)
            · have h4 : ∀ j, j < n → ns j ≤ 4 := fun j hj => hx_i j (by omega)
              have hn : n ≤ 12 := by omega
              have hxF : ∀ j, j < n → 0 ≤ xs j ∧ xs j < 2 ^ (64 * 4) := fun j hj => ⟨(DA.nat j hj).nonneg, nat_lt (DA.nat j hj) (h4 j hj)⟩
              have hyF : 0 ≤ y ∧ y < 2 ^ (64 * 4) := ⟨Ny.nonneg, nat_lt Ny (by omega)⟩
              have hrF : 0 ≤ r ∧ r < 2 ^ (64 * 4) := ⟨Nr.nonneg, nat_lt Nr (by omega)⟩
              have e9 : (2 : Int) ^ (64 * 4) < 2 ^ (64 * 9) := by decide +kernel
              have w0 := w_bd (n := n) hxF hyF ht
              have o1 := g_bd (z_bd (n := n)) w0 (r := r) (by omega) ht
              have w1 := c_bd w0 ha ht
              generalize hA : gF zF (wF xs y tk) r tk = oA at o1
              generalize hD : cF (wF xs y tk) tk af = wD at w1
              have rdF := d_ft (r := r) (by omega)
              rw [hrd] at rdF
              have trF : 0 ≤ tQ ∧ Ft tQ 64 := by
                rw [← htr]; exact int_ft ht
              have trz : tQ ≠ 0 := by
                rw [← htr]; exact fun k => htz (Rat.intCast_eq_zero_iff.1 k)
              have hsh : ((r : Rat) / ((U36 : Int) : Rat)) / ((tk : Int) : Rat) = sh := by rw [hrd, htr]; exact hsh0
              have shF := div_ft rdF trF trz
              rw [hsh0] at shF
              have frF : 0 ≤ fr ∧ Ft fr 64 := by
                rw [← hfr]; exact ⟨fr_nn ha.1 (by omega), ft_of (by omega) ha.1 rfl (by omega) (by omega)⟩
              have oe : ∀ i, oA i = sh * wF xs y tk i := fun i => by rw [← hA, ← hsh]; exact give1 htz
              have we : ∀ i, wD i = wF xs y tk i * fr := fun i => by rw [← hD, ← hfr]; exact cut1 htz
              generalize hW : wF xs y tk = wA at w0 oe we
              refine tq 49 (.bool (decide ((i : Int) < ((n : Nat) : Int)))) (.bool false) (congrArg Value.bool (decide_eq_false c12)) ?_
              refine gl_nil ?_
              refine ge_then ?_
              refine gc_no ?_
              refine gc_exit ?_
              refine ge_tx ?_
              refine ge_tx ?_
              refine ge_bx ?_
              refine ge_then ?_
              refine gc_seq ?_
              refine gc_reg ?_
              refine t 59 (.slice ao n c) ?_
              refine tlr 60 [.slice aq nq cq] Xg2 0 ?_
              refine t 61 (.int .u64 tk) ?_
              have hsz := BB.size
              have ltg2 := Xg2.lt
              have ltg4 := Xg4.lt
              refine tc 62 34 #[.slice ao n c, .agg #[.slice aq nq cq], .int .u64 tk] (heldW hW (held_any (DA.keep BB) hn h4 (Ny.keep BB) (by omega) ht)) ?_
              rintro _ v15 ⟨gL14, KL14, rfl, ML14, hlo_KL14, B⟩
              refine ⟨_, rfl, ?_⟩
              replace BB := joinB BB B
              replace Xg2 := Xg2.keep B
              replace Xg4 := Xg4.keep B
              clear B
              have hkg2_KL14 : ¬ KL14 g2 := fun h => absurd (hlo_KL14 _ h) (Nat.not_le.2 ltg2)
              have hkg4_KL14 : ¬ KL14 g4 := fun h => absurd (hlo_KL14 _ h) (Nat.not_le.2 ltg4)
              replace hlo_KL14 : ∀ b, KL14 b → w.heap.size ≤ b := fun b h => Nat.le_trans hsz (hlo_KL14 b h)
              clear hsz ltg2 ltg4
              refine t 12 (pg gL14) ?_
              refine gl_nil ?_
              refine ge_then ?_
              refine gc_seq ?_
              refine gc_reg ?_
              refine t 63 (pg gL14) ?_
              refine tlr 64 [.slice ar nr cr] Xg4 0 ?_
              refine t 65 (.int .u64 tk) ?_
              refine tc 66 12 #[pg gL14, .int .u64 16, .agg #[.slice ar nr cr], .int .u64 tk] (lGive ⟨by decide, by decide⟩ (Nr.keep BB) (by omega) ht ML14 (L := 6400) (fa_fs (z_bd.up (by decide)) (w0.up (by decide)) ⟨by decide, by decide +kernel⟩ ⟨by decide, by decide +kernel⟩ (by decide)) (by decide) (by rw [GS_len]; omega)) ?_
              rintro _ v18 ⟨K16, rfl, M17, hK, C, P⟩
              refine ⟨_, rfl, ?_⟩
              have hlo_K16 : ∀ b, K16 b → w.heap.size ≤ b := fun b h => (hK b h).elim (hlo_KL14 b) (fun h => Nat.le_trans BB.size h)
              have hkg2_K16 : ¬ K16 g2 := fun h => (hK _ h).elim hkg2_KL14 (fun h => absurd Xg2.lt (Nat.not_lt.2 h))
              have hkg4_K16 : ¬ K16 g4 := fun h => (hK _ h).elim hkg4_KL14 (fun h => absurd Xg4.lt (Nat.not_lt.2 h))
              replace BB := belowK BB C hlo_KL14
              replace Xg2 := Xg2.chg C hkg2_KL14
              replace Xg4 := Xg4.chg C hkg4_KL14
              clear hlo_KL14 hkg2_KL14 hkg4_KL14 ML14 hK C P
              replace M17 := (show Lm _ _ _ (G1 n oA wA 0 0) from (show sGive (G1 n zF wA 0 0) 16 r tk = (G1 n oA wA 0 0) from give_eq.trans (by rw [← hA, ← hW])) ▸ M17)
              refine gl_nil ?_
              refine ge_then ?_
              refine gc_fr [(0, .slice ao n c), (3, .int .u64 tk), (4, .int .u64 af), (7, pg g4), (10, .bool false), (12, pg gL14)] (by kernel_rfl) ?_
              refine gc_seq ?_
              refine gc_reg ?_
              refine tlr 68 [.slice ar nr cr] Xg4 0 ?_
              refine tc 69 36 #[.agg #[.slice ar nr cr]] (rdl (pOfDec (B := 4000) (Nr.keep BB) (by omega) (by omega) (by omega)) hrd) ?_
              rintro _ v20 ⟨aq19, kq19, dq19, bq19, lq19, eq19, rfl, Qq19, B⟩
              refine ⟨_, rfl, ?_⟩
              replace BB := joinB BB B
              replace Xg2 := Xg2.keep B
              replace Xg4 := Xg4.keep B
              replace M17 := M17.keep B
              clear B
              refine t 70 (.int .u64 tk) ?_
              refine tc 71 38 #[.int .u64 tk] (nOf (x := tk) (ht).1 (ht).2) ?_
              rintro _ v22 ⟨an21, kn21, dn21, rfl, Nn21, ln21, B⟩
              refine ⟨_, rfl, ?_⟩
              replace BB := joinB BB B
              replace Xg2 := Xg2.keep B
              replace Xg4 := Xg4.keep B
              replace M17 := M17.keep B
              replace Qq19 := Qq19.keep B
              clear B
              refine tc 72 37 #[.slice an21 kn21 dn21] (rdl (pOfNat (B := 4000) Nn21.a (by omega) (by omega) (by omega)) htr) ?_
              rintro _ v24 ⟨aq23, kq23, dq23, bq23, lq23, eq23, rfl, Qq23, B⟩
              refine ⟨_, rfl, ?_⟩
              replace BB := joinB BB B
              replace Xg2 := Xg2.keep B
              replace Xg4 := Xg4.keep B
              replace M17 := M17.keep B
              replace Qq19 := Qq19.keep B
              replace Nn21 := Nn21.keep B
              clear B
              refine tc 73 35 #[.agg #[.slice aq19 kq19 dq19, .slice bq19 lq19 eq19], .agg #[.slice aq23 kq23 dq23, .slice bq23 lq23 eq23]] (rdlt (pQuo (B := 4000) (Qq19.v (ft_up rdF.2 (by decide))) (Qq23.v (ft_up trF.2 (by decide))) (by decide) trz) hsh0) ?_
              rintro _ v26 ⟨aq25, kq25, dq25, bq25, lq25, eq25, rfl, Qq25, B⟩
              refine ⟨_, rfl, ?_⟩
              replace BB := joinB BB B
              replace Xg2 := Xg2.keep B
              replace Xg4 := Xg4.keep B
              replace M17 := M17.keep B
              replace Qq19 := Qq19.keep B
              replace Nn21 := Nn21.keep B
              replace Qq23 := Qq23.keep B
              clear B
              refine t 67 (.tuple #[.agg #[.slice aq25 kq25 dq25, .slice bq25 lq25 eq25], .int .i64 0]) ?_
              refine t 74 (.agg #[.slice aq25 kq25 dq25, .slice bq25 lq25 eq25]) ?_
              refine t 75 (.int .i64 0) ?_
              have lXg2 := Xg2.lt
              have lXg4 := Xg4.lt
              refine ta 13 [.slice none 0 0, .slice none 0 0] 40 (pg) ?_
              intro v27 g28 Xg28 hg28 B
              have hkg28_K16 : ¬ K16 g28 := fun h => absurd (M17.lt h) (Nat.not_lt.2 hg28)
              have hbg28 := Nat.le_trans BB.size hg28
              replace BB := joinB BB B
              replace Xg2 := Xg2.keep B
              replace Xg4 := Xg4.keep B
              replace M17 := M17.keep B
              replace Qq19 := Qq19.keep B
              replace Nn21 := Nn21.keep B
              replace Qq23 := Qq23.keep B
              replace Qq25 := Qq25.keep B
              clear B
              refine ts Xg28 0 (.agg #[.slice aq25 kq25 dq25, .slice bq25 lq25 eq25]) [.slice aq25 kq25 dq25, .slice bq25 lq25 eq25] [.slice aq25 kq25 dq25, .slice bq25 lq25 eq25] ?_
              intro v29 Y C
              replace BB := belowC BB C (by omega)
              replace Xg2 := Xg2.chg C (show g2 ≠ g28 by omega)
              replace Xg4 := Xg4.chg C (show g4 ≠ g28 by omega)
              replace M17 := M17.off C (Lp.cg Xg28 C (by rfl)) (fun b h e => hkg28_K16 (e ▸ h))
              replace Qq19 := Qq19.cg Xg28 C (by rfl)
              replace Nn21 := NatO.cg Nn21 Xg28 C (by rfl)
              replace Qq23 := Qq23.cg Xg28 C (by rfl)
              replace Qq25 := Qq25.cg Xg28 C (by rfl)
              clear C Xg28
              have Xg28 := Y
              clear Y
              refine t 14 (.int .i64 0) ?_
              refine gl_nil ?_
              refine ge_then ?_
              refine gc_seq ?_
              refine gc_seq ?_
              replace Ny := Ny
              replace Nr := Nr
              replace BB := BB.drew
              replace Xg2 := Xg2.drew
              replace Xg4 := Xg4.drew
              replace M17 := M17.drew
              replace Qq19 := Qq19.drew
              replace Nn21 := Nn21.keep (Below.refl _ _).drew
              replace Qq23 := Qq23.drew
              replace Qq25 := Qq25.drew
              replace Xg28 := Xg28.drew
              refine gc_draw (fun w' => Blk w' g28 [.slice aq25 kq25 dq25, .slice bq25 lq25 eq25] 40 ∧ Below w.heap.size w w') (fun _ => false) ⟨Xg28, BB⟩ ?_
              refine z 0 76 (.int .i64 0) ?_
              refine z 1 77 (.bool false) ?_
              refine z 2 78 (.bool false) ?_
              refine z 3 79 (pg gL14) ?_
              refine zlr 5 81 [.slice aq25 kq25 dq25, .slice bq25 lq25 eq25] (fun _ h => h.1) 0 ?_
              refine z 6 82 (pg gL14) ?_
              refine zc 4 80 29 #[pg gL14, .int .u64 16] (rdl (lOwes ⟨by decide, by decide⟩ M17 (L := 6400) (fa_fs (o1.up (by decide)) (w0.up (by decide)) ⟨by decide, by decide +kernel⟩ ⟨by decide, by decide +kernel⟩ (by decide)) (by decide) (by rw [GS_len]; omega)) (show sOwes (G1 n oA wA 0 0) 16 = (rs oA n) from owes16)) ?_
              rintro _ v31 ⟨aq30, kq30, dq30, bq30, lq30, eq30, rfl, Qq30, B⟩
              replace BB := joinB BB B
              replace Xg2 := Xg2.keep B
              replace Xg4 := Xg4.keep B
              replace M17 := M17.keep B
              replace Qq19 := Qq19.keep B
              replace Nn21 := Nn21.keep B
              replace Qq23 := Qq23.keep B
              replace Qq25 := Qq25.keep B
              replace Xg28 := Xg28.keep B
              clear B
              refine ⟨_, rfl, ⟨Xg28, BB⟩, ?_⟩
              refine zc 7 83 27 #[pg gL14, .int .u64 16] (rdl (lStakes ⟨by decide, by decide⟩ M17 (L := 6400) (fa_fs (o1.up (by decide)) (w0.up (by decide)) ⟨by decide, by decide +kernel⟩ ⟨by decide, by decide +kernel⟩ (by decide)) (by decide) (by rw [GS_len]; omega)) (show sStakes (G1 n oA wA 0 0) 16 = (rs wA n) from stakes16)) ?_
              rintro _ v33 ⟨aq32, kq32, dq32, bq32, lq32, eq32, rfl, Qq32, B⟩
              replace BB := joinB BB B
              replace Xg2 := Xg2.keep B
              replace Xg4 := Xg4.keep B
              replace M17 := M17.keep B
              replace Qq19 := Qq19.keep B
              replace Nn21 := Nn21.keep B
              replace Qq23 := Qq23.keep B
              replace Qq25 := Qq25.keep B
              replace Xg28 := Xg28.keep B
              replace Qq30 := Qq30.keep B
              clear B
              refine ⟨_, rfl, ⟨Xg28, BB⟩, ?_⟩
              refine zc 8 84 39 #[.agg #[.slice aq25 kq25 dq25, .slice bq25 lq25 eq25], .agg #[.slice aq32 kq32 dq32, .slice bq32 lq32 eq32]] (pMul (B := 4000) (Qq25.v (ft_up shF.2 (by decide))) (Qq32.v (ft_up (rs_ft w0) (by omega))) (by omega)) ?_
              rintro _ v35 ⟨aq34, kq34, dq34, bq34, lq34, eq34, rfl, Qq34, B⟩
              replace BB := joinB BB B
              replace Xg2 := Xg2.keep B
              replace Xg4 := Xg4.keep B
              replace M17 := M17.keep B
              replace Qq19 := Qq19.keep B
              replace Nn21 := Nn21.keep B
              replace Qq23 := Qq23.keep B
              replace Qq25 := Qq25.keep B
              replace Xg28 := Xg28.keep B
              replace Qq30 := Qq30.keep B
              replace Qq32 := Qq32.keep B
              clear B
              refine ⟨_, rfl, ⟨Xg28, BB⟩, ?_⟩
              refine zc 9 85 16 #[.agg #[.slice aq30 kq30 dq30, .slice bq30 lq30 eq30], .agg #[.slice aq34 kq34 dq34, .slice bq34 lq34 eq34]] (pSameL (B := 4000) Qq30 Qq34 (ft_up (rs_ft o1) (by omega)) (ft_up (ft_mul shF.2 (rs_ft w0) shF.1 (rs_nn fun i hi => (w0 i hi).1)) (by omega)) (by decide) (t := true) (decide_eq_true ((rs_eq fun i _ => oe i).trans (rs_mul sh)))) ?_
              rintro _ v36 ⟨rfl, B⟩
              replace BB := joinB BB B
              replace Xg2 := Xg2.keep B
              replace Xg4 := Xg4.keep B
              replace M17 := M17.keep B
              replace Qq19 := Qq19.keep B
              replace Nn21 := Nn21.keep B
              replace Qq23 := Qq23.keep B
              replace Qq25 := Qq25.keep B
              replace Xg28 := Xg28.keep B
              replace Qq30 := Qq30.keep B
              replace Qq32 := Qq32.keep B
              replace Qq34 := Qq34.keep B
              clear B
              refine ⟨_, rfl, ⟨Xg28, BB⟩, ?_⟩
              refine z 10 86 (.bool false) ?_
              refine z 11 87 (.bool false) ?_
              refine z 12 88 (.bool false) ?_
              refine z 13 89 (pg gL14) ?_
              refine zc 14 90 29 #[pg gL14, .int .u64 17] (rdl (lOwes ⟨by decide, by decide⟩ M17 (L := 6400) (fa_fs (o1.up (by decide)) (w0.up (by decide)) ⟨by decide, by decide +kernel⟩ ⟨by decide, by decide +kernel⟩ (by decide)) (by decide) (by rw [GS_len]; omega)) (show sOwes (G1 n oA wA 0 0) 17 = (0 : Rat) from owes17)) ?_
              rintro _ v38 ⟨aq37, kq37, dq37, bq37, lq37, eq37, rfl, Qq37, B⟩
              replace BB := joinB BB B
              replace Xg2 := Xg2.keep B
              replace Xg4 := Xg4.keep B
              replace M17 := M17.keep B
              replace Qq19 := Qq19.keep B
              replace Nn21 := Nn21.keep B
              replace Qq23 := Qq23.keep B
              replace Qq25 := Qq25.keep B
              replace Xg28 := Xg28.keep B
              replace Qq30 := Qq30.keep B
              replace Qq32 := Qq32.keep B
              replace Qq34 := Qq34.keep B
              clear B
              refine ⟨_, rfl, ⟨Xg28, BB⟩, ?_⟩
              refine zc 15 91 40 #[.agg #[.slice aq37 kq37 dq37, .slice bq37 lq37 eq37]] (pZeroL (B := 4000) (Qq37.v (by decide +kernel)) (by decide) (t := true) (decide_eq_true (rfl))) ?_
              rintro _ v39 ⟨rfl, B⟩
              replace BB := joinB BB B
              replace Xg2 := Xg2.keep B
              replace Xg4 := Xg4.keep B
              replace M17 := M17.keep B
              replace Qq19 := Qq19.keep B
              replace Nn21 := Nn21.keep B
              replace Qq23 := Qq23.keep B
              replace Qq25 := Qq25.keep B
              replace Xg28 := Xg28.keep B
              replace Qq30 := Qq30.keep B
              replace Qq32 := Qq32.keep B
              replace Qq34 := Qq34.keep B
              replace Qq37 := Qq37.keep B
              clear B
              refine ⟨_, rfl, ⟨Xg28, BB⟩, ?_⟩
              refine z 16 92 (.bool false) ?_
              refine z 17 93 (.bool false) ?_
              refine gz_done ?_
              refine ge_then ?_
              refine gc_fr [(0, .slice ao n c), (3, .int .u64 tk), (4, .int .u64 af), (10, .bool false), (12, pg gL14), (13, pg g28), (93, .bool false)] (by kernel_rfl) ?_
              refine gc_no ?_
              refine gc_skip ?_
              refine ge_then ?_
              refine gc_seq ?_
              refine gc_reg ?_
              refine t 94 (pg gL14) ?_
              refine tc 95 29 #[pg gL14, .int .u64 16] (rdl (lOwes ⟨by decide, by decide⟩ M17 (L := 6400) (fa_fs (o1.up (by decide)) (w0.up (by decide)) ⟨by decide, by decide +kernel⟩ ⟨by decide, by decide +kernel⟩ (by decide)) (by decide) (by rw [GS_len]; omega)) (show sOwes (G1 n oA wA 0 0) 16 = (rs oA n) from owes16)) ?_
              rintro _ v41 ⟨aq40, kq40, dq40, bq40, lq40, eq40, rfl, Qq40, B⟩
              refine ⟨_, rfl, ?_⟩
              replace BB := joinB BB B
              replace Xg2 := Xg2.keep B
              replace Xg4 := Xg4.keep B
              replace M17 := M17.keep B
              replace Qq19 := Qq19.keep B
              replace Nn21 := Nn21.keep B
              replace Qq23 := Qq23.keep B
              replace Qq25 := Qq25.keep B
              replace Xg28 := Xg28.keep B
              replace Qq30 := Qq30.keep B
              replace Qq32 := Qq32.keep B
              replace Qq34 := Qq34.keep B
              replace Qq37 := Qq37.keep B
              clear B
              have lXg2 := Xg2.lt
              have lXg4 := Xg4.lt
              have lXg28 := Xg28.lt
              refine ta 15 [.slice none 0 0, .slice none 0 0] 40 (pg) ?_
              intro v42 g43 Xg43 hg43 B
              have hkg43_K16 : ¬ K16 g43 := fun h => absurd (M17.lt h) (Nat.not_lt.2 hg43)
              have hbg43 := Nat.le_trans BB.size hg43
              replace BB := joinB BB B
              replace Xg2 := Xg2.keep B
              replace Xg4 := Xg4.keep B
              replace M17 := M17.keep B
              replace Qq19 := Qq19.keep B
              replace Nn21 := Nn21.keep B
              replace Qq23 := Qq23.keep B
              replace Qq25 := Qq25.keep B
              replace Xg28 := Xg28.keep B
              replace Qq30 := Qq30.keep B
              replace Qq32 := Qq32.keep B
              replace Qq34 := Qq34.keep B
              replace Qq37 := Qq37.keep B
              replace Qq40 := Qq40.keep B
              clear B
              refine ts Xg43 0 (.agg #[.slice aq40 kq40 dq40, .slice bq40 lq40 eq40]) [.slice aq40 kq40 dq40, .slice bq40 lq40 eq40] [.slice aq40 kq40 dq40, .slice bq40 lq40 eq40] ?_
              intro v44 Y C
              replace BB := belowC BB C (by omega)
              replace Xg2 := Xg2.chg C (show g2 ≠ g43 by omega)
              replace Xg4 := Xg4.chg C (show g4 ≠ g43 by omega)
              replace M17 := M17.off C (Lp.cg Xg43 C (by rfl)) (fun b h e => hkg43_K16 (e ▸ h))
              replace Qq19 := Qq19.cg Xg43 C (by rfl)
              replace Nn21 := NatO.cg Nn21 Xg43 C (by rfl)
              replace Qq23 := Qq23.cg Xg43 C (by rfl)
              replace Qq25 := Qq25.cg Xg43 C (by rfl)
              replace Xg28 := Xg28.chg C (show g28 ≠ g43 by omega)
              replace Qq30 := Qq30.cg Xg43 C (by rfl)
              replace Qq32 := Qq32.cg Xg43 C (by rfl)
              replace Qq34 := Qq34.cg Xg43 C (by rfl)
              replace Qq37 := Qq37.cg Xg43 C (by rfl)
              replace Qq40 := Qq40.cg Xg43 C (by rfl)
              clear C Xg43
              have Xg43 := Y
              clear Y
              refine gl_nil ?_
              refine ge_then ?_
              refine gc_seq ?_
              refine gc_reg ?_
              refine t 96 (.slice ao n c) ?_
              refine t 97 (.int .i64 ((n : Nat) : Int)) ?_
              have lXg2 := Xg2.lt
              have lXg4 := Xg4.lt
              have lXg28 := Xg28.lt
              have lXg43 := Xg43.lt
              refine ta_mkr 98 n (by omega) ?_
              intro v45 g46 Xg46 hg46 B
              have hkg46_K16 : ¬ K16 g46 := fun h => absurd (M17.lt h) (Nat.not_lt.2 hg46)
              have hbg46 := Nat.le_trans BB.size hg46
              replace BB := joinB BB B
              replace Xg2 := Xg2.keep B
              replace Xg4 := Xg4.keep B
              replace M17 := M17.keep B
              replace Qq19 := Qq19.keep B
              replace Nn21 := Nn21.keep B
              replace Qq23 := Qq23.keep B
              replace Qq25 := Qq25.keep B
              replace Xg28 := Xg28.keep B
              replace Qq30 := Qq30.keep B
              replace Qq32 := Qq32.keep B
              replace Qq34 := Qq34.keep B
              replace Qq37 := Qq37.keep B
              replace Qq40 := Qq40.keep B
              replace Xg43 := Xg43.keep B
              clear B
              refine t 16 (.slice (some ⟨g46, 0, none⟩) n n) ?_
              refine gl_nil ?_
              refine ge_then ?_
              refine gc_seq ?_
              refine gc_seq ?_
              refine gc_reg ?_
              refine t 17 (.int .i64 0) ?_
              refine gl_nil ?_
              refine ge_then ?_
              refine gc_block ?_
              refine gc_loop (fun k => n - k) (fun (k : Nat) => [(0, .slice ao n c), (3, .int .u64 tk), (4, .int .u64 af), (10, .bool false), (12, pg gL14), (13, pg g28), (15, pg g43), (16, .slice (some ⟨g46, 0, none⟩) n n), (17, .int .i64 (k : Int))]) (fun k w' => k ≤ n ∧ Below w.heap.size w w' ∧ Blk w' g2 [.slice aq nq cq] 35 ∧ Blk w' g4 [.slice ar nr cr] 35 ∧ Lm w' gL14 K16 (G1 n oA wA 0 0) ∧ RQ w' aq19 kq19 dq19 bq19 lq19 eq19 (rd) ∧ NatO w' an21 kn21 dn21 (tk) ∧ RQ w' aq23 kq23 dq23 bq23 lq23 eq23 (tQ) ∧ RQ w' aq25 kq25 dq25 bq25 lq25 eq25 (sh) ∧ Blk w' g28 [.slice aq25 kq25 dq25, .slice bq25 lq25 eq25] 40 ∧ RQ w' aq30 kq30 dq30 bq30 lq30 eq30 ((rs oA n)) ∧ RQ w' aq32 kq32 dq32 bq32 lq32 eq32 ((rs wA n)) ∧ RQ w' aq34 kq34 dq34 bq34 lq34 eq34 ((sh) * ((rs wA n))) ∧ RQ w' aq37 kq37 dq37 bq37 lq37 eq37 ((0 : Rat)) ∧ RQ w' aq40 kq40 dq40 bq40 lq40 eq40 ((rs oA n)) ∧ Blk w' g43 [.slice aq40 kq40 dq40, .slice bq40 lq40 eq40] 40 ∧ ∃ R, Blk w' g46 (wl R n) 40 ∧ ∀ j, j < k → RQv w' (R j) (wA j)) 0 ⟨Nat.zero_le _, BB, Xg2, Xg4, M17, Qq19, Nn21, Qq23, Qq25, Xg28, Qq30, Qq32, Qq34, Qq37, Qq40, Xg43, R0, Xg46, (fun j hj => absurd hj (Nat.not_lt_zero _))⟩ (by kernel_rfl) ?_
              clear BB Xg2 Xg4 M17 Qq19 Nn21 Qq23 Qq25 Xg28 Qq30 Qq32 Qq34 Qq37 Qq40 Xg43 Xg46
              rintro k v47 ⟨hk, BB, Xg2, Xg4, M17, Qq19, Nn21, Qq23, Qq25, Xg28, Qq30, Qq32, Qq34, Qq37, Qq40, Xg43, R, Xg46, QF⟩
              refine gc_seq ?_
              refine gc_seq ?_
              refine gc_reg ?_
              refine t 99 (.int .i64 (k : Int)) ?_
              refine t 100 (.slice ao n c) ?_
              refine t 101 (.int .i64 ((n : Nat) : Int)) ?_
              by_cases c48 : (k : Int) < ((n : Nat) : Int)
              · have hk_k : k < n := by omega
                refine tq 102 (.bool (decide ((k : Int) < ((n : Nat) : Int)))) (.bool true) (congrArg Value.bool (decide_eq_true c48)) ?_
                refine gl_nil ?_
                refine ge_then ?_
                refine gc_yes ?_
                refine gc_skip ?_
                refine ge_then ?_
                refine gc_seq ?_
                refine gc_block ?_
                refine gc_seq ?_
                refine gc_reg ?_
                refine t 105 (.slice (some ⟨g46, 0, none⟩) n n) ?_
                refine t 106 (.int .i64 (k : Int)) ?_
                refine t 107 (pg gL14) ?_
                refine t 108 (.int .i64 (k : Int)) ?_
                refine tr 109 (.int .u64 (k : Int)) (run_iu (⟨by omega, by omega⟩)) ?_
                refine tc 110 23 #[pg gL14, .int .u64 16, .int .u64 (k : Int)] (rdl (lStake ⟨by decide, by decide⟩ ⟨by omega, by omega⟩ M17 (L := 6400) (fa_fs (o1.up (by decide)) (w0.up (by decide)) ⟨by decide, by decide +kernel⟩ ⟨by decide, by decide +kernel⟩ (by decide)) (by decide) (by rw [GS_len]; omega)) (show sWorth (G1 n oA wA 0 0) 16 (k : Int) = wA k from worth16 hk_k)) ?_
                rintro _ v50 ⟨aq49, kq49, dq49, bq49, lq49, eq49, rfl, Qq49, B⟩
                refine ⟨_, rfl, ?_⟩
                replace BB := joinB BB B
                replace Xg2 := Xg2.keep B
                replace Xg4 := Xg4.keep B
                replace M17 := M17.keep B
                replace Qq19 := Qq19.keep B
                replace Nn21 := Nn21.keep B
                replace Qq23 := Qq23.keep B
                replace Qq25 := Qq25.keep B
                replace Xg28 := Xg28.keep B
                replace Qq30 := Qq30.keep B
                replace Qq32 := Qq32.keep B
                replace Qq34 := Qq34.keep B
                replace Qq37 := Qq37.keep B
                replace Qq40 := Qq40.keep B
                replace Xg43 := Xg43.keep B
                replace Xg46 := Xg46.keep B
                replace QF := fun (j : Nat) (hj : j < k) => (QF j hj).keep B
                clear B
                refine tr 111 (pq g46 (k * 2)) (congr_v (by simp) (run_ixs 2 g46 0 n n k hk_k)) ?_
                refine ts Xg46 (k * 2) (.agg #[.slice aq49 kq49 dq49, .slice bq49 lq49 eq49]) [.slice aq49 kq49 dq49, .slice bq49 lq49 eq49] (wl (upR R k (aq49, kq49, dq49, bq49, lq49, eq49)) n) ?_ (hb := wl_room R hk_k) (he := wl_set R hk_k (aq49, kq49, dq49, bq49, lq49, eq49))
                intro v51 Y C
                replace BB := belowC BB C (by omega)
                replace Xg2 := Xg2.chg C (show g2 ≠ g46 by omega)
                replace Xg4 := Xg4.chg C (show g4 ≠ g46 by omega)
                replace M17 := M17.off C (Lp.cg Xg46 C (wl_nu _ _)) (fun b h e => hkg46_K16 (e ▸ h))
                replace Qq19 := Qq19.cg Xg46 C (wl_nu _ _)
                replace Nn21 := NatO.cg Nn21 Xg46 C (wl_nu _ _)
                replace Qq23 := Qq23.cg Xg46 C (wl_nu _ _)
                replace Qq25 := Qq25.cg Xg46 C (wl_nu _ _)
                replace Xg28 := Xg28.chg C (show g28 ≠ g46 by omega)
                replace Qq30 := Qq30.cg Xg46 C (wl_nu _ _)
                replace Qq32 := Qq32.cg Xg46 C (wl_nu _ _)
                replace Qq34 := Qq34.cg Xg46 C (wl_nu _ _)
                replace Qq37 := Qq37.cg Xg46 C (wl_nu _ _)
                replace Qq40 := Qq40.cg Xg46 C (wl_nu _ _)
                replace Xg43 := Xg43.chg C (show g43 ≠ g46 by omega)
                replace QF := fun (j : Nat) (hj : j < k) => (QF j hj).cg Xg46 C (wl_nu _ _)
                replace Qq49 := Qq49.cg Xg46 C (wl_nu _ _)
                clear C Xg46
                have Xg46 := Y
                clear Y
                replace QF : ∀ j, j < k + 1 → RQv v51 (upR R k (aq49, kq49, dq49, bq49, lq49, eq49) j) (wA j) := fun j hj => by
                  by_cases h : j = k
                  · subst h; rw [show upR R j (aq49, kq49, dq49, bq49, lq49, eq49) j = (aq49, kq49, dq49, bq49, lq49, eq49) from if_pos rfl]; exact Qq49
                  · rw [show upR R k (aq49, kq49, dq49, bq49, lq49, eq49) j = R j from if_neg h]; exact QF j (by omega)
                obtain ⟨R2, hR2⟩ : ∃ R2, upR R k (aq49, kq49, dq49, bq49, lq49, eq49) = R2 := ⟨_, rfl⟩
                rw [hR2] at Xg46 QF
                refine gl_nil ?_
                refine ge_then ?_
                refine gc_seq ?_
                replace Ny := Ny
                replace Nr := Nr
                replace BB := BB.drew
                replace Xg2 := Xg2.drew
                replace Xg4 := Xg4.drew
                replace M17 := M17.drew
                replace Qq19 := Qq19.drew
                replace Nn21 := Nn21.keep (Below.refl _ _).drew
                replace Qq23 := Qq23.drew
                replace Qq25 := Qq25.drew
                replace Xg28 := Xg28.drew
                replace Qq30 := Qq30.drew
                replace Qq32 := Qq32.drew
                replace Qq34 := Qq34.drew
                replace Qq37 := Qq37.drew
                replace Qq40 := Qq40.drew
                replace Xg43 := Xg43.drew
                replace Xg46 := Xg46.drew
                replace QF := fun j hj => (QF j hj).drew
                replace Qq49 := Qq49.drew
                refine gc_draw (fun w' => Blk w' g28 [.slice aq25 kq25 dq25, .slice bq25 lq25 eq25] 40 ∧ Blk w' g46 (wl R2 n) 40 ∧ Below w.heap.size w w') (fun _ => false) ⟨Xg28, Xg46, BB⟩ ?_
                refine z 0 112 (pg gL14) ?_
                refine z 1 113 (.int .i64 (k : Int)) ?_
                refine zr 2 114 (.int .u64 (k : Int)) (fun _ _ => run_iu (⟨by omega, by omega⟩)) ?_
                refine zlr 4 116 [.slice aq25 kq25 dq25, .slice bq25 lq25 eq25] (fun _ h => h.1) 0 ?_
                refine z 5 117 (.slice (some ⟨g46, 0, none⟩) n n) ?_
                refine z 6 118 (.int .i64 (k : Int)) ?_
                refine zr 7 119 (pq g46 (k * 2)) (fun _ _ => congr_v (by simp) (run_ixs 2 g46 0 n n k hk_k)) ?_
                have Q52 := QF k (by omega)
                refine zlr 8 120 [.slice (R2 k).1 (R2 k).2.1 (R2 k).2.2.1, .slice (R2 k).2.2.2.1 (R2 k).2.2.2.2.1 (R2 k).2.2.2.2.2] (fun _ h => h.2.1) (k * 2) (hr := (wl_at R2 hk_k)) ?_
                refine zc 3 115 25 #[pg gL14, .int .u64 16, .int .u64 (k : Int)] (rdl (lOwed ⟨by decide, by decide⟩ ⟨by omega, by omega⟩ M17 (L := 6400) (fa_fs (o1.up (by decide)) (w0.up (by decide)) ⟨by decide, by decide +kernel⟩ ⟨by decide, by decide +kernel⟩ (by decide)) (by decide) (by rw [GS_len]; omega)) (show sOwed (G1 n oA wA 0 0) 16 (k : Int) = oA k from owed16 hk_k)) ?_
                rintro _ v54 ⟨aq53, kq53, dq53, bq53, lq53, eq53, rfl, Qq53, B⟩
                replace BB := joinB BB B
                replace Xg2 := Xg2.keep B
                replace Xg4 := Xg4.keep B
                replace M17 := M17.keep B
                replace Qq19 := Qq19.keep B
                replace Nn21 := Nn21.keep B
                replace Qq23 := Qq23.keep B
                replace Qq25 := Qq25.keep B
                replace Xg28 := Xg28.keep B
                replace Qq30 := Qq30.keep B
                replace Qq32 := Qq32.keep B
                replace Qq34 := Qq34.keep B
                replace Qq37 := Qq37.keep B
                replace Qq40 := Qq40.keep B
                replace Xg43 := Xg43.keep B
                replace Xg46 := Xg46.keep B
                replace Qq49 := Qq49.keep B
                replace Q52 := Q52.keep B
                replace QF := fun (j : Nat) (hj : j < k + 1) => (QF j hj).keep B
                clear B
                refine ⟨_, rfl, ⟨Xg28, Xg46, BB⟩, ?_⟩
                refine zc 9 121 39 #[.agg #[.slice aq25 kq25 dq25, .slice bq25 lq25 eq25], .agg #[.slice (R2 k).1 (R2 k).2.1 (R2 k).2.2.1, .slice (R2 k).2.2.2.1 (R2 k).2.2.2.2.1 (R2 k).2.2.2.2.2]] (pMul (B := 4000) (Qq25.v (ft_up shF.2 (by decide))) (Q52.v (ft_up (w0 k hk_k).2 (by decide))) (by omega)) ?_
                rintro _ v56 ⟨aq55, kq55, dq55, bq55, lq55, eq55, rfl, Qq55, B⟩
                replace BB := joinB BB B
                replace Xg2 := Xg2.keep B
                replace Xg4 := Xg4.keep B
                replace M17 := M17.keep B
                replace Qq19 := Qq19.keep B
                replace Nn21 := Nn21.keep B
                replace Qq23 := Qq23.keep B
                replace Qq25 := Qq25.keep B
                replace Xg28 := Xg28.keep B
                replace Qq30 := Qq30.keep B
                replace Qq32 := Qq32.keep B
                replace Qq34 := Qq34.keep B
                replace Qq37 := Qq37.keep B
                replace Qq40 := Qq40.keep B
                replace Xg43 := Xg43.keep B
                replace Xg46 := Xg46.keep B
                replace Qq49 := Qq49.keep B
                replace Q52 := Q52.keep B
                replace Qq53 := Qq53.keep B
                replace QF := fun (j : Nat) (hj : j < k + 1) => (QF j hj).keep B
                clear B
                refine ⟨_, rfl, ⟨Xg28, Xg46, BB⟩, ?_⟩
                refine zc 10 122 16 #[.agg #[.slice aq53 kq53 dq53, .slice bq53 lq53 eq53], .agg #[.slice aq55 kq55 dq55, .slice bq55 lq55 eq55]] (pSameL (B := 4000) Qq53 Qq55 (ft_up (o1 k hk_k).2 (by decide)) (ft_up (ft_mul shF.2 (w0 k hk_k).2 shF.1 (w0 k hk_k).1) (by decide)) (by decide) (t := true) (decide_eq_true (oe k))) ?_
                rintro _ v57 ⟨rfl, B⟩
                replace BB := joinB BB B
                replace Xg2 := Xg2.keep B
                replace Xg4 := Xg4.keep B
                replace M17 := M17.keep B
                replace Qq19 := Qq19.keep B
                replace Nn21 := Nn21.keep B
                replace Qq23 := Qq23.keep B
                replace Qq25 := Qq25.keep B
                replace Xg28 := Xg28.keep B
                replace Qq30 := Qq30.keep B
                replace Qq32 := Qq32.keep B
                replace Qq34 := Qq34.keep B
                replace Qq37 := Qq37.keep B
                replace Qq40 := Qq40.keep B
                replace Xg43 := Xg43.keep B
                replace Xg46 := Xg46.keep B
                replace Qq49 := Qq49.keep B
                replace Q52 := Q52.keep B
                replace Qq53 := Qq53.keep B
                replace Qq55 := Qq55.keep B
                replace QF := fun (j : Nat) (hj : j < k + 1) => (QF j hj).keep B
                clear B
                refine ⟨_, rfl, ⟨Xg28, Xg46, BB⟩, ?_⟩
                refine z 11 123 (.bool false) ?_
                refine gz_done ?_
                refine ge_then ?_
                refine gc_fr [(0, .slice ao n c), (3, .int .u64 tk), (4, .int .u64 af), (10, .bool false), (12, pg gL14), (13, pg g28), (15, pg g43), (16, .slice (some ⟨g46, 0, none⟩) n n), (17, .int .i64 (k : Int)), (99, .int .i64 (k : Int)), (100, .slice ao n c), (101, .int .i64 ((n : Nat) : Int)), (102, .bool true), (105, .slice (some ⟨g46, 0, none⟩) n n), (106, .int .i64 (k : Int)), (107, pg gL14), (108, .int .i64 (k : Int)), (109, .int .u64 (k : Int)), (110, .agg #[.slice aq49 kq49 dq49, .slice bq49 lq49 eq49]), (111, pq g46 (k * 2)), (112, pg gL14), (113, .int .i64 (k : Int)), (114, .int .u64 (k : Int)), (115, .agg #[.slice aq53 kq53 dq53, .slice bq53 lq53 eq53]), (116, .agg #[.slice aq25 kq25 dq25, .slice bq25 lq25 eq25]), (117, .slice (some ⟨g46, 0, none⟩) n n), (118, .int .i64 (k : Int)), (119, pq g46 (k * 2)), (120, .agg #[.slice (R2 k).1 (R2 k).2.1 (R2 k).2.2.1, .slice (R2 k).2.2.2.1 (R2 k).2.2.2.2.1 (R2 k).2.2.2.2.2]), (121, .agg #[.slice aq55 kq55 dq55, .slice bq55 lq55 eq55]), (122, .bool true), (123, .bool false)] (by kernel_rfl) ?_
                refine gc_no ?_
                refine gc_skip ?_
                refine ge_bn ?_
                refine ge_then ?_
                refine gc_reg ?_
                refine t 103 (.int .i64 (k : Int)) ?_
                refine tq 104 (.int .i64 (IntKind.i64.wrap ((k : Int) + 1))) (.int .i64 ((k : Int) + 1)) (wi (by omega)) ?_
                refine t 17 (.int .i64 ((k : Int) + 1)) ?_
                refine gl_nil ?_
                exact ge_round (k + 1) (by omega) ⟨by omega, BB, Xg2, Xg4, M17, Qq19, Nn21, Qq23, Qq25, Xg28, Qq30, Qq32, Qq34, Qq37, Qq40, Xg43, R2, Xg46, QF⟩ (by kernel_rfl)
              · have hkn : k = n := by omega
                replace QF := fun (j : Nat) (hj : j < n) => QF j (by omega)
                refine tq 102 (.bool (decide ((k : Int) < ((n : Nat) : Int)))) (.bool false) (congrArg Value.bool (decide_eq_false c48)) ?_
                refine gl_nil ?_
                refine ge_then ?_
                refine gc_no ?_
                refine gc_exit ?_
                refine ge_tx ?_
                refine ge_tx ?_
                refine ge_bx ?_
                refine ge_then ?_
                refine gc_seq ?_
                refine gc_reg ?_
                refine t 124 (pg gL14) ?_
                refine t 125 (.int .u64 tk) ?_
                refine t 126 (.int .u64 af) ?_
                refine tc 127 21 #[pg gL14, .int .u64 16, .int .u64 tk, .int .u64 af] (lCut ⟨by decide, by decide⟩ ht ha M17 (L := 6400) (fa_fs (o1.up (by decide)) (w0.up (by decide)) ⟨by decide, by decide +kernel⟩ ⟨by decide, by decide +kernel⟩ (by decide)) (by decide) (by rw [GS_len]; omega)) ?_
                rintro _ v60 ⟨K58, rfl, M59, hK, C, P⟩
                refine ⟨_, rfl, ?_⟩
                have hlo_K58 : ∀ b, K58 b → w.heap.size ≤ b := fun b h => (hK b h).elim (hlo_K16 b) (fun h => Nat.le_trans BB.size h)
                have hkg2_K58 : ¬ K58 g2 := fun h => (hK _ h).elim hkg2_K16 (fun h => absurd Xg2.lt (Nat.not_lt.2 h))
                have hkg4_K58 : ¬ K58 g4 := fun h => (hK _ h).elim hkg4_K16 (fun h => absurd Xg4.lt (Nat.not_lt.2 h))
                have hkg28_K58 : ¬ K58 g28 := fun h => (hK _ h).elim hkg28_K16 (fun h => absurd Xg28.lt (Nat.not_lt.2 h))
                have hkg43_K58 : ¬ K58 g43 := fun h => (hK _ h).elim hkg43_K16 (fun h => absurd Xg43.lt (Nat.not_lt.2 h))
                have hkg46_K58 : ¬ K58 g46 := fun h => (hK _ h).elim hkg46_K16 (fun h => absurd Xg46.lt (Nat.not_lt.2 h))
                replace QF := fun (j : Nat) (hj : j < n) => (QF j hj).lp P
                replace BB := belowK BB C hlo_K16
                replace Xg2 := Xg2.chg C hkg2_K16
                replace Xg4 := Xg4.chg C hkg4_K16
                replace Qq19 := Qq19.lp P
                replace Nn21 := NatO.lp Nn21 P
                replace Qq23 := Qq23.lp P
                replace Qq25 := Qq25.lp P
                replace Xg28 := Xg28.chg C hkg28_K16
                replace Qq30 := Qq30.lp P
                replace Qq32 := Qq32.lp P
                replace Qq34 := Qq34.lp P
                replace Qq37 := Qq37.lp P
                replace Qq40 := Qq40.lp P
                replace Xg43 := Xg43.chg C hkg43_K16
                replace Xg46 := Xg46.chg C hkg46_K16
                clear hlo_K16 hkg2_K16 hkg4_K16 hkg28_K16 hkg43_K16 hkg46_K16 M17 hK C P
                replace M59 := (show Lm _ _ _ (G1 n oA wD 1 1) from (show sCut (G1 n oA wA 0 0) 16 tk af = (G1 n oA wD 1 1) from cut_eq.trans (by rw [← hD, ← hW]; rfl)) ▸ M59)
                refine gl_nil ?_
                refine ge_then ?_
                refine gc_seq ?_
                refine gc_reg ?_
                refine t 129 (.int .u64 af) ?_
                refine tc 130 38 #[.int .u64 af] (nOf (x := af) (ha).1 (ha).2) ?_
                rintro _ v62 ⟨an61, kn61, dn61, rfl, Nn61, ln61, B⟩
                refine ⟨_, rfl, ?_⟩
                replace BB := joinB BB B
                replace Xg2 := Xg2.keep B
                replace Xg4 := Xg4.keep B
                replace Qq19 := Qq19.keep B
                replace Nn21 := Nn21.keep B
                replace Qq23 := Qq23.keep B
                replace Qq25 := Qq25.keep B
                replace Xg28 := Xg28.keep B
                replace Qq30 := Qq30.keep B
                replace Qq32 := Qq32.keep B
                replace Qq34 := Qq34.keep B
                replace Qq37 := Qq37.keep B
                replace Qq40 := Qq40.keep B
                replace Xg43 := Xg43.keep B
                replace Xg46 := Xg46.keep B
                replace M59 := M59.keep B
                replace QF := fun (j : Nat) (hj : j < n) => (QF j hj).keep B
                clear B
                refine t 131 (.int .u64 tk) ?_
                refine tc 132 38 #[.int .u64 tk] (nOf (x := tk) (ht).1 (ht).2) ?_
                rintro _ v64 ⟨an63, kn63, dn63, rfl, Nn63, ln63, B⟩
                refine ⟨_, rfl, ?_⟩
                replace BB := joinB BB B
                replace Xg2 := Xg2.keep B
                replace Xg4 := Xg4.keep B
                replace Qq19 := Qq19.keep B
                replace Nn21 := Nn21.keep B
                replace Qq23 := Qq23.keep B
                replace Qq25 := Qq25.keep B
                replace Xg28 := Xg28.keep B
                replace Qq30 := Qq30.keep B
                replace Qq32 := Qq32.keep B
                replace Qq34 := Qq34.keep B
                replace Qq37 := Qq37.keep B
                replace Qq40 := Qq40.keep B
                replace Xg43 := Xg43.keep B
                replace Xg46 := Xg46.keep B
                replace M59 := M59.keep B
                replace Nn61 := Nn61.keep B
                replace QF := fun (j : Nat) (hj : j < n) => (QF j hj).keep B
                clear B
                refine tc 133 41 #[.slice an61 kn61 dn61, .slice an63 kn63 dn63] (rdlt (pOf (B := 4000) Nn61.a Nn63.a (by omega) (by omega) (by decide) htz) hfr) ?_
                rintro _ v66 ⟨aq65, kq65, dq65, bq65, lq65, eq65, rfl, Qq65, B⟩
                refine ⟨_, rfl, ?_⟩
                replace BB := joinB BB B
                replace Xg2 := Xg2.keep B
                replace Xg4 := Xg4.keep B
                replace Qq19 := Qq19.keep B
                replace Nn21 := Nn21.keep B
                replace Qq23 := Qq23.keep B
                replace Qq25 := Qq25.keep B
                replace Xg28 := Xg28.keep B
                replace Qq30 := Qq30.keep B
                replace Qq32 := Qq32.keep B
                replace Qq34 := Qq34.keep B
                replace Qq37 := Qq37.keep B
                replace Qq40 := Qq40.keep B
                replace Xg43 := Xg43.keep B
                replace Xg46 := Xg46.keep B
                replace M59 := M59.keep B
                replace Nn61 := Nn61.keep B
                replace Nn63 := Nn63.keep B
                replace QF := fun (j : Nat) (hj : j < n) => (QF j hj).keep B
                clear B
                refine t 128 (.tuple #[.agg #[.slice aq65 kq65 dq65, .slice bq65 lq65 eq65], .int .i64 0]) ?_
                refine t 134 (.agg #[.slice aq65 kq65 dq65, .slice bq65 lq65 eq65]) ?_
                refine t 135 (.int .i64 0) ?_
                have lXg2 := Xg2.lt
                have lXg4 := Xg4.lt
                have lXg28 := Xg28.lt
                have lXg43 := Xg43.lt
                have lXg46 := Xg46.lt
                refine ta 18 [.slice none 0 0, .slice none 0 0] 40 (pg) ?_
                intro v67 g68 Xg68 hg68 B
                have hkg68_K58 : ¬ K58 g68 := fun h => absurd (M59.lt h) (Nat.not_lt.2 hg68)
                have hbg68 := Nat.le_trans BB.size hg68
                replace BB := joinB BB B
                replace Xg2 := Xg2.keep B
                replace Xg4 := Xg4.keep B
                replace Qq19 := Qq19.keep B
                replace Nn21 := Nn21.keep B
                replace Qq23 := Qq23.keep B
                replace Qq25 := Qq25.keep B
                replace Xg28 := Xg28.keep B
                replace Qq30 := Qq30.keep B
                replace Qq32 := Qq32.keep B
                replace Qq34 := Qq34.keep B
                replace Qq37 := Qq37.keep B
                replace Qq40 := Qq40.keep B
                replace Xg43 := Xg43.keep B
                replace Xg46 := Xg46.keep B
                replace M59 := M59.keep B
                replace Nn61 := Nn61.keep B
                replace Nn63 := Nn63.keep B
                replace Qq65 := Qq65.keep B
                replace QF := fun (j : Nat) (hj : j < n) => (QF j hj).keep B
                clear B
                refine ts Xg68 0 (.agg #[.slice aq65 kq65 dq65, .slice bq65 lq65 eq65]) [.slice aq65 kq65 dq65, .slice bq65 lq65 eq65] [.slice aq65 kq65 dq65, .slice bq65 lq65 eq65] ?_
                intro v69 Y C
                replace BB := belowC BB C (by omega)
                replace Xg2 := Xg2.chg C (show g2 ≠ g68 by omega)
                replace Xg4 := Xg4.chg C (show g4 ≠ g68 by omega)
                replace Qq19 := Qq19.cg Xg68 C (by rfl)
                replace Nn21 := NatO.cg Nn21 Xg68 C (by rfl)
                replace Qq23 := Qq23.cg Xg68 C (by rfl)
                replace Qq25 := Qq25.cg Xg68 C (by rfl)
                replace Xg28 := Xg28.chg C (show g28 ≠ g68 by omega)
                replace Qq30 := Qq30.cg Xg68 C (by rfl)
                replace Qq32 := Qq32.cg Xg68 C (by rfl)
                replace Qq34 := Qq34.cg Xg68 C (by rfl)
                replace Qq37 := Qq37.cg Xg68 C (by rfl)
                replace Qq40 := Qq40.cg Xg68 C (by rfl)
                replace Xg43 := Xg43.chg C (show g43 ≠ g68 by omega)
                replace Xg46 := Xg46.chg C (show g46 ≠ g68 by omega)
                replace M59 := M59.off C (Lp.cg Xg68 C (by rfl)) (fun b h e => hkg68_K58 (e ▸ h))
                replace Nn61 := NatO.cg Nn61 Xg68 C (by rfl)
                replace Nn63 := NatO.cg Nn63 Xg68 C (by rfl)
                replace Qq65 := Qq65.cg Xg68 C (by rfl)
                replace QF := fun (j : Nat) (hj : j < n) => (QF j hj).cg Xg68 C (by rfl)
                clear C Xg68
                have Xg68 := Y
                clear Y
                refine t 19 (.int .i64 0) ?_
                refine gl_nil ?_
                refine ge_then ?_
                refine gc_fr [(0, .slice ao n c), (10, .bool false), (12, pg gL14), (15, pg g43), (16, .slice (some ⟨g46, 0, none⟩) n n), (18, pg g68)] (by kernel_rfl) ?_
                refine gc_seq ?_
                refine gc_seq ?_
                refine gc_reg ?_
                refine t 20 (.int .i64 0) ?_
                refine gl_nil ?_
                refine ge_then ?_
                refine gc_block ?_
                refine gc_loop (fun m => n - m) (fun (m : Nat) => [(0, .slice ao n c), (10, .bool false), (12, pg gL14), (15, pg g43), (16, .slice (some ⟨g46, 0, none⟩) n n), (18, pg g68), (20, .int .i64 (m : Int))]) (fun m w' => m ≤ n ∧ Below w.heap.size w w' ∧ Blk w' g2 [.slice aq nq cq] 35 ∧ Blk w' g4 [.slice ar nr cr] 35 ∧ RQ w' aq19 kq19 dq19 bq19 lq19 eq19 (rd) ∧ NatO w' an21 kn21 dn21 (tk) ∧ RQ w' aq23 kq23 dq23 bq23 lq23 eq23 (tQ) ∧ RQ w' aq25 kq25 dq25 bq25 lq25 eq25 (sh) ∧ Blk w' g28 [.slice aq25 kq25 dq25, .slice bq25 lq25 eq25] 40 ∧ RQ w' aq30 kq30 dq30 bq30 lq30 eq30 ((rs oA n)) ∧ RQ w' aq32 kq32 dq32 bq32 lq32 eq32 ((rs wA n)) ∧ RQ w' aq34 kq34 dq34 bq34 lq34 eq34 ((sh) * ((rs wA n))) ∧ RQ w' aq37 kq37 dq37 bq37 lq37 eq37 ((0 : Rat)) ∧ RQ w' aq40 kq40 dq40 bq40 lq40 eq40 ((rs oA n)) ∧ Blk w' g43 [.slice aq40 kq40 dq40, .slice bq40 lq40 eq40] 40 ∧ Lm w' gL14 K58 (G1 n oA wD 1 1) ∧ NatO w' an61 kn61 dn61 (af) ∧ NatO w' an63 kn63 dn63 (tk) ∧ RQ w' aq65 kq65 dq65 bq65 lq65 eq65 (fr) ∧ Blk w' g68 [.slice aq65 kq65 dq65, .slice bq65 lq65 eq65] 40 ∧ Blk w' g46 (wl R n) 40 ∧ ∀ j, j < n → RQv w' (R j) (wA j)) 0 ⟨Nat.zero_le _, BB, Xg2, Xg4, Qq19, Nn21, Qq23, Qq25, Xg28, Qq30, Qq32, Qq34, Qq37, Qq40, Xg43, M59, Nn61, Nn63, Qq65, Xg68, Xg46, (fun j hj => QF j (by omega))⟩ (by kernel_rfl) ?_
                clear BB Xg2 Xg4 Qq19 Nn21 Qq23 Qq25 Xg28 Qq30 Qq32 Qq34 Qq37 Qq40 Xg43 M59 Nn61 Nn63 Qq65 Xg68 Xg46 QF
                rintro m v70 ⟨hm, BB, Xg2, Xg4, Qq19, Nn21, Qq23, Qq25, Xg28, Qq30, Qq32, Qq34, Qq37, Qq40, Xg43, M59, Nn61, Nn63, Qq65, Xg68, Xg46, QF⟩
                refine gc_seq ?_
                refine gc_seq ?_
                refine gc_reg ?_
                refine t 136 (.int .i64 (m : Int)) ?_
                refine t 137 (.slice ao n c) ?_
                refine t 138 (.int .i64 ((n : Nat) : Int)) ?_
                by_cases c71 : (m : Int) < ((n : Nat) : Int)
                · have hk_m : m < n := by omega
                  refine tq 139 (.bool (decide ((m : Int) < ((n : Nat) : Int)))) (.bool true) (congrArg Value.bool (decide_eq_true c71)) ?_
                  refine gl_nil ?_
                  refine ge_then ?_
                  refine gc_yes ?_
                  refine gc_skip ?_
                  refine ge_then ?_
                  refine gc_seq ?_
                  refine gc_block ?_
                  refine gc_seq ?_
                  replace Ny := Ny
                  replace Nr := Nr
                  replace BB := BB.drew
                  replace Xg2 := Xg2.drew
                  replace Xg4 := Xg4.drew
                  replace Qq19 := Qq19.drew
                  replace Nn21 := Nn21.keep (Below.refl _ _).drew
                  replace Qq23 := Qq23.drew
                  replace Qq25 := Qq25.drew
                  replace Xg28 := Xg28.drew
                  replace Qq30 := Qq30.drew
                  replace Qq32 := Qq32.drew
                  replace Qq34 := Qq34.drew
                  replace Qq37 := Qq37.drew
                  replace Qq40 := Qq40.drew
                  replace Xg43 := Xg43.drew
                  replace Xg46 := Xg46.drew
                  replace M59 := M59.drew
                  replace Nn61 := Nn61.keep (Below.refl _ _).drew
                  replace Nn63 := Nn63.keep (Below.refl _ _).drew
                  replace Qq65 := Qq65.drew
                  replace Xg68 := Xg68.drew
                  replace QF := fun j hj => (QF j hj).drew
                  refine gc_draw (fun w' => Blk w' g46 (wl R n) 40 ∧ Blk w' g68 [.slice aq65 kq65 dq65, .slice bq65 lq65 eq65] 40 ∧ Below w.heap.size w w') (fun _ => false) ⟨Xg46, Xg68, BB⟩ ?_
                  refine z 0 142 (pg gL14) ?_
                  refine z 1 143 (.int .i64 (m : Int)) ?_
                  refine zr 2 144 (.int .u64 (m : Int)) (fun _ _ => run_iu (⟨by omega, by omega⟩)) ?_
                  refine z 4 146 (.slice (some ⟨g46, 0, none⟩) n n) ?_
                  refine z 5 147 (.int .i64 (m : Int)) ?_
                  refine zr 6 148 (pq g46 (m * 2)) (fun _ _ => congr_v (by simp) (run_ixs 2 g46 0 n n m hk_m)) ?_
                  have Q72 := QF m (by omega)
                  refine zlr 7 149 [.slice (R m).1 (R m).2.1 (R m).2.2.1, .slice (R m).2.2.2.1 (R m).2.2.2.2.1 (R m).2.2.2.2.2] (fun _ h => h.1) (m * 2) (hr := (wl_at R hk_m)) ?_
                  refine zlr 8 150 [.slice aq65 kq65 dq65, .slice bq65 lq65 eq65] (fun _ h => h.2.1) 0 ?_
                  refine zc 3 145 23 #[pg gL14, .int .u64 16, .int .u64 (m : Int)] (rdl (lStake ⟨by decide, by decide⟩ ⟨by omega, by omega⟩ M59 (L := 6400) (fa_fs (o1.up (by decide)) (w1.up (by decide)) ⟨by decide, by decide +kernel⟩ ⟨by decide, by decide +kernel⟩ (by decide)) (by decide) (by rw [GS_len]; omega)) (show sWorth (G1 n oA wD 1 1) 16 (m : Int) = wD m from worth16 hk_m)) ?_
                  rintro _ v74 ⟨aq73, kq73, dq73, bq73, lq73, eq73, rfl, Qq73, B⟩
                  replace BB := joinB BB B
                  replace Xg2 := Xg2.keep B
                  replace Xg4 := Xg4.keep B
                  replace Qq19 := Qq19.keep B
                  replace Nn21 := Nn21.keep B
                  replace Qq23 := Qq23.keep B
                  replace Qq25 := Qq25.keep B
                  replace Xg28 := Xg28.keep B
                  replace Qq30 := Qq30.keep B
                  replace Qq32 := Qq32.keep B
                  replace Qq34 := Qq34.keep B
                  replace Qq37 := Qq37.keep B
                  replace Qq40 := Qq40.keep B
                  replace Xg43 := Xg43.keep B
                  replace Xg46 := Xg46.keep B
                  replace M59 := M59.keep B
                  replace Nn61 := Nn61.keep B
                  replace Nn63 := Nn63.keep B
                  replace Qq65 := Qq65.keep B
                  replace Xg68 := Xg68.keep B
                  replace Q72 := Q72.keep B
                  replace QF := fun (j : Nat) (hj : j < n) => (QF j hj).keep B
                  clear B
                  refine ⟨_, rfl, ⟨Xg46, Xg68, BB⟩, ?_⟩
                  refine zc 9 151 39 #[.agg #[.slice (R m).1 (R m).2.1 (R m).2.2.1, .slice (R m).2.2.2.1 (R m).2.2.2.2.1 (R m).2.2.2.2.2], .agg #[.slice aq65 kq65 dq65, .slice bq65 lq65 eq65]] (pMul (B := 4000) (Q72.v (ft_up (w0 m hk_m).2 (by decide))) (Qq65.v (ft_up frF.2 (by decide))) (by omega)) ?_
                  rintro _ v76 ⟨aq75, kq75, dq75, bq75, lq75, eq75, rfl, Qq75, B⟩
                  replace BB := joinB BB B
                  replace Xg2 := Xg2.keep B
                  replace Xg4 := Xg4.keep B
                  replace Qq19 := Qq19.keep B
                  replace Nn21 := Nn21.keep B
                  replace Qq23 := Qq23.keep B
                  replace Qq25 := Qq25.keep B
                  replace Xg28 := Xg28.keep B
                  replace Qq30 := Qq30.keep B
                  replace Qq32 := Qq32.keep B
                  replace Qq34 := Qq34.keep B
                  replace Qq37 := Qq37.keep B
                  replace Qq40 := Qq40.keep B
                  replace Xg43 := Xg43.keep B
                  replace Xg46 := Xg46.keep B
                  replace M59 := M59.keep B
                  replace Nn61 := Nn61.keep B
                  replace Nn63 := Nn63.keep B
                  replace Qq65 := Qq65.keep B
                  replace Xg68 := Xg68.keep B
                  replace Q72 := Q72.keep B
                  replace Qq73 := Qq73.keep B
                  replace QF := fun (j : Nat) (hj : j < n) => (QF j hj).keep B
                  clear B
                  refine ⟨_, rfl, ⟨Xg46, Xg68, BB⟩, ?_⟩
                  refine zc 10 152 16 #[.agg #[.slice aq73 kq73 dq73, .slice bq73 lq73 eq73], .agg #[.slice aq75 kq75 dq75, .slice bq75 lq75 eq75]] (pSameL (B := 4000) Qq73 Qq75 (ft_up (w1 m hk_m).2 (by decide)) (ft_up (ft_mul (w0 m hk_m).2 frF.2 (w0 m hk_m).1 frF.1) (by decide)) (by decide) (t := true) (decide_eq_true (we m))) ?_
                  rintro _ v77 ⟨rfl, B⟩
                  replace BB := joinB BB B
                  replace Xg2 := Xg2.keep B
                  replace Xg4 := Xg4.keep B
                  replace Qq19 := Qq19.keep B
                  replace Nn21 := Nn21.keep B
                  replace Qq23 := Qq23.keep B
                  replace Qq25 := Qq25.keep B
                  replace Xg28 := Xg28.keep B
                  replace Qq30 := Qq30.keep B
                  replace Qq32 := Qq32.keep B
                  replace Qq34 := Qq34.keep B
                  replace Qq37 := Qq37.keep B
                  replace Qq40 := Qq40.keep B
                  replace Xg43 := Xg43.keep B
                  replace Xg46 := Xg46.keep B
                  replace M59 := M59.keep B
                  replace Nn61 := Nn61.keep B
                  replace Nn63 := Nn63.keep B
                  replace Qq65 := Qq65.keep B
                  replace Xg68 := Xg68.keep B
                  replace Q72 := Q72.keep B
                  replace Qq73 := Qq73.keep B
                  replace Qq75 := Qq75.keep B
                  replace QF := fun (j : Nat) (hj : j < n) => (QF j hj).keep B
                  clear B
                  refine ⟨_, rfl, ⟨Xg46, Xg68, BB⟩, ?_⟩
                  refine z 11 153 (.bool false) ?_
                  refine gz_done ?_
                  refine ge_then ?_
                  refine gc_fr [(0, .slice ao n c), (10, .bool false), (12, pg gL14), (15, pg g43), (16, .slice (some ⟨g46, 0, none⟩) n n), (18, pg g68), (20, .int .i64 (m : Int)), (136, .int .i64 (m : Int)), (137, .slice ao n c), (138, .int .i64 ((n : Nat) : Int)), (139, .bool true), (142, pg gL14), (143, .int .i64 (m : Int)), (144, .int .u64 (m : Int)), (145, .agg #[.slice aq73 kq73 dq73, .slice bq73 lq73 eq73]), (146, .slice (some ⟨g46, 0, none⟩) n n), (147, .int .i64 (m : Int)), (148, pq g46 (m * 2)), (149, .agg #[.slice (R m).1 (R m).2.1 (R m).2.2.1, .slice (R m).2.2.2.1 (R m).2.2.2.2.1 (R m).2.2.2.2.2]), (150, .agg #[.slice aq65 kq65 dq65, .slice bq65 lq65 eq65]), (151, .agg #[.slice aq75 kq75 dq75, .slice bq75 lq75 eq75]), (152, .bool true), (153, .bool false)] (by kernel_rfl) ?_
                  refine gc_no ?_
                  refine gc_skip ?_
                  refine ge_bn ?_
                  refine ge_then ?_
                  refine gc_reg ?_
                  refine t 140 (.int .i64 (m : Int)) ?_
                  refine tq 141 (.int .i64 (IntKind.i64.wrap ((m : Int) + 1))) (.int .i64 ((m : Int) + 1)) (wi (by omega)) ?_
                  refine t 20 (.int .i64 ((m : Int) + 1)) ?_
                  refine gl_nil ?_
                  exact ge_round (m + 1) (by omega) ⟨by omega, BB, Xg2, Xg4, Qq19, Nn21, Qq23, Qq25, Xg28, Qq30, Qq32, Qq34, Qq37, Qq40, Xg43, M59, Nn61, Nn63, Qq65, Xg68, Xg46, QF⟩ (by kernel_rfl)
                · skip
                  refine tq 139 (.bool (decide ((m : Int) < ((n : Nat) : Int)))) (.bool false) (congrArg Value.bool (decide_eq_false c71)) ?_
                  refine gl_nil ?_
                  refine ge_then ?_
                  refine gc_no ?_
                  refine gc_exit ?_
                  refine ge_tx ?_
                  refine ge_tx ?_
                  refine ge_bx ?_
                  refine ge_then ?_
                  refine gc_seq ?_
                  replace Ny := Ny
                  replace Nr := Nr
                  replace BB := BB.drew
                  replace Xg2 := Xg2.drew
                  replace Xg4 := Xg4.drew
                  replace Qq19 := Qq19.drew
                  replace Nn21 := Nn21.keep (Below.refl _ _).drew
                  replace Qq23 := Qq23.drew
                  replace Qq25 := Qq25.drew
                  replace Xg28 := Xg28.drew
                  replace Qq30 := Qq30.drew
                  replace Qq32 := Qq32.drew
                  replace Qq34 := Qq34.drew
                  replace Qq37 := Qq37.drew
                  replace Qq40 := Qq40.drew
                  replace Xg43 := Xg43.drew
                  replace Xg46 := Xg46.drew
                  replace M59 := M59.drew
                  replace Nn61 := Nn61.keep (Below.refl _ _).drew
                  replace Nn63 := Nn63.keep (Below.refl _ _).drew
                  replace Qq65 := Qq65.drew
                  replace Xg68 := Xg68.drew
                  replace QF := fun j hj => (QF j hj).drew
                  refine gc_draw (fun w' => Blk w' g43 [.slice aq40 kq40 dq40, .slice bq40 lq40 eq40] 40 ∧ Below w.heap.size w w') (fun _ => false) ⟨Xg43, BB⟩ ?_
                  refine z 0 154 (pg gL14) ?_
                  refine zlr 2 156 [.slice aq40 kq40 dq40, .slice bq40 lq40 eq40] (fun _ h => h.1) 0 ?_
                  refine zc 1 155 29 #[pg gL14, .int .u64 16] (rdl (lOwes ⟨by decide, by decide⟩ M59 (L := 6400) (fa_fs (o1.up (by decide)) (w1.up (by decide)) ⟨by decide, by decide +kernel⟩ ⟨by decide, by decide +kernel⟩ (by decide)) (by decide) (by rw [GS_len]; omega)) (show sOwes (G1 n oA wD 1 1) 16 = (rs oA n) from owes16)) ?_
                  rintro _ v79 ⟨aq78, kq78, dq78, bq78, lq78, eq78, rfl, Qq78, B⟩
                  replace BB := joinB BB B
                  replace Xg2 := Xg2.keep B
                  replace Xg4 := Xg4.keep B
                  replace Qq19 := Qq19.keep B
                  replace Nn21 := Nn21.keep B
                  replace Qq23 := Qq23.keep B
                  replace Qq25 := Qq25.keep B
                  replace Xg28 := Xg28.keep B
                  replace Qq30 := Qq30.keep B
                  replace Qq32 := Qq32.keep B
                  replace Qq34 := Qq34.keep B
                  replace Qq37 := Qq37.keep B
                  replace Qq40 := Qq40.keep B
                  replace Xg43 := Xg43.keep B
                  replace Xg46 := Xg46.keep B
                  replace M59 := M59.keep B
                  replace Nn61 := Nn61.keep B
                  replace Nn63 := Nn63.keep B
                  replace Qq65 := Qq65.keep B
                  replace Xg68 := Xg68.keep B
                  replace QF := fun (j : Nat) (hj : j < n) => (QF j hj).keep B
                  clear B
                  refine ⟨_, rfl, ⟨Xg43, BB⟩, ?_⟩
                  refine zc 3 157 16 #[.agg #[.slice aq78 kq78 dq78, .slice bq78 lq78 eq78], .agg #[.slice aq40 kq40 dq40, .slice bq40 lq40 eq40]] (pSameL (B := 4000) Qq78 Qq40 (ft_up (rs_ft o1) (by omega)) (ft_up (rs_ft o1) (by omega)) (by decide) (t := true) (decide_eq_true (rfl))) ?_
                  rintro _ v80 ⟨rfl, B⟩
                  replace BB := joinB BB B
                  replace Xg2 := Xg2.keep B
                  replace Xg4 := Xg4.keep B
                  replace Qq19 := Qq19.keep B
                  replace Nn21 := Nn21.keep B
                  replace Qq23 := Qq23.keep B
                  replace Qq25 := Qq25.keep B
                  replace Xg28 := Xg28.keep B
                  replace Qq30 := Qq30.keep B
                  replace Qq32 := Qq32.keep B
                  replace Qq34 := Qq34.keep B
                  replace Qq37 := Qq37.keep B
                  replace Qq40 := Qq40.keep B
                  replace Xg43 := Xg43.keep B
                  replace Xg46 := Xg46.keep B
                  replace M59 := M59.keep B
                  replace Nn61 := Nn61.keep B
                  replace Nn63 := Nn63.keep B
                  replace Qq65 := Qq65.keep B
                  replace Xg68 := Xg68.keep B
                  replace Qq78 := Qq78.keep B
                  replace QF := fun (j : Nat) (hj : j < n) => (QF j hj).keep B
                  clear B
                  refine ⟨_, rfl, ⟨Xg43, BB⟩, ?_⟩
                  refine z 4 158 (.bool true) ?_
                  refine z 5 159 (pg gL14) ?_
                  refine zc 6 160 27 #[pg gL14, .int .u64 17] (rdl (lStakes ⟨by decide, by decide⟩ M59 (L := 6400) (fa_fs (o1.up (by decide)) (w1.up (by decide)) ⟨by decide, by decide +kernel⟩ ⟨by decide, by decide +kernel⟩ (by decide)) (by decide) (by rw [GS_len]; omega)) (show sStakes (G1 n oA wD 1 1) 17 = (1 : Rat) from stakes17)) ?_
                  rintro _ v82 ⟨aq81, kq81, dq81, bq81, lq81, eq81, rfl, Qq81, B⟩
                  replace BB := joinB BB B
                  replace Xg2 := Xg2.keep B
                  replace Xg4 := Xg4.keep B
                  replace Qq19 := Qq19.keep B
                  replace Nn21 := Nn21.keep B
                  replace Qq23 := Qq23.keep B
                  replace Qq25 := Qq25.keep B
                  replace Xg28 := Xg28.keep B
                  replace Qq30 := Qq30.keep B
                  replace Qq32 := Qq32.keep B
                  replace Qq34 := Qq34.keep B
                  replace Qq37 := Qq37.keep B
                  replace Qq40 := Qq40.keep B
                  replace Xg43 := Xg43.keep B
                  replace Xg46 := Xg46.keep B
                  replace M59 := M59.keep B
                  replace Nn61 := Nn61.keep B
                  replace Nn63 := Nn63.keep B
                  replace Qq65 := Qq65.keep B
                  replace Xg68 := Xg68.keep B
                  replace Qq78 := Qq78.keep B
                  replace QF := fun (j : Nat) (hj : j < n) => (QF j hj).keep B
                  clear B
                  refine ⟨_, rfl, ⟨Xg43, BB⟩, ?_⟩
                  refine zc 7 161 42 #[.int .u64 1, .int .u64 1] (frac_any (n := 1) (d := 1) ⟨by decide, by decide⟩ ⟨by decide, by decide⟩ (by decide)) ?_
                  rintro _ v84 ⟨aq83, kq83, dq83, bq83, lq83, eq83, rfl, Qq83, B⟩
                  replace BB := joinB BB B
                  replace Xg2 := Xg2.keep B
                  replace Xg4 := Xg4.keep B
                  replace Qq19 := Qq19.keep B
                  replace Nn21 := Nn21.keep B
                  replace Qq23 := Qq23.keep B
                  replace Qq25 := Qq25.keep B
                  replace Xg28 := Xg28.keep B
                  replace Qq30 := Qq30.keep B
                  replace Qq32 := Qq32.keep B
                  replace Qq34 := Qq34.keep B
                  replace Qq37 := Qq37.keep B
                  replace Qq40 := Qq40.keep B
                  replace Xg43 := Xg43.keep B
                  replace Xg46 := Xg46.keep B
                  replace M59 := M59.keep B
                  replace Nn61 := Nn61.keep B
                  replace Nn63 := Nn63.keep B
                  replace Qq65 := Qq65.keep B
                  replace Xg68 := Xg68.keep B
                  replace Qq78 := Qq78.keep B
                  replace Qq81 := Qq81.keep B
                  replace QF := fun (j : Nat) (hj : j < n) => (QF j hj).keep B
                  clear B
                  refine ⟨_, rfl, ⟨Xg43, BB⟩, ?_⟩
                  refine zc 8 162 16 #[.agg #[.slice aq81 kq81 dq81, .slice bq81 lq81 eq81], .agg #[.slice aq83 kq83 dq83, .slice bq83 lq83 eq83]] (pSameL (B := 4000) Qq81 Qq83 (by decide +kernel) (by decide +kernel) (by decide) (t := true) (decide_eq_true (by decide +kernel))) ?_
                  rintro _ v85 ⟨rfl, B⟩
                  replace BB := joinB BB B
                  replace Xg2 := Xg2.keep B
                  replace Xg4 := Xg4.keep B
                  replace Qq19 := Qq19.keep B
                  replace Nn21 := Nn21.keep B
                  replace Qq23 := Qq23.keep B
                  replace Qq25 := Qq25.keep B
                  replace Xg28 := Xg28.keep B
                  replace Qq30 := Qq30.keep B
                  replace Qq32 := Qq32.keep B
                  replace Qq34 := Qq34.keep B
                  replace Qq37 := Qq37.keep B
                  replace Qq40 := Qq40.keep B
                  replace Xg43 := Xg43.keep B
                  replace Xg46 := Xg46.keep B
                  replace M59 := M59.keep B
                  replace Nn61 := Nn61.keep B
                  replace Nn63 := Nn63.keep B
                  replace Qq65 := Qq65.keep B
                  replace Xg68 := Xg68.keep B
                  replace Qq78 := Qq78.keep B
                  replace Qq81 := Qq81.keep B
                  replace Qq83 := Qq83.keep B
                  replace QF := fun (j : Nat) (hj : j < n) => (QF j hj).keep B
                  clear B
                  refine ⟨_, rfl, ⟨Xg43, BB⟩, ?_⟩
                  refine z 9 163 (.bool true) ?_
                  refine z 10 10 (.bool true) ?_
                  refine gz_done ?_
                  refine ge_then ?_
                  refine gc_fr [(10, .bool true)] (by kernel_rfl) ?_
                  refine gc_ret ?_
                  refine ge_ret (.bool true) (rs1 10 (by kernel_rfl) (by kernel_rfl)) ?_
                  exact ⟨rfl, BB⟩
theorem walk (a0 : Option Addr) (len0 cap0 : Nat) (a1 : Option Addr) (len1 cap1 : Nat) (z1 : List Int) (a2 : Option Addr) (len2 cap2 : Nat) (z2 : List Int) (x3 : Int) (x4 : Int) (w : World) (w0 : DecsIn w a0 len0 cap0) (w1 : IsRow w a1 len1 cap1 z1) (w2 : IsRow w a2 len2 cap2 z2) (wx3 : (Lit.int .u64 x3).wf = true) (wx4 : (Lit.int .u64 x4).wf = true) : Calls Tryz.prog 5 #[.slice a0 len0 cap0, .agg #[.slice a1 len1 cap1], .agg #[.slice a2 len2 cap2], .int .u64 x3, .int .u64 x4] w fun e w' => e = .returned (.bool true) ∧ Below w.heap.size w w' := by
  obtain ⟨pb0, po0, aa0, ns0, cc0, xs0, DA0⟩ := w0.open
  obtain ⟨g1, o1, l1, hl1, hc1, hm1, W1, h1⟩ := w1.open
  have N1 : NatA w a1 len1 cap1 (val l1) := ⟨g1, o1, l1, hl1, hc1, W1, h1, rfl⟩
  obtain ⟨g2, o2, l2, hl2, hc2, hm2, W2, h2⟩ := w2.open
  have N2 : NatA w a2 len2 cap2 (val l2) := ⟨g2, o2, l2, hl2, hc2, W2, h2, rfl⟩
  have hw3 := bounds_u64 wx3
  have hx3 : 0 ≤ x3 ∧ x3 < 18446744073709551616 := by omega
  have hw4 := bounds_u64 wx4
  have hx4 : 0 ≤ x4 ∧ x4 < 18446744073709551616 := by omega
  exact gives_any DA0 N1 N2 hx3 hx4
end ledgerGives
end Go.Proofs.YtlbndpkdkdgggaaGreatDoor
