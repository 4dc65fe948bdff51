/- gleanlaw11.PowerTurns. -/
import Derived.Test.YtemkjdanemddpaaGreatJaj
import Derived.Test.YtemkjdanemddpaaGreatJat
namespace Go.Proofs.YtemkjdanemddpaaGreat
namespace Pt
open Go.RowKit Go.Lib Pg Gl So
set_option maxRecDepth 100000
set_option linter.unusedVariables false
set_option linter.unusedSimpArgs false
set_option maxHeartbeats 4000000
theorem powerTurns_walk {w : World} {a a' : Option Addr} {n c b o n' c' b' o' : Nat} {xs ys : Nat → Int} (u : Nu w a n b o xs) (u' : Nu w a' n' b' o' ys) (hn : n ≤ 9223372036854775807) (hn' : n' ≤ 9223372036854775807) (hnil : n = 0 → a = none → c = 0) (hnil' : n' = 0 → a' = none → c' = 0) : Calls Tryz.prog 4 #[.slice a n c, .slice a' n' c'] w fun e w' => e = .returned (.bool true) ∧ Below w.heap.size w w' := by
  have BB := Below.refl w.heap.size w
  refine gc_enter (n := 84) Tryz.func4 rfl (by kernel_rfl) (by kernel_rfl) ?_
  refine gc_seq ?_
  refine gc_reg ?_
  refine t 4 (.bool false) ?_
  refine gl_nil ?_
  refine ge_then ?_
  refine gc_seq ?_
  refine gc_seq ?_
  refine gc_reg ?_
  refine tc 14 6 #[] (Pw.known11) ?_
  rintro _ v1 ⟨rfl, B⟩
  refine ⟨_, rfl, ?_⟩
  replace BB := joinB BB B
  clear B
  refine t 15 (.bool false) ?_
  refine gl_nil ?_
  refine ge_then ?_
  refine gc_no ?_
  refine gc_skip ?_
  refine ge_then ?_
  refine gc_seq ?_
  refine gc_seq ?_
  refine gc_reg ?_
  refine t 16 (.slice a n c) ?_
  refine t 17 (.int .i64 ((n : Nat) : Int)) ?_
  by_cases c2 : (200 : Int) < ((n : Nat) : Int)
  · refine tq 18 (.bool (decide ((200 : Int) < ((n : Nat) : Int)))) (.bool true) (congrArg Value.bool (decide_eq_true c2)) ?_
    refine t 19 (.bool true) ?_
    refine tn 20 ?_
    refine tn 21 ?_
    refine tn 22 ?_
    refine t 23 (.bool true) ?_
    refine gl_nil ?_
    refine ge_then ?_
    refine gc_yes ?_
    refine gc_seq ?_
    refine gc_reg ?_
    refine t 4 (.bool true) ?_
    refine gl_nil ?_
    refine ge_then ?_
    refine gc_fr [(0, .slice a n c), (1, .slice a' n' c'), (4, .bool true)] (by kernel_rfl) ?_
    refine gc_ret ?_
    refine ge_tr ?_
    refine ge_ret (.bool true) (rs1 4 (by kernel_rfl) (by kernel_rfl)) ?_
    exact ⟨rfl, BB⟩
  · refine tq 18 (.bool (decide ((200 : Int) < ((n : Nat) : Int)))) (.bool false) (congrArg Value.bool (decide_eq_false c2)) ?_
    refine t 19 (.bool false) ?_
    refine t 20 (.slice a' n' c') ?_
    refine t 21 (.int .i64 ((n' : Nat) : Int)) ?_
    by_cases c3 : (200 : Int) < ((n' : Nat) : Int)
    · refine tq 22 (.bool (decide ((200 : Int) < ((n' : Nat) : Int)))) (.bool true) (congrArg Value.bool (decide_eq_true c3)) ?_
      refine t 23 (.bool true) ?_
      refine gl_nil ?_
      refine ge_then ?_
      refine gc_yes ?_
      refine gc_seq ?_
      refine gc_reg ?_
      refine t 4 (.bool true) ?_
      refine gl_nil ?_
      refine ge_then ?_
      refine gc_fr [(0, .slice a n c), (1, .slice a' n' c'), (4, .bool true)] (by kernel_rfl) ?_
      refine gc_ret ?_
      refine ge_tr ?_
      refine ge_ret (.bool true) (rs1 4 (by kernel_rfl) (by kernel_rfl)) ?_
      exact ⟨rfl, BB⟩
    · refine tq 22 (.bool (decide ((200 : Int) < ((n' : Nat) : Int)))) (.bool false) (congrArg Value.bool (decide_eq_false c3)) ?_
      refine t 23 (.bool false) ?_
      refine gl_nil ?_
      refine ge_then ?_
      refine gc_no ?_
      refine gc_skip ?_
      refine ge_then ?_
      refine gc_seq ?_
      refine gc_reg ?_
      refine t 24 (.slice a n c) ?_
      obtain ⟨ax, cx, v4, bx, hrx, Xx, B⟩ := app_all (c := c) (u.keep BB) (by omega) hnil
      refine tw 25 (.slice ax n cx) _ (run_apU hrx) ?_
      replace BB := joinB BB B
      clear B hrx
      refine t 26 (.slice a' n' c') ?_
      obtain ⟨ay, cy, v5, by2, hry, Xy, B⟩ := app_all (c := c') (u'.keep BB) (by omega) hnil'
      refine tw 27 (.slice ay n' cy) _ (run_apU hry) ?_
      replace BB := joinB BB B
      replace Xx := Xx.keep B
      clear B hry
      refine t 5 (.slice ax n cx) ?_
      refine t 6 (.slice ay n' cy) ?_
      refine gl_nil ?_
      refine ge_then ?_
      refine gc_fr [(0, .slice a n c), (1, .slice a' n' c'), (4, .bool false), (5, .slice ax n cx), (6, .slice ay n' cy)] (by kernel_rfl) ?_
      refine gc_seq ?_
      refine gc_seq ?_
      refine gc_reg ?_
      refine t 7 (.int .i64 0) ?_
      refine gl_nil ?_
      refine ge_then ?_
      refine gc_block ?_
      refine gc_loop (fun s => 2 - s) (fun (s : Nat) => [(0, .slice a n c), (1, .slice a' n' c'), (5, .slice ax n cx), (6, .slice ay n' cy), (7, .int .i64 (s : Int))]) (fun s w' => s ≤ 2 ∧ Below w.heap.size w w' ∧ Nu w' ax n bx 0 xs ∧ Nu w' ay n' by2 0 ys) (0 : Nat) ⟨Nat.zero_le _, BB, Xx, Xy⟩ (by kernel_rfl) ?_
      clear BB
      clear Xx
      clear Xy
      rintro i vs ⟨hi, BB, Xx, Xy⟩
      have BV := Below.refl vs.heap.size vs
      refine gc_seq ?_
      refine gc_seq ?_
      refine gc_reg ?_
      refine t 28 (.int .i64 (i : Int)) ?_
      by_cases c6 : (i : Int) < 2
      · refine tq 29 (.bool (decide ((i : Int) < 2))) (.bool true) (congrArg Value.bool (decide_eq_true c6)) ?_
        refine gl_nil ?_
        refine ge_then ?_
        refine gc_yes ?_
        refine gc_skip ?_
        refine ge_then ?_
        refine gc_seq ?_
        refine gc_block ?_
        refine gc_seq ?_
        refine gc_reg ?_
        refine t 33 (.slice ax n cx) ?_
        refine t 34 (.slice ay n' cy) ?_
        refine tc 35 22 #[.slice ax n cx, .slice ay n' cy] (turns_any (Xx.keep BV) (Xy.keep BV) (by omega) (by omega)) ?_
        rintro _ v7 ⟨va, vb, na, nb, fa, fb, rfl, Ua, Ub, Oa, Ob, hna, hnb, B⟩
        refine ⟨_, rfl, ?_⟩
        obtain ⟨aa, ca, rfl⟩ := Ua.shape
        obtain ⟨ab, cb, rfl⟩ := Ub.shape
        replace BV := joinB BV B
        clear B
        refine t 32 (.tuple #[.slice aa na ca, .slice ab nb cb]) ?_
        refine t 36 (.slice aa na ca) ?_
        refine t 37 (.slice ab nb cb) ?_
        refine t 8 (.slice aa na ca) ?_
        refine t 9 (.slice ab nb cb) ?_
        refine gl_nil ?_
        refine ge_then ?_
        refine gc_seq ?_
        refine gc_reg ?_
        refine t 39 (.slice a n c) ?_
        refine t 40 (.slice a' n' c') ?_
        have szv := BV.size
        refine tc 41 23 #[.slice a n c, .slice a' n' c'] (rturns_any ((u.keep BB).keep BV) ((u'.keep BB).keep BV) (by omega) (by omega)) ?_
        rintro _ v8 ⟨vc, vd, nc, nd, fc, fd, rfl, Uc, Ud, Oc, Od, hnc, hnd, B⟩
        refine ⟨_, rfl, ?_⟩
        obtain ⟨ac, cc, rfl⟩ := Uc.shape
        obtain ⟨ad, cd, rfl⟩ := Ud.shape
        obtain ⟨e1, ec⟩ := seg_inj (Oa.uniq Oc)
        obtain ⟨e2, ed⟩ := seg_inj (Ob.uniq Od)
        subst e1 e2
        clear Oa Ob Oc Od
        replace BV := joinB BV B
        replace Ua := Ua.keep B
        replace Ub := Ub.keep B
        clear B
        refine t 38 (.tuple #[.slice ac na cc, .slice ad nb cd]) ?_
        refine t 42 (.slice ac na cc) ?_
        refine t 43 (.slice ad nb cd) ?_
        refine t 10 (.slice ac na cc) ?_
        refine t 11 (.slice ad nb cd) ?_
        refine gl_nil ?_
        refine ge_then ?_
        refine gc_fr [(0, .slice a n c), (1, .slice a' n' c'), (5, .slice ax n cx), (6, .slice ay n' cy), (7, .int .i64 (i : Int)), (8, .slice aa na ca), (9, .slice ab nb cb), (10, .slice ac na cc), (11, .slice ad nb cd), (28, .int .i64 (i : Int)), (29, .bool true), (32, .tuple #[.slice aa na ca, .slice ab nb cb]), (33, .slice ax n cx), (34, .slice ay n' cy), (35, .tuple #[.slice aa na ca, .slice ab nb cb]), (36, .slice aa na ca), (37, .slice ab nb cb), (38, .tuple #[.slice ac na cc, .slice ad nb cd]), (39, .slice a n c), (40, .slice a' n' c'), (41, .tuple #[.slice ac na cc, .slice ad nb cd]), (42, .slice ac na cc), (43, .slice ad nb cd)] (by kernel_rfl) ?_
        refine gc_seq ?_
        refine gc_seq ?_
        refine gc_reg ?_
        refine t 44 (.slice aa na ca) ?_
        refine t 45 (.slice ac na cc) ?_
        obtain ⟨ba1, Na1, -⟩ := Ua.nu
        obtain ⟨ba2, Na2, -⟩ := Uc.nu
        refine tc 46 15 #[.slice aa na ca, .slice ac na cc] (numbers_nu (by omega) Na1 (Na2.ext (fun i hi => (ec i hi).symm))) ?_
        rintro _ v9 ⟨rfl, B⟩
        refine ⟨_, rfl, ?_⟩
        clear Na1 Na2
        replace BV := joinB BV B
        replace Ua := Ua.keep B
        replace Ub := Ub.keep B
        replace Uc := Uc.keep B
        replace Ud := Ud.keep B
        clear B
        refine t 47 (.bool false) ?_
        refine t 48 (.bool false) ?_
        refine t 49 (.slice ab nb cb) ?_
        refine t 50 (.slice ad nb cd) ?_
        obtain ⟨bb1, Nb1, -⟩ := Ub.nu
        obtain ⟨bb2, Nb2, -⟩ := Ud.nu
        refine tc 51 15 #[.slice ab nb cb, .slice ad nb cd] (numbers_nu (by omega) Nb1 (Nb2.ext (fun i hi => (ed i hi).symm))) ?_
        rintro _ v10 ⟨rfl, B⟩
        refine ⟨_, rfl, ?_⟩
        clear Nb1 Nb2
        replace BV := joinB BV B
        replace Ua := Ua.keep B
        replace Ub := Ub.keep B
        replace Uc := Uc.keep B
        replace Ud := Ud.keep B
        clear B
        refine t 52 (.bool false) ?_
        refine t 53 (.bool false) ?_
        refine t 54 (.bool false) ?_
        refine t 55 (.slice ax n cx) ?_
        refine t 56 (.slice a n c) ?_
        refine tc 57 15 #[.slice ax n cx, .slice a n c] (numbers_nu (by omega) (Xx.keep BV) ((u.keep BB).keep BV)) ?_
        rintro _ v11 ⟨rfl, B⟩
        refine ⟨_, rfl, ?_⟩
        replace BV := joinB BV B
        replace Ua := Ua.keep B
        replace Ub := Ub.keep B
        replace Uc := Uc.keep B
        replace Ud := Ud.keep B
        clear B
        refine t 58 (.bool false) ?_
        refine t 59 (.bool false) ?_
        refine t 60 (.bool false) ?_
        refine t 61 (.slice ay n' cy) ?_
        refine t 62 (.slice a' n' c') ?_
        refine tc 63 15 #[.slice ay n' cy, .slice a' n' c'] (numbers_nu (by omega) (Xy.keep BV) ((u'.keep BB).keep BV)) ?_
        rintro _ v12 ⟨rfl, B⟩
        refine ⟨_, rfl, ?_⟩
        replace BV := joinB BV B
        replace Ua := Ua.keep B
        replace Ub := Ub.keep B
        replace Uc := Uc.keep B
        replace Ud := Ud.keep B
        clear B
        refine t 64 (.bool false) ?_
        refine t 65 (.bool false) ?_
        refine gl_nil ?_
        refine ge_then ?_
        refine gc_fr [(0, .slice a n c), (1, .slice a' n' c'), (5, .slice ax n cx), (6, .slice ay n' cy), (7, .int .i64 (i : Int)), (8, .slice aa na ca), (9, .slice ab nb cb), (10, .slice ac na cc), (11, .slice ad nb cd), (28, .int .i64 (i : Int)), (29, .bool true), (32, .tuple #[.slice aa na ca, .slice ab nb cb]), (33, .slice ax n cx), (34, .slice ay n' cy), (35, .tuple #[.slice aa na ca, .slice ab nb cb]), (36, .slice aa na ca), (37, .slice ab nb cb), (38, .tuple #[.slice ac na cc, .slice ad nb cd]), (39, .slice a n c), (40, .slice a' n' c'), (41, .tuple #[.slice ac na cc, .slice ad nb cd]), (42, .slice ac na cc), (43, .slice ad nb cd), (44, .slice aa na ca), (45, .slice ac na cc), (46, .bool true), (47, .bool false), (48, .bool false), (49, .slice ab nb cb), (50, .slice ad nb cd), (51, .bool true), (52, .bool false), (53, .bool false), (54, .bool false), (55, .slice ax n cx), (56, .slice a n c), (57, .bool true), (58, .bool false), (59, .bool false), (60, .bool false), (61, .slice ay n' cy), (62, .slice a' n' c'), (63, .bool true), (64, .bool false), (65, .bool false)] (by kernel_rfl) ?_
        refine gc_no ?_
        refine gc_skip ?_
        refine ge_then ?_
        refine gc_seq ?_
        refine gc_seq ?_
        refine gc_reg ?_
        refine t 12 (.int .i64 0) ?_
        refine gl_nil ?_
        refine ge_then ?_
        refine gc_block ?_
        refine gc_loop (fun s => na - s.1) (fun (s : Nat × (Nat → Int) × (Nat → Int)) => [(0, .slice a n c), (1, .slice a' n' c'), (5, .slice ax n cx), (6, .slice ay n' cy), (7, .int .i64 (i : Int)), (8, .slice aa na ca), (9, .slice ab nb cb), (12, .int .i64 (s.1 : Int))]) (fun s w' => s.1 ≤ na ∧ Below vs.heap.size vs w' ∧ UB w' vs.heap.size (.slice aa na ca) na s.2.1 ∧ UB w' vs.heap.size (.slice ab nb cb) nb s.2.2) ((0, fa, fb) : Nat × (Nat → Int) × (Nat → Int)) ⟨Nat.zero_le _, BV, Ua, Ub⟩ (by kernel_rfl) ?_
        clear BV
        clear Ua
        clear Ub
        clear Uc
        clear Ud
        rintro ⟨j, fa2, fb2⟩ v13 ⟨hj, BV, Ua, Ub⟩
        dsimp only at hj BV Ua Ub
        refine gc_seq ?_
        refine gc_seq ?_
        refine gc_reg ?_
        refine t 66 (.int .i64 (j : Int)) ?_
        refine t 67 (.slice aa na ca) ?_
        refine t 68 (.int .i64 ((na : Nat) : Int)) ?_
        by_cases cj : (j : Int) < ((na : Nat) : Int)
        · have hk : j < na := by omega
          obtain ⟨gg, eg, hgg, XG, hcn, hcm⟩ := Ua.blk (by omega)
          refine tq 69 (.bool (decide ((j : Int) < ((na : Nat) : Int)))) (.bool true) (congrArg Value.bool (decide_eq_true cj)) ?_
          refine gl_nil ?_
          refine ge_then ?_
          refine gc_yes ?_
          refine gc_skip ?_
          refine ge_then ?_
          refine gc_seq ?_
          refine gc_block ?_
          refine gc_reg ?_
          refine t 72 (.slice aa na ca) ?_
          refine t 73 (.int .i64 (j : Int)) ?_
          refine tr 74 (pq gg j) (congr_v (by simp) (run_ixa 1 gg 0 na ca j hk (fun _ => eg))) ?_
          refine ts XG j (.int .u64 0) [.int .u64 0] (cs ca (pu fa2 j 0)) ?_ (hb := cs_fit (by omega)) (he := cs_put (by omega))
          intro v14 Y C
          obtain ⟨fa3, hfa3⟩ : ∃ z, z = pu fa2 j 0 := ⟨_, rfl⟩
          rw [← hfa3] at Y
          replace BV := belowC BV C hgg
          obtain ⟨fb4, Ub4⟩ := Ub.over XG Y C
          clear Ub
          have Ub := Ub4
          clear Ub4
          clear Ua XG C
          have Ua : UB _ vs.heap.size (.slice aa na ca) na fa3 := ⟨.inr ⟨gg, ca, by rw [eg], hgg, Y, hcn, hcm⟩⟩
          clear Y
          refine gl_nil ?_
          refine ge_bn ?_
          refine ge_then ?_
          refine gc_reg ?_
          refine t 70 (.int .i64 (j : Int)) ?_
          refine tq 71 (.int .i64 (IntKind.i64.wrap ((j : Int) + 1))) (.int .i64 ((j : Int) + 1)) (wi (by omega)) ?_
          refine t 12 (.int .i64 ((j : Int) + 1)) ?_
          refine gl_nil ?_
          exact ge_round ((j + 1, fa3, fb4) : Nat × (Nat → Int) × (Nat → Int)) (by show na - (j + 1) < na - j; omega) ⟨hk, BV, Ua, Ub⟩ (by kernel_rfl)
        · refine tq 69 (.bool (decide ((j : Int) < ((na : Nat) : Int)))) (.bool false) (congrArg Value.bool (decide_eq_false cj)) ?_
          refine gl_nil ?_
          refine ge_then ?_
          refine gc_no ?_
          refine gc_exit ?_
          refine ge_tx ?_
          refine ge_tx ?_
          refine ge_bx ?_
          refine ge_then ?_
          refine gc_seq ?_
          refine gc_reg ?_
          refine t 13 (.int .i64 0) ?_
          refine gl_nil ?_
          refine ge_then ?_
          refine gc_block ?_
          refine gc_loop (fun s => nb - s.1) (fun (s : Nat × (Nat → Int)) => [(0, .slice a n c), (1, .slice a' n' c'), (5, .slice ax n cx), (6, .slice ay n' cy), (7, .int .i64 (i : Int)), (8, .slice aa na ca), (9, .slice ab nb cb), (13, .int .i64 (s.1 : Int))]) (fun s w' => s.1 ≤ nb ∧ Below vs.heap.size vs w' ∧ UB w' vs.heap.size (.slice ab nb cb) nb s.2) ((0, fb2) : Nat × (Nat → Int)) ⟨Nat.zero_le _, BV, Ub⟩ (by kernel_rfl) ?_
          clear Ua
          clear Ub
          clear BV
          rintro ⟨j, fb3⟩ v15 ⟨hj, BV, Ub⟩
          dsimp only at hj BV Ub
          refine gc_seq ?_
          refine gc_seq ?_
          refine gc_reg ?_
          refine t 75 (.int .i64 (j : Int)) ?_
          refine t 76 (.slice ab nb cb) ?_
          refine t 77 (.int .i64 ((nb : Nat) : Int)) ?_
          by_cases cj : (j : Int) < ((nb : Nat) : Int)
          · have hk : j < nb := by omega
            obtain ⟨gg, eg, hgg, XG, hcn, hcm⟩ := Ub.blk (by omega)
            refine tq 78 (.bool (decide ((j : Int) < ((nb : Nat) : Int)))) (.bool true) (congrArg Value.bool (decide_eq_true cj)) ?_
            refine gl_nil ?_
            refine ge_then ?_
            refine gc_yes ?_
            refine gc_skip ?_
            refine ge_then ?_
            refine gc_seq ?_
            refine gc_block ?_
            refine gc_reg ?_
            refine t 81 (.slice ab nb cb) ?_
            refine t 82 (.int .i64 (j : Int)) ?_
            refine tr 83 (pq gg j) (congr_v (by simp) (run_ixa 1 gg 0 nb cb j hk (fun _ => eg))) ?_
            refine ts XG j (.int .u64 0) [.int .u64 0] (cs cb (pu fb3 j 0)) ?_ (hb := cs_fit (by omega)) (he := cs_put (by omega))
            intro v16 Y C
            obtain ⟨fa3, hfa3⟩ : ∃ z, z = pu fb3 j 0 := ⟨_, rfl⟩
            rw [← hfa3] at Y
            replace BV := belowC BV C hgg
            clear Ub XG C
            have Ub : UB _ vs.heap.size (.slice ab nb cb) nb fa3 := ⟨.inr ⟨gg, cb, by rw [eg], hgg, Y, hcn, hcm⟩⟩
            clear Y
            refine gl_nil ?_
            refine ge_bn ?_
            refine ge_then ?_
            refine gc_reg ?_
            refine t 79 (.int .i64 (j : Int)) ?_
            refine tq 80 (.int .i64 (IntKind.i64.wrap ((j : Int) + 1))) (.int .i64 ((j : Int) + 1)) (wi (by omega)) ?_
            refine t 13 (.int .i64 ((j : Int) + 1)) ?_
            refine gl_nil ?_
            exact ge_round ((j + 1, fa3) : Nat × (Nat → Int)) (by show nb - (j + 1) < nb - j; omega) ⟨hk, BV, Ub⟩ (by kernel_rfl)
          · refine tq 78 (.bool (decide ((j : Int) < ((nb : Nat) : Int)))) (.bool false) (congrArg Value.bool (decide_eq_false cj)) ?_
            refine gl_nil ?_
            refine ge_then ?_
            refine gc_no ?_
            refine gc_exit ?_
            refine ge_tx ?_
            refine ge_tx ?_
            refine ge_bx ?_
            refine ge_bn ?_
            refine ge_then ?_
            refine gc_reg ?_
            refine t 30 (.int .i64 (i : Int)) ?_
            refine tq 31 (.int .i64 (IntKind.i64.wrap ((i : Int) + 1))) (.int .i64 ((i : Int) + 1)) (wi (by omega)) ?_
            refine t 7 (.int .i64 ((i : Int) + 1)) ?_
            refine gl_nil ?_
            exact ge_round (i + 1) (by show 2 - (i + 1) < 2 - i; omega) ⟨by omega, joinB BB BV, Xx.keep BV, Xy.keep BV⟩ (by kernel_rfl)
      · refine tq 29 (.bool (decide ((i : Int) < 2))) (.bool false) (congrArg Value.bool (decide_eq_false c6)) ?_
        refine gl_nil ?_
        refine ge_then ?_
        refine gc_no ?_
        refine gc_exit ?_
        refine ge_tx ?_
        refine ge_tx ?_
        refine ge_bx ?_
        refine ge_then ?_
        refine gc_seq ?_
        refine gc_reg ?_
        refine t 4 (.bool true) ?_
        refine gl_nil ?_
        refine ge_then ?_
        refine gc_ret ?_
        refine ge_ret (.bool true) (rs1 4 (by kernel_rfl) (by kernel_rfl)) ?_
        exact ⟨rfl, BB⟩
end Pt
end Go.Proofs.YtemkjdanemddpaaGreat
