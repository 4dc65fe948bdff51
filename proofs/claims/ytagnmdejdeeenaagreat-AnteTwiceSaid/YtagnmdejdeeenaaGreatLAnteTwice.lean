/- gleanlaw18.AnteTwice. -/
import Derived.Test.YtagnmdejdeeenaaGreatJao
namespace Go.Proofs.YtagnmdejdeeenaaGreat
namespace Bk
open Go.RowKit Go.Lib Pg Lim Gl Kv
set_option maxRecDepth 100000
set_option maxHeartbeats 4000000
set_option linter.unusedVariables false
theorem run_bld {ρ : Operand → Value} {w : World} {o : Oper} {x y : Int} (ho : ∃ u v, o.op = .build 52 #[(0, u), (1, v)] ∧ ρ u = .int .u64 x ∧ ρ v = .int .u64 y := by exact ⟨_, _, rfl, by kernel_rfl, by kernel_rfl⟩) : (execOp ρ o).run Tryz.prog w = .ok (.value (.agg #[.int .u64 x, .int .u64 y])) w := by
  obtain ⟨u, v, h, h1, h2⟩ := ho
  simp only [execOp, h]
  go_simp
theorem all_put {f : Int} : AllA (put [] pk (ppv f)) := fun e h => by
  rcases put_mem h with h | rfl
  · cases h
  · exact .inr rfl
theorem anteTwice_walk {w : World} {fe : Int} {ao aT : Option Addr} {n c nT cT pb po tb to : Nat} {cI cC xS xQ xF xM xA xB xC : Nat → Int} (hfe : U64 fe) (CS : PrsA w ao n pb po cI cC) (TS : TxsA w aT nT tb to xS xQ xF xM xA xB xC) : Calls Tryz.prog 4 #[.int .u64 fe, .slice ao n c, .slice aT nT cT] w fun e w' => e = .returned (.bool true) ∧ Below w.heap.size w w' := by
  have BB := Below.refl w.heap.size w
  refine gc_enter (n := 137) Tryz.func4 rfl (by kernel_rfl) (by kernel_rfl) ?_
  refine gc_seq ?_
  refine gc_reg ?_
  refine t 6 (.bool false) ?_
  refine gl_nil ?_
  refine ge_then ?_
  refine gc_seq ?_
  refine gc_seq ?_
  refine gc_reg ?_
  refine tc 13 5 #[] (known18) ?_
  rintro _ v1 ⟨rfl, B⟩
  refine ⟨_, rfl, ?_⟩
  replace BB := joinB BB B
  clear B
  refine t 14 (.bool false) ?_
  refine gl_nil ?_
  refine ge_then ?_
  refine gc_no ?_
  refine gc_skip ?_
  refine ge_then ?_
  refine gc_seq ?_
  refine gc_seq ?_
  refine gc_reg ?_
  refine t 15 (.slice ao n c) ?_
  refine t 16 (.int .i64 ((n : Nat) : Int)) ?_
  by_cases c2 : (50 : Int) < ((n : Nat) : Int)
  · refine tq 17 (.bool (decide ((50 : Int) < ((n : Nat) : Int)))) (.bool true) (congrArg Value.bool (decide_eq_true c2)) ?_
    refine t 18 (.bool true) ?_
    refine tn 19 ?_
    refine tn 20 ?_
    refine tn 21 ?_
    refine t 22 (.bool true) ?_
    refine gl_nil ?_
    refine ge_then ?_
    refine gc_fr [(0, .int .u64 fe), (1, .slice ao n c), (2, .slice aT nT cT), (6, .bool false), (22, .bool true)] (by kernel_rfl) ?_
    refine gc_yes ?_
    refine gc_seq ?_
    refine gc_reg ?_
    refine t 6 (.bool true) ?_
    refine gl_nil ?_
    refine ge_then ?_
    refine gc_ret ?_
    refine ge_tr ?_
    refine ge_ret (.bool true) (rs1 6 (by kernel_rfl) (by kernel_rfl)) ?_
    exact ⟨rfl, BB⟩
  · refine tq 17 (.bool (decide ((50 : Int) < ((n : Nat) : Int)))) (.bool false) (congrArg Value.bool (decide_eq_false c2)) ?_
    refine t 18 (.bool false) ?_
    refine t 19 (.slice aT nT cT) ?_
    refine t 20 (.int .i64 ((nT : Nat) : Int)) ?_
    by_cases c3 : (100 : Int) < ((nT : Nat) : Int)
    · refine tq 21 (.bool (decide ((100 : Int) < ((nT : Nat) : Int)))) (.bool true) (congrArg Value.bool (decide_eq_true c3)) ?_
      refine t 22 (.bool true) ?_
      refine gl_nil ?_
      refine ge_then ?_
      refine gc_fr [(0, .int .u64 fe), (1, .slice ao n c), (2, .slice aT nT cT), (6, .bool false), (22, .bool true)] (by kernel_rfl) ?_
      refine gc_yes ?_
      refine gc_seq ?_
      refine gc_reg ?_
      refine t 6 (.bool true) ?_
      refine gl_nil ?_
      refine ge_then ?_
      refine gc_ret ?_
      refine ge_tr ?_
      refine ge_ret (.bool true) (rs1 6 (by kernel_rfl) (by kernel_rfl)) ?_
      exact ⟨rfl, BB⟩
    · refine tq 21 (.bool (decide ((100 : Int) < ((nT : Nat) : Int)))) (.bool false) (congrArg Value.bool (decide_eq_false c3)) ?_
      refine t 22 (.bool false) ?_
      refine gl_nil ?_
      refine ge_then ?_
      refine gc_fr [(0, .int .u64 fe), (1, .slice ao n c), (2, .slice aT nT cT), (6, .bool false), (22, .bool false)] (by kernel_rfl) ?_
      refine gc_no ?_
      refine gc_skip ?_
      refine ge_then ?_
      refine gc_seq ?_
      refine gc_reg ?_
      have hwB := BB.size
      obtain ⟨Bz, hBz⟩ : ∃ Bz, Bz = (v1).heap.size := ⟨_, rfl⟩
      rw [← hBz] at hwB
      refine tc 23 6 #[] (snewB Bz hBz) ?_
      rintro _ v4 ⟨g0, K0, rfl, S0, hK0, B0⟩
      refine ⟨_, rfl, ?_⟩
      replace BB := joinB BB B0
      have A := S0.at
      clear S0
      refine t 7 (pg g0) ?_
      refine gl_nil ?_
      refine ge_then ?_
      refine gc_seq ?_
      refine gc_reg ?_
      refine t 24 (pg g0) ?_
      refine t 25 (.int .u64 fe) ?_
      refine t 26 (.agg #[.int .u64 0, .int .u64 0, .int .u64 0, .int .u64 0, .int .u64 0, .int .u64 0, .int .u64 0, .int .u64 0, .int .u64 fe, .int .u64 0]) ?_
      refine tc 27 7 #[pg g0, .agg #[.int .u64 0, .int .u64 0, .int .u64 0, .int .u64 0, .int .u64 0, .int .u64 0, .int .u64 0, .int .u64 0, .int .u64 fe, .int .u64 0]] (setp_any (f := fe) A.sx (by omega) (by omega)) ?_
      rintro _ v6 ⟨rfl, K5, S, hK, hC⟩
      refine ⟨_, rfl, ?_⟩
      replace BB := belowO BB hC (fun b hb => Nat.le_trans hwB (A.sx.kb b hb))
      replace A := A.op S hK hC
      clear S hK hC
      refine gl_nil ?_
      refine ge_then ?_
      refine gc_seq ?_
      refine gc_seq ?_
      refine gc_reg ?_
      refine t 8 (.int .i64 0) ?_
      refine gl_nil ?_
      refine ge_then ?_
      refine gc_block ?_
      refine gc_loop (fun s => n - s) (fun (s : Nat) => [(0, .int .u64 fe), (1, .slice ao n c), (2, .slice aT nT cT), (7, pg g0), (8, .int .i64 (s : Int))]) (fun s w' => s ≤ n ∧ Below w.heap.size w w' ∧ ∃ K E nn NN, Sx Bz w' K g0 E [] nn NN ∧ nn ≤ 10 + s * 10 ∧ NN ≤ 10 + s * 10 ∧ AllA E ∧ fee E = fe) (0 : Nat) ⟨Nat.zero_le _, BB, _, _, _, _, A.sx, by omega, by omega, all_put, fee_put List.Pairwise.nil hfe⟩ (by kernel_rfl) ?_
      clear BB
      clear A
      rintro i v7 ⟨hi, BB, K, E, nn, NN, S, hnn, hNN, hAll, hfee⟩
      have A := S.at
      clear S
      have okE := A.sx.ok hAll
      have hwv := BB.size
      refine gc_seq ?_
      refine gc_seq ?_
      refine gc_reg ?_
      refine t 28 (.int .i64 (i : Int)) ?_
      refine t 29 (.slice ao n c) ?_
      refine t 30 (.int .i64 ((n : Nat) : Int)) ?_
      by_cases ci8 : (i : Int) < ((n : Nat) : Int)
      · have hk_i : i < n := by omega
        obtain ⟨rI, rC⟩ := CS.rng i hk_i
        refine tq 31 (.bool (decide ((i : Int) < ((n : Nat) : Int)))) (.bool true) (congrArg Value.bool (decide_eq_true ci8)) ?_
        refine gl_nil ?_
        refine ge_then ?_
        refine gc_yes ?_
        refine gc_skip ?_
        refine ge_then ?_
        refine gc_seq ?_
        refine gc_block ?_
        replace BB := BB.drew
        replace A := A.drew
        refine gc_draw (fun w' => Below w.heap.size w w') (fun _ => false) BB ?_
        refine z 0 34 (pg g0) ?_
        refine z 1 35 (.slice ao n c) ?_
        refine z 2 36 (.int .i64 (i : Int)) ?_
        refine zr 3 37 (pq pb (po + i * 2)) (fun _ h => run_ixa 2 pb po n c i hk_i CS.ptr) ?_
        refine z 4 38 (pq pb (po + i * 2)) ?_
        refine zr 5 39 (.int .u64 (cI i)) (fun _ h => run_ldu (cellB h (CS.cell i hk_i).1)) ?_
        refine z 6 40 (.slice ao n c) ?_
        refine z 7 41 (.int .i64 (i : Int)) ?_
        refine zr 8 42 (pq pb (po + i * 2)) (fun _ h => run_ixa 2 pb po n c i hk_i CS.ptr) ?_
        refine z 9 43 (pq pb (po + i * 2 + 1)) ?_
        refine zr 10 44 (.int .u64 (cC i)) (fun _ h => run_ldu (cellB h (CS.cell i hk_i).2)) ?_
        refine zc 11 45 9 #[pg g0, .int .u64 (cI i), .int .u64 (cC i)] (mint_any A.sx rI rC (by omega) (by omega)) ?_
        rintro _ v13 ⟨rfl, K10, n11, N12, S, qn11, qN12, hK, hC⟩
        replace BB := belowO BB hC (fun b hb => Nat.le_trans hwB (A.sx.kb b hb))
        replace A := A.op S hK hC
        clear S hK hC
        refine ⟨_, rfl, BB, ?_⟩
        refine gz_done ?_
        refine ge_bn ?_
        refine ge_then ?_
        refine gc_fr [(0, .int .u64 fe), (1, .slice ao n c), (2, .slice aT nT cT), (7, pg g0), (8, .int .i64 (i : Int)), (28, .int .i64 (i : Int)), (29, .slice ao n c), (30, .int .i64 ((n : Nat) : Int)), (31, .bool true), (34, pg g0), (35, .slice ao n c), (36, .int .i64 (i : Int)), (37, pq pb (po + i * 2)), (38, pq pb (po + i * 2)), (39, .int .u64 (cI i)), (40, .slice ao n c), (41, .int .i64 (i : Int)), (42, pq pb (po + i * 2)), (43, pq pb (po + i * 2 + 1)), (44, .int .u64 (cC i))] (by kernel_rfl) ?_
        refine gc_reg ?_
        refine t 32 (.int .i64 (i : Int)) ?_
        refine tq 33 (.int .i64 (IntKind.i64.wrap ((i : Int) + 1))) (.int .i64 ((i : Int) + 1)) (wi (by omega)) ?_
        refine t 8 (.int .i64 ((i : Int) + 1)) ?_
        refine gl_nil ?_
        exact ge_round (i + 1) (by show n - (i + 1) < n - i; omega) ⟨hk_i, BB, _, _, _, _, A.sx, by omega, by omega, mint_all hAll, (fee_mint okE.rise).trans hfee⟩ (by kernel_rfl)
      · refine tq 31 (.bool (decide ((i : Int) < ((n : Nat) : Int)))) (.bool false) (congrArg Value.bool (decide_eq_false ci8)) ?_
        refine gl_nil ?_
        refine ge_then ?_
        refine gc_no ?_
        refine gc_exit ?_
        refine ge_tx ?_
        refine ge_tx ?_
        refine ge_bx ?_
        refine ge_then ?_
        refine gc_seq ?_
        refine gc_seq ?_
        refine gc_reg ?_
        refine t 9 (.int .i64 0) ?_
        refine gl_nil ?_
        refine ge_then ?_
        refine gc_block ?_
        refine gc_loop (fun s => nT - s) (fun (s : Nat) => [(0, .int .u64 fe), (1, .slice ao n c), (2, .slice aT nT cT), (7, pg g0), (9, .int .i64 (s : Int))]) (fun s w' => s ≤ nT ∧ Below w.heap.size w w' ∧ ∃ K E nn NN, Sx Bz w' K g0 E [] nn NN ∧ nn ≤ 1000 + s * 100 ∧ NN ≤ 1000 + s * 100 ∧ AllA E ∧ fee E = fe) (0 : Nat) ⟨Nat.zero_le _, BB, _, _, _, _, A.sx, by omega, by omega, hAll, hfee⟩ (by kernel_rfl) ?_
        clear okE hAll hfee hwv hi hnn hNN
        clear BB
        clear A
        rintro i v15 ⟨hi, BB, K, E, nn, NN, S, hnn, hNN, hAll, hfee⟩
        have A := S.at
        clear S
        have okE := A.sx.ok hAll
        have hwv := BB.size
        refine gc_seq ?_
        refine gc_seq ?_
        refine gc_reg ?_
        refine t 46 (.int .i64 (i : Int)) ?_
        refine t 47 (.slice aT nT cT) ?_
        refine t 48 (.int .i64 ((nT : Nat) : Int)) ?_
        by_cases ci16 : (i : Int) < ((nT : Nat) : Int)
        · have hk_i : i < nT := by omega
          obtain ⟨rS, rQ, rF⟩ := TS.rng i hk_i
          refine tq 49 (.bool (decide ((i : Int) < ((nT : Nat) : Int)))) (.bool true) (congrArg Value.bool (decide_eq_true ci16)) ?_
          refine gl_nil ?_
          refine ge_then ?_
          refine gc_yes ?_
          refine gc_skip ?_
          refine ge_then ?_
          refine gc_seq ?_
          refine gc_block ?_
          refine gc_join (fun (s : Value × Nat × Nat) => [(0, .int .u64 fe), (1, .slice ao n c), (2, .slice aT nT cT), (7, pg g0), (9, .int .i64 (i : Int)), (10, s.1), (11, pg s.2.1), (12, pg s.2.2)]) (fun s w' => Below w.heap.size w w' ∧ Blk w' s.2.1 [.int .u64 (coin E (xS i)), .int .u64 (seqn E (xS i))] 52 ∧ Blk w' s.2.2 [.int .u64 (coin E 1), .int .u64 (seqn E 1)] 52 ∧ ∃ K' n' N' es nD wD, Sx Bz w' K' g0 E [] n' N' ∧ n' ≤ nn + 2 ∧ N' ≤ NN ∧ Zn K' nD wD w' ∧ PrA wD nD s.1 es ∧ es.map En.kl2 = E ∧ ¬ K' s.2.1 ∧ ¬ K' s.2.2) ?_ ?_
          · replace BB := BB.drew
            replace A := A.drew
            refine gc_draw (fun w' => Below w.heap.size w w') (fun _ => false) BB ?_
            refine z 0 52 (pg g0) ?_
            refine z 2 54 (pg g0) ?_
            refine z 3 55 (.slice aT nT cT) ?_
            refine z 4 56 (.int .i64 (i : Int)) ?_
            refine zr 5 57 (pq tb (to + i * 7)) (fun _ h => run_ixa 7 tb to nT cT i hk_i TS.ptr) ?_
            refine z 6 58 (pq tb (to + i * 7)) ?_
            refine zr 7 59 (.int .u64 (xS i)) (fun _ h => run_ldu (cellB h (TS.cell i hk_i).1)) ?_
            refine z 9 61 (pg g0) ?_
            refine gz_ready [1, 11, 12] ?_
            refine ga_call 1 (some 53) 14 #[pg g0] (dumpZ A.sx (by omega)) ?_ ?_
            · rintro _ v19 ⟨dp18, sp18, rfl, Pp18, ep18, Zp18, B⟩
              replace BB := joinB BB B
              replace A := A.keep B
              clear B
              refine ⟨_, rfl, BB, ?_⟩
              refine gz_ready [8, 11, 12] ?_
              refine ga_call 8 (some 60) 15 #[pg g0, .int .u64 (xS i)] (get_any A.sx rS (by omega) (by omega)) ?_ ?_
              · rintro _ v21 ⟨rfl, K20, S, hK, hC⟩
                replace BB := belowO BB hC (fun b hb => Nat.le_trans hwB (A.sx.kb b hb))
                replace Zp18 := Zp18.op hC hK
                replace A := A.op S hK hC
                clear S hK hC
                refine ⟨_, rfl, BB, ?_⟩
                refine gz_ready [10, 11, 12] ?_
                refine ga_call 10 (some 62) 15 #[pg g0, .int .u64 1] (get_any A.sx u1 (by omega) (by omega)) ?_ ?_
                · rintro _ v23 ⟨rfl, K22, S, hK, hC⟩
                  replace BB := belowO BB hC (fun b hb => Nat.le_trans hwB (A.sx.kb b hb))
                  replace Zp18 := Zp18.op hC hK
                  replace A := A.op S hK hC
                  clear S hK hC
                  refine ⟨_, rfl, BB, ?_⟩
                  refine gz_ready [11, 12] ?_
                  refine zaa 11 11 [.int .u64 0, .int .u64 0] 52 (pg) ?_ ?_
                  · intro v24 g25 Xg25 hg25 B
                    have yZp18g25 := Nat.le_trans Zp18.ext.2 hg25
                    have zg25 := Nat.le_trans A.size hg25
                    have nXg25 := A.new hg25
                    replace BB := joinB BB B
                    replace A := A.keep B
                    replace Zp18 := Zp18.keep B
                    clear B
                    refine ⟨BB, ?_⟩
                    have lXg25 := Xg25.lt
                    refine za 12 12 [.int .u64 0, .int .u64 0] 52 (pg) ?_
                    intro v26 g27 Xg27 hg27 B
                    have yZp18g27 := Nat.le_trans Zp18.ext.2 hg27
                    have zg27 := Nat.le_trans A.size hg27
                    have nXg27 := A.new hg27
                    replace BB := joinB BB B
                    replace A := A.keep B
                    replace Zp18 := Zp18.keep B
                    replace Xg25 := Xg25.keep B
                    clear B
                    refine ⟨BB, ?_⟩
                    refine z 13 10 (dp18) ?_
                    refine zs 14 Xg25 0 (.agg #[.int .u64 (coin E (xS i)), .int .u64 (seqn E (xS i))]) [.int .u64 (coin E (xS i)), .int .u64 (seqn E (xS i))] [.int .u64 (coin E (xS i)), .int .u64 (seqn E (xS i))] ?_
                    intro v28 Y C
                    replace BB := belowC BB C (by omega)
                    replace A := At.cell A Xg25 C zg25 nXg25 (by decide)
                    replace Zp18 := Zp18.cell C (by omega)
                    replace Xg27 := Xg27.chg C (show g27 ≠ g25 by omega)
                    clear C Xg25
                    have Xg25 := Y
                    clear Y
                    refine ⟨BB, ?_⟩
                    refine zs 15 Xg27 0 (.agg #[.int .u64 (coin E 1), .int .u64 (seqn E 1)]) [.int .u64 (coin E 1), .int .u64 (seqn E 1)] [.int .u64 (coin E 1), .int .u64 (seqn E 1)] ?_
                    intro v29 Y C
                    replace BB := belowC BB C (by omega)
                    replace A := At.cell A Xg27 C zg27 nXg27 (by decide)
                    replace Zp18 := Zp18.cell C (by omega)
                    replace Xg25 := Xg25.chg C (show g25 ≠ g27 by omega)
                    clear C Xg27
                    have Xg27 := Y
                    clear Y
                    refine ⟨BB, ?_⟩
                    refine gz_done ?_
                    exact ge_join ((dp18, g25, g27) : Value × Nat × Nat) ⟨BB, Xg25, Xg27, _, _, _, _, _, _, A.sx, by omega, by omega, Zp18, Pp18, ep18, nXg25, nXg27⟩ (by kernel_rfl)
                  refine zaa 12 12 [.int .u64 0, .int .u64 0] 52 (pg) ?_ ?_
                  · intro v30 g31 Xg31 hg31 B
                    have yZp18g31 := Nat.le_trans Zp18.ext.2 hg31
                    have zg31 := Nat.le_trans A.size hg31
                    have nXg31 := A.new hg31
                    replace BB := joinB BB B
                    replace A := A.keep B
                    replace Zp18 := Zp18.keep B
                    clear B
                    refine ⟨BB, ?_⟩
                    have lXg31 := Xg31.lt
                    refine za 11 11 [.int .u64 0, .int .u64 0] 52 (pg) ?_
                    intro v32 g33 Xg33 hg33 B
                    have yZp18g33 := Nat.le_trans Zp18.ext.2 hg33
                    have zg33 := Nat.le_trans A.size hg33
                    have nXg33 := A.new hg33
                    replace BB := joinB BB B
                    replace A := A.keep B
                    replace Zp18 := Zp18.keep B
                    replace Xg31 := Xg31.keep B
                    clear B
                    refine ⟨BB, ?_⟩
                    refine z 13 10 (dp18) ?_
                    refine zs 14 Xg33 0 (.agg #[.int .u64 (coin E (xS i)), .int .u64 (seqn E (xS i))]) [.int .u64 (coin E (xS i)), .int .u64 (seqn E (xS i))] [.int .u64 (coin E (xS i)), .int .u64 (seqn E (xS i))] ?_
                    intro v34 Y C
                    replace BB := belowC BB C (by omega)
                    replace A := At.cell A Xg33 C zg33 nXg33 (by decide)
                    replace Zp18 := Zp18.cell C (by omega)
                    replace Xg31 := Xg31.chg C (show g31 ≠ g33 by omega)
                    clear C Xg33
                    have Xg33 := Y
                    clear Y
                    refine ⟨BB, ?_⟩
                    refine zs 15 Xg31 0 (.agg #[.int .u64 (coin E 1), .int .u64 (seqn E 1)]) [.int .u64 (coin E 1), .int .u64 (seqn E 1)] [.int .u64 (coin E 1), .int .u64 (seqn E 1)] ?_
                    intro v35 Y C
                    replace BB := belowC BB C (by omega)
                    replace A := At.cell A Xg31 C zg31 nXg31 (by decide)
                    replace Zp18 := Zp18.cell C (by omega)
                    replace Xg33 := Xg33.chg C (show g33 ≠ g31 by omega)
                    clear C Xg31
                    have Xg31 := Y
                    clear Y
                    refine ⟨BB, ?_⟩
                    refine gz_done ?_
                    exact ge_join ((dp18, g33, g31) : Value × Nat × Nat) ⟨BB, Xg33, Xg31, _, _, _, _, _, _, A.sx, by omega, by omega, Zp18, Pp18, ep18, nXg33, nXg31⟩ (by kernel_rfl)
                  exact ga_nil
                refine zaa 11 11 [.int .u64 0, .int .u64 0] 52 (pg) ?_ ?_
                · intro v36 g37 Xg37 hg37 B
                  have yZp18g37 := Nat.le_trans Zp18.ext.2 hg37
                  have zg37 := Nat.le_trans A.size hg37
                  have nXg37 := A.new hg37
                  replace BB := joinB BB B
                  replace A := A.keep B
                  replace Zp18 := Zp18.keep B
                  clear B
                  refine ⟨BB, ?_⟩
                  refine gz_ready [10, 12] ?_
                  refine ga_call 10 (some 62) 15 #[pg g0, .int .u64 1] (get_any A.sx u1 (by omega) (by omega)) ?_ ?_
                  · rintro _ v39 ⟨rfl, K38, S, hK, hC⟩
                    replace BB := belowO BB hC (fun b hb => Nat.le_trans hwB (A.sx.kb b hb))
                    replace Zp18 := Zp18.op hC hK
                    have mXg37 := not_op Xg37 nXg37 hK
                    replace Xg37 := Xg37.chg hC nXg37
                    replace nXg37 := mXg37
                    clear mXg37
                    replace A := A.op S hK hC
                    clear S hK hC
                    refine ⟨_, rfl, BB, ?_⟩
                    have lXg37 := Xg37.lt
                    refine za 12 12 [.int .u64 0, .int .u64 0] 52 (pg) ?_
                    intro v40 g41 Xg41 hg41 B
                    have yZp18g41 := Nat.le_trans Zp18.ext.2 hg41
                    have zg41 := Nat.le_trans A.size hg41
                    have nXg41 := A.new hg41
                    replace BB := joinB BB B
                    replace A := A.keep B
                    replace Zp18 := Zp18.keep B
                    replace Xg37 := Xg37.keep B
                    clear B
                    refine ⟨BB, ?_⟩
                    refine z 13 10 (dp18) ?_
                    refine zs 14 Xg37 0 (.agg #[.int .u64 (coin E (xS i)), .int .u64 (seqn E (xS i))]) [.int .u64 (coin E (xS i)), .int .u64 (seqn E (xS i))] [.int .u64 (coin E (xS i)), .int .u64 (seqn E (xS i))] ?_
                    intro v42 Y C
                    replace BB := belowC BB C (by omega)
                    replace A := At.cell A Xg37 C zg37 nXg37 (by decide)
                    replace Zp18 := Zp18.cell C (by omega)
                    replace Xg41 := Xg41.chg C (show g41 ≠ g37 by omega)
                    clear C Xg37
                    have Xg37 := Y
                    clear Y
                    refine ⟨BB, ?_⟩
                    refine zs 15 Xg41 0 (.agg #[.int .u64 (coin E 1), .int .u64 (seqn E 1)]) [.int .u64 (coin E 1), .int .u64 (seqn E 1)] [.int .u64 (coin E 1), .int .u64 (seqn E 1)] ?_
                    intro v43 Y C
                    replace BB := belowC BB C (by omega)
                    replace A := At.cell A Xg41 C zg41 nXg41 (by decide)
                    replace Zp18 := Zp18.cell C (by omega)
                    replace Xg37 := Xg37.chg C (show g37 ≠ g41 by omega)
                    clear C Xg41
                    have Xg41 := Y
                    clear Y
                    refine ⟨BB, ?_⟩
                    refine gz_done ?_
                    exact ge_join ((dp18, g37, g41) : Value × Nat × Nat) ⟨BB, Xg37, Xg41, _, _, _, _, _, _, A.sx, by omega, by omega, Zp18, Pp18, ep18, nXg37, nXg41⟩ (by kernel_rfl)
                  have lXg37 := Xg37.lt
                  refine zaa 12 12 [.int .u64 0, .int .u64 0] 52 (pg) ?_ ?_
                  · intro v44 g45 Xg45 hg45 B
                    have yZp18g45 := Nat.le_trans Zp18.ext.2 hg45
                    have zg45 := Nat.le_trans A.size hg45
                    have nXg45 := A.new hg45
                    replace BB := joinB BB B
                    replace A := A.keep B
                    replace Zp18 := Zp18.keep B
                    replace Xg37 := Xg37.keep B
                    clear B
                    refine ⟨BB, ?_⟩
                    refine zc 10 62 15 #[pg g0, .int .u64 1] (get_any A.sx u1 (by omega) (by omega)) ?_
                    rintro _ v47 ⟨rfl, K46, S, hK, hC⟩
                    replace BB := belowO BB hC (fun b hb => Nat.le_trans hwB (A.sx.kb b hb))
                    replace Zp18 := Zp18.op hC hK
                    have mXg37 := not_op Xg37 nXg37 hK
                    replace Xg37 := Xg37.chg hC nXg37
                    replace nXg37 := mXg37
                    clear mXg37
                    have mXg45 := not_op Xg45 nXg45 hK
                    replace Xg45 := Xg45.chg hC nXg45
                    replace nXg45 := mXg45
                    clear mXg45
                    replace A := A.op S hK hC
                    clear S hK hC
                    refine ⟨_, rfl, BB, ?_⟩
                    refine z 13 10 (dp18) ?_
                    refine zs 14 Xg37 0 (.agg #[.int .u64 (coin E (xS i)), .int .u64 (seqn E (xS i))]) [.int .u64 (coin E (xS i)), .int .u64 (seqn E (xS i))] [.int .u64 (coin E (xS i)), .int .u64 (seqn E (xS i))] ?_
                    intro v48 Y C
                    replace BB := belowC BB C (by omega)
                    replace A := At.cell A Xg37 C zg37 nXg37 (by decide)
                    replace Zp18 := Zp18.cell C (by omega)
                    replace Xg45 := Xg45.chg C (show g45 ≠ g37 by omega)
                    clear C Xg37
                    have Xg37 := Y
                    clear Y
                    refine ⟨BB, ?_⟩
                    refine zs 15 Xg45 0 (.agg #[.int .u64 (coin E 1), .int .u64 (seqn E 1)]) [.int .u64 (coin E 1), .int .u64 (seqn E 1)] [.int .u64 (coin E 1), .int .u64 (seqn E 1)] ?_
                    intro v49 Y C
                    replace BB := belowC BB C (by omega)
                    replace A := At.cell A Xg45 C zg45 nXg45 (by decide)
                    replace Zp18 := Zp18.cell C (by omega)
                    replace Xg37 := Xg37.chg C (show g37 ≠ g45 by omega)
                    clear C Xg45
                    have Xg45 := Y
                    clear Y
                    refine ⟨BB, ?_⟩
                    refine gz_done ?_
                    exact ge_join ((dp18, g37, g45) : Value × Nat × Nat) ⟨BB, Xg37, Xg45, _, _, _, _, _, _, A.sx, by omega, by omega, Zp18, Pp18, ep18, nXg37, nXg45⟩ (by kernel_rfl)
                  exact ga_nil
                refine zaa 12 12 [.int .u64 0, .int .u64 0] 52 (pg) ?_ ?_
                · intro v50 g51 Xg51 hg51 B
                  have yZp18g51 := Nat.le_trans Zp18.ext.2 hg51
                  have zg51 := Nat.le_trans A.size hg51
                  have nXg51 := A.new hg51
                  replace BB := joinB BB B
                  replace A := A.keep B
                  replace Zp18 := Zp18.keep B
                  clear B
                  refine ⟨BB, ?_⟩
                  refine gz_ready [10, 11] ?_
                  refine ga_call 10 (some 62) 15 #[pg g0, .int .u64 1] (get_any A.sx u1 (by omega) (by omega)) ?_ ?_
                  · rintro _ v53 ⟨rfl, K52, S, hK, hC⟩
                    replace BB := belowO BB hC (fun b hb => Nat.le_trans hwB (A.sx.kb b hb))
                    replace Zp18 := Zp18.op hC hK
                    have mXg51 := not_op Xg51 nXg51 hK
                    replace Xg51 := Xg51.chg hC nXg51
                    replace nXg51 := mXg51
                    clear mXg51
                    replace A := A.op S hK hC
                    clear S hK hC
                    refine ⟨_, rfl, BB, ?_⟩
                    have lXg51 := Xg51.lt
                    refine za 11 11 [.int .u64 0, .int .u64 0] 52 (pg) ?_
                    intro v54 g55 Xg55 hg55 B
                    have yZp18g55 := Nat.le_trans Zp18.ext.2 hg55
                    have zg55 := Nat.le_trans A.size hg55
                    have nXg55 := A.new hg55
                    replace BB := joinB BB B
                    replace A := A.keep B
                    replace Zp18 := Zp18.keep B
                    replace Xg51 := Xg51.keep B
                    clear B
                    refine ⟨BB, ?_⟩
                    refine z 13 10 (dp18) ?_
                    refine zs 14 Xg55 0 (.agg #[.int .u64 (coin E (xS i)), .int .u64 (seqn E (xS i))]) [.int .u64 (coin E (xS i)), .int .u64 (seqn E (xS i))] [.int .u64 (coin E (xS i)), .int .u64 (seqn E (xS i))] ?_
                    intro v56 Y C
                    replace BB := belowC BB C (by omega)
                    replace A := At.cell A Xg55 C zg55 nXg55 (by decide)
                    replace Zp18 := Zp18.cell C (by omega)
                    replace Xg51 := Xg51.chg C (show g51 ≠ g55 by omega)
                    clear C Xg55
                    have Xg55 := Y
                    clear Y
                    refine ⟨BB, ?_⟩
                    refine zs 15 Xg51 0 (.agg #[.int .u64 (coin E 1), .int .u64 (seqn E 1)]) [.int .u64 (coin E 1), .int .u64 (seqn E 1)] [.int .u64 (coin E 1), .int .u64 (seqn E 1)] ?_
                    intro v57 Y C
                    replace BB := belowC BB C (by omega)
                    replace A := At.cell A Xg51 C zg51 nXg51 (by decide)
                    replace Zp18 := Zp18.cell C (by omega)
                    replace Xg55 := Xg55.chg C (show g55 ≠ g51 by omega)
                    clear C Xg51
                    have Xg51 := Y
                    clear Y
                    refine ⟨BB, ?_⟩
                    refine gz_done ?_
                    exact ge_join ((dp18, g55, g51) : Value × Nat × Nat) ⟨BB, Xg55, Xg51, _, _, _, _, _, _, A.sx, by omega, by omega, Zp18, Pp18, ep18, nXg55, nXg51⟩ (by kernel_rfl)
                  have lXg51 := Xg51.lt
                  refine zaa 11 11 [.int .u64 0, .int .u64 0] 52 (pg) ?_ ?_
                  · intro v58 g59 Xg59 hg59 B
                    have yZp18g59 := Nat.le_trans Zp18.ext.2 hg59
                    have zg59 := Nat.le_trans A.size hg59
                    have nXg59 := A.new hg59
                    replace BB := joinB BB B
                    replace A := A.keep B
                    replace Zp18 := Zp18.keep B
                    replace Xg51 := Xg51.keep B
                    clear B
                    refine ⟨BB, ?_⟩
                    refine zc 10 62 15 #[pg g0, .int .u64 1] (get_any A.sx u1 (by omega) (by omega)) ?_
                    rintro _ v61 ⟨rfl, K60, S, hK, hC⟩
                    replace BB := belowO BB hC (fun b hb => Nat.le_trans hwB (A.sx.kb b hb))
                    replace Zp18 := Zp18.op hC hK
                    have mXg51 := not_op Xg51 nXg51 hK
                    replace Xg51 := Xg51.chg hC nXg51
                    replace nXg51 := mXg51
                    clear mXg51
                    have mXg59 := not_op Xg59 nXg59 hK
                    replace Xg59 := Xg59.chg hC nXg59
                    replace nXg59 := mXg59
                    clear mXg59
                    replace A := A.op S hK hC
                    clear S hK hC
                    refine ⟨_, rfl, BB, ?_⟩
                    refine z 13 10 (dp18) ?_
                    refine zs 14 Xg59 0 (.agg #[.int .u64 (coin E (xS i)), .int .u64 (seqn E (xS i))]) [.int .u64 (coin E (xS i)), .int .u64 (seqn E (xS i))] [.int .u64 (coin E (xS i)), .int .u64 (seqn E (xS i))] ?_
                    intro v62 Y C
                    replace BB := belowC BB C (by omega)
                    replace A := At.cell A Xg59 C zg59 nXg59 (by decide)
                    replace Zp18 := Zp18.cell C (by omega)
                    replace Xg51 := Xg51.chg C (show g51 ≠ g59 by omega)
                    clear C Xg59
                    have Xg59 := Y
                    clear Y
                    refine ⟨BB, ?_⟩
                    refine zs 15 Xg51 0 (.agg #[.int .u64 (coin E 1), .int .u64 (seqn E 1)]) [.int .u64 (coin E 1), .int .u64 (seqn E 1)] [.int .u64 (coin E 1), .int .u64 (seqn E 1)] ?_
                    intro v63 Y C
                    replace BB := belowC BB C (by omega)
                    replace A := At.cell A Xg51 C zg51 nXg51 (by decide)
                    replace Zp18 := Zp18.cell C (by omega)
                    replace Xg59 := Xg59.chg C (show g59 ≠ g51 by omega)
                    clear C Xg51
                    have Xg51 := Y
                    clear Y
                    refine ⟨BB, ?_⟩
                    refine gz_done ?_
                    exact ge_join ((dp18, g59, g51) : Value × Nat × Nat) ⟨BB, Xg59, Xg51, _, _, _, _, _, _, A.sx, by omega, by omega, Zp18, Pp18, ep18, nXg59, nXg51⟩ (by kernel_rfl)
                  exact ga_nil
                exact ga_nil
              refine zaa 11 11 [.int .u64 0, .int .u64 0] 52 (pg) ?_ ?_
              · intro v64 g65 Xg65 hg65 B
                have yZp18g65 := Nat.le_trans Zp18.ext.2 hg65
                have zg65 := Nat.le_trans A.size hg65
                have nXg65 := A.new hg65
                replace BB := joinB BB B
                replace A := A.keep B
                replace Zp18 := Zp18.keep B
                clear B
                refine ⟨BB, ?_⟩
                refine gz_ready [8, 12] ?_
                refine ga_call 8 (some 60) 15 #[pg g0, .int .u64 (xS i)] (get_any A.sx rS (by omega) (by omega)) ?_ ?_
                · rintro _ v67 ⟨rfl, K66, S, hK, hC⟩
                  replace BB := belowO BB hC (fun b hb => Nat.le_trans hwB (A.sx.kb b hb))
                  replace Zp18 := Zp18.op hC hK
                  have mXg65 := not_op Xg65 nXg65 hK
                  replace Xg65 := Xg65.chg hC nXg65
                  replace nXg65 := mXg65
                  clear mXg65
                  replace A := A.op S hK hC
                  clear S hK hC
                  refine ⟨_, rfl, BB, ?_⟩
                  refine gz_ready [10, 12] ?_
                  refine ga_call 10 (some 62) 15 #[pg g0, .int .u64 1] (get_any A.sx u1 (by omega) (by omega)) ?_ ?_
                  · rintro _ v69 ⟨rfl, K68, S, hK, hC⟩
                    replace BB := belowO BB hC (fun b hb => Nat.le_trans hwB (A.sx.kb b hb))
                    replace Zp18 := Zp18.op hC hK
                    have mXg65 := not_op Xg65 nXg65 hK
                    replace Xg65 := Xg65.chg hC nXg65
                    replace nXg65 := mXg65
                    clear mXg65
                    replace A := A.op S hK hC
                    clear S hK hC
                    refine ⟨_, rfl, BB, ?_⟩
                    have lXg65 := Xg65.lt
                    refine za 12 12 [.int .u64 0, .int .u64 0] 52 (pg) ?_
                    intro v70 g71 Xg71 hg71 B
                    have yZp18g71 := Nat.le_trans Zp18.ext.2 hg71
                    have zg71 := Nat.le_trans A.size hg71
                    have nXg71 := A.new hg71
                    replace BB := joinB BB B
                    replace A := A.keep B
                    replace Zp18 := Zp18.keep B
                    replace Xg65 := Xg65.keep B
                    clear B
                    refine ⟨BB, ?_⟩
                    refine z 13 10 (dp18) ?_
                    refine zs 14 Xg65 0 (.agg #[.int .u64 (coin E (xS i)), .int .u64 (seqn E (xS i))]) [.int .u64 (coin E (xS i)), .int .u64 (seqn E (xS i))] [.int .u64 (coin E (xS i)), .int .u64 (seqn E (xS i))] ?_
                    intro v72 Y C
                    replace BB := belowC BB C (by omega)
                    replace A := At.cell A Xg65 C zg65 nXg65 (by decide)
                    replace Zp18 := Zp18.cell C (by omega)
                    replace Xg71 := Xg71.chg C (show g71 ≠ g65 by omega)
                    clear C Xg65
                    have Xg65 := Y
                    clear Y
                    refine ⟨BB, ?_⟩
                    refine zs 15 Xg71 0 (.agg #[.int .u64 (coin E 1), .int .u64 (seqn E 1)]) [.int .u64 (coin E 1), .int .u64 (seqn E 1)] [.int .u64 (coin E 1), .int .u64 (seqn E 1)] ?_
                    intro v73 Y C
                    replace BB := belowC BB C (by omega)
                    replace A := At.cell A Xg71 C zg71 nXg71 (by decide)
                    replace Zp18 := Zp18.cell C (by omega)
                    replace Xg65 := Xg65.chg C (show g65 ≠ g71 by omega)
                    clear C Xg71
                    have Xg71 := Y
                    clear Y
                    refine ⟨BB, ?_⟩
                    refine gz_done ?_
                    exact ge_join ((dp18, g65, g71) : Value × Nat × Nat) ⟨BB, Xg65, Xg71, _, _, _, _, _, _, A.sx, by omega, by omega, Zp18, Pp18, ep18, nXg65, nXg71⟩ (by kernel_rfl)
                  have lXg65 := Xg65.lt
                  refine zaa 12 12 [.int .u64 0, .int .u64 0] 52 (pg) ?_ ?_
                  · intro v74 g75 Xg75 hg75 B
                    have yZp18g75 := Nat.le_trans Zp18.ext.2 hg75
                    have zg75 := Nat.le_trans A.size hg75
                    have nXg75 := A.new hg75
                    replace BB := joinB BB B
                    replace A := A.keep B
                    replace Zp18 := Zp18.keep B
                    replace Xg65 := Xg65.keep B
                    clear B
                    refine ⟨BB, ?_⟩
                    refine zc 10 62 15 #[pg g0, .int .u64 1] (get_any A.sx u1 (by omega) (by omega)) ?_
                    rintro _ v77 ⟨rfl, K76, S, hK, hC⟩
                    replace BB := belowO BB hC (fun b hb => Nat.le_trans hwB (A.sx.kb b hb))
                    replace Zp18 := Zp18.op hC hK
                    have mXg65 := not_op Xg65 nXg65 hK
                    replace Xg65 := Xg65.chg hC nXg65
                    replace nXg65 := mXg65
                    clear mXg65
                    have mXg75 := not_op Xg75 nXg75 hK
                    replace Xg75 := Xg75.chg hC nXg75
                    replace nXg75 := mXg75
                    clear mXg75
                    replace A := A.op S hK hC
                    clear S hK hC
                    refine ⟨_, rfl, BB, ?_⟩
                    refine z 13 10 (dp18) ?_
                    refine zs 14 Xg65 0 (.agg #[.int .u64 (coin E (xS i)), .int .u64 (seqn E (xS i))]) [.int .u64 (coin E (xS i)), .int .u64 (seqn E (xS i))] [.int .u64 (coin E (xS i)), .int .u64 (seqn E (xS i))] ?_
                    intro v78 Y C
                    replace BB := belowC BB C (by omega)
                    replace A := At.cell A Xg65 C zg65 nXg65 (by decide)
                    replace Zp18 := Zp18.cell C (by omega)
                    replace Xg75 := Xg75.chg C (show g75 ≠ g65 by omega)
                    clear C Xg65
                    have Xg65 := Y
                    clear Y
                    refine ⟨BB, ?_⟩
                    refine zs 15 Xg75 0 (.agg #[.int .u64 (coin E 1), .int .u64 (seqn E 1)]) [.int .u64 (coin E 1), .int .u64 (seqn E 1)] [.int .u64 (coin E 1), .int .u64 (seqn E 1)] ?_
                    intro v79 Y C
                    replace BB := belowC BB C (by omega)
                    replace A := At.cell A Xg75 C zg75 nXg75 (by decide)
                    replace Zp18 := Zp18.cell C (by omega)
                    replace Xg65 := Xg65.chg C (show g65 ≠ g75 by omega)
                    clear C Xg75
                    have Xg75 := Y
                    clear Y
                    refine ⟨BB, ?_⟩
                    refine gz_done ?_
                    exact ge_join ((dp18, g65, g75) : Value × Nat × Nat) ⟨BB, Xg65, Xg75, _, _, _, _, _, _, A.sx, by omega, by omega, Zp18, Pp18, ep18, nXg65, nXg75⟩ (by kernel_rfl)
                  exact ga_nil
                have lXg65 := Xg65.lt
                refine zaa 12 12 [.int .u64 0, .int .u64 0] 52 (pg) ?_ ?_
                · intro v80 g81 Xg81 hg81 B
                  have yZp18g81 := Nat.le_trans Zp18.ext.2 hg81
                  have zg81 := Nat.le_trans A.size hg81
                  have nXg81 := A.new hg81
                  replace BB := joinB BB B
                  replace A := A.keep B
                  replace Zp18 := Zp18.keep B
                  replace Xg65 := Xg65.keep B
                  clear B
                  refine ⟨BB, ?_⟩
                  refine zc 8 60 15 #[pg g0, .int .u64 (xS i)] (get_any A.sx rS (by omega) (by omega)) ?_
                  rintro _ v83 ⟨rfl, K82, S, hK, hC⟩
                  replace BB := belowO BB hC (fun b hb => Nat.le_trans hwB (A.sx.kb b hb))
                  replace Zp18 := Zp18.op hC hK
                  have mXg65 := not_op Xg65 nXg65 hK
                  replace Xg65 := Xg65.chg hC nXg65
                  replace nXg65 := mXg65
                  clear mXg65
                  have mXg81 := not_op Xg81 nXg81 hK
                  replace Xg81 := Xg81.chg hC nXg81
                  replace nXg81 := mXg81
                  clear mXg81
                  replace A := A.op S hK hC
                  clear S hK hC
                  refine ⟨_, rfl, BB, ?_⟩
                  refine zc 10 62 15 #[pg g0, .int .u64 1] (get_any A.sx u1 (by omega) (by omega)) ?_
                  rintro _ v85 ⟨rfl, K84, S, hK, hC⟩
                  replace BB := belowO BB hC (fun b hb => Nat.le_trans hwB (A.sx.kb b hb))
                  replace Zp18 := Zp18.op hC hK
                  have mXg65 := not_op Xg65 nXg65 hK
                  replace Xg65 := Xg65.chg hC nXg65
                  replace nXg65 := mXg65
                  clear mXg65
                  have mXg81 := not_op Xg81 nXg81 hK
                  replace Xg81 := Xg81.chg hC nXg81
                  replace nXg81 := mXg81
                  clear mXg81
                  replace A := A.op S hK hC
                  clear S hK hC
                  refine ⟨_, rfl, BB, ?_⟩
                  refine z 13 10 (dp18) ?_
                  refine zs 14 Xg65 0 (.agg #[.int .u64 (coin E (xS i)), .int .u64 (seqn E (xS i))]) [.int .u64 (coin E (xS i)), .int .u64 (seqn E (xS i))] [.int .u64 (coin E (xS i)), .int .u64 (seqn E (xS i))] ?_
                  intro v86 Y C
                  replace BB := belowC BB C (by omega)
                  replace A := At.cell A Xg65 C zg65 nXg65 (by decide)
                  replace Zp18 := Zp18.cell C (by omega)
                  replace Xg81 := Xg81.chg C (show g81 ≠ g65 by omega)
                  clear C Xg65
                  have Xg65 := Y
                  clear Y
                  refine ⟨BB, ?_⟩
                  refine zs 15 Xg81 0 (.agg #[.int .u64 (coin E 1), .int .u64 (seqn E 1)]) [.int .u64 (coin E 1), .int .u64 (seqn E 1)] [.int .u64 (coin E 1), .int .u64 (seqn E 1)] ?_
                  intro v87 Y C
                  replace BB := belowC BB C (by omega)
                  replace A := At.cell A Xg81 C zg81 nXg81 (by decide)
                  replace Zp18 := Zp18.cell C (by omega)
                  replace Xg65 := Xg65.chg C (show g65 ≠ g81 by omega)
                  clear C Xg81
                  have Xg81 := Y
                  clear Y
                  refine ⟨BB, ?_⟩
                  refine gz_done ?_
                  exact ge_join ((dp18, g65, g81) : Value × Nat × Nat) ⟨BB, Xg65, Xg81, _, _, _, _, _, _, A.sx, by omega, by omega, Zp18, Pp18, ep18, nXg65, nXg81⟩ (by kernel_rfl)
                exact ga_nil
              refine zaa 12 12 [.int .u64 0, .int .u64 0] 52 (pg) ?_ ?_
              · intro v88 g89 Xg89 hg89 B
                have yZp18g89 := Nat.le_trans Zp18.ext.2 hg89
                have zg89 := Nat.le_trans A.size hg89
                have nXg89 := A.new hg89
                replace BB := joinB BB B
                replace A := A.keep B
                replace Zp18 := Zp18.keep B
                clear B
                refine ⟨BB, ?_⟩
                refine gz_ready [8, 11] ?_
                refine ga_call 8 (some 60) 15 #[pg g0, .int .u64 (xS i)] (get_any A.sx rS (by omega) (by omega)) ?_ ?_
                · rintro _ v91 ⟨rfl, K90, S, hK, hC⟩
                  replace BB := belowO BB hC (fun b hb => Nat.le_trans hwB (A.sx.kb b hb))
                  replace Zp18 := Zp18.op hC hK
                  have mXg89 := not_op Xg89 nXg89 hK
                  replace Xg89 := Xg89.chg hC nXg89
                  replace nXg89 := mXg89
                  clear mXg89
                  replace A := A.op S hK hC
                  clear S hK hC
                  refine ⟨_, rfl, BB, ?_⟩
                  refine gz_ready [10, 11] ?_
                  refine ga_call 10 (some 62) 15 #[pg g0, .int .u64 1] (get_any A.sx u1 (by omega) (by omega)) ?_ ?_
                  · rintro _ v93 ⟨rfl, K92, S, hK, hC⟩
                    replace BB := belowO BB hC (fun b hb => Nat.le_trans hwB (A.sx.kb b hb))
                    replace Zp18 := Zp18.op hC hK
                    have mXg89 := not_op Xg89 nXg89 hK
                    replace Xg89 := Xg89.chg hC nXg89
                    replace nXg89 := mXg89
                    clear mXg89
                    replace A := A.op S hK hC
                    clear S hK hC
                    refine ⟨_, rfl, BB, ?_⟩
                    have lXg89 := Xg89.lt
                    refine za 11 11 [.int .u64 0, .int .u64 0] 52 (pg) ?_
                    intro v94 g95 Xg95 hg95 B
                    have yZp18g95 := Nat.le_trans Zp18.ext.2 hg95
                    have zg95 := Nat.le_trans A.size hg95
                    have nXg95 := A.new hg95
                    replace BB := joinB BB B
                    replace A := A.keep B
                    replace Zp18 := Zp18.keep B
                    replace Xg89 := Xg89.keep B
                    clear B
                    refine ⟨BB, ?_⟩
                    refine z 13 10 (dp18) ?_
                    refine zs 14 Xg95 0 (.agg #[.int .u64 (coin E (xS i)), .int .u64 (seqn E (xS i))]) [.int .u64 (coin E (xS i)), .int .u64 (seqn E (xS i))] [.int .u64 (coin E (xS i)), .int .u64 (seqn E (xS i))] ?_
                    intro v96 Y C
                    replace BB := belowC BB C (by omega)
                    replace A := At.cell A Xg95 C zg95 nXg95 (by decide)
                    replace Zp18 := Zp18.cell C (by omega)
                    replace Xg89 := Xg89.chg C (show g89 ≠ g95 by omega)
                    clear C Xg95
                    have Xg95 := Y
                    clear Y
                    refine ⟨BB, ?_⟩
                    refine zs 15 Xg89 0 (.agg #[.int .u64 (coin E 1), .int .u64 (seqn E 1)]) [.int .u64 (coin E 1), .int .u64 (seqn E 1)] [.int .u64 (coin E 1), .int .u64 (seqn E 1)] ?_
                    intro v97 Y C
                    replace BB := belowC BB C (by omega)
                    replace A := At.cell A Xg89 C zg89 nXg89 (by decide)
                    replace Zp18 := Zp18.cell C (by omega)
                    replace Xg95 := Xg95.chg C (show g95 ≠ g89 by omega)
                    clear C Xg89
                    have Xg89 := Y
                    clear Y
                    refine ⟨BB, ?_⟩
                    refine gz_done ?_
                    exact ge_join ((dp18, g95, g89) : Value × Nat × Nat) ⟨BB, Xg95, Xg89, _, _, _, _, _, _, A.sx, by omega, by omega, Zp18, Pp18, ep18, nXg95, nXg89⟩ (by kernel_rfl)
                  have lXg89 := Xg89.lt
                  refine zaa 11 11 [.int .u64 0, .int .u64 0] 52 (pg) ?_ ?_
                  · intro v98 g99 Xg99 hg99 B
                    have yZp18g99 := Nat.le_trans Zp18.ext.2 hg99
                    have zg99 := Nat.le_trans A.size hg99
                    have nXg99 := A.new hg99
                    replace BB := joinB BB B
                    replace A := A.keep B
                    replace Zp18 := Zp18.keep B
                    replace Xg89 := Xg89.keep B
                    clear B
                    refine ⟨BB, ?_⟩
                    refine zc 10 62 15 #[pg g0, .int .u64 1] (get_any A.sx u1 (by omega) (by omega)) ?_
                    rintro _ v101 ⟨rfl, K100, S, hK, hC⟩
                    replace BB := belowO BB hC (fun b hb => Nat.le_trans hwB (A.sx.kb b hb))
                    replace Zp18 := Zp18.op hC hK
                    have mXg89 := not_op Xg89 nXg89 hK
                    replace Xg89 := Xg89.chg hC nXg89
                    replace nXg89 := mXg89
                    clear mXg89
                    have mXg99 := not_op Xg99 nXg99 hK
                    replace Xg99 := Xg99.chg hC nXg99
                    replace nXg99 := mXg99
                    clear mXg99
                    replace A := A.op S hK hC
                    clear S hK hC
                    refine ⟨_, rfl, BB, ?_⟩
                    refine z 13 10 (dp18) ?_
                    refine zs 14 Xg99 0 (.agg #[.int .u64 (coin E (xS i)), .int .u64 (seqn E (xS i))]) [.int .u64 (coin E (xS i)), .int .u64 (seqn E (xS i))] [.int .u64 (coin E (xS i)), .int .u64 (seqn E (xS i))] ?_
                    intro v102 Y C
                    replace BB := belowC BB C (by omega)
                    replace A := At.cell A Xg99 C zg99 nXg99 (by decide)
                    replace Zp18 := Zp18.cell C (by omega)
                    replace Xg89 := Xg89.chg C (show g89 ≠ g99 by omega)
                    clear C Xg99
                    have Xg99 := Y
                    clear Y
                    refine ⟨BB, ?_⟩
                    refine zs 15 Xg89 0 (.agg #[.int .u64 (coin E 1), .int .u64 (seqn E 1)]) [.int .u64 (coin E 1), .int .u64 (seqn E 1)] [.int .u64 (coin E 1), .int .u64 (seqn E 1)] ?_
                    intro v103 Y C
                    replace BB := belowC BB C (by omega)
                    replace A := At.cell A Xg89 C zg89 nXg89 (by decide)
                    replace Zp18 := Zp18.cell C (by omega)
                    replace Xg99 := Xg99.chg C (show g99 ≠ g89 by omega)
                    clear C Xg89
                    have Xg89 := Y
                    clear Y
                    refine ⟨BB, ?_⟩
                    refine gz_done ?_
                    exact ge_join ((dp18, g99, g89) : Value × Nat × Nat) ⟨BB, Xg99, Xg89, _, _, _, _, _, _, A.sx, by omega, by omega, Zp18, Pp18, ep18, nXg99, nXg89⟩ (by kernel_rfl)
                  exact ga_nil
                have lXg89 := Xg89.lt
                refine zaa 11 11 [.int .u64 0, .int .u64 0] 52 (pg) ?_ ?_
                · intro v104 g105 Xg105 hg105 B
                  have yZp18g105 := Nat.le_trans Zp18.ext.2 hg105
                  have zg105 := Nat.le_trans A.size hg105
                  have nXg105 := A.new hg105
                  replace BB := joinB BB B
                  replace A := A.keep B
                  replace Zp18 := Zp18.keep B
                  replace Xg89 := Xg89.keep B
                  clear B
                  refine ⟨BB, ?_⟩
                  refine zc 8 60 15 #[pg g0, .int .u64 (xS i)] (get_any A.sx rS (by omega) (by omega)) ?_
                  rintro _ v107 ⟨rfl, K106, S, hK, hC⟩
                  replace BB := belowO BB hC (fun b hb => Nat.le_trans hwB (A.sx.kb b hb))
                  replace Zp18 := Zp18.op hC hK
                  have mXg89 := not_op Xg89 nXg89 hK
                  replace Xg89 := Xg89.chg hC nXg89
                  replace nXg89 := mXg89
                  clear mXg89
                  have mXg105 := not_op Xg105 nXg105 hK
                  replace Xg105 := Xg105.chg hC nXg105
                  replace nXg105 := mXg105
                  clear mXg105
                  replace A := A.op S hK hC
                  clear S hK hC
                  refine ⟨_, rfl, BB, ?_⟩
                  refine zc 10 62 15 #[pg g0, .int .u64 1] (get_any A.sx u1 (by omega) (by omega)) ?_
                  rintro _ v109 ⟨rfl, K108, S, hK, hC⟩
                  replace BB := belowO BB hC (fun b hb => Nat.le_trans hwB (A.sx.kb b hb))
                  replace Zp18 := Zp18.op hC hK
                  have mXg89 := not_op Xg89 nXg89 hK
                  replace Xg89 := Xg89.chg hC nXg89
                  replace nXg89 := mXg89
                  clear mXg89
                  have mXg105 := not_op Xg105 nXg105 hK
                  replace Xg105 := Xg105.chg hC nXg105
                  replace nXg105 := mXg105
                  clear mXg105
                  replace A := A.op S hK hC
                  clear S hK hC
                  refine ⟨_, rfl, BB, ?_⟩
                  refine z 13 10 (dp18) ?_
                  refine zs 14 Xg105 0 (.agg #[.int .u64 (coin E (xS i)), .int .u64 (seqn E (xS i))]) [.int .u64 (coin E (xS i)), .int .u64 (seqn E (xS i))] [.int .u64 (coin E (xS i)), .int .u64 (seqn E (xS i))] ?_
                  intro v110 Y C
                  replace BB := belowC BB C (by omega)
                  replace A := At.cell A Xg105 C zg105 nXg105 (by decide)
                  replace Zp18 := Zp18.cell C (by omega)
                  replace Xg89 := Xg89.chg C (show g89 ≠ g105 by omega)
                  clear C Xg105
                  have Xg105 := Y
                  clear Y
                  refine ⟨BB, ?_⟩
                  refine zs 15 Xg89 0 (.agg #[.int .u64 (coin E 1), .int .u64 (seqn E 1)]) [.int .u64 (coin E 1), .int .u64 (seqn E 1)] [.int .u64 (coin E 1), .int .u64 (seqn E 1)] ?_
                  intro v111 Y C
                  replace BB := belowC BB C (by omega)
                  replace A := At.cell A Xg89 C zg89 nXg89 (by decide)
                  replace Zp18 := Zp18.cell C (by omega)
                  replace Xg105 := Xg105.chg C (show g105 ≠ g89 by omega)
                  clear C Xg89
                  have Xg89 := Y
                  clear Y
                  refine ⟨BB, ?_⟩
                  refine gz_done ?_
                  exact ge_join ((dp18, g105, g89) : Value × Nat × Nat) ⟨BB, Xg105, Xg89, _, _, _, _, _, _, A.sx, by omega, by omega, Zp18, Pp18, ep18, nXg105, nXg89⟩ (by kernel_rfl)
                exact ga_nil
              exact ga_nil
            refine zaa 11 11 [.int .u64 0, .int .u64 0] 52 (pg) ?_ ?_
            · intro v112 g113 Xg113 hg113 B
              have zg113 := Nat.le_trans A.size hg113
              have nXg113 := A.new hg113
              replace BB := joinB BB B
              replace A := A.keep B
              clear B
              refine ⟨BB, ?_⟩
              refine gz_ready [1, 12] ?_
              have lXg113 := Xg113.lt
              refine ga_call 1 (some 53) 14 #[pg g0] (dumpZ A.sx (by omega)) ?_ ?_
              · rintro _ v115 ⟨dp114, sp114, rfl, Pp114, ep114, Zp114, B⟩
                replace BB := joinB BB B
                replace A := A.keep B
                replace Xg113 := Xg113.keep B
                clear B
                refine ⟨_, rfl, BB, ?_⟩
                refine gz_ready [8, 12] ?_
                refine ga_call 8 (some 60) 15 #[pg g0, .int .u64 (xS i)] (get_any A.sx rS (by omega) (by omega)) ?_ ?_
                · rintro _ v117 ⟨rfl, K116, S, hK, hC⟩
                  replace BB := belowO BB hC (fun b hb => Nat.le_trans hwB (A.sx.kb b hb))
                  have mXg113 := not_op Xg113 nXg113 hK
                  replace Xg113 := Xg113.chg hC nXg113
                  replace nXg113 := mXg113
                  clear mXg113
                  replace Zp114 := Zp114.op hC hK
                  replace A := A.op S hK hC
                  clear S hK hC
                  refine ⟨_, rfl, BB, ?_⟩
                  refine gz_ready [10, 12] ?_
                  refine ga_call 10 (some 62) 15 #[pg g0, .int .u64 1] (get_any A.sx u1 (by omega) (by omega)) ?_ ?_
                  · rintro _ v119 ⟨rfl, K118, S, hK, hC⟩
                    replace BB := belowO BB hC (fun b hb => Nat.le_trans hwB (A.sx.kb b hb))
                    have mXg113 := not_op Xg113 nXg113 hK
                    replace Xg113 := Xg113.chg hC nXg113
                    replace nXg113 := mXg113
                    clear mXg113
                    replace Zp114 := Zp114.op hC hK
                    replace A := A.op S hK hC
                    clear S hK hC
                    refine ⟨_, rfl, BB, ?_⟩
                    have lXg113 := Xg113.lt
                    refine za 12 12 [.int .u64 0, .int .u64 0] 52 (pg) ?_
                    intro v120 g121 Xg121 hg121 B
                    have yZp114g121 := Nat.le_trans Zp114.ext.2 hg121
                    have zg121 := Nat.le_trans A.size hg121
                    have nXg121 := A.new hg121
                    replace BB := joinB BB B
                    replace A := A.keep B
                    replace Xg113 := Xg113.keep B
                    replace Zp114 := Zp114.keep B
                    clear B
                    refine ⟨BB, ?_⟩
                    refine z 13 10 (dp114) ?_
                    refine zs 14 Xg113 0 (.agg #[.int .u64 (coin E (xS i)), .int .u64 (seqn E (xS i))]) [.int .u64 (coin E (xS i)), .int .u64 (seqn E (xS i))] [.int .u64 (coin E (xS i)), .int .u64 (seqn E (xS i))] ?_
                    intro v122 Y C
                    replace BB := belowC BB C (by omega)
                    replace A := At.cell A Xg113 C zg113 nXg113 (by decide)
                    replace Zp114 := Zp114.cell C (by omega)
                    replace Xg121 := Xg121.chg C (show g121 ≠ g113 by omega)
                    clear C Xg113
                    have Xg113 := Y
                    clear Y
                    refine ⟨BB, ?_⟩
                    refine zs 15 Xg121 0 (.agg #[.int .u64 (coin E 1), .int .u64 (seqn E 1)]) [.int .u64 (coin E 1), .int .u64 (seqn E 1)] [.int .u64 (coin E 1), .int .u64 (seqn E 1)] ?_
                    intro v123 Y C
                    replace BB := belowC BB C (by omega)
                    replace A := At.cell A Xg121 C zg121 nXg121 (by decide)
                    replace Xg113 := Xg113.chg C (show g113 ≠ g121 by omega)
                    replace Zp114 := Zp114.cell C (by omega)
                    clear C Xg121
                    have Xg121 := Y
                    clear Y
                    refine ⟨BB, ?_⟩
                    refine gz_done ?_
                    exact ge_join ((dp114, g113, g121) : Value × Nat × Nat) ⟨BB, Xg113, Xg121, _, _, _, _, _, _, A.sx, by omega, by omega, Zp114, Pp114, ep114, nXg113, nXg121⟩ (by kernel_rfl)
                  have lXg113 := Xg113.lt
                  refine zaa 12 12 [.int .u64 0, .int .u64 0] 52 (pg) ?_ ?_
                  · intro v124 g125 Xg125 hg125 B
                    have yZp114g125 := Nat.le_trans Zp114.ext.2 hg125
                    have zg125 := Nat.le_trans A.size hg125
                    have nXg125 := A.new hg125
                    replace BB := joinB BB B
                    replace A := A.keep B
                    replace Xg113 := Xg113.keep B
                    replace Zp114 := Zp114.keep B
                    clear B
                    refine ⟨BB, ?_⟩
                    refine zc 10 62 15 #[pg g0, .int .u64 1] (get_any A.sx u1 (by omega) (by omega)) ?_
                    rintro _ v127 ⟨rfl, K126, S, hK, hC⟩
                    replace BB := belowO BB hC (fun b hb => Nat.le_trans hwB (A.sx.kb b hb))
                    have mXg113 := not_op Xg113 nXg113 hK
                    replace Xg113 := Xg113.chg hC nXg113
                    replace nXg113 := mXg113
                    clear mXg113
                    replace Zp114 := Zp114.op hC hK
                    have mXg125 := not_op Xg125 nXg125 hK
                    replace Xg125 := Xg125.chg hC nXg125
                    replace nXg125 := mXg125
                    clear mXg125
                    replace A := A.op S hK hC
                    clear S hK hC
                    refine ⟨_, rfl, BB, ?_⟩
                    refine z 13 10 (dp114) ?_
                    refine zs 14 Xg113 0 (.agg #[.int .u64 (coin E (xS i)), .int .u64 (seqn E (xS i))]) [.int .u64 (coin E (xS i)), .int .u64 (seqn E (xS i))] [.int .u64 (coin E (xS i)), .int .u64 (seqn E (xS i))] ?_
                    intro v128 Y C
                    replace BB := belowC BB C (by omega)
                    replace A := At.cell A Xg113 C zg113 nXg113 (by decide)
                    replace Zp114 := Zp114.cell C (by omega)
                    replace Xg125 := Xg125.chg C (show g125 ≠ g113 by omega)
                    clear C Xg113
                    have Xg113 := Y
                    clear Y
                    refine ⟨BB, ?_⟩
                    refine zs 15 Xg125 0 (.agg #[.int .u64 (coin E 1), .int .u64 (seqn E 1)]) [.int .u64 (coin E 1), .int .u64 (seqn E 1)] [.int .u64 (coin E 1), .int .u64 (seqn E 1)] ?_
                    intro v129 Y C
                    replace BB := belowC BB C (by omega)
                    replace A := At.cell A Xg125 C zg125 nXg125 (by decide)
                    replace Xg113 := Xg113.chg C (show g113 ≠ g125 by omega)
                    replace Zp114 := Zp114.cell C (by omega)
                    clear C Xg125
                    have Xg125 := Y
                    clear Y
                    refine ⟨BB, ?_⟩
                    refine gz_done ?_
                    exact ge_join ((dp114, g113, g125) : Value × Nat × Nat) ⟨BB, Xg113, Xg125, _, _, _, _, _, _, A.sx, by omega, by omega, Zp114, Pp114, ep114, nXg113, nXg125⟩ (by kernel_rfl)
                  exact ga_nil
                have lXg113 := Xg113.lt
                refine zaa 12 12 [.int .u64 0, .int .u64 0] 52 (pg) ?_ ?_
                · intro v130 g131 Xg131 hg131 B
                  have yZp114g131 := Nat.le_trans Zp114.ext.2 hg131
                  have zg131 := Nat.le_trans A.size hg131
                  have nXg131 := A.new hg131
                  replace BB := joinB BB B
                  replace A := A.keep B
                  replace Xg113 := Xg113.keep B
                  replace Zp114 := Zp114.keep B
                  clear B
                  refine ⟨BB, ?_⟩
                  refine zc 8 60 15 #[pg g0, .int .u64 (xS i)] (get_any A.sx rS (by omega) (by omega)) ?_
                  rintro _ v133 ⟨rfl, K132, S, hK, hC⟩
                  replace BB := belowO BB hC (fun b hb => Nat.le_trans hwB (A.sx.kb b hb))
                  have mXg113 := not_op Xg113 nXg113 hK
                  replace Xg113 := Xg113.chg hC nXg113
                  replace nXg113 := mXg113
                  clear mXg113
                  replace Zp114 := Zp114.op hC hK
                  have mXg131 := not_op Xg131 nXg131 hK
                  replace Xg131 := Xg131.chg hC nXg131
                  replace nXg131 := mXg131
                  clear mXg131
                  replace A := A.op S hK hC
                  clear S hK hC
                  refine ⟨_, rfl, BB, ?_⟩
                  refine zc 10 62 15 #[pg g0, .int .u64 1] (get_any A.sx u1 (by omega) (by omega)) ?_
                  rintro _ v135 ⟨rfl, K134, S, hK, hC⟩
                  replace BB := belowO BB hC (fun b hb => Nat.le_trans hwB (A.sx.kb b hb))
                  have mXg113 := not_op Xg113 nXg113 hK
                  replace Xg113 := Xg113.chg hC nXg113
                  replace nXg113 := mXg113
                  clear mXg113
                  replace Zp114 := Zp114.op hC hK
                  have mXg131 := not_op Xg131 nXg131 hK
                  replace Xg131 := Xg131.chg hC nXg131
                  replace nXg131 := mXg131
                  clear mXg131
                  replace A := A.op S hK hC
                  clear S hK hC
                  refine ⟨_, rfl, BB, ?_⟩
                  refine z 13 10 (dp114) ?_
                  refine zs 14 Xg113 0 (.agg #[.int .u64 (coin E (xS i)), .int .u64 (seqn E (xS i))]) [.int .u64 (coin E (xS i)), .int .u64 (seqn E (xS i))] [.int .u64 (coin E (xS i)), .int .u64 (seqn E (xS i))] ?_
                  intro v136 Y C
                  replace BB := belowC BB C (by omega)
                  replace A := At.cell A Xg113 C zg113 nXg113 (by decide)
                  replace Zp114 := Zp114.cell C (by omega)
                  replace Xg131 := Xg131.chg C (show g131 ≠ g113 by omega)
                  clear C Xg113
                  have Xg113 := Y
                  clear Y
                  refine ⟨BB, ?_⟩
                  refine zs 15 Xg131 0 (.agg #[.int .u64 (coin E 1), .int .u64 (seqn E 1)]) [.int .u64 (coin E 1), .int .u64 (seqn E 1)] [.int .u64 (coin E 1), .int .u64 (seqn E 1)] ?_
                  intro v137 Y C
                  replace BB := belowC BB C (by omega)
                  replace A := At.cell A Xg131 C zg131 nXg131 (by decide)
                  replace Xg113 := Xg113.chg C (show g113 ≠ g131 by omega)
                  replace Zp114 := Zp114.cell C (by omega)
                  clear C Xg131
                  have Xg131 := Y
                  clear Y
                  refine ⟨BB, ?_⟩
                  refine gz_done ?_
                  exact ge_join ((dp114, g113, g131) : Value × Nat × Nat) ⟨BB, Xg113, Xg131, _, _, _, _, _, _, A.sx, by omega, by omega, Zp114, Pp114, ep114, nXg113, nXg131⟩ (by kernel_rfl)
                exact ga_nil
              have lXg113 := Xg113.lt
              refine zaa 12 12 [.int .u64 0, .int .u64 0] 52 (pg) ?_ ?_
              · intro v138 g139 Xg139 hg139 B
                have zg139 := Nat.le_trans A.size hg139
                have nXg139 := A.new hg139
                replace BB := joinB BB B
                replace A := A.keep B
                replace Xg113 := Xg113.keep B
                clear B
                refine ⟨BB, ?_⟩
                have lXg113 := Xg113.lt
                have lXg139 := Xg139.lt
                refine zc 1 53 14 #[pg g0] (dumpZ A.sx (by omega)) ?_
                rintro _ v141 ⟨dp140, sp140, rfl, Pp140, ep140, Zp140, B⟩
                replace BB := joinB BB B
                replace A := A.keep B
                replace Xg113 := Xg113.keep B
                replace Xg139 := Xg139.keep B
                clear B
                refine ⟨_, rfl, BB, ?_⟩
                refine zc 8 60 15 #[pg g0, .int .u64 (xS i)] (get_any A.sx rS (by omega) (by omega)) ?_
                rintro _ v143 ⟨rfl, K142, S, hK, hC⟩
                replace BB := belowO BB hC (fun b hb => Nat.le_trans hwB (A.sx.kb b hb))
                have mXg113 := not_op Xg113 nXg113 hK
                replace Xg113 := Xg113.chg hC nXg113
                replace nXg113 := mXg113
                clear mXg113
                have mXg139 := not_op Xg139 nXg139 hK
                replace Xg139 := Xg139.chg hC nXg139
                replace nXg139 := mXg139
                clear mXg139
                replace Zp140 := Zp140.op hC hK
                replace A := A.op S hK hC
                clear S hK hC
                refine ⟨_, rfl, BB, ?_⟩
                refine zc 10 62 15 #[pg g0, .int .u64 1] (get_any A.sx u1 (by omega) (by omega)) ?_
                rintro _ v145 ⟨rfl, K144, S, hK, hC⟩
                replace BB := belowO BB hC (fun b hb => Nat.le_trans hwB (A.sx.kb b hb))
                have mXg113 := not_op Xg113 nXg113 hK
                replace Xg113 := Xg113.chg hC nXg113
                replace nXg113 := mXg113
                clear mXg113
                have mXg139 := not_op Xg139 nXg139 hK
                replace Xg139 := Xg139.chg hC nXg139
                replace nXg139 := mXg139
                clear mXg139
                replace Zp140 := Zp140.op hC hK
                replace A := A.op S hK hC
                clear S hK hC
                refine ⟨_, rfl, BB, ?_⟩
                refine z 13 10 (dp140) ?_
                refine zs 14 Xg113 0 (.agg #[.int .u64 (coin E (xS i)), .int .u64 (seqn E (xS i))]) [.int .u64 (coin E (xS i)), .int .u64 (seqn E (xS i))] [.int .u64 (coin E (xS i)), .int .u64 (seqn E (xS i))] ?_
                intro v146 Y C
                replace BB := belowC BB C (by omega)
                replace A := At.cell A Xg113 C zg113 nXg113 (by decide)
                replace Xg139 := Xg139.chg C (show g139 ≠ g113 by omega)
                replace Zp140 := Zp140.cell C (by omega)
                clear C Xg113
                have Xg113 := Y
                clear Y
                refine ⟨BB, ?_⟩
                refine zs 15 Xg139 0 (.agg #[.int .u64 (coin E 1), .int .u64 (seqn E 1)]) [.int .u64 (coin E 1), .int .u64 (seqn E 1)] [.int .u64 (coin E 1), .int .u64 (seqn E 1)] ?_
                intro v147 Y C
                replace BB := belowC BB C (by omega)
                replace A := At.cell A Xg139 C zg139 nXg139 (by decide)
                replace Xg113 := Xg113.chg C (show g113 ≠ g139 by omega)
                replace Zp140 := Zp140.cell C (by omega)
                clear C Xg139
                have Xg139 := Y
                clear Y
                refine ⟨BB, ?_⟩
                refine gz_done ?_
                exact ge_join ((dp140, g113, g139) : Value × Nat × Nat) ⟨BB, Xg113, Xg139, _, _, _, _, _, _, A.sx, by omega, by omega, Zp140, Pp140, ep140, nXg113, nXg139⟩ (by kernel_rfl)
              exact ga_nil
            refine zaa 12 12 [.int .u64 0, .int .u64 0] 52 (pg) ?_ ?_
            · intro v148 g149 Xg149 hg149 B
              have zg149 := Nat.le_trans A.size hg149
              have nXg149 := A.new hg149
              replace BB := joinB BB B
              replace A := A.keep B
              clear B
              refine ⟨BB, ?_⟩
              refine gz_ready [1, 11] ?_
              have lXg149 := Xg149.lt
              refine ga_call 1 (some 53) 14 #[pg g0] (dumpZ A.sx (by omega)) ?_ ?_
              · rintro _ v151 ⟨dp150, sp150, rfl, Pp150, ep150, Zp150, B⟩
                replace BB := joinB BB B
                replace A := A.keep B
                replace Xg149 := Xg149.keep B
                clear B
                refine ⟨_, rfl, BB, ?_⟩
                refine gz_ready [8, 11] ?_
                refine ga_call 8 (some 60) 15 #[pg g0, .int .u64 (xS i)] (get_any A.sx rS (by omega) (by omega)) ?_ ?_
                · rintro _ v153 ⟨rfl, K152, S, hK, hC⟩
                  replace BB := belowO BB hC (fun b hb => Nat.le_trans hwB (A.sx.kb b hb))
                  have mXg149 := not_op Xg149 nXg149 hK
                  replace Xg149 := Xg149.chg hC nXg149
                  replace nXg149 := mXg149
                  clear mXg149
                  replace Zp150 := Zp150.op hC hK
                  replace A := A.op S hK hC
                  clear S hK hC
                  refine ⟨_, rfl, BB, ?_⟩
                  refine gz_ready [10, 11] ?_
                  refine ga_call 10 (some 62) 15 #[pg g0, .int .u64 1] (get_any A.sx u1 (by omega) (by omega)) ?_ ?_
                  · rintro _ v155 ⟨rfl, K154, S, hK, hC⟩
                    replace BB := belowO BB hC (fun b hb => Nat.le_trans hwB (A.sx.kb b hb))
                    have mXg149 := not_op Xg149 nXg149 hK
                    replace Xg149 := Xg149.chg hC nXg149
                    replace nXg149 := mXg149
                    clear mXg149
                    replace Zp150 := Zp150.op hC hK
                    replace A := A.op S hK hC
                    clear S hK hC
                    refine ⟨_, rfl, BB, ?_⟩
                    have lXg149 := Xg149.lt
                    refine za 11 11 [.int .u64 0, .int .u64 0] 52 (pg) ?_
                    intro v156 g157 Xg157 hg157 B
                    have yZp150g157 := Nat.le_trans Zp150.ext.2 hg157
                    have zg157 := Nat.le_trans A.size hg157
                    have nXg157 := A.new hg157
                    replace BB := joinB BB B
                    replace A := A.keep B
                    replace Xg149 := Xg149.keep B
                    replace Zp150 := Zp150.keep B
                    clear B
                    refine ⟨BB, ?_⟩
                    refine z 13 10 (dp150) ?_
                    refine zs 14 Xg157 0 (.agg #[.int .u64 (coin E (xS i)), .int .u64 (seqn E (xS i))]) [.int .u64 (coin E (xS i)), .int .u64 (seqn E (xS i))] [.int .u64 (coin E (xS i)), .int .u64 (seqn E (xS i))] ?_
                    intro v158 Y C
                    replace BB := belowC BB C (by omega)
                    replace A := At.cell A Xg157 C zg157 nXg157 (by decide)
                    replace Xg149 := Xg149.chg C (show g149 ≠ g157 by omega)
                    replace Zp150 := Zp150.cell C (by omega)
                    clear C Xg157
                    have Xg157 := Y
                    clear Y
                    refine ⟨BB, ?_⟩
                    refine zs 15 Xg149 0 (.agg #[.int .u64 (coin E 1), .int .u64 (seqn E 1)]) [.int .u64 (coin E 1), .int .u64 (seqn E 1)] [.int .u64 (coin E 1), .int .u64 (seqn E 1)] ?_
                    intro v159 Y C
                    replace BB := belowC BB C (by omega)
                    replace A := At.cell A Xg149 C zg149 nXg149 (by decide)
                    replace Zp150 := Zp150.cell C (by omega)
                    replace Xg157 := Xg157.chg C (show g157 ≠ g149 by omega)
                    clear C Xg149
                    have Xg149 := Y
                    clear Y
                    refine ⟨BB, ?_⟩
                    refine gz_done ?_
                    exact ge_join ((dp150, g157, g149) : Value × Nat × Nat) ⟨BB, Xg157, Xg149, _, _, _, _, _, _, A.sx, by omega, by omega, Zp150, Pp150, ep150, nXg157, nXg149⟩ (by kernel_rfl)
                  have lXg149 := Xg149.lt
                  refine zaa 11 11 [.int .u64 0, .int .u64 0] 52 (pg) ?_ ?_
                  · intro v160 g161 Xg161 hg161 B
                    have yZp150g161 := Nat.le_trans Zp150.ext.2 hg161
                    have zg161 := Nat.le_trans A.size hg161
                    have nXg161 := A.new hg161
                    replace BB := joinB BB B
                    replace A := A.keep B
                    replace Xg149 := Xg149.keep B
                    replace Zp150 := Zp150.keep B
                    clear B
                    refine ⟨BB, ?_⟩
                    refine zc 10 62 15 #[pg g0, .int .u64 1] (get_any A.sx u1 (by omega) (by omega)) ?_
                    rintro _ v163 ⟨rfl, K162, S, hK, hC⟩
                    replace BB := belowO BB hC (fun b hb => Nat.le_trans hwB (A.sx.kb b hb))
                    have mXg149 := not_op Xg149 nXg149 hK
                    replace Xg149 := Xg149.chg hC nXg149
                    replace nXg149 := mXg149
                    clear mXg149
                    replace Zp150 := Zp150.op hC hK
                    have mXg161 := not_op Xg161 nXg161 hK
                    replace Xg161 := Xg161.chg hC nXg161
                    replace nXg161 := mXg161
                    clear mXg161
                    replace A := A.op S hK hC
                    clear S hK hC
                    refine ⟨_, rfl, BB, ?_⟩
                    refine z 13 10 (dp150) ?_
                    refine zs 14 Xg161 0 (.agg #[.int .u64 (coin E (xS i)), .int .u64 (seqn E (xS i))]) [.int .u64 (coin E (xS i)), .int .u64 (seqn E (xS i))] [.int .u64 (coin E (xS i)), .int .u64 (seqn E (xS i))] ?_
                    intro v164 Y C
                    replace BB := belowC BB C (by omega)
                    replace A := At.cell A Xg161 C zg161 nXg161 (by decide)
                    replace Xg149 := Xg149.chg C (show g149 ≠ g161 by omega)
                    replace Zp150 := Zp150.cell C (by omega)
                    clear C Xg161
                    have Xg161 := Y
                    clear Y
                    refine ⟨BB, ?_⟩
                    refine zs 15 Xg149 0 (.agg #[.int .u64 (coin E 1), .int .u64 (seqn E 1)]) [.int .u64 (coin E 1), .int .u64 (seqn E 1)] [.int .u64 (coin E 1), .int .u64 (seqn E 1)] ?_
                    intro v165 Y C
                    replace BB := belowC BB C (by omega)
                    replace A := At.cell A Xg149 C zg149 nXg149 (by decide)
                    replace Zp150 := Zp150.cell C (by omega)
                    replace Xg161 := Xg161.chg C (show g161 ≠ g149 by omega)
                    clear C Xg149
                    have Xg149 := Y
                    clear Y
                    refine ⟨BB, ?_⟩
                    refine gz_done ?_
                    exact ge_join ((dp150, g161, g149) : Value × Nat × Nat) ⟨BB, Xg161, Xg149, _, _, _, _, _, _, A.sx, by omega, by omega, Zp150, Pp150, ep150, nXg161, nXg149⟩ (by kernel_rfl)
                  exact ga_nil
                have lXg149 := Xg149.lt
                refine zaa 11 11 [.int .u64 0, .int .u64 0] 52 (pg) ?_ ?_
                · intro v166 g167 Xg167 hg167 B
                  have yZp150g167 := Nat.le_trans Zp150.ext.2 hg167
                  have zg167 := Nat.le_trans A.size hg167
                  have nXg167 := A.new hg167
                  replace BB := joinB BB B
                  replace A := A.keep B
                  replace Xg149 := Xg149.keep B
                  replace Zp150 := Zp150.keep B
                  clear B
                  refine ⟨BB, ?_⟩
                  refine zc 8 60 15 #[pg g0, .int .u64 (xS i)] (get_any A.sx rS (by omega) (by omega)) ?_
                  rintro _ v169 ⟨rfl, K168, S, hK, hC⟩
                  replace BB := belowO BB hC (fun b hb => Nat.le_trans hwB (A.sx.kb b hb))
                  have mXg149 := not_op Xg149 nXg149 hK
                  replace Xg149 := Xg149.chg hC nXg149
                  replace nXg149 := mXg149
                  clear mXg149
                  replace Zp150 := Zp150.op hC hK
                  have mXg167 := not_op Xg167 nXg167 hK
                  replace Xg167 := Xg167.chg hC nXg167
                  replace nXg167 := mXg167
                  clear mXg167
                  replace A := A.op S hK hC
                  clear S hK hC
                  refine ⟨_, rfl, BB, ?_⟩
                  refine zc 10 62 15 #[pg g0, .int .u64 1] (get_any A.sx u1 (by omega) (by omega)) ?_
                  rintro _ v171 ⟨rfl, K170, S, hK, hC⟩
                  replace BB := belowO BB hC (fun b hb => Nat.le_trans hwB (A.sx.kb b hb))
                  have mXg149 := not_op Xg149 nXg149 hK
                  replace Xg149 := Xg149.chg hC nXg149
                  replace nXg149 := mXg149
                  clear mXg149
                  replace Zp150 := Zp150.op hC hK
                  have mXg167 := not_op Xg167 nXg167 hK
                  replace Xg167 := Xg167.chg hC nXg167
                  replace nXg167 := mXg167
                  clear mXg167
                  replace A := A.op S hK hC
                  clear S hK hC
                  refine ⟨_, rfl, BB, ?_⟩
                  refine z 13 10 (dp150) ?_
                  refine zs 14 Xg167 0 (.agg #[.int .u64 (coin E (xS i)), .int .u64 (seqn E (xS i))]) [.int .u64 (coin E (xS i)), .int .u64 (seqn E (xS i))] [.int .u64 (coin E (xS i)), .int .u64 (seqn E (xS i))] ?_
                  intro v172 Y C
                  replace BB := belowC BB C (by omega)
                  replace A := At.cell A Xg167 C zg167 nXg167 (by decide)
                  replace Xg149 := Xg149.chg C (show g149 ≠ g167 by omega)
                  replace Zp150 := Zp150.cell C (by omega)
                  clear C Xg167
                  have Xg167 := Y
                  clear Y
                  refine ⟨BB, ?_⟩
                  refine zs 15 Xg149 0 (.agg #[.int .u64 (coin E 1), .int .u64 (seqn E 1)]) [.int .u64 (coin E 1), .int .u64 (seqn E 1)] [.int .u64 (coin E 1), .int .u64 (seqn E 1)] ?_
                  intro v173 Y C
                  replace BB := belowC BB C (by omega)
                  replace A := At.cell A Xg149 C zg149 nXg149 (by decide)
                  replace Zp150 := Zp150.cell C (by omega)
                  replace Xg167 := Xg167.chg C (show g167 ≠ g149 by omega)
                  clear C Xg149
                  have Xg149 := Y
                  clear Y
                  refine ⟨BB, ?_⟩
                  refine gz_done ?_
                  exact ge_join ((dp150, g167, g149) : Value × Nat × Nat) ⟨BB, Xg167, Xg149, _, _, _, _, _, _, A.sx, by omega, by omega, Zp150, Pp150, ep150, nXg167, nXg149⟩ (by kernel_rfl)
                exact ga_nil
              have lXg149 := Xg149.lt
              refine zaa 11 11 [.int .u64 0, .int .u64 0] 52 (pg) ?_ ?_
              · intro v174 g175 Xg175 hg175 B
                have zg175 := Nat.le_trans A.size hg175
                have nXg175 := A.new hg175
                replace BB := joinB BB B
                replace A := A.keep B
                replace Xg149 := Xg149.keep B
                clear B
                refine ⟨BB, ?_⟩
                have lXg149 := Xg149.lt
                have lXg175 := Xg175.lt
                refine zc 1 53 14 #[pg g0] (dumpZ A.sx (by omega)) ?_
                rintro _ v177 ⟨dp176, sp176, rfl, Pp176, ep176, Zp176, B⟩
                replace BB := joinB BB B
                replace A := A.keep B
                replace Xg149 := Xg149.keep B
                replace Xg175 := Xg175.keep B
                clear B
                refine ⟨_, rfl, BB, ?_⟩
                refine zc 8 60 15 #[pg g0, .int .u64 (xS i)] (get_any A.sx rS (by omega) (by omega)) ?_
                rintro _ v179 ⟨rfl, K178, S, hK, hC⟩
                replace BB := belowO BB hC (fun b hb => Nat.le_trans hwB (A.sx.kb b hb))
                have mXg149 := not_op Xg149 nXg149 hK
                replace Xg149 := Xg149.chg hC nXg149
                replace nXg149 := mXg149
                clear mXg149
                have mXg175 := not_op Xg175 nXg175 hK
                replace Xg175 := Xg175.chg hC nXg175
                replace nXg175 := mXg175
                clear mXg175
                replace Zp176 := Zp176.op hC hK
                replace A := A.op S hK hC
                clear S hK hC
                refine ⟨_, rfl, BB, ?_⟩
                refine zc 10 62 15 #[pg g0, .int .u64 1] (get_any A.sx u1 (by omega) (by omega)) ?_
                rintro _ v181 ⟨rfl, K180, S, hK, hC⟩
                replace BB := belowO BB hC (fun b hb => Nat.le_trans hwB (A.sx.kb b hb))
                have mXg149 := not_op Xg149 nXg149 hK
                replace Xg149 := Xg149.chg hC nXg149
                replace nXg149 := mXg149
                clear mXg149
                have mXg175 := not_op Xg175 nXg175 hK
                replace Xg175 := Xg175.chg hC nXg175
                replace nXg175 := mXg175
                clear mXg175
                replace Zp176 := Zp176.op hC hK
                replace A := A.op S hK hC
                clear S hK hC
                refine ⟨_, rfl, BB, ?_⟩
                refine z 13 10 (dp176) ?_
                refine zs 14 Xg175 0 (.agg #[.int .u64 (coin E (xS i)), .int .u64 (seqn E (xS i))]) [.int .u64 (coin E (xS i)), .int .u64 (seqn E (xS i))] [.int .u64 (coin E (xS i)), .int .u64 (seqn E (xS i))] ?_
                intro v182 Y C
                replace BB := belowC BB C (by omega)
                replace A := At.cell A Xg175 C zg175 nXg175 (by decide)
                replace Xg149 := Xg149.chg C (show g149 ≠ g175 by omega)
                replace Zp176 := Zp176.cell C (by omega)
                clear C Xg175
                have Xg175 := Y
                clear Y
                refine ⟨BB, ?_⟩
                refine zs 15 Xg149 0 (.agg #[.int .u64 (coin E 1), .int .u64 (seqn E 1)]) [.int .u64 (coin E 1), .int .u64 (seqn E 1)] [.int .u64 (coin E 1), .int .u64 (seqn E 1)] ?_
                intro v183 Y C
                replace BB := belowC BB C (by omega)
                replace A := At.cell A Xg149 C zg149 nXg149 (by decide)
                replace Xg175 := Xg175.chg C (show g175 ≠ g149 by omega)
                replace Zp176 := Zp176.cell C (by omega)
                clear C Xg149
                have Xg149 := Y
                clear Y
                refine ⟨BB, ?_⟩
                refine gz_done ?_
                exact ge_join ((dp176, g175, g149) : Value × Nat × Nat) ⟨BB, Xg175, Xg149, _, _, _, _, _, _, A.sx, by omega, by omega, Zp176, Pp176, ep176, nXg175, nXg149⟩ (by kernel_rfl)
              exact ga_nil
            exact ga_nil
          clear BB
          clear A
          rintro ⟨dv, g8, g9⟩ v184 ⟨BB, X8, X9, K1, n1, N1, es, nD, wD, S, q1, q2, ZD, PD, eD, nX8, nX9⟩
          dsimp only at X8 X9 PD nX8 nX9
          have A := S.at
          clear S
          have hwv2 := BB.size
          refine gc_seq ?_
          refine gc_seq ?_
          refine gc_reg ?_
          refine t 63 (pg g0) ?_
          refine t 64 (.slice aT nT cT) ?_
          refine t 65 (.int .i64 (i : Int)) ?_
          refine tr 66 (pq tb (to + i * 7)) (run_ixa 7 tb to nT cT i hk_i TS.ptr) ?_
          refine tr 67 (.agg #[.int .u64 (xS i), .int .u64 (xQ i), .int .u64 (xF i), .int .i64 (xM i), .int .u64 (xA i), .int .u64 (xB i), .int .u64 (xC i)]) (run_ldt TS hk_i BB) ?_
          refine tc 68 11 #[pg g0, .agg #[.int .u64 (xS i), .int .u64 (xQ i), .int .u64 (xF i), .int .i64 (xM i), .int .u64 (xA i), .int .u64 (xB i), .int .u64 (xC i)]] (adm_any A.sx rS rF (by omega) (by omega)) ?_
          rintro _ v188 ⟨rfl, K185, n186, N187, S, qn186, qN187, hK, hC⟩
          refine ⟨_, rfl, ?_⟩
          replace BB := belowO BB hC (fun b hb => Nat.le_trans hwB (A.sx.kb b hb))
          replace ZD := ZD.op hC hK
          have mX8 := not_op X8 nX8 hK
          replace X8 := X8.chg hC nX8
          replace nX8 := mX8
          clear mX8
          have mX9 := not_op X9 nX9 hK
          replace X9 := X9.chg hC nX9
          replace nX9 := mX9
          clear mX9
          replace A := A.op S hK hC
          clear S hK hC
          by_cases c189 : (admR E (xS i) (xQ i) (xF i) : Int) = 0
          · refine tq 69 (.bool ((admR E (xS i) (xQ i) (xF i) : Int) != 0)) (.bool false) (congrArg Value.bool (bne_eq_false_iff_eq.2 c189)) ?_
            refine gl_nil ?_
            refine ge_then ?_
            refine gc_no ?_
            refine gc_skip ?_
            refine ge_then ?_
            refine gc_seq ?_
            refine gc_seq ?_
            replace BB := BB.drew
            replace A := A.drew
            replace ZD := ZD.drew
            replace X8 := X8.drew
            replace X9 := X9.drew
            refine gc_draw (fun w' => Blk w' g8 [.int .u64 (coin E (xS i)), .int .u64 (seqn E (xS i))] 52 ∧ Blk w' g9 [.int .u64 (coin E 1), .int .u64 (seqn E 1)] 52 ∧ Below w.heap.size w w') (fun _ => false) ⟨X8, X9, BB⟩ ?_
            refine z 0 75 (.slice aT nT cT) ?_
            refine z 1 76 (.int .i64 (i : Int)) ?_
            refine zr 2 77 (pq tb (to + i * 7)) (fun _ h => run_ixa 7 tb to nT cT i hk_i TS.ptr) ?_
            refine z 3 78 (pq tb (to + i * 7 + 2)) ?_
            refine zr 4 79 (.int .u64 (xF i)) (fun _ h => run_ldu (cellB h.2.2 (TS.cell i hk_i).2.2.1)) ?_
            refine z 5 80 (.int .u64 fe) ?_
            obtain ⟨ai1, ai2, ai3, ai4, -⟩ := adm_is c189
            obtain ⟨aa1, aa2, aa3, aa4, aa5, aa6⟩ := adm_at okE rS rF c189
            have cs1 := okE.cr (xS i)
            have cs2 := okE.cr 1
            unfold U64 at cs1 cs2
            obtain ⟨sq, hsq⟩ : ∃ sq, (seqn E (xS i) + 1) % 18446744073709551616 = sq := ⟨_, rfl⟩
            have rF2 := rF
            unfold U64 at rF2
            have c190 : ¬ ((xF i : Int) < fe) := by omega
            refine zq 6 81 (.bool (decide ((xF i : Int) < fe))) (.bool false) (congrArg Value.bool (decide_eq_false c190)) ?_
            refine z 7 82 (.bool false) ?_
            refine z 8 83 (.slice aT nT cT) ?_
            refine z 9 84 (.int .i64 (i : Int)) ?_
            refine zr 10 85 (pq tb (to + i * 7)) (fun _ h => run_ixa 7 tb to nT cT i hk_i TS.ptr) ?_
            refine z 11 86 (pq tb (to + i * 7 + 1)) ?_
            refine zr 12 87 (.int .u64 (xQ i)) (fun _ h => run_ldu (cellB h.2.2 (TS.cell i hk_i).2.1)) ?_
            refine z 13 88 (pq g8 1) ?_
            refine zl 14 89 (.int .u64 (seqn E (xS i))) (fun _ h => h.1) 1 ?_
            have c191 : ((xQ i : Int) = seqn E (xS i)) := ai4
            refine zq 15 90 (.bool ((xQ i : Int) != seqn E (xS i))) (.bool false) (congrArg Value.bool (bne_eq_false_iff_eq.2 c191)) ?_
            refine z 16 91 (.bool false) ?_
            refine z 17 92 (.bool false) ?_
            refine z 18 93 (pg g0) ?_
            refine z 19 94 (.slice aT nT cT) ?_
            refine z 20 95 (.int .i64 (i : Int)) ?_
            refine zr 21 96 (pq tb (to + i * 7)) (fun _ h => run_ixa 7 tb to nT cT i hk_i TS.ptr) ?_
            refine z 22 97 (pq tb (to + i * 7)) ?_
            refine zr 23 98 (.int .u64 (xS i)) (fun _ h => run_ldu (cellB h.2.2 (TS.cell i hk_i).1)) ?_
            refine z 25 100 (pg g8) ?_
            refine zl 26 101 (.int .u64 (coin E (xS i))) (fun _ h => h.1) 0 ?_
            refine z 27 102 (.slice aT nT cT) ?_
            refine z 28 103 (.int .i64 (i : Int)) ?_
            refine zr 29 104 (pq tb (to + i * 7)) (fun _ h => run_ixa 7 tb to nT cT i hk_i TS.ptr) ?_
            refine z 30 105 (pq tb (to + i * 7 + 2)) ?_
            refine zr 31 106 (.int .u64 (xF i)) (fun _ h => run_ldu (cellB h.2.2 (TS.cell i hk_i).2.2.1)) ?_
            refine zq 32 107 (.int .u64 (IntKind.u64.wrap ((coin E (xS i)) - (xF i)))) (.int .u64 ((coin E (xS i)) - (xF i))) (wu (by omega)) ?_
            refine z 33 108 (pq g8 1) ?_
            refine zl 34 109 (.int .u64 (seqn E (xS i))) (fun _ h => h.1) 1 ?_
            refine zq 35 110 (.int .u64 (IntKind.u64.wrap (seqn E (xS i) + 1))) (.int .u64 sq) (congrArg (Value.int .u64) ((IntKind.wrap_u64 _).trans hsq)) ?_
            refine zr 36 111 (.agg #[.int .u64 (coin E (xS i) - xF i), .int .u64 sq]) (fun _ _ => run_bld) ?_
            refine zc 24 99 15 #[pg g0, .int .u64 (xS i)] (get_any A.sx rS (by omega) (by omega)) ?_
            rintro _ v193 ⟨rfl, K192, S, hK, hC⟩
            replace BB := belowO BB hC (fun b hb => Nat.le_trans hwB (A.sx.kb b hb))
            replace ZD := ZD.op hC hK
            have mX8 := not_op X8 nX8 hK
            replace X8 := X8.chg hC nX8
            replace nX8 := mX8
            clear mX8
            have mX9 := not_op X9 nX9 hK
            replace X9 := X9.chg hC nX9
            replace nX9 := mX9
            clear mX9
            replace A := A.op S hK hC
            clear S hK hC
            refine ⟨_, rfl, ⟨X8, X9, BB⟩, ?_⟩
            refine zr 37 112 (.bool false) (fun _ _ => run_nq aa1 (aa2.trans hsq)) ?_
            refine z 38 113 (.bool false) ?_
            refine z 39 114 (.bool false) ?_
            refine z 40 115 (pg g0) ?_
            refine z 42 117 (pg g9) ?_
            refine zl 43 118 (.int .u64 (coin E 1)) (fun _ h => h.2.1) 0 ?_
            refine z 44 119 (.slice aT nT cT) ?_
            refine z 45 120 (.int .i64 (i : Int)) ?_
            refine zr 46 121 (pq tb (to + i * 7)) (fun _ h => run_ixa 7 tb to nT cT i hk_i TS.ptr) ?_
            refine z 47 122 (pq tb (to + i * 7 + 2)) ?_
            refine zr 48 123 (.int .u64 (xF i)) (fun _ h => run_ldu (cellB h.2.2 (TS.cell i hk_i).2.2.1)) ?_
            refine zq 49 124 (.int .u64 (IntKind.u64.wrap ((coin E 1) + (xF i)))) (.int .u64 ((coin E 1) + (xF i))) (wu (by omega)) ?_
            refine z 50 125 (pq g9 1) ?_
            refine zl 51 126 (.int .u64 (seqn E 1)) (fun _ h => h.2.1) 1 ?_
            refine zr 52 127 (.agg #[.int .u64 (coin E 1 + xF i), .int .u64 (seqn E 1)]) (fun _ _ => run_bld) ?_
            refine zc 41 116 15 #[pg g0, .int .u64 1] (get_any A.sx u1 (by omega) (by omega)) ?_
            rintro _ v195 ⟨rfl, K194, S, hK, hC⟩
            replace BB := belowO BB hC (fun b hb => Nat.le_trans hwB (A.sx.kb b hb))
            replace ZD := ZD.op hC hK
            have mX8 := not_op X8 nX8 hK
            replace X8 := X8.chg hC nX8
            replace nX8 := mX8
            clear mX8
            have mX9 := not_op X9 nX9 hK
            replace X9 := X9.chg hC nX9
            replace nX9 := mX9
            clear mX9
            replace A := A.op S hK hC
            clear S hK hC
            refine ⟨_, rfl, ⟨X8, X9, BB⟩, ?_⟩
            refine zr 53 128 (.bool false) (fun _ _ => run_nq aa3 aa4) ?_
            refine z 54 129 (.bool false) ?_
            refine gz_done ?_
            refine ge_then ?_
            refine gc_fr [(0, .int .u64 fe), (1, .slice ao n c), (2, .slice aT nT cT), (7, pg g0), (9, .int .i64 (i : Int)), (10, dv), (11, pg g8), (12, pg g9), (63, pg g0), (64, .slice aT nT cT), (65, .int .i64 (i : Int)), (66, pq tb (to + i * 7)), (67, .agg #[.int .u64 (xS i), .int .u64 (xQ i), .int .u64 (xF i), .int .i64 (xM i), .int .u64 (xA i), .int .u64 (xB i), .int .u64 (xC i)]), (68, .int .i64 (admR E (xS i) (xQ i) (xF i))), (69, .bool false), (75, .slice aT nT cT), (76, .int .i64 (i : Int)), (77, pq tb (to + i * 7)), (78, pq tb (to + i * 7 + 2)), (79, .int .u64 (xF i)), (80, .int .u64 fe), (81, .bool false), (82, .bool false), (83, .slice aT nT cT), (84, .int .i64 (i : Int)), (85, pq tb (to + i * 7)), (86, pq tb (to + i * 7 + 1)), (87, .int .u64 (xQ i)), (88, pq g8 1), (89, .int .u64 (seqn E (xS i))), (90, .bool false), (91, .bool false), (92, .bool false), (93, pg g0), (94, .slice aT nT cT), (95, .int .i64 (i : Int)), (96, pq tb (to + i * 7)), (97, pq tb (to + i * 7)), (98, .int .u64 (xS i)), (99, .agg #[.int .u64 (coin (admE E (xS i) (xQ i) (xF i)) (xS i)), .int .u64 (seqn (admE E (xS i) (xQ i) (xF i)) (xS i))]), (100, pg g8), (101, .int .u64 (coin E (xS i))), (102, .slice aT nT cT), (103, .int .i64 (i : Int)), (104, pq tb (to + i * 7)), (105, pq tb (to + i * 7 + 2)), (106, .int .u64 (xF i)), (107, .int .u64 ((coin E (xS i)) - (xF i))), (108, pq g8 1), (109, .int .u64 (seqn E (xS i))), (110, .int .u64 sq), (111, .agg #[.int .u64 (coin E (xS i) - xF i), .int .u64 sq]), (112, .bool false), (113, .bool false), (114, .bool false), (115, pg g0), (116, .agg #[.int .u64 (coin (admE E (xS i) (xQ i) (xF i)) 1), .int .u64 (seqn (admE E (xS i) (xQ i) (xF i)) 1)]), (117, pg g9), (118, .int .u64 (coin E 1)), (119, .slice aT nT cT), (120, .int .i64 (i : Int)), (121, pq tb (to + i * 7)), (122, pq tb (to + i * 7 + 2)), (123, .int .u64 (xF i)), (124, .int .u64 ((coin E 1) + (xF i))), (125, pq g9 1), (126, .int .u64 (seqn E 1)), (127, .agg #[.int .u64 (coin E 1 + xF i), .int .u64 (seqn E 1)]), (128, .bool false), (129, .bool false)] (by kernel_rfl) ?_
            refine gc_no ?_
            refine gc_skip ?_
            refine ge_then ?_
            refine gc_seq ?_
            refine gc_reg ?_
            refine t 130 (pg g0) ?_
            refine t 131 (.slice aT nT cT) ?_
            refine t 132 (.int .i64 (i : Int)) ?_
            refine tr 133 (pq tb (to + i * 7)) (run_ixa 7 tb to nT cT i hk_i TS.ptr) ?_
            refine tr 134 (.agg #[.int .u64 (xS i), .int .u64 (xQ i), .int .u64 (xF i), .int .i64 (xM i), .int .u64 (xA i), .int .u64 (xB i), .int .u64 (xC i)]) (run_ldt TS hk_i BB) ?_
            refine tc 135 11 #[pg g0, .agg #[.int .u64 (xS i), .int .u64 (xQ i), .int .u64 (xF i), .int .i64 (xM i), .int .u64 (xA i), .int .u64 (xB i), .int .u64 (xC i)]] (adm_any A.sx rS rF (by omega) (by omega)) ?_
            rintro _ v199 ⟨rfl, K196, n197, N198, S, qn197, qN198, hK, hC⟩
            refine ⟨_, rfl, ?_⟩
            replace BB := belowO BB hC (fun b hb => Nat.le_trans hwB (A.sx.kb b hb))
            replace ZD := ZD.op hC hK
            have mX8 := not_op X8 nX8 hK
            replace X8 := X8.chg hC nX8
            replace nX8 := mX8
            clear mX8
            have mX9 := not_op X9 nX9 hK
            replace X9 := X9.chg hC nX9
            replace nX9 := mX9
            clear mX9
            replace A := A.op S hK hC
            clear S hK hC
            have c200 : ¬ ((admR (admE E (xS i) (xQ i) (xF i)) (xS i) (xQ i) (xF i) : Int) = 0) := adm_twice okE rS rF c189
            refine tq 136 (.bool ((admR (admE E (xS i) (xQ i) (xF i)) (xS i) (xQ i) (xF i) : Int) == 0)) (.bool false) (congrArg Value.bool (beq_eq_false_iff_ne.2 c200)) ?_
            refine gl_nil ?_
            refine ge_then ?_
            refine gc_no ?_
            refine gc_skip ?_
            refine ge_bn ?_
            refine ge_then ?_
            refine gc_reg ?_
            refine t 50 (.int .i64 (i : Int)) ?_
            refine tq 51 (.int .i64 (IntKind.i64.wrap ((i : Int) + 1))) (.int .i64 ((i : Int) + 1)) (wi (by omega)) ?_
            refine t 9 (.int .i64 ((i : Int) + 1)) ?_
            refine gl_nil ?_
            rw [adm_no (adm_twice okE rS rF c189)] at A
            exact ge_round (i + 1) (by show nT - (i + 1) < nT - i; omega) ⟨hk_i, BB, _, _, _, _, A.sx, by omega, by omega, adm_all hAll, (adm_fee okE rS rF).trans hfee⟩ (by kernel_rfl)
          · refine tq 69 (.bool ((admR E (xS i) (xQ i) (xF i) : Int) != 0)) (.bool true) (congrArg Value.bool (bne_iff_ne.2 c189)) ?_
            refine gl_nil ?_
            refine ge_then ?_
            refine gc_yes ?_
            refine gc_seq ?_
            refine gc_seq ?_
            refine gc_reg ?_
            refine t 70 (pg g0) ?_
            have lX8 := X8.lt
            have lX9 := X9.lt
            refine tc 71 14 #[pg g0] (dumpZ A.sx (by omega)) ?_
            rintro _ v202 ⟨dp201, sp201, rfl, Pp201, ep201, Zp201, B⟩
            refine ⟨_, rfl, ?_⟩
            replace BB := joinB BB B
            replace A := A.keep B
            replace ZD := ZD.keep B
            replace X8 := X8.keep B
            replace X9 := X9.keep B
            clear B
            refine t 72 (dv) ?_
            refine tc 73 13 #[dp201, dv] (pairsT A.sx (by omega) (Zp201.prs Pp201) (ZD.prs PD) ep201 eD (adm_no c189).symm) ?_
            rintro _ v203 ⟨rfl, B⟩
            refine ⟨_, rfl, ?_⟩
            replace BB := joinB BB B
            replace A := A.keep B
            replace ZD := ZD.keep B
            replace X8 := X8.keep B
            replace X9 := X9.keep B
            replace Zp201 := Zp201.keep B
            clear B
            clear Zp201
            refine t 74 (.bool false) ?_
            refine gl_nil ?_
            refine ge_then ?_
            refine gc_fr [(0, .int .u64 fe), (1, .slice ao n c), (2, .slice aT nT cT), (7, pg g0), (9, .int .i64 (i : Int)), (10, dv), (11, pg g8), (12, pg g9), (63, pg g0), (64, .slice aT nT cT), (65, .int .i64 (i : Int)), (66, pq tb (to + i * 7)), (67, .agg #[.int .u64 (xS i), .int .u64 (xQ i), .int .u64 (xF i), .int .i64 (xM i), .int .u64 (xA i), .int .u64 (xB i), .int .u64 (xC i)]), (68, .int .i64 (admR E (xS i) (xQ i) (xF i))), (69, .bool true), (70, pg g0), (71, dp201), (72, dv), (73, .bool true), (74, .bool false)] (by kernel_rfl) ?_
            refine gc_no ?_
            refine gc_skip ?_
            refine ge_then ?_
            refine gc_exit ?_
            refine ge_tx ?_
            refine ge_bx ?_
            refine ge_then ?_
            refine gc_reg ?_
            refine t 50 (.int .i64 (i : Int)) ?_
            refine tq 51 (.int .i64 (IntKind.i64.wrap ((i : Int) + 1))) (.int .i64 ((i : Int) + 1)) (wi (by omega)) ?_
            refine t 9 (.int .i64 ((i : Int) + 1)) ?_
            refine gl_nil ?_
            exact ge_round (i + 1) (by show nT - (i + 1) < nT - i; omega) ⟨hk_i, BB, _, _, _, _, A.sx, by omega, by omega, adm_all hAll, (adm_fee okE rS rF).trans hfee⟩ (by kernel_rfl)
        · refine tq 49 (.bool (decide ((i : Int) < ((nT : Nat) : Int)))) (.bool false) (congrArg Value.bool (decide_eq_false ci16)) ?_
          refine gl_nil ?_
          refine ge_then ?_
          refine gc_no ?_
          refine gc_exit ?_
          refine ge_tx ?_
          refine ge_tx ?_
          refine ge_bx ?_
          refine ge_then ?_
          refine gc_seq ?_
          refine gc_reg ?_
          refine t 6 (.bool true) ?_
          refine gl_nil ?_
          refine ge_then ?_
          refine gc_ret ?_
          refine ge_ret (.bool true) (rs1 6 (by kernel_rfl) (by kernel_rfl)) ?_
          exact ⟨rfl, BB⟩
end Bk
end Go.Proofs.YtagnmdejdeeenaaGreat
