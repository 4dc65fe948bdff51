/- gleanlaw18.AntePlays. -/
import Derived.Test.YtagnmdejdeeenaaGreatJao
import Derived.Test.YtagnmdejdeeenaaGreatJar
namespace Go.Proofs.YtagnmdejdeeenaaGreat
namespace Bk
open Go.RowKit Go.Lib Pg Lim Gl Kv
set_option maxRecDepth 100000
set_option maxHeartbeats 4000000
set_option linter.unusedVariables false
section
variable {B : Nat} {w w' : World} {K K' X X' : Nat → Prop} {g q : Nat} {E E2 : Ents} {W : List Ents} {n N n2 : Nat}
theorem dj_sx (r : Rx B w X q E2 n2) (dj : ∀ b, K b → ¬ X b) (hK : ∀ b, K' b → K b ∨ w.heap.size ≤ b) : ∀ b, K' b → ¬ X b := fun b hb hx => (hK b hb).elim (fun h => dj b h hx) (fun h => by have := r.lt hx; omega)
theorem dj_rx (s : Sx B w K g E W n N) (dj : ∀ b, K b → ¬ X b) (hX : ∀ b, X' b → X b ∨ w.heap.size ≤ b) : ∀ b, K b → ¬ X' b := fun b hb hx => (hX b hx).elim (dj b hb) (fun h => by have := s.sa.lt hb; omega)
theorem Sx.besideR (s : Sx B w K g E W n N) (r : Rx B w X q E2 n2) (hC : Chg X w w') (dj : ∀ b, K b → ¬ X b) : Sx B w' K g E W n N :=
  ⟨s.sa.chg hC (fun b hx hk => dj b hk hx) (fun b hx cs k => by obtain ⟨_, _, k', ht⟩ := r.kind b hx; exact ht (k'.eq k).2), Nat.le_trans s.lo hC.size, s.kb⟩
theorem rx_new (Y : Blk w q [.slice none 0 0, .slice none 0 0, .int .i64 0] 32) (hB : B ≤ w.heap.size ∧ B ≤ q) : Rx B w (· = q) q [] 0 :=
  ⟨⟨⟨_, _, Y, ⟨⟨[], Pq.nil _ _ _, rfl⟩, fun b m c e => by cases e⟩, ⟨.inl ⟨rfl, rfl⟩⟩⟩, rfl, fun b e => by have e' : b = q := e; subst e'; exact ⟨hB.2, Y.lt⟩, List.Pairwise.nil, fun x h => by simp at h⟩, fun b e => by have e' : b = q := e; subst e'; exact ⟨_, _, Y, by decide⟩, hB.1⟩
end
theorem antePlays_walk {w : World} {fe : Int} {pb_ : Bool} {ao aT : Option Addr} {n c nT cT pb po tb to : Nat} {cI cC xS xQ xF xM xA xB xC : Nat → Int} (CS : PrsA w ao n pb po cI cC) (TS : TxsA w aT nT tb to xS xQ xF xM xA xB xC) : Calls Tryz.prog 3 #[.int .u64 fe, .bool pb_, .slice ao n c, .slice aT nT cT] w fun e w' => e = .returned (.bool true) ∧ Below w.heap.size w w' := by
  have BB := Below.refl w.heap.size w
  refine gc_enter (n := 94) Tryz.func3 rfl (by kernel_rfl) (by kernel_rfl) ?_
  refine gc_seq ?_
  refine gc_reg ?_
  refine t 8 (.bool false) ?_
  refine gl_nil ?_
  refine ge_then ?_
  refine gc_seq ?_
  refine gc_seq ?_
  refine gc_reg ?_
  refine tc 13 5 #[] (known18) ?_
  rintro _ v1 ⟨rfl, B⟩
  refine ⟨_, rfl, ?_⟩
  replace BB := joinB BB B
  clear B
  refine t 14 (.bool false) ?_
  refine gl_nil ?_
  refine ge_then ?_
  refine gc_no ?_
  refine gc_skip ?_
  refine ge_then ?_
  refine gc_seq ?_
  refine gc_seq ?_
  refine gc_reg ?_
  refine t 15 (.slice ao n c) ?_
  refine t 16 (.int .i64 ((n : Nat) : Int)) ?_
  by_cases c2 : (50 : Int) < ((n : Nat) : Int)
  · refine tq 17 (.bool (decide ((50 : Int) < ((n : Nat) : Int)))) (.bool true) (congrArg Value.bool (decide_eq_true c2)) ?_
    refine t 18 (.bool true) ?_
    refine tn 19 ?_
    refine tn 20 ?_
    refine tn 21 ?_
    refine t 22 (.bool true) ?_
    refine gl_nil ?_
    refine ge_then ?_
    refine gc_fr [(0, .int .u64 fe), (1, .bool pb_), (2, .slice ao n c), (3, .slice aT nT cT), (8, .bool false), (22, .bool true)] (by kernel_rfl) ?_
    refine gc_yes ?_
    refine gc_seq ?_
    refine gc_reg ?_
    refine t 8 (.bool true) ?_
    refine gl_nil ?_
    refine ge_then ?_
    refine gc_ret ?_
    refine ge_tr ?_
    refine ge_ret (.bool true) (rs1 8 (by kernel_rfl) (by kernel_rfl)) ?_
    exact ⟨rfl, BB⟩
  · refine tq 17 (.bool (decide ((50 : Int) < ((n : Nat) : Int)))) (.bool false) (congrArg Value.bool (decide_eq_false c2)) ?_
    refine t 18 (.bool false) ?_
    refine t 19 (.slice aT nT cT) ?_
    refine t 20 (.int .i64 ((nT : Nat) : Int)) ?_
    by_cases c3 : (100 : Int) < ((nT : Nat) : Int)
    · refine tq 21 (.bool (decide ((100 : Int) < ((nT : Nat) : Int)))) (.bool true) (congrArg Value.bool (decide_eq_true c3)) ?_
      refine t 22 (.bool true) ?_
      refine gl_nil ?_
      refine ge_then ?_
      refine gc_fr [(0, .int .u64 fe), (1, .bool pb_), (2, .slice ao n c), (3, .slice aT nT cT), (8, .bool false), (22, .bool true)] (by kernel_rfl) ?_
      refine gc_yes ?_
      refine gc_seq ?_
      refine gc_reg ?_
      refine t 8 (.bool true) ?_
      refine gl_nil ?_
      refine ge_then ?_
      refine gc_ret ?_
      refine ge_tr ?_
      refine ge_ret (.bool true) (rs1 8 (by kernel_rfl) (by kernel_rfl)) ?_
      exact ⟨rfl, BB⟩
    · refine tq 21 (.bool (decide ((100 : Int) < ((nT : Nat) : Int)))) (.bool false) (congrArg Value.bool (decide_eq_false c3)) ?_
      refine t 22 (.bool false) ?_
      refine gl_nil ?_
      refine ge_then ?_
      refine gc_fr [(0, .int .u64 fe), (1, .bool pb_), (2, .slice ao n c), (3, .slice aT nT cT), (8, .bool false), (22, .bool false)] (by kernel_rfl) ?_
      refine gc_no ?_
      refine gc_skip ?_
      refine ge_then ?_
      refine gc_seq ?_
      refine gc_reg ?_
      have hwB := BB.size
      obtain ⟨Bz, hBz⟩ : ∃ Bz, Bz = (v1).heap.size := ⟨_, rfl⟩
      rw [← hBz] at hwB
      refine tc 23 6 #[] (snewB Bz hBz) ?_
      rintro _ v4 ⟨g0, K0, rfl, S0, hK0, B0⟩
      refine ⟨_, rfl, ?_⟩
      replace BB := joinB BB B0
      have A := S0.at
      clear S0
      refine t 24 (.agg #[.slice none 0 0, .slice none 0 0, .int .i64 0]) ?_
      refine ta 25 [.slice none 0 0, .slice none 0 0, .int .i64 0] 32 (pg) ?_
      intro v5 g6 Xg6 hg6 B
      have zg6 := Nat.le_trans A.size hg6
      have nXg6 := A.new hg6
      replace BB := joinB BB B
      replace A := A.keep B
      clear B
      refine t 9 (pg g0) ?_
      refine t 10 (pg g6) ?_
      refine gl_nil ?_
      refine ge_then ?_
      obtain ⟨q, hq⟩ : ∃ q, q = g6 := ⟨_, rfl⟩
      have R := rx_new (B := Bz) (hq ▸ Xg6) (by have := A.sx.lo; have := B0.size; omega)
      have dj : ∀ b, K0 b → ¬ (b = q) := fun b hb e => nXg6 (by rw [← hq, ← e]; exact hb)
      rw [← hq]
      clear Xg6
      refine gc_join (fun (_ : Unit) => [(0, .int .u64 fe), (1, .bool pb_), (2, .slice ao n c), (3, .slice aT nT cT), (9, pg g0), (10, pg q)]) (fun _ w' => Below w.heap.size w w' ∧ ∃ K X E nn NN n2, Sx Bz w' K g0 E [] nn NN ∧ nn ≤ 10 ∧ NN ≤ 10 ∧ Rx Bz w' X q E n2 ∧ n2 ≤ 10 ∧ (∀ b, K b → ¬ X b) ∧ Can E) ?_ ?_
      · refine gc_seq ?_
        refine gc_reg ?_
        refine t 26 (.bool pb_) ?_
        refine gl_nil ?_
        refine ge_then ?_
        rcases Bool.eq_false_or_eq_true (pb_) with b7 | b7
        · refine gc_yes (hc := congrArg Value.bool b7) ?_
          refine gc_seq ?_
          refine gc_reg ?_
          refine t 27 (pg g0) ?_
          refine t 28 (.int .u64 fe) ?_
          refine t 29 (.agg #[.int .u64 0, .int .u64 0, .int .u64 0, .int .u64 0, .int .u64 0, .int .u64 0, .int .u64 0, .int .u64 0, .int .u64 fe, .int .u64 0]) ?_
          refine tc 30 7 #[pg g0, .agg #[.int .u64 0, .int .u64 0, .int .u64 0, .int .u64 0, .int .u64 0, .int .u64 0, .int .u64 0, .int .u64 0, .int .u64 fe, .int .u64 0]] (setp_any (f := fe) A.sx (by omega) (by omega)) ?_
          rintro _ v9 ⟨rfl, K8, S, hK, hC⟩
          refine ⟨_, rfl, ?_⟩
          replace BB := belowO BB hC (fun b hb => Nat.le_trans hwB (A.sx.kb b hb))
          have dj2 := dj_sx R dj hK
          replace R := R.off hC dj (fun b hb cs => A.sx.sa.noU hb cs)
          replace dj := dj2
          clear dj2
          replace A := A.op S hK hC
          clear S hK hC
          refine gl_nil ?_
          refine ge_then ?_
          refine gc_reg ?_
          refine t 31 (pg q) ?_
          refine t 32 (.int .u64 fe) ?_
          refine t 33 (.agg #[.int .u64 0, .int .u64 0, .int .u64 0, .int .u64 0, .int .u64 0, .int .u64 0, .int .u64 0, .int .u64 0, .int .u64 fe, .int .u64 0]) ?_
          refine tc 34 8 #[pg q, .agg #[.int .u64 0, .int .u64 0, .int .u64 0, .int .u64 0, .int .u64 0, .int .u64 0, .int .u64 0, .int .u64 0, .int .u64 fe, .int .u64 0]] (setp15 (f := fe) R (by omega) (by decide)) ?_
          rintro _ v11 ⟨rfl, X10, S, hK, hC⟩
          refine ⟨_, rfl, ?_⟩
          replace BB := belowO BB hC (fun b hb => Nat.le_trans hwB (R.rs.xz b hb).1)
          have dj2 := dj_rx A.sx dj hK
          have A2 := (A.sx.besideR R hC dj).at
          clear A
          have A := A2
          clear A2
          replace dj := dj2
          clear dj2
          clear R
          have R := S
          clear S hK hC
          refine gl_nil ?_
          exact ge_join () ⟨BB, _, _, (put [] pk (ppv fe)), _, _, _, A.sx, by omega, by omega, R, by omega, dj, can_put⟩ (by kernel_rfl)
        · refine gc_no (hc := congrArg Value.bool b7) ?_
          refine gc_skip ?_
          exact ge_join () ⟨BB, _, _, [], _, _, _, A.sx, by omega, by omega, R, by omega, dj, can_nil⟩ (by kernel_rfl)
      clear BB
      clear A
      clear R
      rintro _ v12 ⟨BB, K, X, E, nn, NN, n2, S, hnn, hNN, R, hn2, dj, cE⟩
      have A := S.at
      clear S
      refine gc_seq ?_
      refine gc_seq ?_
      refine gc_reg ?_
      refine t 11 (.int .i64 0) ?_
      refine gl_nil ?_
      refine ge_then ?_
      refine gc_block ?_
      refine gc_loop (fun s => n - s) (fun (s : Nat) => [(0, .int .u64 fe), (1, .bool pb_), (2, .slice ao n c), (3, .slice aT nT cT), (9, pg g0), (10, pg q), (11, .int .i64 (s : Int))]) (fun s w' => s ≤ n ∧ Below w.heap.size w w' ∧ ∃ K X E nn NN n2, Sx Bz w' K g0 E [] nn NN ∧ nn ≤ 10 + s * 10 ∧ NN ≤ 10 + s * 10 ∧ Rx Bz w' X q E n2 ∧ n2 ≤ 10 + s * 10 ∧ (∀ b, K b → ¬ X b) ∧ Can E) (0 : Nat) ⟨Nat.zero_le _, BB, _, _, _, _, _, _, A.sx, by omega, by omega, R, by omega, dj, cE⟩ (by kernel_rfl) ?_
      clear hnn hNN hn2 dj cE
      clear BB
      clear A
      clear R
      rintro i v13 ⟨hi, BB, K, X, E, nn, NN, n2, S, hnn, hNN, R, hn2, dj, cE⟩
      have A := S.at
      clear S
      have hsz := A.sx.sa.size
      have hwv := BB.size
      refine gc_seq ?_
      refine gc_seq ?_
      refine gc_reg ?_
      refine t 35 (.int .i64 (i : Int)) ?_
      refine t 36 (.slice ao n c) ?_
      refine t 37 (.int .i64 ((n : Nat) : Int)) ?_
      by_cases ci14 : (i : Int) < ((n : Nat) : Int)
      · have hk_i : i < n := by omega
        obtain ⟨rI, rC⟩ := CS.rng i hk_i
        refine tq 38 (.bool (decide ((i : Int) < ((n : Nat) : Int)))) (.bool true) (congrArg Value.bool (decide_eq_true ci14)) ?_
        refine gl_nil ?_
        refine ge_then ?_
        refine gc_yes ?_
        refine gc_skip ?_
        refine ge_then ?_
        refine gc_seq ?_
        refine gc_block ?_
        refine gc_seq ?_
        replace BB := BB.drew
        replace A := A.drew
        replace R := R.keep (Below.refl _ _).drew
        refine gc_draw (fun w' => Below w.heap.size w w') (fun _ => false) BB ?_
        refine z 0 41 (pg g0) ?_
        refine z 1 42 (.slice ao n c) ?_
        refine z 2 43 (.int .i64 (i : Int)) ?_
        refine zr 3 44 (pq pb (po + i * 2)) (fun _ h => run_ixa 2 pb po n c i hk_i CS.ptr) ?_
        refine z 4 45 (pq pb (po + i * 2)) ?_
        refine zr 5 46 (.int .u64 (cI i)) (fun _ h => run_ldu (cellB h (CS.cell i hk_i).1)) ?_
        refine z 6 47 (.slice ao n c) ?_
        refine z 7 48 (.int .i64 (i : Int)) ?_
        refine zr 8 49 (pq pb (po + i * 2)) (fun _ h => run_ixa 2 pb po n c i hk_i CS.ptr) ?_
        refine z 9 50 (pq pb (po + i * 2 + 1)) ?_
        refine zr 10 51 (.int .u64 (cC i)) (fun _ h => run_ldu (cellB h (CS.cell i hk_i).2)) ?_
        refine zc 11 52 9 #[pg g0, .int .u64 (cI i), .int .u64 (cC i)] (mint_any A.sx rI rC (by omega) (by omega)) ?_
        rintro _ v19 ⟨rfl, K16, n17, N18, S, qn17, qN18, hK, hC⟩
        replace BB := belowO BB hC (fun b hb => Nat.le_trans hwB (A.sx.kb b hb))
        have dj2 := dj_sx R dj hK
        replace R := R.off hC dj (fun b hb cs => A.sx.sa.noU hb cs)
        replace dj := dj2
        clear dj2
        replace A := A.op S hK hC
        clear S hK hC
        refine ⟨_, rfl, BB, ?_⟩
        refine gz_done ?_
        refine ge_then ?_
        refine gc_fr [(0, .int .u64 fe), (1, .bool pb_), (2, .slice ao n c), (3, .slice aT nT cT), (9, pg g0), (10, pg q), (11, .int .i64 (i : Int)), (35, .int .i64 (i : Int)), (36, .slice ao n c), (37, .int .i64 ((n : Nat) : Int)), (38, .bool true), (41, pg g0), (42, .slice ao n c), (43, .int .i64 (i : Int)), (44, pq pb (po + i * 2)), (45, pq pb (po + i * 2)), (46, .int .u64 (cI i)), (47, .slice ao n c), (48, .int .i64 (i : Int)), (49, pq pb (po + i * 2)), (50, pq pb (po + i * 2 + 1)), (51, .int .u64 (cC i))] (by kernel_rfl) ?_
        replace BB := BB.drew
        replace A := A.drew
        replace R := R.keep (Below.refl _ _).drew
        refine gc_draw (fun w' => Below w.heap.size w w') (fun _ => false) BB ?_
        refine z 0 53 (pg q) ?_
        refine z 1 54 (.slice ao n c) ?_
        refine z 2 55 (.int .i64 (i : Int)) ?_
        refine zr 3 56 (pq pb (po + i * 2)) (fun _ h => run_ixa 2 pb po n c i hk_i CS.ptr) ?_
        refine z 4 57 (pq pb (po + i * 2)) ?_
        refine zr 5 58 (.int .u64 (cI i)) (fun _ h => run_ldu (cellB h (CS.cell i hk_i).1)) ?_
        refine z 6 59 (.slice ao n c) ?_
        refine z 7 60 (.int .i64 (i : Int)) ?_
        refine zr 8 61 (pq pb (po + i * 2)) (fun _ h => run_ixa 2 pb po n c i hk_i CS.ptr) ?_
        refine z 9 62 (pq pb (po + i * 2 + 1)) ?_
        refine zr 10 63 (.int .u64 (cC i)) (fun _ h => run_ldu (cellB h (CS.cell i hk_i).2)) ?_
        refine zc 11 64 10 #[pg q, .int .u64 (cI i), .int .u64 (cC i)] (mint9 R cE rI rC (by omega) (by omega)) ?_
        rintro _ v22 ⟨rfl, X20, n21, S, qn21, hK, hC⟩
        replace BB := belowO BB hC (fun b hb => Nat.le_trans hwB (R.rs.xz b hb).1)
        have dj2 := dj_rx A.sx dj hK
        have A2 := (A.sx.besideR R hC dj).at
        clear A
        have A := A2
        clear A2
        replace dj := dj2
        clear dj2
        clear R
        have R := S
        clear S hK hC
        refine ⟨_, rfl, BB, ?_⟩
        refine gz_done ?_
        refine ge_bn ?_
        refine ge_then ?_
        refine gc_fr [(0, .int .u64 fe), (1, .bool pb_), (2, .slice ao n c), (3, .slice aT nT cT), (9, pg g0), (10, pg q), (11, .int .i64 (i : Int)), (35, .int .i64 (i : Int)), (36, .slice ao n c), (37, .int .i64 ((n : Nat) : Int)), (38, .bool true), (41, pg g0), (42, .slice ao n c), (43, .int .i64 (i : Int)), (44, pq pb (po + i * 2)), (45, pq pb (po + i * 2)), (46, .int .u64 (cI i)), (47, .slice ao n c), (48, .int .i64 (i : Int)), (49, pq pb (po + i * 2)), (50, pq pb (po + i * 2 + 1)), (51, .int .u64 (cC i)), (53, pg q), (54, .slice ao n c), (55, .int .i64 (i : Int)), (56, pq pb (po + i * 2)), (57, pq pb (po + i * 2)), (58, .int .u64 (cI i)), (59, .slice ao n c), (60, .int .i64 (i : Int)), (61, pq pb (po + i * 2)), (62, pq pb (po + i * 2 + 1)), (63, .int .u64 (cC i))] (by kernel_rfl) ?_
        refine gc_reg ?_
        refine t 39 (.int .i64 (i : Int)) ?_
        refine tq 40 (.int .i64 (IntKind.i64.wrap ((i : Int) + 1))) (.int .i64 ((i : Int) + 1)) (wi (by omega)) ?_
        refine t 11 (.int .i64 ((i : Int) + 1)) ?_
        refine gl_nil ?_
        exact ge_round (i + 1) (by show n - (i + 1) < n - i; omega) ⟨hk_i, BB, _, _, _, _, _, _, A.sx, by omega, by omega, R, by omega, dj, can_mi cE rI rC⟩ (by kernel_rfl)
      · refine tq 38 (.bool (decide ((i : Int) < ((n : Nat) : Int)))) (.bool false) (congrArg Value.bool (decide_eq_false ci14)) ?_
        refine gl_nil ?_
        refine ge_then ?_
        refine gc_no ?_
        refine gc_exit ?_
        refine ge_tx ?_
        refine ge_tx ?_
        refine ge_bx ?_
        refine ge_then ?_
        refine gc_seq ?_
        refine gc_seq ?_
        refine gc_reg ?_
        refine t 12 (.int .i64 0) ?_
        refine gl_nil ?_
        refine ge_then ?_
        refine gc_block ?_
        refine gc_loop (fun s => nT - s) (fun (s : Nat) => [(0, .int .u64 fe), (1, .bool pb_), (2, .slice ao n c), (3, .slice aT nT cT), (9, pg g0), (10, pg q), (12, .int .i64 (s : Int))]) (fun s w' => s ≤ nT ∧ Below w.heap.size w w' ∧ ∃ K X E nn NN n2, Sx Bz w' K g0 E [] nn NN ∧ nn ≤ 1000 + s * 100 ∧ NN ≤ 1000 + s * 100 ∧ Rx Bz w' X q E n2 ∧ n2 ≤ 1000 + s * 100 ∧ (∀ b, K b → ¬ X b) ∧ Can E) (0 : Nat) ⟨Nat.zero_le _, BB, _, _, _, _, _, _, A.sx, by omega, by omega, R, by omega, dj, cE⟩ (by kernel_rfl) ?_
        clear hsz hwv hi hnn hNN hn2 dj cE
        clear BB
        clear A
        clear R
        rintro i v24 ⟨hi, BB, K, X, E, nn, NN, n2, S, hnn, hNN, R, hn2, dj, cE⟩
        have A := S.at
        clear S
        have hsz := A.sx.sa.size
        have hwv := BB.size
        refine gc_seq ?_
        refine gc_seq ?_
        refine gc_reg ?_
        refine t 65 (.int .i64 (i : Int)) ?_
        refine t 66 (.slice aT nT cT) ?_
        refine t 67 (.int .i64 ((nT : Nat) : Int)) ?_
        by_cases ci25 : (i : Int) < ((nT : Nat) : Int)
        · have hk_i : i < nT := by omega
          obtain ⟨rS, rQ, rF⟩ := TS.rng i hk_i
          refine tq 68 (.bool (decide ((i : Int) < ((nT : Nat) : Int)))) (.bool true) (congrArg Value.bool (decide_eq_true ci25)) ?_
          refine gl_nil ?_
          refine ge_then ?_
          refine gc_yes ?_
          refine gc_skip ?_
          refine ge_then ?_
          refine gc_seq ?_
          refine gc_block ?_
          refine gc_seq ?_
          replace BB := BB.drew
          replace A := A.drew
          replace R := R.keep (Below.refl _ _).drew
          refine gc_draw (fun w' => Below w.heap.size w w') (fun _ => false) BB ?_
          refine z 0 71 (pg g0) ?_
          refine z 1 72 (.slice aT nT cT) ?_
          refine z 2 73 (.int .i64 (i : Int)) ?_
          refine zr 3 74 (pq tb (to + i * 7)) (fun _ h => run_ixa 7 tb to nT cT i hk_i TS.ptr) ?_
          refine zr 4 75 (.agg #[.int .u64 (xS i), .int .u64 (xQ i), .int .u64 (xF i), .int .i64 (xM i), .int .u64 (xA i), .int .u64 (xB i), .int .u64 (xC i)]) (fun _ h => run_ldt TS hk_i h) ?_
          refine z 6 77 (pg q) ?_
          refine z 7 78 (.slice aT nT cT) ?_
          refine z 8 79 (.int .i64 (i : Int)) ?_
          refine zr 9 80 (pq tb (to + i * 7)) (fun _ h => run_ixa 7 tb to nT cT i hk_i TS.ptr) ?_
          refine zr 10 81 (.agg #[.int .u64 (xS i), .int .u64 (xQ i), .int .u64 (xF i), .int .i64 (xM i), .int .u64 (xA i), .int .u64 (xB i), .int .u64 (xC i)]) (fun _ h => run_ldt TS hk_i h) ?_
          refine zc 5 76 11 #[pg g0, .agg #[.int .u64 (xS i), .int .u64 (xQ i), .int .u64 (xF i), .int .i64 (xM i), .int .u64 (xA i), .int .u64 (xB i), .int .u64 (xC i)]] (adm_any A.sx rS rF (by omega) (by omega)) ?_
          rintro _ v30 ⟨rfl, K27, n28, N29, S, qn28, qN29, hK, hC⟩
          replace BB := belowO BB hC (fun b hb => Nat.le_trans hwB (A.sx.kb b hb))
          have dj2 := dj_sx R dj hK
          replace R := R.off hC dj (fun b hb cs => A.sx.sa.noU hb cs)
          replace dj := dj2
          clear dj2
          replace A := A.op S hK hC
          clear S hK hC
          refine ⟨_, rfl, BB, ?_⟩
          refine zc 11 82 12 #[pg q, .agg #[.int .u64 (xS i), .int .u64 (xQ i), .int .u64 (xF i), .int .i64 (xM i), .int .u64 (xA i), .int .u64 (xB i), .int .u64 (xC i)]] (adm18 R cE rS rF (by omega) (by omega)) ?_
          rintro _ v33 ⟨rfl, X31, n32, S, qn32, hK, hC⟩
          replace BB := belowO BB hC (fun b hb => Nat.le_trans hwB (R.rs.xz b hb).1)
          have dj2 := dj_rx A.sx dj hK
          have A2 := (A.sx.besideR R hC dj).at
          clear A
          have A := A2
          clear A2
          replace dj := dj2
          clear dj2
          clear R
          have R := S
          clear S hK hC
          refine ⟨_, rfl, BB, ?_⟩
          refine zq 12 83 (.bool ((admR E (xS i) (xQ i) (xF i) : Int) != admR E (xS i) (xQ i) (xF i))) (.bool false) (congrArg Value.bool (bne_self_eq_false _)) ?_
          refine z 13 84 (.bool false) ?_
          refine z 14 85 (pg g0) ?_
          refine z 16 87 (pg q) ?_
          refine z 17 88 (pg q) ?_
          refine z 18 89 (pg q) ?_
          refine gz_ready [15, 19] ?_
          refine ga_call 15 (some 86) 14 #[pg g0] (dumpZ A.sx (by omega)) ?_ ?_
          · rintro _ v34 ⟨dv, es, rfl, PD, eD, ZD, B⟩
            replace BB := joinB BB B
            replace A := A.keep B
            replace R := R.keep B
            clear B
            refine ⟨_, rfl, BB, ?_⟩
            obtain ⟨lv, wv, hbq, hl, hw⟩ := R.rs.ex
            obtain ⟨el, PL, eL⟩ := hl.ex
            clear hl hw
            refine zw 19 90 (lv) _ (run_ld1 (off := 0) hbq rfl ⟨_, _, rfl, by kernel_rfl, fun _ => by kernel_rfl⟩) BB ?_
            refine zc 20 91 13 #[dv, lv] (pairsT A.sx (by omega) (ZD.prs PD) (PL.a (Nat.zero_le _) (fun _ _ _ => Nat.zero_le _)) eD eL rfl) ?_
            rintro _ v35 ⟨rfl, B⟩
            replace BB := joinB BB B
            replace A := A.keep B
            replace R := R.keep B
            replace ZD := ZD.keep B
            replace PL := PL.keep B
            clear B
            clear ZD
            clear PL
            refine ⟨_, rfl, BB, ?_⟩
            refine z 21 92 (.bool false) ?_
            refine z 22 93 (.bool false) ?_
            refine gz_done ?_
            refine ge_then ?_
            refine gc_fr [(0, .int .u64 fe), (1, .bool pb_), (2, .slice ao n c), (3, .slice aT nT cT), (9, pg g0), (10, pg q), (12, .int .i64 (i : Int)), (65, .int .i64 (i : Int)), (66, .slice aT nT cT), (67, .int .i64 ((nT : Nat) : Int)), (68, .bool true), (71, pg g0), (72, .slice aT nT cT), (73, .int .i64 (i : Int)), (74, pq tb (to + i * 7)), (75, .agg #[.int .u64 (xS i), .int .u64 (xQ i), .int .u64 (xF i), .int .i64 (xM i), .int .u64 (xA i), .int .u64 (xB i), .int .u64 (xC i)]), (76, .int .i64 (admR E (xS i) (xQ i) (xF i))), (77, pg q), (78, .slice aT nT cT), (79, .int .i64 (i : Int)), (80, pq tb (to + i * 7)), (81, .agg #[.int .u64 (xS i), .int .u64 (xQ i), .int .u64 (xF i), .int .i64 (xM i), .int .u64 (xA i), .int .u64 (xB i), .int .u64 (xC i)]), (82, .int .i64 (admR E (xS i) (xQ i) (xF i))), (83, .bool false), (84, .bool false), (85, pg g0), (86, dv), (87, pg q), (88, pg q), (89, pg q), (90, lv), (91, .bool true), (92, .bool false), (93, .bool false)] (by kernel_rfl) ?_
            refine gc_no ?_
            refine gc_skip ?_
            refine ge_bn ?_
            refine ge_then ?_
            refine gc_reg ?_
            refine t 69 (.int .i64 (i : Int)) ?_
            refine tq 70 (.int .i64 (IntKind.i64.wrap ((i : Int) + 1))) (.int .i64 ((i : Int) + 1)) (wi (by omega)) ?_
            refine t 12 (.int .i64 ((i : Int) + 1)) ?_
            refine gl_nil ?_
            exact ge_round (i + 1) (by show nT - (i + 1) < nT - i; omega) ⟨hk_i, BB, _, _, _, _, _, _, A.sx, by omega, by omega, R, by omega, dj, can_ad cE rS rF⟩ (by kernel_rfl)
          obtain ⟨lv, wv, hbq, hl, hw⟩ := R.rs.ex
          obtain ⟨el, PL, eL⟩ := hl.ex
          clear hl hw
          refine ga_val 19 (some 90) (lv) _ (run_ld1 (off := 0) hbq rfl ⟨_, _, rfl, by kernel_rfl, fun _ => by kernel_rfl⟩) BB ?_ ?_
          · skip
            refine zc 15 86 14 #[pg g0] (dumpZ A.sx (by omega)) ?_
            rintro _ v36 ⟨dv, es, rfl, PD, eD, ZD, B⟩
            replace BB := joinB BB B
            replace A := A.keep B
            replace R := R.keep B
            replace PL := PL.keep B
            clear B
            refine ⟨_, rfl, BB, ?_⟩
            refine zc 20 91 13 #[dv, lv] (pairsT A.sx (by omega) (ZD.prs PD) (PL.a (Nat.zero_le _) (fun _ _ _ => Nat.zero_le _)) eD eL rfl) ?_
            rintro _ v37 ⟨rfl, B⟩
            replace BB := joinB BB B
            replace A := A.keep B
            replace R := R.keep B
            replace PL := PL.keep B
            replace ZD := ZD.keep B
            clear B
            clear ZD
            clear PL
            refine ⟨_, rfl, BB, ?_⟩
            refine z 21 92 (.bool false) ?_
            refine z 22 93 (.bool false) ?_
            refine gz_done ?_
            refine ge_then ?_
            refine gc_fr [(0, .int .u64 fe), (1, .bool pb_), (2, .slice ao n c), (3, .slice aT nT cT), (9, pg g0), (10, pg q), (12, .int .i64 (i : Int)), (65, .int .i64 (i : Int)), (66, .slice aT nT cT), (67, .int .i64 ((nT : Nat) : Int)), (68, .bool true), (71, pg g0), (72, .slice aT nT cT), (73, .int .i64 (i : Int)), (74, pq tb (to + i * 7)), (75, .agg #[.int .u64 (xS i), .int .u64 (xQ i), .int .u64 (xF i), .int .i64 (xM i), .int .u64 (xA i), .int .u64 (xB i), .int .u64 (xC i)]), (76, .int .i64 (admR E (xS i) (xQ i) (xF i))), (77, pg q), (78, .slice aT nT cT), (79, .int .i64 (i : Int)), (80, pq tb (to + i * 7)), (81, .agg #[.int .u64 (xS i), .int .u64 (xQ i), .int .u64 (xF i), .int .i64 (xM i), .int .u64 (xA i), .int .u64 (xB i), .int .u64 (xC i)]), (82, .int .i64 (admR E (xS i) (xQ i) (xF i))), (83, .bool false), (84, .bool false), (85, pg g0), (86, dv), (87, pg q), (88, pg q), (89, pg q), (90, lv), (91, .bool true), (92, .bool false), (93, .bool false)] (by kernel_rfl) ?_
            refine gc_no ?_
            refine gc_skip ?_
            refine ge_bn ?_
            refine ge_then ?_
            refine gc_reg ?_
            refine t 69 (.int .i64 (i : Int)) ?_
            refine tq 70 (.int .i64 (IntKind.i64.wrap ((i : Int) + 1))) (.int .i64 ((i : Int) + 1)) (wi (by omega)) ?_
            refine t 12 (.int .i64 ((i : Int) + 1)) ?_
            refine gl_nil ?_
            exact ge_round (i + 1) (by show nT - (i + 1) < nT - i; omega) ⟨hk_i, BB, _, _, _, _, _, _, A.sx, by omega, by omega, R, by omega, dj, can_ad cE rS rF⟩ (by kernel_rfl)
          exact ga_nil
        · refine tq 68 (.bool (decide ((i : Int) < ((nT : Nat) : Int)))) (.bool false) (congrArg Value.bool (decide_eq_false ci25)) ?_
          refine gl_nil ?_
          refine ge_then ?_
          refine gc_no ?_
          refine gc_exit ?_
          refine ge_tx ?_
          refine ge_tx ?_
          refine ge_bx ?_
          refine ge_then ?_
          refine gc_seq ?_
          refine gc_reg ?_
          refine t 8 (.bool true) ?_
          refine gl_nil ?_
          refine ge_then ?_
          refine gc_ret ?_
          refine ge_ret (.bool true) (rs1 8 (by kernel_rfl) (by kernel_rfl)) ?_
          exact ⟨rfl, BB⟩
end Bk
end Go.Proofs.YtagnmdejdeeenaaGreat
