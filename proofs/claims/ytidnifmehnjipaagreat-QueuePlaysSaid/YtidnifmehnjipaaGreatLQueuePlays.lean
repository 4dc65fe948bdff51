/- gleanlaw12.QueuePlays. -/
import Derived.Test.YtidnifmehnjipaaGreatJaB
namespace Go.Proofs.YtidnifmehnjipaaGreat
namespace Qu
open Go.RowKit Go.Lib Pg Lim Gl Kv Bk Pw
attribute [local go_sem] Oper.semAt_some
set_option maxRecDepth 100000
set_option linter.unusedVariables false
set_option linter.unusedSimpArgs false
set_option maxHeartbeats 2000000
theorem run_shr1 {ρ : Operand → Value} {o : Oper} {w : World} {x : Int} (hx : Uq x) (ho : ∃ p T, o.op = .binOp .shr 22 p (.const (.int .u64 1)) T ∧ ρ p = .int .u64 x ∧ ρ (.const (.int .u64 1)) = .int .u64 1 := by exact ⟨_, _, rfl, by kernel_rfl, by kernel_rfl⟩) : (execOp ρ o).run Tryz.prog w = .ok (.value (.int .u64 (x / 2))) w := by
  obtain ⟨p, T, h, h1, h2⟩ := ho
  simp only [execOp, h, h1, h2]
  go_simp
theorem Sx.low {B B' : Nat} {w : World} {K : Nat → Prop} {g : Nat} {E : Ents} {W : List Ents} {n N : Nat} (h : Sx B' w K g E W n N) (hB : B ≤ B') : Sx B w K g E W n N := ⟨h.sa.mono (fun b _ hb => Nat.le_trans hB hb), Nat.le_trans hB h.lo, fun b hb => Nat.le_trans hB (h.kb b hb)⟩
theorem nil_qs : Qs [] 0 [] := by
  have hch : chn [] = [] := rfl
  refine ⟨List.Pairwise.nil, (fun _ h => by cases h), by rw [hch]; exact chn_nil.2, by rw [hch, chn_nil.1]; decide, Int.le_refl _, List.Pairwise.nil, (fun _ h => by cases h), (fun _ h => by cases h), (fun _ _ _ _ _ => rfl), ?_, ?_, (fun _ _ _ _ => rfl)⟩
  · intro d i _ _ v
    exact ⟨(fun h => by cases h), (fun ⟨_, h, _⟩ => by cases h)⟩
  · intro d i _ _ v
    exact ⟨(fun h => by cases h), (fun ⟨_, h, _⟩ => by cases h)⟩
theorem RxE.castE {B : Nat} {w : World} {X : Nat → Prop} {q : Nat} {E E' : Ents} {n : Nat} {r : Value} {P : Nat} {args : Array Value} (h : Calls Tryz.prog P args w (RxE B w X q E n r)) (hE : E = E') : Calls Tryz.prog P args w (RxE B w X q E' n r) := by subst hE; exact h
theorem RxF.castE {B : Nat} {w : World} {X : Nat → Prop} {q : Nat} {E E' : Ents} {n m : Nat} {r : Value} {P : Nat} {args : Array Value} (h : Calls Tryz.prog P args w (RxF B w X q E n m r)) (hE : E = E') : Calls Tryz.prog P args w (RxF B w X q E' n m r) := by subst hE; exact h
theorem nxeq {E F G : Ents} {i nx k a b d : Int} {r : List Int} (hi : i = nx) (h : F = G ∧ rputE (put (nextE E) (Ky.mk k nx 0) r) k nx a b d = G) : rputE (put (nextE E) (Ky.mk k i 0) r) k i a b d = F := by
  rw [hi, h.2, h.1]
theorem queuePlays_walk {w : World} {x : Int} {ch : Bool} {ao : Option Addr} {n c pb po_ : Nat} {st : Nat → Sq} (hx : Uq x) (SS : StpQ w ao n pb po_ st) : Calls Tryz.prog 3 #[.int .u64 x, .bool ch, .slice ao n c] w fun e w' => e = .returned (.bool true) ∧ Below w.heap.size w w' := by
  have BB := Below.refl w.heap.size w
  have hfew := SS.few
  refine gc_enter (n := 137) Tryz.func3 rfl (by kernel_rfl) (by kernel_rfl) ?_
  refine gc_seq ?_
  refine gc_reg ?_
  refine t 6 (.bool false) ?_
  refine gl_nil ?_
  refine ge_then ?_
  refine gc_seq ?_
  refine gc_seq ?_
  refine gc_reg ?_
  refine tc 12 4 #[] (known12) ?_
  rintro _ v1 ⟨rfl, B⟩
  refine ⟨_, rfl, ?_⟩
  replace BB := joinB BB B
  clear B
  refine t 13 (.bool false) ?_
  refine gl_nil ?_
  refine ge_then ?_
  refine gc_no ?_
  refine gc_skip ?_
  refine ge_then ?_
  refine gc_seq ?_
  refine gc_reg ?_
  refine t 14 (.int .u64 x) ?_
  refine tr 15 (.int .u64 (x / 2)) (run_shr1 hx) ?_
  refine t 0 (.int .u64 (x / 2)) ?_
  refine gl_nil ?_
  refine ge_then ?_
  refine gc_seq ?_
  refine gc_seq ?_
  refine gc_reg ?_
  refine t 16 (.slice ao n c) ?_
  refine tc 17 5 #[.slice ao n c] (light_any (SS.keep BB)) ?_
  rintro _ v2 ⟨lb, rfl, hlb, B⟩
  refine ⟨_, rfl, ?_⟩
  replace BB := joinB BB B
  clear B
  cases lb
  · skip
    refine t 18 (.bool true) ?_
    refine gl_nil ?_
    refine ge_then ?_
    refine gc_fr [(0, .int .u64 (x / 2)), (1, .bool ch), (2, .slice ao n c), (6, .bool false), (18, .bool true)] (by kernel_rfl) ?_
    refine gc_yes ?_
    refine gc_seq ?_
    refine gc_reg ?_
    refine t 6 (.bool true) ?_
    refine gl_nil ?_
    refine ge_then ?_
    refine gc_ret ?_
    refine ge_tr ?_
    refine ge_ret (.bool true) (rs1 6 (by kernel_rfl) (by kernel_rfl)) ?_
    exact ⟨rfl, BB⟩
  · obtain ⟨h150, h30⟩ := hlb rfl
    refine t 18 (.bool false) ?_
    refine gl_nil ?_
    refine ge_then ?_
    refine gc_fr [(0, .int .u64 (x / 2)), (1, .bool ch), (2, .slice ao n c), (6, .bool false), (18, .bool false)] (by kernel_rfl) ?_
    refine gc_no ?_
    refine gc_skip ?_
    refine ge_then ?_
    refine gc_seq ?_
    refine gc_reg ?_
    obtain ⟨Bz, hBz⟩ : ∃ Bz, Bz = (v2).heap.size := ⟨_, rfl⟩
    have hwB : w.heap.size ≤ Bz := by rw [hBz]; exact BB.size
    refine tc 19 6 #[] (snewP Bz hBz) ?_
    rintro _ v3 ⟨g1, K1, rfl, S0, hK1, B0⟩
    refine ⟨_, rfl, ?_⟩
    replace BB := joinB BB B0
    have A := S0.at
    clear S0
    have sB0 := B0.size
    refine t 20 (.agg #[.slice none 0 0, .slice none 0 0, .int .i64 0]) ?_
    refine ta 21 [.slice none 0 0, .slice none 0 0, .int .i64 0] 33 (pg) ?_
    intro v4 g5 Xg5 hg5 B
    have yg5 := Nat.le_trans BB.size hg5
    have zg5 := Nat.le_trans A.size hg5
    have nXg5 := A.new hg5
    replace BB := joinB BB B
    replace A := A.keep B
    clear B
    refine t 7 (pg g1) ?_
    refine t 8 (pg g5) ?_
    refine gl_nil ?_
    refine ge_then ?_
    obtain ⟨q, hq⟩ : ∃ q, q = g5 := ⟨_, rfl⟩
    have R := rx_new (B := Bz) (hq ▸ Xg5) (by have := A.sx.lo; omega)
    have dj : ∀ b, K1 b → ¬ (b = q) := fun b hb e => nXg5 (by rw [← hq, ← e]; exact hb)
    rw [← hq]
    have hBq : Bz ≤ q := by omega
    clear Xg5
    refine gc_join (fun (s : Nat) => [(2, .slice ao n c), (7, pg s), (8, pg q)]) (fun s w' => Below w.heap.size w w' ∧ ∃ K X E n1 N1 n2 nx, Sx Bz w' K s E [] n1 N1 ∧ Rx Bz w' X q E n2 ∧ (∀ b, K b → ¬ X b) ∧ n1 ≤ 10 ∧ N1 ≤ 10 ∧ n2 ≤ 10 ∧ Qs E nx [] ∧ nx ≤ 9223372036854775808) ?_ ?_
    · refine gc_seq ?_
      refine gc_reg ?_
      refine t 22 (.bool ch) ?_
      refine gl_nil ?_
      refine ge_then ?_
      rcases Bool.eq_false_or_eq_true (ch) with b6 | b6
      · refine gc_yes (hc := congrArg Value.bool b6) ?_
        refine gc_seq ?_
        refine gc_reg ?_
        refine t 23 (.int .u64 (x / 2)) ?_
        clear A
        have lq := R.lt R.rs.xq
        refine tc 24 7 #[.int .u64 (x / 2)] (begun_any (x := x / 2)) ?_
        rintro _ v7 ⟨Bz2, g2, K2, rfl, S2, hBz2, hK2, B⟩
        refine ⟨_, rfl, ?_⟩
        have szN := BB.size
        replace BB := joinB BB B
        replace R := R.keep B
        clear B
        have A := (Sx.low (B := Bz) S2 (by omega)).at
        clear S2
        replace dj : ∀ b, K2 b → ¬ (b = q) := fun b hb e => by have := hK2 b hb; omega
        refine t 7 (pg g2) ?_
        refine gl_nil ?_
        refine ge_then ?_
        refine gc_reg ?_
        refine t 25 (pg q) ?_
        refine tc 26 9 #[.int .i64 2, .int .u64 0, .int .u64 0] (key9 (by decide) mkE2) ?_
        rintro _ v8 ⟨kv_, rfl, Uk, B⟩
        refine ⟨_, rfl, ?_⟩
        replace BB := joinB BB B
        replace R := R.keep B
        replace A := A.keep B
        clear B
        refine t 27 (.int .u64 (x / 2)) ?_
        refine t 28 (.agg #[.int .u64 3, .int .u64 (x / 2)]) ?_
        refine tc 29 10 #[.agg #[.int .u64 3, .int .u64 (x / 2)]] (rput_chain) ?_
        rintro _ v9 ⟨pv_, rfl, Up, B⟩
        refine ⟨_, rfl, ?_⟩
        replace BB := joinB BB B
        replace R := R.keep B
        replace A := A.keep B
        replace Uk := byu_keep Uk B
        clear B
        refine tc 30 8 #[pg q, kv_, pv_] (rxset R Uk Up (by omega) (by simp) (setE_mk mkE2 (Nat.le_trans (pv_len _ _) (by decide)))) ?_
        rintro _ v11 ⟨rfl, X10, S, hK, hC⟩
        refine ⟨_, rfl, ?_⟩
        replace BB := belowO BB hC (fun b hb => Nat.le_trans hwB (R.rs.xz b hb).1)
        have dj2 := dj_rx A.sx dj hK
        have A2 := (Pw.Sx.besideR A.sx R hC dj).at
        clear A
        have A := A2
        clear A2
        replace dj := dj2
        clear dj2
        clear R
        have R := S
        clear S hK hC
        clear Uk
        clear Up
        refine gl_nil ?_
        exact ge_join g2 ⟨BB, _, _, _, _, _, _, _, A.sx, R, dj, by omega, by omega, by omega, bg_qs ⟨by omega, by omega⟩, by omega⟩ (by kernel_rfl)
      · refine gc_no (hc := congrArg Value.bool b6) ?_
        refine gc_skip ?_
        exact ge_join g1 ⟨BB, _, _, [], _, _, _, 0, A.sx, R, dj, by omega, by omega, by omega, nil_qs, by decide⟩ (by kernel_rfl)
    clear BB
    clear A
    clear R
    clear dj
    rintro g0 v12 ⟨BB, K3, X3, E3, n3, N3, n4, nx0, S, R, dj, q1, q2, q3, Q0, hnx0⟩
    have A := S.at
    clear S
    refine gc_seq ?_
    refine gc_seq ?_
    refine gc_reg ?_
    refine t 9 (.int .i64 0) ?_
    refine gl_nil ?_
    refine ge_then ?_
    refine gc_block ?_
    refine gc_loop (fun s => n - s) (fun (s : Nat) => [(2, .slice ao n c), (7, pg g0), (8, pg q), (9, .int .i64 (s : Int))]) (fun s w' => s ≤ n ∧ Below w.heap.size w w' ∧ ∃ K X E nn NN n2 nx A, Sx Bz w' K g0 E [] nn NN ∧ nn ≤ 100 + s * 20000 ∧ NN ≤ 10 + s * 20 ∧ Rx Bz w' X q E n2 ∧ n2 ≤ 100 + s * 20000 ∧ (∀ b, K b → ¬ X b) ∧ Qs E nx A ∧ A.length ≤ s ∧ nx ≤ 9223372036854775808 + s) (0 : Nat) ⟨Nat.zero_le _, BB, _, _, _, _, _, _, nx0, [], A.sx, by omega, by omega, R, by omega, dj, Q0, Nat.le_refl _, by omega⟩ (by kernel_rfl) ?_
    clear BB
    clear A
    clear R
    clear dj
    rintro i v13 ⟨hi, BB, K, X, E, nn, NN, n2, nx, AA, S, hnn, hNN, R, hn2, dj, Q, hAA, hnx⟩
    have A := S.at
    clear S
    have hsz := A.sx.sa.size
    have hwv := BB.size
    refine gc_seq ?_
    refine gc_seq ?_
    refine gc_reg ?_
    refine t 31 (.int .i64 (i : Int)) ?_
    refine t 32 (.slice ao n c) ?_
    refine t 33 (.int .i64 ((n : Nat) : Int)) ?_
    by_cases ci : (i : Int) < ((n : Nat) : Int)
    · have hk_i : i < n := by omega
      have rr := SS.rng i hk_i
      have hoE : ∀ k, Oct (got E k) := fun k => A.sx.oct k
      refine tq 34 (.bool (decide ((i : Int) < ((n : Nat) : Int)))) (.bool true) (congrArg Value.bool (decide_eq_true ci)) ?_
      refine gl_nil ?_
      refine ge_then ?_
      refine gc_yes ?_
      refine gc_skip ?_
      refine ge_then ?_
      refine gc_seq ?_
      refine gc_block ?_
      refine gc_seq ?_
      refine gc_reg ?_
      refine t 37 (.slice ao n c) ?_
      refine t 38 (.int .i64 (i : Int)) ?_
      refine tr 39 (pq pb (po_ + i * 16)) (run_ixa 16 pb po_ n c i hk_i SS.ptr) ?_
      refine tr 40 (.agg #[.int .i64 (st i).w, .int .i64 (st i).k, .int .u64 (st i).n, .int .u64 (st i).u0, .int .u64 (st i).u1, .int .u64 (st i).u2, .int .u64 (st i).u3, .int .u64 (st i).u4, .int .u64 (st i).u5, .int .u64 (st i).m0, .int .u64 (st i).m1, .int .u64 (st i).m2, .int .u64 (st i).m3, .int .u64 (st i).m4, .int .u64 (st i).m5, .slice (Sq.a (st i)) (Sq.l (st i)) (Sq.c (st i))]) (run_lS SS hk_i BB) ?_
      refine ta 10 [.int .i64 0, .int .i64 0, .int .u64 0, .int .u64 0, .int .u64 0, .int .u64 0, .int .u64 0, .int .u64 0, .int .u64 0, .int .u64 0, .int .u64 0, .int .u64 0, .int .u64 0, .int .u64 0, .int .u64 0, .slice none 0 0] 50 (pg) ?_
      intro v14 g15 Xg15 hg15 B
      have yg15 := Nat.le_trans BB.size hg15
      have uXg15 := R.new hg15
      have zg15 := Nat.le_trans A.size hg15
      have nXg15 := A.new hg15
      replace BB := joinB BB B
      replace A := A.keep B
      replace R := R.keep B
      clear B
      refine ts Xg15 0 (.agg #[.int .i64 (st i).w, .int .i64 (st i).k, .int .u64 (st i).n, .int .u64 (st i).u0, .int .u64 (st i).u1, .int .u64 (st i).u2, .int .u64 (st i).u3, .int .u64 (st i).u4, .int .u64 (st i).u5, .int .u64 (st i).m0, .int .u64 (st i).m1, .int .u64 (st i).m2, .int .u64 (st i).m3, .int .u64 (st i).m4, .int .u64 (st i).m5, .slice (Sq.a (st i)) (Sq.l (st i)) (Sq.c (st i))]) [.int .i64 (st i).w, .int .i64 (st i).k, .int .u64 (st i).n, .int .u64 (st i).u0, .int .u64 (st i).u1, .int .u64 (st i).u2, .int .u64 (st i).u3, .int .u64 (st i).u4, .int .u64 (st i).u5, .int .u64 (st i).m0, .int .u64 (st i).m1, .int .u64 (st i).m2, .int .u64 (st i).m3, .int .u64 (st i).m4, .int .u64 (st i).m5, .slice (Sq.a (st i)) (Sq.l (st i)) (Sq.c (st i))] [.int .i64 (st i).w, .int .i64 (st i).k, .int .u64 (st i).n, .int .u64 (st i).u0, .int .u64 (st i).u1, .int .u64 (st i).u2, .int .u64 (st i).u3, .int .u64 (st i).u4, .int .u64 (st i).u5, .int .u64 (st i).m0, .int .u64 (st i).m1, .int .u64 (st i).m2, .int .u64 (st i).m3, .int .u64 (st i).m4, .int .u64 (st i).m5, .slice (Sq.a (st i)) (Sq.l (st i)) (Sq.c (st i))] ?_
      intro v16 Y C
      replace BB := belowC BB C (by omega)
      replace A := Bk.At.cell A Xg15 C zg15 nXg15 (by decide)
      replace R := R.cell Xg15 C uXg15 (by decide)
      clear C Xg15
      have Xg15 := Y
      clear Y
      refine gl_nil ?_
      refine ge_then ?_
      refine gc_seq ?_
      refine gc_reg ?_
      refine t 11 (.bool true) ?_
      refine gl_nil ?_
      refine ge_then ?_
      refine gc_join (fun (_ : Unit) => [(2, .slice ao n c), (7, pg g0), (8, pg q), (9, .int .i64 (i : Int)), (10, pg g15), (11, .bool true)]) (fun _ w' => Below w.heap.size w w' ∧ Blk w' g15 [.int .i64 (st i).w, .int .i64 (st i).k, .int .u64 (st i).n, .int .u64 (st i).u0, .int .u64 (st i).u1, .int .u64 (st i).u2, .int .u64 (st i).u3, .int .u64 (st i).u4, .int .u64 (st i).u5, .int .u64 (st i).m0, .int .u64 (st i).m1, .int .u64 (st i).m2, .int .u64 (st i).m3, .int .u64 (st i).m4, .int .u64 (st i).m5, .slice (Sq.a (st i)) (Sq.l (st i)) (Sq.c (st i))] 50 ∧ ∃ K' X' E' n' N' n2' nx' A', Sx Bz w' K' g0 E' [] n' N' ∧ n' ≤ nn + 50 ∧ N' ≤ NN + 20 ∧ Rx Bz w' X' q E' n2' ∧ n2' ≤ n2 + 50 ∧ (∀ b, K' b → ¬ X' b) ∧ Qs E' nx' A' ∧ A'.length ≤ AA.length + 1 ∧ nx' ≤ nx + 1 ∧ ¬ K' g15 ∧ ¬ X' g15) ?_ ?_
      · refine gc_seq ?_
        refine gc_reg ?_
        refine t 41 (pg g15) ?_
        refine tl 42 (.int .i64 (st i).w) Xg15 0 ?_
        refine gl_nil ?_
        refine ge_then ?_
        refine gc_fr [(2, .slice ao n c), (7, pg g0), (8, pg q), (9, .int .i64 (i : Int)), (10, pg g15), (11, .bool true), (31, .int .i64 (i : Int)), (32, .slice ao n c), (33, .int .i64 ((n : Nat) : Int)), (34, .bool true), (37, .slice ao n c), (38, .int .i64 (i : Int)), (39, pq pb (po_ + i * 16)), (40, .agg #[.int .i64 (st i).w, .int .i64 (st i).k, .int .u64 (st i).n, .int .u64 (st i).u0, .int .u64 (st i).u1, .int .u64 (st i).u2, .int .u64 (st i).u3, .int .u64 (st i).u4, .int .u64 (st i).u5, .int .u64 (st i).m0, .int .u64 (st i).m1, .int .u64 (st i).m2, .int .u64 (st i).m3, .int .u64 (st i).m4, .int .u64 (st i).m5, .slice (Sq.a (st i)) (Sq.l (st i)) (Sq.c (st i))]), (41, pg g15), (42, .int .i64 (st i).w)] (by kernel_rfl) ?_
        refine gc_block ?_
        refine gc_join (fun (s : Bool) => [(2, .slice ao n c), (7, pg g0), (8, pg q), (9, .int .i64 (i : Int)), (10, pg g15), (11, .bool true), (42, .int .i64 (st i).w), (43, .bool s)]) (fun _ w' => v16 = w') ?_ ?_
        · refine gc_seq ?_
          refine gc_reg ?_
          by_cases c17 : ((st i).w : Int) = 0
          · refine tq 44 (.bool (((st i).w : Int) == 0)) (.bool true) (congrArg Value.bool (beq_iff_eq.2 c17)) ?_
            refine t 43 (.bool true) ?_
            refine gl_nil ?_
            refine ge_then ?_
            refine gc_yes ?_
            refine gc_skip ?_
            exact ge_join true rfl (by kernel_rfl)
          · refine tq 44 (.bool (((st i).w : Int) == 0)) (.bool false) (congrArg Value.bool (beq_eq_false_iff_ne.2 c17)) ?_
            refine t 43 (.bool false) ?_
            refine gl_nil ?_
            refine ge_then ?_
            refine gc_no ?_
            refine gc_reg ?_
            by_cases c18 : ((st i).w : Int) = 1
            · refine tq 45 (.bool (((st i).w : Int) == 1)) (.bool true) (congrArg Value.bool (beq_iff_eq.2 c18)) ?_
              refine t 43 (.bool true) ?_
              refine gl_nil ?_
              exact ge_join true rfl (by kernel_rfl)
            · refine tq 45 (.bool (((st i).w : Int) == 1)) (.bool false) (congrArg Value.bool (beq_eq_false_iff_ne.2 c18)) ?_
              refine t 43 (.bool false) ?_
              refine gl_nil ?_
              exact ge_join false rfl (by kernel_rfl)
        rintro sb43 _ rfl
        rcases Bool.eq_false_or_eq_true (sb43) with b19 | b19
        · refine gc_yes (hc := congrArg Value.bool b19) ?_
          replace BB := BB.drew
          replace A := A.drew
          replace R := R.keep (Below.refl _ _).drew
          replace Xg15 := Xg15.drew
          refine gc_draw (fun w' => Blk w' g15 [.int .i64 (st i).w, .int .i64 (st i).k, .int .u64 (st i).n, .int .u64 (st i).u0, .int .u64 (st i).u1, .int .u64 (st i).u2, .int .u64 (st i).u3, .int .u64 (st i).u4, .int .u64 (st i).u5, .int .u64 (st i).m0, .int .u64 (st i).m1, .int .u64 (st i).m2, .int .u64 (st i).m3, .int .u64 (st i).m4, .int .u64 (st i).m5, .slice (Sq.a (st i)) (Sq.l (st i)) (Sq.c (st i))] 50) (fun _ => false) Xg15 ?_
          refine z 0 46 (pg g0) ?_
          refine z 1 47 (pq g15 3) ?_
          refine zlr 2 48 [.int .u64 (st i).u0, .int .u64 (st i).u1, .int .u64 (st i).u2, .int .u64 (st i).u3, .int .u64 (st i).u4, .int .u64 (st i).u5] (fun _ h => h) 3 ?_
          refine z 4 50 (pg q) ?_
          refine z 5 51 (pq g15 3) ?_
          refine zlr 6 52 [.int .u64 (st i).u0, .int .u64 (st i).u1, .int .u64 (st i).u2, .int .u64 (st i).u3, .int .u64 (st i).u4, .int .u64 (st i).u5] (fun _ h => h) 3 ?_
          refine zc 3 49 11 #[pg g0, .agg #[.int .u64 (st i).u0, .int .u64 (st i).u1, .int .u64 (st i).u2, .int .u64 (st i).u3, .int .u64 (st i).u4, .int .u64 (st i).u5]] (unbond_any A.sx rr.u0 rr.u1 rr.u3 (by omega) (by omega)) ?_
          rintro _ v21 ⟨rfl, K20, S, hK, hC⟩
          replace BB := belowO BB hC (fun b hb => Nat.le_trans hwB (A.sx.kb b hb))
          have mXg15 := not_op Xg15 nXg15 hK
          replace Xg15 := Xg15.chg hC nXg15
          replace nXg15 := mXg15
          clear mXg15
          have dj2 := dj_sx R dj hK
          replace R := R.off hC dj (fun b hb cs => A.sx.sa.noU hb cs)
          replace dj := dj2
          clear dj2
          replace A := A.op S hK hC
          clear S hK hC
          refine ⟨_, rfl, Xg15, ?_⟩
          refine zc 7 53 12 #[pg q, .agg #[.int .u64 (st i).u0, .int .u64 (st i).u1, .int .u64 (st i).u2, .int .u64 (st i).u3, .int .u64 (st i).u4, .int .u64 (st i).u5]] (RxE.castE (runbond R (hoE _) rr.u0 rr.u1 rr.u3 (by omega) (by omega)) (nxeq Q.next (begin_eq Q (by omega) (by omega) (e := ⟨nx, 12, (st i).u0, (st i).u1, (st i).u3⟩) (.inl rfl) rr.u0 rr.u1 rr.u3 (r := (uv (st i).u0 (st i).u1 (st i).u2 (st i).u3 (st i).u4 (st i).u5))))) ?_
          rintro _ v23 ⟨rfl, X22, S, hK, hC⟩
          replace BB := belowO BB hC (fun b hb => Nat.le_trans hwB (R.rs.xz b hb).1)
          have mXg15 := not_op Xg15 uXg15 hK
          replace Xg15 := Xg15.chg hC uXg15
          replace uXg15 := mXg15
          clear mXg15
          have dj2 := dj_rx A.sx dj hK
          have A2 := (Pw.Sx.besideR A.sx R hC dj).at
          clear A
          have A := A2
          clear A2
          replace dj := dj2
          clear dj2
          clear R
          have R := S
          clear S hK hC
          refine ⟨_, rfl, Xg15, ?_⟩
          refine zq 8 54 (.bool ((nxtB (chn E) : Int) == nxtB (chn E))) (.bool true) (congrArg Value.bool (beq_self_eq_true _)) ?_
          refine z 9 11 (.bool true) ?_
          refine gz_done ?_
          refine ge_bn ?_
          exact ge_join () ⟨BB, Xg15, _, _, _, _, _, _, _, _, A.sx, by omega, by omega, R, by omega, dj, Q.unb (by omega) (by omega) rr, by rw [List.length_append]; simp, by omega, nXg15, uXg15⟩ (by kernel_rfl)
        · refine gc_no (hc := congrArg Value.bool b19) ?_
          refine gc_join (fun (s : Bool) => [(2, .slice ao n c), (7, pg g0), (8, pg q), (9, .int .i64 (i : Int)), (10, pg g15), (11, .bool true), (42, .int .i64 (st i).w), (55, .bool s)]) (fun _ w' => v16 = w') ?_ ?_
          · refine gc_seq ?_
            refine gc_reg ?_
            by_cases c24 : ((st i).w : Int) = 2
            · refine tq 56 (.bool (((st i).w : Int) == 2)) (.bool true) (congrArg Value.bool (beq_iff_eq.2 c24)) ?_
              refine t 55 (.bool true) ?_
              refine gl_nil ?_
              refine ge_then ?_
              refine gc_yes ?_
              refine gc_skip ?_
              exact ge_join true rfl (by kernel_rfl)
            · refine tq 56 (.bool (((st i).w : Int) == 2)) (.bool false) (congrArg Value.bool (beq_eq_false_iff_ne.2 c24)) ?_
              refine t 55 (.bool false) ?_
              refine gl_nil ?_
              refine ge_then ?_
              refine gc_no ?_
              refine gc_reg ?_
              by_cases c25 : ((st i).w : Int) = 3
              · refine tq 57 (.bool (((st i).w : Int) == 3)) (.bool true) (congrArg Value.bool (beq_iff_eq.2 c25)) ?_
                refine t 55 (.bool true) ?_
                refine gl_nil ?_
                exact ge_join true rfl (by kernel_rfl)
              · refine tq 57 (.bool (((st i).w : Int) == 3)) (.bool false) (congrArg Value.bool (beq_eq_false_iff_ne.2 c25)) ?_
                refine t 55 (.bool false) ?_
                refine gl_nil ?_
                exact ge_join false rfl (by kernel_rfl)
          rintro sb55 _ rfl
          rcases Bool.eq_false_or_eq_true (sb55) with b26 | b26
          · refine gc_yes (hc := congrArg Value.bool b26) ?_
            replace BB := BB.drew
            replace A := A.drew
            replace R := R.keep (Below.refl _ _).drew
            replace Xg15 := Xg15.drew
            refine gc_draw (fun w' => Blk w' g15 [.int .i64 (st i).w, .int .i64 (st i).k, .int .u64 (st i).n, .int .u64 (st i).u0, .int .u64 (st i).u1, .int .u64 (st i).u2, .int .u64 (st i).u3, .int .u64 (st i).u4, .int .u64 (st i).u5, .int .u64 (st i).m0, .int .u64 (st i).m1, .int .u64 (st i).m2, .int .u64 (st i).m3, .int .u64 (st i).m4, .int .u64 (st i).m5, .slice (Sq.a (st i)) (Sq.l (st i)) (Sq.c (st i))] 50) (fun _ => false) Xg15 ?_
            refine z 0 58 (pg g0) ?_
            refine z 1 59 (pq g15 9) ?_
            refine zlr 2 60 [.int .u64 (st i).m0, .int .u64 (st i).m1, .int .u64 (st i).m2, .int .u64 (st i).m3, .int .u64 (st i).m4, .int .u64 (st i).m5, .slice (Sq.a (st i)) (Sq.l (st i)) (Sq.c (st i))] (fun _ h => h) 9 ?_
            refine z 4 62 (pg q) ?_
            refine z 5 63 (pq g15 9) ?_
            refine zlr 6 64 [.int .u64 (st i).m0, .int .u64 (st i).m1, .int .u64 (st i).m2, .int .u64 (st i).m3, .int .u64 (st i).m4, .int .u64 (st i).m5, .slice (Sq.a (st i)) (Sq.l (st i)) (Sq.c (st i))] (fun _ h => h) 9 ?_
            refine zc 3 61 13 #[pg g0, .agg #[.int .u64 (st i).m0, .int .u64 (st i).m1, .int .u64 (st i).m2, .int .u64 (st i).m3, .int .u64 (st i).m4, .int .u64 (st i).m5, .slice (Sq.a (st i)) (Sq.l (st i)) (Sq.c (st i))]] (move_any A.sx rr.m0 rr.m1 rr.m4 (SS.nk hk_i BB (fun b hb => Nat.le_trans hwB (A.sx.kb b hb))) (Nat.le_trans (h30 i hk_i) (by decide)) (by omega) (by omega)) ?_
            rintro _ v28 ⟨rfl, K27, S, hK, hC⟩
            replace BB := belowO BB hC (fun b hb => Nat.le_trans hwB (A.sx.kb b hb))
            have mXg15 := not_op Xg15 nXg15 hK
            replace Xg15 := Xg15.chg hC nXg15
            replace nXg15 := mXg15
            clear mXg15
            have dj2 := dj_sx R dj hK
            replace R := R.off hC dj (fun b hb cs => A.sx.sa.noU hb cs)
            replace dj := dj2
            clear dj2
            replace A := A.op S hK hC
            clear S hK hC
            refine ⟨_, rfl, Xg15, ?_⟩
            refine zc 7 65 14 #[pg q, .agg #[.int .u64 (st i).m0, .int .u64 (st i).m1, .int .u64 (st i).m2, .int .u64 (st i).m3, .int .u64 (st i).m4, .int .u64 (st i).m5, .slice (Sq.a (st i)) (Sq.l (st i)) (Sq.c (st i))]] (RxE.castE (rmove R (hoE _) rr.m0 rr.m1 rr.m4 (SS.nk hk_i BB (fun b hb => Nat.le_trans hwB (R.rs.xz b hb).1)) (Nat.le_trans (h30 i hk_i) (by decide)) (by omega) (by omega)) (nxeq Q.next (begin_eq Q (by omega) (by omega) (e := ⟨nx, 13, (st i).m0, (st i).m1, (st i).m4⟩) (.inr rfl) rr.m0 rr.m1 rr.m4 (r := (mv (st i).m0 (st i).m1 (st i).m2 (st i).m3 (st i).m4 (st i).m5 (st i).x))))) ?_
            rintro _ v30 ⟨rfl, X29, S, hK, hC⟩
            replace BB := belowO BB hC (fun b hb => Nat.le_trans hwB (R.rs.xz b hb).1)
            have mXg15 := not_op Xg15 uXg15 hK
            replace Xg15 := Xg15.chg hC uXg15
            replace uXg15 := mXg15
            clear mXg15
            have dj2 := dj_rx A.sx dj hK
            have A2 := (Pw.Sx.besideR A.sx R hC dj).at
            clear A
            have A := A2
            clear A2
            replace dj := dj2
            clear dj2
            clear R
            have R := S
            clear S hK hC
            refine ⟨_, rfl, Xg15, ?_⟩
            refine zq 8 66 (.bool ((nxtB (chn E) : Int) == nxtB (chn E))) (.bool true) (congrArg Value.bool (beq_self_eq_true _)) ?_
            refine z 9 11 (.bool true) ?_
            refine gz_done ?_
            refine ge_bn ?_
            exact ge_join () ⟨BB, Xg15, _, _, _, _, _, _, _, _, A.sx, by omega, by omega, R, by omega, dj, Q.mov (by omega) (by omega) rr, by rw [List.length_append]; simp, by omega, nXg15, uXg15⟩ (by kernel_rfl)
          · refine gc_no (hc := congrArg Value.bool b26) ?_
            refine gc_seq ?_
            refine gc_reg ?_
            by_cases c31 : ((st i).w : Int) = 4
            · refine tq 68 (.bool (((st i).w : Int) == 4)) (.bool true) (congrArg Value.bool (beq_iff_eq.2 c31)) ?_
              refine t 67 (.bool true) ?_
              refine gl_nil ?_
              refine ge_then ?_
              refine gc_yes ?_
              replace BB := BB.drew
              replace A := A.drew
              replace R := R.keep (Below.refl _ _).drew
              replace Xg15 := Xg15.drew
              refine gc_draw (fun w' => Blk w' g15 [.int .i64 (st i).w, .int .i64 (st i).k, .int .u64 (st i).n, .int .u64 (st i).u0, .int .u64 (st i).u1, .int .u64 (st i).u2, .int .u64 (st i).u3, .int .u64 (st i).u4, .int .u64 (st i).u5, .int .u64 (st i).m0, .int .u64 (st i).m1, .int .u64 (st i).m2, .int .u64 (st i).m3, .int .u64 (st i).m4, .int .u64 (st i).m5, .slice (Sq.a (st i)) (Sq.l (st i)) (Sq.c (st i))] 50) (fun _ => false) Xg15 ?_
              refine z 0 69 (pg g0) ?_
              refine z 1 70 (pq g15 2) ?_
              refine zl 2 71 (.int .u64 (st i).n) (fun _ h => h) 2 ?_
              refine z 3 72 (pq g15 3) ?_
              refine z 4 73 (pq g15 8) ?_
              refine zl 5 74 (.int .u64 (st i).u5) (fun _ h => h) 8 ?_
              refine z 7 76 (pg q) ?_
              refine z 8 77 (pq g15 2) ?_
              refine zl 9 78 (.int .u64 (st i).n) (fun _ h => h) 2 ?_
              refine z 10 79 (pq g15 3) ?_
              refine z 11 80 (pq g15 8) ?_
              refine zl 12 81 (.int .u64 (st i).u5) (fun _ h => h) 8 ?_
              refine zc 6 75 15 #[pg g0, .int .u64 (st i).n, .int .u64 (st i).u5] (less_any A.sx rr.n (by omega) (by omega)) ?_
              rintro _ v36 ⟨rfl, K32, n33, N34, S, qn33, qN34, hK, hC⟩
              replace BB := belowO BB hC (fun b hb => Nat.le_trans hwB (A.sx.kb b hb))
              have mXg15 := not_op Xg15 nXg15 hK
              replace Xg15 := Xg15.chg hC nXg15
              replace nXg15 := mXg15
              clear mXg15
              have dj2 := dj_sx R dj hK
              replace R := R.off hC dj (fun b hb cs => A.sx.sa.noU hb cs)
              replace dj := dj2
              clear dj2
              replace A := A.op S hK hC
              clear S hK hC
              refine ⟨_, rfl, Xg15, ?_⟩
              refine zc 13 82 16 #[pg q, .int .u64 (st i).n, .int .u64 (st i).u5] (rless R rr.n (by omega) (by omega)) ?_
              rintro _ v39 ⟨rfl, X37, n38, S, qn38, hK, hC⟩
              replace BB := belowO BB hC (fun b hb => Nat.le_trans hwB (R.rs.xz b hb).1)
              have mXg15 := not_op Xg15 uXg15 hK
              replace Xg15 := Xg15.chg hC uXg15
              replace uXg15 := mXg15
              clear mXg15
              have dj2 := dj_rx A.sx dj hK
              have A2 := (Pw.Sx.besideR A.sx R hC dj).at
              clear A
              have A := A2
              clear A2
              replace dj := dj2
              clear dj2
              clear R
              have R := S
              clear S hK hC
              refine ⟨_, rfl, Xg15, ?_⟩
              refine zq 14 83 (.bool ((Kv.look E (Ky.mk 12 (st i).n 0)).isSome == (Kv.look E (Ky.mk 12 (st i).n 0)).isSome)) (.bool true) (congrArg Value.bool (beq_self_eq_true _)) ?_
              refine z 15 11 (.bool true) ?_
              refine gz_done ?_
              refine ge_bn ?_
              exact ge_join () ⟨BB, Xg15, _, _, _, _, _, _, _, _, A.sx, by omega, by omega, R, by omega, dj, Q.less rr.n rr.u5 (by omega) (hoE _), by omega, by omega, nXg15, uXg15⟩ (by kernel_rfl)
            · refine tq 68 (.bool (((st i).w : Int) == 4)) (.bool false) (congrArg Value.bool (beq_eq_false_iff_ne.2 c31)) ?_
              refine t 67 (.bool false) ?_
              refine gl_nil ?_
              refine ge_then ?_
              refine gc_no ?_
              refine gc_seq ?_
              refine gc_reg ?_
              by_cases c40 : ((st i).w : Int) = 5
              · refine tq 85 (.bool (((st i).w : Int) == 5)) (.bool true) (congrArg Value.bool (beq_iff_eq.2 c40)) ?_
                refine t 84 (.bool true) ?_
                refine gl_nil ?_
                refine ge_then ?_
                refine gc_yes ?_
                replace BB := BB.drew
                replace A := A.drew
                replace R := R.keep (Below.refl _ _).drew
                replace Xg15 := Xg15.drew
                refine gc_draw (fun w' => Blk w' g15 [.int .i64 (st i).w, .int .i64 (st i).k, .int .u64 (st i).n, .int .u64 (st i).u0, .int .u64 (st i).u1, .int .u64 (st i).u2, .int .u64 (st i).u3, .int .u64 (st i).u4, .int .u64 (st i).u5, .int .u64 (st i).m0, .int .u64 (st i).m1, .int .u64 (st i).m2, .int .u64 (st i).m3, .int .u64 (st i).m4, .int .u64 (st i).m5, .slice (Sq.a (st i)) (Sq.l (st i)) (Sq.c (st i))] 50) (fun _ => false) Xg15 ?_
                refine z 0 86 (pg g0) ?_
                refine z 1 87 (pq g15 2) ?_
                refine zl 2 88 (.int .u64 (st i).n) (fun _ h => h) 2 ?_
                refine z 3 89 (pq g15 9) ?_
                refine z 4 90 (pq g15 15) ?_
                refine zlr 5 91 [.slice (Sq.a (st i)) (Sq.l (st i)) (Sq.c (st i))] (fun _ h => h) 15 ?_
                refine z 7 93 (pg q) ?_
                refine z 8 94 (pq g15 2) ?_
                refine zl 9 95 (.int .u64 (st i).n) (fun _ h => h) 2 ?_
                refine z 10 96 (pq g15 9) ?_
                refine z 11 97 (pq g15 15) ?_
                refine zlr 12 98 [.slice (Sq.a (st i)) (Sq.l (st i)) (Sq.c (st i))] (fun _ h => h) 15 ?_
                refine zc 6 92 17 #[pg g0, .int .u64 (st i).n, .agg #[.slice (Sq.a (st i)) (Sq.l (st i)) (Sq.c (st i))]] (fewer_any A.sx rr.n (SS.nk hk_i BB (fun b hb => Nat.le_trans hwB (A.sx.kb b hb))) (Nat.le_trans (h30 i hk_i) (by decide)) (by omega) (by omega)) ?_
                rintro _ v45 ⟨rfl, K41, n42, N43, S, qn42, qN43, hK, hC⟩
                replace BB := belowO BB hC (fun b hb => Nat.le_trans hwB (A.sx.kb b hb))
                have mXg15 := not_op Xg15 nXg15 hK
                replace Xg15 := Xg15.chg hC nXg15
                replace nXg15 := mXg15
                clear mXg15
                have dj2 := dj_sx R dj hK
                replace R := R.off hC dj (fun b hb cs => A.sx.sa.noU hb cs)
                replace dj := dj2
                clear dj2
                replace A := A.op S hK hC
                clear S hK hC
                refine ⟨_, rfl, Xg15, ?_⟩
                refine zc 13 99 18 #[pg q, .int .u64 (st i).n, .agg #[.slice (Sq.a (st i)) (Sq.l (st i)) (Sq.c (st i))]] (rfewer R rr.n (SS.nk hk_i BB (fun b hb => Nat.le_trans hwB (R.rs.xz b hb).1)) (Nat.le_trans (h30 i hk_i) (by decide)) (by omega) (by omega)) ?_
                rintro _ v48 ⟨rfl, X46, n47, S, qn47, hK, hC⟩
                replace BB := belowO BB hC (fun b hb => Nat.le_trans hwB (R.rs.xz b hb).1)
                have mXg15 := not_op Xg15 uXg15 hK
                replace Xg15 := Xg15.chg hC uXg15
                replace uXg15 := mXg15
                clear mXg15
                have dj2 := dj_rx A.sx dj hK
                have A2 := (Pw.Sx.besideR A.sx R hC dj).at
                clear A
                have A := A2
                clear A2
                replace dj := dj2
                clear dj2
                clear R
                have R := S
                clear S hK hC
                refine ⟨_, rfl, Xg15, ?_⟩
                refine zq 14 100 (.bool ((Kv.look E (Ky.mk 13 (st i).n 0)).isSome == (Kv.look E (Ky.mk 13 (st i).n 0)).isSome)) (.bool true) (congrArg Value.bool (beq_self_eq_true _)) ?_
                refine z 15 11 (.bool true) ?_
                refine gz_done ?_
                refine ge_bn ?_
                exact ge_join () ⟨BB, Xg15, _, _, _, _, _, _, _, _, A.sx, by omega, by omega, R, by omega, dj, Q.few rr.n rr.x (by omega) (hoE _), by omega, by omega, nXg15, uXg15⟩ (by kernel_rfl)
              · refine tq 85 (.bool (((st i).w : Int) == 5)) (.bool false) (congrArg Value.bool (beq_eq_false_iff_ne.2 c40)) ?_
                refine t 84 (.bool false) ?_
                refine gl_nil ?_
                refine ge_then ?_
                refine gc_no ?_
                refine gc_seq ?_
                refine gc_reg ?_
                by_cases c49 : ((st i).w : Int) = 6
                · refine tq 102 (.bool (((st i).w : Int) == 6)) (.bool true) (congrArg Value.bool (beq_iff_eq.2 c49)) ?_
                  refine t 101 (.bool true) ?_
                  refine gl_nil ?_
                  refine ge_then ?_
                  refine gc_yes ?_
                  replace BB := BB.drew
                  replace A := A.drew
                  replace R := R.keep (Below.refl _ _).drew
                  replace Xg15 := Xg15.drew
                  refine gc_draw (fun w' => Blk w' g15 [.int .i64 (st i).w, .int .i64 (st i).k, .int .u64 (st i).n, .int .u64 (st i).u0, .int .u64 (st i).u1, .int .u64 (st i).u2, .int .u64 (st i).u3, .int .u64 (st i).u4, .int .u64 (st i).u5, .int .u64 (st i).m0, .int .u64 (st i).m1, .int .u64 (st i).m2, .int .u64 (st i).m3, .int .u64 (st i).m4, .int .u64 (st i).m5, .slice (Sq.a (st i)) (Sq.l (st i)) (Sq.c (st i))] 50) (fun _ => false) Xg15 ?_
                  refine z 0 103 (pg g0) ?_
                  refine z 1 104 (pq g15 2) ?_
                  refine zl 2 105 (.int .u64 (st i).n) (fun _ h => h) 2 ?_
                  refine z 3 106 (pq g15 1) ?_
                  refine zl 4 107 (.int .i64 (st i).k) (fun _ h => h) 1 ?_
                  refine zr 5 108 (.agg #[.int .u64 (st i).n, .int .i64 (st i).k]) (fun _ _ => run_bE) ?_
                  refine z 7 110 (pg q) ?_
                  refine z 8 111 (pq g15 2) ?_
                  refine zl 9 112 (.int .u64 (st i).n) (fun _ h => h) 2 ?_
                  refine z 10 113 (pq g15 1) ?_
                  refine zl 11 114 (.int .i64 (st i).k) (fun _ h => h) 1 ?_
                  refine zr 12 115 (.agg #[.int .u64 (st i).n, .int .i64 (st i).k]) (fun _ _ => run_bE) ?_
                  obtain ⟨hdE, A4, hA4, Q4⟩ := Q.dropAny (by omega) (by omega) (st i).k rr.n
                  refine zc 6 109 19 #[pg g0, .agg #[.int .u64 (st i).n, .int .i64 (st i).k]] (drop_any A.sx rr.n (by omega) (by omega)) ?_
                  rintro _ v54 ⟨rfl, K50, n51, N52, S, qn51, qN52, hK, hC⟩
                  replace BB := belowO BB hC (fun b hb => Nat.le_trans hwB (A.sx.kb b hb))
                  have mXg15 := not_op Xg15 nXg15 hK
                  replace Xg15 := Xg15.chg hC nXg15
                  replace nXg15 := mXg15
                  clear mXg15
                  have dj2 := dj_sx R dj hK
                  replace R := R.off hC dj (fun b hb cs => A.sx.sa.noU hb cs)
                  replace dj := dj2
                  clear dj2
                  replace A := A.op S hK hC
                  clear S hK hC
                  refine ⟨_, rfl, Xg15, ?_⟩
                  refine zc 13 116 20 #[pg q, .agg #[.int .u64 (st i).n, .int .i64 (st i).k]] (RxF.castE (rdrop12 R rr.n hoE (by omega) (by omega)) hdE) ?_
                  rintro _ v57 ⟨rfl, X55, n56, S, qn56, hK, hC⟩
                  replace BB := belowO BB hC (fun b hb => Nat.le_trans hwB (R.rs.xz b hb).1)
                  have mXg15 := not_op Xg15 uXg15 hK
                  replace Xg15 := Xg15.chg hC uXg15
                  replace uXg15 := mXg15
                  clear mXg15
                  have dj2 := dj_rx A.sx dj hK
                  have A2 := (Pw.Sx.besideR A.sx R hC dj).at
                  clear A
                  have A := A2
                  clear A2
                  replace dj := dj2
                  clear dj2
                  clear R
                  have R := S
                  clear S hK hC
                  refine ⟨_, rfl, Xg15, ?_⟩
                  refine zq 14 117 (.bool ((dropB E (st i).n (st i).k) == (dropB E (st i).n (st i).k))) (.bool true) (congrArg Value.bool (beq_self_eq_true _)) ?_
                  refine z 15 11 (.bool true) ?_
                  refine gz_done ?_
                  refine ge_bn ?_
                  exact ge_join () ⟨BB, Xg15, _, _, _, _, _, _, _, _, A.sx, by omega, by omega, R, by omega, dj, Q4, by omega, by omega, nXg15, uXg15⟩ (by kernel_rfl)
                · refine tq 102 (.bool (((st i).w : Int) == 6)) (.bool false) (congrArg Value.bool (beq_eq_false_iff_ne.2 c49)) ?_
                  refine t 101 (.bool false) ?_
                  refine gl_nil ?_
                  refine ge_then ?_
                  refine gc_no ?_
                  refine gc_skip ?_
                  refine ge_bn ?_
                  exact ge_join () ⟨BB, Xg15, _, _, _, _, _, _, _, _, A.sx, by omega, by omega, R, by omega, dj, Q, by omega, by omega, nXg15, uXg15⟩ (by kernel_rfl)
      clear BB
      clear A
      clear R
      clear Xg15
      clear dj
      rintro _ v58 ⟨BB, X6, K1, X1, E1, n1, N1, n21, nx1, A1, S, q1, q2, R, q3, dj, Q1, q4, q5, nX6, uX6⟩
      have A := S.at
      clear S
      have hsz1 := A.sx.sa.size
      have hwv1 := BB.size
      refine gc_seq ?_
      replace BB := BB.drew
      replace A := A.drew
      replace R := R.keep (Below.refl _ _).drew
      replace X6 := X6.drew
      refine gc_draw (fun w' => Blk w' g15 [.int .i64 (st i).w, .int .i64 (st i).k, .int .u64 (st i).n, .int .u64 (st i).u0, .int .u64 (st i).u1, .int .u64 (st i).u2, .int .u64 (st i).u3, .int .u64 (st i).u4, .int .u64 (st i).u5, .int .u64 (st i).m0, .int .u64 (st i).m1, .int .u64 (st i).m2, .int .u64 (st i).m3, .int .u64 (st i).m4, .int .u64 (st i).m5, .slice (Sq.a (st i)) (Sq.l (st i)) (Sq.c (st i))] 50) (fun _ => false) X6 ?_
      refine z 0 118 (.bool true) ?_
      refine z 1 119 (.bool false) ?_
      refine z 2 120 (.bool false) ?_
      refine z 3 121 (pg g0) ?_
      refine z 4 122 (pg q) ?_
      refine zlr 5 123 [.int .i64 (st i).w, .int .i64 (st i).k, .int .u64 (st i).n, .int .u64 (st i).u0, .int .u64 (st i).u1, .int .u64 (st i).u2, .int .u64 (st i).u3, .int .u64 (st i).u4, .int .u64 (st i).u5, .int .u64 (st i).m0, .int .u64 (st i).m1, .int .u64 (st i).m2, .int .u64 (st i).m3, .int .u64 (st i).m4, .int .u64 (st i).m5, .slice (Sq.a (st i)) (Sq.l (st i)) (Sq.c (st i))] (fun _ h => h) 0 ?_
      refine zc 6 124 21 #[pg g0, pg q, .agg #[.int .i64 (st i).w, .int .i64 (st i).k, .int .u64 (st i).n, .int .u64 (st i).u0, .int .u64 (st i).u1, .int .u64 (st i).u2, .int .u64 (st i).u3, .int .u64 (st i).u4, .int .u64 (st i).u5, .int .u64 (st i).m0, .int .u64 (st i).m1, .int .u64 (st i).m2, .int .u64 (st i).m3, .int .u64 (st i).m4, .int .u64 (st i).m5, .slice (Sq.a (st i)) (Sq.l (st i)) (Sq.c (st i))]] (alike_any (s := st i) BB hwB A.sx R dj Q1.keys rr (by omega) (by omega) (by omega) (Nat.le_trans A.sx.sa.size (by omega)) X6 nX6 uX6) ?_
      rintro _ v59 ⟨rfl, B9, K9, X9, n9, n29, S9, R9, dj9, q9, q29, Y9, nY9, uY9⟩
      have hsl := A.sx.sa.size
      clear BB A R dj X6 nX6 uX6
      have BB := B9
      have A := S9.at
      have R := R9
      have dj := dj9
      have X6 := Y9
      have nX6 := nY9
      have uX6 := uY9
      clear B9 S9 R9 dj9 Y9 nY9 uY9
      refine ⟨_, rfl, X6, ?_⟩
      refine z 7 125 (.bool false) ?_
      refine z 8 126 (.bool false) ?_
      refine z 9 127 (.bool false) ?_
      refine z 10 128 (pg g0) ?_
      refine z 12 130 (pg q) ?_
      refine z 13 131 (pg q) ?_
      refine z 14 132 (pg q) ?_
      refine gz_ready [11, 15] ?_
      refine ga_call 11 (some 129) 23 #[pg g0] (dumpP A.sx (by omega)) ?_ ?_
      · rintro _ v60 ⟨dv, es, rfl, PD, eD, ZD, B⟩
        replace BB := joinB BB B
        replace A := A.keep B
        replace R := R.keep B
        replace X6 := X6.keep B
        clear B
        refine ⟨_, rfl, X6, ?_⟩
        obtain ⟨lv, wv, hbq, hl, hw⟩ := R.rs.ex
        obtain ⟨el, PL, eL⟩ := hl.ex
        clear hl hw
        refine zw 15 133 (lv) _ (run_ld1 (off := 0) hbq rfl ⟨_, _, rfl, by kernel_rfl, fun _ => by kernel_rfl⟩) X6 ?_
        refine zc 16 134 22 #[dv, lv] (pairsP A.sx (by omega) (ZD.prs PD) (PL.a (Nat.zero_le _) (fun _ _ _ => Nat.zero_le _)) eD eL) ?_
        rintro _ v61 ⟨rfl, B⟩
        replace BB := joinB BB B
        replace A := A.keep B
        replace R := R.keep B
        replace X6 := X6.keep B
        replace ZD := ZD.keep B
        replace PL := PL.keep B
        clear B
        clear ZD
        clear PL
        refine ⟨_, rfl, X6, ?_⟩
        refine z 17 135 (.bool false) ?_
        refine z 18 136 (.bool false) ?_
        refine gz_done ?_
        refine ge_then ?_
        refine gc_fr [(2, .slice ao n c), (7, pg g0), (8, pg q), (9, .int .i64 (i : Int)), (10, pg g15), (11, .bool true), (118, .bool true), (119, .bool false), (120, .bool false), (121, pg g0), (122, pg q), (123, .agg #[.int .i64 (st i).w, .int .i64 (st i).k, .int .u64 (st i).n, .int .u64 (st i).u0, .int .u64 (st i).u1, .int .u64 (st i).u2, .int .u64 (st i).u3, .int .u64 (st i).u4, .int .u64 (st i).u5, .int .u64 (st i).m0, .int .u64 (st i).m1, .int .u64 (st i).m2, .int .u64 (st i).m3, .int .u64 (st i).m4, .int .u64 (st i).m5, .slice (Sq.a (st i)) (Sq.l (st i)) (Sq.c (st i))]), (124, .bool true), (125, .bool false), (126, .bool false), (127, .bool false), (128, pg g0), (129, dv), (130, pg q), (131, pg q), (132, pg q), (133, lv), (134, .bool true), (135, .bool false), (136, .bool false)] (by kernel_rfl) ?_
        refine gc_no ?_
        refine gc_skip ?_
        refine ge_bn ?_
        refine ge_then ?_
        refine gc_reg ?_
        refine t 35 (.int .i64 (i : Int)) ?_
        refine tq 36 (.int .i64 (IntKind.i64.wrap ((i : Int) + 1))) (.int .i64 ((i : Int) + 1)) (wi (by omega)) ?_
        refine t 9 (.int .i64 ((i : Int) + 1)) ?_
        refine gl_nil ?_
        exact ge_round (i + 1) (by show n - (i + 1) < n - i; omega) ⟨hk_i, BB, _, _, _, _, _, _, _, _, A.sx, by omega, by omega, R, by omega, dj, Q1, by omega, by omega⟩ (by kernel_rfl)
      obtain ⟨lv, wv, hbq, hl, hw⟩ := R.rs.ex
      obtain ⟨el, PL, eL⟩ := hl.ex
      clear hl hw
      refine ga_val 15 (some 133) (lv) _ (run_ld1 (off := 0) hbq rfl ⟨_, _, rfl, by kernel_rfl, fun _ => by kernel_rfl⟩) X6 ?_ ?_
      · skip
        refine zc 11 129 23 #[pg g0] (dumpP A.sx (by omega)) ?_
        rintro _ v62 ⟨dv, es, rfl, PD, eD, ZD, B⟩
        replace BB := joinB BB B
        replace A := A.keep B
        replace R := R.keep B
        replace X6 := X6.keep B
        replace PL := PL.keep B
        clear B
        refine ⟨_, rfl, X6, ?_⟩
        refine zc 16 134 22 #[dv, lv] (pairsP A.sx (by omega) (ZD.prs PD) (PL.a (Nat.zero_le _) (fun _ _ _ => Nat.zero_le _)) eD eL) ?_
        rintro _ v63 ⟨rfl, B⟩
        replace BB := joinB BB B
        replace A := A.keep B
        replace R := R.keep B
        replace X6 := X6.keep B
        replace PL := PL.keep B
        replace ZD := ZD.keep B
        clear B
        clear ZD
        clear PL
        refine ⟨_, rfl, X6, ?_⟩
        refine z 17 135 (.bool false) ?_
        refine z 18 136 (.bool false) ?_
        refine gz_done ?_
        refine ge_then ?_
        refine gc_fr [(2, .slice ao n c), (7, pg g0), (8, pg q), (9, .int .i64 (i : Int)), (10, pg g15), (11, .bool true), (118, .bool true), (119, .bool false), (120, .bool false), (121, pg g0), (122, pg q), (123, .agg #[.int .i64 (st i).w, .int .i64 (st i).k, .int .u64 (st i).n, .int .u64 (st i).u0, .int .u64 (st i).u1, .int .u64 (st i).u2, .int .u64 (st i).u3, .int .u64 (st i).u4, .int .u64 (st i).u5, .int .u64 (st i).m0, .int .u64 (st i).m1, .int .u64 (st i).m2, .int .u64 (st i).m3, .int .u64 (st i).m4, .int .u64 (st i).m5, .slice (Sq.a (st i)) (Sq.l (st i)) (Sq.c (st i))]), (124, .bool true), (125, .bool false), (126, .bool false), (127, .bool false), (128, pg g0), (129, dv), (130, pg q), (131, pg q), (132, pg q), (133, lv), (134, .bool true), (135, .bool false), (136, .bool false)] (by kernel_rfl) ?_
        refine gc_no ?_
        refine gc_skip ?_
        refine ge_bn ?_
        refine ge_then ?_
        refine gc_reg ?_
        refine t 35 (.int .i64 (i : Int)) ?_
        refine tq 36 (.int .i64 (IntKind.i64.wrap ((i : Int) + 1))) (.int .i64 ((i : Int) + 1)) (wi (by omega)) ?_
        refine t 9 (.int .i64 ((i : Int) + 1)) ?_
        refine gl_nil ?_
        exact ge_round (i + 1) (by show n - (i + 1) < n - i; omega) ⟨hk_i, BB, _, _, _, _, _, _, _, _, A.sx, by omega, by omega, R, by omega, dj, Q1, by omega, by omega⟩ (by kernel_rfl)
      exact ga_nil
    · refine tq 34 (.bool (decide ((i : Int) < ((n : Nat) : Int)))) (.bool false) (congrArg Value.bool (decide_eq_false ci)) ?_
      refine gl_nil ?_
      refine ge_then ?_
      refine gc_no ?_
      refine gc_exit ?_
      refine ge_tx ?_
      refine ge_tx ?_
      refine ge_bx ?_
      refine ge_then ?_
      refine gc_seq ?_
      refine gc_reg ?_
      refine t 6 (.bool true) ?_
      refine gl_nil ?_
      refine ge_then ?_
      refine gc_ret ?_
      refine ge_ret (.bool true) (rs1 6 (by kernel_rfl) (by kernel_rfl)) ?_
      exact ⟨rfl, BB⟩
end Qu
end Go.Proofs.YtidnifmehnjipaaGreat
