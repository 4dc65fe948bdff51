/- Several texts, joined: QuLb. -/
import Derived.Test.YtidnifmehnjipaaGreatJaA
import Derived.Test.YtidnifmehnjipaaGreatJav
namespace Go.Proofs.YtidnifmehnjipaaGreat
namespace Qu
open Go.RowKit Go.Lib Pg Lim Gl Kv Bk Pw
attribute [local go_sem] Oper.semAt_some
set_option maxRecDepth 100000
set_option linter.unusedVariables false
set_option linter.unusedSimpArgs false
set_option maxHeartbeats 2000000
theorem Nq.offX {w w' : World} {K X : Nat → Prop} {z n c : Nat} {ao : Option Addr} {x : Int} (h : Nq w K z ao n c x) (u : n = 0 ∨ ¬ X z) (hc : Chg X w w') : Nq w' K z ao n c x :=
  ⟨h.lt.imp_right fun h => Nat.lt_of_lt_of_le h hc.size, h.out, fun w2 h2 => h.to w2 fun hn => (h2 hn).trans (hc.same z (h.lt.resolve_left hn) (u.resolve_left hn))⟩
theorem uq_op {w : World} {K X X' : Nat → Prop} {z n c : Nat} {ao : Option Addr} {x : Int} (h : Nq w K z ao n c x) (u : n = 0 ∨ ¬ X z) (hK : ∀ b, X' b → X b ∨ w.heap.size ≤ b) : n = 0 ∨ ¬ X' z := by
  rcases h.lt with h1 | h1
  · exact .inl h1
  · exact u.imp_right fun h2 h3 => (hK z h3).elim h2 fun h4 => by omega
theorem alike_any {w0 w : World} {Bz g0 q n N n2 : Nat} {K X : Nat → Prop} {E : Ents} {s : Sq} (BB : Below w0.heap.size w0 w) (hwB : w0.heap.size ≤ Bz) (h : Sx Bz w K g0 E [] n N) (R : Rx Bz w X q E n2) (dj : ∀ b, K b → ¬ X b) (hky : Kys E) (rr : Sqr s) (hn : n ≤ 1000000000) (hN : N ≤ 50000) (hn2 : n2 ≤ 1000000000) (hE : E.length ≤ 50000) {gx : Nat} {csx : List Value} {tx : TypeId} (Xe : Blk w gx csx tx) (nXe : ¬ K gx) (uXe : ¬ X gx) : Calls Tryz.prog 21 #[pg g0, pg q, .agg #[.int .i64 s.w, .int .i64 s.k, .int .u64 s.n, .int .u64 s.u0, .int .u64 s.u1, .int .u64 s.u2, .int .u64 s.u3, .int .u64 s.u4, .int .u64 s.u5, .int .u64 s.m0, .int .u64 s.m1, .int .u64 s.m2, .int .u64 s.m3, .int .u64 s.m4, .int .u64 s.m5, .slice (Sq.a s) (Sq.l s) (Sq.c s)]] w fun e w' => e = .returned (.bool true) ∧ Below w0.heap.size w0 w' ∧ ∃ K' X' n' n2', Sx Bz w' K' g0 E [] n' N ∧ Rx Bz w' X' q E n2' ∧ (∀ b, K' b → ¬ X' b) ∧ n' ≤ n + 2 * N + 20 ∧ n2' ≤ n2 + 2 * E.length + 20 ∧ Blk w' gx csx tx ∧ ¬ K' gx ∧ ¬ X' gx := by
  have A := h.at
  refine gc_enter (n := 100) Tryz.func21 rfl (by kernel_rfl) (by kernel_rfl) ?_
  refine gc_seq ?_
  refine gc_reg ?_
  have lXe := Xe.lt
  refine ta 5 [.int .i64 s.w, .int .i64 s.k, .int .u64 s.n, .int .u64 s.u0, .int .u64 s.u1, .int .u64 s.u2, .int .u64 s.u3, .int .u64 s.u4, .int .u64 s.u5, .int .u64 s.m0, .int .u64 s.m1, .int .u64 s.m2, .int .u64 s.m3, .int .u64 s.m4, .int .u64 s.m5, .slice (Sq.a s) (Sq.l s) (Sq.c s)] 50 (pg) ?_
  intro v1 g2 Xg2 hg2 B
  have yg2 := Nat.le_trans BB.size hg2
  have uXg2 := R.new hg2
  have zg2 := Nat.le_trans A.size hg2
  have nXg2 := A.new hg2
  replace BB := joinB BB B
  replace A := A.keep B
  replace R := R.keep B
  replace Xe := Xe.keep B
  clear B
  refine t 6 (.bool false) ?_
  refine gl_nil ?_
  refine ge_then ?_
  refine gc_seq ?_
  refine gc_reg ?_
  refine t 16 (pg g0) ?_
  refine t 17 (pq g2 2) ?_
  refine tl 18 (.int .u64 s.n) Xg2 2 ?_
  refine tc 19 25 #[pg g0, .int .u64 s.n] (unbonding_any A.sx rr.n (by omega) (by omega)) ?_
  rintro _ v4 ⟨rfl, K3, S, hK, hC⟩
  refine ⟨_, rfl, ?_⟩
  replace BB := belowO BB hC (fun b hb => Nat.le_trans hwB (A.sx.kb b hb))
  have mXe := not_op Xe nXe hK
  replace Xe := Xe.chg hC nXe
  replace nXe := mXe
  clear mXe
  have mXg2 := not_op Xg2 nXg2 hK
  replace Xg2 := Xg2.chg hC nXg2
  replace nXg2 := mXg2
  clear mXg2
  have dj2 := dj_sx R dj hK
  replace R := R.off hC dj (fun b hb cs => A.sx.sa.noU hb cs)
  replace dj := dj2
  clear dj2
  replace A := A.op S hK hC
  clear S hK hC
  refine t 15 (.tuple #[.agg (uA (got E (Ky.mk 12 s.n 0))), .bool (Kv.look E (Ky.mk 12 s.n 0)).isSome]) ?_
  refine t 20 (.agg (uA (got E (Ky.mk 12 s.n 0)))) ?_
  refine t 21 (.bool (Kv.look E (Ky.mk 12 s.n 0)).isSome) ?_
  have lXe := Xe.lt
  have lXg2 := Xg2.lt
  refine ta 7 [.int .u64 0, .int .u64 0, .int .u64 0, .int .u64 0, .int .u64 0, .int .u64 0] 42 (pg) ?_
  intro v5 g6 Xg6 hg6 B
  have yg6 := Nat.le_trans BB.size hg6
  have uXg6 := R.new hg6
  have zg6 := Nat.le_trans A.size hg6
  have nXg6 := A.new hg6
  replace BB := joinB BB B
  replace A := A.keep B
  replace R := R.keep B
  replace Xe := Xe.keep B
  replace Xg2 := Xg2.keep B
  clear B
  refine ts Xg6 0 (.agg (uA (got E (Ky.mk 12 s.n 0)))) (uL (got E (Ky.mk 12 s.n 0))) (uL (got E (Ky.mk 12 s.n 0))) ?_
  intro v7 Y C
  replace BB := belowC BB C (by omega)
  replace A := Bk.At.cell A Xg6 C zg6 nXg6 (by decide)
  replace R := R.cell Xg6 C uXg6 (by decide)
  replace Xe := Xe.chg C (show gx ≠ g6 by omega)
  replace Xg2 := Xg2.chg C (show g2 ≠ g6 by omega)
  clear C Xg6
  have Xg6 := Y
  clear Y
  refine t 8 (.bool (Kv.look E (Ky.mk 12 s.n 0)).isSome) ?_
  refine gl_nil ?_
  refine ge_then ?_
  refine gc_fr [(0, pg g0), (1, pg q), (5, pg g2), (6, .bool false), (7, pg g6), (8, .bool (Kv.look E (Ky.mk 12 s.n 0)).isSome)] (by kernel_rfl) ?_
  refine gc_seq ?_
  refine gc_reg ?_
  refine t 23 (pg q) ?_
  refine t 24 (pq g2 2) ?_
  refine tl 25 (.int .u64 s.n) Xg2 2 ?_
  refine tc 26 49 #[pg q, .int .u64 s.n] (runbonding R rr.n (by omega) (by omega)) ?_
  rintro _ v9 ⟨rfl, X8, S, hK, hC⟩
  refine ⟨_, rfl, ?_⟩
  replace BB := belowO BB hC (fun b hb => Nat.le_trans hwB (R.rs.xz b hb).1)
  have mXe := not_op Xe uXe hK
  replace Xe := Xe.chg hC uXe
  replace uXe := mXe
  clear mXe
  have mXg2 := not_op Xg2 uXg2 hK
  replace Xg2 := Xg2.chg hC uXg2
  replace uXg2 := mXg2
  clear mXg2
  have mXg6 := not_op Xg6 uXg6 hK
  replace Xg6 := Xg6.chg hC uXg6
  replace uXg6 := mXg6
  clear mXg6
  have dj2 := dj_rx A.sx dj hK
  have A2 := (Pw.Sx.besideR A.sx R hC dj).at
  clear A
  have A := A2
  clear A2
  replace dj := dj2
  clear dj2
  clear R
  have R := S
  clear S hK hC
  refine t 22 (.tuple #[.agg (uA (got E (Ky.mk 12 s.n 0))), .bool (Kv.look E (Ky.mk 12 s.n 0)).isSome]) ?_
  refine t 27 (.agg (uA (got E (Ky.mk 12 s.n 0)))) ?_
  refine t 28 (.bool (Kv.look E (Ky.mk 12 s.n 0)).isSome) ?_
  have lXe := Xe.lt
  have lXg2 := Xg2.lt
  have lXg6 := Xg6.lt
  refine ta 9 [.int .u64 0, .int .u64 0, .int .u64 0, .int .u64 0, .int .u64 0, .int .u64 0] 42 (pg) ?_
  intro v10 g11 Xg11 hg11 B
  have yg11 := Nat.le_trans BB.size hg11
  have uXg11 := R.new hg11
  have zg11 := Nat.le_trans A.size hg11
  have nXg11 := A.new hg11
  replace BB := joinB BB B
  replace A := A.keep B
  replace R := R.keep B
  replace Xe := Xe.keep B
  replace Xg2 := Xg2.keep B
  replace Xg6 := Xg6.keep B
  clear B
  refine ts Xg11 0 (.agg (uA (got E (Ky.mk 12 s.n 0)))) (uL (got E (Ky.mk 12 s.n 0))) (uL (got E (Ky.mk 12 s.n 0))) ?_
  intro v12 Y C
  replace BB := belowC BB C (by omega)
  replace A := Bk.At.cell A Xg11 C zg11 nXg11 (by decide)
  replace R := R.cell Xg11 C uXg11 (by decide)
  replace Xe := Xe.chg C (show gx ≠ g11 by omega)
  replace Xg2 := Xg2.chg C (show g2 ≠ g11 by omega)
  replace Xg6 := Xg6.chg C (show g6 ≠ g11 by omega)
  clear C Xg11
  have Xg11 := Y
  clear Y
  refine t 10 (.bool (Kv.look E (Ky.mk 12 s.n 0)).isSome) ?_
  refine gl_nil ?_
  refine ge_then ?_
  refine gc_seq ?_
  refine gc_reg ?_
  refine t 30 (pg g0) ?_
  refine t 31 (pq g2 2) ?_
  refine tl 32 (.int .u64 s.n) Xg2 2 ?_
  have szPm := fun b hb => R.lt (b := b) hb
  refine tc 33 26 #[pg g0, .int .u64 s.n] (moving_any A.sx rr.n (by omega) (by omega)) ?_
  rintro _ v14 ⟨am, nm, cm, rfl, zm, K13, S, hK, hC, Qm, mm, hzm⟩
  refine ⟨_, rfl, ?_⟩
  have uQm := hzm.imp_right fun h1 h2 => Nat.lt_irrefl _ (Nat.lt_of_lt_of_le (szPm _ h2) h1)
  clear szPm
  replace BB := belowO BB hC (fun b hb => Nat.le_trans hwB (A.sx.kb b hb))
  have mXe := not_op Xe nXe hK
  replace Xe := Xe.chg hC nXe
  replace nXe := mXe
  clear mXe
  have mXg2 := not_op Xg2 nXg2 hK
  replace Xg2 := Xg2.chg hC nXg2
  replace nXg2 := mXg2
  clear mXg2
  have mXg6 := not_op Xg6 nXg6 hK
  replace Xg6 := Xg6.chg hC nXg6
  replace nXg6 := mXg6
  clear mXg6
  have mXg11 := not_op Xg11 nXg11 hK
  replace Xg11 := Xg11.chg hC nXg11
  replace nXg11 := mXg11
  clear mXg11
  have dj2 := dj_sx R dj hK
  replace R := R.off hC dj (fun b hb cs => A.sx.sa.noU hb cs)
  replace dj := dj2
  clear dj2
  replace A := A.op S hK hC
  clear S hK hC
  refine t 29 (.tuple #[.agg (mA (got E (Ky.mk 13 s.n 0)) (.slice am nm cm)), .bool (Kv.look E (Ky.mk 13 s.n 0)).isSome]) ?_
  refine t 34 (.agg (mA (got E (Ky.mk 13 s.n 0)) (.slice am nm cm))) ?_
  refine t 35 (.bool (Kv.look E (Ky.mk 13 s.n 0)).isSome) ?_
  have lXe := Xe.lt
  have lXg2 := Xg2.lt
  have lXg6 := Xg6.lt
  have lXg11 := Xg11.lt
  have lQm := Qm.lt
  refine ta 11 [.int .u64 0, .int .u64 0, .int .u64 0, .int .u64 0, .int .u64 0, .int .u64 0, .slice none 0 0] 48 (pg) ?_
  intro v15 g16 Xg16 hg16 B
  have yg16 := Nat.le_trans BB.size hg16
  have uXg16 := R.new hg16
  have zg16 := Nat.le_trans A.size hg16
  have nXg16 := A.new hg16
  replace BB := joinB BB B
  replace A := A.keep B
  replace R := R.keep B
  replace Xe := Xe.keep B
  replace Xg2 := Xg2.keep B
  replace Xg6 := Xg6.keep B
  replace Xg11 := Xg11.keep B
  replace Qm := Qm.keep B
  clear B
  refine ts Xg16 0 (.agg (mA (got E (Ky.mk 13 s.n 0)) (.slice am nm cm))) (mL (got E (Ky.mk 13 s.n 0)) (.slice am nm cm)) (mL (got E (Ky.mk 13 s.n 0)) (.slice am nm cm)) ?_
  intro v17 Y C
  replace BB := belowC BB C (by omega)
  replace A := Bk.At.cell A Xg16 C zg16 nXg16 (by decide)
  replace R := R.cell Xg16 C uXg16 (by decide)
  replace Xe := Xe.chg C (show gx ≠ g16 by omega)
  replace Xg2 := Xg2.chg C (show g2 ≠ g16 by omega)
  replace Xg6 := Xg6.chg C (show g6 ≠ g16 by omega)
  replace Xg11 := Xg11.chg C (show g11 ≠ g16 by omega)
  replace Qm := Qm.cell C (show nm = 0 ∨ zm ≠ g16 by omega)
  clear C Xg16
  have Xg16 := Y
  clear Y
  refine t 12 (.bool (Kv.look E (Ky.mk 13 s.n 0)).isSome) ?_
  refine gl_nil ?_
  refine ge_then ?_
  refine gc_fr [(0, pg g0), (1, pg q), (5, pg g2), (6, .bool false), (7, pg g6), (8, .bool (Kv.look E (Ky.mk 12 s.n 0)).isSome), (9, pg g11), (10, .bool (Kv.look E (Ky.mk 12 s.n 0)).isSome), (11, pg g16), (12, .bool (Kv.look E (Ky.mk 13 s.n 0)).isSome)] (by kernel_rfl) ?_
  refine gc_seq ?_
  refine gc_reg ?_
  refine t 37 (pg q) ?_
  refine t 38 (pq g2 2) ?_
  refine tl 39 (.int .u64 s.n) Xg2 2 ?_
  have szP6b := fun b hb => A.sx.sa.lt (b := b) hb
  refine tc 40 52 #[pg q, .int .u64 s.n] (rmoving R rr.n (by omega) (by omega)) ?_
  rintro _ v19 ⟨a6b, n6b, c6b, rfl, z6b, K18, S, hK, hC, Q6b, m6b, hz6b⟩
  refine ⟨_, rfl, ?_⟩
  have uQ6b := hz6b.imp_right fun h1 h2 => Nat.lt_irrefl _ (Nat.lt_of_lt_of_le (szP6b _ h2) h1)
  clear szP6b
  have mQm := uq_op Qm uQm hK
  replace Qm := Qm.offX uQm hC
  replace uQm := mQm
  clear mQm
  replace BB := belowO BB hC (fun b hb => Nat.le_trans hwB (R.rs.xz b hb).1)
  have mXe := not_op Xe uXe hK
  replace Xe := Xe.chg hC uXe
  replace uXe := mXe
  clear mXe
  have mXg2 := not_op Xg2 uXg2 hK
  replace Xg2 := Xg2.chg hC uXg2
  replace uXg2 := mXg2
  clear mXg2
  have mXg6 := not_op Xg6 uXg6 hK
  replace Xg6 := Xg6.chg hC uXg6
  replace uXg6 := mXg6
  clear mXg6
  have mXg11 := not_op Xg11 uXg11 hK
  replace Xg11 := Xg11.chg hC uXg11
  replace uXg11 := mXg11
  clear mXg11
  have mXg16 := not_op Xg16 uXg16 hK
  replace Xg16 := Xg16.chg hC uXg16
  replace uXg16 := mXg16
  clear mXg16
  have dj2 := dj_rx A.sx dj hK
  have A2 := (Pw.Sx.besideR A.sx R hC dj).at
  clear A
  have A := A2
  clear A2
  replace dj := dj2
  clear dj2
  clear R
  have R := S
  clear S hK hC
  refine t 36 (.tuple #[.agg (mA (got E (Ky.mk 13 s.n 0)) (.slice a6b n6b c6b)), .bool (Kv.look E (Ky.mk 13 s.n 0)).isSome]) ?_
  refine t 41 (.agg (mA (got E (Ky.mk 13 s.n 0)) (.slice a6b n6b c6b))) ?_
  refine t 42 (.bool (Kv.look E (Ky.mk 13 s.n 0)).isSome) ?_
  have lXe := Xe.lt
  have lXg2 := Xg2.lt
  have lXg6 := Xg6.lt
  have lXg11 := Xg11.lt
  have lQm := Qm.lt
  have lXg16 := Xg16.lt
  have lQ6b := Q6b.lt
  refine ta 13 [.int .u64 0, .int .u64 0, .int .u64 0, .int .u64 0, .int .u64 0, .int .u64 0, .slice none 0 0] 48 (pg) ?_
  intro v20 g21 Xg21 hg21 B
  have yg21 := Nat.le_trans BB.size hg21
  have uXg21 := R.new hg21
  have zg21 := Nat.le_trans A.size hg21
  have nXg21 := A.new hg21
  replace BB := joinB BB B
  replace A := A.keep B
  replace R := R.keep B
  replace Xe := Xe.keep B
  replace Xg2 := Xg2.keep B
  replace Xg6 := Xg6.keep B
  replace Xg11 := Xg11.keep B
  replace Qm := Qm.keep B
  replace Xg16 := Xg16.keep B
  replace Q6b := Q6b.keep B
  clear B
  refine ts Xg21 0 (.agg (mA (got E (Ky.mk 13 s.n 0)) (.slice a6b n6b c6b))) (mL (got E (Ky.mk 13 s.n 0)) (.slice a6b n6b c6b)) (mL (got E (Ky.mk 13 s.n 0)) (.slice a6b n6b c6b)) ?_
  intro v22 Y C
  replace BB := belowC BB C (by omega)
  replace A := Bk.At.cell A Xg21 C zg21 nXg21 (by decide)
  replace R := R.cell Xg21 C uXg21 (by decide)
  replace Xe := Xe.chg C (show gx ≠ g21 by omega)
  replace Xg2 := Xg2.chg C (show g2 ≠ g21 by omega)
  replace Xg6 := Xg6.chg C (show g6 ≠ g21 by omega)
  replace Xg11 := Xg11.chg C (show g11 ≠ g21 by omega)
  replace Qm := Qm.cell C (show nm = 0 ∨ zm ≠ g21 by omega)
  replace Xg16 := Xg16.chg C (show g16 ≠ g21 by omega)
  replace Q6b := Q6b.cell C (show n6b = 0 ∨ z6b ≠ g21 by omega)
  clear C Xg21
  have Xg21 := Y
  clear Y
  refine t 14 (.bool (Kv.look E (Ky.mk 13 s.n 0)).isSome) ?_
  refine gl_nil ?_
  refine ge_then ?_
  refine gc_seq ?_
  replace BB := BB.drew
  replace A := A.drew
  replace R := R.keep (Below.refl _ _).drew
  replace Xe := Xe.drew
  replace Xg2 := Xg2.drew
  replace Xg6 := Xg6.drew
  replace Xg11 := Xg11.drew
  replace Qm := Qm.drew
  replace Xg16 := Xg16.drew
  replace Q6b := Q6b.drew
  replace Xg21 := Xg21.drew
  refine gc_draw (fun w' => Blk w' g6 (uL (got E (Ky.mk 12 s.n 0))) 42 ∧ Blk w' g11 (uL (got E (Ky.mk 12 s.n 0))) 42 ∧ Blk w' g16 (mL (got E (Ky.mk 13 s.n 0)) (.slice am nm cm)) 48 ∧ Blk w' g21 (mL (got E (Ky.mk 13 s.n 0)) (.slice a6b n6b c6b)) 48 ∧ Blk w' g2 [.int .i64 s.w, .int .i64 s.k, .int .u64 s.n, .int .u64 s.u0, .int .u64 s.u1, .int .u64 s.u2, .int .u64 s.u3, .int .u64 s.u4, .int .u64 s.u5, .int .u64 s.m0, .int .u64 s.m1, .int .u64 s.m2, .int .u64 s.m3, .int .u64 s.m4, .int .u64 s.m5, .slice (Sq.a s) (Sq.l s) (Sq.c s)] 50) (fun _ => false) ⟨Xg6, Xg11, Xg16, Xg21, Xg2⟩ ?_
  refine zlr 0 43 (uL (got E (Ky.mk 12 s.n 0))) (fun _ h => h.1) 0 ?_
  refine zlr 1 44 (uL (got E (Ky.mk 12 s.n 0))) (fun _ h => h.2.1) 0 ?_
  refine zr 2 45 (.bool true) (fun _ _ => run_eqU (x0 := uX (got E (Ky.mk 12 s.n 0)) 0) (x1 := uX (got E (Ky.mk 12 s.n 0)) 1) (x2 := uX (got E (Ky.mk 12 s.n 0)) 2) (x3 := uX (got E (Ky.mk 12 s.n 0)) 3) (x4 := uX (got E (Ky.mk 12 s.n 0)) 4) (x5 := uX (got E (Ky.mk 12 s.n 0)) 5)) ?_
  refine z 3 46 (.bool true) ?_
  refine z 4 47 (.bool (Kv.look E (Ky.mk 12 s.n 0)).isSome) ?_
  refine z 5 48 (.bool (Kv.look E (Ky.mk 12 s.n 0)).isSome) ?_
  refine zq 6 49 (.bool ((Kv.look E (Ky.mk 12 s.n 0)).isSome == (Kv.look E (Ky.mk 12 s.n 0)).isSome)) (.bool true) (congrArg Value.bool (beq_self_eq_true _)) ?_
  refine z 7 50 (.bool true) ?_
  refine z 8 51 (.bool true) ?_
  refine zlr 9 52 (mL (got E (Ky.mk 13 s.n 0)) (.slice am nm cm)) (fun _ h => h.2.2.1) 0 ?_
  refine zlr 10 53 (mL (got E (Ky.mk 13 s.n 0)) (.slice a6b n6b c6b)) (fun _ h => h.2.2.2.1) 0 ?_
  refine zc 11 54 27 #[.agg (mA (got E (Ky.mk 13 s.n 0)) (.slice am nm cm)), .agg (mA (got E (Ky.mk 13 s.n 0)) (.slice a6b n6b c6b))] (move_same Qm.o Q6b.o (Nat.le_trans mm (by decide)) (Nat.le_trans m6b (by decide))) ?_
  rintro _ v23 ⟨rfl, B⟩
  replace BB := joinB BB B
  replace A := A.keep B
  replace R := R.keep B
  replace Xe := Xe.keep B
  replace Xg2 := Xg2.keep B
  replace Xg6 := Xg6.keep B
  replace Xg11 := Xg11.keep B
  replace Qm := Qm.keep B
  replace Xg16 := Xg16.keep B
  replace Q6b := Q6b.keep B
  replace Xg21 := Xg21.keep B
  clear B
  clear Qm
  clear Q6b
  refine ⟨_, rfl, ⟨Xg6, Xg11, Xg16, Xg21, Xg2⟩, ?_⟩
  refine z 12 55 (.bool true) ?_
  refine z 13 56 (.bool true) ?_
  refine z 14 57 (.bool (Kv.look E (Ky.mk 13 s.n 0)).isSome) ?_
  refine z 15 58 (.bool (Kv.look E (Ky.mk 13 s.n 0)).isSome) ?_
  refine zq 16 59 (.bool ((Kv.look E (Ky.mk 13 s.n 0)).isSome == (Kv.look E (Ky.mk 13 s.n 0)).isSome)) (.bool true) (congrArg Value.bool (beq_self_eq_true _)) ?_
  refine z 17 60 (.bool true) ?_
  refine z 18 61 (.bool true) ?_
  refine z 19 62 (pg g0) ?_
  refine z 20 63 (pq g2 2) ?_
  refine zl 21 64 (.int .u64 s.n) (fun _ h => h.2.2.2.2) 2 ?_
  refine z 23 66 (pg q) ?_
  refine z 24 67 (pq g2 2) ?_
  refine zl 25 68 (.int .u64 s.n) (fun _ h => h.2.2.2.2) 2 ?_
  have lq := R.lt R.rs.xq
  have lg := A.sx.sa.lt A.sx.sa.top
  refine zc 22 65 29 #[pg g0, .int .u64 s.n] (due_x A.sx rr.n hky (by omega) (by omega)) ?_
  rintro _ v24 ⟨dv, n5, rfl, UD, S, qn5a, qn5b, qn5c, C⟩
  have hC := C.mono (fun b _ (e : b = g0) => e ▸ A.sx.sa.top)
  replace BB := belowO BB hC (fun b hb => Nat.le_trans hwB (A.sx.kb b hb))
  have mXe := not_op Xe nXe (fun _ h => .inl h)
  replace Xe := Xe.chg hC nXe
  replace nXe := mXe
  clear mXe
  have mXg2 := not_op Xg2 nXg2 (fun _ h => .inl h)
  replace Xg2 := Xg2.chg hC nXg2
  replace nXg2 := mXg2
  clear mXg2
  have mXg6 := not_op Xg6 nXg6 (fun _ h => .inl h)
  replace Xg6 := Xg6.chg hC nXg6
  replace nXg6 := mXg6
  clear mXg6
  have mXg11 := not_op Xg11 nXg11 (fun _ h => .inl h)
  replace Xg11 := Xg11.chg hC nXg11
  replace nXg11 := mXg11
  clear mXg11
  have mXg16 := not_op Xg16 nXg16 (fun _ h => .inl h)
  replace Xg16 := Xg16.chg hC nXg16
  replace nXg16 := mXg16
  clear mXg16
  have mXg21 := not_op Xg21 nXg21 (fun _ h => .inl h)
  replace Xg21 := Xg21.chg hC nXg21
  replace nXg21 := mXg21
  clear mXg21
  replace R := R.off hC dj (fun b hb cs => A.sx.sa.noU hb cs)
  replace A := A.op S (fun _ h => .inl h) hC
  clear S hC C
  refine ⟨_, rfl, ⟨Xg6, Xg11, Xg16, Xg21, Xg2⟩, ?_⟩
  have lq := R.lt R.rs.xq
  have lg := A.sx.sa.lt A.sx.sa.top
  refine zc 26 69 58 #[pg q, .int .u64 s.n] (rdue R rr.n hky (by omega) (by omega)) ?_
  rintro _ v25 ⟨ev, rfl, UE, Xn6, n6, S, qn6, hK, C⟩
  have hC := C.mono (fun b _ (e : b = q) => e ▸ R.rs.xq)
  replace UD := UD.chg C (fun b e => by have e2 : b = q := e; omega)
  replace BB := belowO BB hC (fun b hb => Nat.le_trans hwB (R.rs.xz b hb).1)
  have mXe := not_op Xe uXe hK
  replace Xe := Xe.chg hC uXe
  replace uXe := mXe
  clear mXe
  have mXg2 := not_op Xg2 uXg2 hK
  replace Xg2 := Xg2.chg hC uXg2
  replace uXg2 := mXg2
  clear mXg2
  have mXg6 := not_op Xg6 uXg6 hK
  replace Xg6 := Xg6.chg hC uXg6
  replace uXg6 := mXg6
  clear mXg6
  have mXg11 := not_op Xg11 uXg11 hK
  replace Xg11 := Xg11.chg hC uXg11
  replace uXg11 := mXg11
  clear mXg11
  have mXg16 := not_op Xg16 uXg16 hK
  replace Xg16 := Xg16.chg hC uXg16
  replace uXg16 := mXg16
  clear mXg16
  have mXg21 := not_op Xg21 uXg21 hK
  replace Xg21 := Xg21.chg hC uXg21
  replace uXg21 := mXg21
  clear mXg21
  have dj2 := dj_rx A.sx dj hK
  have A2 := (Pw.Sx.besideR A.sx R hC dj).at
  clear A
  have A := A2
  clear A2
  replace dj := dj2
  clear dj2
  clear R
  have R := S
  clear S hK hC
  clear C
  refine ⟨_, rfl, ⟨Xg6, Xg11, Xg16, Xg21, Xg2⟩, ?_⟩
  refine zc 27 70 28 #[dv, ev] (entries_ea UD UE (Nat.le_trans qn5c (by omega))) ?_
  rintro _ v26 ⟨rfl, B⟩
  replace BB := joinB BB B
  replace A := A.keep B
  replace R := R.keep B
  replace Xe := Xe.keep B
  replace Xg2 := Xg2.keep B
  replace Xg6 := Xg6.keep B
  replace Xg11 := Xg11.keep B
  replace Xg16 := Xg16.keep B
  replace Xg21 := Xg21.keep B
  replace UD := UD.keep B
  replace UE := UE.keep B
  clear B
  clear UD
  clear UE
  refine ⟨_, rfl, ⟨Xg6, Xg11, Xg16, Xg21, Xg2⟩, ?_⟩
  refine z 28 71 (.bool true) ?_
  refine z 29 72 (.bool true) ?_
  refine z 30 73 (pg g0) ?_
  refine z 31 74 (pq g2 2) ?_
  refine zl 32 75 (.int .u64 s.n) (fun _ h => h.2.2.2.2) 2 ?_
  refine z 34 77 (pg q) ?_
  refine z 35 78 (pq g2 2) ?_
  refine zl 36 79 (.int .u64 s.n) (fun _ h => h.2.2.2.2) 2 ?_
  have lq := R.lt R.rs.xq
  have lg := A.sx.sa.lt A.sx.sa.top
  refine zc 33 76 30 #[pg g0, .int .u64 s.n] (from_x A.sx rr.n hky (by omega) (by omega)) ?_
  rintro _ v27 ⟨fv, n7, rfl, UF, S, qn7a, qn7b, qn7c, C⟩
  have hC := C.mono (fun b _ (e : b = g0) => e ▸ A.sx.sa.top)
  replace BB := belowO BB hC (fun b hb => Nat.le_trans hwB (A.sx.kb b hb))
  have mXe := not_op Xe nXe (fun _ h => .inl h)
  replace Xe := Xe.chg hC nXe
  replace nXe := mXe
  clear mXe
  have mXg2 := not_op Xg2 nXg2 (fun _ h => .inl h)
  replace Xg2 := Xg2.chg hC nXg2
  replace nXg2 := mXg2
  clear mXg2
  have mXg6 := not_op Xg6 nXg6 (fun _ h => .inl h)
  replace Xg6 := Xg6.chg hC nXg6
  replace nXg6 := mXg6
  clear mXg6
  have mXg11 := not_op Xg11 nXg11 (fun _ h => .inl h)
  replace Xg11 := Xg11.chg hC nXg11
  replace nXg11 := mXg11
  clear mXg11
  have mXg16 := not_op Xg16 nXg16 (fun _ h => .inl h)
  replace Xg16 := Xg16.chg hC nXg16
  replace nXg16 := mXg16
  clear mXg16
  have mXg21 := not_op Xg21 nXg21 (fun _ h => .inl h)
  replace Xg21 := Xg21.chg hC nXg21
  replace nXg21 := mXg21
  clear mXg21
  replace R := R.off hC dj (fun b hb cs => A.sx.sa.noU hb cs)
  replace A := A.op S (fun _ h => .inl h) hC
  clear S hC C
  refine ⟨_, rfl, ⟨Xg6, Xg11, Xg16, Xg21, Xg2⟩, ?_⟩
  have lq := R.lt R.rs.xq
  have lg := A.sx.sa.lt A.sx.sa.top
  refine zc 37 80 59 #[pg q, .int .u64 s.n] (rfrom R rr.n hky (by omega) (by omega)) ?_
  rintro _ v28 ⟨gv, rfl, UG, Xn8, n8, S, qn8, hK, C⟩
  have hC := C.mono (fun b _ (e : b = q) => e ▸ R.rs.xq)
  replace UF := UF.chg C (fun b e => by have e2 : b = q := e; omega)
  replace BB := belowO BB hC (fun b hb => Nat.le_trans hwB (R.rs.xz b hb).1)
  have mXe := not_op Xe uXe hK
  replace Xe := Xe.chg hC uXe
  replace uXe := mXe
  clear mXe
  have mXg2 := not_op Xg2 uXg2 hK
  replace Xg2 := Xg2.chg hC uXg2
  replace uXg2 := mXg2
  clear mXg2
  have mXg6 := not_op Xg6 uXg6 hK
  replace Xg6 := Xg6.chg hC uXg6
  replace uXg6 := mXg6
  clear mXg6
  have mXg11 := not_op Xg11 uXg11 hK
  replace Xg11 := Xg11.chg hC uXg11
  replace uXg11 := mXg11
  clear mXg11
  have mXg16 := not_op Xg16 uXg16 hK
  replace Xg16 := Xg16.chg hC uXg16
  replace uXg16 := mXg16
  clear mXg16
  have mXg21 := not_op Xg21 uXg21 hK
  replace Xg21 := Xg21.chg hC uXg21
  replace uXg21 := mXg21
  clear mXg21
  have dj2 := dj_rx A.sx dj hK
  have A2 := (Pw.Sx.besideR A.sx R hC dj).at
  clear A
  have A := A2
  clear A2
  replace dj := dj2
  clear dj2
  clear R
  have R := S
  clear S hK hC
  clear C
  refine ⟨_, rfl, ⟨Xg6, Xg11, Xg16, Xg21, Xg2⟩, ?_⟩
  refine zc 38 81 28 #[fv, gv] (entries_ea UF UG (Nat.le_trans qn7c (by omega))) ?_
  rintro _ v29 ⟨rfl, B⟩
  replace BB := joinB BB B
  replace A := A.keep B
  replace R := R.keep B
  replace Xe := Xe.keep B
  replace Xg2 := Xg2.keep B
  replace Xg6 := Xg6.keep B
  replace Xg11 := Xg11.keep B
  replace Xg16 := Xg16.keep B
  replace Xg21 := Xg21.keep B
  replace UF := UF.keep B
  replace UG := UG.keep B
  clear B
  clear UF
  clear UG
  refine ⟨_, rfl, ⟨Xg6, Xg11, Xg16, Xg21, Xg2⟩, ?_⟩
  refine z 39 82 (.bool true) ?_
  refine z 40 83 (.bool true) ?_
  refine z 41 84 (pg g0) ?_
  refine z 42 85 (pq g2 3) ?_
  refine z 43 86 (pq g2 3) ?_
  refine zl 44 87 (.int .u64 s.u0) (fun _ h => h.2.2.2.2) 3 ?_
  refine z 45 88 (pq g2 2) ?_
  refine zl 46 89 (.int .u64 s.n) (fun _ h => h.2.2.2.2) 2 ?_
  refine z 48 91 (pg q) ?_
  refine z 49 92 (pq g2 3) ?_
  refine z 50 93 (pq g2 3) ?_
  refine zl 51 94 (.int .u64 s.u0) (fun _ h => h.2.2.2.2) 3 ?_
  refine z 52 95 (pq g2 2) ?_
  refine zl 53 96 (.int .u64 s.n) (fun _ h => h.2.2.2.2) 2 ?_
  refine zc 47 90 24 #[pg g0, .int .u64 s.u0, .int .u64 s.n] (count_get A.sx rr.u0 (by omega) (by omega)) ?_
  rintro _ v31 ⟨rfl, K30, S, hK, hC⟩
  replace BB := belowO BB hC (fun b hb => Nat.le_trans hwB (A.sx.kb b hb))
  have mXe := not_op Xe nXe hK
  replace Xe := Xe.chg hC nXe
  replace nXe := mXe
  clear mXe
  have mXg2 := not_op Xg2 nXg2 hK
  replace Xg2 := Xg2.chg hC nXg2
  replace nXg2 := mXg2
  clear mXg2
  have mXg6 := not_op Xg6 nXg6 hK
  replace Xg6 := Xg6.chg hC nXg6
  replace nXg6 := mXg6
  clear mXg6
  have mXg11 := not_op Xg11 nXg11 hK
  replace Xg11 := Xg11.chg hC nXg11
  replace nXg11 := mXg11
  clear mXg11
  have mXg16 := not_op Xg16 nXg16 hK
  replace Xg16 := Xg16.chg hC nXg16
  replace nXg16 := mXg16
  clear mXg16
  have mXg21 := not_op Xg21 nXg21 hK
  replace Xg21 := Xg21.chg hC nXg21
  replace nXg21 := mXg21
  clear mXg21
  have dj2 := dj_sx R dj hK
  replace R := R.off hC dj (fun b hb cs => A.sx.sa.noU hb cs)
  replace dj := dj2
  clear dj2
  replace A := A.op S hK hC
  clear S hK hC
  refine ⟨_, rfl, ⟨Xg6, Xg11, Xg16, Xg21, Xg2⟩, ?_⟩
  refine zc 54 97 60 #[pg q, .int .u64 s.u0, .int .u64 s.n] (rcount R rr.u0 (by omega) (by omega)) ?_
  rintro _ v33 ⟨rfl, X32, S, hK, hC⟩
  replace BB := belowO BB hC (fun b hb => Nat.le_trans hwB (R.rs.xz b hb).1)
  have mXe := not_op Xe uXe hK
  replace Xe := Xe.chg hC uXe
  replace uXe := mXe
  clear mXe
  have mXg2 := not_op Xg2 uXg2 hK
  replace Xg2 := Xg2.chg hC uXg2
  replace uXg2 := mXg2
  clear mXg2
  have mXg6 := not_op Xg6 uXg6 hK
  replace Xg6 := Xg6.chg hC uXg6
  replace uXg6 := mXg6
  clear mXg6
  have mXg11 := not_op Xg11 uXg11 hK
  replace Xg11 := Xg11.chg hC uXg11
  replace uXg11 := mXg11
  clear mXg11
  have mXg16 := not_op Xg16 uXg16 hK
  replace Xg16 := Xg16.chg hC uXg16
  replace uXg16 := mXg16
  clear mXg16
  have mXg21 := not_op Xg21 uXg21 hK
  replace Xg21 := Xg21.chg hC uXg21
  replace uXg21 := mXg21
  clear mXg21
  have dj2 := dj_rx A.sx dj hK
  have A2 := (Pw.Sx.besideR A.sx R hC dj).at
  clear A
  have A := A2
  clear A2
  replace dj := dj2
  clear dj2
  clear R
  have R := S
  clear S hK hC
  refine ⟨_, rfl, ⟨Xg6, Xg11, Xg16, Xg21, Xg2⟩, ?_⟩
  refine zq 55 98 (.bool ((cntQ E s.u0 s.n : Int) == cntQ E s.u0 s.n)) (.bool true) (congrArg Value.bool (beq_self_eq_true _)) ?_
  refine z 56 99 (.bool true) ?_
  refine z 57 6 (.bool true) ?_
  refine gz_done ?_
  refine ge_then ?_
  clear Xg2
  clear Xg6
  clear Xg11
  clear Xg16
  clear Xg21
  refine gc_fr [(6, .bool true)] (by kernel_rfl) ?_
  refine gc_ret ?_
  refine ge_ret (.bool true) (rs1 6 (by kernel_rfl) (by kernel_rfl)) ?_
  exact ⟨rfl, BB, _, _, _, _, A.sx, R, dj, by omega, by omega, Xe, nXe, uXe⟩
end Qu
end Go.Proofs.YtidnifmehnjipaaGreat
