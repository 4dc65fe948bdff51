/- Several texts, joined: QuH, QuI, QuJ, PwJ. -/
import Derived.Test.YtidnifmehnjipaaGreatJaq
import Derived.Test.YtidnifmehnjipaaGreatJau
import Derived.Test.YtidnifmehnjipaaGreatJah
namespace Go.Proofs.YtidnifmehnjipaaGreat
namespace Qu
open Go.RowKit Go.Lib Pg Lim Gl Kv Bk Pw
attribute [local go_sem] Oper.semAt_some
set_option maxRecDepth 100000
set_option linter.unusedVariables false
set_option linter.unusedSimpArgs false
set_option maxHeartbeats 2000000
theorem mineU {w : World} {B : Nat} {v : Value} {l : List Int} (h : MineB w B v l) (ho : Oct l) : ByU w v l := by
  obtain ⟨_, h2⟩ := h
  rcases h2 with ⟨rfl, h0⟩ | ⟨g, cap, cur, rfl, hB, hh, hle, hmx, hsz, htk⟩
  · have e := List.eq_nil_of_length_eq_zero h0
    subst e
    exact ⟨⟨none, 0, rfl, Nat.le_refl _, by decide, fun _ => rfl, ho, .inl rfl⟩, fun b o n c e => by cases e⟩
  · refine ⟨⟨_, cap, rfl, hle, hmx, fun e => by (cases e), ho, .inr ⟨g, 0, rfl, lt_of_block hh, fun i x hi => ?_⟩⟩, fun b o n c e => by cases e; exact ⟨_, _, hh⟩⟩
    have h3 : (cur.toList.take (l.length * 1))[i]? = some (.int .u8 x) := by
      rw [htk, List.getElem?_map, hi]
      rfl
    rw [List.getElem?_take] at h3
    split at h3
    · rw [Nat.zero_add]
      simp only [World.cell?, hh]
      rw [← Array.getElem?_toList]
      simpa using h3
    · cases h3
theorem got_none {E : Ents} {k : List Int} (h : ¬ (Kv.look E k).isSome = true) : got E k = [] := by
  unfold got
  cases e : Kv.look E k with
  | none => rfl
  | some v => rw [e] at h; simp at h
theorem numB_nil : numB [] = 0 := by decide
theorem uX_nil : (uX [] 0 = 0 ∧ uX [] 1 = 0 ∧ uX [] 2 = 0) ∧ (uX [] 3 = 0 ∧ uX [] 4 = 0 ∧ uX [] 5 = 0) := by decide
theorem uA_nil : uA [] = #[.int .u64 0, .int .u64 0, .int .u64 0, .int .u64 0, .int .u64 0, .int .u64 0] := by kernel_rfl
theorem chn_nil : hgtB [] = 0 ∧ nxtB [] = 0 := by decide
theorem rput_chain {w : World} {x y : Int} : Calls Tryz.prog 10 #[.agg #[.int .u64 x, .int .u64 y]] w fun e w' => ∃ v, e = .returned v ∧ ByU w' v (pv x y) ∧ Below w.heap.size w w' := by
  refine Rc.rPutChain.mono ?_
  rintro e w' ⟨v, rfl, M, B⟩
  exact ⟨v, rfl, mineU M (pv_oct x y), B⟩
theorem rput_number {w : World} {x : Int} : Calls Tryz.prog 57 #[.int .u64 x] w fun e w' => ∃ v, e = .returned v ∧ ByU w' v (nv x) ∧ Below w.heap.size w w' := by
  refine Rc.rPutNumber.mono ?_
  rintro e w' ⟨v, rfl, M, B⟩
  exact ⟨v, rfl, mineU M (nv_oct x), B⟩
theorem rput_unbonding {w : World} {x0 x1 x2 x3 x4 x5 : Int} : Calls Tryz.prog 42 #[.agg #[.int .u64 x0, .int .u64 x1, .int .u64 x2, .int .u64 x3, .int .u64 x4, .int .u64 x5]] w fun e w' => ∃ v, e = .returned v ∧ ByU w' v (uv x0 x1 x2 x3 x4 x5) ∧ Below w.heap.size w w' := by
  refine Rc.rPutUnbonding.mono ?_
  rintro e w' ⟨v, rfl, M, B⟩
  exact ⟨v, rfl, mineU M (uv_oct _ _ _ _ _ _), B⟩
theorem rchain_rd {w : World} {v : Value} {l : List Int} (h : ByU w v l) : Calls Tryz.prog 99 #[v] w fun e w' => e = .returned (.tuple #[.agg #[.int .u64 (hgtB l), .int .u64 (nxtB l)], .int .i64 (Rc.outR (Rc.stChain l))]) ∧ Below w.heap.size w w' := by
  obtain ⟨b, ao, c, rfl, h2⟩ := bya h.byt
  exact Rc.rChain h2
theorem rnumber_rd {w : World} {v : Value} {l : List Int} (h : ByU w v l) : Calls Tryz.prog 108 #[v] w fun e w' => e = .returned (.tuple #[.int .u64 (numB l), .int .i64 (Rc.outR (Rc.stNumber l))]) ∧ Below w.heap.size w w' := by
  obtain ⟨b, ao, c, rfl, h2⟩ := bya h.byt
  exact Rc.rNumber h2
theorem runbonding_rd {w : World} {v : Value} {l : List Int} (h : ByU w v l) : Calls Tryz.prog 105 #[v] w fun e w' => e = .returned (.tuple #[.agg (uA l), .int .i64 (Rc.outR (Rc.stUnbonding l))]) ∧ Below w.heap.size w w' := by
  obtain ⟨b, ao, c, rfl, h2⟩ := bya h.byt
  exact Rc.rUnbonding h2
theorem next_len (E : Ents) : (nextE E).length ≤ E.length + 1 := Pw.put_len _ _ _
def rputE (E : Ents) (k i a b d : Int) : Ents :=
  let E1 := put (put E (Ky.mk 14 d i) (nv k)) (Ky.mk 15 b i) (nv k)
  put E1 (Ky.mk 17 a b) (nv ((cntQ E1 a b + 1) % 18446744073709551616))
def lessR (E : Ents) (id y : Int) : Ents := lessU E id y
theorem rnumber {B : Nat} {w : World} {X : Nat → Prop} {q : Nat} {E : Ents} {n : Nat} {kv : Value} {k : List Int} (h : Rx B w X q E n) (U : ByU w kv k) (hkl : k.length ≤ 1000000000) (hn : n + 4 ≤ 4000000000000000000) (hm : E.length + 4 ≤ 1000000) : Calls Tryz.prog 56 #[pg q, kv] w (RxE B w X q E (n + 1) (.int .u64 (numB (got E k)))) := by
  have A := h.at
  refine gc_enter (n := 23) Tryz.func56 rfl (by kernel_rfl) (by kernel_rfl) ?_
  refine gc_seq ?_
  refine gc_reg ?_
  refine t 4 (.int .u64 0) ?_
  refine gl_nil ?_
  refine ge_then ?_
  refine gc_seq ?_
  refine gc_reg ?_
  refine t 10 (pg q) ?_
  refine t 11 (kv) ?_
  by_cases c1 : (Kv.look E k).isSome = true
  · refine tc 12 98 #[pg q, kv] (rxget A.rx U hkl (by omega) (by omega) c1) ?_
    rintro _ v5 ⟨gv2, rfl, U3, K4, S, hK, hC⟩
    refine ⟨_, rfl, ?_⟩
    replace U := A.byu U hC
    replace A := A.op S hK hC
    clear S hK hC
    refine t 9 (.tuple #[gv2, .bool true]) ?_
    refine t 13 (gv2) ?_
    refine t 14 (.bool true) ?_
    refine t 5 (gv2) ?_
    refine t 6 (.bool true) ?_
    refine gl_nil ?_
    refine ge_then ?_
    refine gc_seq ?_
    refine gc_seq ?_
    refine gc_reg ?_
    refine t 15 (.bool true) ?_
    refine t 16 (.bool false) ?_
    refine gl_nil ?_
    refine ge_then ?_
    refine gc_fr [(4, .int .u64 0), (5, gv2), (16, .bool false)] (by kernel_rfl) ?_
    refine gc_no ?_
    refine gc_skip ?_
    refine ge_then ?_
    refine gc_seq ?_
    refine gc_reg ?_
    refine t 18 (gv2) ?_
    refine tc 19 108 #[gv2] (rnumber_rd U3) ?_
    rintro _ v6 ⟨rfl, B⟩
    refine ⟨_, rfl, ?_⟩
    replace U := byu_keep U B
    replace A := A.keep B
    replace U3 := byu_keep U3 B
    clear B
    clear U3
    refine t 17 (.tuple #[.int .u64 (numB (got E k)), .int .i64 (Rc.outR (Rc.stNumber (got E k)))]) ?_
    refine t 20 (.int .u64 (numB (got E k))) ?_
    refine t 21 (.int .i64 (Rc.outR (Rc.stNumber (got E k)))) ?_
    refine t 7 (.int .u64 (numB (got E k))) ?_
    refine t 8 (.int .i64 (Rc.outR (Rc.stNumber (got E k)))) ?_
    refine gl_nil ?_
    refine ge_then ?_
    refine gc_seq ?_
    refine gc_reg ?_
    refine t 22 (.int .u64 (numB (got E k))) ?_
    refine t 4 (.int .u64 (numB (got E k))) ?_
    refine gl_nil ?_
    refine ge_then ?_
    refine gc_ret ?_
    refine ge_ret (.int .u64 (numB (got E k))) (rs1 4 (by kernel_rfl) (by kernel_rfl)) ?_
    exact ⟨rfl, _, A.rx, A.xm, A.cc⟩
  · refine tc 12 98 #[pg q, kv] (rxget A.rx U hkl (by omega) (by omega) (Bool.eq_false_iff.2 c1)) ?_
    rintro _ v10 ⟨gv7, rfl, U8, K9, S, hK, hC⟩
    refine ⟨_, rfl, ?_⟩
    replace U := A.byu U hC
    replace A := A.op S hK hC
    clear S hK hC
    refine t 9 (.tuple #[gv7, .bool false]) ?_
    refine t 13 (gv7) ?_
    refine t 14 (.bool false) ?_
    refine t 5 (gv7) ?_
    refine t 6 (.bool false) ?_
    refine gl_nil ?_
    refine ge_then ?_
    refine gc_seq ?_
    refine gc_seq ?_
    refine gc_reg ?_
    refine t 15 (.bool false) ?_
    refine t 16 (.bool true) ?_
    refine gl_nil ?_
    refine ge_then ?_
    refine gc_fr [(4, .int .u64 0), (5, gv7), (16, .bool true)] (by kernel_rfl) ?_
    refine gc_yes ?_
    refine gc_seq ?_
    refine gc_reg ?_
    refine t 4 (.int .u64 0) ?_
    refine gl_nil ?_
    refine ge_then ?_
    refine gc_ret ?_
    refine ge_tr ?_
    refine ge_ret (.int .u64 0) (rs1 4 (by kernel_rfl) (by kernel_rfl)) ?_
    rw [show numB (got E k) = 0 by rw [got_none c1]; exact numB_nil]
    exact ⟨rfl, _, A.rx, A.xm, A.cc⟩
theorem rcount {B : Nat} {w : World} {X : Nat → Prop} {q : Nat} {E : Ents} {n : Nat} {a b : Int} (h : Rx B w X q E n) (ha : 0 ≤ a ∧ a < 18446744073709551616) (hn : n + 4 ≤ 4000000000000000000) (hm : E.length + 4 ≤ 1000000) : Calls Tryz.prog 60 #[pg q, .int .u64 a, .int .u64 b] w (RxE B w X q E (n + 1) (.int .u64 (cntQ E a b))) := by
  have A := h.at
  refine gc_enter (n := 12) Tryz.func60 rfl (by kernel_rfl) (by kernel_rfl) ?_
  refine gc_seq ?_
  refine gc_reg ?_
  refine t 6 (.int .u64 0) ?_
  refine gl_nil ?_
  refine ge_then ?_
  refine gc_seq ?_
  refine gc_reg ?_
  refine t 7 (pg q) ?_
  refine t 8 (.int .u64 a) ?_
  refine t 9 (.int .u64 b) ?_
  refine tc 10 9 #[.int .i64 17, .int .u64 a, .int .u64 b] (key9 ha (mkE17 a b)) ?_
  rintro _ v3 ⟨kv2, rfl, U1, B⟩
  refine ⟨_, rfl, ?_⟩
  replace A := A.keep B
  clear B
  refine tc 11 56 #[pg q, kv2] (rnumber A.rx U1 (Nat.le_trans (Ky.mk_len _ _ _) (by decide)) (by omega) (by omega)) ?_
  rintro _ v5 ⟨rfl, K4, S, hK, hC⟩
  refine ⟨_, rfl, ?_⟩
  replace U1 := A.byu U1 hC
  replace A := A.op S hK hC
  clear S hK hC
  refine t 6 (.int .u64 (numB (got E (Ky.mk 17 a b)))) ?_
  refine gl_nil ?_
  refine ge_then ?_
  refine gc_ret ?_
  refine ge_ret (.int .u64 (numB (got E (Ky.mk 17 a b)))) (rs1 6 (by kernel_rfl) (by kernel_rfl)) ?_
  exact ⟨rfl, _, A.rx, A.xm, A.cc⟩
theorem rnext {B : Nat} {w : World} {X : Nat → Prop} {q : Nat} {E : Ents} {n : Nat}  (h : Rx B w X q E n)  (hn : n + 4 ≤ 4000000000000000000) (hm : E.length + 4 ≤ 1000000) : Calls Tryz.prog 41 #[pg q] w (RxE B w X q (nextE E) (n + 2) (.int .u64 (nxtB (chn E)))) := by
  have A := h.at
  refine gc_enter (n := 33) Tryz.func41 rfl (by kernel_rfl) (by kernel_rfl) ?_
  refine gc_seq ?_
  refine gc_reg ?_
  refine t 2 (.int .u64 0) ?_
  refine gl_nil ?_
  refine ge_then ?_
  refine gc_seq ?_
  refine gc_reg ?_
  refine tc 8 9 #[.int .i64 2, .int .u64 0, .int .u64 0] (key9 ⟨by decide, by decide⟩ mkE2) ?_
  rintro _ v3 ⟨kv2, rfl, U1, B⟩
  refine ⟨_, rfl, ?_⟩
  replace A := A.keep B
  clear B
  refine t 3 (kv2) ?_
  refine gl_nil ?_
  refine ge_then ?_
  refine gc_seq ?_
  refine gc_reg ?_
  refine ta 4 [.int .u64 0, .int .u64 0] 40 (pg) ?_
  intro v4 g5 Xg5 hg5 B
  have zg5 := Nat.le_trans A.size hg5
  have nXg5 := A.new hg5
  replace A := A.keep B
  replace U1 := byu_keep U1 B
  clear B
  refine gl_nil ?_
  refine ge_then ?_
  refine gc_seq ?_
  refine gc_reg ?_
  refine t 10 (pg q) ?_
  refine t 11 (kv2) ?_
  by_cases c6 : (Kv.look E (Ky.mk 2 0 0)).isSome = true
  · refine tc 12 98 #[pg q, kv2] (rxget A.rx U1 (Nat.le_trans (Ky.mk_len _ _ _) (by decide)) (by omega) (by omega) c6) ?_
    rintro _ v10 ⟨gv7, rfl, U8, K9, S, hK, hC⟩
    refine ⟨_, rfl, ?_⟩
    replace U1 := A.byu U1 hC
    have mXg5 := not_op Xg5 nXg5 hK
    replace Xg5 := Xg5.chg hC nXg5
    replace nXg5 := mXg5
    clear mXg5
    replace A := A.op S hK hC
    clear S hK hC
    refine t 9 (.tuple #[gv7, .bool true]) ?_
    refine t 13 (gv7) ?_
    refine t 14 (.bool true) ?_
    refine t 5 (gv7) ?_
    refine t 6 (.bool true) ?_
    refine gl_nil ?_
    refine ge_then ?_
    refine gc_fr [(0, pg q), (2, .int .u64 0), (3, kv2), (4, pg g5), (5, gv7), (6, .bool true)] (by kernel_rfl) ?_
    refine gc_seq ?_
    refine gc_seq ?_
    refine gc_reg ?_
    refine t 15 (.bool true) ?_
    refine gl_nil ?_
    refine ge_then ?_
    refine gc_yes ?_
    refine gc_reg ?_
    refine t 17 (gv7) ?_
    refine tc 18 99 #[gv7] (rchain_rd U8) ?_
    rintro _ v11 ⟨rfl, B⟩
    refine ⟨_, rfl, ?_⟩
    replace A := A.keep B
    replace U1 := byu_keep U1 B
    replace Xg5 := Xg5.keep B
    replace U8 := byu_keep U8 B
    clear B
    clear U8
    refine t 16 (.tuple #[.agg #[.int .u64 (hgtB (got E (Ky.mk 2 0 0))), .int .u64 (nxtB (got E (Ky.mk 2 0 0)))], .int .i64 (Rc.outR (Rc.stChain (got E (Ky.mk 2 0 0))))]) ?_
    refine t 19 (.agg #[.int .u64 (hgtB (got E (Ky.mk 2 0 0))), .int .u64 (nxtB (got E (Ky.mk 2 0 0)))]) ?_
    refine t 20 (.int .i64 (Rc.outR (Rc.stChain (got E (Ky.mk 2 0 0))))) ?_
    refine ts Xg5 0 (.agg #[.int .u64 (hgtB (got E (Ky.mk 2 0 0))), .int .u64 (nxtB (got E (Ky.mk 2 0 0)))]) [.int .u64 (hgtB (got E (Ky.mk 2 0 0))), .int .u64 (nxtB (got E (Ky.mk 2 0 0)))] [.int .u64 (hgtB (got E (Ky.mk 2 0 0))), .int .u64 (nxtB (got E (Ky.mk 2 0 0)))] ?_
    intro v12 Y C
    replace A := Ar.cell A Xg5 C zg5 nXg5 (by decide)
    replace U1 := byu_cell U1 Xg5 C (by decide)
    clear C Xg5
    have Xg5 := Y
    clear Y
    refine gl_nil ?_
    refine ge_then ?_
    refine gc_seq ?_
    refine gc_reg ?_
    refine t 21 (pq g5 1) ?_
    refine tl 22 (.int .u64 (nxtB (got E (Ky.mk 2 0 0)))) Xg5 1 ?_
    refine t 7 (.int .u64 (nxtB (got E (Ky.mk 2 0 0)))) ?_
    refine gl_nil ?_
    refine ge_then ?_
    refine gc_seq ?_
    refine gc_reg ?_
    refine t 23 (pq g5 1) ?_
    refine tl 24 (.int .u64 (nxtB (got E (Ky.mk 2 0 0)))) Xg5 1 ?_
    refine tq 25 (.int .u64 (IntKind.u64.wrap (nxtB (got E (Ky.mk 2 0 0)) + 1))) (.int .u64 ((nxtB (got E (Ky.mk 2 0 0)) + 1) % 18446744073709551616)) (congrArg (Value.int .u64) (IntKind.wrap_u64 _)) ?_
    refine t 26 (pq g5 1) ?_
    refine ts Xg5 1 (.int .u64 ((nxtB (got E (Ky.mk 2 0 0)) + 1) % 18446744073709551616)) [.int .u64 ((nxtB (got E (Ky.mk 2 0 0)) + 1) % 18446744073709551616)] [.int .u64 (hgtB (got E (Ky.mk 2 0 0))), .int .u64 ((nxtB (got E (Ky.mk 2 0 0)) + 1) % 18446744073709551616)] ?_
    intro v13 Y C
    replace A := Ar.cell A Xg5 C zg5 nXg5 (by decide)
    replace U1 := byu_cell U1 Xg5 C (by decide)
    clear C Xg5
    have Xg5 := Y
    clear Y
    refine gl_nil ?_
    refine ge_then ?_
    refine gc_fr [(0, pg q), (2, .int .u64 0), (3, kv2), (4, pg g5), (7, .int .u64 (nxtB (got E (Ky.mk 2 0 0))))] (by kernel_rfl) ?_
    refine gc_seq ?_
    refine gc_reg ?_
    refine t 27 (pg q) ?_
    refine t 28 (kv2) ?_
    refine tlr 29 [.int .u64 (hgtB (got E (Ky.mk 2 0 0))), .int .u64 ((nxtB (got E (Ky.mk 2 0 0)) + 1) % 18446744073709551616)] Xg5 0 ?_
    refine tc 30 10 #[.agg #[.int .u64 (hgtB (got E (Ky.mk 2 0 0))), .int .u64 ((nxtB (got E (Ky.mk 2 0 0)) + 1) % 18446744073709551616)]] (rput_chain) ?_
    rintro _ v16 ⟨pv15, rfl, U14, B⟩
    refine ⟨_, rfl, ?_⟩
    replace A := A.keep B
    replace U1 := byu_keep U1 B
    replace Xg5 := Xg5.keep B
    clear B
    have L18 := Pw.put_len E (Ky.mk 2 0 0) (pv (hgtB (got E (Ky.mk 2 0 0))) ((nxtB (got E (Ky.mk 2 0 0)) + 1) % 18446744073709551616))
    refine tc 31 8 #[pg q, kv2, pv15] (rxset A.rx U1 U14 (by omega) (by omega) (setE_mk mkE2 (Nat.le_trans (pv_len _ _) (by decide)))) ?_
    rintro _ v19 ⟨rfl, K17, S, hK, hC⟩
    refine ⟨_, rfl, ?_⟩
    replace U1 := A.byu U1 hC
    have mXg5 := not_op Xg5 nXg5 hK
    replace Xg5 := Xg5.chg hC nXg5
    replace nXg5 := mXg5
    clear mXg5
    replace U14 := A.byu U14 hC
    replace A := A.op S hK hC
    clear S hK hC
    refine gl_nil ?_
    refine ge_then ?_
    refine gc_seq ?_
    refine gc_reg ?_
    refine t 32 (.int .u64 (nxtB (got E (Ky.mk 2 0 0)))) ?_
    refine t 2 (.int .u64 (nxtB (got E (Ky.mk 2 0 0)))) ?_
    refine gl_nil ?_
    refine ge_then ?_
    refine gc_ret ?_
    refine ge_ret (.int .u64 (nxtB (got E (Ky.mk 2 0 0)))) (rs1 2 (by kernel_rfl) (by kernel_rfl)) ?_
    exact ⟨rfl, _, A.rx, A.xm, A.cc⟩
  · refine tc 12 98 #[pg q, kv2] (rxget A.rx U1 (Nat.le_trans (Ky.mk_len _ _ _) (by decide)) (by omega) (by omega) (Bool.eq_false_iff.2 c6)) ?_
    rintro _ v23 ⟨gv20, rfl, U21, K22, S, hK, hC⟩
    refine ⟨_, rfl, ?_⟩
    replace U1 := A.byu U1 hC
    have mXg5 := not_op Xg5 nXg5 hK
    replace Xg5 := Xg5.chg hC nXg5
    replace nXg5 := mXg5
    clear mXg5
    replace A := A.op S hK hC
    clear S hK hC
    refine t 9 (.tuple #[gv20, .bool false]) ?_
    refine t 13 (gv20) ?_
    refine t 14 (.bool false) ?_
    refine t 5 (gv20) ?_
    refine t 6 (.bool false) ?_
    refine gl_nil ?_
    refine ge_then ?_
    refine gc_fr [(0, pg q), (2, .int .u64 0), (3, kv2), (4, pg g5), (5, gv20), (6, .bool false)] (by kernel_rfl) ?_
    refine gc_seq ?_
    refine gc_seq ?_
    refine gc_reg ?_
    refine t 15 (.bool false) ?_
    refine gl_nil ?_
    refine ge_then ?_
    refine gc_no ?_
    refine gc_skip ?_
    refine ge_then ?_
    refine gc_seq ?_
    refine gc_reg ?_
    refine t 21 (pq g5 1) ?_
    refine tl 22 (.int .u64 0) Xg5 1 ?_
    refine t 7 (.int .u64 0) ?_
    refine gl_nil ?_
    refine ge_then ?_
    refine gc_seq ?_
    refine gc_reg ?_
    refine t 23 (pq g5 1) ?_
    refine tl 24 (.int .u64 0) Xg5 1 ?_
    refine t 25 (.int .u64 1) ?_
    refine t 26 (pq g5 1) ?_
    refine ts Xg5 1 (.int .u64 1) [.int .u64 1] [.int .u64 0, .int .u64 1] ?_
    intro v24 Y C
    replace A := Ar.cell A Xg5 C zg5 nXg5 (by decide)
    replace U1 := byu_cell U1 Xg5 C (by decide)
    replace U21 := byu_cell U21 Xg5 C (by decide)
    clear C Xg5
    have Xg5 := Y
    clear Y
    refine gl_nil ?_
    refine ge_then ?_
    refine gc_seq ?_
    refine gc_reg ?_
    refine t 27 (pg q) ?_
    refine t 28 (kv2) ?_
    refine tlr 29 [.int .u64 0, .int .u64 1] Xg5 0 ?_
    refine tc 30 10 #[.agg #[.int .u64 0, .int .u64 1]] (rput_chain) ?_
    rintro _ v27 ⟨pv26, rfl, U25, B⟩
    refine ⟨_, rfl, ?_⟩
    replace A := A.keep B
    replace U1 := byu_keep U1 B
    replace Xg5 := Xg5.keep B
    replace U21 := byu_keep U21 B
    clear B
    have L29 := Pw.put_len E (Ky.mk 2 0 0) (pv 0 1)
    refine tc 31 8 #[pg q, kv2, pv26] (rxset A.rx U1 U25 (by omega) (by omega) (setE_mk mkE2 (Nat.le_trans (pv_len _ _) (by decide)))) ?_
    rintro _ v30 ⟨rfl, K28, S, hK, hC⟩
    refine ⟨_, rfl, ?_⟩
    replace U1 := A.byu U1 hC
    have mXg5 := not_op Xg5 nXg5 hK
    replace Xg5 := Xg5.chg hC nXg5
    replace nXg5 := mXg5
    clear mXg5
    replace U21 := A.byu U21 hC
    replace U25 := A.byu U25 hC
    replace A := A.op S hK hC
    clear S hK hC
    refine gl_nil ?_
    refine ge_then ?_
    refine gc_fr [(2, .int .u64 0), (7, .int .u64 0)] (by kernel_rfl) ?_
    refine gc_seq ?_
    refine gc_reg ?_
    refine t 32 (.int .u64 0) ?_
    refine t 2 (.int .u64 0) ?_
    refine gl_nil ?_
    refine ge_then ?_
    refine gc_ret ?_
    refine ge_ret (.int .u64 0) (rs1 2 (by kernel_rfl) (by kernel_rfl)) ?_
    have e0 : chn E = [] := got_none c6
    rw [show nextE E = put E (Ky.mk 2 0 0) (pv 0 1) by unfold nextE; rw [e0, chn_nil.1, chn_nil.2]; rfl, e0, chn_nil.2]
    exact ⟨rfl, _, A.rx, A.xm, A.cc⟩
theorem rput12 {B : Nat} {w : World} {X : Nat → Prop} {q : Nat} {E : Ents} {n : Nat} {k i a b d : Int} (h : Rx B w X q E n) (hk : 0 ≤ k ∧ k < 18446744073709551616) (ha : 0 ≤ a ∧ a < 18446744073709551616) (hb : 0 ≤ b ∧ b < 18446744073709551616) (hd : 0 ≤ d ∧ d < 18446744073709551616) (hn : n + 20 ≤ 4000000000000000000) (hm : E.length + 20 ≤ 1000000) : Calls Tryz.prog 43 #[pg q, .int .i64 k, .int .u64 i, .int .u64 a, .int .u64 b, .int .u64 d] w (RxE B w X q (rputE E k i a b d) (n + 4) (.tuple #[])) := by
  have A := h.at
  refine gc_enter (n := 40) Tryz.func43 rfl (by kernel_rfl) (by kernel_rfl) ?_
  refine gc_seq ?_
  refine gc_reg ?_
  refine t 13 (pg q) ?_
  refine t 14 (.int .u64 d) ?_
  refine t 15 (.int .u64 i) ?_
  refine tc 16 9 #[.int .i64 14, .int .u64 d, .int .u64 i] (key9 hd (mkE14 d i)) ?_
  rintro _ v3 ⟨kv2, rfl, U1, B⟩
  refine ⟨_, rfl, ?_⟩
  replace A := A.keep B
  clear B
  refine t 17 (.int .i64 k) ?_
  refine tr 18 (.int .u64 k) (run_cv k hk) ?_
  refine tc 19 57 #[.int .u64 k] (rput_number) ?_
  rintro _ v6 ⟨pv5, rfl, U4, B⟩
  refine ⟨_, rfl, ?_⟩
  replace A := A.keep B
  replace U1 := byu_keep U1 B
  clear B
  have L8 := Pw.put_len E (Ky.mk 14 d i) (nv k)
  refine tc 20 8 #[pg q, kv2, pv5] (rxset A.rx U1 U4 (by omega) (by omega) (setE_mk (mkE14 d i) (Nat.le_trans (nv_len _) (by decide)))) ?_
  rintro _ v9 ⟨rfl, K7, S, hK, hC⟩
  refine ⟨_, rfl, ?_⟩
  replace U1 := A.byu U1 hC
  replace U4 := A.byu U4 hC
  replace A := A.op S hK hC
  clear S hK hC
  refine gl_nil ?_
  refine ge_then ?_
  refine gc_fr [(0, pg q), (1, .int .i64 k), (2, .int .u64 i), (3, .int .u64 a), (4, .int .u64 b)] (by kernel_rfl) ?_
  refine gc_seq ?_
  refine gc_reg ?_
  refine t 21 (pg q) ?_
  refine t 22 (.int .u64 b) ?_
  refine t 23 (.int .u64 i) ?_
  refine tc 24 9 #[.int .i64 15, .int .u64 b, .int .u64 i] (key9 hb (mkE15 b i)) ?_
  rintro _ v12 ⟨kv11, rfl, U10, B⟩
  refine ⟨_, rfl, ?_⟩
  replace A := A.keep B
  replace U1 := byu_keep U1 B
  replace U4 := byu_keep U4 B
  clear B
  refine t 25 (.int .i64 k) ?_
  refine tr 26 (.int .u64 k) (run_cv k hk) ?_
  refine tc 27 57 #[.int .u64 k] (rput_number) ?_
  rintro _ v15 ⟨pv14, rfl, U13, B⟩
  refine ⟨_, rfl, ?_⟩
  replace A := A.keep B
  replace U1 := byu_keep U1 B
  replace U4 := byu_keep U4 B
  replace U10 := byu_keep U10 B
  clear B
  have L17 := Pw.put_len (put E (Ky.mk 14 d i) (nv k)) (Ky.mk 15 b i) (nv k)
  refine tc 28 8 #[pg q, kv11, pv14] (rxset A.rx U10 U13 (by omega) (by omega) (setE_mk (mkE15 b i) (Nat.le_trans (nv_len _) (by decide)))) ?_
  rintro _ v18 ⟨rfl, K16, S, hK, hC⟩
  refine ⟨_, rfl, ?_⟩
  replace U1 := A.byu U1 hC
  replace U4 := A.byu U4 hC
  replace U10 := A.byu U10 hC
  replace U13 := A.byu U13 hC
  replace A := A.op S hK hC
  clear S hK hC
  refine gl_nil ?_
  refine ge_then ?_
  refine gc_seq ?_
  refine gc_reg ?_
  refine t 29 (.int .u64 a) ?_
  refine t 30 (.int .u64 b) ?_
  refine tc 31 9 #[.int .i64 17, .int .u64 a, .int .u64 b] (key9 ha (mkE17 a b)) ?_
  rintro _ v21 ⟨kv20, rfl, U19, B⟩
  refine ⟨_, rfl, ?_⟩
  replace A := A.keep B
  replace U1 := byu_keep U1 B
  replace U4 := byu_keep U4 B
  replace U10 := byu_keep U10 B
  replace U13 := byu_keep U13 B
  clear B
  refine t 12 (kv20) ?_
  refine gl_nil ?_
  refine ge_then ?_
  refine gc_fr [(0, pg q), (12, kv20)] (by kernel_rfl) ?_
  refine gc_reg ?_
  refine t 32 (pg q) ?_
  refine t 33 (kv20) ?_
  refine t 34 (pg q) ?_
  refine t 35 (kv20) ?_
  refine tc 36 56 #[pg q, kv20] (rnumber A.rx U19 (Nat.le_trans (Ky.mk_len _ _ _) (by decide)) (by omega) (by omega)) ?_
  rintro _ v23 ⟨rfl, K22, S, hK, hC⟩
  refine ⟨_, rfl, ?_⟩
  replace U1 := A.byu U1 hC
  replace U4 := A.byu U4 hC
  replace U10 := A.byu U10 hC
  replace U13 := A.byu U13 hC
  replace U19 := A.byu U19 hC
  replace A := A.op S hK hC
  clear S hK hC
  refine tq 37 (.int .u64 (IntKind.u64.wrap (numB (got (put (put E (Ky.mk 14 d i) (nv k)) (Ky.mk 15 b i) (nv k)) (Ky.mk 17 a b)) + 1))) (.int .u64 ((numB (got (put (put E (Ky.mk 14 d i) (nv k)) (Ky.mk 15 b i) (nv k)) (Ky.mk 17 a b)) + 1) % 18446744073709551616)) (congrArg (Value.int .u64) (IntKind.wrap_u64 _)) ?_
  refine tc 38 57 #[.int .u64 ((numB (got (put (put E (Ky.mk 14 d i) (nv k)) (Ky.mk 15 b i) (nv k)) (Ky.mk 17 a b)) + 1) % 18446744073709551616)] (rput_number) ?_
  rintro _ v26 ⟨pv25, rfl, U24, B⟩
  refine ⟨_, rfl, ?_⟩
  replace A := A.keep B
  replace U1 := byu_keep U1 B
  replace U4 := byu_keep U4 B
  replace U10 := byu_keep U10 B
  replace U13 := byu_keep U13 B
  replace U19 := byu_keep U19 B
  clear B
  have L28 := Pw.put_len (put (put E (Ky.mk 14 d i) (nv k)) (Ky.mk 15 b i) (nv k)) (Ky.mk 17 a b) (nv ((numB (got (put (put E (Ky.mk 14 d i) (nv k)) (Ky.mk 15 b i) (nv k)) (Ky.mk 17 a b)) + 1) % 18446744073709551616))
  refine tc 39 8 #[pg q, kv20, pv25] (rxset A.rx U19 U24 (by omega) (by omega) (setE_mk (mkE17 a b) (Nat.le_trans (nv_len _) (by decide)))) ?_
  rintro _ v29 ⟨rfl, K27, S, hK, hC⟩
  refine ⟨_, rfl, ?_⟩
  replace U1 := A.byu U1 hC
  replace U4 := A.byu U4 hC
  replace U10 := A.byu U10 hC
  replace U13 := A.byu U13 hC
  replace U19 := A.byu U19 hC
  replace U24 := A.byu U24 hC
  replace A := A.op S hK hC
  clear S hK hC
  refine gl_nil ?_
  refine ge_end (.tuple #[]) (rs0 (by kernel_rfl)) ?_
  exact ⟨rfl, _, A.rx, A.xm, A.cc⟩
theorem runbond {B : Nat} {w : World} {X : Nat → Prop} {q : Nat} {E : Ents} {n : Nat} {x0 x1 x2 x3 x4 x5 : Int} (h : Rx B w X q E n) (hco : Oct (chn E)) (hx0 : 0 ≤ x0 ∧ x0 < 18446744073709551616) (hx1 : 0 ≤ x1 ∧ x1 < 18446744073709551616) (hx3 : 0 ≤ x3 ∧ x3 < 18446744073709551616) (hn : n + 40 ≤ 4000000000000000000) (hm : E.length + 40 ≤ 1000000) : Calls Tryz.prog 12 #[pg q, .agg #[.int .u64 x0, .int .u64 x1, .int .u64 x2, .int .u64 x3, .int .u64 x4, .int .u64 x5]] w (RxE B w X q (rputE (put (nextE E) (Ky.mk 12 (nxtB (chn E)) 0) (uv x0 x1 x2 x3 x4 x5)) 12 (nxtB (chn E)) x0 x1 x3) (n + 7) (.int .u64 (nxtB (chn E)))) := by
  have hid : 0 ≤ nxtB (chn E) ∧ nxtB (chn E) < 18446744073709551616 := nxt_rng hco
  have A := h.at
  refine gc_enter (n := 24) Tryz.func12 rfl (by kernel_rfl) (by kernel_rfl) ?_
  refine gc_seq ?_
  refine gc_reg ?_
  refine ta 3 [.int .u64 x0, .int .u64 x1, .int .u64 x2, .int .u64 x3, .int .u64 x4, .int .u64 x5] 42 (pg) ?_
  intro v1 g2 Xg2 hg2 B
  have zg2 := Nat.le_trans A.size hg2
  have nXg2 := A.new hg2
  replace A := A.keep B
  clear B
  refine t 4 (.int .u64 0) ?_
  refine gl_nil ?_
  refine ge_then ?_
  refine gc_seq ?_
  refine gc_reg ?_
  refine t 6 (pg q) ?_
  have L4 := next_len E
  refine tc 7 41 #[pg q] (rnext A.rx (by omega) (by omega)) ?_
  rintro _ v5 ⟨rfl, K3, S, hK, hC⟩
  refine ⟨_, rfl, ?_⟩
  have mXg2 := not_op Xg2 nXg2 hK
  replace Xg2 := Xg2.chg hC nXg2
  replace nXg2 := mXg2
  clear mXg2
  replace A := A.op S hK hC
  clear S hK hC
  refine t 5 (.int .u64 (nxtB (chn E))) ?_
  refine gl_nil ?_
  refine ge_then ?_
  refine gc_seq ?_
  replace A := A.drew
  replace Xg2 := Xg2.drew
  refine gc_draw (fun w' => Blk w' g2 [.int .u64 x0, .int .u64 x1, .int .u64 x2, .int .u64 x3, .int .u64 x4, .int .u64 x5] 42) (fun _ => false) Xg2 ?_
  refine z 0 8 (pg q) ?_
  refine z 1 9 (.int .u64 (nxtB (chn E))) ?_
  refine zlr 3 11 [.int .u64 x0, .int .u64 x1, .int .u64 x2, .int .u64 x3, .int .u64 x4, .int .u64 x5] (fun _ h => h) 0 ?_
  refine zc 2 10 9 #[.int .i64 12, .int .u64 (nxtB (chn E)), .int .u64 0] (key9 hid (mkE12 (nxtB (chn E)))) ?_
  rintro _ v8 ⟨kv7, rfl, U6, B⟩
  replace A := A.keep B
  replace Xg2 := Xg2.keep B
  clear B
  refine ⟨_, rfl, Xg2, ?_⟩
  refine zc 4 12 42 #[.agg #[.int .u64 x0, .int .u64 x1, .int .u64 x2, .int .u64 x3, .int .u64 x4, .int .u64 x5]] (rput_unbonding) ?_
  rintro _ v11 ⟨pv10, rfl, U9, B⟩
  replace A := A.keep B
  replace Xg2 := Xg2.keep B
  replace U6 := byu_keep U6 B
  clear B
  refine ⟨_, rfl, Xg2, ?_⟩
  have L13 := Pw.put_len (nextE E) (Ky.mk 12 (nxtB (chn E)) 0) (uv x0 x1 x2 x3 x4 x5)
  refine zc 5 13 8 #[pg q, kv7, pv10] (rxset A.rx U6 U9 (by omega) (by omega) (setE_mk (mkE12 (nxtB (chn E))) (Nat.le_trans (uv_len ..) (by decide)))) ?_
  rintro _ v14 ⟨rfl, K12, S, hK, hC⟩
  have mXg2 := not_op Xg2 nXg2 hK
  replace Xg2 := Xg2.chg hC nXg2
  replace nXg2 := mXg2
  clear mXg2
  replace U6 := A.byu U6 hC
  replace U9 := A.byu U9 hC
  replace A := A.op S hK hC
  clear S hK hC
  refine ⟨_, rfl, Xg2, ?_⟩
  refine gz_done ?_
  refine ge_then ?_
  refine gc_fr [(0, pg q), (3, pg g2), (4, .int .u64 0), (5, .int .u64 (nxtB (chn E)))] (by kernel_rfl) ?_
  refine gc_seq ?_
  refine gc_reg ?_
  refine t 14 (pg q) ?_
  refine t 15 (.int .u64 (nxtB (chn E))) ?_
  refine t 16 (pg g2) ?_
  refine tl 17 (.int .u64 x0) Xg2 0 ?_
  refine t 18 (pq g2 1) ?_
  refine tl 19 (.int .u64 x1) Xg2 1 ?_
  refine t 20 (pq g2 3) ?_
  refine tl 21 (.int .u64 x3) Xg2 3 ?_
  refine tc 22 43 #[pg q, .int .i64 12, .int .u64 (nxtB (chn E)), .int .u64 x0, .int .u64 x1, .int .u64 x3] (rput12 A.rx ⟨by decide, by decide⟩ hx0 hx1 hx3 (by omega) (by omega)) ?_
  rintro _ v16 ⟨rfl, K15, S, hK, hC⟩
  refine ⟨_, rfl, ?_⟩
  have mXg2 := not_op Xg2 nXg2 hK
  replace Xg2 := Xg2.chg hC nXg2
  replace nXg2 := mXg2
  clear mXg2
  replace U6 := A.byu U6 hC
  replace U9 := A.byu U9 hC
  replace A := A.op S hK hC
  clear S hK hC
  refine gl_nil ?_
  refine ge_then ?_
  refine gc_seq ?_
  refine gc_reg ?_
  refine t 23 (.int .u64 (nxtB (chn E))) ?_
  refine t 4 (.int .u64 (nxtB (chn E))) ?_
  refine gl_nil ?_
  refine ge_then ?_
  refine gc_ret ?_
  refine ge_ret (.int .u64 (nxtB (chn E))) (rs1 4 (by kernel_rfl) (by kernel_rfl)) ?_
  exact ⟨rfl, _, A.rx, A.xm, A.cc⟩
theorem runbonding {B : Nat} {w : World} {X : Nat → Prop} {q : Nat} {E : Ents} {n : Nat} {id : Int} (h : Rx B w X q E n) (hid : 0 ≤ id ∧ id < 18446744073709551616) (hn : n + 4 ≤ 4000000000000000000) (hm : E.length + 4 ≤ 1000000) : Calls Tryz.prog 49 #[pg q, .int .u64 id] w (RxE B w X q E (n + 1) (.tuple #[.agg (uA (got E (Ky.mk 12 id 0))), .bool (Kv.look E (Ky.mk 12 id 0)).isSome])) := by
  have A := h.at
  refine gc_enter (n := 26) Tryz.func49 rfl (by kernel_rfl) (by kernel_rfl) ?_
  refine gc_seq ?_
  refine gc_reg ?_
  refine ta 4 [.int .u64 0, .int .u64 0, .int .u64 0, .int .u64 0, .int .u64 0, .int .u64 0] 42 (pg) ?_
  intro v1 g2 Xg2 hg2 B
  have zg2 := Nat.le_trans A.size hg2
  have nXg2 := A.new hg2
  replace A := A.keep B
  clear B
  refine t 5 (.bool false) ?_
  refine gl_nil ?_
  refine ge_then ?_
  refine gc_seq ?_
  refine gc_reg ?_
  refine t 11 (pg q) ?_
  refine t 12 (.int .u64 id) ?_
  refine tc 13 9 #[.int .i64 12, .int .u64 id, .int .u64 0] (key9 hid (mkE12 id)) ?_
  rintro _ v5 ⟨kv4, rfl, U3, B⟩
  refine ⟨_, rfl, ?_⟩
  replace A := A.keep B
  replace Xg2 := Xg2.keep B
  clear B
  by_cases c6 : (Kv.look E (Ky.mk 12 id 0)).isSome = true
  · refine tc 14 98 #[pg q, kv4] (rxget A.rx U3 (Nat.le_trans (Ky.mk_len _ _ _) (by decide)) (by omega) (by omega) c6) ?_
    rintro _ v10 ⟨gv7, rfl, U8, K9, S, hK, hC⟩
    refine ⟨_, rfl, ?_⟩
    have mXg2 := not_op Xg2 nXg2 hK
    replace Xg2 := Xg2.chg hC nXg2
    replace nXg2 := mXg2
    clear mXg2
    replace U3 := A.byu U3 hC
    replace A := A.op S hK hC
    clear S hK hC
    refine t 10 (.tuple #[gv7, .bool true]) ?_
    refine t 15 (gv7) ?_
    refine t 16 (.bool true) ?_
    refine t 6 (gv7) ?_
    refine t 7 (.bool true) ?_
    refine gl_nil ?_
    refine ge_then ?_
    refine gc_fr [(4, pg g2), (5, .bool false), (6, gv7), (7, .bool true)] (by kernel_rfl) ?_
    refine gc_seq ?_
    refine gc_seq ?_
    refine gc_reg ?_
    refine t 17 (.bool true) ?_
    refine t 18 (.bool false) ?_
    refine gl_nil ?_
    refine ge_then ?_
    refine gc_no ?_
    refine gc_skip ?_
    refine ge_then ?_
    refine gc_seq ?_
    refine gc_reg ?_
    refine t 21 (gv7) ?_
    refine tc 22 105 #[gv7] (runbonding_rd U8) ?_
    rintro _ v11 ⟨rfl, B⟩
    refine ⟨_, rfl, ?_⟩
    replace A := A.keep B
    replace Xg2 := Xg2.keep B
    replace U3 := byu_keep U3 B
    replace U8 := byu_keep U8 B
    clear B
    clear U8
    refine t 20 (.tuple #[.agg (uA (got E (Ky.mk 12 id 0))), .int .i64 (Rc.outR (Rc.stUnbonding (got E (Ky.mk 12 id 0))))]) ?_
    refine t 23 (.agg (uA (got E (Ky.mk 12 id 0)))) ?_
    refine t 24 (.int .i64 (Rc.outR (Rc.stUnbonding (got E (Ky.mk 12 id 0))))) ?_
    have lXg2 := Xg2.lt
    refine ta 8 [.int .u64 0, .int .u64 0, .int .u64 0, .int .u64 0, .int .u64 0, .int .u64 0] 42 (pg) ?_
    intro v12 g13 Xg13 hg13 B
    have zg13 := Nat.le_trans A.size hg13
    have nXg13 := A.new hg13
    replace A := A.keep B
    replace Xg2 := Xg2.keep B
    replace U3 := byu_keep U3 B
    clear B
    refine ts Xg13 0 (.agg (uA (got E (Ky.mk 12 id 0)))) (uL (got E (Ky.mk 12 id 0))) (uL (got E (Ky.mk 12 id 0))) ?_
    intro v14 Y C
    replace A := Ar.cell A Xg13 C zg13 nXg13 (by decide)
    replace Xg2 := Xg2.chg C (show g2 ≠ g13 by omega)
    replace U3 := byu_cell U3 Xg13 C (by decide)
    clear C Xg13
    have Xg13 := Y
    clear Y
    refine t 9 (.int .i64 (Rc.outR (Rc.stUnbonding (got E (Ky.mk 12 id 0))))) ?_
    refine gl_nil ?_
    refine ge_then ?_
    refine gc_seq ?_
    refine gc_reg ?_
    refine tlr 25 (uL (got E (Ky.mk 12 id 0))) Xg13 0 ?_
    refine ts Xg2 0 (.agg (uA (got E (Ky.mk 12 id 0)))) (uL (got E (Ky.mk 12 id 0))) (uL (got E (Ky.mk 12 id 0))) ?_
    intro v15 Y C
    replace A := Ar.cell A Xg2 C zg2 nXg2 (by decide)
    replace U3 := byu_cell U3 Xg2 C (by decide)
    replace Xg13 := Xg13.chg C (show g13 ≠ g2 by omega)
    clear C Xg2
    have Xg2 := Y
    clear Y
    refine t 5 (.bool true) ?_
    refine gl_nil ?_
    refine ge_then ?_
    refine gc_ret ?_
    refine ge_ret (.tuple #[.agg (uA (got E (Ky.mk 12 id 0))), .bool true]) (rsct 4 5 (T := 42) (by kernel_rfl) (by kernel_rfl) (by kernel_rfl) (lr Xg2 0)) ?_
    rw [c6]
    exact ⟨rfl, _, A.rx, A.xm, A.cc⟩
  · refine tc 14 98 #[pg q, kv4] (rxget A.rx U3 (Nat.le_trans (Ky.mk_len _ _ _) (by decide)) (by omega) (by omega) (Bool.eq_false_iff.2 c6)) ?_
    rintro _ v19 ⟨gv16, rfl, U17, K18, S, hK, hC⟩
    refine ⟨_, rfl, ?_⟩
    have mXg2 := not_op Xg2 nXg2 hK
    replace Xg2 := Xg2.chg hC nXg2
    replace nXg2 := mXg2
    clear mXg2
    replace U3 := A.byu U3 hC
    replace A := A.op S hK hC
    clear S hK hC
    refine t 10 (.tuple #[gv16, .bool false]) ?_
    refine t 15 (gv16) ?_
    refine t 16 (.bool false) ?_
    refine t 6 (gv16) ?_
    refine t 7 (.bool false) ?_
    refine gl_nil ?_
    refine ge_then ?_
    refine gc_fr [(4, pg g2), (5, .bool false), (6, gv16), (7, .bool false)] (by kernel_rfl) ?_
    refine gc_seq ?_
    refine gc_seq ?_
    refine gc_reg ?_
    refine t 17 (.bool false) ?_
    refine t 18 (.bool true) ?_
    refine gl_nil ?_
    refine ge_then ?_
    refine gc_yes ?_
    refine gc_seq ?_
    refine gc_reg ?_
    refine t 19 (.agg #[.int .u64 0, .int .u64 0, .int .u64 0, .int .u64 0, .int .u64 0, .int .u64 0]) ?_
    refine ts Xg2 0 (.agg #[.int .u64 0, .int .u64 0, .int .u64 0, .int .u64 0, .int .u64 0, .int .u64 0]) [.int .u64 0, .int .u64 0, .int .u64 0, .int .u64 0, .int .u64 0, .int .u64 0] [.int .u64 0, .int .u64 0, .int .u64 0, .int .u64 0, .int .u64 0, .int .u64 0] ?_
    intro v20 Y C
    replace A := Ar.cell A Xg2 C zg2 nXg2 (by decide)
    replace U3 := byu_cell U3 Xg2 C (by decide)
    replace U17 := byu_cell U17 Xg2 C (by decide)
    clear C Xg2
    have Xg2 := Y
    clear Y
    refine t 5 (.bool false) ?_
    refine gl_nil ?_
    refine ge_then ?_
    refine gc_ret ?_
    refine ge_tr ?_
    refine ge_ret (.tuple #[.agg #[.int .u64 0, .int .u64 0, .int .u64 0, .int .u64 0, .int .u64 0, .int .u64 0], .bool false]) (rsct 4 5 (T := 42) (by kernel_rfl) (by kernel_rfl) (by kernel_rfl) (lr Xg2 0)) ?_
    have e0 : got E (Ky.mk 12 id 0) = [] := got_none c6
    rw [e0, uA_nil, Bool.eq_false_iff.2 c6]
    exact ⟨rfl, _, A.rx, A.xm, A.cc⟩
theorem runbondingb {B : Nat} {w : World} {X : Nat → Prop} {q : Nat} {E : Ents} {n : Nat} {id : Int} {b : Bool} (h : Rx B w X q E n) (hid : 0 ≤ id ∧ id < 18446744073709551616) (hn : n + 4 ≤ 4000000000000000000) (hm : E.length + 4 ≤ 1000000) (hb : (Kv.look E (Ky.mk 12 id 0)).isSome = b) : Calls Tryz.prog 49 #[pg q, .int .u64 id] w (RxE B w X q E (n + 1) (.tuple #[.agg (uA (got E (Ky.mk 12 id 0))), .bool b])) := by
  subst hb
  exact runbonding h hid hn hm
theorem rless {B : Nat} {w : World} {X : Nat → Prop} {q : Nat} {E : Ents} {n : Nat} {id y : Int} (h : Rx B w X q E n) (hid : 0 ≤ id ∧ id < 18446744073709551616) (hn : n + 10 ≤ 4000000000000000000) (hm : E.length + 10 ≤ 1000000) : Calls Tryz.prog 16 #[pg q, .int .u64 id, .int .u64 y] w (RxF B w X q (lessU E id y) n 10 (.bool (Kv.look E (Ky.mk 12 id 0)).isSome)) := by
  have A := h.at
  refine gc_enter (n := 25) Tryz.func16 rfl (by kernel_rfl) (by kernel_rfl) ?_
  refine gc_seq ?_
  refine gc_reg ?_
  refine t 6 (.bool false) ?_
  refine gl_nil ?_
  refine ge_then ?_
  refine gc_seq ?_
  refine gc_reg ?_
  refine t 10 (pg q) ?_
  refine t 11 (.int .u64 id) ?_
  by_cases c1 : (Kv.look E (Ky.mk 12 id 0)).isSome = true
  · refine tc 12 49 #[pg q, .int .u64 id] (runbondingb A.rx hid (by omega) (by omega) c1) ?_
    rintro _ v3 ⟨rfl, K2, S, hK, hC⟩
    refine ⟨_, rfl, ?_⟩
    replace A := A.op S hK hC
    clear S hK hC
    refine t 9 (.tuple #[.agg (uA (got E (Ky.mk 12 id 0))), .bool true]) ?_
    refine t 13 (.agg (uA (got E (Ky.mk 12 id 0)))) ?_
    refine t 14 (.bool true) ?_
    refine ta 7 [.int .u64 0, .int .u64 0, .int .u64 0, .int .u64 0, .int .u64 0, .int .u64 0] 42 (pg) ?_
    intro v4 g5 Xg5 hg5 B
    have zg5 := Nat.le_trans A.size hg5
    have nXg5 := A.new hg5
    replace A := A.keep B
    clear B
    refine ts Xg5 0 (.agg (uA (got E (Ky.mk 12 id 0)))) (uL (got E (Ky.mk 12 id 0))) (uL (got E (Ky.mk 12 id 0))) ?_
    intro v6 Y C
    replace A := Ar.cell A Xg5 C zg5 nXg5 (by decide)
    clear C Xg5
    have Xg5 := Y
    clear Y
    refine t 8 (.bool true) ?_
    refine gl_nil ?_
    refine ge_then ?_
    refine gc_fr [(0, pg q), (1, .int .u64 id), (2, .int .u64 y), (6, .bool false), (7, pg g5), (8, .bool true)] (by kernel_rfl) ?_
    refine gc_seq ?_
    refine gc_seq ?_
    refine gc_reg ?_
    refine t 15 (.bool true) ?_
    refine gl_nil ?_
    refine ge_then ?_
    refine gc_yes ?_
    refine gc_seq ?_
    refine gc_reg ?_
    refine t 16 (.int .u64 y) ?_
    refine t 17 (pq g5 5) ?_
    refine ts Xg5 5 (.int .u64 y) [.int .u64 y] [.int .u64 (uX (got E (Ky.mk 12 id 0)) 0), .int .u64 (uX (got E (Ky.mk 12 id 0)) 1), .int .u64 (uX (got E (Ky.mk 12 id 0)) 2), .int .u64 (uX (got E (Ky.mk 12 id 0)) 3), .int .u64 (uX (got E (Ky.mk 12 id 0)) 4), .int .u64 y] ?_
    intro v7 Y C
    replace A := Ar.cell A Xg5 C zg5 nXg5 (by decide)
    clear C Xg5
    have Xg5 := Y
    clear Y
    refine gl_nil ?_
    refine ge_then ?_
    replace A := A.drew
    replace Xg5 := Xg5.drew
    refine gc_draw (fun w' => Blk w' g5 [.int .u64 (uX (got E (Ky.mk 12 id 0)) 0), .int .u64 (uX (got E (Ky.mk 12 id 0)) 1), .int .u64 (uX (got E (Ky.mk 12 id 0)) 2), .int .u64 (uX (got E (Ky.mk 12 id 0)) 3), .int .u64 (uX (got E (Ky.mk 12 id 0)) 4), .int .u64 y] 42) (fun _ => false) Xg5 ?_
    refine z 0 18 (pg q) ?_
    refine z 1 19 (.int .u64 id) ?_
    refine zlr 3 21 [.int .u64 (uX (got E (Ky.mk 12 id 0)) 0), .int .u64 (uX (got E (Ky.mk 12 id 0)) 1), .int .u64 (uX (got E (Ky.mk 12 id 0)) 2), .int .u64 (uX (got E (Ky.mk 12 id 0)) 3), .int .u64 (uX (got E (Ky.mk 12 id 0)) 4), .int .u64 y] (fun _ h => h) 0 ?_
    refine zc 2 20 9 #[.int .i64 12, .int .u64 id, .int .u64 0] (key9 hid (mkE12 id)) ?_
    rintro _ v10 ⟨kv9, rfl, U8, B⟩
    replace A := A.keep B
    replace Xg5 := Xg5.keep B
    clear B
    refine ⟨_, rfl, Xg5, ?_⟩
    refine zc 4 22 42 #[.agg #[.int .u64 (uX (got E (Ky.mk 12 id 0)) 0), .int .u64 (uX (got E (Ky.mk 12 id 0)) 1), .int .u64 (uX (got E (Ky.mk 12 id 0)) 2), .int .u64 (uX (got E (Ky.mk 12 id 0)) 3), .int .u64 (uX (got E (Ky.mk 12 id 0)) 4), .int .u64 y]] (rput_unbonding) ?_
    rintro _ v13 ⟨pv12, rfl, U11, B⟩
    replace A := A.keep B
    replace Xg5 := Xg5.keep B
    replace U8 := byu_keep U8 B
    clear B
    refine ⟨_, rfl, Xg5, ?_⟩
    have L15 := Pw.put_len E (Ky.mk 12 id 0) (uv (uX (got E (Ky.mk 12 id 0)) 0) (uX (got E (Ky.mk 12 id 0)) 1) (uX (got E (Ky.mk 12 id 0)) 2) (uX (got E (Ky.mk 12 id 0)) 3) (uX (got E (Ky.mk 12 id 0)) 4) y)
    refine zc 5 23 8 #[pg q, kv9, pv12] (rxset A.rx U8 U11 (by omega) (by omega) (setE_mk (mkE12 id) (Nat.le_trans (uv_len ..) (by decide)))) ?_
    rintro _ v16 ⟨rfl, K14, S, hK, hC⟩
    have mXg5 := not_op Xg5 nXg5 hK
    replace Xg5 := Xg5.chg hC nXg5
    replace nXg5 := mXg5
    clear mXg5
    replace U8 := A.byu U8 hC
    replace U11 := A.byu U11 hC
    replace A := A.op S hK hC
    clear S hK hC
    refine ⟨_, rfl, Xg5, ?_⟩
    refine gz_done ?_
    refine ge_then ?_
    refine gc_seq ?_
    refine gc_reg ?_
    refine t 24 (.bool true) ?_
    refine t 6 (.bool true) ?_
    refine gl_nil ?_
    refine ge_then ?_
    refine gc_ret ?_
    refine ge_ret (.bool true) (rs1 6 (by kernel_rfl) (by kernel_rfl)) ?_
    rw [show lessU E id y = _ from if_pos c1, show (Kv.look E (Ky.mk 12 id 0)).isSome = true from c1]
    exact ⟨rfl, _, _, A.rx, by omega, A.xm, A.cc⟩
  · refine tc 12 49 #[pg q, .int .u64 id] (runbondingb A.rx hid (by omega) (by omega) (Bool.eq_false_iff.2 c1)) ?_
    rintro _ v18 ⟨rfl, K17, S, hK, hC⟩
    refine ⟨_, rfl, ?_⟩
    replace A := A.op S hK hC
    clear S hK hC
    refine t 9 (.tuple #[.agg (uA (got E (Ky.mk 12 id 0))), .bool false]) ?_
    refine t 13 (.agg (uA (got E (Ky.mk 12 id 0)))) ?_
    refine t 14 (.bool false) ?_
    refine ta 7 [.int .u64 0, .int .u64 0, .int .u64 0, .int .u64 0, .int .u64 0, .int .u64 0] 42 (pg) ?_
    intro v19 g20 Xg20 hg20 B
    have zg20 := Nat.le_trans A.size hg20
    have nXg20 := A.new hg20
    replace A := A.keep B
    clear B
    refine ts Xg20 0 (.agg (uA (got E (Ky.mk 12 id 0)))) (uL (got E (Ky.mk 12 id 0))) (uL (got E (Ky.mk 12 id 0))) ?_
    intro v21 Y C
    replace A := Ar.cell A Xg20 C zg20 nXg20 (by decide)
    clear C Xg20
    have Xg20 := Y
    clear Y
    refine t 8 (.bool false) ?_
    refine gl_nil ?_
    refine ge_then ?_
    refine gc_fr [(0, pg q), (1, .int .u64 id), (2, .int .u64 y), (6, .bool false), (7, pg g20), (8, .bool false)] (by kernel_rfl) ?_
    refine gc_seq ?_
    refine gc_seq ?_
    refine gc_reg ?_
    refine t 15 (.bool false) ?_
    refine gl_nil ?_
    refine ge_then ?_
    refine gc_no ?_
    refine gc_skip ?_
    refine ge_then ?_
    refine gc_seq ?_
    refine gc_reg ?_
    refine t 24 (.bool false) ?_
    refine t 6 (.bool false) ?_
    refine gl_nil ?_
    refine ge_then ?_
    refine gc_ret ?_
    refine ge_ret (.bool false) (rs1 6 (by kernel_rfl) (by kernel_rfl)) ?_
    rw [show lessU E id y = _ from if_neg c1, show (Kv.look E (Ky.mk 12 id 0)).isSome = false from Bool.eq_false_iff.2 c1]
    exact ⟨rfl, _, _, A.rx, by omega, A.xm, A.cc⟩
end Qu
end Go.Proofs.YtidnifmehnjipaaGreat

namespace Go.Proofs.YtidnifmehnjipaaGreat
namespace Qu
open Go.RowKit Go.Lib Pg Lim Gl Kv Bk Pw
attribute [local go_sem] Oper.semAt_some
set_option maxRecDepth 100000
set_option linter.unusedVariables false
set_option linter.unusedSimpArgs false
set_option maxHeartbeats 2000000
theorem nq_nil (w : World) (K : Nat → Prop) : Nq w K 0 none 0 0 0 := ⟨.inl rfl, .inl rfl, fun w' _ => natO_nil w'⟩
theorem mX_nil : (mX [] 0 = 0 ∧ mX [] 1 = 0 ∧ mX [] 2 = 0) ∧ (mX [] 3 = 0 ∧ mX [] 4 = 0 ∧ mX [] 5 = 0) ∧ mX [] 6 = 0 := by decide
theorem mA_nil (v : Value) : mA [] v = #[.int .u64 0, .int .u64 0, .int .u64 0, .int .u64 0, .int .u64 0, .int .u64 0, v] := by kernel_rfl
theorem rput_move {w : World} {x0 x1 x2 x3 x4 x5 x6 : Int} {a6 : Option Addr} {n6 c6 : Nat} (h6 : NatA w a6 n6 c6 x6) (m6 : n6 ≤ 3000) : Calls Tryz.prog 46 #[.agg #[.int .u64 x0, .int .u64 x1, .int .u64 x2, .int .u64 x3, .int .u64 x4, .int .u64 x5, .slice a6 n6 c6]] w fun e w' => ∃ v, e = .returned v ∧ ByU w' v (mv x0 x1 x2 x3 x4 x5 x6) ∧ Below w.heap.size w w' := by
  refine (Rc.rPutMove h6 m6).mono ?_
  rintro e w' ⟨v, rfl, M, B⟩
  exact ⟨v, rfl, mineU M (mv_oct _ _ _ _ _ _ _), B⟩
theorem rmove_rd {w : World} {v : Value} {l : List Int} (h : ByU w v l) : Calls Tryz.prog 106 #[v] w fun e w' => ∃ a6 n6 c6, e = .returned (.tuple #[.agg (mA l (.slice a6 n6 c6)), .int .i64 (Rc.outR (Rc.stMove l))]) ∧ (Rc.NatW w' w.heap.size a6 n6 c6 (mX l 6) ∧ n6 ≤ 510) ∧ Below w.heap.size w w' := by
  obtain ⟨b, ao, c, rfl, h2⟩ := bya h.byt
  exact Rc.rMove h2
structure FndR (B : Nat) (w : World) (X : Nat → Prop) (q : Nat) (E : Ents) (n : Nat) (L : List Int) (b : Bool) (e : Ending) (w' : World) : Prop where
  ex : ∃ a6 n6 c6, e = .returned (.tuple #[.agg (mA L (.slice a6 n6 c6)), .bool b]) ∧ ∃ z6 X', Rx B w' X' q E n ∧ (∀ b, X' b → X b ∨ w.heap.size ≤ b) ∧ Chg X w w' ∧ Nq w' X' z6 a6 n6 c6 (mX L 6) ∧ n6 ≤ 510 ∧ (n6 = 0 ∨ w.heap.size ≤ z6)
theorem rmoving {B : Nat} {w : World} {X : Nat → Prop} {q : Nat} {E : Ents} {n : Nat} {id : Int} (h : Rx B w X q E n) (hid : 0 ≤ id ∧ id < 18446744073709551616) (hn : n + 4 ≤ 4000000000000000000) (hm : E.length + 4 ≤ 1000000) : Calls Tryz.prog 52 #[pg q, .int .u64 id] w (FndR B w X q E (n + 1) (got E (Ky.mk 13 id 0)) (Kv.look E (Ky.mk 13 id 0)).isSome) := by
  have A := h.at
  refine gc_enter (n := 26) Tryz.func52 rfl (by kernel_rfl) (by kernel_rfl) ?_
  refine gc_seq ?_
  refine gc_reg ?_
  refine ta 4 [.int .u64 0, .int .u64 0, .int .u64 0, .int .u64 0, .int .u64 0, .int .u64 0, .slice none 0 0] 48 (pg) ?_
  intro v1 g2 Xg2 hg2 B
  have zg2 := Nat.le_trans A.size hg2
  have nXg2 := A.new hg2
  replace A := A.keep B
  clear B
  refine t 5 (.bool false) ?_
  refine gl_nil ?_
  refine ge_then ?_
  refine gc_seq ?_
  refine gc_reg ?_
  refine t 11 (pg q) ?_
  refine t 12 (.int .u64 id) ?_
  refine tc 13 9 #[.int .i64 13, .int .u64 id, .int .u64 0] (key9 hid (mkE13 id)) ?_
  rintro _ v5 ⟨kv4, rfl, U3, B⟩
  refine ⟨_, rfl, ?_⟩
  replace A := A.keep B
  replace Xg2 := Xg2.keep B
  clear B
  by_cases c6 : (Kv.look E (Ky.mk 13 id 0)).isSome = true
  · refine tc 14 98 #[pg q, kv4] (rxget A.rx U3 (Nat.le_trans (Ky.mk_len _ _ _) (by decide)) (by omega) (by omega) c6) ?_
    rintro _ v10 ⟨gv7, rfl, U8, K9, S, hK, hC⟩
    refine ⟨_, rfl, ?_⟩
    have mXg2 := not_op Xg2 nXg2 hK
    replace Xg2 := Xg2.chg hC nXg2
    replace nXg2 := mXg2
    clear mXg2
    replace U3 := A.byu U3 hC
    replace A := A.op S hK hC
    clear S hK hC
    refine t 10 (.tuple #[gv7, .bool true]) ?_
    refine t 15 (gv7) ?_
    refine t 16 (.bool true) ?_
    refine t 6 (gv7) ?_
    refine t 7 (.bool true) ?_
    refine gl_nil ?_
    refine ge_then ?_
    refine gc_fr [(4, pg g2), (5, .bool false), (6, gv7), (7, .bool true)] (by kernel_rfl) ?_
    refine gc_seq ?_
    refine gc_seq ?_
    refine gc_reg ?_
    refine t 17 (.bool true) ?_
    refine t 18 (.bool false) ?_
    refine gl_nil ?_
    refine ge_then ?_
    refine gc_no ?_
    refine gc_skip ?_
    refine ge_then ?_
    refine gc_seq ?_
    refine gc_reg ?_
    refine t 21 (gv7) ?_
    refine tc 22 106 #[gv7] (rmove_rd U8) ?_
    rintro _ v12 ⟨ar11, nr11, cr11, rfl, ⟨NW, mr11⟩, B⟩
    refine ⟨_, rfl, ?_⟩
    have kXg2r11 := Xg2.lt
    have sr11 := A.size
    obtain ⟨zr11, hzr11, Qr11⟩ := natW_nq NW (fun b hb => A.rx.lt hb)
    clear NW
    replace A := A.keep B
    replace Xg2 := Xg2.keep B
    replace U3 := byu_keep U3 B
    replace U8 := byu_keep U8 B
    clear B
    clear U8
    refine t 20 (.tuple #[.agg (mA (got E (Ky.mk 13 id 0)) (.slice ar11 nr11 cr11)), .int .i64 (Rc.outR (Rc.stMove (got E (Ky.mk 13 id 0))))]) ?_
    refine t 23 (.agg (mA (got E (Ky.mk 13 id 0)) (.slice ar11 nr11 cr11))) ?_
    refine t 24 (.int .i64 (Rc.outR (Rc.stMove (got E (Ky.mk 13 id 0))))) ?_
    have lXg2 := Xg2.lt
    have lQr11 := Qr11.lt
    refine ta 8 [.int .u64 0, .int .u64 0, .int .u64 0, .int .u64 0, .int .u64 0, .int .u64 0, .slice none 0 0] 48 (pg) ?_
    intro v13 g14 Xg14 hg14 B
    have zg14 := Nat.le_trans A.size hg14
    have nXg14 := A.new hg14
    replace A := A.keep B
    replace Xg2 := Xg2.keep B
    replace U3 := byu_keep U3 B
    replace Qr11 := Qr11.keep B
    clear B
    refine ts Xg14 0 (.agg (mA (got E (Ky.mk 13 id 0)) (.slice ar11 nr11 cr11))) (mL (got E (Ky.mk 13 id 0)) (.slice ar11 nr11 cr11)) (mL (got E (Ky.mk 13 id 0)) (.slice ar11 nr11 cr11)) ?_
    intro v15 Y C
    replace A := Ar.cell A Xg14 C zg14 nXg14 (by decide)
    replace Xg2 := Xg2.chg C (show g2 ≠ g14 by omega)
    replace U3 := byu_cell U3 Xg14 C (by decide)
    replace Qr11 := Qr11.cell C (show nr11 = 0 ∨ zr11 ≠ g14 by omega)
    clear C Xg14
    have Xg14 := Y
    clear Y
    refine t 9 (.int .i64 (Rc.outR (Rc.stMove (got E (Ky.mk 13 id 0))))) ?_
    refine gl_nil ?_
    refine ge_then ?_
    refine gc_seq ?_
    refine gc_reg ?_
    refine tlr 25 (mL (got E (Ky.mk 13 id 0)) (.slice ar11 nr11 cr11)) Xg14 0 ?_
    refine ts Xg2 0 (.agg (mA (got E (Ky.mk 13 id 0)) (.slice ar11 nr11 cr11))) (mL (got E (Ky.mk 13 id 0)) (.slice ar11 nr11 cr11)) (mL (got E (Ky.mk 13 id 0)) (.slice ar11 nr11 cr11)) ?_
    intro v16 Y C
    replace A := Ar.cell A Xg2 C zg2 nXg2 (by decide)
    replace U3 := byu_cell U3 Xg2 C (by decide)
    replace Qr11 := Qr11.cell C (show nr11 = 0 ∨ zr11 ≠ g2 by omega)
    replace Xg14 := Xg14.chg C (show g14 ≠ g2 by omega)
    clear C Xg2
    have Xg2 := Y
    clear Y
    refine t 5 (.bool true) ?_
    refine gl_nil ?_
    refine ge_then ?_
    refine gc_ret ?_
    refine ge_ret (.tuple #[.agg (mA (got E (Ky.mk 13 id 0)) (.slice ar11 nr11 cr11)), .bool true]) (rsct 4 5 (T := 48) (by kernel_rfl) (by kernel_rfl) (by kernel_rfl) (lr Xg2 0)) ?_
    rw [c6]
    exact ⟨_, _, _, rfl, _, _, A.rx, A.xm, A.cc, Qr11, mr11, by omega⟩
  · refine tc 14 98 #[pg q, kv4] (rxget A.rx U3 (Nat.le_trans (Ky.mk_len _ _ _) (by decide)) (by omega) (by omega) (Bool.eq_false_iff.2 c6)) ?_
    rintro _ v20 ⟨gv17, rfl, U18, K19, S, hK, hC⟩
    refine ⟨_, rfl, ?_⟩
    have mXg2 := not_op Xg2 nXg2 hK
    replace Xg2 := Xg2.chg hC nXg2
    replace nXg2 := mXg2
    clear mXg2
    replace U3 := A.byu U3 hC
    replace A := A.op S hK hC
    clear S hK hC
    refine t 10 (.tuple #[gv17, .bool false]) ?_
    refine t 15 (gv17) ?_
    refine t 16 (.bool false) ?_
    refine t 6 (gv17) ?_
    refine t 7 (.bool false) ?_
    refine gl_nil ?_
    refine ge_then ?_
    refine gc_fr [(4, pg g2), (5, .bool false), (6, gv17), (7, .bool false)] (by kernel_rfl) ?_
    refine gc_seq ?_
    refine gc_seq ?_
    refine gc_reg ?_
    refine t 17 (.bool false) ?_
    refine t 18 (.bool true) ?_
    refine gl_nil ?_
    refine ge_then ?_
    refine gc_yes ?_
    refine gc_seq ?_
    refine gc_reg ?_
    refine t 19 (.agg #[.int .u64 0, .int .u64 0, .int .u64 0, .int .u64 0, .int .u64 0, .int .u64 0, .slice none 0 0]) ?_
    refine ts Xg2 0 (.agg #[.int .u64 0, .int .u64 0, .int .u64 0, .int .u64 0, .int .u64 0, .int .u64 0, .slice none 0 0]) [.int .u64 0, .int .u64 0, .int .u64 0, .int .u64 0, .int .u64 0, .int .u64 0, .slice none 0 0] [.int .u64 0, .int .u64 0, .int .u64 0, .int .u64 0, .int .u64 0, .int .u64 0, .slice none 0 0] ?_
    intro v21 Y C
    replace A := Ar.cell A Xg2 C zg2 nXg2 (by decide)
    replace U3 := byu_cell U3 Xg2 C (by decide)
    replace U18 := byu_cell U18 Xg2 C (by decide)
    clear C Xg2
    have Xg2 := Y
    clear Y
    refine t 5 (.bool false) ?_
    refine gl_nil ?_
    refine ge_then ?_
    refine gc_ret ?_
    refine ge_tr ?_
    refine ge_ret (.tuple #[.agg #[.int .u64 0, .int .u64 0, .int .u64 0, .int .u64 0, .int .u64 0, .int .u64 0, .slice none 0 0], .bool false]) (rsct 4 5 (T := 48) (by kernel_rfl) (by kernel_rfl) (by kernel_rfl) (lr Xg2 0)) ?_
    have e0 : got E (Ky.mk 13 id 0) = [] := got_none c6
    rw [e0, Bool.eq_false_iff.2 c6]
    exact ⟨_, _, _, (by rw [mA_nil]), 0, _, A.rx, A.xm, A.cc, (by rw [mX_nil.2.2]; exact nq_nil _ _), by decide, .inl rfl⟩
theorem rmove {B : Nat} {w : World} {X : Nat → Prop} {q : Nat} {E : Ents} {n : Nat} {x0 x1 x2 x3 x4 x5 x6 : Int} {a6 : Option Addr} {n6 c6 z6 : Nat} (h : Rx B w X q E n) (hco : Oct (chn E)) (hx0 : 0 ≤ x0 ∧ x0 < 18446744073709551616) (hx1 : 0 ≤ x1 ∧ x1 < 18446744073709551616) (hx4 : 0 ≤ x4 ∧ x4 < 18446744073709551616) (Q6 : Nk w X z6 a6 n6 c6 x6) (m6 : n6 ≤ 3000) (hn : n + 40 ≤ 4000000000000000000) (hm : E.length + 40 ≤ 1000000) : Calls Tryz.prog 14 #[pg q, .agg #[.int .u64 x0, .int .u64 x1, .int .u64 x2, .int .u64 x3, .int .u64 x4, .int .u64 x5, .slice a6 n6 c6]] w (RxE B w X q (rputE (put (nextE E) (Ky.mk 13 (nxtB (chn E)) 0) (mv x0 x1 x2 x3 x4 x5 x6)) 13 (nxtB (chn E)) x0 x1 x4) (n + 7) (.int .u64 (nxtB (chn E)))) := by
  have hid : 0 ≤ nxtB (chn E) ∧ nxtB (chn E) < 18446744073709551616 := nxt_rng hco
  have A := h.at
  refine gc_enter (n := 24) Tryz.func14 rfl (by kernel_rfl) (by kernel_rfl) ?_
  have l0 := Q6.lt
  refine gc_seq ?_
  refine gc_reg ?_
  refine ta 3 [.int .u64 x0, .int .u64 x1, .int .u64 x2, .int .u64 x3, .int .u64 x4, .int .u64 x5, .slice a6 n6 c6] 48 (pg) ?_
  intro v1 g2 Xg2 hg2 B
  have zg2 := Nat.le_trans A.size hg2
  have nXg2 := A.new hg2
  replace Q6 := Q6.keep B
  replace A := A.keep B
  clear B
  refine t 4 (.int .u64 0) ?_
  refine gl_nil ?_
  refine ge_then ?_
  refine gc_seq ?_
  refine gc_reg ?_
  refine t 6 (pg q) ?_
  have L4 := next_len E
  refine tc 7 41 #[pg q] (rnext A.rx (by omega) (by omega)) ?_
  rintro _ v5 ⟨rfl, K3, S, hK, hC⟩
  refine ⟨_, rfl, ?_⟩
  replace Q6 := Q6.op hK hC
  have mXg2 := not_op Xg2 nXg2 hK
  replace Xg2 := Xg2.chg hC nXg2
  replace nXg2 := mXg2
  clear mXg2
  replace A := A.op S hK hC
  clear S hK hC
  refine t 5 (.int .u64 (nxtB (chn E))) ?_
  refine gl_nil ?_
  refine ge_then ?_
  refine gc_seq ?_
  replace Q6 := Q6.drew
  replace A := A.drew
  replace Xg2 := Xg2.drew
  refine gc_draw (fun w' => Blk w' g2 [.int .u64 x0, .int .u64 x1, .int .u64 x2, .int .u64 x3, .int .u64 x4, .int .u64 x5, .slice a6 n6 c6] 48) (fun _ => false) Xg2 ?_
  refine z 0 8 (pg q) ?_
  refine z 1 9 (.int .u64 (nxtB (chn E))) ?_
  refine zlr 3 11 [.int .u64 x0, .int .u64 x1, .int .u64 x2, .int .u64 x3, .int .u64 x4, .int .u64 x5, .slice a6 n6 c6] (fun _ h => h) 0 ?_
  refine zc 2 10 9 #[.int .i64 13, .int .u64 (nxtB (chn E)), .int .u64 0] (key9 hid (mkE13 (nxtB (chn E)))) ?_
  rintro _ v8 ⟨kv7, rfl, U6, B⟩
  replace Q6 := Q6.keep B
  replace A := A.keep B
  replace Xg2 := Xg2.keep B
  clear B
  refine ⟨_, rfl, Xg2, ?_⟩
  refine zc 4 12 46 #[.agg #[.int .u64 x0, .int .u64 x1, .int .u64 x2, .int .u64 x3, .int .u64 x4, .int .u64 x5, .slice a6 n6 c6]] (rput_move Q6.nat m6) ?_
  rintro _ v11 ⟨pv10, rfl, U9, B⟩
  replace Q6 := Q6.keep B
  replace A := A.keep B
  replace Xg2 := Xg2.keep B
  replace U6 := byu_keep U6 B
  clear B
  refine ⟨_, rfl, Xg2, ?_⟩
  have L13 := Pw.put_len (nextE E) (Ky.mk 13 (nxtB (chn E)) 0) (mv x0 x1 x2 x3 x4 x5 x6)
  refine zc 5 13 8 #[pg q, kv7, pv10] (rxset A.rx U6 U9 (by omega) (by omega) (setE_mk (mkE13 (nxtB (chn E))) (Nat.le_trans (mv_len _ _ _ _ _ _ _) (by decide)))) ?_
  rintro _ v14 ⟨rfl, K12, S, hK, hC⟩
  replace Q6 := Q6.op hK hC
  have mXg2 := not_op Xg2 nXg2 hK
  replace Xg2 := Xg2.chg hC nXg2
  replace nXg2 := mXg2
  clear mXg2
  replace U6 := A.byu U6 hC
  replace U9 := A.byu U9 hC
  replace A := A.op S hK hC
  clear S hK hC
  refine ⟨_, rfl, Xg2, ?_⟩
  refine gz_done ?_
  refine ge_then ?_
  refine gc_fr [(0, pg q), (3, pg g2), (4, .int .u64 0), (5, .int .u64 (nxtB (chn E)))] (by kernel_rfl) ?_
  refine gc_seq ?_
  refine gc_reg ?_
  refine t 14 (pg q) ?_
  refine t 15 (.int .u64 (nxtB (chn E))) ?_
  refine t 16 (pg g2) ?_
  refine tl 17 (.int .u64 x0) Xg2 0 ?_
  refine t 18 (pq g2 1) ?_
  refine tl 19 (.int .u64 x1) Xg2 1 ?_
  refine t 20 (pq g2 4) ?_
  refine tl 21 (.int .u64 x4) Xg2 4 ?_
  refine tc 22 43 #[pg q, .int .i64 13, .int .u64 (nxtB (chn E)), .int .u64 x0, .int .u64 x1, .int .u64 x4] (rput12 A.rx ⟨by decide, by decide⟩ hx0 hx1 hx4 (by omega) (by omega)) ?_
  rintro _ v16 ⟨rfl, K15, S, hK, hC⟩
  refine ⟨_, rfl, ?_⟩
  replace Q6 := Q6.op hK hC
  have mXg2 := not_op Xg2 nXg2 hK
  replace Xg2 := Xg2.chg hC nXg2
  replace nXg2 := mXg2
  clear mXg2
  replace U6 := A.byu U6 hC
  replace U9 := A.byu U9 hC
  replace A := A.op S hK hC
  clear S hK hC
  refine gl_nil ?_
  refine ge_then ?_
  refine gc_seq ?_
  refine gc_reg ?_
  refine t 23 (.int .u64 (nxtB (chn E))) ?_
  refine t 4 (.int .u64 (nxtB (chn E))) ?_
  refine gl_nil ?_
  refine ge_then ?_
  refine gc_ret ?_
  refine ge_ret (.int .u64 (nxtB (chn E))) (rs1 4 (by kernel_rfl) (by kernel_rfl)) ?_
  exact ⟨rfl, _, A.rx, A.xm, A.cc⟩
theorem rmovingb {B : Nat} {w : World} {X : Nat → Prop} {q : Nat} {E : Ents} {n : Nat} {id : Int} {b : Bool} (h : Rx B w X q E n) (hid : 0 ≤ id ∧ id < 18446744073709551616) (hn : n + 4 ≤ 4000000000000000000) (hm : E.length + 4 ≤ 1000000) (hb : (Kv.look E (Ky.mk 13 id 0)).isSome = b) : Calls Tryz.prog 52 #[pg q, .int .u64 id] w (FndR B w X q E (n + 1) (got E (Ky.mk 13 id 0)) b) := by
  subst hb
  exact rmoving h hid hn hm
theorem rfewer {B : Nat} {w : World} {X : Nat → Prop} {q : Nat} {E : Ents} {n : Nat} {id y : Int} {a7 : Option Addr} {n7 c7 z7 : Nat} (h : Rx B w X q E n) (hid : 0 ≤ id ∧ id < 18446744073709551616) (Q7 : Nk w X z7 a7 n7 c7 y) (m7 : n7 ≤ 3000) (hn : n + 10 ≤ 4000000000000000000) (hm : E.length + 10 ≤ 1000000) : Calls Tryz.prog 18 #[pg q, .int .u64 id, .agg #[.slice a7 n7 c7]] w (RxF B w X q (fewM E id y) n 10 (.bool (Kv.look E (Ky.mk 13 id 0)).isSome)) := by
  have l0 := Q7.lt
  have A := h.at
  refine gc_enter (n := 25) Tryz.func18 rfl (by kernel_rfl) (by kernel_rfl) ?_
  refine gc_seq ?_
  refine gc_reg ?_
  have lQ7 := Q7.lt
  refine ta 5 [.slice a7 n7 c7] 46 (pg) ?_
  intro v1 g2 Xg2 hg2 B
  have zg2 := Nat.le_trans A.size hg2
  have nXg2 := A.new hg2
  replace Q7 := Q7.keep B
  replace A := A.keep B
  clear B
  refine t 6 (.bool false) ?_
  refine gl_nil ?_
  refine ge_then ?_
  refine gc_seq ?_
  refine gc_reg ?_
  refine t 10 (pg q) ?_
  refine t 11 (.int .u64 id) ?_
  by_cases c3 : (Kv.look E (Ky.mk 13 id 0)).isSome = true
  · refine tc 12 52 #[pg q, .int .u64 id] (rmovingb A.rx hid (by omega) (by omega) c3) ?_
    rintro _ v6 ⟨ar5, nr5, cr5, rfl, zr5, K4, S, hK, hC, Qr5, mr5, hzr5⟩
    refine ⟨_, rfl, ?_⟩
    have kXg2r5 := Xg2.lt
    have sr5 := A.size
    replace Q7 := Q7.op hK hC
    have mXg2 := not_op Xg2 nXg2 hK
    replace Xg2 := Xg2.chg hC nXg2
    replace nXg2 := mXg2
    clear mXg2
    replace A := A.op S hK hC
    clear S hK hC
    refine t 9 (.tuple #[.agg (mA (got E (Ky.mk 13 id 0)) (.slice ar5 nr5 cr5)), .bool true]) ?_
    refine t 13 (.agg (mA (got E (Ky.mk 13 id 0)) (.slice ar5 nr5 cr5))) ?_
    refine t 14 (.bool true) ?_
    have lQ7 := Q7.lt
    have lXg2 := Xg2.lt
    have lQr5 := Qr5.lt
    refine ta 7 [.int .u64 0, .int .u64 0, .int .u64 0, .int .u64 0, .int .u64 0, .int .u64 0, .slice none 0 0] 48 (pg) ?_
    intro v7 g8 Xg8 hg8 B
    have zg8 := Nat.le_trans A.size hg8
    have nXg8 := A.new hg8
    replace Q7 := Q7.keep B
    replace A := A.keep B
    replace Xg2 := Xg2.keep B
    replace Qr5 := Qr5.keep B
    clear B
    refine ts Xg8 0 (.agg (mA (got E (Ky.mk 13 id 0)) (.slice ar5 nr5 cr5))) (mL (got E (Ky.mk 13 id 0)) (.slice ar5 nr5 cr5)) (mL (got E (Ky.mk 13 id 0)) (.slice ar5 nr5 cr5)) ?_
    intro v9 Y C
    replace Q7 := Q7.cell C (show n7 = 0 ∨ z7 ≠ g8 by omega)
    replace A := Ar.cell A Xg8 C zg8 nXg8 (by decide)
    replace Xg2 := Xg2.chg C (show g2 ≠ g8 by omega)
    replace Qr5 := Qr5.cell C (show nr5 = 0 ∨ zr5 ≠ g8 by omega)
    clear C Xg8
    have Xg8 := Y
    clear Y
    refine t 8 (.bool true) ?_
    refine gl_nil ?_
    refine ge_then ?_
    refine gc_fr [(0, pg q), (1, .int .u64 id), (5, pg g2), (6, .bool false), (7, pg g8), (8, .bool true)] (by kernel_rfl) ?_
    refine gc_seq ?_
    refine gc_seq ?_
    refine gc_reg ?_
    refine t 15 (.bool true) ?_
    refine gl_nil ?_
    refine ge_then ?_
    refine gc_yes ?_
    refine gc_seq ?_
    refine gc_reg ?_
    refine tlr 16 [.slice a7 n7 c7] Xg2 0 ?_
    refine t 17 (pq g8 6) ?_
    refine ts Xg8 6 (.agg #[.slice a7 n7 c7]) [.slice a7 n7 c7] (mL (got E (Ky.mk 13 id 0)) (.slice a7 n7 c7)) ?_
    intro v10 Y C
    replace Q7 := Q7.cell C (show n7 = 0 ∨ z7 ≠ g8 by omega)
    replace A := Ar.cell A Xg8 C zg8 nXg8 (by decide)
    replace Xg2 := Xg2.chg C (show g2 ≠ g8 by omega)
    replace Qr5 := Qr5.cell C (show nr5 = 0 ∨ zr5 ≠ g8 by omega)
    clear C Xg8
    have Xg8 := Y
    clear Y
    refine gl_nil ?_
    refine ge_then ?_
    replace Q7 := Q7.drew
    replace A := A.drew
    replace Xg2 := Xg2.drew
    replace Qr5 := Qr5.drew
    replace Xg8 := Xg8.drew
    refine gc_draw (fun w' => Blk w' g8 (mL (got E (Ky.mk 13 id 0)) (.slice a7 n7 c7)) 48) (fun _ => false) Xg8 ?_
    refine z 0 18 (pg q) ?_
    refine z 1 19 (.int .u64 id) ?_
    refine zlr 3 21 (mL (got E (Ky.mk 13 id 0)) (.slice a7 n7 c7)) (fun _ h => h) 0 ?_
    refine zc 2 20 9 #[.int .i64 13, .int .u64 id, .int .u64 0] (key9 hid (mkE13 id)) ?_
    rintro _ v13 ⟨kv12, rfl, U11, B⟩
    replace Q7 := Q7.keep B
    replace A := A.keep B
    replace Xg2 := Xg2.keep B
    replace Qr5 := Qr5.keep B
    replace Xg8 := Xg8.keep B
    clear B
    refine ⟨_, rfl, Xg8, ?_⟩
    refine zc 4 22 46 #[.agg (mA (got E (Ky.mk 13 id 0)) (.slice a7 n7 c7))] (rput_move Q7.nat m7) ?_
    rintro _ v16 ⟨pv15, rfl, U14, B⟩
    replace Q7 := Q7.keep B
    replace A := A.keep B
    replace Xg2 := Xg2.keep B
    replace Qr5 := Qr5.keep B
    replace Xg8 := Xg8.keep B
    replace U11 := byu_keep U11 B
    clear B
    refine ⟨_, rfl, Xg8, ?_⟩
    have L18 := Pw.put_len E (Ky.mk 13 id 0) (mv (mX (got E (Ky.mk 13 id 0)) 0) (mX (got E (Ky.mk 13 id 0)) 1) (mX (got E (Ky.mk 13 id 0)) 2) (mX (got E (Ky.mk 13 id 0)) 3) (mX (got E (Ky.mk 13 id 0)) 4) (mX (got E (Ky.mk 13 id 0)) 5) y)
    refine zc 5 23 8 #[pg q, kv12, pv15] (rxset A.rx U11 U14 (by omega) (by omega) (setE_mk (mkE13 id) (Nat.le_trans (mv_len _ _ _ _ _ _ _) (by decide)))) ?_
    rintro _ v19 ⟨rfl, K17, S, hK, hC⟩
    replace Q7 := Q7.op hK hC
    replace Qr5 := Qr5.op hK hC
    have mXg2 := not_op Xg2 nXg2 hK
    replace Xg2 := Xg2.chg hC nXg2
    replace nXg2 := mXg2
    clear mXg2
    have mXg8 := not_op Xg8 nXg8 hK
    replace Xg8 := Xg8.chg hC nXg8
    replace nXg8 := mXg8
    clear mXg8
    replace U11 := A.byu U11 hC
    replace U14 := A.byu U14 hC
    replace A := A.op S hK hC
    clear S hK hC
    refine ⟨_, rfl, Xg8, ?_⟩
    refine gz_done ?_
    refine ge_then ?_
    refine gc_seq ?_
    refine gc_reg ?_
    refine t 24 (.bool true) ?_
    refine t 6 (.bool true) ?_
    refine gl_nil ?_
    refine ge_then ?_
    refine gc_ret ?_
    refine ge_ret (.bool true) (rs1 6 (by kernel_rfl) (by kernel_rfl)) ?_
    rw [show fewM E id y = _ from if_pos c3, show (Kv.look E (Ky.mk 13 id 0)).isSome = true from c3]
    exact ⟨rfl, _, _, A.rx, by omega, A.xm, A.cc⟩
  · refine tc 12 52 #[pg q, .int .u64 id] (rmovingb A.rx hid (by omega) (by omega) (Bool.eq_false_iff.2 c3)) ?_
    rintro _ v22 ⟨ar21, nr21, cr21, rfl, zr21, K20, S, hK, hC, Qr21, mr21, hzr21⟩
    refine ⟨_, rfl, ?_⟩
    have kXg2r21 := Xg2.lt
    have sr21 := A.size
    replace Q7 := Q7.op hK hC
    have mXg2 := not_op Xg2 nXg2 hK
    replace Xg2 := Xg2.chg hC nXg2
    replace nXg2 := mXg2
    clear mXg2
    replace A := A.op S hK hC
    clear S hK hC
    refine t 9 (.tuple #[.agg (mA (got E (Ky.mk 13 id 0)) (.slice ar21 nr21 cr21)), .bool false]) ?_
    refine t 13 (.agg (mA (got E (Ky.mk 13 id 0)) (.slice ar21 nr21 cr21))) ?_
    refine t 14 (.bool false) ?_
    have lQ7 := Q7.lt
    have lXg2 := Xg2.lt
    have lQr21 := Qr21.lt
    refine ta 7 [.int .u64 0, .int .u64 0, .int .u64 0, .int .u64 0, .int .u64 0, .int .u64 0, .slice none 0 0] 48 (pg) ?_
    intro v23 g24 Xg24 hg24 B
    have zg24 := Nat.le_trans A.size hg24
    have nXg24 := A.new hg24
    replace Q7 := Q7.keep B
    replace A := A.keep B
    replace Xg2 := Xg2.keep B
    replace Qr21 := Qr21.keep B
    clear B
    refine ts Xg24 0 (.agg (mA (got E (Ky.mk 13 id 0)) (.slice ar21 nr21 cr21))) (mL (got E (Ky.mk 13 id 0)) (.slice ar21 nr21 cr21)) (mL (got E (Ky.mk 13 id 0)) (.slice ar21 nr21 cr21)) ?_
    intro v25 Y C
    replace Q7 := Q7.cell C (show n7 = 0 ∨ z7 ≠ g24 by omega)
    replace A := Ar.cell A Xg24 C zg24 nXg24 (by decide)
    replace Xg2 := Xg2.chg C (show g2 ≠ g24 by omega)
    replace Qr21 := Qr21.cell C (show nr21 = 0 ∨ zr21 ≠ g24 by omega)
    clear C Xg24
    have Xg24 := Y
    clear Y
    refine t 8 (.bool false) ?_
    refine gl_nil ?_
    refine ge_then ?_
    refine gc_fr [(0, pg q), (1, .int .u64 id), (5, pg g2), (6, .bool false), (7, pg g24), (8, .bool false)] (by kernel_rfl) ?_
    refine gc_seq ?_
    refine gc_seq ?_
    refine gc_reg ?_
    refine t 15 (.bool false) ?_
    refine gl_nil ?_
    refine ge_then ?_
    refine gc_no ?_
    refine gc_skip ?_
    refine ge_then ?_
    refine gc_seq ?_
    refine gc_reg ?_
    refine t 24 (.bool false) ?_
    refine t 6 (.bool false) ?_
    refine gl_nil ?_
    refine ge_then ?_
    refine gc_ret ?_
    refine ge_ret (.bool false) (rs1 6 (by kernel_rfl) (by kernel_rfl)) ?_
    rw [show fewM E id y = _ from if_neg c3, show (Kv.look E (Ky.mk 13 id 0)).isSome = false from Bool.eq_false_iff.2 c3]
    exact ⟨rfl, _, _, A.rx, by omega, A.xm, A.cc⟩
end Qu
end Go.Proofs.YtidnifmehnjipaaGreat

namespace Go.Proofs.YtidnifmehnjipaaGreat
namespace Qu
open Go.RowKit Go.Lib Pg Lim Gl Kv Bk Pw
attribute [local go_sem] Oper.semAt_some
set_option maxRecDepth 100000
set_option linter.unusedVariables false
set_option linter.unusedSimpArgs false
set_option maxHeartbeats 2000000
def rendQ (E : Ents) (k id a b d : Int) : Ents :=
  let E1 := rem (rem (rem E (Ky.mk k id 0)) (Ky.mk 14 d id)) (Ky.mk 15 b id)
  if cntQ E1 a b ≤ 1 then rem E1 (Ky.mk 17 a b) else put E1 (Ky.mk 17 a b) (nv ((cntQ E1 a b - 1) % 18446744073709551616))
def rdropE (E : Ents) (id k : Int) : Ents := if k = 12 then (if (Kv.look E (Ky.mk 12 id 0)).isSome = true then rendQ E k id (uX (got E (Ky.mk 12 id 0)) 0) (uX (got E (Ky.mk 12 id 0)) 1) (uX (got E (Ky.mk 12 id 0)) 3) else E) else if k = 13 then (if (Kv.look E (Ky.mk 13 id 0)).isSome = true then rendQ E k id (mX (got E (Ky.mk 13 id 0)) 0) (mX (got E (Ky.mk 13 id 0)) 1) (mX (got E (Ky.mk 13 id 0)) 4) else E) else E
theorem rdrop12 {B : Nat} {w : World} {X : Nat → Prop} {q : Nat} {E : Ents} {n : Nat} {id k : Int} (h : Rx B w X q E n) (hid : 0 ≤ id ∧ id < 18446744073709551616) (hoc : ∀ k, Oct (got E k)) (hn : n + 20 ≤ 4000000000000000000) (hm : E.length + 20 ≤ 1000000) : Calls Tryz.prog 20 #[pg q, .agg #[.int .u64 id, .int .i64 k]] w (RxF B w X q (rdropE E id k) n 10 (.bool (dropB E id k))) := by
  have A := h.at
  refine gc_enter (n := 86) Tryz.func20 rfl (by kernel_rfl) (by kernel_rfl) ?_
  refine gc_seq ?_
  refine gc_reg ?_
  refine ta 3 [.int .u64 id, .int .i64 k] 61 (pg) ?_
  intro v1 g2 Xg2 hg2 B
  have zg2 := Nat.le_trans A.size hg2
  have nXg2 := A.new hg2
  replace A := A.keep B
  clear B
  refine t 4 (.bool false) ?_
  refine gl_nil ?_
  refine ge_then ?_
  refine gc_seq ?_
  refine gc_reg ?_
  refine t 5 (.int .u64 0) ?_
  refine t 6 (.int .u64 0) ?_
  refine t 7 (.int .u64 0) ?_
  refine gl_nil ?_
  refine ge_then ?_
  refine gc_seq ?_
  refine gc_seq ?_
  refine gc_reg ?_
  refine t 14 (pq g2 1) ?_
  refine tl 15 (.int .i64 k) Xg2 1 ?_
  refine gl_nil ?_
  refine ge_then ?_
  refine gc_block ?_
  refine gc_seq ?_
  refine gc_reg ?_
  by_cases c3 : (k : Int) = 12
  · refine tq 17 (.bool ((k : Int) == 12)) (.bool true) (congrArg Value.bool (beq_iff_eq.2 c3)) ?_
    refine t 16 (.bool true) ?_
    refine gl_nil ?_
    refine ge_then ?_
    refine gc_yes ?_
    refine gc_seq ?_
    refine gc_reg ?_
    refine t 19 (pg q) ?_
    refine t 20 (pg g2) ?_
    refine tl 21 (.int .u64 id) Xg2 0 ?_
    by_cases c4 : (Kv.look E (Ky.mk 12 id 0)).isSome = true
    · refine tc 22 49 #[pg q, .int .u64 id] (runbondingb A.rx hid (by omega) (by omega) c4) ?_
      rintro _ v6 ⟨rfl, K5, S, hK, hC⟩
      refine ⟨_, rfl, ?_⟩
      have mXg2 := not_op Xg2 nXg2 hK
      replace Xg2 := Xg2.chg hC nXg2
      replace nXg2 := mXg2
      clear mXg2
      replace A := A.op S hK hC
      clear S hK hC
      refine t 18 (.tuple #[.agg (uA (got E (Ky.mk 12 id 0))), .bool true]) ?_
      refine t 23 (.agg (uA (got E (Ky.mk 12 id 0)))) ?_
      refine t 24 (.bool true) ?_
      have lXg2 := Xg2.lt
      refine ta 8 [.int .u64 0, .int .u64 0, .int .u64 0, .int .u64 0, .int .u64 0, .int .u64 0] 42 (pg) ?_
      intro v7 g8 Xg8 hg8 B
      have zg8 := Nat.le_trans A.size hg8
      have nXg8 := A.new hg8
      replace A := A.keep B
      replace Xg2 := Xg2.keep B
      clear B
      refine ts Xg8 0 (.agg (uA (got E (Ky.mk 12 id 0)))) (uL (got E (Ky.mk 12 id 0))) (uL (got E (Ky.mk 12 id 0))) ?_
      intro v9 Y C
      replace A := Ar.cell A Xg8 C zg8 nXg8 (by decide)
      replace Xg2 := Xg2.chg C (show g2 ≠ g8 by omega)
      clear C Xg8
      have Xg8 := Y
      clear Y
      refine t 9 (.bool true) ?_
      refine gl_nil ?_
      refine ge_then ?_
      refine gc_fr [(0, pg q), (3, pg g2), (4, .bool false), (5, .int .u64 0), (6, .int .u64 0), (7, .int .u64 0), (8, pg g8), (9, .bool true)] (by kernel_rfl) ?_
      refine gc_seq ?_
      refine gc_seq ?_
      refine gc_reg ?_
      refine t 25 (.bool true) ?_
      refine t 26 (.bool false) ?_
      refine gl_nil ?_
      refine ge_then ?_
      refine gc_no ?_
      refine gc_skip ?_
      refine ge_then ?_
      replace A := A.drew
      replace Xg2 := Xg2.drew
      replace Xg8 := Xg8.drew
      refine gc_draw (fun w' => Blk w' g8 (uL (got E (Ky.mk 12 id 0))) 42) (fun _ => false) Xg8 ?_
      refine z 0 27 (pg g8) ?_
      refine zl 1 28 (.int .u64 (uX (got E (Ky.mk 12 id 0)) 0)) (fun _ h => h) 0 ?_
      refine z 2 29 (pq g8 1) ?_
      refine zl 3 30 (.int .u64 (uX (got E (Ky.mk 12 id 0)) 1)) (fun _ h => h) 1 ?_
      refine z 4 31 (pq g8 3) ?_
      refine zl 5 32 (.int .u64 (uX (got E (Ky.mk 12 id 0)) 3)) (fun _ h => h) 3 ?_
      refine z 6 5 (.int .u64 (uX (got E (Ky.mk 12 id 0)) 0)) ?_
      refine z 7 6 (.int .u64 (uX (got E (Ky.mk 12 id 0)) 1)) ?_
      refine z 8 7 (.int .u64 (uX (got E (Ky.mk 12 id 0)) 3)) ?_
      refine gz_done ?_
      refine ge_bn ?_
      refine ge_then ?_
      refine gc_seq ?_
      refine gc_reg ?_
      refine t 50 (pg q) ?_
      refine t 51 (pq g2 1) ?_
      refine tl 52 (.int .i64 k) Xg2 1 ?_
      refine t 53 (pg g2) ?_
      refine tl 54 (.int .u64 id) Xg2 0 ?_
      refine tc 55 9 #[.int .i64 k, .int .u64 id, .int .u64 0] (key9 hid (by rw [c3]; exact mkE12 id)) ?_
      rintro _ v12 ⟨kv11, rfl, U10, B⟩
      refine ⟨_, rfl, ?_⟩
      replace A := A.keep B
      replace Xg2 := Xg2.keep B
      replace Xg8 := Xg8.keep B
      clear B
      have L14 := Pw.rem_len E (Ky.mk k id 0)
      refine tc 56 55 #[pg q, kv11] (rxdel A.rx U10 (Nat.le_trans (Ky.mk_len _ _ _) (by decide)) (by omega) (by omega)) ?_
      rintro _ v15 ⟨rfl, K13, S, hK, hC⟩
      refine ⟨_, rfl, ?_⟩
      have mXg2 := not_op Xg2 nXg2 hK
      replace Xg2 := Xg2.chg hC nXg2
      replace nXg2 := mXg2
      clear mXg2
      have mXg8 := not_op Xg8 nXg8 hK
      replace Xg8 := Xg8.chg hC nXg8
      replace nXg8 := mXg8
      clear mXg8
      replace U10 := A.byu U10 hC
      replace A := A.op S hK hC
      clear S hK hC
      clear U10
      refine gl_nil ?_
      refine ge_then ?_
      refine gc_fr [(0, pg q), (3, pg g2), (4, .bool false), (5, .int .u64 (uX (got E (Ky.mk 12 id 0)) 0)), (6, .int .u64 (uX (got E (Ky.mk 12 id 0)) 1)), (7, .int .u64 (uX (got E (Ky.mk 12 id 0)) 3))] (by kernel_rfl) ?_
      refine gc_seq ?_
      refine gc_reg ?_
      refine t 57 (pg q) ?_
      refine t 58 (.int .u64 (uX (got E (Ky.mk 12 id 0)) 3)) ?_
      refine t 59 (pg g2) ?_
      refine tl 60 (.int .u64 id) Xg2 0 ?_
      refine tc 61 9 #[.int .i64 14, .int .u64 (uX (got E (Ky.mk 12 id 0)) 3), .int .u64 id] (key9 (uX_rng (hoc _) 3) (mkE14 (uX (got E (Ky.mk 12 id 0)) 3) id)) ?_
      rintro _ v18 ⟨kv17, rfl, U16, B⟩
      refine ⟨_, rfl, ?_⟩
      replace A := A.keep B
      replace Xg2 := Xg2.keep B
      replace Xg8 := Xg8.keep B
      clear B
      have L20 := Pw.rem_len (rem E (Ky.mk k id 0)) (Ky.mk 14 (uX (got E (Ky.mk 12 id 0)) 3) id)
      refine tc 62 55 #[pg q, kv17] (rxdel A.rx U16 (Nat.le_trans (Ky.mk_len _ _ _) (by decide)) (by omega) (by omega)) ?_
      rintro _ v21 ⟨rfl, K19, S, hK, hC⟩
      refine ⟨_, rfl, ?_⟩
      have mXg2 := not_op Xg2 nXg2 hK
      replace Xg2 := Xg2.chg hC nXg2
      replace nXg2 := mXg2
      clear mXg2
      have mXg8 := not_op Xg8 nXg8 hK
      replace Xg8 := Xg8.chg hC nXg8
      replace nXg8 := mXg8
      clear mXg8
      replace U16 := A.byu U16 hC
      replace A := A.op S hK hC
      clear S hK hC
      clear U16
      refine gl_nil ?_
      refine ge_then ?_
      refine gc_seq ?_
      refine gc_reg ?_
      refine t 63 (pg q) ?_
      refine t 64 (.int .u64 (uX (got E (Ky.mk 12 id 0)) 1)) ?_
      refine t 65 (pg g2) ?_
      refine tl 66 (.int .u64 id) Xg2 0 ?_
      refine tc 67 9 #[.int .i64 15, .int .u64 (uX (got E (Ky.mk 12 id 0)) 1), .int .u64 id] (key9 (uX_rng (hoc _) 1) (mkE15 (uX (got E (Ky.mk 12 id 0)) 1) id)) ?_
      rintro _ v24 ⟨kv23, rfl, U22, B⟩
      refine ⟨_, rfl, ?_⟩
      replace A := A.keep B
      replace Xg2 := Xg2.keep B
      replace Xg8 := Xg8.keep B
      clear B
      have L26 := Pw.rem_len (rem (rem E (Ky.mk k id 0)) (Ky.mk 14 (uX (got E (Ky.mk 12 id 0)) 3) id)) (Ky.mk 15 (uX (got E (Ky.mk 12 id 0)) 1) id)
      refine tc 68 55 #[pg q, kv23] (rxdel A.rx U22 (Nat.le_trans (Ky.mk_len _ _ _) (by decide)) (by omega) (by omega)) ?_
      rintro _ v27 ⟨rfl, K25, S, hK, hC⟩
      refine ⟨_, rfl, ?_⟩
      have mXg2 := not_op Xg2 nXg2 hK
      replace Xg2 := Xg2.chg hC nXg2
      replace nXg2 := mXg2
      clear mXg2
      have mXg8 := not_op Xg8 nXg8 hK
      replace Xg8 := Xg8.chg hC nXg8
      replace nXg8 := mXg8
      clear mXg8
      replace U22 := A.byu U22 hC
      replace A := A.op S hK hC
      clear S hK hC
      clear U22
      refine gl_nil ?_
      refine ge_then ?_
      refine gc_fr [(0, pg q), (4, .bool false), (5, .int .u64 (uX (got E (Ky.mk 12 id 0)) 0)), (6, .int .u64 (uX (got E (Ky.mk 12 id 0)) 1))] (by kernel_rfl) ?_
      refine gc_seq ?_
      refine gc_reg ?_
      refine t 69 (.int .u64 (uX (got E (Ky.mk 12 id 0)) 0)) ?_
      refine t 70 (.int .u64 (uX (got E (Ky.mk 12 id 0)) 1)) ?_
      refine tc 71 9 #[.int .i64 17, .int .u64 (uX (got E (Ky.mk 12 id 0)) 0), .int .u64 (uX (got E (Ky.mk 12 id 0)) 1)] (key9 (uX_rng (hoc _) 0) (mkE17 (uX (got E (Ky.mk 12 id 0)) 0) (uX (got E (Ky.mk 12 id 0)) 1))) ?_
      rintro _ v30 ⟨kv29, rfl, U28, B⟩
      refine ⟨_, rfl, ?_⟩
      replace A := A.keep B
      replace Xg2 := Xg2.keep B
      replace Xg8 := Xg8.keep B
      clear B
      refine t 12 (kv29) ?_
      refine gl_nil ?_
      refine ge_then ?_
      refine gc_seq ?_
      refine gc_reg ?_
      refine t 72 (pg q) ?_
      refine t 73 (kv29) ?_
      refine tc 74 56 #[pg q, kv29] (rnumber A.rx U28 (Nat.le_trans (Ky.mk_len _ _ _) (by decide)) (by omega) (by omega)) ?_
      rintro _ v32 ⟨rfl, K31, S, hK, hC⟩
      refine ⟨_, rfl, ?_⟩
      have mXg2 := not_op Xg2 nXg2 hK
      replace Xg2 := Xg2.chg hC nXg2
      replace nXg2 := mXg2
      clear mXg2
      have mXg8 := not_op Xg8 nXg8 hK
      replace Xg8 := Xg8.chg hC nXg8
      replace nXg8 := mXg8
      clear mXg8
      replace U28 := A.byu U28 hC
      replace A := A.op S hK hC
      clear S hK hC
      refine t 13 (.int .u64 (numB (got (rem (rem (rem E (Ky.mk k id 0)) (Ky.mk 14 (uX (got E (Ky.mk 12 id 0)) 3) id)) (Ky.mk 15 (uX (got E (Ky.mk 12 id 0)) 1) id)) (Ky.mk 17 (uX (got E (Ky.mk 12 id 0)) 0) (uX (got E (Ky.mk 12 id 0)) 1))))) ?_
      refine gl_nil ?_
      refine ge_then ?_
      refine gc_seq ?_
      refine gc_seq ?_
      refine gc_reg ?_
      refine t 75 (.int .u64 (numB (got (rem (rem (rem E (Ky.mk k id 0)) (Ky.mk 14 (uX (got E (Ky.mk 12 id 0)) 3) id)) (Ky.mk 15 (uX (got E (Ky.mk 12 id 0)) 1) id)) (Ky.mk 17 (uX (got E (Ky.mk 12 id 0)) 0) (uX (got E (Ky.mk 12 id 0)) 1))))) ?_
      by_cases c33 : (numB (got (rem (rem (rem E (Ky.mk k id 0)) (Ky.mk 14 (uX (got E (Ky.mk 12 id 0)) 3) id)) (Ky.mk 15 (uX (got E (Ky.mk 12 id 0)) 1) id)) (Ky.mk 17 (uX (got E (Ky.mk 12 id 0)) 0) (uX (got E (Ky.mk 12 id 0)) 1))) : Int) ≤ 1
      · refine tq 76 (.bool (decide ((numB (got (rem (rem (rem E (Ky.mk k id 0)) (Ky.mk 14 (uX (got E (Ky.mk 12 id 0)) 3) id)) (Ky.mk 15 (uX (got E (Ky.mk 12 id 0)) 1) id)) (Ky.mk 17 (uX (got E (Ky.mk 12 id 0)) 0) (uX (got E (Ky.mk 12 id 0)) 1))) : Int) ≤ 1))) (.bool true) (congrArg Value.bool (decide_eq_true c33)) ?_
        refine gl_nil ?_
        refine ge_then ?_
        refine gc_yes ?_
        refine gc_reg ?_
        refine t 77 (pg q) ?_
        refine t 78 (kv29) ?_
        have L35 := Pw.rem_len (rem (rem (rem E (Ky.mk k id 0)) (Ky.mk 14 (uX (got E (Ky.mk 12 id 0)) 3) id)) (Ky.mk 15 (uX (got E (Ky.mk 12 id 0)) 1) id)) (Ky.mk 17 (uX (got E (Ky.mk 12 id 0)) 0) (uX (got E (Ky.mk 12 id 0)) 1))
        refine tc 79 55 #[pg q, kv29] (rxdel A.rx U28 (Nat.le_trans (Ky.mk_len _ _ _) (by decide)) (by omega) (by omega)) ?_
        rintro _ v36 ⟨rfl, K34, S, hK, hC⟩
        refine ⟨_, rfl, ?_⟩
        have mXg2 := not_op Xg2 nXg2 hK
        replace Xg2 := Xg2.chg hC nXg2
        replace nXg2 := mXg2
        clear mXg2
        have mXg8 := not_op Xg8 nXg8 hK
        replace Xg8 := Xg8.chg hC nXg8
        replace nXg8 := mXg8
        clear mXg8
        replace U28 := A.byu U28 hC
        replace A := A.op S hK hC
        clear S hK hC
        clear U28
        refine gl_nil ?_
        refine ge_then ?_
        refine gc_fr [(4, .bool false)] (by kernel_rfl) ?_
        refine gc_seq ?_
        refine gc_reg ?_
        refine t 4 (.bool true) ?_
        refine gl_nil ?_
        refine ge_then ?_
        refine gc_ret ?_
        refine ge_ret (.bool true) (rs1 4 (by kernel_rfl) (by kernel_rfl)) ?_
        have e1 : rdropE E id k = rem (rem (rem (rem E (Ky.mk k id 0)) (Ky.mk 14 (uX (got E (Ky.mk 12 id 0)) 3) id)) (Ky.mk 15 (uX (got E (Ky.mk 12 id 0)) 1) id)) (Ky.mk 17 (uX (got E (Ky.mk 12 id 0)) 0) (uX (got E (Ky.mk 12 id 0)) 1)) := by unfold rdropE; rw [if_pos c3, if_pos c4]; exact if_pos c33
        have e2 : dropB E id k = true := by unfold dropB; rw [if_pos c3, c4]
        rw [e1, e2]
        exact ⟨rfl, _, _, A.rx, by omega, A.xm, A.cc⟩
      · refine tq 76 (.bool (decide ((numB (got (rem (rem (rem E (Ky.mk k id 0)) (Ky.mk 14 (uX (got E (Ky.mk 12 id 0)) 3) id)) (Ky.mk 15 (uX (got E (Ky.mk 12 id 0)) 1) id)) (Ky.mk 17 (uX (got E (Ky.mk 12 id 0)) 0) (uX (got E (Ky.mk 12 id 0)) 1))) : Int) ≤ 1))) (.bool false) (congrArg Value.bool (decide_eq_false c33)) ?_
        refine gl_nil ?_
        refine ge_then ?_
        refine gc_no ?_
        refine gc_reg ?_
        refine t 80 (pg q) ?_
        refine t 81 (kv29) ?_
        refine t 82 (.int .u64 (numB (got (rem (rem (rem E (Ky.mk k id 0)) (Ky.mk 14 (uX (got E (Ky.mk 12 id 0)) 3) id)) (Ky.mk 15 (uX (got E (Ky.mk 12 id 0)) 1) id)) (Ky.mk 17 (uX (got E (Ky.mk 12 id 0)) 0) (uX (got E (Ky.mk 12 id 0)) 1))))) ?_
        refine tq 83 (.int .u64 (IntKind.u64.wrap (numB (got (rem (rem (rem E (Ky.mk k id 0)) (Ky.mk 14 (uX (got E (Ky.mk 12 id 0)) 3) id)) (Ky.mk 15 (uX (got E (Ky.mk 12 id 0)) 1) id)) (Ky.mk 17 (uX (got E (Ky.mk 12 id 0)) 0) (uX (got E (Ky.mk 12 id 0)) 1))) - 1))) (.int .u64 ((numB (got (rem (rem (rem E (Ky.mk k id 0)) (Ky.mk 14 (uX (got E (Ky.mk 12 id 0)) 3) id)) (Ky.mk 15 (uX (got E (Ky.mk 12 id 0)) 1) id)) (Ky.mk 17 (uX (got E (Ky.mk 12 id 0)) 0) (uX (got E (Ky.mk 12 id 0)) 1))) - 1) % 18446744073709551616)) (congrArg (Value.int .u64) (IntKind.wrap_u64 _)) ?_
        refine tc 84 57 #[.int .u64 ((numB (got (rem (rem (rem E (Ky.mk k id 0)) (Ky.mk 14 (uX (got E (Ky.mk 12 id 0)) 3) id)) (Ky.mk 15 (uX (got E (Ky.mk 12 id 0)) 1) id)) (Ky.mk 17 (uX (got E (Ky.mk 12 id 0)) 0) (uX (got E (Ky.mk 12 id 0)) 1))) - 1) % 18446744073709551616)] (rput_number) ?_
        rintro _ v39 ⟨pv38, rfl, U37, B⟩
        refine ⟨_, rfl, ?_⟩
        replace A := A.keep B
        replace Xg2 := Xg2.keep B
        replace Xg8 := Xg8.keep B
        replace U28 := byu_keep U28 B
        clear B
        have L41 := Pw.put_len (rem (rem (rem E (Ky.mk k id 0)) (Ky.mk 14 (uX (got E (Ky.mk 12 id 0)) 3) id)) (Ky.mk 15 (uX (got E (Ky.mk 12 id 0)) 1) id)) (Ky.mk 17 (uX (got E (Ky.mk 12 id 0)) 0) (uX (got E (Ky.mk 12 id 0)) 1)) (nv ((numB (got (rem (rem (rem E (Ky.mk k id 0)) (Ky.mk 14 (uX (got E (Ky.mk 12 id 0)) 3) id)) (Ky.mk 15 (uX (got E (Ky.mk 12 id 0)) 1) id)) (Ky.mk 17 (uX (got E (Ky.mk 12 id 0)) 0) (uX (got E (Ky.mk 12 id 0)) 1))) - 1) % 18446744073709551616))
        refine tc 85 8 #[pg q, kv29, pv38] (rxset A.rx U28 U37 (by omega) (by omega) (setE_mk (mkE17 (uX (got E (Ky.mk 12 id 0)) 0) (uX (got E (Ky.mk 12 id 0)) 1)) (Nat.le_trans (nv_len _) (by decide)))) ?_
        rintro _ v42 ⟨rfl, K40, S, hK, hC⟩
        refine ⟨_, rfl, ?_⟩
        have mXg2 := not_op Xg2 nXg2 hK
        replace Xg2 := Xg2.chg hC nXg2
        replace nXg2 := mXg2
        clear mXg2
        have mXg8 := not_op Xg8 nXg8 hK
        replace Xg8 := Xg8.chg hC nXg8
        replace nXg8 := mXg8
        clear mXg8
        replace U28 := A.byu U28 hC
        replace U37 := A.byu U37 hC
        replace A := A.op S hK hC
        clear S hK hC
        refine gl_nil ?_
        refine ge_then ?_
        refine gc_fr [(4, .bool false)] (by kernel_rfl) ?_
        refine gc_seq ?_
        refine gc_reg ?_
        refine t 4 (.bool true) ?_
        refine gl_nil ?_
        refine ge_then ?_
        refine gc_ret ?_
        refine ge_ret (.bool true) (rs1 4 (by kernel_rfl) (by kernel_rfl)) ?_
        have e1 : rdropE E id k = put (rem (rem (rem E (Ky.mk k id 0)) (Ky.mk 14 (uX (got E (Ky.mk 12 id 0)) 3) id)) (Ky.mk 15 (uX (got E (Ky.mk 12 id 0)) 1) id)) (Ky.mk 17 (uX (got E (Ky.mk 12 id 0)) 0) (uX (got E (Ky.mk 12 id 0)) 1)) (nv ((numB (got (rem (rem (rem E (Ky.mk k id 0)) (Ky.mk 14 (uX (got E (Ky.mk 12 id 0)) 3) id)) (Ky.mk 15 (uX (got E (Ky.mk 12 id 0)) 1) id)) (Ky.mk 17 (uX (got E (Ky.mk 12 id 0)) 0) (uX (got E (Ky.mk 12 id 0)) 1))) - 1) % 18446744073709551616)) := by unfold rdropE; rw [if_pos c3, if_pos c4]; exact if_neg c33
        have e2 : dropB E id k = true := by unfold dropB; rw [if_pos c3, c4]
        rw [e1, e2]
        exact ⟨rfl, _, _, A.rx, by omega, A.xm, A.cc⟩
    · refine tc 22 49 #[pg q, .int .u64 id] (runbondingb A.rx hid (by omega) (by omega) (Bool.eq_false_iff.2 c4)) ?_
      rintro _ v44 ⟨rfl, K43, S, hK, hC⟩
      refine ⟨_, rfl, ?_⟩
      have mXg2 := not_op Xg2 nXg2 hK
      replace Xg2 := Xg2.chg hC nXg2
      replace nXg2 := mXg2
      clear mXg2
      replace A := A.op S hK hC
      clear S hK hC
      refine t 18 (.tuple #[.agg (uA (got E (Ky.mk 12 id 0))), .bool false]) ?_
      refine t 23 (.agg (uA (got E (Ky.mk 12 id 0)))) ?_
      refine t 24 (.bool false) ?_
      have lXg2 := Xg2.lt
      refine ta 8 [.int .u64 0, .int .u64 0, .int .u64 0, .int .u64 0, .int .u64 0, .int .u64 0] 42 (pg) ?_
      intro v45 g46 Xg46 hg46 B
      have zg46 := Nat.le_trans A.size hg46
      have nXg46 := A.new hg46
      replace A := A.keep B
      replace Xg2 := Xg2.keep B
      clear B
      refine ts Xg46 0 (.agg (uA (got E (Ky.mk 12 id 0)))) (uL (got E (Ky.mk 12 id 0))) (uL (got E (Ky.mk 12 id 0))) ?_
      intro v47 Y C
      replace A := Ar.cell A Xg46 C zg46 nXg46 (by decide)
      replace Xg2 := Xg2.chg C (show g2 ≠ g46 by omega)
      clear C Xg46
      have Xg46 := Y
      clear Y
      refine t 9 (.bool false) ?_
      refine gl_nil ?_
      refine ge_then ?_
      refine gc_fr [(0, pg q), (3, pg g2), (4, .bool false), (5, .int .u64 0), (6, .int .u64 0), (7, .int .u64 0), (8, pg g46), (9, .bool false)] (by kernel_rfl) ?_
      refine gc_seq ?_
      refine gc_seq ?_
      refine gc_reg ?_
      refine t 25 (.bool false) ?_
      refine t 26 (.bool true) ?_
      refine gl_nil ?_
      refine ge_then ?_
      refine gc_yes ?_
      refine gc_seq ?_
      refine gc_reg ?_
      refine t 4 (.bool false) ?_
      refine gl_nil ?_
      refine ge_then ?_
      refine gc_ret ?_
      refine ge_tr ?_
      refine ge_br ?_
      refine ge_tr ?_
      refine ge_ret (.bool false) (rs1 4 (by kernel_rfl) (by kernel_rfl)) ?_
      have e1 : rdropE E id k = E := by unfold rdropE; rw [if_pos c3, if_neg c4]
      have e2 : dropB E id k = false := by unfold dropB; rw [if_pos c3, Bool.eq_false_iff.2 c4]
      rw [e1, e2]
      exact ⟨rfl, _, _, A.rx, by omega, A.xm, A.cc⟩
  · refine tq 17 (.bool ((k : Int) == 12)) (.bool false) (congrArg Value.bool (beq_eq_false_iff_ne.2 c3)) ?_
    refine t 16 (.bool false) ?_
    refine gl_nil ?_
    refine ge_then ?_
    refine gc_no ?_
    refine gc_seq ?_
    refine gc_reg ?_
    by_cases c48 : (k : Int) = 13
    · refine tq 34 (.bool ((k : Int) == 13)) (.bool true) (congrArg Value.bool (beq_iff_eq.2 c48)) ?_
      refine t 33 (.bool true) ?_
      refine gl_nil ?_
      refine ge_then ?_
      refine gc_fr [(0, pg q), (3, pg g2), (4, .bool false), (5, .int .u64 0), (6, .int .u64 0), (7, .int .u64 0), (33, .bool true)] (by kernel_rfl) ?_
      refine gc_yes ?_
      refine gc_seq ?_
      refine gc_reg ?_
      refine t 36 (pg q) ?_
      refine t 37 (pg g2) ?_
      refine tl 38 (.int .u64 id) Xg2 0 ?_
      by_cases c49 : (Kv.look E (Ky.mk 13 id 0)).isSome = true
      · refine tc 39 52 #[pg q, .int .u64 id] (rmovingb A.rx hid (by omega) (by omega) c49) ?_
        rintro _ v52 ⟨ar51, nr51, cr51, rfl, zr51, K50, S, hK, hC, Qr51, mr51, hzr51⟩
        refine ⟨_, rfl, ?_⟩
        have kXg2r51 := Xg2.lt
        have sr51 := A.size
        have mXg2 := not_op Xg2 nXg2 hK
        replace Xg2 := Xg2.chg hC nXg2
        replace nXg2 := mXg2
        clear mXg2
        replace A := A.op S hK hC
        clear S hK hC
        refine t 35 (.tuple #[.agg (mA (got E (Ky.mk 13 id 0)) (.slice ar51 nr51 cr51)), .bool true]) ?_
        refine t 40 (.agg (mA (got E (Ky.mk 13 id 0)) (.slice ar51 nr51 cr51))) ?_
        refine t 41 (.bool true) ?_
        have lXg2 := Xg2.lt
        have lQr51 := Qr51.lt
        refine ta 10 [.int .u64 0, .int .u64 0, .int .u64 0, .int .u64 0, .int .u64 0, .int .u64 0, .slice none 0 0] 48 (pg) ?_
        intro v53 g54 Xg54 hg54 B
        have zg54 := Nat.le_trans A.size hg54
        have nXg54 := A.new hg54
        replace A := A.keep B
        replace Xg2 := Xg2.keep B
        replace Qr51 := Qr51.keep B
        clear B
        refine ts Xg54 0 (.agg (mA (got E (Ky.mk 13 id 0)) (.slice ar51 nr51 cr51))) (mL (got E (Ky.mk 13 id 0)) (.slice ar51 nr51 cr51)) (mL (got E (Ky.mk 13 id 0)) (.slice ar51 nr51 cr51)) ?_
        intro v55 Y C
        replace A := Ar.cell A Xg54 C zg54 nXg54 (by decide)
        replace Xg2 := Xg2.chg C (show g2 ≠ g54 by omega)
        replace Qr51 := Qr51.cell C (show nr51 = 0 ∨ zr51 ≠ g54 by omega)
        clear C Xg54
        have Xg54 := Y
        clear Y
        refine t 11 (.bool true) ?_
        refine gl_nil ?_
        refine ge_then ?_
        refine gc_seq ?_
        refine gc_seq ?_
        refine gc_reg ?_
        refine t 42 (.bool true) ?_
        refine t 43 (.bool false) ?_
        refine gl_nil ?_
        refine ge_then ?_
        refine gc_no ?_
        refine gc_skip ?_
        refine ge_then ?_
        replace A := A.drew
        replace Xg2 := Xg2.drew
        replace Qr51 := Qr51.drew
        replace Xg54 := Xg54.drew
        refine gc_draw (fun w' => Blk w' g54 (mL (got E (Ky.mk 13 id 0)) (.slice ar51 nr51 cr51)) 48) (fun _ => false) Xg54 ?_
        refine z 0 44 (pg g54) ?_
        refine zl 1 45 (.int .u64 (mX (got E (Ky.mk 13 id 0)) 0)) (fun _ h => h) 0 ?_
        refine z 2 46 (pq g54 1) ?_
        refine zl 3 47 (.int .u64 (mX (got E (Ky.mk 13 id 0)) 1)) (fun _ h => h) 1 ?_
        refine z 4 48 (pq g54 4) ?_
        refine zl 5 49 (.int .u64 (mX (got E (Ky.mk 13 id 0)) 4)) (fun _ h => h) 4 ?_
        refine z 6 5 (.int .u64 (mX (got E (Ky.mk 13 id 0)) 0)) ?_
        refine z 7 6 (.int .u64 (mX (got E (Ky.mk 13 id 0)) 1)) ?_
        refine z 8 7 (.int .u64 (mX (got E (Ky.mk 13 id 0)) 4)) ?_
        refine gz_done ?_
        refine ge_bn ?_
        refine ge_then ?_
        refine gc_fr [(0, pg q), (3, pg g2), (4, .bool false), (5, .int .u64 (mX (got E (Ky.mk 13 id 0)) 0)), (6, .int .u64 (mX (got E (Ky.mk 13 id 0)) 1)), (7, .int .u64 (mX (got E (Ky.mk 13 id 0)) 4))] (by kernel_rfl) ?_
        refine gc_seq ?_
        refine gc_reg ?_
        refine t 50 (pg q) ?_
        refine t 51 (pq g2 1) ?_
        refine tl 52 (.int .i64 k) Xg2 1 ?_
        refine t 53 (pg g2) ?_
        refine tl 54 (.int .u64 id) Xg2 0 ?_
        refine tc 55 9 #[.int .i64 k, .int .u64 id, .int .u64 0] (key9 hid (by rw [c48]; exact mkE13 id)) ?_
        rintro _ v58 ⟨kv57, rfl, U56, B⟩
        refine ⟨_, rfl, ?_⟩
        replace A := A.keep B
        replace Xg2 := Xg2.keep B
        replace Qr51 := Qr51.keep B
        replace Xg54 := Xg54.keep B
        clear B
        have L60 := Pw.rem_len E (Ky.mk k id 0)
        refine tc 56 55 #[pg q, kv57] (rxdel A.rx U56 (Nat.le_trans (Ky.mk_len _ _ _) (by decide)) (by omega) (by omega)) ?_
        rintro _ v61 ⟨rfl, K59, S, hK, hC⟩
        refine ⟨_, rfl, ?_⟩
        replace Qr51 := Qr51.op hK hC
        have mXg2 := not_op Xg2 nXg2 hK
        replace Xg2 := Xg2.chg hC nXg2
        replace nXg2 := mXg2
        clear mXg2
        have mXg54 := not_op Xg54 nXg54 hK
        replace Xg54 := Xg54.chg hC nXg54
        replace nXg54 := mXg54
        clear mXg54
        replace U56 := A.byu U56 hC
        replace A := A.op S hK hC
        clear S hK hC
        clear U56
        refine gl_nil ?_
        refine ge_then ?_
        refine gc_seq ?_
        refine gc_reg ?_
        refine t 57 (pg q) ?_
        refine t 58 (.int .u64 (mX (got E (Ky.mk 13 id 0)) 4)) ?_
        refine t 59 (pg g2) ?_
        refine tl 60 (.int .u64 id) Xg2 0 ?_
        refine tc 61 9 #[.int .i64 14, .int .u64 (mX (got E (Ky.mk 13 id 0)) 4), .int .u64 id] (key9 (mX_rng (hoc _) 4) (mkE14 (mX (got E (Ky.mk 13 id 0)) 4) id)) ?_
        rintro _ v64 ⟨kv63, rfl, U62, B⟩
        refine ⟨_, rfl, ?_⟩
        replace A := A.keep B
        replace Xg2 := Xg2.keep B
        replace Qr51 := Qr51.keep B
        replace Xg54 := Xg54.keep B
        clear B
        have L66 := Pw.rem_len (rem E (Ky.mk k id 0)) (Ky.mk 14 (mX (got E (Ky.mk 13 id 0)) 4) id)
        refine tc 62 55 #[pg q, kv63] (rxdel A.rx U62 (Nat.le_trans (Ky.mk_len _ _ _) (by decide)) (by omega) (by omega)) ?_
        rintro _ v67 ⟨rfl, K65, S, hK, hC⟩
        refine ⟨_, rfl, ?_⟩
        replace Qr51 := Qr51.op hK hC
        have mXg2 := not_op Xg2 nXg2 hK
        replace Xg2 := Xg2.chg hC nXg2
        replace nXg2 := mXg2
        clear mXg2
        have mXg54 := not_op Xg54 nXg54 hK
        replace Xg54 := Xg54.chg hC nXg54
        replace nXg54 := mXg54
        clear mXg54
        replace U62 := A.byu U62 hC
        replace A := A.op S hK hC
        clear S hK hC
        clear U62
        refine gl_nil ?_
        refine ge_then ?_
        refine gc_fr [(0, pg q), (3, pg g2), (4, .bool false), (5, .int .u64 (mX (got E (Ky.mk 13 id 0)) 0)), (6, .int .u64 (mX (got E (Ky.mk 13 id 0)) 1))] (by kernel_rfl) ?_
        refine gc_seq ?_
        refine gc_reg ?_
        refine t 63 (pg q) ?_
        refine t 64 (.int .u64 (mX (got E (Ky.mk 13 id 0)) 1)) ?_
        refine t 65 (pg g2) ?_
        refine tl 66 (.int .u64 id) Xg2 0 ?_
        refine tc 67 9 #[.int .i64 15, .int .u64 (mX (got E (Ky.mk 13 id 0)) 1), .int .u64 id] (key9 (mX_rng (hoc _) 1) (mkE15 (mX (got E (Ky.mk 13 id 0)) 1) id)) ?_
        rintro _ v70 ⟨kv69, rfl, U68, B⟩
        refine ⟨_, rfl, ?_⟩
        replace A := A.keep B
        replace Xg2 := Xg2.keep B
        replace Qr51 := Qr51.keep B
        replace Xg54 := Xg54.keep B
        clear B
        have L72 := Pw.rem_len (rem (rem E (Ky.mk k id 0)) (Ky.mk 14 (mX (got E (Ky.mk 13 id 0)) 4) id)) (Ky.mk 15 (mX (got E (Ky.mk 13 id 0)) 1) id)
        refine tc 68 55 #[pg q, kv69] (rxdel A.rx U68 (Nat.le_trans (Ky.mk_len _ _ _) (by decide)) (by omega) (by omega)) ?_
        rintro _ v73 ⟨rfl, K71, S, hK, hC⟩
        refine ⟨_, rfl, ?_⟩
        replace Qr51 := Qr51.op hK hC
        have mXg2 := not_op Xg2 nXg2 hK
        replace Xg2 := Xg2.chg hC nXg2
        replace nXg2 := mXg2
        clear mXg2
        have mXg54 := not_op Xg54 nXg54 hK
        replace Xg54 := Xg54.chg hC nXg54
        replace nXg54 := mXg54
        clear mXg54
        replace U68 := A.byu U68 hC
        replace A := A.op S hK hC
        clear S hK hC
        clear U68
        refine gl_nil ?_
        refine ge_then ?_
        refine gc_seq ?_
        refine gc_reg ?_
        refine t 69 (.int .u64 (mX (got E (Ky.mk 13 id 0)) 0)) ?_
        refine t 70 (.int .u64 (mX (got E (Ky.mk 13 id 0)) 1)) ?_
        refine tc 71 9 #[.int .i64 17, .int .u64 (mX (got E (Ky.mk 13 id 0)) 0), .int .u64 (mX (got E (Ky.mk 13 id 0)) 1)] (key9 (mX_rng (hoc _) 0) (mkE17 (mX (got E (Ky.mk 13 id 0)) 0) (mX (got E (Ky.mk 13 id 0)) 1))) ?_
        rintro _ v76 ⟨kv75, rfl, U74, B⟩
        refine ⟨_, rfl, ?_⟩
        replace A := A.keep B
        replace Xg2 := Xg2.keep B
        replace Qr51 := Qr51.keep B
        replace Xg54 := Xg54.keep B
        clear B
        refine t 12 (kv75) ?_
        refine gl_nil ?_
        refine ge_then ?_
        refine gc_seq ?_
        refine gc_reg ?_
        refine t 72 (pg q) ?_
        refine t 73 (kv75) ?_
        refine tc 74 56 #[pg q, kv75] (rnumber A.rx U74 (Nat.le_trans (Ky.mk_len _ _ _) (by decide)) (by omega) (by omega)) ?_
        rintro _ v78 ⟨rfl, K77, S, hK, hC⟩
        refine ⟨_, rfl, ?_⟩
        replace Qr51 := Qr51.op hK hC
        have mXg2 := not_op Xg2 nXg2 hK
        replace Xg2 := Xg2.chg hC nXg2
        replace nXg2 := mXg2
        clear mXg2
        have mXg54 := not_op Xg54 nXg54 hK
        replace Xg54 := Xg54.chg hC nXg54
        replace nXg54 := mXg54
        clear mXg54
        replace U74 := A.byu U74 hC
        replace A := A.op S hK hC
        clear S hK hC
        refine t 13 (.int .u64 (numB (got (rem (rem (rem E (Ky.mk k id 0)) (Ky.mk 14 (mX (got E (Ky.mk 13 id 0)) 4) id)) (Ky.mk 15 (mX (got E (Ky.mk 13 id 0)) 1) id)) (Ky.mk 17 (mX (got E (Ky.mk 13 id 0)) 0) (mX (got E (Ky.mk 13 id 0)) 1))))) ?_
        refine gl_nil ?_
        refine ge_then ?_
        refine gc_fr [(0, pg q), (4, .bool false), (12, kv75), (13, .int .u64 (numB (got (rem (rem (rem E (Ky.mk k id 0)) (Ky.mk 14 (mX (got E (Ky.mk 13 id 0)) 4) id)) (Ky.mk 15 (mX (got E (Ky.mk 13 id 0)) 1) id)) (Ky.mk 17 (mX (got E (Ky.mk 13 id 0)) 0) (mX (got E (Ky.mk 13 id 0)) 1)))))] (by kernel_rfl) ?_
        refine gc_seq ?_
        refine gc_seq ?_
        refine gc_reg ?_
        refine t 75 (.int .u64 (numB (got (rem (rem (rem E (Ky.mk k id 0)) (Ky.mk 14 (mX (got E (Ky.mk 13 id 0)) 4) id)) (Ky.mk 15 (mX (got E (Ky.mk 13 id 0)) 1) id)) (Ky.mk 17 (mX (got E (Ky.mk 13 id 0)) 0) (mX (got E (Ky.mk 13 id 0)) 1))))) ?_
        by_cases c79 : (numB (got (rem (rem (rem E (Ky.mk k id 0)) (Ky.mk 14 (mX (got E (Ky.mk 13 id 0)) 4) id)) (Ky.mk 15 (mX (got E (Ky.mk 13 id 0)) 1) id)) (Ky.mk 17 (mX (got E (Ky.mk 13 id 0)) 0) (mX (got E (Ky.mk 13 id 0)) 1))) : Int) ≤ 1
        · refine tq 76 (.bool (decide ((numB (got (rem (rem (rem E (Ky.mk k id 0)) (Ky.mk 14 (mX (got E (Ky.mk 13 id 0)) 4) id)) (Ky.mk 15 (mX (got E (Ky.mk 13 id 0)) 1) id)) (Ky.mk 17 (mX (got E (Ky.mk 13 id 0)) 0) (mX (got E (Ky.mk 13 id 0)) 1))) : Int) ≤ 1))) (.bool true) (congrArg Value.bool (decide_eq_true c79)) ?_
          refine gl_nil ?_
          refine ge_then ?_
          refine gc_yes ?_
          refine gc_reg ?_
          refine t 77 (pg q) ?_
          refine t 78 (kv75) ?_
          have L81 := Pw.rem_len (rem (rem (rem E (Ky.mk k id 0)) (Ky.mk 14 (mX (got E (Ky.mk 13 id 0)) 4) id)) (Ky.mk 15 (mX (got E (Ky.mk 13 id 0)) 1) id)) (Ky.mk 17 (mX (got E (Ky.mk 13 id 0)) 0) (mX (got E (Ky.mk 13 id 0)) 1))
          refine tc 79 55 #[pg q, kv75] (rxdel A.rx U74 (Nat.le_trans (Ky.mk_len _ _ _) (by decide)) (by omega) (by omega)) ?_
          rintro _ v82 ⟨rfl, K80, S, hK, hC⟩
          refine ⟨_, rfl, ?_⟩
          replace Qr51 := Qr51.op hK hC
          have mXg2 := not_op Xg2 nXg2 hK
          replace Xg2 := Xg2.chg hC nXg2
          replace nXg2 := mXg2
          clear mXg2
          have mXg54 := not_op Xg54 nXg54 hK
          replace Xg54 := Xg54.chg hC nXg54
          replace nXg54 := mXg54
          clear mXg54
          replace U74 := A.byu U74 hC
          replace A := A.op S hK hC
          clear S hK hC
          clear U74
          refine gl_nil ?_
          refine ge_then ?_
          refine gc_seq ?_
          refine gc_reg ?_
          refine t 4 (.bool true) ?_
          refine gl_nil ?_
          refine ge_then ?_
          refine gc_ret ?_
          refine ge_ret (.bool true) (rs1 4 (by kernel_rfl) (by kernel_rfl)) ?_
          have e1 : rdropE E id k = rem (rem (rem (rem E (Ky.mk k id 0)) (Ky.mk 14 (mX (got E (Ky.mk 13 id 0)) 4) id)) (Ky.mk 15 (mX (got E (Ky.mk 13 id 0)) 1) id)) (Ky.mk 17 (mX (got E (Ky.mk 13 id 0)) 0) (mX (got E (Ky.mk 13 id 0)) 1)) := by unfold rdropE; rw [if_neg c3, if_pos c48, if_pos c49]; exact if_pos c79
          have e2 : dropB E id k = true := by unfold dropB; rw [if_neg c3, if_pos c48, c49]
          rw [e1, e2]
          exact ⟨rfl, _, _, A.rx, by omega, A.xm, A.cc⟩
        · refine tq 76 (.bool (decide ((numB (got (rem (rem (rem E (Ky.mk k id 0)) (Ky.mk 14 (mX (got E (Ky.mk 13 id 0)) 4) id)) (Ky.mk 15 (mX (got E (Ky.mk 13 id 0)) 1) id)) (Ky.mk 17 (mX (got E (Ky.mk 13 id 0)) 0) (mX (got E (Ky.mk 13 id 0)) 1))) : Int) ≤ 1))) (.bool false) (congrArg Value.bool (decide_eq_false c79)) ?_
          refine gl_nil ?_
          refine ge_then ?_
          refine gc_no ?_
          refine gc_reg ?_
          refine t 80 (pg q) ?_
          refine t 81 (kv75) ?_
          refine t 82 (.int .u64 (numB (got (rem (rem (rem E (Ky.mk k id 0)) (Ky.mk 14 (mX (got E (Ky.mk 13 id 0)) 4) id)) (Ky.mk 15 (mX (got E (Ky.mk 13 id 0)) 1) id)) (Ky.mk 17 (mX (got E (Ky.mk 13 id 0)) 0) (mX (got E (Ky.mk 13 id 0)) 1))))) ?_
          refine tq 83 (.int .u64 (IntKind.u64.wrap (numB (got (rem (rem (rem E (Ky.mk k id 0)) (Ky.mk 14 (mX (got E (Ky.mk 13 id 0)) 4) id)) (Ky.mk 15 (mX (got E (Ky.mk 13 id 0)) 1) id)) (Ky.mk 17 (mX (got E (Ky.mk 13 id 0)) 0) (mX (got E (Ky.mk 13 id 0)) 1))) - 1))) (.int .u64 ((numB (got (rem (rem (rem E (Ky.mk k id 0)) (Ky.mk 14 (mX (got E (Ky.mk 13 id 0)) 4) id)) (Ky.mk 15 (mX (got E (Ky.mk 13 id 0)) 1) id)) (Ky.mk 17 (mX (got E (Ky.mk 13 id 0)) 0) (mX (got E (Ky.mk 13 id 0)) 1))) - 1) % 18446744073709551616)) (congrArg (Value.int .u64) (IntKind.wrap_u64 _)) ?_
          refine tc 84 57 #[.int .u64 ((numB (got (rem (rem (rem E (Ky.mk k id 0)) (Ky.mk 14 (mX (got E (Ky.mk 13 id 0)) 4) id)) (Ky.mk 15 (mX (got E (Ky.mk 13 id 0)) 1) id)) (Ky.mk 17 (mX (got E (Ky.mk 13 id 0)) 0) (mX (got E (Ky.mk 13 id 0)) 1))) - 1) % 18446744073709551616)] (rput_number) ?_
          rintro _ v85 ⟨pv84, rfl, U83, B⟩
          refine ⟨_, rfl, ?_⟩
          replace A := A.keep B
          replace Xg2 := Xg2.keep B
          replace Qr51 := Qr51.keep B
          replace Xg54 := Xg54.keep B
          replace U74 := byu_keep U74 B
          clear B
          have L87 := Pw.put_len (rem (rem (rem E (Ky.mk k id 0)) (Ky.mk 14 (mX (got E (Ky.mk 13 id 0)) 4) id)) (Ky.mk 15 (mX (got E (Ky.mk 13 id 0)) 1) id)) (Ky.mk 17 (mX (got E (Ky.mk 13 id 0)) 0) (mX (got E (Ky.mk 13 id 0)) 1)) (nv ((numB (got (rem (rem (rem E (Ky.mk k id 0)) (Ky.mk 14 (mX (got E (Ky.mk 13 id 0)) 4) id)) (Ky.mk 15 (mX (got E (Ky.mk 13 id 0)) 1) id)) (Ky.mk 17 (mX (got E (Ky.mk 13 id 0)) 0) (mX (got E (Ky.mk 13 id 0)) 1))) - 1) % 18446744073709551616))
          refine tc 85 8 #[pg q, kv75, pv84] (rxset A.rx U74 U83 (by omega) (by omega) (setE_mk (mkE17 (mX (got E (Ky.mk 13 id 0)) 0) (mX (got E (Ky.mk 13 id 0)) 1)) (Nat.le_trans (nv_len _) (by decide)))) ?_
          rintro _ v88 ⟨rfl, K86, S, hK, hC⟩
          refine ⟨_, rfl, ?_⟩
          replace Qr51 := Qr51.op hK hC
          have mXg2 := not_op Xg2 nXg2 hK
          replace Xg2 := Xg2.chg hC nXg2
          replace nXg2 := mXg2
          clear mXg2
          have mXg54 := not_op Xg54 nXg54 hK
          replace Xg54 := Xg54.chg hC nXg54
          replace nXg54 := mXg54
          clear mXg54
          replace U74 := A.byu U74 hC
          replace U83 := A.byu U83 hC
          replace A := A.op S hK hC
          clear S hK hC
          refine gl_nil ?_
          refine ge_then ?_
          refine gc_seq ?_
          refine gc_reg ?_
          refine t 4 (.bool true) ?_
          refine gl_nil ?_
          refine ge_then ?_
          refine gc_ret ?_
          refine ge_ret (.bool true) (rs1 4 (by kernel_rfl) (by kernel_rfl)) ?_
          have e1 : rdropE E id k = put (rem (rem (rem E (Ky.mk k id 0)) (Ky.mk 14 (mX (got E (Ky.mk 13 id 0)) 4) id)) (Ky.mk 15 (mX (got E (Ky.mk 13 id 0)) 1) id)) (Ky.mk 17 (mX (got E (Ky.mk 13 id 0)) 0) (mX (got E (Ky.mk 13 id 0)) 1)) (nv ((numB (got (rem (rem (rem E (Ky.mk k id 0)) (Ky.mk 14 (mX (got E (Ky.mk 13 id 0)) 4) id)) (Ky.mk 15 (mX (got E (Ky.mk 13 id 0)) 1) id)) (Ky.mk 17 (mX (got E (Ky.mk 13 id 0)) 0) (mX (got E (Ky.mk 13 id 0)) 1))) - 1) % 18446744073709551616)) := by unfold rdropE; rw [if_neg c3, if_pos c48, if_pos c49]; exact if_neg c79
          have e2 : dropB E id k = true := by unfold dropB; rw [if_neg c3, if_pos c48, c49]
          rw [e1, e2]
          exact ⟨rfl, _, _, A.rx, by omega, A.xm, A.cc⟩
      · refine tc 39 52 #[pg q, .int .u64 id] (rmovingb A.rx hid (by omega) (by omega) (Bool.eq_false_iff.2 c49)) ?_
        rintro _ v91 ⟨ar90, nr90, cr90, rfl, zr90, K89, S, hK, hC, Qr90, mr90, hzr90⟩
        refine ⟨_, rfl, ?_⟩
        have kXg2r90 := Xg2.lt
        have sr90 := A.size
        have mXg2 := not_op Xg2 nXg2 hK
        replace Xg2 := Xg2.chg hC nXg2
        replace nXg2 := mXg2
        clear mXg2
        replace A := A.op S hK hC
        clear S hK hC
        refine t 35 (.tuple #[.agg (mA (got E (Ky.mk 13 id 0)) (.slice ar90 nr90 cr90)), .bool false]) ?_
        refine t 40 (.agg (mA (got E (Ky.mk 13 id 0)) (.slice ar90 nr90 cr90))) ?_
        refine t 41 (.bool false) ?_
        have lXg2 := Xg2.lt
        have lQr90 := Qr90.lt
        refine ta 10 [.int .u64 0, .int .u64 0, .int .u64 0, .int .u64 0, .int .u64 0, .int .u64 0, .slice none 0 0] 48 (pg) ?_
        intro v92 g93 Xg93 hg93 B
        have zg93 := Nat.le_trans A.size hg93
        have nXg93 := A.new hg93
        replace A := A.keep B
        replace Xg2 := Xg2.keep B
        replace Qr90 := Qr90.keep B
        clear B
        refine ts Xg93 0 (.agg (mA (got E (Ky.mk 13 id 0)) (.slice ar90 nr90 cr90))) (mL (got E (Ky.mk 13 id 0)) (.slice ar90 nr90 cr90)) (mL (got E (Ky.mk 13 id 0)) (.slice ar90 nr90 cr90)) ?_
        intro v94 Y C
        replace A := Ar.cell A Xg93 C zg93 nXg93 (by decide)
        replace Xg2 := Xg2.chg C (show g2 ≠ g93 by omega)
        replace Qr90 := Qr90.cell C (show nr90 = 0 ∨ zr90 ≠ g93 by omega)
        clear C Xg93
        have Xg93 := Y
        clear Y
        refine t 11 (.bool false) ?_
        refine gl_nil ?_
        refine ge_then ?_
        refine gc_seq ?_
        refine gc_seq ?_
        refine gc_reg ?_
        refine t 42 (.bool false) ?_
        refine t 43 (.bool true) ?_
        refine gl_nil ?_
        refine ge_then ?_
        refine gc_yes ?_
        refine gc_seq ?_
        refine gc_reg ?_
        refine t 4 (.bool false) ?_
        refine gl_nil ?_
        refine ge_then ?_
        refine gc_fr [(0, pg q), (3, pg g2), (4, .bool false), (5, .int .u64 0), (6, .int .u64 0), (7, .int .u64 0), (10, pg g93)] (by kernel_rfl) ?_
        refine gc_ret ?_
        refine ge_tr ?_
        refine ge_br ?_
        refine ge_tr ?_
        refine ge_ret (.bool false) (rs1 4 (by kernel_rfl) (by kernel_rfl)) ?_
        have e1 : rdropE E id k = E := by unfold rdropE; rw [if_neg c3, if_pos c48, if_neg c49]
        have e2 : dropB E id k = false := by unfold dropB; rw [if_neg c3, if_pos c48, Bool.eq_false_iff.2 c49]
        rw [e1, e2]
        exact ⟨rfl, _, _, A.rx, by omega, A.xm, A.cc⟩
    · refine tq 34 (.bool ((k : Int) == 13)) (.bool false) (congrArg Value.bool (beq_eq_false_iff_ne.2 c48)) ?_
      refine t 33 (.bool false) ?_
      refine gl_nil ?_
      refine ge_then ?_
      refine gc_fr [(0, pg q), (3, pg g2), (4, .bool false), (5, .int .u64 0), (6, .int .u64 0), (7, .int .u64 0), (33, .bool false)] (by kernel_rfl) ?_
      refine gc_no ?_
      refine gc_seq ?_
      refine gc_reg ?_
      refine t 4 (.bool false) ?_
      refine gl_nil ?_
      refine ge_then ?_
      refine gc_ret ?_
      refine ge_br ?_
      refine ge_tr ?_
      refine ge_ret (.bool false) (rs1 4 (by kernel_rfl) (by kernel_rfl)) ?_
      have e1 : rdropE E id k = E := by unfold rdropE; rw [if_neg c3, if_neg c48]
      have e2 : dropB E id k = false := by unfold dropB; rw [if_neg c3, if_neg c48]
      rw [e1, e2]
      exact ⟨rfl, _, _, A.rx, by omega, A.xm, A.cc⟩
end Qu
end Go.Proofs.YtidnifmehnjipaaGreat

namespace Go.Proofs.YtidnifmehnjipaaGreat
namespace Pw
open Go.RowKit Go.Lib Pg Lim Gl Kv Bk
attribute [local go_sem] Oper.semAt_some
set_option maxRecDepth 100000
set_option linter.unusedSimpArgs false
set_option linter.unusedVariables false
set_option maxHeartbeats 2000000
/-- keys of the index and of marks are read as they were made -/
structure Po (E : Ents) : Prop where
  k10 : ∀ x ∈ E, [105] <+: x.1 → Ky.frm (10 : Nat) = Ky.fIn x.1
  k11 : ∀ x ∈ E, [98] <+: x.1 → Ky.frm (11 : Nat) = Ky.fIn x.1
theorem po_nil : Po [] := ⟨fun x h => by simp at h, fun x h => by simp at h⟩
theorem mem_put {E : Ents} {k v : List Int} {x : KV} (h : x ∈ put E k v) : x ∈ E ∨ x = (k, v) := by
  unfold put at h
  rcases List.mem_append.1 h with h | h
  · exact .inl (List.mem_filter.1 h).1
  · rcases List.mem_cons.1 h with h | h
    · exact .inr h
    · exact .inl (List.mem_filter.1 h).1
theorem mk10_head (tk v : Int) : ∃ r, Ky.mk 10 tk v = 105 :: r := ⟨_, by rw [Ky.mk_eq (k := 10) (n := 17) (m0 := 105) (m1 := 0) rfl]; rfl⟩
theorem mk11_head (v : Int) : ∃ r, Ky.mk 11 v 0 = 98 :: r := ⟨_, by rw [Ky.mk_eq (k := 11) (n := 9) (m0 := 98) (m1 := 0) rfl]; rfl⟩
section
variable {E : Ents} {v tk : Int}
theorem Po.put10 (h : Po E) (ht : 0 ≤ tk ∧ tk < 18446744073709551616) (hv : 0 ≤ v ∧ v < 18446744073709551616) : Po (put E (Ky.mk 10 tk v) []) := by
  obtain ⟨r, hr⟩ := mk10_head tk v
  have f := (Ky.mk_back (k := 10) (by decide) (by decide) ht hv (mkE10 tk v)).1
  refine ⟨fun x hx hp => ?_, fun x hx hp => ?_⟩
  · rcases mem_put hx with h1 | rfl
    · exact h.k10 x h1 hp
    · exact f
  · rcases mem_put hx with h1 | rfl
    · exact h.k11 x h1 hp
    · rw [show ((Ky.mk 10 tk v, ([] : List Int)) : KV).1 = 105 :: r from hr] at hp
      simp at hp
theorem Po.put11 (h : Po E) (hv : 0 ≤ v ∧ v < 18446744073709551616) : Po (put E (Ky.mk 11 v 0) []) := by
  obtain ⟨r, hr⟩ := mk11_head v
  have f := (Ky.mk_back (k := 11) (by decide) (by decide) hv (b := 0) (by decide) (mkE11 v)).1
  refine ⟨fun x hx hp => ?_, fun x hx hp => ?_⟩
  · rcases mem_put hx with h1 | rfl
    · exact h.k10 x h1 hp
    · rw [show ((Ky.mk 11 v 0, ([] : List Int)) : KV).1 = 98 :: r from hr] at hp
      simp at hp
  · rcases mem_put hx with h1 | rfl
    · exact h.k11 x h1 hp
    · exact f
theorem Po.rem (h : Po E) (k : List Int) : Po (Kv.rem E k) := ⟨fun x hx => h.k10 x (List.mem_filter.1 hx).1, fun x hx => h.k11 x (List.mem_filter.1 hx).1⟩
end
structure NumF (B : Nat) (w : World) (K : Nat → Prop) (g : Nat) (E : Ents) (W : List Ents) (n N k : Nat) (l : List Int) (e : Ending) (w' : World) : Prop where
  ex : ∃ v n', e = .returned v ∧ UA w' w.heap.size v l ∧ Sx B w' K g E W n' N ∧ n ≤ n' ∧ n' ≤ n + 1 + k ∧ Chg (· = g) w w'
theorem dumpP {B : Nat} {w : World} {K : Nat → Prop} {g : Nat} {E : Ents} {W : List Ents} {n N : Nat} (h : Sx B w K g E W n N) (hN : N ≤ 100000000) : Calls Tryz.prog 23 #[pg g] w fun e w' => ∃ v es, e = .returned v ∧ PrA w' w.heap.size v es ∧ es.map En.kl2 = E ∧ Zp K w.heap.size w' w' ∧ Below w.heap.size w w' := by
  refine (sdump h.sa hN).mono ?_
  rintro e w' ⟨v, es, rfl, P, he, B⟩
  exact ⟨v, es, rfl, P, he, zp_new (fun b hb => h.sa.lt hb), B⟩
theorem pairsP {B : Nat} {w : World} {K : Nat → Prop} {g : Nat} {E : Ents} {W : List Ents} {n N : Nat} {n1 n2 : Nat} {u v : Value} {a b : List En} (h : Sx B w K g E W n N) (hN : N ≤ 100000000) (ha : PrA w n1 u a) (hb : PrA w n2 v b) (ea : a.map En.kl2 = E) (eb : b.map En.kl2 = E) : Calls Tryz.prog 22 #[u, v] w fun e w' => e = .returned (.bool true) ∧ Below w.heap.size w w' := by
  refine pairs_same ha hb (ea.trans eb.symm) (fun x hx => ?_) ?_
  · exact h.sa.small (x.kl, x.vl) (by rw [← ea]; exact List.mem_map.2 ⟨x, hx, rfl⟩)
  · have h1 := h.sa.size
    rw [← ea, List.length_map] at h1
    omega
theorem run_max0 {ρ : Operand → Value} {w : World} {o : Oper} {x : Int} (ho : ∃ p, o.op = .call { callee := .builtin .max, args := #[p, .const (.int .i64 0)], argTypes := #[3, 3] } ∧ ρ p = .int .i64 x ∧ ρ (.const (.int .i64 0)) = .int .i64 0 := by exact ⟨_, rfl, by kernel_rfl, by kernel_rfl⟩) : (execOp ρ o).run Tryz.prog w = .ok (.value (.int .i64 (if x < 0 then 0 else x))) w := by
  obtain ⟨p, h, h1, h2⟩ := ho
  unfold execOp
  simp only [h, resolve, invoke, builtin, Sem.run_bind, Sem.run_pure, Result.andThen_ok, List.map_toArray, List.map_cons, List.map_nil, h1, h2]
  simp [Builtin.max_, Builtin.max2]
/-- steps, as an argument lays them -/
structure StpP (w : World) (ao : Option Addr) (n b o : Nat) (sw sm sv st : Nat → Int) : Prop where
  ptr : 0 < n → ao = some ⟨b, o, none⟩
  cell : ∀ i, i < n → w.cell? ⟨b, o + i * 4, none⟩ = some (.int .i64 (sw i)) ∧ w.cell? ⟨b, o + i * 4 + 1, none⟩ = some (.int .i64 (sm i)) ∧ w.cell? ⟨b, o + i * 4 + 2, none⟩ = some (.int .u64 (sv i)) ∧ w.cell? ⟨b, o + i * 4 + 3, none⟩ = some (.int .u64 (st i))
  rng : ∀ i, i < n → (0 ≤ sv i ∧ sv i < 18446744073709551616) ∧ (0 ≤ st i ∧ st i < 18446744073709551616)
  few : n ≤ 9223372036854775807
section
variable {B : Nat} {w w' : World} {K K' X X' : Nat → Prop} {g q : Nat} {E E2 : Ents} {W : List Ents} {n N n2 : Nat}
theorem Rx.new {x : Nat} (h : Rx B w X q E n) (hx : w.heap.size ≤ x) : ¬ X x := fun hk => by have := h.lt hk; omega
theorem Rx.cell {x : Nat} {cs : List Value} {t : TypeId} (h : Rx B w X q E n) (Y : Blk w x cs t) (C : Chg (· = x) w w') (hk : ¬ X x) (ht : t ≠ 5) : Rx B w' X q E n :=
  h.off C (fun b e hb => hk ((show b = x from e) ▸ hb)) (fun b e cs' k => by have e' : b = x := e; subst e'; exact ht (Y.eq k).2)
theorem dj_sx (r : Rx B w X q E2 n2) (dj : ∀ b, K b → ¬ X b) (hK : ∀ b, K' b → K b ∨ w.heap.size ≤ b) : ∀ b, K' b → ¬ X b := fun b hb hx => (hK b hb).elim (fun h => dj b h hx) (fun h => by have := r.lt hx; omega)
theorem dj_rx (s : Sx B w K g E W n N) (dj : ∀ b, K b → ¬ X b) (hX : ∀ b, X' b → X b ∨ w.heap.size ≤ b) : ∀ b, K b → ¬ X' b := fun b hb hx => (hX b hx).elim (dj b hb) (fun h => by have := s.sa.lt hb; omega)
theorem Sx.besideR (s : Sx B w K g E W n N) (r : Rx B w X q E2 n2) (hC : Chg X w w') (dj : ∀ b, K b → ¬ X b) : Sx B w' K g E W n N :=
  ⟨s.sa.chg hC (fun b hx hk => dj b hk hx) (fun b hx cs k => by obtain ⟨_, _, k', ht⟩ := r.kind b hx; exact ht (k'.eq k).2), Nat.le_trans s.lo hC.size, s.kb⟩
theorem rx_new (Y : Blk w q [.slice none 0 0, .slice none 0 0, .int .i64 0] 33) (hB : B ≤ w.heap.size ∧ B ≤ q) : Rx B w (· = q) q [] 0 :=
  ⟨⟨⟨_, _, Y, ⟨⟨[], Pq.nil _ _ _, rfl⟩, fun b m c e => by cases e⟩, ⟨.inl ⟨rfl, rfl⟩⟩⟩, rfl, fun b e => by have e' : b = q := e; subst e'; exact ⟨hB.2, Y.lt⟩, List.Pairwise.nil, fun x h => by simp at h⟩, fun b e => by have e' : b = q := e; subst e'; exact ⟨_, _, Y, by decide⟩, hB.1⟩
end
end Pw
end Go.Proofs.YtidnifmehnjipaaGreat
