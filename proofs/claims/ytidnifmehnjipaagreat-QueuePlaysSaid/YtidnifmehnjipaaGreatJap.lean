/- Several texts, joined: QuA, QuB, BkB, QuC, QuD, QuN. -/
import Derived.Test.YtidnifmehnjipaaGreatJao
import Derived.Test.YtidnifmehnjipaaGreatJam
import Derived.LoopN
namespace Go.Proofs.YtidnifmehnjipaaGreat
namespace Qu
open Go.RowKit Go.Lib Pg Lim Gl Kv Bk Pw
attribute [local go_sem] Oper.semAt_some
set_option maxRecDepth 100000
set_option linter.unusedVariables false
set_option linter.unusedSimpArgs false
set_option maxHeartbeats 2000000
theorem qkey {w : World} {k a b : Int} (ha : 0 ≤ a ∧ a < 18446744073709551616) (hE : Ky.mkE k a b = false) : Calls Tryz.prog 64 #[.int .i64 k, .int .u64 a, .int .u64 b] w fun e w' => ∃ v, e = .returned v ∧ ByU w' v (Ky.mk k a b) ∧ Below w.heap.size w w' := by
  have BB := Below.refl w.heap.size w
  refine gc_enter (n := 18) Tryz.func64 rfl (by kernel_rfl) (by kernel_rfl) ?_
  refine gc_seq ?_
  refine gc_reg ?_
  refine t 6 (.slice none 0 0) ?_
  refine gl_nil ?_
  refine ge_then ?_
  refine gc_seq ?_
  refine gc_reg ?_
  refine t 10 (.int .i64 k) ?_
  refine t 11 (.int .u64 a) ?_
  refine t 12 (.int .u64 b) ?_
  refine t 13 (.agg #[.int .i64 k, .int .u64 a, .int .u64 b]) ?_
  refine tc 14 32 #[.agg #[.int .i64 k, .int .u64 a, .int .u64 b]] (mk_key ha hE) ?_
  rintro _ v3 ⟨kv2, rfl, U1, B⟩
  refine ⟨_, rfl, ?_⟩
  replace BB := joinB BB B
  clear B
  refine t 9 (.tuple #[kv2, .int .i64 0]) ?_
  refine t 15 (kv2) ?_
  refine t 16 (.int .i64 0) ?_
  refine t 7 (kv2) ?_
  refine t 8 (.int .i64 0) ?_
  refine gl_nil ?_
  refine ge_then ?_
  refine gc_fr [(6, .slice none 0 0), (7, kv2)] (by kernel_rfl) ?_
  refine gc_seq ?_
  refine gc_reg ?_
  refine t 17 (kv2) ?_
  refine t 6 (kv2) ?_
  refine gl_nil ?_
  refine ge_then ?_
  refine gc_ret ?_
  refine ge_ret (kv2) (rs1 6 (by kernel_rfl) (by kernel_rfl)) ?_
  exact ⟨_, rfl, U1, BB⟩
/-- a number's bytes -/
def nv (x : Int) : List Int := Rc.thr (Rc.pnx (fun o => ([x] : List Int).getD o 0)) [(0, 0)] []
def numB (l : List Int) : Int := Rc.outX (Rc.stNumber l) 0
def hgtB (l : List Int) : Int := Rc.outX (Rc.stChain l) 0
def nxtB (l : List Int) : Int := Rc.outX (Rc.stChain l) 1
def got (E : Ents) (k : List Int) : List Int := (Kv.look E k).getD []
theorem nv_len (x : Int) : (nv x).length ≤ 300 := by have := Rc.pnx_len (fun o => ([x] : List Int).getD o 0) [(0, 0)] []; simpa [nv] using this
theorem nv_oct (x : Int) : Oct (nv x) := Rc.thr_oct _ _ _ (fun _ h => by simp at h)
theorem setE_mk {k a b : Int} {v : List Int} (hE : Ky.mkE k a b = false) (hv : v.length ≤ 4096) : setE (Ky.mk k a b) v = 0 := by
  have h1 := mk_pos hE
  have h2 := Ky.mk_len k a b
  unfold setE
  rw [if_neg (by omega), if_neg (by omega)]
theorem qset {B : Nat} {w : World} {K : Nat → Prop} {g : Nat} {E : Ents} {W : List Ents} {n N : Nat} {kv vv : Value} {k a b : Int} {v : List Int} (h : Sx B w K g E W n N) (hk : ByU w kv (Ky.mk k a b)) (hE : Ky.mkE k a b = false) (hv : ByU w vv v) (hl : v.length ≤ 4096) (hn : n ≤ 4000000000000000000) (hN : N + 2 ≤ 100000000) :
    Calls Tryz.prog 33 #[pg g, kv, vv] w (SxE B w K g (put E (Ky.mk k a b) v) W (n + 1) (N + 2) (.int .i64 0)) := by
  have u := xset h hk hv hn hN
  rw [setE_mk hE hl, if_pos rfl] at u
  exact u
theorem chain_any {w : World} {v : Value} {l : List Int} (h : ByU w v l) (hl : l.length ≤ 1000000000) : Calls Tryz.prog 141 #[v] w fun e w' => e = .returned (.tuple #[.agg #[.int .u64 (hgtB l), .int .u64 (nxtB l)], .int .i64 (Rc.outR (Rc.stChain l))]) ∧ Below w.heap.size w w' := by
  obtain ⟨b, ao, c, rfl, h2⟩ := bya h.byt
  exact Rc.oChain h2 hl
theorem number_rd {w : World} {v : Value} {l : List Int} (h : ByU w v l) (hl : l.length ≤ 1000000000) : Calls Tryz.prog 65 #[v] w fun e w' => e = .returned (.tuple #[.int .u64 (numB l), .int .i64 (Rc.outR (Rc.stNumber l))]) ∧ Below w.heap.size w w' := by
  obtain ⟨b, ao, c, rfl, h2⟩ := bya h.byt
  exact Rc.oNumber h2 hl
theorem put_chain {w : World} {x y : Int} : Calls Tryz.prog 34 #[.agg #[.int .u64 x, .int .u64 y]] w fun e w' => ∃ v, e = .returned v ∧ ByU w' v (pv x y) ∧ Below w.heap.size w w' := by
  refine Rc.PutChain_any.mono ?_
  rintro e w' ⟨b, n, rfl, hn, X, hb, B⟩
  exact ⟨_, rfl, byu_box X (pv_oct x y) hn (Nat.le_trans (pv_len x y) (by decide)), B⟩
theorem put_number {w : World} {x : Int} : Calls Tryz.prog 93 #[.int .u64 x] w fun e w' => ∃ v, e = .returned v ∧ ByU w' v (nv x) ∧ Below w.heap.size w w' := by
  refine Rc.PutNumber_any.mono ?_
  rintro e w' ⟨b, n, rfl, hn, X, hb, B⟩
  exact ⟨_, rfl, byu_box X (nv_oct x) hn (Nat.le_trans (nv_len x) (by decide)), B⟩
theorem Sx.getlen {B : Nat} {w : World} {K : Nat → Prop} {g : Nat} {E : Ents} {W : List Ents} {n N : Nat} (h : Sx B w K g E W n N) (k : List Int) : (got E k).length ≤ 1000000000 := by
  unfold got
  cases e : Kv.look E k with
  | none => simp
  | some v => exact (h.sa.small _ (Kv.look_mem e)).2
theorem mkE2  : Ky.mkE 2 0 0 = false := by
  unfold Ky.mkE
  rw [show (Ky.frm 2).1 = 1 from rfl]
  simp
theorem mkE12 (a : Int) : Ky.mkE 12 a 0 = false := by
  unfold Ky.mkE
  rw [show (Ky.frm 12).1 = 9 from rfl]
  simp
theorem mkE13 (a : Int) : Ky.mkE 13 a 0 = false := by
  unfold Ky.mkE
  rw [show (Ky.frm 13).1 = 9 from rfl]
  simp
theorem mkE14 (a b : Int) : Ky.mkE 14 a b = false := by
  unfold Ky.mkE
  rw [show (Ky.frm 14).1 = 17 from rfl]
  simp
theorem mkE15 (a b : Int) : Ky.mkE 15 a b = false := by
  unfold Ky.mkE
  rw [show (Ky.frm 15).1 = 17 from rfl]
  simp
theorem mkE17 (a b : Int) : Ky.mkE 17 a b = false := by
  unfold Ky.mkE
  rw [show (Ky.frm 17).1 = 17 from rfl]
  simp
def chn (E : Ents) : List Int := got E (Ky.mk 2 0 0)
def nextE (E : Ents) : Ents := put E (Ky.mk 2 0 0) (pv (hgtB (chn E)) ((nxtB (chn E) + 1) % 18446744073709551616))
def cntQ (E : Ents) (a b : Int) : Int := numB (got E (Ky.mk 17 a b))
def cntE (E : Ents) (a b n : Int) : Ents := if n = 0 then rem E (Ky.mk 17 a b) else put E (Ky.mk 17 a b) (nv n)
theorem number_any {B : Nat} {w : World} {K : Nat → Prop} {g : Nat} {E : Ents} {W : List Ents} {n N : Nat}  (h : Sx B w K g E W n N)  (hn : n + 5 ≤ 4000000000000000000) (hN : N + 5 ≤ 100000000) : Calls Tryz.prog 90 #[pg g] w (SxE B w K g (nextE E) W (n + 2) (N + 2) (.int .u64 (nxtB (chn E)))) := by
  have A := h.at
  refine gc_enter (n := 33) Tryz.func90 rfl (by kernel_rfl) (by kernel_rfl) ?_
  refine gc_seq ?_
  refine gc_reg ?_
  refine t 2 (.int .u64 0) ?_
  refine gl_nil ?_
  refine ge_then ?_
  refine gc_seq ?_
  refine gc_reg ?_
  refine tc 9 64 #[.int .i64 2, .int .u64 0, .int .u64 0] (qkey ⟨by decide, by decide⟩ mkE2) ?_
  rintro _ v3 ⟨kv2, rfl, U1, B⟩
  refine ⟨_, rfl, ?_⟩
  replace A := A.keep B
  clear B
  refine t 3 (kv2) ?_
  refine gl_nil ?_
  refine ge_then ?_
  refine gc_seq ?_
  refine gc_reg ?_
  refine t 11 (pg g) ?_
  refine t 12 (kv2) ?_
  refine tc 13 63 #[pg g, kv2] (xget A.sx U1 (by omega) (by omega)) ?_
  rintro _ v6 ⟨gv4, rfl, U5, S, hC⟩
  refine ⟨_, rfl, ?_⟩
  replace U1 := A.byu U1 hC
  replace A := A.op S (fun _ h => .inl h) hC
  clear S hC
  refine t 10 (.tuple #[gv4, .bool (Kv.look E (Ky.mk 2 0 0)).isSome]) ?_
  refine t 14 (gv4) ?_
  refine t 15 (.bool (Kv.look E (Ky.mk 2 0 0)).isSome) ?_
  refine t 4 (gv4) ?_
  refine t 5 (.bool (Kv.look E (Ky.mk 2 0 0)).isSome) ?_
  refine gl_nil ?_
  refine ge_then ?_
  refine gc_fr [(0, pg g), (2, .int .u64 0), (3, kv2), (4, gv4)] (by kernel_rfl) ?_
  refine gc_seq ?_
  refine gc_reg ?_
  refine t 17 (gv4) ?_
  refine tc 18 141 #[gv4] (chain_any U5 (Sx.getlen A.sx _)) ?_
  rintro _ v7 ⟨rfl, B⟩
  refine ⟨_, rfl, ?_⟩
  replace A := A.keep B
  replace U1 := byu_keep U1 B
  replace U5 := byu_keep U5 B
  clear B
  clear U5
  refine t 16 (.tuple #[.agg #[.int .u64 (hgtB (got E (Ky.mk 2 0 0))), .int .u64 (nxtB (got E (Ky.mk 2 0 0)))], .int .i64 (Rc.outR (Rc.stChain (got E (Ky.mk 2 0 0))))]) ?_
  refine t 19 (.agg #[.int .u64 (hgtB (got E (Ky.mk 2 0 0))), .int .u64 (nxtB (got E (Ky.mk 2 0 0)))]) ?_
  refine t 20 (.int .i64 (Rc.outR (Rc.stChain (got E (Ky.mk 2 0 0))))) ?_
  refine ta 6 [.int .u64 0, .int .u64 0] 40 (pg) ?_
  intro v8 g9 Xg9 hg9 B
  have zg9 := Nat.le_trans A.size hg9
  have nXg9 := A.new hg9
  replace A := A.keep B
  replace U1 := byu_keep U1 B
  clear B
  refine ts Xg9 0 (.agg #[.int .u64 (hgtB (got E (Ky.mk 2 0 0))), .int .u64 (nxtB (got E (Ky.mk 2 0 0)))]) [.int .u64 (hgtB (got E (Ky.mk 2 0 0))), .int .u64 (nxtB (got E (Ky.mk 2 0 0)))] [.int .u64 (hgtB (got E (Ky.mk 2 0 0))), .int .u64 (nxtB (got E (Ky.mk 2 0 0)))] ?_
  intro v10 Y C
  replace A := Bk.At.cell A Xg9 C zg9 nXg9 (by decide)
  replace U1 := byu_cell U1 Xg9 C (by decide)
  clear C Xg9
  have Xg9 := Y
  clear Y
  refine t 7 (.int .i64 (Rc.outR (Rc.stChain (got E (Ky.mk 2 0 0))))) ?_
  refine gl_nil ?_
  refine ge_then ?_
  refine gc_seq ?_
  refine gc_reg ?_
  refine t 21 (pq g9 1) ?_
  refine tl 22 (.int .u64 (nxtB (got E (Ky.mk 2 0 0)))) Xg9 1 ?_
  refine t 8 (.int .u64 (nxtB (got E (Ky.mk 2 0 0)))) ?_
  refine gl_nil ?_
  refine ge_then ?_
  refine gc_seq ?_
  refine gc_reg ?_
  refine t 23 (pq g9 1) ?_
  refine tl 24 (.int .u64 (nxtB (got E (Ky.mk 2 0 0)))) Xg9 1 ?_
  refine tq 25 (.int .u64 (IntKind.u64.wrap (nxtB (got E (Ky.mk 2 0 0)) + 1))) (.int .u64 ((nxtB (got E (Ky.mk 2 0 0)) + 1) % 18446744073709551616)) (congrArg (Value.int .u64) (IntKind.wrap_u64 _)) ?_
  refine t 26 (pq g9 1) ?_
  refine ts Xg9 1 (.int .u64 ((nxtB (got E (Ky.mk 2 0 0)) + 1) % 18446744073709551616)) [.int .u64 ((nxtB (got E (Ky.mk 2 0 0)) + 1) % 18446744073709551616)] [.int .u64 (hgtB (got E (Ky.mk 2 0 0))), .int .u64 ((nxtB (got E (Ky.mk 2 0 0)) + 1) % 18446744073709551616)] ?_
  intro v11 Y C
  replace A := Bk.At.cell A Xg9 C zg9 nXg9 (by decide)
  replace U1 := byu_cell U1 Xg9 C (by decide)
  clear C Xg9
  have Xg9 := Y
  clear Y
  refine gl_nil ?_
  refine ge_then ?_
  refine gc_fr [(0, pg g), (2, .int .u64 0), (3, kv2), (6, pg g9), (8, .int .u64 (nxtB (got E (Ky.mk 2 0 0))))] (by kernel_rfl) ?_
  refine gc_seq ?_
  refine gc_reg ?_
  refine t 27 (pg g) ?_
  refine t 28 (kv2) ?_
  refine tlr 29 [.int .u64 (hgtB (got E (Ky.mk 2 0 0))), .int .u64 ((nxtB (got E (Ky.mk 2 0 0)) + 1) % 18446744073709551616)] Xg9 0 ?_
  refine tc 30 34 #[.agg #[.int .u64 (hgtB (got E (Ky.mk 2 0 0))), .int .u64 ((nxtB (got E (Ky.mk 2 0 0)) + 1) % 18446744073709551616)]] (put_chain) ?_
  rintro _ v14 ⟨pv13, rfl, U12, B⟩
  refine ⟨_, rfl, ?_⟩
  replace A := A.keep B
  replace U1 := byu_keep U1 B
  replace Xg9 := Xg9.keep B
  clear B
  refine tc 31 33 #[pg g, kv2, pv13] (qset A.sx U1 mkE2 U12 (Nat.le_trans (pv_len _ _) (by decide)) (by omega) (by omega)) ?_
  rintro _ v16 ⟨rfl, K15, S, hK, hC⟩
  refine ⟨_, rfl, ?_⟩
  replace U1 := A.byu U1 hC
  have mXg9 := not_op Xg9 nXg9 hK
  replace Xg9 := Xg9.chg hC nXg9
  replace nXg9 := mXg9
  clear mXg9
  replace U12 := A.byu U12 hC
  replace A := A.op S hK hC
  clear S hK hC
  clear U1
  clear U12
  refine gl_nil ?_
  refine ge_then ?_
  refine gc_seq ?_
  refine gc_reg ?_
  refine t 32 (.int .u64 (nxtB (got E (Ky.mk 2 0 0)))) ?_
  refine t 2 (.int .u64 (nxtB (got E (Ky.mk 2 0 0)))) ?_
  refine gl_nil ?_
  refine ge_then ?_
  refine gc_ret ?_
  refine ge_ret (.int .u64 (nxtB (got E (Ky.mk 2 0 0)))) (rs1 2 (by kernel_rfl) (by kernel_rfl)) ?_
  exact ⟨rfl, _, A.sx, A.km, A.cc⟩
theorem count_get {B : Nat} {w : World} {K : Nat → Prop} {g : Nat} {E : Ents} {W : List Ents} {n N : Nat} {a b : Int} (h : Sx B w K g E W n N) (ha : 0 ≤ a ∧ a < 18446744073709551616) (hn : n + 5 ≤ 4000000000000000000) (hN : N + 5 ≤ 100000000) : Calls Tryz.prog 24 #[pg g, .int .u64 a, .int .u64 b] w (SxE B w K g E W (n + 1) N (.int .u64 (cntQ E a b))) := by
  have A := h.at
  refine gc_enter (n := 25) Tryz.func24 rfl (by kernel_rfl) (by kernel_rfl) ?_
  refine gc_seq ?_
  refine gc_reg ?_
  refine t 6 (.int .u64 0) ?_
  refine gl_nil ?_
  refine ge_then ?_
  refine gc_seq ?_
  refine gc_reg ?_
  refine t 12 (pg g) ?_
  refine t 13 (.int .u64 a) ?_
  refine t 14 (.int .u64 b) ?_
  refine tc 15 64 #[.int .i64 17, .int .u64 a, .int .u64 b] (qkey ha (mkE17 a b)) ?_
  rintro _ v3 ⟨kv2, rfl, U1, B⟩
  refine ⟨_, rfl, ?_⟩
  replace A := A.keep B
  clear B
  refine tc 16 63 #[pg g, kv2] (xget A.sx U1 (by omega) (by omega)) ?_
  rintro _ v6 ⟨gv4, rfl, U5, S, hC⟩
  refine ⟨_, rfl, ?_⟩
  replace U1 := A.byu U1 hC
  replace A := A.op S (fun _ h => .inl h) hC
  clear S hC
  refine t 11 (.tuple #[gv4, .bool (Kv.look E (Ky.mk 17 a b)).isSome]) ?_
  refine t 17 (gv4) ?_
  refine t 18 (.bool (Kv.look E (Ky.mk 17 a b)).isSome) ?_
  refine t 7 (gv4) ?_
  refine t 8 (.bool (Kv.look E (Ky.mk 17 a b)).isSome) ?_
  refine gl_nil ?_
  refine ge_then ?_
  refine gc_fr [(6, .int .u64 0), (7, gv4)] (by kernel_rfl) ?_
  refine gc_seq ?_
  refine gc_reg ?_
  refine t 20 (gv4) ?_
  refine tc 21 65 #[gv4] (number_rd U5 (Sx.getlen A.sx _)) ?_
  rintro _ v7 ⟨rfl, B⟩
  refine ⟨_, rfl, ?_⟩
  replace A := A.keep B
  replace U1 := byu_keep U1 B
  replace U5 := byu_keep U5 B
  clear B
  clear U5
  refine t 19 (.tuple #[.int .u64 (numB (got E (Ky.mk 17 a b))), .int .i64 (Rc.outR (Rc.stNumber (got E (Ky.mk 17 a b))))]) ?_
  refine t 22 (.int .u64 (numB (got E (Ky.mk 17 a b)))) ?_
  refine t 23 (.int .i64 (Rc.outR (Rc.stNumber (got E (Ky.mk 17 a b))))) ?_
  refine t 9 (.int .u64 (numB (got E (Ky.mk 17 a b)))) ?_
  refine t 10 (.int .i64 (Rc.outR (Rc.stNumber (got E (Ky.mk 17 a b))))) ?_
  refine gl_nil ?_
  refine ge_then ?_
  refine gc_seq ?_
  refine gc_reg ?_
  refine t 24 (.int .u64 (numB (got E (Ky.mk 17 a b)))) ?_
  refine t 6 (.int .u64 (numB (got E (Ky.mk 17 a b)))) ?_
  refine gl_nil ?_
  refine ge_then ?_
  refine gc_ret ?_
  refine ge_ret (.int .u64 (numB (got E (Ky.mk 17 a b)))) (rs1 6 (by kernel_rfl) (by kernel_rfl)) ?_
  exact ⟨rfl, _, A.sx, A.km, A.cc⟩
theorem count_set {B : Nat} {w : World} {K : Nat → Prop} {g : Nat} {E : Ents} {W : List Ents} {n N : Nat} {a b d m : Int} (h : Sx B w K g E W n N) (ha : 0 ≤ a ∧ a < 18446744073709551616) (hn : n + 5 ≤ 4000000000000000000) (hN : N + 5 ≤ 100000000) : Calls Tryz.prog 94 #[.agg #[.int .u64 a, .int .u64 b, .int .u64 d], pg g, .int .u64 m] w (SxE B w K g (cntE E a b m) W (n + 1) (N + 2) (.tuple #[])) := by
  have A := h.at
  refine gc_enter (n := 22) Tryz.func94 rfl (by kernel_rfl) (by kernel_rfl) ?_
  refine gc_seq ?_
  refine gc_reg ?_
  refine ta 3 [.int .u64 a, .int .u64 b, .int .u64 d] 167 (pg) ?_
  intro v1 g2 Xg2 hg2 B
  have zg2 := Nat.le_trans A.size hg2
  have nXg2 := A.new hg2
  replace A := A.keep B
  clear B
  refine gl_nil ?_
  refine ge_then ?_
  refine gc_seq ?_
  refine gc_reg ?_
  refine t 7 (pg g2) ?_
  refine tl 8 (.int .u64 a) Xg2 0 ?_
  refine t 9 (pq g2 1) ?_
  refine tl 10 (.int .u64 b) Xg2 1 ?_
  refine tc 11 64 #[.int .i64 17, .int .u64 a, .int .u64 b] (qkey ha (mkE17 a b)) ?_
  rintro _ v5 ⟨kv4, rfl, U3, B⟩
  refine ⟨_, rfl, ?_⟩
  replace A := A.keep B
  replace Xg2 := Xg2.keep B
  clear B
  refine t 6 (kv4) ?_
  refine gl_nil ?_
  refine ge_then ?_
  refine gc_seq ?_
  refine gc_seq ?_
  refine gc_reg ?_
  refine t 12 (.int .u64 m) ?_
  by_cases c6 : (m : Int) = 0
  · refine tq 13 (.bool ((m : Int) == 0)) (.bool true) (congrArg Value.bool (beq_iff_eq.2 c6)) ?_
    refine gl_nil ?_
    refine ge_then ?_
    refine gc_fr [(1, pg g), (2, .int .u64 m), (6, kv4), (13, .bool true)] (by kernel_rfl) ?_
    refine gc_yes ?_
    refine gc_seq ?_
    refine gc_reg ?_
    refine t 14 (pg g) ?_
    refine t 15 (kv4) ?_
    refine tc 16 107 #[pg g, kv4] (xdel A.sx U3 (Nat.le_trans (Ky.mk_len _ _ _) (by decide)) (by omega) (by omega)) ?_
    rintro _ v8 ⟨rfl, K7, S, hK, hC⟩
    refine ⟨_, rfl, ?_⟩
    have mXg2 := not_op Xg2 nXg2 hK
    replace Xg2 := Xg2.chg hC nXg2
    replace nXg2 := mXg2
    clear mXg2
    replace U3 := A.byu U3 hC
    replace A := A.op S hK hC
    clear S hK hC
    clear U3
    refine gl_nil ?_
    refine ge_then ?_
    refine gc_ret ?_
    refine ge_tr ?_
    refine ge_ret (.tuple #[]) (rs0 (by kernel_rfl)) ?_
    rw [show cntE E a b m = _ from if_pos c6]
    exact ⟨rfl, _, A.sx, A.km, A.cc⟩
  · refine tq 13 (.bool ((m : Int) == 0)) (.bool false) (congrArg Value.bool (beq_eq_false_iff_ne.2 c6)) ?_
    refine gl_nil ?_
    refine ge_then ?_
    refine gc_fr [(1, pg g), (2, .int .u64 m), (6, kv4), (13, .bool false)] (by kernel_rfl) ?_
    refine gc_no ?_
    refine gc_skip ?_
    refine ge_then ?_
    refine gc_reg ?_
    refine t 17 (pg g) ?_
    refine t 18 (kv4) ?_
    refine t 19 (.int .u64 m) ?_
    refine tc 20 93 #[.int .u64 m] (put_number) ?_
    rintro _ v11 ⟨pv10, rfl, U9, B⟩
    refine ⟨_, rfl, ?_⟩
    replace A := A.keep B
    replace Xg2 := Xg2.keep B
    replace U3 := byu_keep U3 B
    clear B
    refine tc 21 33 #[pg g, kv4, pv10] (qset A.sx U3 (mkE17 a b) U9 (Nat.le_trans (nv_len _) (by decide)) (by omega) (by omega)) ?_
    rintro _ v13 ⟨rfl, K12, S, hK, hC⟩
    refine ⟨_, rfl, ?_⟩
    have mXg2 := not_op Xg2 nXg2 hK
    replace Xg2 := Xg2.chg hC nXg2
    replace nXg2 := mXg2
    clear mXg2
    replace U3 := A.byu U3 hC
    replace U9 := A.byu U9 hC
    replace A := A.op S hK hC
    clear S hK hC
    clear U3
    clear U9
    refine gl_nil ?_
    refine ge_end (.tuple #[]) (rs0 (by kernel_rfl)) ?_
    rw [show cntE E a b m = _ from if_neg c6]
    exact ⟨rfl, _, A.sx, A.km, A.cc⟩
end Qu
end Go.Proofs.YtidnifmehnjipaaGreat

namespace Go.Proofs.YtidnifmehnjipaaGreat
namespace Qu
open Go.RowKit Go.Lib Pg Lim Gl Kv Bk Pw
attribute [local go_sem] Oper.semAt_some
set_option maxRecDepth 100000
set_option linter.unusedVariables false
set_option linter.unusedSimpArgs false
set_option maxHeartbeats 2000000
theorem unbondings_any {w : World}  : Calls Tryz.prog 40 #[] w fun e w' => e = .returned (.agg #[.int .i64 12, .func (.func 95) #[] #[], .func (.func 96) #[] #[], .func (.func 97) #[] #[]]) ∧ Below w.heap.size w w' := by
  have BB := Below.refl w.heap.size w
  refine gc_enter (n := 2) Tryz.func40 rfl (by kernel_rfl) (by kernel_rfl) ?_
  refine gc_seq ?_
  refine gc_reg ?_
  refine ta 0 [.int .i64 0, .nilFunc, .nilFunc, .nilFunc] 105 (pg) ?_
  intro v1 g2 Xg2 hg2 B
  replace BB := joinB BB B
  clear B
  refine gl_nil ?_
  refine ge_then ?_
  refine gc_seq ?_
  refine gc_reg ?_
  refine t 1 (.agg #[.int .i64 12, .func (.func 95) #[] #[], .func (.func 96) #[] #[], .func (.func 97) #[] #[]]) ?_
  refine ts Xg2 0 (.agg #[.int .i64 12, .func (.func 95) #[] #[], .func (.func 96) #[] #[], .func (.func 97) #[] #[]]) [.int .i64 12, .func (.func 95) #[] #[], .func (.func 96) #[] #[], .func (.func 97) #[] #[]] [.int .i64 12, .func (.func 95) #[] #[], .func (.func 96) #[] #[], .func (.func 97) #[] #[]] ?_
  intro v3 Y C
  replace BB := belowC BB C (by omega)
  clear C Xg2
  have Xg2 := Y
  clear Y
  refine gl_nil ?_
  refine ge_then ?_
  refine gc_ret ?_
  refine ge_ret (.agg #[.int .i64 12, .func (.func 95) #[] #[], .func (.func 96) #[] #[], .func (.func 97) #[] #[]]) (rsc 0 (T := 105) (by kernel_rfl) (by kernel_rfl) (lr Xg2 0)) ?_
  exact ⟨rfl, BB⟩
theorem moves_any {w : World}  : Calls Tryz.prog 45 #[] w fun e w' => e = .returned (.agg #[.int .i64 13, .func (.func 101) #[] #[], .func (.func 102) #[] #[], .func (.func 103) #[] #[]]) ∧ Below w.heap.size w w' := by
  have BB := Below.refl w.heap.size w
  refine gc_enter (n := 2) Tryz.func45 rfl (by kernel_rfl) (by kernel_rfl) ?_
  refine gc_seq ?_
  refine gc_reg ?_
  refine ta 0 [.int .i64 0, .nilFunc, .nilFunc, .nilFunc] 114 (pg) ?_
  intro v1 g2 Xg2 hg2 B
  replace BB := joinB BB B
  clear B
  refine gl_nil ?_
  refine ge_then ?_
  refine gc_seq ?_
  refine gc_reg ?_
  refine t 1 (.agg #[.int .i64 13, .func (.func 101) #[] #[], .func (.func 102) #[] #[], .func (.func 103) #[] #[]]) ?_
  refine ts Xg2 0 (.agg #[.int .i64 13, .func (.func 101) #[] #[], .func (.func 102) #[] #[], .func (.func 103) #[] #[]]) [.int .i64 13, .func (.func 101) #[] #[], .func (.func 102) #[] #[], .func (.func 103) #[] #[]] [.int .i64 13, .func (.func 101) #[] #[], .func (.func 102) #[] #[], .func (.func 103) #[] #[]] ?_
  intro v3 Y C
  replace BB := belowC BB C (by omega)
  clear C Xg2
  have Xg2 := Y
  clear Y
  refine gl_nil ?_
  refine ge_then ?_
  refine gc_ret ?_
  refine ge_ret (.agg #[.int .i64 13, .func (.func 101) #[] #[], .func (.func 102) #[] #[], .func (.func 103) #[] #[]]) (rsc 0 (T := 114) (by kernel_rfl) (by kernel_rfl) (lr Xg2 0)) ?_
  exact ⟨rfl, BB⟩
theorem trailU {w : World} {x0 x1 x2 x3 x4 x5 : Int} : Calls Tryz.prog 97 #[.agg #[.int .u64 x0, .int .u64 x1, .int .u64 x2, .int .u64 x3, .int .u64 x4, .int .u64 x5]] w fun e w' => e = .returned (.agg #[.int .u64 x0, .int .u64 x1, .int .u64 x3]) ∧ Below w.heap.size w w' := by
  have BB := Below.refl w.heap.size w
  refine gc_enter (n := 10) Tryz.func97 rfl (by kernel_rfl) (by kernel_rfl) ?_
  refine gc_seq ?_
  refine gc_reg ?_
  refine ta 1 [.int .u64 x0, .int .u64 x1, .int .u64 x2, .int .u64 x3, .int .u64 x4, .int .u64 x5] 42 (pg) ?_
  intro v1 g2 Xg2 hg2 B
  replace BB := joinB BB B
  clear B
  have lXg2 := Xg2.lt
  refine ta 2 [.int .u64 0, .int .u64 0, .int .u64 0] 167 (pg) ?_
  intro v3 g4 Xg4 hg4 B
  replace BB := joinB BB B
  replace Xg2 := Xg2.keep B
  clear B
  refine gl_nil ?_
  refine ge_then ?_
  refine gc_seq ?_
  refine gc_reg ?_
  refine t 3 (pg g2) ?_
  refine tl 4 (.int .u64 x0) Xg2 0 ?_
  refine t 5 (pq g2 1) ?_
  refine tl 6 (.int .u64 x1) Xg2 1 ?_
  refine t 7 (pq g2 3) ?_
  refine tl 8 (.int .u64 x3) Xg2 3 ?_
  refine t 9 (.agg #[.int .u64 x0, .int .u64 x1, .int .u64 x3]) ?_
  refine ts Xg4 0 (.agg #[.int .u64 x0, .int .u64 x1, .int .u64 x3]) [.int .u64 x0, .int .u64 x1, .int .u64 x3] [.int .u64 x0, .int .u64 x1, .int .u64 x3] ?_
  intro v5 Y C
  replace BB := belowC BB C (by omega)
  replace Xg2 := Xg2.chg C (show g2 ≠ g4 by omega)
  clear C Xg4
  have Xg4 := Y
  clear Y
  refine gl_nil ?_
  refine ge_then ?_
  refine gc_ret ?_
  refine ge_ret (.agg #[.int .u64 x0, .int .u64 x1, .int .u64 x3]) (rsc 2 (T := 167) (by kernel_rfl) (by kernel_rfl) (lr Xg4 0)) ?_
  exact ⟨rfl, BB⟩
theorem trailM {w : World} {x0 x1 x2 x3 x4 x5 : Int} {a6 : Option Addr} {n6 c6 : Nat} : Calls Tryz.prog 103 #[.agg #[.int .u64 x0, .int .u64 x1, .int .u64 x2, .int .u64 x3, .int .u64 x4, .int .u64 x5, .slice a6 n6 c6]] w fun e w' => e = .returned (.agg #[.int .u64 x0, .int .u64 x1, .int .u64 x4]) ∧ Below w.heap.size w w' := by
  have BB := Below.refl w.heap.size w
  refine gc_enter (n := 10) Tryz.func103 rfl (by kernel_rfl) (by kernel_rfl) ?_
  refine gc_seq ?_
  refine gc_reg ?_
  refine ta 1 [.int .u64 x0, .int .u64 x1, .int .u64 x2, .int .u64 x3, .int .u64 x4, .int .u64 x5, .slice a6 n6 c6] 48 (pg) ?_
  intro v1 g2 Xg2 hg2 B
  replace BB := joinB BB B
  clear B
  have lXg2 := Xg2.lt
  refine ta 2 [.int .u64 0, .int .u64 0, .int .u64 0] 167 (pg) ?_
  intro v3 g4 Xg4 hg4 B
  replace BB := joinB BB B
  replace Xg2 := Xg2.keep B
  clear B
  refine gl_nil ?_
  refine ge_then ?_
  refine gc_seq ?_
  refine gc_reg ?_
  refine t 3 (pg g2) ?_
  refine tl 4 (.int .u64 x0) Xg2 0 ?_
  refine t 5 (pq g2 1) ?_
  refine tl 6 (.int .u64 x1) Xg2 1 ?_
  refine t 7 (pq g2 4) ?_
  refine tl 8 (.int .u64 x4) Xg2 4 ?_
  refine t 9 (.agg #[.int .u64 x0, .int .u64 x1, .int .u64 x4]) ?_
  refine ts Xg4 0 (.agg #[.int .u64 x0, .int .u64 x1, .int .u64 x4]) [.int .u64 x0, .int .u64 x1, .int .u64 x4] [.int .u64 x0, .int .u64 x1, .int .u64 x4] ?_
  intro v5 Y C
  replace BB := belowC BB C (by omega)
  replace Xg2 := Xg2.chg C (show g2 ≠ g4 by omega)
  clear C Xg4
  have Xg4 := Y
  clear Y
  refine gl_nil ?_
  refine ge_then ?_
  refine gc_ret ?_
  refine ge_ret (.agg #[.int .u64 x0, .int .u64 x1, .int .u64 x4]) (rsc 2 (T := 167) (by kernel_rfl) (by kernel_rfl) (lr Xg4 0)) ?_
  exact ⟨rfl, BB⟩
theorem qkeyS {w : World} {k a b : Int} (ha : 0 ≤ a ∧ a < 18446744073709551616) (hE : Ky.mkE k a b = false) : Calls Tryz.prog 64 #[.int .i64 k, .int .u64 a, .int .u64 b] w fun e w' => ∃ ao m c, e = .returned (.slice ao m c) ∧ ByU w' (.slice ao m c) (Ky.mk k a b) ∧ Below w.heap.size w w' := by
  refine (qkey ha hE).mono ?_
  rintro e w' ⟨v, rfl, U, B⟩
  obtain ⟨_, ao, c, rfl, _⟩ := bya U.byt
  exact ⟨_, _, _, rfl, U, B⟩
theorem run_arr {ρ : Operand → Value} {w : World} {o : Oper} {a1 a2 : Option Addr} {m1 c1 m2 c2 : Nat} (ho : ∃ u v, o.op = .build 168 #[(0, u), (1, v)] ∧ ρ u = .slice a1 m1 c1 ∧ ρ v = .slice a2 m2 c2 := by exact ⟨_, _, rfl, by kernel_rfl, by kernel_rfl⟩) : (execOp ρ o).run Tryz.prog w = .ok (.value (.agg #[.slice a1 m1 c1, .slice a2 m2 c2])) w := by
  obtain ⟨u, v, h, h1, h2⟩ := ho
  simp only [execOp, h, h1, h2]
  go_simp
theorem marks_any {w : World} {a b d id : Int} (hb : 0 ≤ b ∧ b < 18446744073709551616) (hd : 0 ≤ d ∧ d < 18446744073709551616) : Calls Tryz.prog 92 #[.agg #[.int .u64 a, .int .u64 b, .int .u64 d], .int .u64 id] w fun e w' => ∃ a1 m1 c1 a2 m2 c2, e = .returned (.agg #[.slice a1 m1 c1, .slice a2 m2 c2]) ∧ ByU w' (.slice a1 m1 c1) (Ky.mk 14 d id) ∧ ByU w' (.slice a2 m2 c2) (Ky.mk 15 b id) ∧ Below w.heap.size w w' := by
  have BB := Below.refl w.heap.size w
  refine gc_enter (n := 14) Tryz.func92 rfl (by kernel_rfl) (by kernel_rfl) ?_
  refine gc_seq ?_
  refine gc_reg ?_
  refine ta 2 [.int .u64 a, .int .u64 b, .int .u64 d] 167 (pg) ?_
  intro v1 g2 Xg2 hg2 B
  replace BB := joinB BB B
  clear B
  have lXg2 := Xg2.lt
  refine ta 4 [.slice none 0 0, .slice none 0 0] 168 (pg) ?_
  intro v3 g4 Xg4 hg4 B
  replace BB := joinB BB B
  replace Xg2 := Xg2.keep B
  clear B
  refine gl_nil ?_
  refine ge_then ?_
  refine gc_seq ?_
  replace BB := BB.drew
  replace Xg2 := Xg2.drew
  replace Xg4 := Xg4.drew
  refine gc_draw (fun w' => Blk w' g2 [.int .u64 a, .int .u64 b, .int .u64 d] 167) (fun _ => false) Xg2 ?_
  refine z 0 5 (pq g2 2) ?_
  refine zl 1 6 (.int .u64 d) (fun _ h => h) 2 ?_
  refine z 2 7 (.int .u64 id) ?_
  refine z 4 9 (pq g2 1) ?_
  refine zl 5 10 (.int .u64 b) (fun _ h => h) 1 ?_
  refine z 6 11 (.int .u64 id) ?_
  refine zc 3 8 64 #[.int .i64 14, .int .u64 d, .int .u64 id] (qkeyS hd (mkE14 d id)) ?_
  rintro _ v7 ⟨as6, ms6, cs6, rfl, U5, B⟩
  replace BB := joinB BB B
  replace Xg2 := Xg2.keep B
  replace Xg4 := Xg4.keep B
  clear B
  refine ⟨_, rfl, Xg2, ?_⟩
  refine zc 7 12 64 #[.int .i64 15, .int .u64 b, .int .u64 id] (qkeyS hb (mkE15 b id)) ?_
  rintro _ v10 ⟨as9, ms9, cs9, rfl, U8, B⟩
  replace BB := joinB BB B
  replace Xg2 := Xg2.keep B
  replace Xg4 := Xg4.keep B
  replace U5 := byu_keep U5 B
  clear B
  refine ⟨_, rfl, Xg2, ?_⟩
  refine zr 8 13 (.agg #[.slice as6 ms6 cs6, .slice as9 ms9 cs9]) (fun _ _ => run_arr) ?_
  refine zs 9 Xg4 0 (.agg #[.slice as6 ms6 cs6, .slice as9 ms9 cs9]) [.slice as6 ms6 cs6, .slice as9 ms9 cs9] [.slice as6 ms6 cs6, .slice as9 ms9 cs9] ?_
  intro v11 Y C
  replace BB := belowC BB C (by omega)
  replace Xg2 := Xg2.chg C (show g2 ≠ g4 by omega)
  replace U5 := byu_cell U5 Xg4 C (by decide)
  replace U8 := byu_cell U8 Xg4 C (by decide)
  clear C Xg4
  have Xg4 := Y
  clear Y
  refine ⟨Xg2, ?_⟩
  refine gz_done ?_
  refine ge_then ?_
  refine gc_fr [(4, pg g4)] (by kernel_rfl) ?_
  refine gc_ret ?_
  refine ge_ret (.agg #[.slice as6 ms6 cs6, .slice as9 ms9 cs9]) (rsc 4 (T := 168) (by kernel_rfl) (by kernel_rfl) (lr Xg4 0)) ?_
  exact ⟨_, _, _, _, _, _, rfl, U5, U8, BB⟩
def uv (x0 x1 x2 x3 x4 x5 : Int) : List Int := Rc.thr (Rc.pnx (fun o => ([x0, x1, x2, x3, x4, x5] : List Int).getD o 0)) [(0, 0), (0, 1), (0, 2), (0, 3), (0, 4), (0, 5)] []
theorem uv_len (x0 x1 x2 x3 x4 x5 : Int) : (uv x0 x1 x2 x3 x4 x5).length ≤ 1800 := by have := Rc.pnx_len (fun o => ([x0, x1, x2, x3, x4, x5] : List Int).getD o 0) [(0, 0), (0, 1), (0, 2), (0, 3), (0, 4), (0, 5)] []; simpa [uv] using this
theorem uv_oct (x0 x1 x2 x3 x4 x5 : Int) : Oct (uv x0 x1 x2 x3 x4 x5) := Rc.thr_oct _ _ _ (fun _ h => by simp at h)
theorem put_unbonding {w : World} {x0 x1 x2 x3 x4 x5 : Int} : Calls Tryz.prog 95 #[.agg #[.int .u64 x0, .int .u64 x1, .int .u64 x2, .int .u64 x3, .int .u64 x4, .int .u64 x5]] w fun e w' => ∃ v, e = .returned v ∧ ByU w' v (uv x0 x1 x2 x3 x4 x5) ∧ Below w.heap.size w w' := by
  refine Rc.PutUnbonding_any.mono ?_
  rintro e w' ⟨b, n, rfl, hn, X, hb, B⟩
  exact ⟨_, rfl, byu_box X (uv_oct _ _ _ _ _ _) hn (Nat.le_trans (uv_len ..) (by decide)), B⟩
def uX (l : List Int) (i : Nat) : Int := Rc.outX (Rc.stUnbonding l) i
def uA (l : List Int) : Array Value := #[.int .u64 (uX l 0), .int .u64 (uX l 1), .int .u64 (uX l 2), .int .u64 (uX l 3), .int .u64 (uX l 4), .int .u64 (uX l 5)]
def uL (l : List Int) : List Value := [.int .u64 (uX l 0), .int .u64 (uX l 1), .int .u64 (uX l 2), .int .u64 (uX l 3), .int .u64 (uX l 4), .int .u64 (uX l 5)]
theorem unbonding_rd {w : World} {v : Value} {l : List Int} (h : ByU w v l) (hl : l.length ≤ 1000000000) : Calls Tryz.prog 96 #[v] w fun e w' => e = .returned (.tuple #[.agg (uA l), .int .i64 (Rc.outR (Rc.stUnbonding l))]) ∧ Below w.heap.size w w' := by
  obtain ⟨b, ao, c, rfl, h2⟩ := bya h.byt
  exact Rc.oUnbonding h2 hl
theorem layU {B : Nat} {w : World} {K : Nat → Prop} {g : Nat} {E : Ents} {W : List Ents} {n N : Nat} {id x0 x1 x2 x3 x4 x5 : Int} (h : Sx B w K g E W n N) (hid : 0 ≤ id ∧ id < 18446744073709551616) (hn : n + 5 ≤ 4000000000000000000) (hN : N + 5 ≤ 100000000) : Calls Tryz.prog 91 #[pg g, .agg #[.int .i64 12, .func (.func 95) #[] #[], .func (.func 96) #[] #[], .func (.func 97) #[] #[]], .int .u64 id, .agg #[.int .u64 x0, .int .u64 x1, .int .u64 x2, .int .u64 x3, .int .u64 x4, .int .u64 x5]] w (SxE B w K g (put E (Ky.mk 12 id 0) (uv x0 x1 x2 x3 x4 x5)) W (n + 1) (N + 2) (.tuple #[])) := by
  have A := h.at
  refine gc_enter (n := 18) Tryz.func91 rfl (by kernel_rfl) (by kernel_rfl) ?_
  refine gc_seq ?_
  refine gc_reg ?_
  refine ta 5 [.int .i64 12, .func (.func 95) #[] #[], .func (.func 96) #[] #[], .func (.func 97) #[] #[]] 105 (pg) ?_
  intro v1 g2 Xg2 hg2 B
  have zg2 := Nat.le_trans A.size hg2
  have nXg2 := A.new hg2
  replace A := A.keep B
  clear B
  refine ta 7 [.int .u64 x0, .int .u64 x1, .int .u64 x2, .int .u64 x3, .int .u64 x4, .int .u64 x5] 42 (pg) ?_
  intro v3 g4 Xg4 hg4 B
  have zg4 := Nat.le_trans A.size hg4
  have nXg4 := A.new hg4
  replace A := A.keep B
  replace Xg2 := Xg2.keep B
  clear B
  refine gl_nil ?_
  refine ge_then ?_
  replace A := A.drew
  replace Xg2 := Xg2.drew
  replace Xg4 := Xg4.drew
  refine gc_draw (fun w' => Blk w' g2 [.int .i64 12, .func (.func 95) #[] #[], .func (.func 96) #[] #[], .func (.func 97) #[] #[]] 105 ∧ Blk w' g4 [.int .u64 x0, .int .u64 x1, .int .u64 x2, .int .u64 x3, .int .u64 x4, .int .u64 x5] 42) (fun _ => false) ⟨Xg2, Xg4⟩ ?_
  refine z 0 8 (pg g) ?_
  refine z 1 9 (pg g2) ?_
  refine zl 2 10 (.int .i64 12) (fun _ h => h.1) 0 ?_
  refine z 3 11 (.int .u64 id) ?_
  refine z 5 13 (pq g2 1) ?_
  refine zl 6 14 (.func (.func 95) #[] #[]) (fun _ h => h.1) 1 ?_
  refine zlr 7 15 [.int .u64 x0, .int .u64 x1, .int .u64 x2, .int .u64 x3, .int .u64 x4, .int .u64 x5] (fun _ h => h.2) 0 ?_
  refine zc 4 12 64 #[.int .i64 12, .int .u64 id, .int .u64 0] (qkey hid (mkE12 id)) ?_
  rintro _ v7 ⟨kv6, rfl, U5, B⟩
  replace A := A.keep B
  replace Xg2 := Xg2.keep B
  replace Xg4 := Xg4.keep B
  clear B
  refine ⟨_, rfl, ⟨Xg2, Xg4⟩, ?_⟩
  refine zc 8 16 95 #[.agg #[.int .u64 x0, .int .u64 x1, .int .u64 x2, .int .u64 x3, .int .u64 x4, .int .u64 x5]] (put_unbonding) ?_
  rintro _ v10 ⟨pv9, rfl, U8, B⟩
  replace A := A.keep B
  replace Xg2 := Xg2.keep B
  replace Xg4 := Xg4.keep B
  replace U5 := byu_keep U5 B
  clear B
  refine ⟨_, rfl, ⟨Xg2, Xg4⟩, ?_⟩
  refine zc 9 17 33 #[pg g, kv6, pv9] (qset A.sx U5 (mkE12 id) U8 (Nat.le_trans (uv_len ..) (by decide)) (by omega) (by omega)) ?_
  rintro _ v12 ⟨rfl, K11, S, hK, hC⟩
  have mXg2 := not_op Xg2 nXg2 hK
  replace Xg2 := Xg2.chg hC nXg2
  replace nXg2 := mXg2
  clear mXg2
  have mXg4 := not_op Xg4 nXg4 hK
  replace Xg4 := Xg4.chg hC nXg4
  replace nXg4 := mXg4
  clear mXg4
  replace U5 := A.byu U5 hC
  replace U8 := A.byu U8 hC
  replace A := A.op S hK hC
  clear S hK hC
  clear U5
  clear U8
  refine ⟨_, rfl, ⟨Xg2, Xg4⟩, ?_⟩
  refine gz_done ?_
  refine ge_end (.tuple #[]) (rs0 (by kernel_rfl)) ?_
  exact ⟨rfl, _, A.sx, A.km, A.cc⟩
theorem findU {B : Nat} {w : World} {K : Nat → Prop} {g : Nat} {E : Ents} {W : List Ents} {n N : Nat} {id : Int} (h : Sx B w K g E W n N) (hid : 0 ≤ id ∧ id < 18446744073709551616) (hn : n + 5 ≤ 4000000000000000000) (hN : N + 5 ≤ 100000000) : Calls Tryz.prog 66 #[pg g, .agg #[.int .i64 12, .func (.func 95) #[] #[], .func (.func 96) #[] #[], .func (.func 97) #[] #[]], .int .u64 id] w (SxE B w K g E W (n + 1) N (.tuple #[.agg (uA (got E (Ky.mk 12 id 0))), .bool (Kv.look E (Ky.mk 12 id 0)).isSome])) := by
  have A := h.at
  refine gc_enter (n := 30) Tryz.func66 rfl (by kernel_rfl) (by kernel_rfl) ?_
  refine gc_seq ?_
  refine gc_reg ?_
  refine ta 4 [.int .i64 12, .func (.func 95) #[] #[], .func (.func 96) #[] #[], .func (.func 97) #[] #[]] 105 (pg) ?_
  intro v1 g2 Xg2 hg2 B
  have zg2 := Nat.le_trans A.size hg2
  have nXg2 := A.new hg2
  replace A := A.keep B
  clear B
  have lXg2 := Xg2.lt
  refine ta 6 [.int .u64 0, .int .u64 0, .int .u64 0, .int .u64 0, .int .u64 0, .int .u64 0] 42 (pg) ?_
  intro v3 g4 Xg4 hg4 B
  have zg4 := Nat.le_trans A.size hg4
  have nXg4 := A.new hg4
  replace A := A.keep B
  replace Xg2 := Xg2.keep B
  clear B
  refine t 7 (.bool false) ?_
  refine gl_nil ?_
  refine ge_then ?_
  refine gc_seq ?_
  refine gc_reg ?_
  refine t 13 (pg g) ?_
  refine t 14 (pg g2) ?_
  refine tl 15 (.int .i64 12) Xg2 0 ?_
  refine t 16 (.int .u64 id) ?_
  refine tc 17 64 #[.int .i64 12, .int .u64 id, .int .u64 0] (qkey hid (mkE12 id)) ?_
  rintro _ v7 ⟨kv6, rfl, U5, B⟩
  refine ⟨_, rfl, ?_⟩
  replace A := A.keep B
  replace Xg2 := Xg2.keep B
  replace Xg4 := Xg4.keep B
  clear B
  refine tc 18 63 #[pg g, kv6] (xget A.sx U5 (by omega) (by omega)) ?_
  rintro _ v10 ⟨gv8, rfl, U9, S, hC⟩
  refine ⟨_, rfl, ?_⟩
  replace Xg2 := Xg2.chg hC nXg2
  replace Xg4 := Xg4.chg hC nXg4
  replace U5 := A.byu U5 hC
  replace A := A.op S (fun _ h => .inl h) hC
  clear S hC
  refine t 12 (.tuple #[gv8, .bool (Kv.look E (Ky.mk 12 id 0)).isSome]) ?_
  refine t 19 (gv8) ?_
  refine t 20 (.bool (Kv.look E (Ky.mk 12 id 0)).isSome) ?_
  refine t 8 (gv8) ?_
  refine t 9 (.bool (Kv.look E (Ky.mk 12 id 0)).isSome) ?_
  refine gl_nil ?_
  refine ge_then ?_
  refine gc_fr [(4, pg g2), (6, pg g4), (7, .bool false), (8, gv8), (9, .bool (Kv.look E (Ky.mk 12 id 0)).isSome)] (by kernel_rfl) ?_
  refine gc_seq ?_
  refine gc_reg ?_
  refine t 22 (pq g2 2) ?_
  refine tl 23 (.func (.func 96) #[] #[]) Xg2 2 ?_
  refine t 24 (gv8) ?_
  refine tc 25 96 #[gv8] (unbonding_rd U9 (Sx.getlen A.sx _)) ?_
  rintro _ v11 ⟨rfl, B⟩
  refine ⟨_, rfl, ?_⟩
  replace A := A.keep B
  replace Xg2 := Xg2.keep B
  replace Xg4 := Xg4.keep B
  replace U5 := byu_keep U5 B
  replace U9 := byu_keep U9 B
  clear B
  clear U9
  refine t 21 (.tuple #[.agg (uA (got E (Ky.mk 12 id 0))), .int .i64 (Rc.outR (Rc.stUnbonding (got E (Ky.mk 12 id 0))))]) ?_
  refine t 26 (.agg (uA (got E (Ky.mk 12 id 0)))) ?_
  refine t 27 (.int .i64 (Rc.outR (Rc.stUnbonding (got E (Ky.mk 12 id 0))))) ?_
  have lXg2 := Xg2.lt
  have lXg4 := Xg4.lt
  refine ta 10 [.int .u64 0, .int .u64 0, .int .u64 0, .int .u64 0, .int .u64 0, .int .u64 0] 42 (pg) ?_
  intro v12 g13 Xg13 hg13 B
  have zg13 := Nat.le_trans A.size hg13
  have nXg13 := A.new hg13
  replace A := A.keep B
  replace Xg2 := Xg2.keep B
  replace Xg4 := Xg4.keep B
  replace U5 := byu_keep U5 B
  clear B
  refine ts Xg13 0 (.agg (uA (got E (Ky.mk 12 id 0)))) (uL (got E (Ky.mk 12 id 0))) (uL (got E (Ky.mk 12 id 0))) ?_
  intro v14 Y C
  replace A := Bk.At.cell A Xg13 C zg13 nXg13 (by decide)
  replace Xg2 := Xg2.chg C (show g2 ≠ g13 by omega)
  replace Xg4 := Xg4.chg C (show g4 ≠ g13 by omega)
  replace U5 := byu_cell U5 Xg13 C (by decide)
  clear C Xg13
  have Xg13 := Y
  clear Y
  refine t 11 (.int .i64 (Rc.outR (Rc.stUnbonding (got E (Ky.mk 12 id 0))))) ?_
  refine gl_nil ?_
  refine ge_then ?_
  refine gc_seq ?_
  refine gc_reg ?_
  refine tlr 28 (uL (got E (Ky.mk 12 id 0))) Xg13 0 ?_
  refine t 29 (.bool (Kv.look E (Ky.mk 12 id 0)).isSome) ?_
  refine ts Xg4 0 (.agg (uA (got E (Ky.mk 12 id 0)))) (uL (got E (Ky.mk 12 id 0))) (uL (got E (Ky.mk 12 id 0))) ?_
  intro v15 Y C
  replace A := Bk.At.cell A Xg4 C zg4 nXg4 (by decide)
  replace Xg2 := Xg2.chg C (show g2 ≠ g4 by omega)
  replace U5 := byu_cell U5 Xg4 C (by decide)
  replace Xg13 := Xg13.chg C (show g13 ≠ g4 by omega)
  clear C Xg4
  have Xg4 := Y
  clear Y
  refine t 7 (.bool (Kv.look E (Ky.mk 12 id 0)).isSome) ?_
  refine gl_nil ?_
  refine ge_then ?_
  refine gc_fr [(6, pg g4), (7, .bool (Kv.look E (Ky.mk 12 id 0)).isSome)] (by kernel_rfl) ?_
  refine gc_ret ?_
  refine ge_ret (.tuple #[.agg (uA (got E (Ky.mk 12 id 0))), .bool (Kv.look E (Ky.mk 12 id 0)).isSome]) (rsct 6 7 (T := 42) (by kernel_rfl) (by kernel_rfl) (by kernel_rfl) (lr Xg4 0)) ?_
  exact ⟨rfl, _, A.sx, A.km, A.cc⟩
end Qu
end Go.Proofs.YtidnifmehnjipaaGreat

namespace Go.Proofs.YtidnifmehnjipaaGreat
namespace Bk
open Go.RowKit Go.Lib Pg Lim Gl Kv
attribute [local go_sem] Oper.semAt_some
set_option maxRecDepth 100000
set_option linter.unusedSimpArgs false
set_option linter.unusedVariables false
set_option maxHeartbeats 2000000
theorem ake (id : Int) : (if Ky.mkE 4 id 0 then [] else Ky.mk 4 id 0) = ak id := by
  have e : Ky.mkE 4 id 0 = false := by
    unfold Ky.mkE
    rw [show (Ky.frm 4).1 = 9 from rfl]
    simp
  rw [e]
  rfl
theorem aset {B : Nat} {w : World} {K : Nat → Prop} {g : Nat} {E : Ents} {W : List Ents} {n N : Nat} {kv vv : Value} {id x y : Int} (h : Sx B w K g E W n N) (hk : ByU w kv (ak id)) (hv : ByU w vv (pv x y)) (hn : n ≤ 4000000000000000000) (hN : N + 2 ≤ 100000000) :
    Calls Tryz.prog 33 #[pg g, kv, vv] w (SxE B w K g (put E (ak id) (pv x y)) W (n + 1) (N + 2) (.int .i64 0)) := by
  have u := xset h hk hv hn hN
  rw [set_ok, if_pos rfl] at u
  exact u
theorem Sx.getlen {B : Nat} {w : World} {K : Nat → Prop} {g : Nat} {E : Ents} {W : List Ents} {n N : Nat} (h : Sx B w K g E W n N) (k : List Int) : ((Kv.look E k).getD []).length ≤ 1000000000 := by
  cases e : Kv.look E k with
  | none => simp
  | some v => exact (h.sa.small _ (Kv.look_mem e)).2
theorem rd8_rng {l : List Int} {err : Int} (ho : Octets l) : 0 ≤ rdV 0 (pFix 8 l) err ∧ rdV 0 (pFix 8 l) err < 18446744073709551616 := by
  unfold rdV pFix
  split
  · split
    · exact ⟨Int.le_refl _, by decide⟩
    · rename_i hh
      split at hh
      · cases hh
        have := bval_bound (l := l.take 8) (fun x hx => ho x (List.mem_of_mem_take hx))
        rw [List.length_take, Nat.min_eq_left (by assumption)] at this
        exact this
      · cases hh
  · exact ⟨Int.le_refl _, by decide⟩
theorem coinB_rng {l : List Int} (ho : Oct l) : (0 ≤ coinB l ∧ coinB l < 18446744073709551616) ∧ (0 ≤ seqB l ∧ seqB l < 18446744073709551616) := by
  have h1 : Octets (rdL (pFix 8 l) 0 l) := by
    unfold rdL
    split
    · split
      · exact ho
      · exact fun x hx => ho x (List.mem_of_mem_drop hx)
    · exact ho
  have e : Rc.stAccount l = Rc.rnx 0 1 (Rc.rnx 0 0 (0, l, fun _ => 0)) := rfl
  unfold coinB seqB Rc.outX
  rw [e]
  split
  · exact ⟨rd8_rng (err := 0) ho, rd8_rng h1⟩
  · exact ⟨⟨Int.le_refl _, by decide⟩, Int.le_refl _, by decide⟩
theorem SA.octv {w : World} {K D : Nat → Prop} {g n N : Nat} {E : Ents} {W : List Ents} (h : SA w K D g E W n N) : ∀ x ∈ E, Oct x.2 := by
  obtain ⟨F, V, m, Q, jv, T, oj, hX, rfl, hB⟩ := h.open
  obtain ⟨L, rfl, A, O, S, k, r⟩ := hX.map.ex
  intro x hx
  rw [abs_flat] at hx
  obtain ⟨e, he, rfl⟩ := List.mem_map.1 hx
  obtain ⟨es, h1, h2⟩ := List.mem_flatten.1 he
  obtain ⟨p, hp, rfl⟩ := List.mem_map.1 h1
  exact ((A.pages p hp).1.ents e h2).v.oct
theorem Sx.oct {B : Nat} {w : World} {K : Nat → Prop} {g : Nat} {E : Ents} {W : List Ents} {n N : Nat} (h : Sx B w K g E W n N) (k : List Int) : Oct ((Kv.look E k).getD []) := by
  cases e : Kv.look E k with
  | none => exact fun x hx => by simp at hx
  | some v => exact SA.octv h.sa _ (Kv.look_mem e)
theorem Sx.crng {B : Nat} {w : World} {K : Nat → Prop} {g : Nat} {E : Ents} {W : List Ents} {n N : Nat} (h : Sx B w K g E W n N) (id : Int) : 0 ≤ coin E id ∧ coin E id < 18446744073709551616 := (coinB_rng (h.oct _)).1
theorem Sx.srng {B : Nat} {w : World} {K : Nat → Prop} {g : Nat} {E : Ents} {W : List Ents} {n N : Nat} (h : Sx B w K g E W n N) (id : Int) : 0 ≤ seqn E id ∧ seqn E id < 18446744073709551616 := (coinB_rng (h.oct _)).2
def mintR (E : Ents) (id k : Int) : Int := if ¬ isA id then 92 else if ¬ holdsP (coin E id) k then 91 else 0
def mintE (E : Ents) (id k : Int) : Ents := if mintR E id k = 0 then layE E id (coin E id + k) (seqn E id) else E
def moveR (E : Ents) (a b k : Int) : Int := if ¬ isA a ∨ ¬ isA b then 92 else if coin E a < k then 90 else if a = b then 0 else if ¬ holdsP (coin E b) k then 91 else 0
def moveE (E : Ents) (a b k : Int) : Ents := if moveR E a b k = 0 ∧ a ≠ b then layE (layE E a (coin E a - k) (seqn E a)) b (coin E b + k) (seqn E b) else E
def bumpR (id : Int) : Int := if ¬ isA id then 92 else 0
def bumpE (E : Ents) (id : Int) : Ents := if isA id then layE E id (coin E id) ((seqn E id + 1) % 18446744073709551616) else E
end Bk
end Go.Proofs.YtidnifmehnjipaaGreat

namespace Go.Proofs.YtidnifmehnjipaaGreat
namespace Qu
open Go.RowKit Go.Lib Pg Lim Gl Kv Bk Pw
attribute [local go_sem] Oper.semAt_some
set_option maxRecDepth 100000
set_option linter.unusedVariables false
set_option linter.unusedSimpArgs false
set_option maxHeartbeats 2000000
theorem gc_rds {P : Program} {n : Nat} {ds : List Deferred} {l : Fr} {w : World} {Q : Exit → Act → World → Prop} {c : Code} (k : Nat) (h : GC P n ds c (Exit.then (Code.rounds P c Q k) Q) l w) : GC P n ds (Code.loop c) Q l w := ⟨fun a r => wp_loop_rounds (k + 1) (h.out a r)⟩
theorem ge_rd {P : Program} {n : Nat} {ds : List Deferred} {l : Fr} {w : World} {Q Q' : Exit → Act → World → Prop} {c : Code} {k : Nat} (h : GC P n ds c (Exit.then (Code.rounds P c Q k) Q) l w) : GE n ds (Exit.then (Code.rounds P c Q (k + 1)) Q') .normal l w := ⟨fun a r => h.out a r⟩
theorem ix_0 {w : World} {a1 a2 : Option Addr} {m1 c1 m2 c2 : Nat} : (Instr.index 168 (.agg #[.slice a1 m1 c1, .slice a2 m2 c2]) (.int .i64 0)).run Tryz.prog w = .ok (.slice a1 m1 c1) w := by
  unfold Instr.index
  go_simp
theorem ix_1 {w : World} {a1 a2 : Option Addr} {m1 c1 m2 c2 : Nat} : (Instr.index 168 (.agg #[.slice a1 m1 c1, .slice a2 m2 c2]) (.int .i64 1)).run Tryz.prog w = .ok (.slice a2 m2 c2) w := by
  unfold Instr.index
  go_simp
theorem run_ix {ρ : Operand → Value} {w : World} {o : Oper} (X i v : Value) (hr : (Instr.index 168 X i).run Tryz.prog w = .ok v w) (ho : ∃ u y, o.op = .index 168 u y ∧ ρ u = X ∧ ρ y = i := by exact ⟨_, _, rfl, by kernel_rfl, by kernel_rfl⟩) : (execOp ρ o).run Tryz.prog w = .ok (.value v) w := by
  obtain ⟨u, y, h, h1, h2⟩ := ho
  simp only [execOp, h, h1, h2]
  go_simp
theorem run_cv {ρ : Operand → Value} {w : World} {o : Oper} (k : Int) (hk : 0 ≤ k ∧ k < 18446744073709551616) (ho : ∃ u, o.op = .convert 3 22 u ∧ ρ u = .int .i64 k := by exact ⟨_, rfl, by kernel_rfl⟩) : (execOp ρ o).run Tryz.prog w = .ok (.value (.int .u64 k)) w := by
  obtain ⟨u, h, h1⟩ := ho
  simp only [execOp, h, h1]
  go_simp
  rw [IntKind.wrap_u64, Int.emod_eq_of_lt hk.1 hk.2]
theorem nxt_rng {l : List Int} (ho : Oct l) : 0 ≤ nxtB l ∧ nxtB l < 18446744073709551616 := (coinB_rng ho).2
theorem num_rng {l : List Int} (ho : Oct l) : 0 ≤ numB l ∧ numB l < 18446744073709551616 := by
  have e : Rc.stNumber l = Rc.rnx 0 0 (0, l, fun _ => 0) := rfl
  unfold numB Rc.outX
  rw [e]
  split
  · exact rd8_rng (err := 0) ho
  · exact ⟨Int.le_refl _, by decide⟩
/-- what begin leaves -/
def beginE (E : Ents) (k : Int) (r : List Int) (a b d : Int) : Ents :=
  let i := nxtB (chn E)
  let E1 := put (put (put (nextE E) (Ky.mk k i 0) r) (Ky.mk 14 d i) (nv k)) (Ky.mk 15 b i) (nv k)
  cntE E1 a b ((cntQ E1 a b + 1) % 18446744073709551616)
theorem beginU {B : Nat} {w : World} {K : Nat → Prop} {g : Nat} {E : Ents} {W : List Ents} {n N : Nat} {x0 x1 x2 x3 x4 x5 : Int} (h : Sx B w K g E W n N) (hx0 : 0 ≤ x0 ∧ x0 < 18446744073709551616) (hx1 : 0 ≤ x1 ∧ x1 < 18446744073709551616) (hx3 : 0 ≤ x3 ∧ x3 < 18446744073709551616) (hn : n + 20 ≤ 4000000000000000000) (hN : N + 20 ≤ 100000000) : Calls Tryz.prog 39 #[pg g, .agg #[.int .i64 12, .func (.func 95) #[] #[], .func (.func 96) #[] #[], .func (.func 97) #[] #[]], .agg #[.int .u64 x0, .int .u64 x1, .int .u64 x2, .int .u64 x3, .int .u64 x4, .int .u64 x5]] w (SxE B w K g (beginE E 12 (uv x0 x1 x2 x3 x4 x5) x0 x1 x3) W (n + 7) (N + 10) (.int .u64 (nxtB (chn E)))) := by
  have hid : 0 ≤ nxtB (chn E) ∧ nxtB (chn E) < 18446744073709551616 := nxt_rng (h.oct _)
  have A := h.at
  refine gc_enter (n := 47) Tryz.func39 rfl (by kernel_rfl) (by kernel_rfl) ?_
  refine gc_seq ?_
  refine gc_reg ?_
  refine ta 4 [.int .i64 12, .func (.func 95) #[] #[], .func (.func 96) #[] #[], .func (.func 97) #[] #[]] 105 (pg) ?_
  intro v1 g2 Xg2 hg2 B
  have zg2 := Nat.le_trans A.size hg2
  have nXg2 := A.new hg2
  replace A := A.keep B
  clear B
  have lXg2 := Xg2.lt
  refine ta 5 [.int .u64 x0, .int .u64 x1, .int .u64 x2, .int .u64 x3, .int .u64 x4, .int .u64 x5] 42 (pg) ?_
  intro v3 g4 Xg4 hg4 B
  have zg4 := Nat.le_trans A.size hg4
  have nXg4 := A.new hg4
  replace A := A.keep B
  replace Xg2 := Xg2.keep B
  clear B
  refine t 6 (.int .u64 0) ?_
  refine gl_nil ?_
  refine ge_then ?_
  refine gc_seq ?_
  refine gc_reg ?_
  refine t 11 (pg g) ?_
  refine tc 12 90 #[pg g] (number_any A.sx (by omega) (by omega)) ?_
  rintro _ v6 ⟨rfl, K5, S, hK, hC⟩
  refine ⟨_, rfl, ?_⟩
  have mXg2 := not_op Xg2 nXg2 hK
  replace Xg2 := Xg2.chg hC nXg2
  replace nXg2 := mXg2
  clear mXg2
  have mXg4 := not_op Xg4 nXg4 hK
  replace Xg4 := Xg4.chg hC nXg4
  replace nXg4 := mXg4
  clear mXg4
  replace A := A.op S hK hC
  clear S hK hC
  refine t 7 (.int .u64 (nxtB (chn E))) ?_
  refine gl_nil ?_
  refine ge_then ?_
  refine gc_seq ?_
  refine gc_reg ?_
  refine t 13 (pg g) ?_
  refine tlr 14 [.int .i64 12, .func (.func 95) #[] #[], .func (.func 96) #[] #[], .func (.func 97) #[] #[]] Xg2 0 ?_
  refine t 15 (.int .u64 (nxtB (chn E))) ?_
  refine tlr 16 [.int .u64 x0, .int .u64 x1, .int .u64 x2, .int .u64 x3, .int .u64 x4, .int .u64 x5] Xg4 0 ?_
  refine tc 17 91 #[pg g, .agg #[.int .i64 12, .func (.func 95) #[] #[], .func (.func 96) #[] #[], .func (.func 97) #[] #[]], .int .u64 (nxtB (chn E)), .agg #[.int .u64 x0, .int .u64 x1, .int .u64 x2, .int .u64 x3, .int .u64 x4, .int .u64 x5]] (layU A.sx hid (by omega) (by omega)) ?_
  rintro _ v8 ⟨rfl, K7, S, hK, hC⟩
  refine ⟨_, rfl, ?_⟩
  have mXg2 := not_op Xg2 nXg2 hK
  replace Xg2 := Xg2.chg hC nXg2
  replace nXg2 := mXg2
  clear mXg2
  have mXg4 := not_op Xg4 nXg4 hK
  replace Xg4 := Xg4.chg hC nXg4
  replace nXg4 := mXg4
  clear mXg4
  replace A := A.op S hK hC
  clear S hK hC
  refine gl_nil ?_
  refine ge_then ?_
  refine gc_fr [(0, pg g), (4, pg g2), (5, pg g4), (6, .int .u64 0), (7, .int .u64 (nxtB (chn E)))] (by kernel_rfl) ?_
  refine gc_seq ?_
  refine gc_reg ?_
  refine t 18 (pq g2 3) ?_
  refine tl 19 (.func (.func 97) #[] #[]) Xg2 3 ?_
  refine tlr 20 [.int .u64 x0, .int .u64 x1, .int .u64 x2, .int .u64 x3, .int .u64 x4, .int .u64 x5] Xg4 0 ?_
  refine tc 21 97 #[.agg #[.int .u64 x0, .int .u64 x1, .int .u64 x2, .int .u64 x3, .int .u64 x4, .int .u64 x5]] (trailU) ?_
  rintro _ v9 ⟨rfl, B⟩
  refine ⟨_, rfl, ?_⟩
  replace A := A.keep B
  replace Xg2 := Xg2.keep B
  replace Xg4 := Xg4.keep B
  clear B
  have lXg2 := Xg2.lt
  have lXg4 := Xg4.lt
  refine ta 8 [.int .u64 0, .int .u64 0, .int .u64 0] 167 (pg) ?_
  intro v10 g11 Xg11 hg11 B
  have zg11 := Nat.le_trans A.size hg11
  have nXg11 := A.new hg11
  replace A := A.keep B
  replace Xg2 := Xg2.keep B
  replace Xg4 := Xg4.keep B
  clear B
  refine ts Xg11 0 (.agg #[.int .u64 x0, .int .u64 x1, .int .u64 x3]) [.int .u64 x0, .int .u64 x1, .int .u64 x3] [.int .u64 x0, .int .u64 x1, .int .u64 x3] ?_
  intro v12 Y C
  replace A := Bk.At.cell A Xg11 C zg11 nXg11 (by decide)
  replace Xg2 := Xg2.chg C (show g2 ≠ g11 by omega)
  replace Xg4 := Xg4.chg C (show g4 ≠ g11 by omega)
  clear C Xg11
  have Xg11 := Y
  clear Y
  refine gl_nil ?_
  refine ge_then ?_
  refine gc_seq ?_
  refine gc_seq ?_
  refine gc_reg ?_
  refine tlr 22 [.int .u64 x0, .int .u64 x1, .int .u64 x3] Xg11 0 ?_
  refine t 23 (.int .u64 (nxtB (chn E))) ?_
  refine tc 24 92 #[.agg #[.int .u64 x0, .int .u64 x1, .int .u64 x3], .int .u64 (nxtB (chn E))] (marks_any hx1 hx3) ?_
  rintro _ v16 ⟨as15, ms15, cs15, ps15, qs15, rs15, rfl, U13, U14, B⟩
  refine ⟨_, rfl, ?_⟩
  replace A := A.keep B
  replace Xg2 := Xg2.keep B
  replace Xg4 := Xg4.keep B
  replace Xg11 := Xg11.keep B
  clear B
  refine t 25 (.int .i64 0) ?_
  refine gl_nil ?_
  refine ge_then ?_
  refine gc_block ?_
  refine gc_rds 2 ?_
  refine gc_seq ?_
  refine gc_reg ?_
  refine t 26 (.bool true) ?_
  refine gl_nil ?_
  refine ge_then ?_
  refine gc_seq ?_
  refine gc_yes ?_
  refine gc_skip ?_
  refine ge_then ?_
  refine gc_seq ?_
  refine gc_block ?_
  refine gc_seq ?_
  refine gc_reg ?_
  refine tr 27 (.slice as15 ms15 cs15) (run_ix (.agg #[.slice as15 ms15 cs15, .slice ps15 qs15 rs15]) (.int .i64 0) (.slice as15 ms15 cs15) ix_0) ?_
  refine t 10 (.slice as15 ms15 cs15) ?_
  refine gl_nil ?_
  refine ge_then ?_
  refine gc_fr [(0, pg g), (4, pg g2), (6, .int .u64 0), (7, .int .u64 (nxtB (chn E))), (8, pg g11), (10, .slice as15 ms15 cs15), (24, .agg #[.slice as15 ms15 cs15, .slice ps15 qs15 rs15]), (25, .int .i64 0), (26, .bool true), (27, .slice as15 ms15 cs15)] (by kernel_rfl) ?_
  refine gc_reg ?_
  refine t 28 (pg g) ?_
  refine t 29 (.slice as15 ms15 cs15) ?_
  refine t 30 (pg g2) ?_
  refine tl 31 (.int .i64 12) Xg2 0 ?_
  refine tr 32 (.int .u64 12) (run_cv 12 ⟨by decide, by decide⟩) ?_
  refine tc 33 93 #[.int .u64 12] (put_number) ?_
  rintro _ v19 ⟨pv18, rfl, U17, B⟩
  refine ⟨_, rfl, ?_⟩
  replace A := A.keep B
  replace Xg2 := Xg2.keep B
  replace Xg4 := Xg4.keep B
  replace Xg11 := Xg11.keep B
  replace U13 := byu_keep U13 B
  replace U14 := byu_keep U14 B
  clear B
  refine tc 34 33 #[pg g, .slice as15 ms15 cs15, pv18] (qset A.sx U13 (mkE14 x3 (nxtB (chn E))) U17 (Nat.le_trans (nv_len _) (by decide)) (by omega) (by omega)) ?_
  rintro _ v21 ⟨rfl, K20, S, hK, hC⟩
  refine ⟨_, rfl, ?_⟩
  have mXg2 := not_op Xg2 nXg2 hK
  replace Xg2 := Xg2.chg hC nXg2
  replace nXg2 := mXg2
  clear mXg2
  have mXg4 := not_op Xg4 nXg4 hK
  replace Xg4 := Xg4.chg hC nXg4
  replace nXg4 := mXg4
  clear mXg4
  have mXg11 := not_op Xg11 nXg11 hK
  replace Xg11 := Xg11.chg hC nXg11
  replace nXg11 := mXg11
  clear mXg11
  replace U13 := A.byu U13 hC
  replace U14 := A.byu U14 hC
  replace U17 := A.byu U17 hC
  replace A := A.op S hK hC
  clear S hK hC
  clear U13
  clear U17
  refine gl_nil ?_
  refine ge_bn ?_
  refine ge_then ?_
  refine gc_reg ?_
  refine t 35 (.int .i64 1) ?_
  refine t 25 (.int .i64 1) ?_
  refine gl_nil ?_
  refine ge_rd ?_
  refine gc_fr [(0, pg g), (4, pg g2), (6, .int .u64 0), (7, .int .u64 (nxtB (chn E))), (8, pg g11), (10, .slice as15 ms15 cs15), (24, .agg #[.slice as15 ms15 cs15, .slice ps15 qs15 rs15]), (25, .int .i64 1), (26, .bool true), (27, .slice as15 ms15 cs15), (28, pg g), (29, .slice as15 ms15 cs15), (30, pg g2), (31, .int .i64 12), (32, .int .u64 12), (33, pv18), (35, .int .i64 1)] (by kernel_rfl) ?_
  refine gc_seq ?_
  refine gc_reg ?_
  refine t 26 (.bool true) ?_
  refine gl_nil ?_
  refine ge_then ?_
  refine gc_seq ?_
  refine gc_yes ?_
  refine gc_skip ?_
  refine ge_then ?_
  refine gc_seq ?_
  refine gc_block ?_
  refine gc_seq ?_
  refine gc_reg ?_
  refine tr 27 (.slice ps15 qs15 rs15) (run_ix (.agg #[.slice as15 ms15 cs15, .slice ps15 qs15 rs15]) (.int .i64 1) (.slice ps15 qs15 rs15) ix_1) ?_
  refine t 10 (.slice ps15 qs15 rs15) ?_
  refine gl_nil ?_
  refine ge_then ?_
  refine gc_reg ?_
  refine t 28 (pg g) ?_
  refine t 29 (.slice ps15 qs15 rs15) ?_
  refine t 30 (pg g2) ?_
  refine tl 31 (.int .i64 12) Xg2 0 ?_
  refine tr 32 (.int .u64 12) (run_cv 12 ⟨by decide, by decide⟩) ?_
  refine tc 33 93 #[.int .u64 12] (put_number) ?_
  rintro _ v24 ⟨pv23, rfl, U22, B⟩
  refine ⟨_, rfl, ?_⟩
  replace A := A.keep B
  replace Xg2 := Xg2.keep B
  replace Xg4 := Xg4.keep B
  replace Xg11 := Xg11.keep B
  replace U14 := byu_keep U14 B
  clear B
  refine tc 34 33 #[pg g, .slice ps15 qs15 rs15, pv23] (qset A.sx U14 (mkE15 x1 (nxtB (chn E))) U22 (Nat.le_trans (nv_len _) (by decide)) (by omega) (by omega)) ?_
  rintro _ v26 ⟨rfl, K25, S, hK, hC⟩
  refine ⟨_, rfl, ?_⟩
  have mXg2 := not_op Xg2 nXg2 hK
  replace Xg2 := Xg2.chg hC nXg2
  replace nXg2 := mXg2
  clear mXg2
  have mXg4 := not_op Xg4 nXg4 hK
  replace Xg4 := Xg4.chg hC nXg4
  replace nXg4 := mXg4
  clear mXg4
  have mXg11 := not_op Xg11 nXg11 hK
  replace Xg11 := Xg11.chg hC nXg11
  replace nXg11 := mXg11
  clear mXg11
  replace U14 := A.byu U14 hC
  replace U22 := A.byu U22 hC
  replace A := A.op S hK hC
  clear S hK hC
  clear U14
  clear U22
  refine gl_nil ?_
  refine ge_bn ?_
  refine ge_then ?_
  refine gc_reg ?_
  refine t 35 (.int .i64 2) ?_
  refine t 25 (.int .i64 2) ?_
  refine gl_nil ?_
  refine ge_rd ?_
  refine gc_fr [(0, pg g), (4, pg g2), (6, .int .u64 0), (7, .int .u64 (nxtB (chn E))), (8, pg g11), (10, .slice ps15 qs15 rs15), (24, .agg #[.slice as15 ms15 cs15, .slice ps15 qs15 rs15]), (25, .int .i64 2), (26, .bool true), (27, .slice ps15 qs15 rs15), (28, pg g), (29, .slice ps15 qs15 rs15), (30, pg g2), (31, .int .i64 12), (32, .int .u64 12), (33, pv23), (35, .int .i64 2)] (by kernel_rfl) ?_
  refine gc_seq ?_
  refine gc_reg ?_
  refine t 26 (.bool false) ?_
  refine gl_nil ?_
  refine ge_then ?_
  refine gc_seq ?_
  refine gc_no ?_
  refine gc_exit ?_
  refine ge_tx ?_
  refine ge_tx ?_
  refine ge_bx ?_
  refine ge_then ?_
  refine gc_seq ?_
  replace A := A.drew
  replace Xg2 := Xg2.drew
  replace Xg4 := Xg4.drew
  replace Xg11 := Xg11.drew
  refine gc_draw (fun w' => Blk w' g11 [.int .u64 x0, .int .u64 x1, .int .u64 x3] 167) (fun _ => false) Xg11 ?_
  refine zlr 0 36 [.int .u64 x0, .int .u64 x1, .int .u64 x3] (fun _ h => h) 0 ?_
  refine z 1 37 (pg g) ?_
  refine z 2 38 (pg g) ?_
  refine z 3 39 (pg g11) ?_
  refine zl 4 40 (.int .u64 x0) (fun _ h => h) 0 ?_
  refine z 5 41 (pq g11 1) ?_
  refine zl 6 42 (.int .u64 x1) (fun _ h => h) 1 ?_
  refine zc 7 43 24 #[pg g, .int .u64 x0, .int .u64 x1] (count_get A.sx hx0 (by omega) (by omega)) ?_
  rintro _ v28 ⟨rfl, K27, S, hK, hC⟩
  have mXg2 := not_op Xg2 nXg2 hK
  replace Xg2 := Xg2.chg hC nXg2
  replace nXg2 := mXg2
  clear mXg2
  have mXg4 := not_op Xg4 nXg4 hK
  replace Xg4 := Xg4.chg hC nXg4
  replace nXg4 := mXg4
  clear mXg4
  have mXg11 := not_op Xg11 nXg11 hK
  replace Xg11 := Xg11.chg hC nXg11
  replace nXg11 := mXg11
  clear mXg11
  replace A := A.op S hK hC
  clear S hK hC
  refine ⟨_, rfl, Xg11, ?_⟩
  refine zq 8 44 (.int .u64 (IntKind.u64.wrap (cntQ (put (put (put (nextE E) (Ky.mk 12 (nxtB (chn E)) 0) (uv x0 x1 x2 x3 x4 x5)) (Ky.mk 14 x3 (nxtB (chn E))) (nv 12)) (Ky.mk 15 x1 (nxtB (chn E))) (nv 12)) x0 x1 + 1))) (.int .u64 ((cntQ (put (put (put (nextE E) (Ky.mk 12 (nxtB (chn E)) 0) (uv x0 x1 x2 x3 x4 x5)) (Ky.mk 14 x3 (nxtB (chn E))) (nv 12)) (Ky.mk 15 x1 (nxtB (chn E))) (nv 12)) x0 x1 + 1) % 18446744073709551616)) (congrArg (Value.int .u64) (IntKind.wrap_u64 _)) ?_
  refine zc 9 45 94 #[.agg #[.int .u64 x0, .int .u64 x1, .int .u64 x3], pg g, .int .u64 ((cntQ (put (put (put (nextE E) (Ky.mk 12 (nxtB (chn E)) 0) (uv x0 x1 x2 x3 x4 x5)) (Ky.mk 14 x3 (nxtB (chn E))) (nv 12)) (Ky.mk 15 x1 (nxtB (chn E))) (nv 12)) x0 x1 + 1) % 18446744073709551616)] (count_set A.sx hx0 (by omega) (by omega)) ?_
  rintro _ v30 ⟨rfl, K29, S, hK, hC⟩
  have mXg2 := not_op Xg2 nXg2 hK
  replace Xg2 := Xg2.chg hC nXg2
  replace nXg2 := mXg2
  clear mXg2
  have mXg4 := not_op Xg4 nXg4 hK
  replace Xg4 := Xg4.chg hC nXg4
  replace nXg4 := mXg4
  clear mXg4
  have mXg11 := not_op Xg11 nXg11 hK
  replace Xg11 := Xg11.chg hC nXg11
  replace nXg11 := mXg11
  clear mXg11
  replace A := A.op S hK hC
  clear S hK hC
  refine ⟨_, rfl, Xg11, ?_⟩
  refine gz_done ?_
  refine ge_then ?_
  refine gc_seq ?_
  refine gc_reg ?_
  refine t 46 (.int .u64 (nxtB (chn E))) ?_
  refine t 6 (.int .u64 (nxtB (chn E))) ?_
  refine gl_nil ?_
  refine ge_then ?_
  refine gc_fr [(6, .int .u64 (nxtB (chn E)))] (by kernel_rfl) ?_
  refine gc_ret ?_
  refine ge_ret (.int .u64 (nxtB (chn E))) (rs1 6 (by kernel_rfl) (by kernel_rfl)) ?_
  exact ⟨rfl, _, A.sx, A.km, A.cc⟩
theorem rr0 {s : Rc.RSt} {o : Nat} (h : Oct s.2.1 ∧ ∀ i, i < 6 → 0 ≤ s.2.2 i ∧ s.2.2 i < 18446744073709551616) : Oct (Rc.rnx 0 o s).2.1 ∧ ∀ i, i < 6 → 0 ≤ (Rc.rnx 0 o s).2.2 i ∧ (Rc.rnx 0 o s).2.2 i < 18446744073709551616 := by
  refine ⟨?_, fun i hi => ?_⟩
  · show Oct (rdL (pFix 8 s.2.1) s.1 s.2.1)
    unfold rdL
    split
    · split
      · exact h.1
      · exact fun x hx => h.1 x (List.mem_of_mem_drop hx)
    · exact h.1
  · show 0 ≤ (if i = o then rdV 0 (pFix 8 s.2.1) s.1 else s.2.2 i) ∧ (if i = o then rdV 0 (pFix 8 s.2.1) s.1 else s.2.2 i) < 18446744073709551616
    split
    · exact rd8_rng h.1
    · exact h.2 i hi
theorem uX_rng {l : List Int} (ho : Oct l) (i : Nat) (hi : i < 6 := by decide) : 0 ≤ uX l i ∧ uX l i < 18446744073709551616 := by
  have h := rr0 (o := 5) (rr0 (o := 4) (rr0 (o := 3) (rr0 (o := 2) (rr0 (o := 1) (rr0 (o := 0) (s := (0, l, fun _ => 0)) ⟨ho, fun _ _ => ⟨Int.le_refl _, (by decide : (0 : Int) < 18446744073709551616)⟩⟩)))))
  have e : Rc.stUnbonding l = Rc.rnx 0 5 (Rc.rnx 0 4 (Rc.rnx 0 3 (Rc.rnx 0 2 (Rc.rnx 0 1 (Rc.rnx 0 0 (0, l, fun _ => 0)))))) := rfl
  unfold uX Rc.outX
  rw [e]
  split
  · exact h.2 i hi
  · exact ⟨Int.le_refl _, (by decide : (0 : Int) < 18446744073709551616)⟩
/-- what end leaves -/
def endQ (E : Ents) (k id a b d : Int) : Ents :=
  let E1 := rem (rem (rem E (Ky.mk k id 0)) (Ky.mk 14 d id)) (Ky.mk 15 b id)
  cntE E1 a b ((cntQ E1 a b - 1) % 18446744073709551616)
def dropU (E : Ents) (id : Int) : Ents := if (Kv.look E (Ky.mk 12 id 0)).isSome = true then endQ E 12 id (uX (got E (Ky.mk 12 id 0)) 0) (uX (got E (Ky.mk 12 id 0)) 1) (uX (got E (Ky.mk 12 id 0)) 3) else E
def lessU (E : Ents) (id y : Int) : Ents := if (Kv.look E (Ky.mk 12 id 0)).isSome = true then put E (Ky.mk 12 id 0) (uv (uX (got E (Ky.mk 12 id 0)) 0) (uX (got E (Ky.mk 12 id 0)) 1) (uX (got E (Ky.mk 12 id 0)) 2) (uX (got E (Ky.mk 12 id 0)) 3) (uX (got E (Ky.mk 12 id 0)) 4) y) else E
theorem findUb {B : Nat} {w : World} {K : Nat → Prop} {g : Nat} {E : Ents} {W : List Ents} {n N : Nat} {id : Int} {b : Bool} (h : Sx B w K g E W n N) (hid : 0 ≤ id ∧ id < 18446744073709551616) (hn : n + 5 ≤ 4000000000000000000) (hN : N + 5 ≤ 100000000) (hb : (Kv.look E (Ky.mk 12 id 0)).isSome = b) : Calls Tryz.prog 66 #[pg g, .agg #[.int .i64 12, .func (.func 95) #[] #[], .func (.func 96) #[] #[], .func (.func 97) #[] #[]], .int .u64 id] w (SxE B w K g E W (n + 1) N (.tuple #[.agg (uA (got E (Ky.mk 12 id 0))), .bool b])) := by
  subst hb
  exact findU h hid hn hN
theorem endU {B : Nat} {w : World} {K : Nat → Prop} {g : Nat} {E : Ents} {W : List Ents} {n N : Nat} {id : Int} (h : Sx B w K g E W n N) (hid : 0 ≤ id ∧ id < 18446744073709551616) (hn : n + 20 ≤ 4000000000000000000) (hN : N + 20 ≤ 100000000) : Calls Tryz.prog 53 #[pg g, .agg #[.int .i64 12, .func (.func 95) #[] #[], .func (.func 96) #[] #[], .func (.func 97) #[] #[]], .int .u64 id] w (SxF B w K g (dropU E id) W n N (.bool (Kv.look E (Ky.mk 12 id 0)).isSome)) := by
  have A := h.at
  refine gc_enter (n := 51) Tryz.func53 rfl (by kernel_rfl) (by kernel_rfl) ?_
  refine gc_seq ?_
  refine gc_reg ?_
  refine ta 4 [.int .i64 12, .func (.func 95) #[] #[], .func (.func 96) #[] #[], .func (.func 97) #[] #[]] 105 (pg) ?_
  intro v1 g2 Xg2 hg2 B
  have zg2 := Nat.le_trans A.size hg2
  have nXg2 := A.new hg2
  replace A := A.keep B
  clear B
  refine t 6 (.bool false) ?_
  refine gl_nil ?_
  refine ge_then ?_
  refine gc_seq ?_
  refine gc_reg ?_
  refine t 13 (pg g) ?_
  refine tlr 14 [.int .i64 12, .func (.func 95) #[] #[], .func (.func 96) #[] #[], .func (.func 97) #[] #[]] Xg2 0 ?_
  refine t 15 (.int .u64 id) ?_
  by_cases c3 : (Kv.look E (Ky.mk 12 id 0)).isSome = true
  · refine tc 16 66 #[pg g, .agg #[.int .i64 12, .func (.func 95) #[] #[], .func (.func 96) #[] #[], .func (.func 97) #[] #[]], .int .u64 id] (findUb A.sx hid (by omega) (by omega) c3) ?_
    rintro _ v5 ⟨rfl, K4, S, hK, hC⟩
    refine ⟨_, rfl, ?_⟩
    have mXg2 := not_op Xg2 nXg2 hK
    replace Xg2 := Xg2.chg hC nXg2
    replace nXg2 := mXg2
    clear mXg2
    replace A := A.op S hK hC
    clear S hK hC
    refine t 12 (.tuple #[.agg (uA (got E (Ky.mk 12 id 0))), .bool true]) ?_
    refine t 17 (.agg (uA (got E (Ky.mk 12 id 0)))) ?_
    refine t 18 (.bool true) ?_
    have lXg2 := Xg2.lt
    refine ta 7 [.int .u64 0, .int .u64 0, .int .u64 0, .int .u64 0, .int .u64 0, .int .u64 0] 42 (pg) ?_
    intro v6 g7 Xg7 hg7 B
    have zg7 := Nat.le_trans A.size hg7
    have nXg7 := A.new hg7
    replace A := A.keep B
    replace Xg2 := Xg2.keep B
    clear B
    refine ts Xg7 0 (.agg (uA (got E (Ky.mk 12 id 0)))) (uL (got E (Ky.mk 12 id 0))) (uL (got E (Ky.mk 12 id 0))) ?_
    intro v8 Y C
    replace A := Bk.At.cell A Xg7 C zg7 nXg7 (by decide)
    replace Xg2 := Xg2.chg C (show g2 ≠ g7 by omega)
    clear C Xg7
    have Xg7 := Y
    clear Y
    refine t 8 (.bool true) ?_
    refine gl_nil ?_
    refine ge_then ?_
    refine gc_fr [(0, pg g), (2, .int .u64 id), (4, pg g2), (6, .bool false), (7, pg g7), (8, .bool true)] (by kernel_rfl) ?_
    refine gc_seq ?_
    refine gc_seq ?_
    refine gc_reg ?_
    refine t 19 (.bool true) ?_
    refine t 20 (.bool false) ?_
    refine gl_nil ?_
    refine ge_then ?_
    refine gc_no ?_
    refine gc_skip ?_
    refine ge_then ?_
    refine gc_seq ?_
    refine gc_reg ?_
    refine t 21 (pg g) ?_
    refine t 22 (pg g2) ?_
    refine tl 23 (.int .i64 12) Xg2 0 ?_
    refine t 24 (.int .u64 id) ?_
    refine tc 25 64 #[.int .i64 12, .int .u64 id, .int .u64 0] (qkey hid (mkE12 id)) ?_
    rintro _ v11 ⟨kv10, rfl, U9, B⟩
    refine ⟨_, rfl, ?_⟩
    replace A := A.keep B
    replace Xg2 := Xg2.keep B
    replace Xg7 := Xg7.keep B
    clear B
    refine tc 26 107 #[pg g, kv10] (xdel A.sx U9 (Nat.le_trans (Ky.mk_len _ _ _) (by decide)) (by omega) (by omega)) ?_
    rintro _ v13 ⟨rfl, K12, S, hK, hC⟩
    refine ⟨_, rfl, ?_⟩
    have mXg2 := not_op Xg2 nXg2 hK
    replace Xg2 := Xg2.chg hC nXg2
    replace nXg2 := mXg2
    clear mXg2
    have mXg7 := not_op Xg7 nXg7 hK
    replace Xg7 := Xg7.chg hC nXg7
    replace nXg7 := mXg7
    clear mXg7
    replace U9 := A.byu U9 hC
    replace A := A.op S hK hC
    clear S hK hC
    clear U9
    refine gl_nil ?_
    refine ge_then ?_
    refine gc_seq ?_
    refine gc_reg ?_
    refine t 27 (pq g2 3) ?_
    refine tl 28 (.func (.func 97) #[] #[]) Xg2 3 ?_
    refine tlr 29 (uL (got E (Ky.mk 12 id 0))) Xg7 0 ?_
    refine tc 30 97 #[.agg (uA (got E (Ky.mk 12 id 0)))] (trailU) ?_
    rintro _ v14 ⟨rfl, B⟩
    refine ⟨_, rfl, ?_⟩
    replace A := A.keep B
    replace Xg2 := Xg2.keep B
    replace Xg7 := Xg7.keep B
    clear B
    have lXg2 := Xg2.lt
    have lXg7 := Xg7.lt
    refine ta 9 [.int .u64 0, .int .u64 0, .int .u64 0] 167 (pg) ?_
    intro v15 g16 Xg16 hg16 B
    have zg16 := Nat.le_trans A.size hg16
    have nXg16 := A.new hg16
    replace A := A.keep B
    replace Xg2 := Xg2.keep B
    replace Xg7 := Xg7.keep B
    clear B
    refine ts Xg16 0 (.agg #[.int .u64 (uX (got E (Ky.mk 12 id 0)) 0), .int .u64 (uX (got E (Ky.mk 12 id 0)) 1), .int .u64 (uX (got E (Ky.mk 12 id 0)) 3)]) [.int .u64 (uX (got E (Ky.mk 12 id 0)) 0), .int .u64 (uX (got E (Ky.mk 12 id 0)) 1), .int .u64 (uX (got E (Ky.mk 12 id 0)) 3)] [.int .u64 (uX (got E (Ky.mk 12 id 0)) 0), .int .u64 (uX (got E (Ky.mk 12 id 0)) 1), .int .u64 (uX (got E (Ky.mk 12 id 0)) 3)] ?_
    intro v17 Y C
    replace A := Bk.At.cell A Xg16 C zg16 nXg16 (by decide)
    replace Xg2 := Xg2.chg C (show g2 ≠ g16 by omega)
    replace Xg7 := Xg7.chg C (show g7 ≠ g16 by omega)
    clear C Xg16
    have Xg16 := Y
    clear Y
    refine gl_nil ?_
    refine ge_then ?_
    refine gc_fr [(0, pg g), (2, .int .u64 id), (6, .bool false), (9, pg g16)] (by kernel_rfl) ?_
    refine gc_seq ?_
    refine gc_seq ?_
    refine gc_reg ?_
    refine tlr 31 [.int .u64 (uX (got E (Ky.mk 12 id 0)) 0), .int .u64 (uX (got E (Ky.mk 12 id 0)) 1), .int .u64 (uX (got E (Ky.mk 12 id 0)) 3)] Xg16 0 ?_
    refine t 32 (.int .u64 id) ?_
    refine tc 33 92 #[.agg #[.int .u64 (uX (got E (Ky.mk 12 id 0)) 0), .int .u64 (uX (got E (Ky.mk 12 id 0)) 1), .int .u64 (uX (got E (Ky.mk 12 id 0)) 3)], .int .u64 id] (marks_any (uX_rng (h.oct _) 1) (uX_rng (h.oct _) 3)) ?_
    rintro _ v21 ⟨as20, ms20, cs20, ps20, qs20, rs20, rfl, U18, U19, B⟩
    refine ⟨_, rfl, ?_⟩
    replace A := A.keep B
    replace Xg2 := Xg2.keep B
    replace Xg7 := Xg7.keep B
    replace Xg16 := Xg16.keep B
    clear B
    refine t 34 (.int .i64 0) ?_
    refine gl_nil ?_
    refine ge_then ?_
    refine gc_block ?_
    refine gc_rds 2 ?_
    refine gc_seq ?_
    refine gc_reg ?_
    refine t 35 (.bool true) ?_
    refine gl_nil ?_
    refine ge_then ?_
    refine gc_seq ?_
    refine gc_yes ?_
    refine gc_skip ?_
    refine ge_then ?_
    refine gc_seq ?_
    refine gc_block ?_
    refine gc_seq ?_
    refine gc_reg ?_
    refine tr 36 (.slice as20 ms20 cs20) (run_ix (.agg #[.slice as20 ms20 cs20, .slice ps20 qs20 rs20]) (.int .i64 0) (.slice as20 ms20 cs20) ix_0) ?_
    refine t 11 (.slice as20 ms20 cs20) ?_
    refine gl_nil ?_
    refine ge_then ?_
    refine gc_reg ?_
    refine t 37 (pg g) ?_
    refine t 38 (.slice as20 ms20 cs20) ?_
    refine tc 39 107 #[pg g, .slice as20 ms20 cs20] (xdel A.sx U18 (Nat.le_trans (Ky.mk_len _ _ _) (by decide)) (by omega) (by omega)) ?_
    rintro _ v23 ⟨rfl, K22, S, hK, hC⟩
    refine ⟨_, rfl, ?_⟩
    have mXg2 := not_op Xg2 nXg2 hK
    replace Xg2 := Xg2.chg hC nXg2
    replace nXg2 := mXg2
    clear mXg2
    have mXg7 := not_op Xg7 nXg7 hK
    replace Xg7 := Xg7.chg hC nXg7
    replace nXg7 := mXg7
    clear mXg7
    have mXg16 := not_op Xg16 nXg16 hK
    replace Xg16 := Xg16.chg hC nXg16
    replace nXg16 := mXg16
    clear mXg16
    replace U18 := A.byu U18 hC
    replace U19 := A.byu U19 hC
    replace A := A.op S hK hC
    clear S hK hC
    clear U18
    refine gl_nil ?_
    refine ge_bn ?_
    refine ge_then ?_
    refine gc_reg ?_
    refine t 40 (.int .i64 1) ?_
    refine t 34 (.int .i64 1) ?_
    refine gl_nil ?_
    refine ge_rd ?_
    refine gc_fr [(0, pg g), (6, .bool false), (9, pg g16), (11, .slice as20 ms20 cs20), (33, .agg #[.slice as20 ms20 cs20, .slice ps20 qs20 rs20]), (34, .int .i64 1), (35, .bool true), (36, .slice as20 ms20 cs20), (37, pg g), (38, .slice as20 ms20 cs20), (40, .int .i64 1)] (by kernel_rfl) ?_
    refine gc_seq ?_
    refine gc_reg ?_
    refine t 35 (.bool true) ?_
    refine gl_nil ?_
    refine ge_then ?_
    refine gc_seq ?_
    refine gc_yes ?_
    refine gc_skip ?_
    refine ge_then ?_
    refine gc_seq ?_
    refine gc_block ?_
    refine gc_seq ?_
    refine gc_reg ?_
    refine tr 36 (.slice ps20 qs20 rs20) (run_ix (.agg #[.slice as20 ms20 cs20, .slice ps20 qs20 rs20]) (.int .i64 1) (.slice ps20 qs20 rs20) ix_1) ?_
    refine t 11 (.slice ps20 qs20 rs20) ?_
    refine gl_nil ?_
    refine ge_then ?_
    refine gc_reg ?_
    refine t 37 (pg g) ?_
    refine t 38 (.slice ps20 qs20 rs20) ?_
    refine tc 39 107 #[pg g, .slice ps20 qs20 rs20] (xdel A.sx U19 (Nat.le_trans (Ky.mk_len _ _ _) (by decide)) (by omega) (by omega)) ?_
    rintro _ v25 ⟨rfl, K24, S, hK, hC⟩
    refine ⟨_, rfl, ?_⟩
    have mXg2 := not_op Xg2 nXg2 hK
    replace Xg2 := Xg2.chg hC nXg2
    replace nXg2 := mXg2
    clear mXg2
    have mXg7 := not_op Xg7 nXg7 hK
    replace Xg7 := Xg7.chg hC nXg7
    replace nXg7 := mXg7
    clear mXg7
    have mXg16 := not_op Xg16 nXg16 hK
    replace Xg16 := Xg16.chg hC nXg16
    replace nXg16 := mXg16
    clear mXg16
    replace U19 := A.byu U19 hC
    replace A := A.op S hK hC
    clear S hK hC
    clear U19
    refine gl_nil ?_
    refine ge_bn ?_
    refine ge_then ?_
    refine gc_reg ?_
    refine t 40 (.int .i64 2) ?_
    refine t 34 (.int .i64 2) ?_
    refine gl_nil ?_
    refine ge_rd ?_
    refine gc_fr [(0, pg g), (6, .bool false), (9, pg g16), (11, .slice ps20 qs20 rs20), (33, .agg #[.slice as20 ms20 cs20, .slice ps20 qs20 rs20]), (34, .int .i64 2), (35, .bool true), (36, .slice ps20 qs20 rs20), (37, pg g), (38, .slice ps20 qs20 rs20), (40, .int .i64 2)] (by kernel_rfl) ?_
    refine gc_seq ?_
    refine gc_reg ?_
    refine t 35 (.bool false) ?_
    refine gl_nil ?_
    refine ge_then ?_
    refine gc_seq ?_
    refine gc_no ?_
    refine gc_exit ?_
    refine ge_tx ?_
    refine ge_tx ?_
    refine ge_bx ?_
    refine ge_then ?_
    refine gc_seq ?_
    replace A := A.drew
    replace Xg2 := Xg2.drew
    replace Xg7 := Xg7.drew
    replace Xg16 := Xg16.drew
    refine gc_draw (fun w' => Blk w' g16 [.int .u64 (uX (got E (Ky.mk 12 id 0)) 0), .int .u64 (uX (got E (Ky.mk 12 id 0)) 1), .int .u64 (uX (got E (Ky.mk 12 id 0)) 3)] 167) (fun _ => false) Xg16 ?_
    refine zlr 0 41 [.int .u64 (uX (got E (Ky.mk 12 id 0)) 0), .int .u64 (uX (got E (Ky.mk 12 id 0)) 1), .int .u64 (uX (got E (Ky.mk 12 id 0)) 3)] (fun _ h => h) 0 ?_
    refine z 1 42 (pg g) ?_
    refine z 2 43 (pg g) ?_
    refine z 3 44 (pg g16) ?_
    refine zl 4 45 (.int .u64 (uX (got E (Ky.mk 12 id 0)) 0)) (fun _ h => h) 0 ?_
    refine z 5 46 (pq g16 1) ?_
    refine zl 6 47 (.int .u64 (uX (got E (Ky.mk 12 id 0)) 1)) (fun _ h => h) 1 ?_
    refine zc 7 48 24 #[pg g, .int .u64 (uX (got E (Ky.mk 12 id 0)) 0), .int .u64 (uX (got E (Ky.mk 12 id 0)) 1)] (count_get A.sx (uX_rng (h.oct _) 0) (by omega) (by omega)) ?_
    rintro _ v27 ⟨rfl, K26, S, hK, hC⟩
    have mXg2 := not_op Xg2 nXg2 hK
    replace Xg2 := Xg2.chg hC nXg2
    replace nXg2 := mXg2
    clear mXg2
    have mXg7 := not_op Xg7 nXg7 hK
    replace Xg7 := Xg7.chg hC nXg7
    replace nXg7 := mXg7
    clear mXg7
    have mXg16 := not_op Xg16 nXg16 hK
    replace Xg16 := Xg16.chg hC nXg16
    replace nXg16 := mXg16
    clear mXg16
    replace A := A.op S hK hC
    clear S hK hC
    refine ⟨_, rfl, Xg16, ?_⟩
    refine zq 8 49 (.int .u64 (IntKind.u64.wrap (cntQ (rem (rem (rem E (Ky.mk 12 id 0)) (Ky.mk 14 (uX (got E (Ky.mk 12 id 0)) 3) id)) (Ky.mk 15 (uX (got E (Ky.mk 12 id 0)) 1) id)) (uX (got E (Ky.mk 12 id 0)) 0) (uX (got E (Ky.mk 12 id 0)) 1) - 1))) (.int .u64 ((cntQ (rem (rem (rem E (Ky.mk 12 id 0)) (Ky.mk 14 (uX (got E (Ky.mk 12 id 0)) 3) id)) (Ky.mk 15 (uX (got E (Ky.mk 12 id 0)) 1) id)) (uX (got E (Ky.mk 12 id 0)) 0) (uX (got E (Ky.mk 12 id 0)) 1) - 1) % 18446744073709551616)) (congrArg (Value.int .u64) (IntKind.wrap_u64 _)) ?_
    refine zc 9 50 94 #[.agg #[.int .u64 (uX (got E (Ky.mk 12 id 0)) 0), .int .u64 (uX (got E (Ky.mk 12 id 0)) 1), .int .u64 (uX (got E (Ky.mk 12 id 0)) 3)], pg g, .int .u64 ((cntQ (rem (rem (rem E (Ky.mk 12 id 0)) (Ky.mk 14 (uX (got E (Ky.mk 12 id 0)) 3) id)) (Ky.mk 15 (uX (got E (Ky.mk 12 id 0)) 1) id)) (uX (got E (Ky.mk 12 id 0)) 0) (uX (got E (Ky.mk 12 id 0)) 1) - 1) % 18446744073709551616)] (count_set A.sx (uX_rng (h.oct _) 0) (by omega) (by omega)) ?_
    rintro _ v29 ⟨rfl, K28, S, hK, hC⟩
    have mXg2 := not_op Xg2 nXg2 hK
    replace Xg2 := Xg2.chg hC nXg2
    replace nXg2 := mXg2
    clear mXg2
    have mXg7 := not_op Xg7 nXg7 hK
    replace Xg7 := Xg7.chg hC nXg7
    replace nXg7 := mXg7
    clear mXg7
    have mXg16 := not_op Xg16 nXg16 hK
    replace Xg16 := Xg16.chg hC nXg16
    replace nXg16 := mXg16
    clear mXg16
    replace A := A.op S hK hC
    clear S hK hC
    refine ⟨_, rfl, Xg16, ?_⟩
    refine gz_done ?_
    refine ge_then ?_
    refine gc_seq ?_
    refine gc_reg ?_
    refine t 6 (.bool true) ?_
    refine gl_nil ?_
    refine ge_then ?_
    refine gc_fr [(6, .bool true)] (by kernel_rfl) ?_
    refine gc_ret ?_
    refine ge_ret (.bool true) (rs1 6 (by kernel_rfl) (by kernel_rfl)) ?_
    rw [show dropU E id = _ from if_pos c3, show (Kv.look E (Ky.mk 12 id 0)).isSome = true from c3]
    exact ⟨rfl, _, _, _, A.sx, by omega, by omega, A.km, A.cc⟩
  · refine tc 16 66 #[pg g, .agg #[.int .i64 12, .func (.func 95) #[] #[], .func (.func 96) #[] #[], .func (.func 97) #[] #[]], .int .u64 id] (findUb A.sx hid (by omega) (by omega) (Bool.eq_false_iff.2 c3)) ?_
    rintro _ v31 ⟨rfl, K30, S, hK, hC⟩
    refine ⟨_, rfl, ?_⟩
    have mXg2 := not_op Xg2 nXg2 hK
    replace Xg2 := Xg2.chg hC nXg2
    replace nXg2 := mXg2
    clear mXg2
    replace A := A.op S hK hC
    clear S hK hC
    refine t 12 (.tuple #[.agg (uA (got E (Ky.mk 12 id 0))), .bool false]) ?_
    refine t 17 (.agg (uA (got E (Ky.mk 12 id 0)))) ?_
    refine t 18 (.bool false) ?_
    have lXg2 := Xg2.lt
    refine ta 7 [.int .u64 0, .int .u64 0, .int .u64 0, .int .u64 0, .int .u64 0, .int .u64 0] 42 (pg) ?_
    intro v32 g33 Xg33 hg33 B
    have zg33 := Nat.le_trans A.size hg33
    have nXg33 := A.new hg33
    replace A := A.keep B
    replace Xg2 := Xg2.keep B
    clear B
    refine ts Xg33 0 (.agg (uA (got E (Ky.mk 12 id 0)))) (uL (got E (Ky.mk 12 id 0))) (uL (got E (Ky.mk 12 id 0))) ?_
    intro v34 Y C
    replace A := Bk.At.cell A Xg33 C zg33 nXg33 (by decide)
    replace Xg2 := Xg2.chg C (show g2 ≠ g33 by omega)
    clear C Xg33
    have Xg33 := Y
    clear Y
    refine t 8 (.bool false) ?_
    refine gl_nil ?_
    refine ge_then ?_
    refine gc_fr [(0, pg g), (2, .int .u64 id), (4, pg g2), (6, .bool false), (7, pg g33), (8, .bool false)] (by kernel_rfl) ?_
    refine gc_seq ?_
    refine gc_seq ?_
    refine gc_reg ?_
    refine t 19 (.bool false) ?_
    refine t 20 (.bool true) ?_
    refine gl_nil ?_
    refine ge_then ?_
    refine gc_yes ?_
    refine gc_seq ?_
    refine gc_reg ?_
    refine t 6 (.bool false) ?_
    refine gl_nil ?_
    refine ge_then ?_
    refine gc_ret ?_
    refine ge_tr ?_
    refine ge_ret (.bool false) (rs1 6 (by kernel_rfl) (by kernel_rfl)) ?_
    rw [show dropU E id = _ from if_neg c3, show (Kv.look E (Ky.mk 12 id 0)).isSome = false from Bool.eq_false_iff.2 c3]
    exact ⟨rfl, _, _, _, A.sx, by omega, by omega, A.km, A.cc⟩
theorem less1 {w : World} {r q : Nat} {x0 x1 x2 x3 x4 x5 y : Int} (hne : q ≠ r) (X : Blk w r [.int .u64 x0, .int .u64 x1, .int .u64 x2, .int .u64 x3, .int .u64 x4, .int .u64 x5] 42) (Xq : Blk w q [.int .u64 y] 22) : Calls Tryz.prog 48 #[pg r, pg q] w fun e w' => e = .returned (.tuple #[]) ∧ Blk w' r [.int .u64 x0, .int .u64 x1, .int .u64 x2, .int .u64 x3, .int .u64 x4, .int .u64 y] 42 ∧ Chg (· = r) w w' := by
  have CC : Chg (· = r) w w := Chg.refl _ _
  refine gc_enter (n := 7) Tryz.func48 rfl (by kernel_rfl) (by kernel_rfl) ?_
  refine gc_reg ?_
  refine t 3 (pg r) ?_
  refine tl 4 (.int .u64 y) Xq 0 ?_
  refine t 5 (pg r) ?_
  refine t 6 (pq r 5) ?_
  refine ts X 5 (.int .u64 y) [.int .u64 y] [.int .u64 x0, .int .u64 x1, .int .u64 x2, .int .u64 x3, .int .u64 x4, .int .u64 y] ?_
  intro v1 Y C
  replace Xq := Xq.chg C hne
  replace CC := CC.trans C (fun _ _ h => h)
  clear C X
  have X := Y
  clear Y
  refine gl_nil ?_
  refine ge_end (.tuple #[]) (rs0 (by kernel_rfl)) ?_
  exact ⟨rfl, X, CC⟩
theorem changeU {B : Nat} {w : World} {K : Nat → Prop} {g : Nat} {E : Ents} {W : List Ents} {n N : Nat} {id y : Int} {q : Nat} (h : Sx B w K g E W n N) (hid : 0 ≤ id ∧ id < 18446744073709551616) (Xq : Blk w q [.int .u64 y] 22) (nXq : ¬ K q) (hn : n + 20 ≤ 4000000000000000000) (hN : N + 20 ≤ 100000000) : Calls Tryz.prog 47 #[pg g, .agg #[.int .i64 12, .func (.func 95) #[] #[], .func (.func 96) #[] #[], .func (.func 97) #[] #[]], .int .u64 id, .func (.func 48) #[] #[pg q]] w (SxF B w K g (lessU E id y) W n N (.bool (Kv.look E (Ky.mk 12 id 0)).isSome)) := by
  have lXq := Xq.lt
  have A := h.at
  refine gc_enter (n := 27) Tryz.func47 rfl (by kernel_rfl) (by kernel_rfl) ?_
  refine gc_seq ?_
  refine gc_reg ?_
  have lXq := Xq.lt
  refine ta 5 [.int .i64 12, .func (.func 95) #[] #[], .func (.func 96) #[] #[], .func (.func 97) #[] #[]] 105 (pg) ?_
  intro v1 g2 Xg2 hg2 B
  have zg2 := Nat.le_trans A.size hg2
  have nXg2 := A.new hg2
  replace Xq := Xq.keep B
  replace A := A.keep B
  clear B
  refine t 8 (.bool false) ?_
  refine gl_nil ?_
  refine ge_then ?_
  refine gc_seq ?_
  refine gc_reg ?_
  refine t 12 (pg g) ?_
  refine tlr 13 [.int .i64 12, .func (.func 95) #[] #[], .func (.func 96) #[] #[], .func (.func 97) #[] #[]] Xg2 0 ?_
  refine t 14 (.int .u64 id) ?_
  by_cases c3 : (Kv.look E (Ky.mk 12 id 0)).isSome = true
  · refine tc 15 66 #[pg g, .agg #[.int .i64 12, .func (.func 95) #[] #[], .func (.func 96) #[] #[], .func (.func 97) #[] #[]], .int .u64 id] (findUb A.sx hid (by omega) (by omega) c3) ?_
    rintro _ v5 ⟨rfl, K4, S, hK, hC⟩
    refine ⟨_, rfl, ?_⟩
    have mXq := not_op Xq nXq hK
    replace Xq := Xq.chg hC nXq
    replace nXq := mXq
    clear mXq
    have mXg2 := not_op Xg2 nXg2 hK
    replace Xg2 := Xg2.chg hC nXg2
    replace nXg2 := mXg2
    clear mXg2
    replace A := A.op S hK hC
    clear S hK hC
    refine t 11 (.tuple #[.agg (uA (got E (Ky.mk 12 id 0))), .bool true]) ?_
    refine t 16 (.agg (uA (got E (Ky.mk 12 id 0)))) ?_
    refine t 17 (.bool true) ?_
    have lXq := Xq.lt
    have lXg2 := Xg2.lt
    refine ta 9 [.int .u64 0, .int .u64 0, .int .u64 0, .int .u64 0, .int .u64 0, .int .u64 0] 42 (pg) ?_
    intro v6 g7 Xg7 hg7 B
    have zg7 := Nat.le_trans A.size hg7
    have nXg7 := A.new hg7
    replace Xq := Xq.keep B
    replace A := A.keep B
    replace Xg2 := Xg2.keep B
    clear B
    refine ts Xg7 0 (.agg (uA (got E (Ky.mk 12 id 0)))) (uL (got E (Ky.mk 12 id 0))) (uL (got E (Ky.mk 12 id 0))) ?_
    intro v8 Y C
    replace Xq := Xq.chg C (show q ≠ g7 by omega)
    replace A := Bk.At.cell A Xg7 C zg7 nXg7 (by decide)
    replace Xg2 := Xg2.chg C (show g2 ≠ g7 by omega)
    clear C Xg7
    have Xg7 := Y
    clear Y
    refine t 10 (.bool true) ?_
    refine gl_nil ?_
    refine ge_then ?_
    refine gc_fr [(0, pg g), (2, .int .u64 id), (3, .func (.func 48) #[] #[pg q]), (5, pg g2), (8, .bool false), (9, pg g7), (10, .bool true)] (by kernel_rfl) ?_
    refine gc_seq ?_
    refine gc_seq ?_
    refine gc_reg ?_
    refine t 18 (.bool true) ?_
    refine gl_nil ?_
    refine ge_then ?_
    refine gc_yes ?_
    refine gc_seq ?_
    refine gc_reg ?_
    refine t 19 (.func (.func 48) #[] #[pg q]) ?_
    refine tc 20 48 #[pg g7, pg q] (less1 (show q ≠ g7 by omega) Xg7 Xq) ?_
    rintro _ v9 ⟨rfl, Z, C⟩
    refine ⟨_, rfl, ?_⟩
    replace Xq := Xq.chg C (show q ≠ g7 by omega)
    replace A := Bk.At.cell A Xg7 C zg7 nXg7 (by decide)
    replace Xg2 := Xg2.chg C (show g2 ≠ g7 by omega)
    clear C
    clear Xg7
    have Xg7 := Z
    clear Z
    refine gl_nil ?_
    refine ge_then ?_
    refine gc_reg ?_
    refine t 21 (pg g) ?_
    refine tlr 22 [.int .i64 12, .func (.func 95) #[] #[], .func (.func 96) #[] #[], .func (.func 97) #[] #[]] Xg2 0 ?_
    refine t 23 (.int .u64 id) ?_
    refine tlr 24 [.int .u64 (uX (got E (Ky.mk 12 id 0)) 0), .int .u64 (uX (got E (Ky.mk 12 id 0)) 1), .int .u64 (uX (got E (Ky.mk 12 id 0)) 2), .int .u64 (uX (got E (Ky.mk 12 id 0)) 3), .int .u64 (uX (got E (Ky.mk 12 id 0)) 4), .int .u64 y] Xg7 0 ?_
    refine tc 25 91 #[pg g, .agg #[.int .i64 12, .func (.func 95) #[] #[], .func (.func 96) #[] #[], .func (.func 97) #[] #[]], .int .u64 id, .agg #[.int .u64 (uX (got E (Ky.mk 12 id 0)) 0), .int .u64 (uX (got E (Ky.mk 12 id 0)) 1), .int .u64 (uX (got E (Ky.mk 12 id 0)) 2), .int .u64 (uX (got E (Ky.mk 12 id 0)) 3), .int .u64 (uX (got E (Ky.mk 12 id 0)) 4), .int .u64 y]] (layU A.sx hid (by omega) (by omega)) ?_
    rintro _ v11 ⟨rfl, K10, S, hK, hC⟩
    refine ⟨_, rfl, ?_⟩
    have mXq := not_op Xq nXq hK
    replace Xq := Xq.chg hC nXq
    replace nXq := mXq
    clear mXq
    have mXg2 := not_op Xg2 nXg2 hK
    replace Xg2 := Xg2.chg hC nXg2
    replace nXg2 := mXg2
    clear mXg2
    have mXg7 := not_op Xg7 nXg7 hK
    replace Xg7 := Xg7.chg hC nXg7
    replace nXg7 := mXg7
    clear mXg7
    replace A := A.op S hK hC
    clear S hK hC
    refine gl_nil ?_
    refine ge_then ?_
    refine gc_seq ?_
    refine gc_reg ?_
    refine t 26 (.bool true) ?_
    refine t 8 (.bool true) ?_
    refine gl_nil ?_
    refine ge_then ?_
    refine gc_ret ?_
    refine ge_ret (.bool true) (rs1 8 (by kernel_rfl) (by kernel_rfl)) ?_
    rw [show lessU E id y = _ from if_pos c3, show (Kv.look E (Ky.mk 12 id 0)).isSome = true from c3]
    exact ⟨rfl, _, _, _, A.sx, by omega, by omega, A.km, A.cc⟩
  · refine tc 15 66 #[pg g, .agg #[.int .i64 12, .func (.func 95) #[] #[], .func (.func 96) #[] #[], .func (.func 97) #[] #[]], .int .u64 id] (findUb A.sx hid (by omega) (by omega) (Bool.eq_false_iff.2 c3)) ?_
    rintro _ v13 ⟨rfl, K12, S, hK, hC⟩
    refine ⟨_, rfl, ?_⟩
    have mXq := not_op Xq nXq hK
    replace Xq := Xq.chg hC nXq
    replace nXq := mXq
    clear mXq
    have mXg2 := not_op Xg2 nXg2 hK
    replace Xg2 := Xg2.chg hC nXg2
    replace nXg2 := mXg2
    clear mXg2
    replace A := A.op S hK hC
    clear S hK hC
    refine t 11 (.tuple #[.agg (uA (got E (Ky.mk 12 id 0))), .bool false]) ?_
    refine t 16 (.agg (uA (got E (Ky.mk 12 id 0)))) ?_
    refine t 17 (.bool false) ?_
    have lXq := Xq.lt
    have lXg2 := Xg2.lt
    refine ta 9 [.int .u64 0, .int .u64 0, .int .u64 0, .int .u64 0, .int .u64 0, .int .u64 0] 42 (pg) ?_
    intro v14 g15 Xg15 hg15 B
    have zg15 := Nat.le_trans A.size hg15
    have nXg15 := A.new hg15
    replace Xq := Xq.keep B
    replace A := A.keep B
    replace Xg2 := Xg2.keep B
    clear B
    refine ts Xg15 0 (.agg (uA (got E (Ky.mk 12 id 0)))) (uL (got E (Ky.mk 12 id 0))) (uL (got E (Ky.mk 12 id 0))) ?_
    intro v16 Y C
    replace Xq := Xq.chg C (show q ≠ g15 by omega)
    replace A := Bk.At.cell A Xg15 C zg15 nXg15 (by decide)
    replace Xg2 := Xg2.chg C (show g2 ≠ g15 by omega)
    clear C Xg15
    have Xg15 := Y
    clear Y
    refine t 10 (.bool false) ?_
    refine gl_nil ?_
    refine ge_then ?_
    refine gc_fr [(0, pg g), (2, .int .u64 id), (3, .func (.func 48) #[] #[pg q]), (5, pg g2), (8, .bool false), (9, pg g15), (10, .bool false)] (by kernel_rfl) ?_
    refine gc_seq ?_
    refine gc_seq ?_
    refine gc_reg ?_
    refine t 18 (.bool false) ?_
    refine gl_nil ?_
    refine ge_then ?_
    refine gc_no ?_
    refine gc_skip ?_
    refine ge_then ?_
    refine gc_seq ?_
    refine gc_reg ?_
    refine t 26 (.bool false) ?_
    refine t 8 (.bool false) ?_
    refine gl_nil ?_
    refine ge_then ?_
    refine gc_ret ?_
    refine ge_ret (.bool false) (rs1 8 (by kernel_rfl) (by kernel_rfl)) ?_
    rw [show lessU E id y = _ from if_neg c3, show (Kv.look E (Ky.mk 12 id 0)).isSome = false from Bool.eq_false_iff.2 c3]
    exact ⟨rfl, _, _, _, A.sx, by omega, by omega, A.km, A.cc⟩
end Qu
end Go.Proofs.YtidnifmehnjipaaGreat

namespace Go.Proofs.YtidnifmehnjipaaGreat
namespace Qu
open Go.RowKit Go.Lib Pg Lim Gl Kv Bk Pw
attribute [local go_sem] Oper.semAt_some
set_option maxRecDepth 100000
set_option linter.unusedVariables false
set_option linter.unusedSimpArgs false
set_option maxHeartbeats 2000000
theorem unbond_any {B : Nat} {w : World} {K : Nat → Prop} {g : Nat} {E : Ents} {W : List Ents} {n N : Nat} {x0 x1 x2 x3 x4 x5 : Int} (h : Sx B w K g E W n N) (hx0 : 0 ≤ x0 ∧ x0 < 18446744073709551616) (hx1 : 0 ≤ x1 ∧ x1 < 18446744073709551616) (hx3 : 0 ≤ x3 ∧ x3 < 18446744073709551616) (hn : n + 30 ≤ 4000000000000000000) (hN : N + 30 ≤ 100000000) : Calls Tryz.prog 11 #[pg g, .agg #[.int .u64 x0, .int .u64 x1, .int .u64 x2, .int .u64 x3, .int .u64 x4, .int .u64 x5]] w (SxE B w K g (beginE E 12 (uv x0 x1 x2 x3 x4 x5) x0 x1 x3) W (n + 7) (N + 10) (.int .u64 (nxtB (chn E)))) := by
  have A := h.at
  refine gc_enter (n := 9) Tryz.func11 rfl (by kernel_rfl) (by kernel_rfl) ?_
  refine gc_seq ?_
  refine gc_reg ?_
  refine ta 3 [.int .u64 x0, .int .u64 x1, .int .u64 x2, .int .u64 x3, .int .u64 x4, .int .u64 x5] 42 (pg) ?_
  intro v1 g2 Xg2 hg2 B
  have zg2 := Nat.le_trans A.size hg2
  have nXg2 := A.new hg2
  replace A := A.keep B
  clear B
  refine t 4 (.int .u64 0) ?_
  refine gl_nil ?_
  refine ge_then ?_
  refine gc_seq ?_
  replace A := A.drew
  replace Xg2 := Xg2.drew
  refine gc_draw (fun w' => Blk w' g2 [.int .u64 x0, .int .u64 x1, .int .u64 x2, .int .u64 x3, .int .u64 x4, .int .u64 x5] 42) (fun _ => false) Xg2 ?_
  refine z 0 5 (pg g) ?_
  refine zlr 2 7 [.int .u64 x0, .int .u64 x1, .int .u64 x2, .int .u64 x3, .int .u64 x4, .int .u64 x5] (fun _ h => h) 0 ?_
  refine zc 1 6 40 #[] (unbondings_any) ?_
  rintro _ v3 ⟨rfl, B⟩
  replace A := A.keep B
  replace Xg2 := Xg2.keep B
  clear B
  refine ⟨_, rfl, Xg2, ?_⟩
  refine zc 3 8 39 #[pg g, .agg #[.int .i64 12, .func (.func 95) #[] #[], .func (.func 96) #[] #[], .func (.func 97) #[] #[]], .agg #[.int .u64 x0, .int .u64 x1, .int .u64 x2, .int .u64 x3, .int .u64 x4, .int .u64 x5]] (beginU A.sx hx0 hx1 hx3 (by omega) (by omega)) ?_
  rintro _ v5 ⟨rfl, K4, S, hK, hC⟩
  have mXg2 := not_op Xg2 nXg2 hK
  replace Xg2 := Xg2.chg hC nXg2
  replace nXg2 := mXg2
  clear mXg2
  replace A := A.op S hK hC
  clear S hK hC
  refine ⟨_, rfl, Xg2, ?_⟩
  refine z 4 4 (.int .u64 (nxtB (chn E))) ?_
  refine gz_done ?_
  refine ge_then ?_
  refine gc_ret ?_
  refine ge_ret (.int .u64 (nxtB (chn E))) (rs1 4 (by kernel_rfl) (by kernel_rfl)) ?_
  exact ⟨rfl, _, A.sx, A.km, A.cc⟩
theorem unbonding_any {B : Nat} {w : World} {K : Nat → Prop} {g : Nat} {E : Ents} {W : List Ents} {n N : Nat} {id : Int} (h : Sx B w K g E W n N) (hid : 0 ≤ id ∧ id < 18446744073709551616) (hn : n + 30 ≤ 4000000000000000000) (hN : N + 30 ≤ 100000000) : Calls Tryz.prog 25 #[pg g, .int .u64 id] w (SxE B w K g E W (n + 1) N (.tuple #[.agg (uA (got E (Ky.mk 12 id 0))), .bool (Kv.look E (Ky.mk 12 id 0)).isSome])) := by
  have A := h.at
  refine gc_enter (n := 12) Tryz.func25 rfl (by kernel_rfl) (by kernel_rfl) ?_
  refine gc_seq ?_
  refine gc_reg ?_
  refine ta 4 [.int .u64 0, .int .u64 0, .int .u64 0, .int .u64 0, .int .u64 0, .int .u64 0] 42 (pg) ?_
  intro v1 g2 Xg2 hg2 B
  have zg2 := Nat.le_trans A.size hg2
  have nXg2 := A.new hg2
  replace A := A.keep B
  clear B
  refine t 5 (.bool false) ?_
  refine gl_nil ?_
  refine ge_then ?_
  refine gc_seq ?_
  refine gc_reg ?_
  refine t 6 (pg g) ?_
  refine tc 7 40 #[] (unbondings_any) ?_
  rintro _ v3 ⟨rfl, B⟩
  refine ⟨_, rfl, ?_⟩
  replace A := A.keep B
  replace Xg2 := Xg2.keep B
  clear B
  refine t 8 (.int .u64 id) ?_
  refine tc 9 66 #[pg g, .agg #[.int .i64 12, .func (.func 95) #[] #[], .func (.func 96) #[] #[], .func (.func 97) #[] #[]], .int .u64 id] (findU A.sx hid (by omega) (by omega)) ?_
  rintro _ v5 ⟨rfl, K4, S, hK, hC⟩
  refine ⟨_, rfl, ?_⟩
  have mXg2 := not_op Xg2 nXg2 hK
  replace Xg2 := Xg2.chg hC nXg2
  replace nXg2 := mXg2
  clear mXg2
  replace A := A.op S hK hC
  clear S hK hC
  refine t 10 (.agg (uA (got E (Ky.mk 12 id 0)))) ?_
  refine t 11 (.bool (Kv.look E (Ky.mk 12 id 0)).isSome) ?_
  refine ts Xg2 0 (.agg (uA (got E (Ky.mk 12 id 0)))) (uL (got E (Ky.mk 12 id 0))) (uL (got E (Ky.mk 12 id 0))) ?_
  intro v6 Y C
  replace A := Bk.At.cell A Xg2 C zg2 nXg2 (by decide)
  clear C Xg2
  have Xg2 := Y
  clear Y
  refine t 5 (.bool (Kv.look E (Ky.mk 12 id 0)).isSome) ?_
  refine gl_nil ?_
  refine ge_then ?_
  refine gc_ret ?_
  refine ge_ret (.tuple #[.agg (uA (got E (Ky.mk 12 id 0))), .bool (Kv.look E (Ky.mk 12 id 0)).isSome]) (rsct 4 5 (T := 42) (by kernel_rfl) (by kernel_rfl) (by kernel_rfl) (lr Xg2 0)) ?_
  exact ⟨rfl, _, A.sx, A.km, A.cc⟩
theorem less_any {B : Nat} {w : World} {K : Nat → Prop} {g : Nat} {E : Ents} {W : List Ents} {n N : Nat} {id y : Int} (h : Sx B w K g E W n N) (hid : 0 ≤ id ∧ id < 18446744073709551616) (hn : n + 30 ≤ 4000000000000000000) (hN : N + 30 ≤ 100000000) : Calls Tryz.prog 15 #[pg g, .int .u64 id, .int .u64 y] w (SxF B w K g (lessU E id y) W n N (.bool (Kv.look E (Ky.mk 12 id 0)).isSome)) := by
  have A := h.at
  refine gc_enter (n := 12) Tryz.func15 rfl (by kernel_rfl) (by kernel_rfl) ?_
  refine gc_seq ?_
  refine gc_reg ?_
  refine ta 5 [.int .u64 y] 22 (pg) ?_
  intro v1 g2 Xg2 hg2 B
  have zg2 := Nat.le_trans A.size hg2
  have nXg2 := A.new hg2
  replace A := A.keep B
  clear B
  refine t 6 (.bool false) ?_
  refine gl_nil ?_
  refine ge_then ?_
  refine gc_seq ?_
  refine gc_reg ?_
  refine t 7 (pg g) ?_
  refine tc 8 40 #[] (unbondings_any) ?_
  rintro _ v3 ⟨rfl, B⟩
  refine ⟨_, rfl, ?_⟩
  replace A := A.keep B
  replace Xg2 := Xg2.keep B
  clear B
  refine t 9 (.int .u64 id) ?_
  refine t 10 (.func (.func 48) #[] #[pg g2]) ?_
  refine tc 11 47 #[pg g, .agg #[.int .i64 12, .func (.func 95) #[] #[], .func (.func 96) #[] #[], .func (.func 97) #[] #[]], .int .u64 id, .func (.func 48) #[] #[pg g2]] (changeU A.sx hid Xg2 nXg2 (by omega) (by omega)) ?_
  rintro _ v6 ⟨rfl, K4, n5, mn5, S, bn5, dn5, hK, hC⟩
  refine ⟨_, rfl, ?_⟩
  have mXg2 := not_op Xg2 nXg2 hK
  replace Xg2 := Xg2.chg hC nXg2
  replace nXg2 := mXg2
  clear mXg2
  replace A := A.op S hK hC
  clear S hK hC
  refine t 6 (.bool (Kv.look E (Ky.mk 12 id 0)).isSome) ?_
  refine gl_nil ?_
  refine ge_then ?_
  refine gc_ret ?_
  refine ge_ret (.bool (Kv.look E (Ky.mk 12 id 0)).isSome) (rs1 6 (by kernel_rfl) (by kernel_rfl)) ?_
  exact ⟨rfl, _, _, _, A.sx, by omega, by omega, A.km, A.cc⟩
end Qu
end Go.Proofs.YtidnifmehnjipaaGreat

namespace Go.Proofs.YtidnifmehnjipaaGreat
namespace Qu
open Go.RowKit Go.Lib Pg Lim Gl Kv
/-- limbs worth x, in block z (where there are any), which is none of the store's -/
structure Nk (w : World) (K : Nat → Prop) (z : Nat) (ao : Option Addr) (n c : Nat) (x : Int) : Prop where
  lt : n = 0 ∨ z < w.heap.size
  out : n = 0 ∨ ¬ K z
  to : ∀ w' : World, (n ≠ 0 → w'.heap[z]? = w.heap[z]?) → NatA w' ao n c x
/-- the normal list of x, in block z (where there are any limbs), which is none of the store's -/
structure Nq (w : World) (K : Nat → Prop) (z : Nat) (ao : Option Addr) (n c : Nat) (x : Int) : Prop where
  lt : n = 0 ∨ z < w.heap.size
  out : n = 0 ∨ ¬ K z
  to : ∀ w' : World, (n ≠ 0 → w'.heap[z]? = w.heap[z]?) → NatO w' ao n c x
section
variable {w w' : World} {K K' : Nat → Prop} {z n c : Nat} {ao : Option Addr} {x : Int}
theorem Nk.nat (h : Nk w K z ao n c x) : NatA w ao n c x := h.to w (fun _ => rfl)
theorem Nk.keep (h : Nk w K z ao n c x) (hb : Below w.heap.size w w') : Nk w' K z ao n c x :=
  ⟨h.lt.imp_right fun h => Nat.lt_of_lt_of_le h hb.size, h.out, fun w2 h2 => h.to w2 fun hn => (h2 hn).trans (hb.block z (h.lt.resolve_left hn))⟩
theorem Nk.drew (h : Nk w K z ao n c x) : Nk w.drew K z ao n c x := h.keep (Below.refl _ _).drew
theorem Nk.op (h : Nk w K z ao n c x) (hK : ∀ b, K' b → K b ∨ w.heap.size ≤ b) (hc : Chg K w w') : Nk w' K' z ao n c x := by
  refine ⟨h.lt.imp_right fun h => Nat.lt_of_lt_of_le h hc.size, ?_, fun w2 h2 => h.to w2 fun hn => (h2 hn).trans (hc.same z (h.lt.resolve_left hn) (h.out.resolve_left hn))⟩
  rcases h.lt with h1 | h1
  · exact .inl h1
  · refine h.out.imp_right fun h2 h3 => (hK z h3).elim h2 fun h4 => by omega
theorem Nk.cell {g : Nat} (h : Nk w K z ao n c x) (hc : Chg (· = g) w w') (hne : n = 0 ∨ z ≠ g) : Nk w' K z ao n c x :=
  ⟨h.lt.imp_right fun h => Nat.lt_of_lt_of_le h hc.size, h.out, fun w2 h2 => h.to w2 fun hn => (h2 hn).trans (hc.same z (h.lt.resolve_left hn) (hne.resolve_left hn))⟩
theorem Nq.o (h : Nq w K z ao n c x) : NatO w ao n c x := h.to w (fun _ => rfl)
theorem Nq.keep (h : Nq w K z ao n c x) (hb : Below w.heap.size w w') : Nq w' K z ao n c x :=
  ⟨h.lt.imp_right fun h => Nat.lt_of_lt_of_le h hb.size, h.out, fun w2 h2 => h.to w2 fun hn => (h2 hn).trans (hb.block z (h.lt.resolve_left hn))⟩
theorem Nq.drew (h : Nq w K z ao n c x) : Nq w.drew K z ao n c x := h.keep (Below.refl _ _).drew
theorem Nq.op (h : Nq w K z ao n c x) (hK : ∀ b, K' b → K b ∨ w.heap.size ≤ b) (hc : Chg K w w') : Nq w' K' z ao n c x := by
  refine ⟨h.lt.imp_right fun h => Nat.lt_of_lt_of_le h hc.size, ?_, fun w2 h2 => h.to w2 fun hn => (h2 hn).trans (hc.same z (h.lt.resolve_left hn) (h.out.resolve_left hn))⟩
  rcases h.lt with h1 | h1
  · exact .inl h1
  · refine h.out.imp_right fun h2 h3 => (hK z h3).elim h2 fun h4 => by omega
theorem Nq.cell {g : Nat} (h : Nq w K z ao n c x) (hc : Chg (· = g) w w') (hne : n = 0 ∨ z ≠ g) : Nq w' K z ao n c x :=
  ⟨h.lt.imp_right fun h => Nat.lt_of_lt_of_le h hc.size, h.out, fun w2 h2 => h.to w2 fun hn => (h2 hn).trans (hc.same z (h.lt.resolve_left hn) (hne.resolve_left hn))⟩
theorem Nq.nat (h : Nq w K z ao n c x) : NatA w ao n c x := h.o.a
theorem natW_nq {B : Nat} (h : Rc.NatW w B ao n c x) (hK : ∀ b, K b → b < B) : ∃ z, (n = 0 ∨ B ≤ z) ∧ Nq w K z ao n c x := by
  obtain ⟨b, o, l, h1, h2, h3, h4, h5⟩ := h.ex
  refine ⟨b, .inr h5, ?_, .inr fun hk => by have := hK b hk; omega, fun w2 hw => ⟨b, o, l, h1, h2, h3, ⟨h4.loc, fun i hi => ?_⟩⟩⟩
  · rcases Nat.eq_zero_or_pos n with h | h
    · exact .inl h
    · exact .inr (cell_lt (h4.cell 0 (by omega)))
  · rw [World.cell?_of_block (w := w) (hw (by omega))]
    exact h4.cell i hi
end
end Qu
end Go.Proofs.YtidnifmehnjipaaGreat
