/- Several texts, joined: GnI, PwD. -/
import Derived.Test.YtpoifdokmjhclaaGreatJyD
import Derived.Test.YtpoifdokmjhclaaGreatJyx
import Derived.Laws.IdiomRangeMap
import Derived.MapKept
namespace Go.Proofs.YtpoifdokmjhclaaGreat
namespace Fo
open Go.RowKit Go.Lib Pg Lim Gl Kv Bk Pw Sd Di
attribute [local go_sem] Oper.semAt_some
set_option maxRecDepth 100000
set_option linter.unusedVariables false
set_option linter.unusedSimpArgs false
set_option maxHeartbeats 4000000
def e13 : Ents := referE e3 17 0
theorem rscct {P : Program} {n : Nat} {w : World} {l : Fr} {fn : Func} (j k m : Nat) {T T2 : TypeId} {g g2 : Nat} {u v x : Value} (h : fn.results = #[.cell j T, .cell k T2, .tmp m]) (hu : lk l j = some (.pointer (some ⟨g, 0, none⟩))) (hv : lk l k = some (.pointer (some ⟨g2, 0, none⟩))) (hx : lk l m = some x) (hl : (loadVar T ⟨g, 0, none⟩).run P w = .ok u w) (hl2 : (loadVar T2 ⟨g2, 0, none⟩).run P w = .ok v w) (a : Act) (r : Rd n [] l a) : (results fn a.tmps).run P w = .ok (.tuple #[u, v, x]) w := by
  have h1 := r.gD hu
  have h2 := r.gD hv
  have h3 := r.gD hx
  simp at h1 h2 h3
  simp [results, h, h1, h2, h3, asAddr, hl, hl2]
theorem leaves_put {P : Program} {fn : Func} {t t' : Array Value} {R : Ending → World → Prop} (h : results fn t = results fn t') : ∀ (ds : List Deferred) (u : FrameMode) (w : World), Leaves P fn t R ds u w → Leaves P fn t' R ds u w
  | [], .returning, _ => fun k => ⟨k.choose, by rw [← h]; exact k.choose_spec.1, k.choose_spec.2⟩
  | [], .panicking _, _ => id
  | [], .run, _ => id
  | d :: ds, u, w => by
    rintro ⟨hu, fv, cap, f, args, h1, h2, h3⟩
    refine ⟨hu, fv, cap, f, args, h1, h2, h3.mono ?_⟩
    intro e u' w' he
    cases e with
    | returned v => exact leaves_put h ds _ _ he
    | panicked c => exact leaves_put h ds _ _ he
    | outgrown => exact he
theorem hQd {P : Program} {fn : Func} {R : Ending → World → Prop} {j k d : Nat} {T T2 : TypeId} {v : Value} (hr : fn.results = #[.cell j T, .cell k T2]) (h1 : d ≠ j) (h2 : d ≠ k) (c : _) (a : Act) (w : World) (h : bodyPostD P fn R (.panic c) (a.put (some d) v) w) : bodyPostD P fn R (.panic c) a w := by
  refine leaves_put ?_ _ _ _ h
  have e : ∀ i, d ≠ i → (a.put (some d) v).tmps.getD i undef = a.tmps.getD i undef := fun i hi => by
    show (a.tmps.setIfInBounds d v).getD i undef = _
    simp only [Array.getD_eq_getD_getElem?, Array.getElem?_setIfInBounds_ne hi]
  have e1 := e j h1
  have e2 := e k h2
  generalize (a.put (some d) v).tmps = A at e1 e2 ⊢
  simp at e1 e2
  simp [results, hr, e1, e2]
theorem bind_l {B : Nat} {w : World} {K : Nat → Prop} {g : Nat} {W : List Ents} {n N : Nat} {a0 : Option Addr} {n0 c0 z0 : Nat} {a2 : Option Addr} {n2 c2 z2 : Nat} {a3 : Option Addr} {n3 c3 z3 : Nat} (h : Sx B w K g e4 W n N) (Q0 : Nk w K z0 a0 n0 c0 0) (m0 : n0 ≤ 300) (Q2 : Nk w K z2 a2 n2 c2 0) (m2 : n2 ≤ 300) (Q3 : Nk w K z3 a3 n3 c3 0) (m3 : n3 ≤ 300) (hn : n ≤ 1000000) (hN : N ≤ 1000000) : Calls Tryz.prog 96 #[.agg #[.int .u64 16, .int .u64 16, .int .u64 500, .int .u64 0, .slice a0 n0 c0, .bool false, .int .u64 0, .bool false, .int .u64 1, .slice none 0 0, .slice a2 n2 c2, .slice a3 n3 c3, .slice none 0 0, .int .u64 0, .slice none 0 0, .bool false], pg g, .int .u64 16, .int .u64 10] w (fun e w' => ∃ b0 k0 d0 y0 b1 k1 d1 y1 b2 k2 d2 y2 K' n' N', e = .returned (.tuple #[.agg #[.slice b0 k0 d0], .agg #[.int .u64 16, .int .u64 16, .int .u64 0, .slice none 0 0, .slice b1 k1 d1, .slice b2 k2 d2, .int .u64 10], .int .i64 0]) ∧ Sx B w' K' g e12 W n' N' ∧ n' ≤ n + 4000 ∧ N' ≤ N + 4000 ∧ (∀ b, K' b → K b ∨ w.heap.size ≤ b) ∧ Chg K w w' ∧ Nq w' K' y0 b0 k0 d0 10000000000000000000000000000000000000 ∧ k0 ≤ 20000 ∧ (k0 = 0 ∨ w.heap.size ≤ y0) ∧ Nq w' K' y1 b1 k1 d1 10000000000000000000000000000000000000 ∧ k1 ≤ 20000 ∧ (k1 = 0 ∨ w.heap.size ≤ y1) ∧ Nq w' K' y2 b2 k2 d2 10000000000000000000000000000000000000 ∧ k2 ≤ 20000 ∧ (k2 = 0 ∨ w.heap.size ≤ y2)) := by
  have U := ut_of h
  refine gc_enter (n := 46) Tryz.func96 rfl (by kernel_rfl) (by kernel_rfl) ?_
  refine gc_seq ?_
  refine gc_reg ?_
  refine ta 4 [.int .u64 16, .int .u64 16, .int .u64 500, .int .u64 0, .slice a0 n0 c0, .bool false, .int .u64 0, .bool false, .int .u64 1, .slice none 0 0, .slice a2 n2 c2, .slice a3 n3 c3, .slice none 0 0, .int .u64 0, .slice none 0 0, .bool false] 183 (pg) ?_
  intro v1 g2 Xg2 hg2 B
  replace U := U.new Xg2 hg2 B
  clear Xg2 hg2 B
  refine ta 8 [.slice none 0 0] 55 (pg) ?_
  intro v3 g4 Xg4 hg4 B
  replace U := U.new Xg4 hg4 B
  clear Xg4 hg4 B
  refine ta 9 [.int .u64 0, .int .u64 0, .int .u64 0, .slice none 0 0, .slice none 0 0, .slice none 0 0, .int .u64 0] 185 (pg) ?_
  intro v5 g6 Xg6 hg6 B
  replace U := U.new Xg6 hg6 B
  clear Xg6 hg6 B
  refine t 10 (.int .i64 0) ?_
  refine gl_nil ?_
  refine ge_then ?_
  refine gc_seq ?_
  refine gc_reg ?_
  refine t 14 (pq g2 2) ?_
  refine t 15 (pq g2 3) ?_
  refine tl 16 (.int .u64 0) (U.bk 2 rfl) 3 ?_
  refine t 17 (pq g2 2) ?_
  refine t 18 (pq g2 4) ?_
  refine tlr 19 [.slice a0 n0 c0] (U.bk 2 rfl) 4 ?_
  refine t 20 (.int .u64 10) ?_
  refine tc 21 141 #[.int .u64 0, .agg #[.slice a0 n0 c0], .int .u64 10] (issue0 (tk := 0) (sh := 10) (Q0.op U.ta.km U.ta.cc).nat (by omega) ⟨by decide, by decide⟩ (by decide)) ?_
  rintro _ v8 ⟨aq7, nq7, cq7, zq7, rfl, M, h, mq7, B⟩
  refine ⟨_, rfl, ?_⟩
  have fq7 := ne3 h U.ta.size
  replace U := U.num M h B
  clear M h B
  replace U := U.val 0 rfl (show _ = (10000000000000000000000000000000000000 : Int) by decide +kernel)
  refine t 13 (.tuple #[.agg #[.slice aq7 nq7 cq7], .int .i64 0]) ?_
  refine t 22 (.agg #[.slice aq7 nq7 cq7]) ?_
  refine t 23 (.int .i64 0) ?_
  refine ta 11 [.slice none 0 0] 55 (pg) ?_
  intro v9 g10 Xg10 hg10 B
  replace U := U.new Xg10 hg10 B
  clear Xg10 hg10 B
  refine ts (U.bk 0 rfl) 0 (.agg #[.slice aq7 nq7 cq7]) [.slice aq7 nq7 cq7] [.slice aq7 nq7 cq7] ?_
  intro v11 Y C
  replace U := U.put 0 rfl C Y (by decide)
  clear Y C
  refine t 12 (.int .i64 0) ?_
  refine gl_nil ?_
  refine ge_then ?_
  refine gc_fr [(1, pg g), (2, .int .u64 16), (3, .int .u64 10), (4, pg g2), (8, pg g4), (9, pg g6), (10, .int .i64 0), (11, pg g10), (12, .int .i64 0)] (by kernel_rfl) ?_
  refine gc_seq ?_
  refine gc_seq ?_
  refine gc_reg ?_
  refine t 24 (.int .i64 0) ?_
  refine t 25 (.bool false) ?_
  refine gl_nil ?_
  refine ge_then ?_
  refine gc_no ?_
  refine gc_skip ?_
  refine ge_then ?_
  refine gc_seq ?_
  refine gc_seq ?_
  refine gc_reg ?_
  refine t 29 (pg g) ?_
  refine t 30 (.int .u64 16) ?_
  refine tlr 31 [.int .u64 16, .int .u64 16, .int .u64 500, .int .u64 0, .slice a0 n0 c0, .bool false, .int .u64 0, .bool false, .int .u64 1, .slice none 0 0, .slice a2 n2 c2, .slice a3 n3 c3, .slice none 0 0, .int .u64 0, .slice none 0 0, .bool false] (U.bk 3 rfl) 0 ?_
  refine tc 32 143 #[.agg #[.int .u64 16, .int .u64 16, .int .u64 500, .int .u64 0, .slice a0 n0 c0, .bool false, .int .u64 0, .bool false, .int .u64 1, .slice none 0 0, .slice a2 n2 c2, .slice a3 n3 c3, .slice none 0 0, .int .u64 0, .slice none 0 0, .bool false]] (house_f) ?_
  rintro _ v12 ⟨rfl, B⟩
  refine ⟨_, rfl, ?_⟩
  replace U := U.keep B
  clear B
  refine t 33 (.int .u64 10) ?_
  refine tc 34 142 #[pg g, .int .u64 16, .int .u64 3, .int .u64 10] (mv_lit (move_any U.ta.sx ⟨by decide, by decide⟩ ⟨by decide, by decide⟩ ⟨by decide, by decide⟩ (by omega) (by omega)) (show moveE e4 16 3 10 = e5 from rfl) (show moveR e4 16 3 10 = 0 by decide +kernel)) ?_
  rintro _ v17 ⟨rfl, K13, n14, N15, S, qn14, qN15, hK, hC⟩
  refine ⟨_, rfl, ?_⟩
  replace U := U.op S hK hC
  clear S hK hC
  refine t 12 (.int .i64 0) ?_
  refine gl_nil ?_
  refine ge_then ?_
  refine gc_seq ?_
  refine gc_reg ?_
  refine t 35 (.int .i64 0) ?_
  refine t 36 (.bool false) ?_
  refine gl_nil ?_
  refine ge_then ?_
  refine gc_no ?_
  refine gc_skip ?_
  refine ge_then ?_
  refine gc_seq ?_
  replace U := U.drew
  refine gc_draw (fun w' => Blk w' g10 [.slice aq7 nq7 cq7] 55 ∧ Blk w' g2 [.int .u64 16, .int .u64 16, .int .u64 500, .int .u64 0, .slice a0 n0 c0, .bool false, .int .u64 0, .bool false, .int .u64 1, .slice none 0 0, .slice a2 n2 c2, .slice a3 n3 c3, .slice none 0 0, .int .u64 0, .slice none 0 0, .bool false] 183) (fun _ => false) ⟨(U.bk 0 rfl), (U.bk 3 rfl)⟩ ?_
  refine zlr 0 40 [.slice aq7 nq7 cq7] (fun _ h => h.1) 0 ?_
  refine zlr 1 41 [.int .u64 16, .int .u64 16, .int .u64 500, .int .u64 0, .slice a0 n0 c0, .bool false, .int .u64 0, .bool false, .int .u64 1, .slice none 0 0, .slice a2 n2 c2, .slice a3 n3 c3, .slice none 0 0, .int .u64 0, .slice none 0 0, .bool false] (fun _ h => h.2) 0 ?_
  refine z 2 42 (pg g) ?_
  refine z 3 43 (.int .u64 10) ?_
  refine zlr 4 44 [.slice aq7 nq7 cq7] (fun _ h => h.1) 0 ?_
  refine zc 5 45 144 #[.agg #[.int .u64 16, .int .u64 16, .int .u64 500, .int .u64 0, .slice a0 n0 c0, .bool false, .int .u64 0, .bool false, .int .u64 1, .slice none 0 0, .slice a2 n2 c2, .slice a3 n3 c3, .slice none 0 0, .int .u64 0, .slice none 0 0, .bool false], pg g, .int .u64 10, .agg #[.slice aq7 nq7 cq7]] (join_l U.ta.sx (Q0.op U.ta.km U.ta.cc) (by omega) (Q2.op U.ta.km U.ta.cc) (by omega) (Q3.op U.ta.km U.ta.cc) (by omega) (U.nq 0 rfl).nk (by omega) (by omega) (by omega)) ?_
  rintro _ v23 ⟨aq18, nq18, cq18, zq18, aq19, nq19, cq19, zq19, K20, n21, N22, rfl, S, qn21, qN22, hK, hC, Q0, mq18, h0, Q1, mq19, h1⟩
  have fq18 := ne3 h0 U.ta.size
  have fq19 := ne3 h1 U.ta.size
  have L := U.lt
  replace U := ((U.op S hK hC).add L Q0 h0).add L Q1 h1
  clear L S hK hC Q0 h0 Q1 h1
  refine ⟨_, rfl, ⟨(U.bk 0 rfl), (U.bk 3 rfl)⟩, ?_⟩
  refine zs 6 (U.bk 2 rfl) 0 (.agg #[.slice aq7 nq7 cq7]) [.slice aq7 nq7 cq7] [.slice aq7 nq7 cq7] ?_
  intro v24 Y C
  replace U := U.put 2 rfl C Y (by decide)
  clear Y C
  refine ⟨⟨(U.bk 0 rfl), (U.bk 3 rfl)⟩, ?_⟩
  refine zs 7 (U.bk 1 rfl) 0 (.agg #[.int .u64 16, .int .u64 16, .int .u64 0, .slice none 0 0, .slice aq18 nq18 cq18, .slice aq19 nq19 cq19, .int .u64 10]) [.int .u64 16, .int .u64 16, .int .u64 0, .slice none 0 0, .slice aq18 nq18 cq18, .slice aq19 nq19 cq19, .int .u64 10] [.int .u64 16, .int .u64 16, .int .u64 0, .slice none 0 0, .slice aq18 nq18 cq18, .slice aq19 nq19 cq19, .int .u64 10] ?_
  intro v25 Y C
  replace U := U.put 1 rfl C Y (by decide)
  clear Y C
  refine ⟨⟨(U.bk 0 rfl), (U.bk 3 rfl)⟩, ?_⟩
  refine z 8 10 (.int .i64 0) ?_
  refine gz_done ?_
  refine ge_then ?_
  refine gc_fr [(8, pg g4), (9, pg g6), (10, .int .i64 0)] (by kernel_rfl) ?_
  refine gc_ret ?_
  refine ge_ret (.tuple #[.agg #[.slice aq7 nq7 cq7], .agg #[.int .u64 16, .int .u64 16, .int .u64 0, .slice none 0 0, .slice aq18 nq18 cq18, .slice aq19 nq19 cq19, .int .u64 10], .int .i64 0]) (rscct 8 9 10 (T := 55) (T2 := 185) (by kernel_rfl) (by kernel_rfl) (by kernel_rfl) (by kernel_rfl) (lr (U.bk 2 rfl) 0) (lr (U.bk 1 rfl) 0)) ?_
  exact ⟨_, _, _, _, _, _, _, _, _, _, _, _, _, _, _, rfl, U.ta.sx, by omega, by omega, U.ta.km, U.ta.cc, (U.nq 2 rfl), by omega, fq7, (U.nq 1 rfl), by omega, fq18, (U.nq 0 rfl), by omega, fq19⟩
theorem bind_n {B : Nat} {w : World} {K : Nat → Prop} {g : Nat} {W : List Ents} {n N : Nat} {a0 : Option Addr} {n0 c0 z0 : Nat} {a2 : Option Addr} {n2 c2 z2 : Nat} {a3 : Option Addr} {n3 c3 z3 : Nat} (h : Sx B w K g e13 W n N) (Q0 : Nk w K z0 a0 n0 c0 0) (m0 : n0 ≤ 300) (Q2 : Nk w K z2 a2 n2 c2 0) (m2 : n2 ≤ 300) (Q3 : Nk w K z3 a3 n3 c3 0) (m3 : n3 ≤ 300) (hn : n ≤ 1000000) (hN : N ≤ 1000000) : Calls Tryz.prog 96 #[.agg #[.int .u64 17, .int .u64 17, .int .u64 500, .int .u64 0, .slice a0 n0 c0, .bool false, .int .u64 0, .bool false, .int .u64 1, .slice none 0 0, .slice a2 n2 c2, .slice a3 n3 c3, .slice none 0 0, .int .u64 0, .slice none 0 0, .bool false], pg g, .int .u64 17, .int .u64 10] w (fun e w' => ∃ K' n' N', e = .returned (.tuple #[.agg #[.slice none 0 0], .agg #[.int .u64 0, .int .u64 0, .int .u64 0, .slice none 0 0, .slice none 0 0, .slice none 0 0, .int .u64 0], .int .i64 90]) ∧ Sx B w' K' g e13 W n' N' ∧ n' ≤ n + 4000 ∧ N' ≤ N + 4000 ∧ (∀ b, K' b → K b ∨ w.heap.size ≤ b) ∧ Chg K w w') := by
  have U := ut_of h
  refine gc_enter (n := 46) Tryz.func96 rfl (by kernel_rfl) (by kernel_rfl) ?_
  refine gc_seq ?_
  refine gc_reg ?_
  refine ta 4 [.int .u64 17, .int .u64 17, .int .u64 500, .int .u64 0, .slice a0 n0 c0, .bool false, .int .u64 0, .bool false, .int .u64 1, .slice none 0 0, .slice a2 n2 c2, .slice a3 n3 c3, .slice none 0 0, .int .u64 0, .slice none 0 0, .bool false] 183 (pg) ?_
  intro v1 g2 Xg2 hg2 B
  replace U := U.new Xg2 hg2 B
  clear Xg2 hg2 B
  refine ta 8 [.slice none 0 0] 55 (pg) ?_
  intro v3 g4 Xg4 hg4 B
  replace U := U.new Xg4 hg4 B
  clear Xg4 hg4 B
  refine ta 9 [.int .u64 0, .int .u64 0, .int .u64 0, .slice none 0 0, .slice none 0 0, .slice none 0 0, .int .u64 0] 185 (pg) ?_
  intro v5 g6 Xg6 hg6 B
  replace U := U.new Xg6 hg6 B
  clear Xg6 hg6 B
  refine t 10 (.int .i64 0) ?_
  refine gl_nil ?_
  refine ge_then ?_
  refine gc_seq ?_
  refine gc_reg ?_
  refine t 14 (pq g2 2) ?_
  refine t 15 (pq g2 3) ?_
  refine tl 16 (.int .u64 0) (U.bk 2 rfl) 3 ?_
  refine t 17 (pq g2 2) ?_
  refine t 18 (pq g2 4) ?_
  refine tlr 19 [.slice a0 n0 c0] (U.bk 2 rfl) 4 ?_
  refine t 20 (.int .u64 10) ?_
  refine tc 21 141 #[.int .u64 0, .agg #[.slice a0 n0 c0], .int .u64 10] (issue0 (tk := 0) (sh := 10) (Q0.op U.ta.km U.ta.cc).nat (by omega) ⟨by decide, by decide⟩ (by decide)) ?_
  rintro _ v8 ⟨aq7, nq7, cq7, zq7, rfl, M, h, mq7, B⟩
  refine ⟨_, rfl, ?_⟩
  have fq7 := ne3 h U.ta.size
  replace U := U.num M h B
  clear M h B
  replace U := U.val 0 rfl (show _ = (10000000000000000000000000000000000000 : Int) by decide +kernel)
  refine t 13 (.tuple #[.agg #[.slice aq7 nq7 cq7], .int .i64 0]) ?_
  refine t 22 (.agg #[.slice aq7 nq7 cq7]) ?_
  refine t 23 (.int .i64 0) ?_
  refine ta 11 [.slice none 0 0] 55 (pg) ?_
  intro v9 g10 Xg10 hg10 B
  replace U := U.new Xg10 hg10 B
  clear Xg10 hg10 B
  refine ts (U.bk 0 rfl) 0 (.agg #[.slice aq7 nq7 cq7]) [.slice aq7 nq7 cq7] [.slice aq7 nq7 cq7] ?_
  intro v11 Y C
  replace U := U.put 0 rfl C Y (by decide)
  clear Y C
  refine t 12 (.int .i64 0) ?_
  refine gl_nil ?_
  refine ge_then ?_
  refine gc_fr [(1, pg g), (2, .int .u64 17), (3, .int .u64 10), (4, pg g2), (8, pg g4), (9, pg g6), (10, .int .i64 0), (11, pg g10), (12, .int .i64 0)] (by kernel_rfl) ?_
  refine gc_seq ?_
  refine gc_seq ?_
  refine gc_reg ?_
  refine t 24 (.int .i64 0) ?_
  refine t 25 (.bool false) ?_
  refine gl_nil ?_
  refine ge_then ?_
  refine gc_no ?_
  refine gc_skip ?_
  refine ge_then ?_
  refine gc_seq ?_
  refine gc_seq ?_
  refine gc_reg ?_
  refine t 29 (pg g) ?_
  refine t 30 (.int .u64 17) ?_
  refine tlr 31 [.int .u64 17, .int .u64 17, .int .u64 500, .int .u64 0, .slice a0 n0 c0, .bool false, .int .u64 0, .bool false, .int .u64 1, .slice none 0 0, .slice a2 n2 c2, .slice a3 n3 c3, .slice none 0 0, .int .u64 0, .slice none 0 0, .bool false] (U.bk 3 rfl) 0 ?_
  refine tc 32 143 #[.agg #[.int .u64 17, .int .u64 17, .int .u64 500, .int .u64 0, .slice a0 n0 c0, .bool false, .int .u64 0, .bool false, .int .u64 1, .slice none 0 0, .slice a2 n2 c2, .slice a3 n3 c3, .slice none 0 0, .int .u64 0, .slice none 0 0, .bool false]] (house_f) ?_
  rintro _ v12 ⟨rfl, B⟩
  refine ⟨_, rfl, ?_⟩
  replace U := U.keep B
  clear B
  refine t 33 (.int .u64 10) ?_
  refine tc 34 142 #[pg g, .int .u64 17, .int .u64 3, .int .u64 10] (mv_lit (move_any U.ta.sx ⟨by decide, by decide⟩ ⟨by decide, by decide⟩ ⟨by decide, by decide⟩ (by omega) (by omega)) (show moveE e13 17 3 10 = e13 by decide +kernel) (show moveR e13 17 3 10 = 90 by decide +kernel)) ?_
  rintro _ v17 ⟨rfl, K13, n14, N15, S, qn14, qN15, hK, hC⟩
  refine ⟨_, rfl, ?_⟩
  replace U := U.op S hK hC
  clear S hK hC
  refine t 12 (.int .i64 90) ?_
  refine gl_nil ?_
  refine ge_then ?_
  refine gc_seq ?_
  refine gc_reg ?_
  refine t 35 (.int .i64 90) ?_
  refine t 36 (.bool true) ?_
  refine gl_nil ?_
  refine ge_then ?_
  refine gc_yes ?_
  refine gc_seq ?_
  refine gc_reg ?_
  refine t 37 (.agg #[.slice none 0 0]) ?_
  refine t 38 (.agg #[.int .u64 0, .int .u64 0, .int .u64 0, .slice none 0 0, .slice none 0 0, .slice none 0 0, .int .u64 0]) ?_
  refine t 39 (.int .i64 90) ?_
  refine ts (U.bk 2 rfl) 0 (.agg #[.slice none 0 0]) [.slice none 0 0] [.slice none 0 0] ?_
  intro v18 Y C
  replace U := U.put 2 rfl C Y (by decide)
  clear Y C
  refine ts (U.bk 1 rfl) 0 (.agg #[.int .u64 0, .int .u64 0, .int .u64 0, .slice none 0 0, .slice none 0 0, .slice none 0 0, .int .u64 0]) [.int .u64 0, .int .u64 0, .int .u64 0, .slice none 0 0, .slice none 0 0, .slice none 0 0, .int .u64 0] [.int .u64 0, .int .u64 0, .int .u64 0, .slice none 0 0, .slice none 0 0, .slice none 0 0, .int .u64 0] ?_
  intro v19 Y C
  replace U := U.put 1 rfl C Y (by decide)
  clear Y C
  refine t 10 (.int .i64 90) ?_
  refine gl_nil ?_
  refine ge_then ?_
  refine gc_fr [(1, pg g), (3, .int .u64 10), (4, pg g2), (8, pg g4), (9, pg g6), (10, .int .i64 90), (11, pg g10)] (by kernel_rfl) ?_
  refine gc_ret ?_
  refine ge_tr ?_
  refine ge_ret (.tuple #[.agg #[.slice none 0 0], .agg #[.int .u64 0, .int .u64 0, .int .u64 0, .slice none 0 0, .slice none 0 0, .slice none 0 0, .int .u64 0], .int .i64 90]) (rscct 8 9 10 (T := 55) (T2 := 185) (by kernel_rfl) (by kernel_rfl) (by kernel_rfl) (by kernel_rfl) (lr (U.bk 2 rfl) 0) (lr (U.bk 1 rfl) 0)) ?_
  exact ⟨_, _, _, rfl, U.ta.sx, by omega, by omega, U.ta.km, U.ta.cc⟩
theorem create_l {B : Nat} {w : World} {K : Nat → Prop} {g : Nat} {n N : Nat}  (h : Sx B w K g e3 [] n N)  (hn : n ≤ 500000) (hN : N ≤ 500000) : Calls Tryz.prog 68 #[pg g, .int .u64 16, .int .u64 500, .int .u64 10] w (fun e w' => ∃ b0 k0 d0 y0 K' n' N', e = .returned (.tuple #[.agg #[.slice b0 k0 d0], .int .i64 0]) ∧ Sx B w' K' g e12 [] n' N' ∧ n' ≤ n + 6000 ∧ N' ≤ N + 6000 ∧ (∀ b, K' b → K b ∨ w.heap.size ≤ b) ∧ Chg K w w' ∧ Nq w' K' y0 b0 k0 d0 10000000000000000000000000000000000000 ∧ k0 ≤ 20000 ∧ (k0 = 0 ∨ w.heap.size ≤ y0)) := by
  have U := ut_of h
  refine gc_enterF (n := 57) Tryz.func68 rfl ?_
  refine gc_seq ?_
  refine gc_reg ?_
  refine ta 8 [.slice none 0 0] 55 (pg) ?_
  intro v1 g2 Xg2 hg2 B
  replace U := U.new Xg2 hg2 B
  clear Xg2 hg2 B
  refine ta 9 [.int .i64 0] 33 (pg) ?_
  intro v3 g4 Xg4 hg4 B
  replace U := U.new Xg4 hg4 B
  clear Xg4 hg4 B
  refine gl_nil ?_
  refine ge_then ?_
  refine gc_seq ?_
  refine gc_reg ?_
  refine t 13 (pg g) ?_
  have HC : Calls Tryz.prog 93 #[pg g] v3 (fun e w' => ∃ g6 K' n' N', e = .returned (.func (.func 135) #[] #[pg g6]) ∧ Ut w K B g (e3 :: []) w' K' e3 n' N' [(g6, [pg g], 46), (g4, [.int .i64 0], 33), (g2, [.slice none 0 0], 55)] [] ∧ (n' ≤ n + 100 ∧ N' ≤ N + 100)) := by
    refine gc_enter (n := 9) Tryz.func93 rfl (by kernel_rfl) (by kernel_rfl) ?_
    refine gc_seq ?_
    refine gc_reg ?_
    refine ta 1 [pg g] 46 (pg) ?_
    intro v5 g6 Xg6 hg6 B
    replace U := U.new Xg6 hg6 B
    clear Xg6 hg6 B
    refine t 2 (.nilFunc) ?_
    refine gl_nil ?_
    refine ge_then ?_
    refine gc_seq ?_
    refine gc_seq ?_
    refine gc_reg ?_
    refine tl 3 (pg g) (U.bk 0 rfl) 0 ?_
    refine tc 4 133 #[pg g] (xbegin U.ta.sx (by decide)) ?_
    rintro _ v8 ⟨rfl, K7, S, hK, hC⟩
    refine ⟨_, rfl, ?_⟩
    replace U := U.opW S hK hC
    clear S hK hC
    refine t 5 (.bool false) ?_
    refine gl_nil ?_
    refine ge_then ?_
    refine gc_no ?_
    refine gc_skip ?_
    refine ge_then ?_
    refine gc_seq ?_
    refine gc_reg ?_
    refine t 8 (.func (.func 135) #[] #[pg g6]) ?_
    refine t 2 (.func (.func 135) #[] #[pg g6]) ?_
    refine gl_nil ?_
    refine ge_then ?_
    refine gc_ret ?_
    refine ge_ret (.func (.func 135) #[] #[pg g6]) (rs1 2 (by kernel_rfl) (by kernel_rfl)) ?_
    exact ⟨_, _, _, _, rfl, U.sel [0, 1, 2] [], ⟨by (try dsimp only); omega, by (try dsimp only); omega⟩⟩
  clear U
  refine tc 14 93 #[pg g] (HC) ?_
  rintro _ v12 ⟨g6, K9, n10, N11, rfl, U, ⟨qn10, qN11⟩⟩
  refine ⟨_, rfl, ?_⟩
  clear HC
  refine td ⟨.fn (.func 135) #[pg g6], #[pg g4]⟩ ?_
  refine gl_nil ?_
  refine ge_then ?_
  refine gc_seq ?_
  refine gc_reg ?_
  refine t 16 (pg g) ?_
  refine t 17 (.int .u64 16) ?_
  refine tc 18 16 #[pg g, .int .u64 16] (gVal (th := false) (er := 80) (rt := 0) (tk := 0) (un := 0) (pe := 0) (jl := false) (bo := false) (x0 := 0) (x1 := 0) (x2 := 0) (x3 := 0) U.ta.sx ⟨by decide, by decide⟩ (by decide +kernel) rfl (by omega) (by omega)) ?_
  rintro _ v20 ⟨aq13, nq13, cq13, zq13, aq14, nq14, cq14, zq14, aq15, nq15, cq15, zq15, aq16, nq16, cq16, zq16, K17, n18, N19, rfl, S, qn18, qN19, hK, hC, Q0, mq13, h0, Q1, mq14, h1, Q2, mq15, h2, Q3, mq16, h3⟩
  refine ⟨_, rfl, ?_⟩
  have fq13 := ne3 h0 U.ta.size
  have fq14 := ne3 h1 U.ta.size
  have fq15 := ne3 h2 U.ta.size
  have fq16 := ne3 h3 U.ta.size
  have L := U.lt
  replace U := ((((U.op S hK hC).add L Q0 h0).add L Q1 h1).add L Q2 h2).add L Q3 h3
  clear L S hK hC Q0 h0 Q1 h1 Q2 h2 Q3 h3
  refine t 15 (.tuple #[.agg #[.int .u64 0, .int .u64 0, .slice aq13 nq13 cq13, .bool false, .int .u64 0, .bool false, .int .u64 0, .slice aq14 nq14 cq14, .slice aq15 nq15 cq15, .slice aq16 nq16 cq16], .bool false]) ?_
  refine t 19 (.agg #[.int .u64 0, .int .u64 0, .slice aq13 nq13 cq13, .bool false, .int .u64 0, .bool false, .int .u64 0, .slice aq14 nq14 cq14, .slice aq15 nq15 cq15, .slice aq16 nq16 cq16]) ?_
  refine t 20 (.bool false) ?_
  refine ta 10 [.int .u64 0, .int .u64 0, .slice none 0 0, .bool false, .int .u64 0, .bool false, .int .u64 0, .slice none 0 0, .slice none 0 0, .slice none 0 0] 57 (pg) ?_
  intro v21 g22 Xg22 hg22 B
  replace U := U.new Xg22 hg22 B
  clear Xg22 hg22 B
  refine ts (U.bk 0 rfl) 0 (.agg #[.int .u64 0, .int .u64 0, .slice aq13 nq13 cq13, .bool false, .int .u64 0, .bool false, .int .u64 0, .slice aq14 nq14 cq14, .slice aq15 nq15 cq15, .slice aq16 nq16 cq16]) [.int .u64 0, .int .u64 0, .slice aq13 nq13 cq13, .bool false, .int .u64 0, .bool false, .int .u64 0, .slice aq14 nq14 cq14, .slice aq15 nq15 cq15, .slice aq16 nq16 cq16] [.int .u64 0, .int .u64 0, .slice aq13 nq13 cq13, .bool false, .int .u64 0, .bool false, .int .u64 0, .slice aq14 nq14 cq14, .slice aq15 nq15 cq15, .slice aq16 nq16 cq16] ?_
  intro v23 Y C
  replace U := U.put 0 rfl C Y (by decide)
  clear Y C
  refine t 11 (.bool false) ?_
  refine gl_nil ?_
  refine ge_then ?_
  refine gc_fr [(0, pg g), (1, .int .u64 16), (2, .int .u64 500), (3, .int .u64 10), (8, pg g2), (9, pg g4), (11, .bool false)] (by kernel_rfl) ?_
  refine gc_seq ?_
  refine gc_block ?_
  refine gc_seq ?_
  refine gc_reg ?_
  refine t 22 (.bool false) ?_
  refine t 21 (.bool false) ?_
  refine gl_nil ?_
  refine ge_then ?_
  refine gc_no ?_
  refine gc_seq ?_
  refine gc_reg ?_
  refine t 25 (pg g) ?_
  refine t 26 (.int .u64 16) ?_
  refine tc 27 87 #[.int .i64 9, .int .u64 16, .int .u64 0] (sKey ⟨by decide, by decide⟩ (by kernel_rfl)) ?_
  rintro _ v26 ⟨kv25, rfl, Y24, B⟩
  refine ⟨_, rfl, ?_⟩
  replace U := U.keep B
  clear B
  refine tc 28 94 #[pg g, kv25] (has_lit (xhas U.ta.sx Y24 (by omega) (by omega)) (show (Kv.look e3 (Ky.mk 9 16 0)).isSome = false by decide +kernel)) ?_
  rintro _ v28 ⟨rfl, K27, S, hK, hC⟩
  refine ⟨_, rfl, ?_⟩
  replace U := U.op S hK hC
  clear S hK hC
  clear Y24
  refine t 24 (.bool false) ?_
  refine gl_nil ?_
  refine ge_then ?_
  refine gc_no ?_
  refine gc_seq ?_
  refine gc_reg ?_
  refine t 31 (.int .u64 500) ?_
  refine t 32 (.bool false) ?_
  refine t 30 (.bool false) ?_
  refine gl_nil ?_
  refine ge_then ?_
  refine gc_no ?_
  refine gc_seq ?_
  refine gc_reg ?_
  refine t 35 (.int .u64 10) ?_
  refine t 36 (.bool false) ?_
  refine t 34 (.bool false) ?_
  refine gl_nil ?_
  refine ge_then ?_
  refine gc_fr [(0, pg g), (1, .int .u64 16), (2, .int .u64 500), (3, .int .u64 10), (8, pg g2), (9, pg g4), (34, .bool false)] (by kernel_rfl) ?_
  refine gc_no ?_
  refine gc_skip ?_
  refine ge_bn ?_
  refine ge_then ?_
  refine gc_seq ?_
  refine gc_reg ?_
  refine t 38 (.int .u64 16) ?_
  refine t 39 (.int .u64 16) ?_
  refine t 40 (pg g) ?_
  refine t 41 (.int .u64 16) ?_
  refine t 42 (.int .u64 500) ?_
  refine t 43 (.agg #[.int .u64 500, .int .u64 0, .slice none 0 0, .bool false, .int .u64 0, .bool false, .int .u64 0, .slice none 0 0, .slice none 0 0, .slice none 0 0]) ?_
  refine tc 44 95 #[pg g, .int .u64 16, .agg #[.int .u64 500, .int .u64 0, .slice none 0 0, .bool false, .int .u64 0, .bool false, .int .u64 0, .slice none 0 0, .slice none 0 0, .slice none 0 0]] (start_any U.ta.sx ⟨by decide, by decide⟩ (nq_nil _ _).nk (by omega) (nq_nil _ _).nk (by omega) (nq_nil _ _).nk (by omega) (nq_nil _ _).nk (by omega) (by omega) (by omega)) ?_
  rintro _ v35 ⟨aq29, nq29, cq29, zq29, aq30, nq30, cq30, zq30, aq31, nq31, cq31, zq31, K32, n33, N34, rfl, S, qn33, qN34, hK, hC, Q0, mq29, h0, Q1, mq30, h1, Q2, mq31, h2⟩
  refine ⟨_, rfl, ?_⟩
  have fq29 := ne3 h0 U.ta.size
  have fq30 := ne3 h1 U.ta.size
  have fq31 := ne3 h2 U.ta.size
  have L := U.lt
  replace U := (((U.op S hK hC).add L Q0 h0).add L Q1 h1).add L Q2 h2
  clear L S hK hC Q0 h0 Q1 h1 Q2 h2
  refine t 45 (.agg #[.int .u64 16, .int .u64 16, .int .u64 500, .int .u64 0, .slice aq29 nq29 cq29, .bool false, .int .u64 0, .bool false, .int .u64 1, .slice none 0 0, .slice aq30 nq30 cq30, .slice aq31 nq31 cq31, .slice none 0 0, .int .u64 0, .slice none 0 0, .bool false]) ?_
  refine ta 12 [.int .u64 0, .int .u64 0, .int .u64 0, .int .u64 0, .slice none 0 0, .bool false, .int .u64 0, .bool false, .int .u64 0, .slice none 0 0, .slice none 0 0, .slice none 0 0, .slice none 0 0, .int .u64 0, .slice none 0 0, .bool false] 183 (pg) ?_
  intro v36 g37 Xg37 hg37 B
  replace U := U.new Xg37 hg37 B
  clear Xg37 hg37 B
  refine ts (U.bk 0 rfl) 0 (.agg #[.int .u64 16, .int .u64 16, .int .u64 500, .int .u64 0, .slice aq29 nq29 cq29, .bool false, .int .u64 0, .bool false, .int .u64 1, .slice none 0 0, .slice aq30 nq30 cq30, .slice aq31 nq31 cq31, .slice none 0 0, .int .u64 0, .slice none 0 0, .bool false]) [.int .u64 16, .int .u64 16, .int .u64 500, .int .u64 0, .slice aq29 nq29 cq29, .bool false, .int .u64 0, .bool false, .int .u64 1, .slice none 0 0, .slice aq30 nq30 cq30, .slice aq31 nq31 cq31, .slice none 0 0, .int .u64 0, .slice none 0 0, .bool false] [.int .u64 16, .int .u64 16, .int .u64 500, .int .u64 0, .slice aq29 nq29 cq29, .bool false, .int .u64 0, .bool false, .int .u64 1, .slice none 0 0, .slice aq30 nq30 cq30, .slice aq31 nq31 cq31, .slice none 0 0, .int .u64 0, .slice none 0 0, .bool false] ?_
  intro v38 Y C
  replace U := U.put 0 rfl C Y (by decide)
  clear Y C
  refine gl_nil ?_
  refine ge_then ?_
  refine gc_seq ?_
  refine gc_reg ?_
  refine tlr 47 [.int .u64 16, .int .u64 16, .int .u64 500, .int .u64 0, .slice aq29 nq29 cq29, .bool false, .int .u64 0, .bool false, .int .u64 1, .slice none 0 0, .slice aq30 nq30 cq30, .slice aq31 nq31 cq31, .slice none 0 0, .int .u64 0, .slice none 0 0, .bool false] (U.bk 0 rfl) 0 ?_
  refine t 48 (pg g) ?_
  refine t 49 (.int .u64 16) ?_
  refine t 50 (.int .u64 10) ?_
  refine tc 51 96 #[.agg #[.int .u64 16, .int .u64 16, .int .u64 500, .int .u64 0, .slice aq29 nq29 cq29, .bool false, .int .u64 0, .bool false, .int .u64 1, .slice none 0 0, .slice aq30 nq30 cq30, .slice aq31 nq31 cq31, .slice none 0 0, .int .u64 0, .slice none 0 0, .bool false], pg g, .int .u64 16, .int .u64 10] (bind_l U.ta.sx (U.nq 2 rfl).nk (by omega) (U.nq 1 rfl).nk (by omega) (U.nq 0 rfl).nk (by omega) (by omega) (by omega)) ?_
  rintro _ v45 ⟨aq39, nq39, cq39, zq39, aq40, nq40, cq40, zq40, aq41, nq41, cq41, zq41, K42, n43, N44, rfl, S, qn43, qN44, hK, hC, Q0, mq39, h0, Q1, mq40, h1, Q2, mq41, h2⟩
  refine ⟨_, rfl, ?_⟩
  have fq39 := ne3 h0 U.ta.size
  have fq40 := ne3 h1 U.ta.size
  have fq41 := ne3 h2 U.ta.size
  have L := U.lt
  replace U := (((U.op S hK hC).add L Q0 h0).add L Q1 h1).add L Q2 h2
  clear L S hK hC Q0 h0 Q1 h1 Q2 h2
  refine t 46 (.tuple #[.agg #[.slice aq39 nq39 cq39], .agg #[.int .u64 16, .int .u64 16, .int .u64 0, .slice none 0 0, .slice aq40 nq40 cq40, .slice aq41 nq41 cq41, .int .u64 10], .int .i64 0]) ?_
  refine t 52 (.agg #[.slice aq39 nq39 cq39]) ?_
  refine t 53 (.agg #[.int .u64 16, .int .u64 16, .int .u64 0, .slice none 0 0, .slice aq40 nq40 cq40, .slice aq41 nq41 cq41, .int .u64 10]) ?_
  refine t 54 (.int .i64 0) ?_
  refine ts (U.bk 4 rfl) 0 (.agg #[.slice aq39 nq39 cq39]) [.slice aq39 nq39 cq39] [.slice aq39 nq39 cq39] ?_
  intro v46 Y C
  replace U := U.put 4 rfl C Y (by decide)
  clear Y C
  refine ts (U.bk 3 rfl) 0 (.int .i64 0) [.int .i64 0] [.int .i64 0] ?_
  intro v47 Y C
  replace U := U.put 3 rfl C Y (by decide)
  clear Y C
  refine gl_nil ?_
  refine ge_then ?_
  refine gc_fr [(8, pg g2), (9, pg g4)] (by kernel_rfl) ?_
  refine gc_seq ?_
  replace U := U.drew
  refine gc_draw (fun w' => Blk w' g2 [.slice aq39 nq39 cq39] 55 ∧ Blk w' g4 [.int .i64 0] 33) (fun _ => false) ⟨(U.bk 4 rfl), (U.bk 3 rfl)⟩ ?_
  refine zlr 0 55 [.slice aq39 nq39 cq39] (fun _ h => h.1) 0 ?_ (hQ := hQd rfl (by decide) (by decide))
  refine zl 1 56 (.int .i64 0) (fun _ h => h.2) 0 ?_ (hQ := hQd rfl (by decide) (by decide))
  refine zs 2 (U.bk 4 rfl) 0 (.agg #[.slice aq39 nq39 cq39]) [.slice aq39 nq39 cq39] [.slice aq39 nq39 cq39] ?_
  intro v48 Y C
  replace U := U.put 4 rfl C Y (by decide)
  clear Y C
  refine ⟨⟨(U.bk 4 rfl), (U.bk 3 rfl)⟩, ?_⟩
  refine zs 3 (U.bk 3 rfl) 0 (.int .i64 0) [.int .i64 0] [.int .i64 0] ?_
  intro v49 Y C
  replace U := U.put 3 rfl C Y (by decide)
  clear Y C
  refine ⟨⟨(U.bk 4 rfl), (U.bk 3 rfl)⟩, ?_⟩
  refine gz_done ?_
  refine ge_then ?_
  refine gc_ret ?_
  have HC : CallsD Tryz.prog 135 #[pg g4, pg g6] .returning v49 fun e u' w' => u' = .returning ∧ (∃  K' n' N', e = .returned (.tuple #[]) ∧ Ut w K B g [] w' K' e12 n' N' [(g37, [.int .u64 16, .int .u64 16, .int .u64 500, .int .u64 0, .slice aq29 nq29 cq29, .bool false, .int .u64 0, .bool false, .int .u64 1, .slice none 0 0, .slice aq30 nq30 cq30, .slice aq31 nq31 cq31, .slice none 0 0, .int .u64 0, .slice none 0 0, .bool false], 183), (g22, [.int .u64 0, .int .u64 0, .slice aq13 nq13 cq13, .bool false, .int .u64 0, .bool false, .int .u64 0, .slice aq14 nq14 cq14, .slice aq15 nq15 cq15, .slice aq16 nq16 cq16], 57), (g6, [pg g], 46), (g4, [.int .i64 0], 33), (g2, [.slice aq39 nq39 cq39], 55)] [(zq41, aq41, nq41, cq41, 10000000000000000000000000000000000000), (zq40, aq40, nq40, cq40, 10000000000000000000000000000000000000), (zq39, aq39, nq39, cq39, 10000000000000000000000000000000000000), (zq31, aq31, nq31, cq31, 0), (zq30, aq30, nq30, cq30, 0), (zq29, aq29, nq29, cq29, 0), (zq16, aq16, nq16, cq16, 0), (zq15, aq15, nq15, cq15, 0), (zq14, aq14, nq14, cq14, 0), (zq13, aq13, nq13, cq13, 0)] ∧ (n' ≤ n + 4200 ∧ N' ≤ N + 4200)) := by
    refine gc_enterG (n := 11) Tryz.func135 rfl ?_
    refine gc_seq ?_
    refine gc_seq ?_
    refine gc_reg ?_
    refine t 3 (pg g4) ?_
    refine t 4 (pg g4) ?_
    refine tl 5 (.int .i64 0) (U.bk 3 rfl) 0 ?_
    refine t 6 (.bool false) ?_
    refine gl_nil ?_
    refine ge_then ?_
    refine gc_no ?_
    refine gc_skip ?_
    refine ge_then ?_
    refine gc_reg ?_
    refine tl 9 (pg g) (U.bk 2 rfl) 0 ?_
    refine tc 10 137 #[pg g] (xcommit U.ta.sx (by omega)) ?_
    rintro _ v51 ⟨rfl, K50, S, hK, hC⟩
    refine ⟨_, rfl, ?_⟩
    replace U := U.opW S hK hC
    clear S hK hC
    refine gl_nil ?_
    refine ge_end (.tuple #[]) (rs0 (by kernel_rfl)) ?_
    exact ⟨_, _, _, rfl, U.sel [0, 1, 2, 3, 4] [0, 1, 2, 3, 4, 5, 6, 7, 8, 9], ⟨by (try dsimp only); omega, by (try dsimp only); omega⟩⟩
  clear U
  refine ge_retF (by kernel_rfl) HC ?_
  rintro _ v55 ⟨K52, n53, N54, rfl, U, ⟨qn53, qN54⟩⟩
  clear HC
  refine ⟨_, .tuple #[.agg #[.slice aq39 nq39 cq39], .int .i64 0], rfl, rscc 8 9 (T := 55) (T2 := 33) (by kernel_rfl) (by kernel_rfl) (by kernel_rfl) (lr (U.bk 4 rfl) 0) (l1 (U.bk 3 rfl) 0), ?_⟩
  exact ⟨_, _, _, _, _, _, _, rfl, U.ta.sx, by omega, by omega, U.ta.km, U.ta.cc, (U.nq 2 rfl), by omega, fq39⟩
theorem create_n {B : Nat} {w : World} {K : Nat → Prop} {g : Nat} {n N : Nat}  (h : Sx B w K g e3 [] n N)  (hn : n ≤ 500000) (hN : N ≤ 500000) : Calls Tryz.prog 68 #[pg g, .int .u64 17, .int .u64 500, .int .u64 10] w (fun e w' => ∃ K' n' N', e = .returned (.tuple #[.agg #[.slice none 0 0], .int .i64 90]) ∧ Sx B w' K' g e3 [] n' N' ∧ n' ≤ n + 6000 ∧ N' ≤ N + 6000 ∧ (∀ b, K' b → K b ∨ w.heap.size ≤ b) ∧ Chg K w w') := by
  have U := ut_of h
  refine gc_enterF (n := 57) Tryz.func68 rfl ?_
  refine gc_seq ?_
  refine gc_reg ?_
  refine ta 8 [.slice none 0 0] 55 (pg) ?_
  intro v1 g2 Xg2 hg2 B
  replace U := U.new Xg2 hg2 B
  clear Xg2 hg2 B
  refine ta 9 [.int .i64 0] 33 (pg) ?_
  intro v3 g4 Xg4 hg4 B
  replace U := U.new Xg4 hg4 B
  clear Xg4 hg4 B
  refine gl_nil ?_
  refine ge_then ?_
  refine gc_seq ?_
  refine gc_reg ?_
  refine t 13 (pg g) ?_
  have HC : Calls Tryz.prog 93 #[pg g] v3 (fun e w' => ∃ g6 K' n' N', e = .returned (.func (.func 135) #[] #[pg g6]) ∧ Ut w K B g (e3 :: []) w' K' e3 n' N' [(g6, [pg g], 46), (g4, [.int .i64 0], 33), (g2, [.slice none 0 0], 55)] [] ∧ (n' ≤ n + 100 ∧ N' ≤ N + 100)) := by
    refine gc_enter (n := 9) Tryz.func93 rfl (by kernel_rfl) (by kernel_rfl) ?_
    refine gc_seq ?_
    refine gc_reg ?_
    refine ta 1 [pg g] 46 (pg) ?_
    intro v5 g6 Xg6 hg6 B
    replace U := U.new Xg6 hg6 B
    clear Xg6 hg6 B
    refine t 2 (.nilFunc) ?_
    refine gl_nil ?_
    refine ge_then ?_
    refine gc_seq ?_
    refine gc_seq ?_
    refine gc_reg ?_
    refine tl 3 (pg g) (U.bk 0 rfl) 0 ?_
    refine tc 4 133 #[pg g] (xbegin U.ta.sx (by decide)) ?_
    rintro _ v8 ⟨rfl, K7, S, hK, hC⟩
    refine ⟨_, rfl, ?_⟩
    replace U := U.opW S hK hC
    clear S hK hC
    refine t 5 (.bool false) ?_
    refine gl_nil ?_
    refine ge_then ?_
    refine gc_no ?_
    refine gc_skip ?_
    refine ge_then ?_
    refine gc_seq ?_
    refine gc_reg ?_
    refine t 8 (.func (.func 135) #[] #[pg g6]) ?_
    refine t 2 (.func (.func 135) #[] #[pg g6]) ?_
    refine gl_nil ?_
    refine ge_then ?_
    refine gc_ret ?_
    refine ge_ret (.func (.func 135) #[] #[pg g6]) (rs1 2 (by kernel_rfl) (by kernel_rfl)) ?_
    exact ⟨_, _, _, _, rfl, U.sel [0, 1, 2] [], ⟨by (try dsimp only); omega, by (try dsimp only); omega⟩⟩
  clear U
  refine tc 14 93 #[pg g] (HC) ?_
  rintro _ v12 ⟨g6, K9, n10, N11, rfl, U, ⟨qn10, qN11⟩⟩
  refine ⟨_, rfl, ?_⟩
  clear HC
  refine td ⟨.fn (.func 135) #[pg g6], #[pg g4]⟩ ?_
  refine gl_nil ?_
  refine ge_then ?_
  refine gc_seq ?_
  refine gc_reg ?_
  refine t 16 (pg g) ?_
  refine t 17 (.int .u64 17) ?_
  refine tc 18 16 #[pg g, .int .u64 17] (gVal (th := false) (er := 80) (rt := 0) (tk := 0) (un := 0) (pe := 0) (jl := false) (bo := false) (x0 := 0) (x1 := 0) (x2 := 0) (x3 := 0) U.ta.sx ⟨by decide, by decide⟩ (by decide +kernel) rfl (by omega) (by omega)) ?_
  rintro _ v20 ⟨aq13, nq13, cq13, zq13, aq14, nq14, cq14, zq14, aq15, nq15, cq15, zq15, aq16, nq16, cq16, zq16, K17, n18, N19, rfl, S, qn18, qN19, hK, hC, Q0, mq13, h0, Q1, mq14, h1, Q2, mq15, h2, Q3, mq16, h3⟩
  refine ⟨_, rfl, ?_⟩
  have fq13 := ne3 h0 U.ta.size
  have fq14 := ne3 h1 U.ta.size
  have fq15 := ne3 h2 U.ta.size
  have fq16 := ne3 h3 U.ta.size
  have L := U.lt
  replace U := ((((U.op S hK hC).add L Q0 h0).add L Q1 h1).add L Q2 h2).add L Q3 h3
  clear L S hK hC Q0 h0 Q1 h1 Q2 h2 Q3 h3
  refine t 15 (.tuple #[.agg #[.int .u64 0, .int .u64 0, .slice aq13 nq13 cq13, .bool false, .int .u64 0, .bool false, .int .u64 0, .slice aq14 nq14 cq14, .slice aq15 nq15 cq15, .slice aq16 nq16 cq16], .bool false]) ?_
  refine t 19 (.agg #[.int .u64 0, .int .u64 0, .slice aq13 nq13 cq13, .bool false, .int .u64 0, .bool false, .int .u64 0, .slice aq14 nq14 cq14, .slice aq15 nq15 cq15, .slice aq16 nq16 cq16]) ?_
  refine t 20 (.bool false) ?_
  refine ta 10 [.int .u64 0, .int .u64 0, .slice none 0 0, .bool false, .int .u64 0, .bool false, .int .u64 0, .slice none 0 0, .slice none 0 0, .slice none 0 0] 57 (pg) ?_
  intro v21 g22 Xg22 hg22 B
  replace U := U.new Xg22 hg22 B
  clear Xg22 hg22 B
  refine ts (U.bk 0 rfl) 0 (.agg #[.int .u64 0, .int .u64 0, .slice aq13 nq13 cq13, .bool false, .int .u64 0, .bool false, .int .u64 0, .slice aq14 nq14 cq14, .slice aq15 nq15 cq15, .slice aq16 nq16 cq16]) [.int .u64 0, .int .u64 0, .slice aq13 nq13 cq13, .bool false, .int .u64 0, .bool false, .int .u64 0, .slice aq14 nq14 cq14, .slice aq15 nq15 cq15, .slice aq16 nq16 cq16] [.int .u64 0, .int .u64 0, .slice aq13 nq13 cq13, .bool false, .int .u64 0, .bool false, .int .u64 0, .slice aq14 nq14 cq14, .slice aq15 nq15 cq15, .slice aq16 nq16 cq16] ?_
  intro v23 Y C
  replace U := U.put 0 rfl C Y (by decide)
  clear Y C
  refine t 11 (.bool false) ?_
  refine gl_nil ?_
  refine ge_then ?_
  refine gc_fr [(0, pg g), (1, .int .u64 17), (2, .int .u64 500), (3, .int .u64 10), (8, pg g2), (9, pg g4), (11, .bool false)] (by kernel_rfl) ?_
  refine gc_seq ?_
  refine gc_block ?_
  refine gc_seq ?_
  refine gc_reg ?_
  refine t 22 (.bool false) ?_
  refine t 21 (.bool false) ?_
  refine gl_nil ?_
  refine ge_then ?_
  refine gc_no ?_
  refine gc_seq ?_
  refine gc_reg ?_
  refine t 25 (pg g) ?_
  refine t 26 (.int .u64 17) ?_
  refine tc 27 87 #[.int .i64 9, .int .u64 17, .int .u64 0] (sKey ⟨by decide, by decide⟩ (by kernel_rfl)) ?_
  rintro _ v26 ⟨kv25, rfl, Y24, B⟩
  refine ⟨_, rfl, ?_⟩
  replace U := U.keep B
  clear B
  refine tc 28 94 #[pg g, kv25] (has_lit (xhas U.ta.sx Y24 (by omega) (by omega)) (show (Kv.look e3 (Ky.mk 9 17 0)).isSome = false by decide +kernel)) ?_
  rintro _ v28 ⟨rfl, K27, S, hK, hC⟩
  refine ⟨_, rfl, ?_⟩
  replace U := U.op S hK hC
  clear S hK hC
  clear Y24
  refine t 24 (.bool false) ?_
  refine gl_nil ?_
  refine ge_then ?_
  refine gc_no ?_
  refine gc_seq ?_
  refine gc_reg ?_
  refine t 31 (.int .u64 500) ?_
  refine t 32 (.bool false) ?_
  refine t 30 (.bool false) ?_
  refine gl_nil ?_
  refine ge_then ?_
  refine gc_no ?_
  refine gc_seq ?_
  refine gc_reg ?_
  refine t 35 (.int .u64 10) ?_
  refine t 36 (.bool false) ?_
  refine t 34 (.bool false) ?_
  refine gl_nil ?_
  refine ge_then ?_
  refine gc_fr [(0, pg g), (1, .int .u64 17), (2, .int .u64 500), (3, .int .u64 10), (8, pg g2), (9, pg g4), (34, .bool false)] (by kernel_rfl) ?_
  refine gc_no ?_
  refine gc_skip ?_
  refine ge_bn ?_
  refine ge_then ?_
  refine gc_seq ?_
  refine gc_reg ?_
  refine t 38 (.int .u64 17) ?_
  refine t 39 (.int .u64 17) ?_
  refine t 40 (pg g) ?_
  refine t 41 (.int .u64 17) ?_
  refine t 42 (.int .u64 500) ?_
  refine t 43 (.agg #[.int .u64 500, .int .u64 0, .slice none 0 0, .bool false, .int .u64 0, .bool false, .int .u64 0, .slice none 0 0, .slice none 0 0, .slice none 0 0]) ?_
  refine tc 44 95 #[pg g, .int .u64 17, .agg #[.int .u64 500, .int .u64 0, .slice none 0 0, .bool false, .int .u64 0, .bool false, .int .u64 0, .slice none 0 0, .slice none 0 0, .slice none 0 0]] (start_any U.ta.sx ⟨by decide, by decide⟩ (nq_nil _ _).nk (by omega) (nq_nil _ _).nk (by omega) (nq_nil _ _).nk (by omega) (nq_nil _ _).nk (by omega) (by omega) (by omega)) ?_
  rintro _ v35 ⟨aq29, nq29, cq29, zq29, aq30, nq30, cq30, zq30, aq31, nq31, cq31, zq31, K32, n33, N34, rfl, S, qn33, qN34, hK, hC, Q0, mq29, h0, Q1, mq30, h1, Q2, mq31, h2⟩
  refine ⟨_, rfl, ?_⟩
  have fq29 := ne3 h0 U.ta.size
  have fq30 := ne3 h1 U.ta.size
  have fq31 := ne3 h2 U.ta.size
  have L := U.lt
  replace U := (((U.op S hK hC).add L Q0 h0).add L Q1 h1).add L Q2 h2
  clear L S hK hC Q0 h0 Q1 h1 Q2 h2
  refine t 45 (.agg #[.int .u64 17, .int .u64 17, .int .u64 500, .int .u64 0, .slice aq29 nq29 cq29, .bool false, .int .u64 0, .bool false, .int .u64 1, .slice none 0 0, .slice aq30 nq30 cq30, .slice aq31 nq31 cq31, .slice none 0 0, .int .u64 0, .slice none 0 0, .bool false]) ?_
  refine ta 12 [.int .u64 0, .int .u64 0, .int .u64 0, .int .u64 0, .slice none 0 0, .bool false, .int .u64 0, .bool false, .int .u64 0, .slice none 0 0, .slice none 0 0, .slice none 0 0, .slice none 0 0, .int .u64 0, .slice none 0 0, .bool false] 183 (pg) ?_
  intro v36 g37 Xg37 hg37 B
  replace U := U.new Xg37 hg37 B
  clear Xg37 hg37 B
  refine ts (U.bk 0 rfl) 0 (.agg #[.int .u64 17, .int .u64 17, .int .u64 500, .int .u64 0, .slice aq29 nq29 cq29, .bool false, .int .u64 0, .bool false, .int .u64 1, .slice none 0 0, .slice aq30 nq30 cq30, .slice aq31 nq31 cq31, .slice none 0 0, .int .u64 0, .slice none 0 0, .bool false]) [.int .u64 17, .int .u64 17, .int .u64 500, .int .u64 0, .slice aq29 nq29 cq29, .bool false, .int .u64 0, .bool false, .int .u64 1, .slice none 0 0, .slice aq30 nq30 cq30, .slice aq31 nq31 cq31, .slice none 0 0, .int .u64 0, .slice none 0 0, .bool false] [.int .u64 17, .int .u64 17, .int .u64 500, .int .u64 0, .slice aq29 nq29 cq29, .bool false, .int .u64 0, .bool false, .int .u64 1, .slice none 0 0, .slice aq30 nq30 cq30, .slice aq31 nq31 cq31, .slice none 0 0, .int .u64 0, .slice none 0 0, .bool false] ?_
  intro v38 Y C
  replace U := U.put 0 rfl C Y (by decide)
  clear Y C
  refine gl_nil ?_
  refine ge_then ?_
  refine gc_seq ?_
  refine gc_reg ?_
  refine tlr 47 [.int .u64 17, .int .u64 17, .int .u64 500, .int .u64 0, .slice aq29 nq29 cq29, .bool false, .int .u64 0, .bool false, .int .u64 1, .slice none 0 0, .slice aq30 nq30 cq30, .slice aq31 nq31 cq31, .slice none 0 0, .int .u64 0, .slice none 0 0, .bool false] (U.bk 0 rfl) 0 ?_
  refine t 48 (pg g) ?_
  refine t 49 (.int .u64 17) ?_
  refine t 50 (.int .u64 10) ?_
  refine tc 51 96 #[.agg #[.int .u64 17, .int .u64 17, .int .u64 500, .int .u64 0, .slice aq29 nq29 cq29, .bool false, .int .u64 0, .bool false, .int .u64 1, .slice none 0 0, .slice aq30 nq30 cq30, .slice aq31 nq31 cq31, .slice none 0 0, .int .u64 0, .slice none 0 0, .bool false], pg g, .int .u64 17, .int .u64 10] (bind_n U.ta.sx (U.nq 2 rfl).nk (by omega) (U.nq 1 rfl).nk (by omega) (U.nq 0 rfl).nk (by omega) (by omega) (by omega)) ?_
  rintro _ v42 ⟨K39, n40, N41, rfl, S, qn40, qN41, hK, hC⟩
  refine ⟨_, rfl, ?_⟩
  have L := U.lt
  replace U := U.op S hK hC
  clear L S hK hC
  refine t 46 (.tuple #[.agg #[.slice none 0 0], .agg #[.int .u64 0, .int .u64 0, .int .u64 0, .slice none 0 0, .slice none 0 0, .slice none 0 0, .int .u64 0], .int .i64 90]) ?_
  refine t 52 (.agg #[.slice none 0 0]) ?_
  refine t 53 (.agg #[.int .u64 0, .int .u64 0, .int .u64 0, .slice none 0 0, .slice none 0 0, .slice none 0 0, .int .u64 0]) ?_
  refine t 54 (.int .i64 90) ?_
  refine ts (U.bk 4 rfl) 0 (.agg #[.slice none 0 0]) [.slice none 0 0] [.slice none 0 0] ?_
  intro v43 Y C
  replace U := U.put 4 rfl C Y (by decide)
  clear Y C
  refine ts (U.bk 3 rfl) 0 (.int .i64 90) [.int .i64 90] [.int .i64 90] ?_
  intro v44 Y C
  replace U := U.put 3 rfl C Y (by decide)
  clear Y C
  refine gl_nil ?_
  refine ge_then ?_
  refine gc_fr [(8, pg g2), (9, pg g4)] (by kernel_rfl) ?_
  refine gc_seq ?_
  replace U := U.drew
  refine gc_draw (fun w' => Blk w' g2 [.slice none 0 0] 55 ∧ Blk w' g4 [.int .i64 90] 33) (fun _ => false) ⟨(U.bk 4 rfl), (U.bk 3 rfl)⟩ ?_
  refine zlr 0 55 [.slice none 0 0] (fun _ h => h.1) 0 ?_ (hQ := hQd rfl (by decide) (by decide))
  refine zl 1 56 (.int .i64 90) (fun _ h => h.2) 0 ?_ (hQ := hQd rfl (by decide) (by decide))
  refine zs 2 (U.bk 4 rfl) 0 (.agg #[.slice none 0 0]) [.slice none 0 0] [.slice none 0 0] ?_
  intro v45 Y C
  replace U := U.put 4 rfl C Y (by decide)
  clear Y C
  refine ⟨⟨(U.bk 4 rfl), (U.bk 3 rfl)⟩, ?_⟩
  refine zs 3 (U.bk 3 rfl) 0 (.int .i64 90) [.int .i64 90] [.int .i64 90] ?_
  intro v46 Y C
  replace U := U.put 3 rfl C Y (by decide)
  clear Y C
  refine ⟨⟨(U.bk 4 rfl), (U.bk 3 rfl)⟩, ?_⟩
  refine gz_done ?_
  refine ge_then ?_
  refine gc_ret ?_
  have HC : CallsD Tryz.prog 135 #[pg g4, pg g6] .returning v46 fun e u' w' => u' = .returning ∧ (∃  K' n' N', e = .returned (.tuple #[]) ∧ Ut w K B g [] w' K' e3 n' N' [(g37, [.int .u64 17, .int .u64 17, .int .u64 500, .int .u64 0, .slice aq29 nq29 cq29, .bool false, .int .u64 0, .bool false, .int .u64 1, .slice none 0 0, .slice aq30 nq30 cq30, .slice aq31 nq31 cq31, .slice none 0 0, .int .u64 0, .slice none 0 0, .bool false], 183), (g22, [.int .u64 0, .int .u64 0, .slice aq13 nq13 cq13, .bool false, .int .u64 0, .bool false, .int .u64 0, .slice aq14 nq14 cq14, .slice aq15 nq15 cq15, .slice aq16 nq16 cq16], 57), (g6, [pg g], 46), (g4, [.int .i64 90], 33), (g2, [.slice none 0 0], 55)] [(zq31, aq31, nq31, cq31, 0), (zq30, aq30, nq30, cq30, 0), (zq29, aq29, nq29, cq29, 0), (zq16, aq16, nq16, cq16, 0), (zq15, aq15, nq15, cq15, 0), (zq14, aq14, nq14, cq14, 0), (zq13, aq13, nq13, cq13, 0)] ∧ (n' ≤ n + 4200 ∧ N' ≤ N + 4200)) := by
    refine gc_enterG (n := 11) Tryz.func135 rfl ?_
    refine gc_seq ?_
    refine gc_seq ?_
    refine gc_reg ?_
    refine t 3 (pg g4) ?_
    refine t 4 (pg g4) ?_
    refine tl 5 (.int .i64 90) (U.bk 3 rfl) 0 ?_
    refine t 6 (.bool true) ?_
    refine gl_nil ?_
    refine ge_then ?_
    refine gc_yes ?_
    refine gc_seq ?_
    refine gc_reg ?_
    refine tl 7 (pg g) (U.bk 2 rfl) 0 ?_
    refine tc 8 136 #[pg g] (xrollback U.ta.sx (by omega)) ?_
    rintro _ v48 ⟨rfl, K47, S, hK, hC⟩
    refine ⟨_, rfl, ?_⟩
    replace U := U.opW S hK hC
    clear S hK hC
    refine gl_nil ?_
    refine ge_then ?_
    refine gc_ret ?_
    refine ge_tr ?_
    refine ge_ret (.tuple #[]) (rs0 (by kernel_rfl)) ?_
    exact ⟨_, _, _, rfl, U.sel [0, 1, 2, 3, 4] [0, 1, 2, 3, 4, 5, 6], ⟨by (try dsimp only); omega, by (try dsimp only); omega⟩⟩
  clear U
  refine ge_retF (by kernel_rfl) HC ?_
  rintro _ v52 ⟨K49, n50, N51, rfl, U, ⟨qn50, qN51⟩⟩
  clear HC
  refine ⟨_, .tuple #[.agg #[.slice none 0 0], .int .i64 90], rfl, rscc 8 9 (T := 55) (T2 := 33) (by kernel_rfl) (by kernel_rfl) (by kernel_rfl) (lr (U.bk 4 rfl) 0) (l1 (U.bk 3 rfl) 0), ?_⟩
  exact ⟨_, _, _, rfl, U.ta.sx, by omega, by omega, U.ta.km, U.ta.cc⟩
end Fo
end Go.Proofs.YtpoifdokmjhclaaGreat

namespace Go.Proofs.YtpoifdokmjhclaaGreat
namespace Pw
open Go.RowKit Go.Lib Pg Kv Bk Gl
attribute [local go_sem] Oper.semAt_some
theorem und_m : Tryz.prog.underlying 236 = some (.map 22 3) := by kernel_rfl
theorem und_u : Tryz.prog.underlying 22 = some (.int .u64) := by kernel_rfl
section
variable {w : World} {bm clock : Nat} {es : Array MapEntry} {k : Int}
theorem isk (k : Int) : MapKept.IsKey (.int .u64) (.int .u64 k) := by
  simp [MapKept.IsKey]
theorem run_lk0 {r : Option (Nat × Value)} (hb : w.heap[bm]? = some (.map es clock)) (hf : Instr.findNow (.int .u64) (.int .u64 k) es.toList 0 = some r) : (Instr.lookup 236 (.map (some bm)) (.int .u64 k) false).run Tryz.prog w = .ok (match r with | some (_, v) => v | none => .int .i64 0) w := by
  simp only [Instr.lookup, Sem.run_bind, run_underlying und_m, Result.andThen_ok, MapKept.run_getObj_map hb, Sem.run_pure, MapKept.run_checkKey und_u (isk k), MapKept.run_findKey und_u hf]
  cases r with
  | none => simp
  | some p => obtain ⟨i, v⟩ := p; simp
/-- an object is laid anew -/
def wset (w : World) (r : Nat) (o : Obj) : World := { w with heap := w.heap.setIfInBounds r o }
theorem wset_at {r : Nat} {o o' : Obj} (h : w.heap[r]? = some o') : (wset w r o).heap[r]? = some o := by
  have := lt_of_block h
  simp [wset, this]
theorem wset_chg (r : Nat) (o : Obj) : Chg (· = r) w (wset w r o) := ⟨rfl, rfl, rfl, by simp [wset], fun b _ hb => by
  have hb' : ¬ (b = r) := hb
  simp only [wset]
  rw [Array.getElem?_setIfInBounds_ne (fun e => hb' e.symm)]⟩
theorem run_mu0 (v : Value) (hb : w.heap[bm]? = some (.map es clock)) (hf : Instr.findNow (.int .u64) (.int .u64 k) es.toList 0 = some none) : (Instr.mapUpdate 236 (.map (some bm)) (.int .u64 k) v).run Tryz.prog w = .ok () (wset w bm (.map (es.push { key := .int .u64 k, val := v, born := clock }) (clock + 1))) := by
  simp only [Instr.mapUpdate, Sem.run_bind, run_underlying und_m, Result.andThen_ok, MapKept.run_getObj_map hb, MapKept.run_checkKey und_u (isk k), MapKept.run_findKey und_u hf, MapKept.run_setObj_map _ hb]
  rfl
theorem run_setI {r b d : Nat} {a : Option Nat} {c : Array Nat} {o : Obj} (h : w.heap[r]? = some (.mapIter a b c d)) : (setObj r o).run Tryz.prog w = .ok () (wset w r o) := by
  simp only [setObj, Sem.run]
  rw [h]
  rfl
theorem run_getI {r b d : Nat} {a : Option Nat} {c : Array Nat} (h : w.heap[r]? = some (.mapIter a b c d)) : (getObj r).run Tryz.prog w = .ok (.mapIter a b c d) w := by
  simp only [getObj, Sem.run]
  rw [h]
/-- one entry that is left, whichever it be -/
theorem run_nx {r since c0 : Nat} {seen : Array Nat} (ty : TypeId) (hr : w.heap[r]? = some (.mapIter (some bm) since seen c0)) (hb : w.heap[bm]? = some (.map es clock)) (hold : ∀ x ∈ es.toList, x.born < since) (hsc : since ≤ c0) :
    ((leftOf es seen).size = 0 ∧ (Instr.next (.pointer (some ⟨r, 0, none⟩)) false ty).run Tryz.prog w = .ok (.tuple #[.bool false]) w) ∨
    ∃ e ∈ (leftOf es seen).toList, ∃ w1, (Instr.next (.pointer (some ⟨r, 0, none⟩)) false ty).run Tryz.prog w = .ok (.tuple #[.bool true, e.key, e.val]) w1 ∧ w1.heap[r]? = some (.mapIter (some bm) since (seen.push e.born) clock) ∧ Chg (· = r) w w1 := by
  have test := next_test_false seen es since c0 hold hsc
  have hL : ∀ x ∈ (leftOf es seen).toList, x.born < since := fun x hx => hold x (mem_left hx).1
  simp only [Instr.next, Sem.run_bind, run_getI hr, Result.andThen_ok, MapKept.run_getObj_map hb, test, Bool.false_eq_true, if_false]
  change ((leftOf es seen).size = 0 ∧ _) ∨ _
  rw [show (es.filter fun e => !seen.contains e.born) = leftOf es seen from rfl]
  obtain ⟨L, hLe⟩ : ∃ L, leftOf es seen = L := ⟨_, rfl⟩
  rw [hLe] at hL ⊢
  have old : (L.filter fun x => decide (x.born < since)) = L := Array.filter_eq_self.2 (fun x hx => by simpa using hL x (by simpa using hx))
  have new : (L.filter fun x => decide (x.born ≥ since)) = #[] := Array.filter_eq_empty_iff.2 (fun x hx => by have := hL x (by simpa using hx); simp; omega)
  rw [old, new, Array.append_empty]
  by_cases h0 : L.size = 0
  · refine .inl ⟨h0, ?_⟩
    obtain rfl : L = #[] := Array.eq_empty_of_size_eq_zero h0
    simp [choose, Sem.run, Question.forced]
  · refine .inr ?_
    have ne : L.isEmpty = false := by simp [Array.isEmpty, h0]
    rw [ne]
    have draw : ∃ (j : Nat) (w1 : World), j < L.size ∧ (w1 = w ∨ w1 = w.drew) ∧ (choose (Question.mapNext L.size)).run Tryz.prog w = .ok j w1 := by
      by_cases hf : L.size ≤ 1
      · exact ⟨0, w, by omega, .inl rfl, by simp [choose, Sem.run, Question.forced, hf]⟩
      · exact ⟨_, w.drew, Nat.mod_lt _ (by omega), .inr rfl, by
          simp only [choose, Sem.run, Question.forced, decide_eq_true_eq, hf, if_false, Question.cut]
          rfl⟩
    obtain ⟨j, w1, hj, hw, hrun⟩ := draw
    have h1 : w1.heap[r]? = some (.mapIter (some bm) since seen c0) := by rcases hw with rfl | rfl <;> exact hr
    refine ⟨L[j], by simp, wset w1 r (.mapIter (some bm) since (seen.push L[j].born) clock), ?_, wset_at h1, ?_⟩
    · simp only [Bool.false_eq_true, if_false, Array.empty_append, Array.size_map, hrun, Result.andThen_ok, Array.getElem?_map, Array.getElem?_eq_getElem hj, Option.map_some, Sem.run_bind, run_setI h1, Sem.run_pure]
    · have c := wset_chg (w := w1) r (.mapIter (some bm) since (seen.push L[j].born) clock)
      rcases hw with rfl | rfl
      · exact c
      · exact (Chg.of (F := (· = r)) (Below.refl _ _).drew).trans c (fun _ _ h => h)
theorem run_en0 {r since : Nat} {seen : Array Nat} {e : MapEntry} (hr : w.heap[r]? = some (.mapIter (some bm) since (seen.push e.born) clock)) (hb : w.heap[bm]? = some (.map es clock)) (he : e ∈ es.toList) (hn : (es.toList.map (·.born)).Nodup) :
    (Instr.entry (.pointer (some ⟨r, 0, none⟩))).run Tryz.prog w = .ok (.tuple #[e.key, e.val]) w := by
  have hf : es.find? (·.born == e.born) = some e := by rw [← Array.find?_toList]; exact find_born e es.toList hn he
  simp only [Instr.entry, Sem.run_bind, run_getI hr, Result.andThen_ok, MapKept.run_getObj_map hb, Array.back?_push, bne_self_eq_false, Bool.false_eq_true, if_false, hf, Sem.run_pure]
end
section
variable {P : Program} {n : Nat} {ds : List Deferred} {ops : Array Oper} {Q : Exit → Act → World → Prop} {rest : List Oper} {o : Oper} {l : Fr} {w : World}
theorem tmk (d : Nat) (h : ∀ w1 g, w1.heap[g]? = some (.map #[] 0) → w.heap.size ≤ g → Below w.heap.size w w1 → GL P n ds ops Q rest ((d, .map (some g)) :: l) w1) (hg : gd ops l o = some true := by kernel_rfl) (hc : chk n l o (some d) = true := by kernel_rfl) (hrun : (execOp (evL l) o).run P w = .ok (.value (.map (some w.heap.size))) (w.alloc (.map #[] 0)) := by kernel_rfl) : GL P n ds ops Q (o :: rest) l w :=
  tw d _ _ hrun (h _ _ (World.alloc_heap_new w _) (Nat.le_refl _) (below_alloc w _)) hg hc
end
section
variable {n : Nat} {ds : List Deferred} {ops : Array Oper} {Q : Exit → Act → World → Prop} {rest : List Oper} {o : Oper} {l : Fr} {w : World}
theorem run_lk {ρ : Operand → Value} {bm clock : Nat} {es : Array MapEntry} (k : Int) (v : Value) {r : Option (Nat × Value)} (hb : w.heap[bm]? = some (.map es clock)) (hf : Instr.findNow (.int .u64) (.int .u64 k) es.toList 0 = some r) (hv : (match r with | some (_, v) => v | none => .int .i64 0) = v) (ho : ∃ x y, o.op = .lookup 236 x y false ∧ ρ x = .map (some bm) ∧ ρ y = .int .u64 k := by exact ⟨_, _, rfl, by kernel_rfl, by kernel_rfl⟩) : (execOp ρ o).run Tryz.prog w = .ok (.value v) w := by
  obtain ⟨x, y, h, h1, h2⟩ := ho
  subst hv
  simp only [execOp, h, h1, h2, Sem.run_bind, run_lk0 hb hf, Result.andThen_ok, Sem.run_pure]
theorem tmu0 {bm clock : Nat} {es : Array MapEntry} (k : Int) (v : Value) (es' : Array MapEntry) (hb : w.heap[bm]? = some (.map es clock)) (hf : Instr.findNow (.int .u64) (.int .u64 k) es.toList 0 = some none) (he : es.push { key := .int .u64 k, val := v, born := clock } = es') (h : ∀ w1, w1.heap[bm]? = some (.map es' (clock + 1)) → Chg (· = bm) w w1 → GL Tryz.prog n ds ops Q rest l w1) (hg : gd ops l o = some true := by kernel_rfl) (hc : chk n l o none = true := by kernel_rfl) (ho : ∃ x y z, o.op = .mapUpdate 236 x y z ∧ evL l x = .map (some bm) ∧ evL l y = .int .u64 k ∧ evL l z = v := by exact ⟨_, _, _, rfl, by kernel_rfl, by kernel_rfl, by kernel_rfl⟩) : GL Tryz.prog n ds ops Q (o :: rest) l w := by
  obtain ⟨x, y, z, h0, h1, h2, h3⟩ := ho
  subst he
  refine tv _ ?_ (h _ (wset_at hb) (wset_chg _ _)) hg hc
  simp only [execOp, h0, h1, h2, h3, Sem.run_bind, run_mu0 v hb hf, Result.andThen_ok, Sem.run_pure]
theorem trg (d : Nat) {bm clock : Nat} {es : Array MapEntry} (hb : w.heap[bm]? = some (.map es clock)) (h : ∀ w1 g, w1.heap[g]? = some (.mapIter (some bm) clock #[] clock) → w.heap.size ≤ g → Below w.heap.size w w1 → GL Tryz.prog n ds ops Q rest ((d, pg g) :: l) w1) (hg : gd ops l o = some true := by kernel_rfl) (hc : chk n l o (some d) = true := by kernel_rfl) (ho : ∃ x, o.op = .range 236 x ∧ evL l x = .map (some bm) := by exact ⟨_, rfl, by kernel_rfl⟩) : GL Tryz.prog n ds ops Q (o :: rest) l w := by
  obtain ⟨x, h0, h1⟩ := ho
  refine tw d (pg w.heap.size) _ ?_ (h _ _ (World.alloc_heap_new w _) (Nat.le_refl _) (below_alloc w _)) hg hc
  simp only [execOp, h0, h1, Sem.run_bind, run_range_map w _ _ _ bm es clock und_m hb, Result.andThen_ok, Sem.run_pure]
/-- the next entry: none is left, or one that is left comes -/
theorem tnx (d : Nat) {r bm since c0 clock : Nat} {seen : Array Nat} {es : Array MapEntry} (hr : w.heap[r]? = some (.mapIter (some bm) since seen c0)) (hb : w.heap[bm]? = some (.map es clock)) (hold : ∀ x ∈ es.toList, x.born < since) (hsc : since ≤ c0) (h0 : (leftOf es seen).size = 0 → GL Tryz.prog n ds ops Q rest ((d, .tuple #[.bool false]) :: l) w)
    (h1 : ∀ e ∈ (leftOf es seen).toList, ∀ w1, w1.heap[r]? = some (.mapIter (some bm) since (seen.push e.born) clock) → Chg (· = r) w w1 → GL Tryz.prog n ds ops Q rest ((d, .tuple #[.bool true, e.key, e.val]) :: l) w1) (hg : gd ops l o = some true := by kernel_rfl) (hc : chk n l o (some d) = true := by kernel_rfl) (ho : ∃ x, o.op = .next x false ∧ evL l x = .pointer (some ⟨r, 0, none⟩) := by exact ⟨_, rfl, by kernel_rfl⟩) : GL Tryz.prog n ds ops Q (o :: rest) l w := by
  obtain ⟨x, k0, k1⟩ := ho
  rcases run_nx o.type hr hb hold hsc with ⟨e0, hu⟩ | ⟨e, he, w1, hu, a1, a2⟩
  · refine tw d _ _ ?_ (h0 e0) hg hc
    simp only [execOp, k0, k1, Sem.run_bind, hu, Result.andThen_ok, Sem.run_pure]
  · refine tw d _ _ ?_ (h1 e he w1 a1 a2) hg hc
    simp only [execOp, k0, k1, Sem.run_bind, hu, Result.andThen_ok, Sem.run_pure]
theorem run_en {ρ : Operand → Value} {r bm since clock : Nat} {seen : Array Nat} {es : Array MapEntry} (e : MapEntry) (hr : w.heap[r]? = some (.mapIter (some bm) since (seen.push e.born) clock)) (hb : w.heap[bm]? = some (.map es clock)) (he : e ∈ es.toList) (hn : (es.toList.map (·.born)).Nodup) (ho : ∃ x, o.op = .entry x ∧ ρ x = .pointer (some ⟨r, 0, none⟩) := by exact ⟨_, rfl, by kernel_rfl⟩) : (execOp ρ o).run Tryz.prog w = .ok (.value (.tuple #[e.key, e.val])) w := by
  obtain ⟨x, k0, k1⟩ := ho
  simp only [execOp, k0, k1, Sem.run_bind, run_en0 hr hb he hn, Result.andThen_ok, Sem.run_pure]
end
end Pw
end Go.Proofs.YtpoifdokmjhclaaGreat
