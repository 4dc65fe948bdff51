/- Several texts, joined: DiC, DiD, GnF, KvCb, KvLi, KvCc, KvCd, KvCe, KvCg. -/
import Derived.Test.YtpoifdokmjhclaaGreatJyA
import Derived.Test.YtpoifdokmjhclaaGreatJyx
import Derived.Test.YtpoifdokmjhclaaGreatJyd
import Derived.Defers
import Derived.Test.YtpoifdokmjhclaaGreatJyi
import Derived.Lib.SlBytesConst
namespace Go.Proofs.YtpoifdokmjhclaaGreat
namespace Fo
open Go.RowKit Go.Lib Pg Lim Gl Kv Bk Pw
attribute [local go_sem] Oper.semAt_some
set_option maxRecDepth 100000
set_option linter.unusedVariables false
set_option linter.unusedSimpArgs false
set_option maxHeartbeats 2000000
abbrev bi (b : Bool) : Int := if b then 1 else 0
theorem bi_eq {x : Int} {b : Bool} (h : x = bi b) : (x == 1) = b := by subst h; cases b <;> rfl
/-- what bytes tell, read as a Val -/
def qVal (l : List Int) : List Int × Int := ((List.range 10).map (Rc.outX (Rc.stVal l)), Rc.outR (Rc.stVal l))
theorem rdVal {w : World} {v : Value} {l : List Int} {rt tk un pe x0 x1 x2 x3 : Int} {jl bo : Bool} {er : Int} (h : ByU w v l) (hl : l.length ≤ 1000000000) (hv : qVal l = ([rt, tk, x0, (bi jl), un, (bi bo), pe, x1, x2, x3], er)) : Calls Tryz.prog 43 #[v] w fun e w' => ∃ b0 k0 d0 b1 k1 d1 b2 k2 d2 b3 k3 d3, e = .returned (.tuple #[.agg #[.int .u64 rt, .int .u64 tk, .slice b0 k0 d0, .bool jl, .int .u64 un, .bool bo, .int .u64 pe, .slice b1 k1 d1, .slice b2 k2 d2, .slice b3 k3 d3], .int .i64 er]) ∧ (Rc.NatW w' w.heap.size b0 k0 d0 x0 ∧ k0 ≤ 510) ∧ (Rc.NatW w' w.heap.size b1 k1 d1 x1 ∧ k1 ≤ 510) ∧ (Rc.NatW w' w.heap.size b2 k2 d2 x2 ∧ k2 ≤ 510) ∧ (Rc.NatW w' w.heap.size b3 k3 d3 x3 ∧ k3 ≤ 510) ∧ Below w.heap.size w w' := by
  obtain ⟨b, ao, c, rfl, h2⟩ := bya h.byt
  have hr := congrArg (·.2) hv
  have hq := fun i : Nat => congrArg (·.1[i]?) hv
  simp only [qVal] at hr hq
  have e0 : Rc.outX (Rc.stVal l) 0 = rt := Option.some.inj (hq 0)
  have e1 : Rc.outX (Rc.stVal l) 1 = tk := Option.some.inj (hq 1)
  have e2 : Rc.outX (Rc.stVal l) 2 = x0 := Option.some.inj (hq 2)
  have e3 : Rc.outX (Rc.stVal l) 3 = (bi jl) := Option.some.inj (hq 3)
  have e4 : Rc.outX (Rc.stVal l) 4 = un := Option.some.inj (hq 4)
  have e5 : Rc.outX (Rc.stVal l) 5 = (bi bo) := Option.some.inj (hq 5)
  have e6 : Rc.outX (Rc.stVal l) 6 = pe := Option.some.inj (hq 6)
  have e7 : Rc.outX (Rc.stVal l) 7 = x1 := Option.some.inj (hq 7)
  have e8 : Rc.outX (Rc.stVal l) 8 = x2 := Option.some.inj (hq 8)
  have e9 : Rc.outX (Rc.stVal l) 9 = x3 := Option.some.inj (hq 9)
  refine (Rc.oVal h2 hl).mono ?_
  intro e w' h
  rw [e0, e1, e2, bi_eq e3, e4, bi_eq e5, e6, e7, e8, e9, hr] at h
  exact h
/-- what bytes tell, read as a Pool -/
def qPool (l : List Int) : List Int × Int := ((List.range 1).map (Rc.outX (Rc.stPool l)), Rc.outR (Rc.stPool l))
theorem rdPool {w : World} {v : Value} {l : List Int} {x0 : Int}  {er : Int} (h : ByU w v l) (hl : l.length ≤ 1000000000) (hv : qPool l = ([x0], er)) : Calls Tryz.prog 339 #[v] w fun e w' => ∃ b0 k0 d0, e = .returned (.tuple #[.agg #[.slice b0 k0 d0], .int .i64 er]) ∧ (Rc.NatW w' w.heap.size b0 k0 d0 x0 ∧ k0 ≤ 510) ∧ Below w.heap.size w w' := by
  obtain ⟨b, ao, c, rfl, h2⟩ := bya h.byt
  have hr := congrArg (·.2) hv
  have hq := fun i : Nat => congrArg (·.1[i]?) hv
  simp only [qPool] at hr hq
  have e0 : Rc.outX (Rc.stPool l) 0 = x0 := Option.some.inj (hq 0)
  refine (Rc.oPool h2 hl).mono ?_
  intro e w' h
  rw [e0, hr] at h
  exact h
/-- what bytes tell, read as a Params -/
def qParams (l : List Int) : List Int × Int := ((List.range 10).map (Rc.outX (Rc.stParams l)), Rc.outR (Rc.stParams l))
theorem rdParams {w : World} {v : Value} {l : List Int} {p0 p1 p2 p3 p4 p5 p6 p7 p8 p9 : Int}  {er : Int} (h : ByU w v l) (hl : l.length ≤ 1000000000) (hv : qParams l = ([p0, p1, p2, p3, p4, p5, p6, p7, p8, p9], er)) : Calls Tryz.prog 145 #[v] w fun e w' => e = .returned (.tuple #[.agg #[.int .u64 p0, .int .u64 p1, .int .u64 p2, .int .u64 p3, .int .u64 p4, .int .u64 p5, .int .u64 p6, .int .u64 p7, .int .u64 p8, .int .u64 p9], .int .i64 er]) ∧ Below w.heap.size w w' := by
  obtain ⟨b, ao, c, rfl, h2⟩ := bya h.byt
  have hr := congrArg (·.2) hv
  have hq := fun i : Nat => congrArg (·.1[i]?) hv
  simp only [qParams] at hr hq
  have e0 : Rc.outX (Rc.stParams l) 0 = p0 := Option.some.inj (hq 0)
  have e1 : Rc.outX (Rc.stParams l) 1 = p1 := Option.some.inj (hq 1)
  have e2 : Rc.outX (Rc.stParams l) 2 = p2 := Option.some.inj (hq 2)
  have e3 : Rc.outX (Rc.stParams l) 3 = p3 := Option.some.inj (hq 3)
  have e4 : Rc.outX (Rc.stParams l) 4 = p4 := Option.some.inj (hq 4)
  have e5 : Rc.outX (Rc.stParams l) 5 = p5 := Option.some.inj (hq 5)
  have e6 : Rc.outX (Rc.stParams l) 6 = p6 := Option.some.inj (hq 6)
  have e7 : Rc.outX (Rc.stParams l) 7 = p7 := Option.some.inj (hq 7)
  have e8 : Rc.outX (Rc.stParams l) 8 = p8 := Option.some.inj (hq 8)
  have e9 : Rc.outX (Rc.stParams l) 9 = p9 := Option.some.inj (hq 9)
  refine (Rc.oParams h2 hl).mono ?_
  intro e w' h
  rw [e0, e1, e2, e3, e4, e5, e6, e7, e8, e9, hr] at h
  exact h
def vv (rt : Int) (tk : Int) (x0 : Int) (jl : Bool) (un : Int) (bo : Bool) (pe : Int) (x1 : Int) (x2 : Int) (x3 : Int) : List Int := Rc.thr (Rc.pnx (fun o => ([rt, tk, x0, (bi jl), un, (bi bo), pe, x1, x2, x3] : List Int).getD o 0)) [(0, 0), (0, 1), (2, 2), (1, 3), (0, 4), (1, 5), (0, 6), (2, 7), (2, 8), (2, 9)] []
theorem vv_len {rt tk un pe x0 x1 x2 x3 : Int} {jl bo : Bool} : (vv rt tk x0 jl un bo pe x1 x2 x3).length ≤ 4096 := by have := Rc.pnx_len (fun o => ([rt, tk, x0, (bi jl), un, (bi bo), pe, x1, x2, x3] : List Int).getD o 0) [(0, 0), (0, 1), (2, 2), (1, 3), (0, 4), (1, 5), (0, 6), (2, 7), (2, 8), (2, 9)] []; simp only [List.length_cons, List.length_nil] at this; unfold vv; omega
theorem putVal {w : World} {rt tk un pe x0 x1 x2 x3 : Int} {jl bo : Bool} {b0 : Option Addr} {k0 d0 : Nat} {b1 : Option Addr} {k1 d1 : Nat} {b2 : Option Addr} {k2 d2 : Nat} {b3 : Option Addr} {k3 d3 : Nat} (h0 : NatA w b0 k0 d0 x0) (m0 : k0 ≤ 1000000) (h1 : NatA w b1 k1 d1 x1) (m1 : k1 ≤ 1000000) (h2 : NatA w b2 k2 d2 x2) (m2 : k2 ≤ 1000000) (h3 : NatA w b3 k3 d3 x3) (m3 : k3 ≤ 1000000) : Calls Tryz.prog 199 #[.agg #[.int .u64 rt, .int .u64 tk, .slice b0 k0 d0, .bool jl, .int .u64 un, .bool bo, .int .u64 pe, .slice b1 k1 d1, .slice b2 k2 d2, .slice b3 k3 d3]] w fun e w' => ∃ v, e = .returned v ∧ ByU w' v (vv rt tk x0 jl un bo pe x1 x2 x3) ∧ Below w.heap.size w w' := by
  refine (Rc.PutVal_any h0 m0 h1 m1 h2 m2 h3 m3).mono ?_
  rintro e w' ⟨b, n, rfl, hn, X, hb, B⟩
  exact ⟨_, rfl, byu_box X (Rc.thr_oct _ _ _ (fun _ h => by simp at h)) hn (Nat.le_trans vv_len (by decide)), B⟩
def dv (x0 : Int) (dp : Int) (x1 : Int) : List Int := Rc.thr (Rc.pnx (fun o => ([x0, dp, x1] : List Int).getD o 0)) [(2, 0), (0, 1), (2, 2)] []
theorem dv_len {dp x0 x1 : Int}  : (dv x0 dp x1).length ≤ 4096 := by have := Rc.pnx_len (fun o => ([x0, dp, x1] : List Int).getD o 0) [(2, 0), (0, 1), (2, 2)] []; simp only [List.length_cons, List.length_nil] at this; unfold dv; omega
theorem putDelegation {w : World} {dp x0 x1 : Int}  {b0 : Option Addr} {k0 d0 : Nat} {b1 : Option Addr} {k1 d1 : Nat} (h0 : NatA w b0 k0 d0 x0) (m0 : k0 ≤ 1000000) (h1 : NatA w b1 k1 d1 x1) (m1 : k1 ≤ 1000000) : Calls Tryz.prog 291 #[.agg #[.slice b0 k0 d0, .int .u64 dp, .slice b1 k1 d1]] w fun e w' => ∃ v, e = .returned v ∧ ByU w' v (dv x0 dp x1) ∧ Below w.heap.size w w' := by
  refine (Rc.PutDelegation_any h0 m0 h1 m1).mono ?_
  rintro e w' ⟨b, n, rfl, hn, X, hb, B⟩
  exact ⟨_, rfl, byu_box X (Rc.thr_oct _ _ _ (fun _ h => by simp at h)) hn (Nat.le_trans dv_len (by decide)), B⟩
def pov (x0 : Int) : List Int := Rc.thr (Rc.pnx (fun o => ([x0] : List Int).getD o 0)) [(2, 0)] []
theorem pov_len {x0 : Int}  : (pov x0).length ≤ 4096 := by have := Rc.pnx_len (fun o => ([x0] : List Int).getD o 0) [(2, 0)] []; simp only [List.length_cons, List.length_nil] at this; unfold pov; omega
theorem putPool {w : World} {x0 : Int}  {b0 : Option Addr} {k0 d0 : Nat} (h0 : NatA w b0 k0 d0 x0) (m0 : k0 ≤ 1000000) : Calls Tryz.prog 337 #[.agg #[.slice b0 k0 d0]] w fun e w' => ∃ v, e = .returned v ∧ ByU w' v (pov x0) ∧ Below w.heap.size w w' := by
  refine (Rc.PutPool_any h0 m0).mono ?_
  rintro e w' ⟨b, n, rfl, hn, X, hb, B⟩
  exact ⟨_, rfl, byu_box X (Rc.thr_oct _ _ _ (fun _ h => by simp at h)) hn (Nat.le_trans pov_len (by decide)), B⟩
def pav (p0 : Int) (p1 : Int) (p2 : Int) (p3 : Int) (p4 : Int) (p5 : Int) (p6 : Int) (p7 : Int) (p8 : Int) (p9 : Int) : List Int := Rc.thr (Rc.pnx (fun o => ([p0, p1, p2, p3, p4, p5, p6, p7, p8, p9] : List Int).getD o 0)) [(0, 0), (0, 1), (0, 2), (0, 3), (0, 4), (0, 5), (0, 6), (0, 7), (0, 8), (0, 9)] []
theorem pav_len {p0 p1 p2 p3 p4 p5 p6 p7 p8 p9 : Int}  : (pav p0 p1 p2 p3 p4 p5 p6 p7 p8 p9).length ≤ 4096 := by have := Rc.pnx_len (fun o => ([p0, p1, p2, p3, p4, p5, p6, p7, p8, p9] : List Int).getD o 0) [(0, 0), (0, 1), (0, 2), (0, 3), (0, 4), (0, 5), (0, 6), (0, 7), (0, 8), (0, 9)] []; simp only [List.length_cons, List.length_nil] at this; unfold pav; omega
theorem putParams {w : World} {p0 p1 p2 p3 p4 p5 p6 p7 p8 p9 : Int}    : Calls Tryz.prog 88 #[.agg #[.int .u64 p0, .int .u64 p1, .int .u64 p2, .int .u64 p3, .int .u64 p4, .int .u64 p5, .int .u64 p6, .int .u64 p7, .int .u64 p8, .int .u64 p9]] w fun e w' => ∃ v, e = .returned v ∧ ByU w' v (pav p0 p1 p2 p3 p4 p5 p6 p7 p8 p9) ∧ Below w.heap.size w w' := by
  refine (Rc.PutParams_any ).mono ?_
  rintro e w' ⟨b, n, rfl, hn, X, hb, B⟩
  exact ⟨_, rfl, byu_box X (Rc.thr_oct _ _ _ (fun _ h => by simp at h)) hn (Nat.le_trans pav_len (by decide)), B⟩
theorem dBytes {w : World} {k a b : Int} (ha : 0 ≤ a ∧ a < 18446744073709551616) (hE : Ky.mkE k a b = false) : Calls Tryz.prog 75 #[.agg #[.int .i64 k, .int .u64 a, .int .u64 b]] w fun e w' => ∃ v, e = .returned v ∧ ByU w' v (Ky.mk k a b) ∧ Below w.heap.size w w' := by
  have BB := Below.refl w.heap.size w
  refine gc_enter (n := 11) Tryz.func75 rfl (by kernel_rfl) (by kernel_rfl) ?_
  refine gc_seq ?_
  refine gc_reg ?_
  refine ta 1 [.int .i64 k, .int .u64 a, .int .u64 b] 103 (pg) ?_
  intro v1 g2 Xg2 hg2 B
  replace BB := joinB BB B
  clear B
  refine t 2 (.slice none 0 0) ?_
  refine gl_nil ?_
  refine ge_then ?_
  refine gc_seq ?_
  refine gc_reg ?_
  refine tlr 6 [.int .i64 k, .int .u64 a, .int .u64 b] Xg2 0 ?_
  have lXg2 := Xg2.lt
  refine tc 7 72 #[.agg #[.int .i64 k, .int .u64 a, .int .u64 b]] (mk_key ha hE) ?_
  rintro _ v3 ⟨v, rfl, U1, B⟩
  refine ⟨_, rfl, ?_⟩
  replace BB := joinB BB B
  replace Xg2 := Xg2.keep B
  clear B
  refine t 5 (.tuple #[v, .int .i64 0]) ?_
  refine t 8 (v) ?_
  refine t 9 (.int .i64 0) ?_
  refine t 3 (v) ?_
  refine t 4 (.int .i64 0) ?_
  refine gl_nil ?_
  refine ge_then ?_
  refine gc_seq ?_
  refine gc_reg ?_
  refine t 10 (v) ?_
  refine t 2 (v) ?_
  refine gl_nil ?_
  refine ge_then ?_
  refine gc_fr [(2, v)] (by kernel_rfl) ?_
  refine gc_ret ?_
  refine ge_ret (v) (rs1 2 (by kernel_rfl) (by kernel_rfl)) ?_
  exact ⟨_, rfl, U1, BB⟩
theorem dLay {B : Nat} {w : World} {K : Nat → Prop} {g : Nat} {E : Ents} {W : List Ents} {n N : Nat} {k a b : Int} {v : Value} {l : List Int} (h : Sx B w K g E W n N) (ha : 0 ≤ a ∧ a < 18446744073709551616) (hE : Ky.mkE k a b = false) (Uv : ByU w v l) (hlen : l.length ≤ 4096) (hn : n + 10 ≤ 4000000000000000000) (hN : N + 10 ≤ 100000000) : Calls Tryz.prog 198 #[pg g, .agg #[.int .i64 k, .int .u64 a, .int .u64 b], v] w (SxE B w K g (put E (Ky.mk k a b) l) W (n + 1) (N + 2) (.tuple #[])) := by
  have A := h.at
  refine gc_enter (n := 11) Tryz.func198 rfl (by kernel_rfl) (by kernel_rfl) ?_
  refine gc_seq ?_
  refine gc_reg ?_
  refine ta 4 [.int .i64 k, .int .u64 a, .int .u64 b] 103 (pg) ?_
  intro v1 g2 Xg2 hg2 B
  have zg2 := Nat.le_trans A.size hg2
  have nXg2 := A.new hg2
  replace A := A.keep B
  replace Uv := byu_keep Uv B
  clear B
  refine gl_nil ?_
  refine ge_then ?_
  refine gc_reg ?_
  refine t 6 (pg g) ?_
  refine tlr 7 [.int .i64 k, .int .u64 a, .int .u64 b] Xg2 0 ?_
  refine tc 8 75 #[.agg #[.int .i64 k, .int .u64 a, .int .u64 b]] (dBytes ha hE) ?_
  rintro _ v5 ⟨kv4, rfl, U3, B⟩
  refine ⟨_, rfl, ?_⟩
  replace A := A.keep B
  replace Uv := byu_keep Uv B
  replace Xg2 := Xg2.keep B
  clear B
  refine t 9 (v) ?_
  refine tc 10 86 #[pg g, kv4, v] (qset A.sx U3 hE Uv hlen (by omega) (by omega)) ?_
  rintro _ v7 ⟨rfl, K6, S, hK, hC⟩
  refine ⟨_, rfl, ?_⟩
  replace Uv := A.byu Uv hC
  have mXg2 := not_op Xg2 nXg2 hK
  replace Xg2 := Xg2.chg hC nXg2
  replace nXg2 := mXg2
  clear mXg2
  replace U3 := A.byu U3 hC
  replace A := A.op S hK hC
  clear S hK hC
  clear U3
  clear Uv
  refine gl_nil ?_
  refine ge_end (.tuple #[]) (rs0 (by kernel_rfl)) ?_
  exact ⟨rfl, _, A.sx, A.km, A.cc⟩
structure VaE (B : Nat) (w : World) (K : Nat → Prop) (g : Nat) (E : Ents) (W : List Ents) (n N : Nat) (rt : Int) (tk : Int) (x0 : Int) (jl : Bool) (un : Int) (bo : Bool) (pe : Int) (x1 : Int) (x2 : Int) (x3 : Int) (th : Bool) (e : Ending) (w' : World) : Prop where
  ex : ∃ b0 k0 d0 y0 b1 k1 d1 y1 b2 k2 d2 y2 b3 k3 d3 y3 K' n' N', e = .returned (.tuple #[.agg #[.int .u64 rt, .int .u64 tk, .slice b0 k0 d0, .bool jl, .int .u64 un, .bool bo, .int .u64 pe, .slice b1 k1 d1, .slice b2 k2 d2, .slice b3 k3 d3], .bool th]) ∧ Sx B w' K' g E W n' N' ∧ n' ≤ n + 1 ∧ N' ≤ N ∧ (∀ b, K' b → K b ∨ w.heap.size ≤ b) ∧ Chg K w w' ∧ Nq w' K' y0 b0 k0 d0 x0 ∧ k0 ≤ 510 ∧ (k0 = 0 ∨ w.heap.size ≤ y0) ∧ Nq w' K' y1 b1 k1 d1 x1 ∧ k1 ≤ 510 ∧ (k1 = 0 ∨ w.heap.size ≤ y1) ∧ Nq w' K' y2 b2 k2 d2 x2 ∧ k2 ≤ 510 ∧ (k2 = 0 ∨ w.heap.size ≤ y2) ∧ Nq w' K' y3 b3 k3 d3 x3 ∧ k3 ≤ 510 ∧ (k3 = 0 ∨ w.heap.size ≤ y3)
theorem fdVal {B : Nat} {w : World} {K : Nat → Prop} {g : Nat} {E : Ents} {W : List Ents} {n N : Nat} {k a b er : Int} {th : Bool} {rt tk un pe x0 x1 x2 x3 : Int} {jl bo : Bool} (h : Sx B w K g E W n N) (ha : 0 ≤ a ∧ a < 18446744073709551616) (hE : Ky.mkE k a b = false) (hv : qVal (got E (Ky.mk k a b)) = ([rt, tk, x0, (bi jl), un, (bi bo), pe, x1, x2, x3], er)) (hth : (er == 0) = th) (hn : n + 10 ≤ 4000000000000000000) (hN : N + 10 ≤ 100000000) : Calls Tryz.prog 42 #[pg g, .agg #[.int .i64 k, .int .u64 a, .int .u64 b], .func (.func 43) #[] #[]] w (VaE B w K g E W n N rt tk x0 jl un bo pe x1 x2 x3 th) := by
  have A := h.at
  refine gc_enter (n := 28) Tryz.func42 rfl (by kernel_rfl) (by kernel_rfl) ?_
  refine gc_seq ?_
  refine gc_reg ?_
  refine ta 4 [.int .i64 k, .int .u64 a, .int .u64 b] 103 (pg) ?_
  intro v1 g2 Xg2 hg2 B
  have zg2 := Nat.le_trans A.size hg2
  have nXg2 := A.new hg2
  replace A := A.keep B
  clear B
  have lXg2 := Xg2.lt
  refine ta 6 [.int .u64 0, .int .u64 0, .slice none 0 0, .bool false, .int .u64 0, .bool false, .int .u64 0, .slice none 0 0, .slice none 0 0, .slice none 0 0] 57 (pg) ?_
  intro v3 g4 Xg4 hg4 B
  have zg4 := Nat.le_trans A.size hg4
  have nXg4 := A.new hg4
  replace A := A.keep B
  replace Xg2 := Xg2.keep B
  clear B
  refine t 7 (.bool false) ?_
  refine gl_nil ?_
  refine ge_then ?_
  refine gc_seq ?_
  refine gc_reg ?_
  refine t 13 (pg g) ?_
  refine tlr 14 [.int .i64 k, .int .u64 a, .int .u64 b] Xg2 0 ?_
  refine tc 15 75 #[.agg #[.int .i64 k, .int .u64 a, .int .u64 b]] (dBytes ha hE) ?_
  rintro _ v7 ⟨kv6, rfl, U5, B⟩
  refine ⟨_, rfl, ?_⟩
  replace A := A.keep B
  replace Xg2 := Xg2.keep B
  replace Xg4 := Xg4.keep B
  clear B
  refine tc 16 39 #[pg g, kv6] (xget A.sx U5 (by omega) (by omega)) ?_
  rintro _ v10 ⟨gv8, rfl, U9, S, hC⟩
  refine ⟨_, rfl, ?_⟩
  have mXg2 := not_op Xg2 nXg2 (fun _ h => .inl h)
  replace Xg2 := Xg2.chg hC nXg2
  replace nXg2 := mXg2
  clear mXg2
  have mXg4 := not_op Xg4 nXg4 (fun _ h => .inl h)
  replace Xg4 := Xg4.chg hC nXg4
  replace nXg4 := mXg4
  clear mXg4
  replace U5 := A.byu U5 hC
  replace A := A.op S (fun _ h => .inl h) hC
  clear S hC
  refine t 12 (.tuple #[gv8, .bool (Kv.look E (Ky.mk k a b)).isSome]) ?_
  refine t 17 (gv8) ?_
  refine t 18 (.bool (Kv.look E (Ky.mk k a b)).isSome) ?_
  refine t 8 (gv8) ?_
  refine t 9 (.bool (Kv.look E (Ky.mk k a b)).isSome) ?_
  refine gl_nil ?_
  refine ge_then ?_
  refine gc_fr [(2, .func (.func 43) #[] #[]), (6, pg g4), (7, .bool false), (8, gv8)] (by kernel_rfl) ?_
  refine gc_seq ?_
  refine gc_reg ?_
  refine t 20 (.func (.func 43) #[] #[]) ?_
  refine t 21 (gv8) ?_
  refine tc 22 43 #[gv8] (rdVal U9 (getlen A.sx _) hv) ?_
  rintro _ v15 ⟨ar11, nr11, cr11, ar12, nr12, cr12, ar13, nr13, cr13, ar14, nr14, cr14, rfl, NW0, NW1, NW2, NW3, B⟩
  refine ⟨_, rfl, ?_⟩
  obtain ⟨zr11, hr11, Qr11⟩ := natW_nq NW0.1 (fun b hb => A.lt hb)
  have mr11 := NW0.2
  clear NW0
  have eQr11g2 := ne2 hr11 Xg2.lt
  have eQr11g4 := ne2 hr11 Xg4.lt
  have fQr11 := ne3 hr11 A.size
  clear hr11
  obtain ⟨zr12, hr12, Qr12⟩ := natW_nq NW1.1 (fun b hb => A.lt hb)
  have mr12 := NW1.2
  clear NW1
  have eQr12g2 := ne2 hr12 Xg2.lt
  have eQr12g4 := ne2 hr12 Xg4.lt
  have fQr12 := ne3 hr12 A.size
  clear hr12
  obtain ⟨zr13, hr13, Qr13⟩ := natW_nq NW2.1 (fun b hb => A.lt hb)
  have mr13 := NW2.2
  clear NW2
  have eQr13g2 := ne2 hr13 Xg2.lt
  have eQr13g4 := ne2 hr13 Xg4.lt
  have fQr13 := ne3 hr13 A.size
  clear hr13
  obtain ⟨zr14, hr14, Qr14⟩ := natW_nq NW3.1 (fun b hb => A.lt hb)
  have mr14 := NW3.2
  clear NW3
  have eQr14g2 := ne2 hr14 Xg2.lt
  have eQr14g4 := ne2 hr14 Xg4.lt
  have fQr14 := ne3 hr14 A.size
  clear hr14
  replace A := A.keep B
  replace Xg2 := Xg2.keep B
  replace Xg4 := Xg4.keep B
  replace U5 := byu_keep U5 B
  replace U9 := byu_keep U9 B
  clear B
  clear U9
  refine t 19 (.tuple #[.agg #[.int .u64 rt, .int .u64 tk, .slice ar11 nr11 cr11, .bool jl, .int .u64 un, .bool bo, .int .u64 pe, .slice ar12 nr12 cr12, .slice ar13 nr13 cr13, .slice ar14 nr14 cr14], .int .i64 er]) ?_
  refine t 23 (.agg #[.int .u64 rt, .int .u64 tk, .slice ar11 nr11 cr11, .bool jl, .int .u64 un, .bool bo, .int .u64 pe, .slice ar12 nr12 cr12, .slice ar13 nr13 cr13, .slice ar14 nr14 cr14]) ?_
  refine t 24 (.int .i64 er) ?_
  have lXg2 := Xg2.lt
  have lXg4 := Xg4.lt
  refine ta 10 [.int .u64 0, .int .u64 0, .slice none 0 0, .bool false, .int .u64 0, .bool false, .int .u64 0, .slice none 0 0, .slice none 0 0, .slice none 0 0] 57 (pg) ?_
  intro v16 g17 Xg17 hg17 B
  have zg17 := Nat.le_trans A.size hg17
  have nXg17 := A.new hg17
  have eQr11g17 := ne1 Qr11.lt hg17
  have eQr12g17 := ne1 Qr12.lt hg17
  have eQr13g17 := ne1 Qr13.lt hg17
  have eQr14g17 := ne1 Qr14.lt hg17
  replace A := A.keep B
  replace Xg2 := Xg2.keep B
  replace Xg4 := Xg4.keep B
  replace U5 := byu_keep U5 B
  replace Qr11 := Qr11.keep B
  replace Qr12 := Qr12.keep B
  replace Qr13 := Qr13.keep B
  replace Qr14 := Qr14.keep B
  clear B
  refine ts Xg17 0 (.agg #[.int .u64 rt, .int .u64 tk, .slice ar11 nr11 cr11, .bool jl, .int .u64 un, .bool bo, .int .u64 pe, .slice ar12 nr12 cr12, .slice ar13 nr13 cr13, .slice ar14 nr14 cr14]) [.int .u64 rt, .int .u64 tk, .slice ar11 nr11 cr11, .bool jl, .int .u64 un, .bool bo, .int .u64 pe, .slice ar12 nr12 cr12, .slice ar13 nr13 cr13, .slice ar14 nr14 cr14] [.int .u64 rt, .int .u64 tk, .slice ar11 nr11 cr11, .bool jl, .int .u64 un, .bool bo, .int .u64 pe, .slice ar12 nr12 cr12, .slice ar13 nr13 cr13, .slice ar14 nr14 cr14] ?_
  intro v18 Y C
  replace A := Bk.At.cell A Xg17 C zg17 nXg17 (by decide)
  replace Xg2 := Xg2.chg C (show g2 ≠ g17 by omega)
  replace Xg4 := Xg4.chg C (show g4 ≠ g17 by omega)
  replace U5 := byu_cell U5 Xg17 C (by decide)
  replace Qr11 := Qr11.cell C eQr11g17
  replace Qr12 := Qr12.cell C eQr12g17
  replace Qr13 := Qr13.cell C eQr13g17
  replace Qr14 := Qr14.cell C eQr14g17
  clear C Xg17
  have Xg17 := Y
  clear Y
  refine t 11 (.int .i64 er) ?_
  refine gl_nil ?_
  refine ge_then ?_
  refine gc_seq ?_
  refine gc_reg ?_
  refine tlr 25 [.int .u64 rt, .int .u64 tk, .slice ar11 nr11 cr11, .bool jl, .int .u64 un, .bool bo, .int .u64 pe, .slice ar12 nr12 cr12, .slice ar13 nr13 cr13, .slice ar14 nr14 cr14] Xg17 0 ?_
  refine t 26 (.int .i64 er) ?_
  refine tq 27 (.bool ((er : Int) == 0)) (.bool th) (congrArg Value.bool hth) ?_
  refine ts Xg4 0 (.agg #[.int .u64 rt, .int .u64 tk, .slice ar11 nr11 cr11, .bool jl, .int .u64 un, .bool bo, .int .u64 pe, .slice ar12 nr12 cr12, .slice ar13 nr13 cr13, .slice ar14 nr14 cr14]) [.int .u64 rt, .int .u64 tk, .slice ar11 nr11 cr11, .bool jl, .int .u64 un, .bool bo, .int .u64 pe, .slice ar12 nr12 cr12, .slice ar13 nr13 cr13, .slice ar14 nr14 cr14] [.int .u64 rt, .int .u64 tk, .slice ar11 nr11 cr11, .bool jl, .int .u64 un, .bool bo, .int .u64 pe, .slice ar12 nr12 cr12, .slice ar13 nr13 cr13, .slice ar14 nr14 cr14] ?_
  intro v19 Y C
  replace A := Bk.At.cell A Xg4 C zg4 nXg4 (by decide)
  replace Xg2 := Xg2.chg C (show g2 ≠ g4 by omega)
  replace U5 := byu_cell U5 Xg4 C (by decide)
  replace Qr11 := Qr11.cell C eQr11g4
  replace Qr12 := Qr12.cell C eQr12g4
  replace Qr13 := Qr13.cell C eQr13g4
  replace Qr14 := Qr14.cell C eQr14g4
  replace Xg17 := Xg17.chg C (show g17 ≠ g4 by omega)
  clear C Xg4
  have Xg4 := Y
  clear Y
  refine t 7 (.bool th) ?_
  refine gl_nil ?_
  refine ge_then ?_
  refine gc_fr [(6, pg g4), (7, .bool th)] (by kernel_rfl) ?_
  refine gc_ret ?_
  refine ge_ret (.tuple #[.agg #[.int .u64 rt, .int .u64 tk, .slice ar11 nr11 cr11, .bool jl, .int .u64 un, .bool bo, .int .u64 pe, .slice ar12 nr12 cr12, .slice ar13 nr13 cr13, .slice ar14 nr14 cr14], .bool th]) (rsct 6 7 (T := 57) (by kernel_rfl) (by kernel_rfl) (by kernel_rfl) (lr Xg4 0)) ?_
  exact ⟨_, _, _, _, _, _, _, _, _, _, _, _, _, _, _, _, _, _, _, rfl, A.sx, by omega, by omega, A.km, A.cc, Qr11, mr11, fQr11, Qr12, mr12, fQr12, Qr13, mr13, fQr13, Qr14, mr14, fQr14⟩
structure FpE (B : Nat) (w : World) (K : Nat → Prop) (g : Nat) (E : Ents) (W : List Ents) (n N : Nat) (x0 : Int) (th : Bool) (e : Ending) (w' : World) : Prop where
  ex : ∃ b0 k0 d0 y0 K' n' N', e = .returned (.tuple #[.agg #[.slice b0 k0 d0], .bool th]) ∧ Sx B w' K' g E W n' N' ∧ n' ≤ n + 1 ∧ N' ≤ N ∧ (∀ b, K' b → K b ∨ w.heap.size ≤ b) ∧ Chg K w w' ∧ Nq w' K' y0 b0 k0 d0 x0 ∧ k0 ≤ 510 ∧ (k0 = 0 ∨ w.heap.size ≤ y0)
theorem fdPool {B : Nat} {w : World} {K : Nat → Prop} {g : Nat} {E : Ents} {W : List Ents} {n N : Nat} {k a b er : Int} {th : Bool} {x0 : Int}  (h : Sx B w K g E W n N) (ha : 0 ≤ a ∧ a < 18446744073709551616) (hE : Ky.mkE k a b = false) (hv : qPool (got E (Ky.mk k a b)) = ([x0], er)) (hth : (er == 0) = th) (hn : n + 10 ≤ 4000000000000000000) (hN : N + 10 ≤ 100000000) : Calls Tryz.prog 338 #[pg g, .agg #[.int .i64 k, .int .u64 a, .int .u64 b], .func (.func 339) #[] #[]] w (FpE B w K g E W n N x0 th) := by
  have A := h.at
  refine gc_enter (n := 28) Tryz.func338 rfl (by kernel_rfl) (by kernel_rfl) ?_
  refine gc_seq ?_
  refine gc_reg ?_
  refine ta 4 [.int .i64 k, .int .u64 a, .int .u64 b] 103 (pg) ?_
  intro v1 g2 Xg2 hg2 B
  have zg2 := Nat.le_trans A.size hg2
  have nXg2 := A.new hg2
  replace A := A.keep B
  clear B
  have lXg2 := Xg2.lt
  refine ta 6 [.slice none 0 0] 55 (pg) ?_
  intro v3 g4 Xg4 hg4 B
  have zg4 := Nat.le_trans A.size hg4
  have nXg4 := A.new hg4
  replace A := A.keep B
  replace Xg2 := Xg2.keep B
  clear B
  refine t 7 (.bool false) ?_
  refine gl_nil ?_
  refine ge_then ?_
  refine gc_seq ?_
  refine gc_reg ?_
  refine t 13 (pg g) ?_
  refine tlr 14 [.int .i64 k, .int .u64 a, .int .u64 b] Xg2 0 ?_
  refine tc 15 75 #[.agg #[.int .i64 k, .int .u64 a, .int .u64 b]] (dBytes ha hE) ?_
  rintro _ v7 ⟨kv6, rfl, U5, B⟩
  refine ⟨_, rfl, ?_⟩
  replace A := A.keep B
  replace Xg2 := Xg2.keep B
  replace Xg4 := Xg4.keep B
  clear B
  refine tc 16 39 #[pg g, kv6] (xget A.sx U5 (by omega) (by omega)) ?_
  rintro _ v10 ⟨gv8, rfl, U9, S, hC⟩
  refine ⟨_, rfl, ?_⟩
  have mXg2 := not_op Xg2 nXg2 (fun _ h => .inl h)
  replace Xg2 := Xg2.chg hC nXg2
  replace nXg2 := mXg2
  clear mXg2
  have mXg4 := not_op Xg4 nXg4 (fun _ h => .inl h)
  replace Xg4 := Xg4.chg hC nXg4
  replace nXg4 := mXg4
  clear mXg4
  replace U5 := A.byu U5 hC
  replace A := A.op S (fun _ h => .inl h) hC
  clear S hC
  refine t 12 (.tuple #[gv8, .bool (Kv.look E (Ky.mk k a b)).isSome]) ?_
  refine t 17 (gv8) ?_
  refine t 18 (.bool (Kv.look E (Ky.mk k a b)).isSome) ?_
  refine t 8 (gv8) ?_
  refine t 9 (.bool (Kv.look E (Ky.mk k a b)).isSome) ?_
  refine gl_nil ?_
  refine ge_then ?_
  refine gc_fr [(2, .func (.func 339) #[] #[]), (6, pg g4), (7, .bool false), (8, gv8)] (by kernel_rfl) ?_
  refine gc_seq ?_
  refine gc_reg ?_
  refine t 20 (.func (.func 339) #[] #[]) ?_
  refine t 21 (gv8) ?_
  refine tc 22 339 #[gv8] (rdPool U9 (getlen A.sx _) hv) ?_
  rintro _ v12 ⟨ar11, nr11, cr11, rfl, NW0, B⟩
  refine ⟨_, rfl, ?_⟩
  obtain ⟨zr11, hr11, Qr11⟩ := natW_nq NW0.1 (fun b hb => A.lt hb)
  have mr11 := NW0.2
  clear NW0
  have eQr11g2 := ne2 hr11 Xg2.lt
  have eQr11g4 := ne2 hr11 Xg4.lt
  have fQr11 := ne3 hr11 A.size
  clear hr11
  replace A := A.keep B
  replace Xg2 := Xg2.keep B
  replace Xg4 := Xg4.keep B
  replace U5 := byu_keep U5 B
  replace U9 := byu_keep U9 B
  clear B
  clear U9
  refine t 19 (.tuple #[.agg #[.slice ar11 nr11 cr11], .int .i64 er]) ?_
  refine t 23 (.agg #[.slice ar11 nr11 cr11]) ?_
  refine t 24 (.int .i64 er) ?_
  have lXg2 := Xg2.lt
  have lXg4 := Xg4.lt
  refine ta 10 [.slice none 0 0] 55 (pg) ?_
  intro v13 g14 Xg14 hg14 B
  have zg14 := Nat.le_trans A.size hg14
  have nXg14 := A.new hg14
  have eQr11g14 := ne1 Qr11.lt hg14
  replace A := A.keep B
  replace Xg2 := Xg2.keep B
  replace Xg4 := Xg4.keep B
  replace U5 := byu_keep U5 B
  replace Qr11 := Qr11.keep B
  clear B
  refine ts Xg14 0 (.agg #[.slice ar11 nr11 cr11]) [.slice ar11 nr11 cr11] [.slice ar11 nr11 cr11] ?_
  intro v15 Y C
  replace A := Bk.At.cell A Xg14 C zg14 nXg14 (by decide)
  replace Xg2 := Xg2.chg C (show g2 ≠ g14 by omega)
  replace Xg4 := Xg4.chg C (show g4 ≠ g14 by omega)
  replace U5 := byu_cell U5 Xg14 C (by decide)
  replace Qr11 := Qr11.cell C eQr11g14
  clear C Xg14
  have Xg14 := Y
  clear Y
  refine t 11 (.int .i64 er) ?_
  refine gl_nil ?_
  refine ge_then ?_
  refine gc_seq ?_
  refine gc_reg ?_
  refine tlr 25 [.slice ar11 nr11 cr11] Xg14 0 ?_
  refine t 26 (.int .i64 er) ?_
  refine tq 27 (.bool ((er : Int) == 0)) (.bool th) (congrArg Value.bool hth) ?_
  refine ts Xg4 0 (.agg #[.slice ar11 nr11 cr11]) [.slice ar11 nr11 cr11] [.slice ar11 nr11 cr11] ?_
  intro v16 Y C
  replace A := Bk.At.cell A Xg4 C zg4 nXg4 (by decide)
  replace Xg2 := Xg2.chg C (show g2 ≠ g4 by omega)
  replace U5 := byu_cell U5 Xg4 C (by decide)
  replace Qr11 := Qr11.cell C eQr11g4
  replace Xg14 := Xg14.chg C (show g14 ≠ g4 by omega)
  clear C Xg4
  have Xg4 := Y
  clear Y
  refine t 7 (.bool th) ?_
  refine gl_nil ?_
  refine ge_then ?_
  refine gc_fr [(6, pg g4), (7, .bool th)] (by kernel_rfl) ?_
  refine gc_ret ?_
  refine ge_ret (.tuple #[.agg #[.slice ar11 nr11 cr11], .bool th]) (rsct 6 7 (T := 55) (by kernel_rfl) (by kernel_rfl) (by kernel_rfl) (lr Xg4 0)) ?_
  exact ⟨_, _, _, _, _, _, _, rfl, A.sx, by omega, by omega, A.km, A.cc, Qr11, mr11, fQr11⟩
theorem mkE3 : Ky.mkE 3 0 0 = false := by kernel_rfl
theorem mkE5 (a : Int) : Ky.mkE 5 a 0 = false := by
  unfold Ky.mkE
  rw [show (Ky.frm 5).1 = 10 from rfl]
  simp
theorem mkE6 (a b : Int) : Ky.mkE 6 a b = false := by
  unfold Ky.mkE
  rw [show (Ky.frm 6).1 = 18 from rfl]
  simp
theorem gVal {B : Nat} {w : World} {K : Nat → Prop} {g : Nat} {E : Ents} {W : List Ents} {n N : Nat} {id er : Int} {th : Bool} {rt tk un pe x0 x1 x2 x3 : Int} {jl bo : Bool} (h : Sx B w K g E W n N) (hid : 0 ≤ id ∧ id < 18446744073709551616) (hv : qVal (got E (Ky.mk 5 id 0)) = ([rt, tk, x0, (bi jl), un, (bi bo), pe, x1, x2, x3], er)) (hth : (er == 0) = th) (hn : n + 40 ≤ 4000000000000000000) (hN : N + 40 ≤ 100000000) : Calls Tryz.prog 16 #[pg g, .int .u64 id] w (VaE B w K g E W n N rt tk x0 jl un bo pe x1 x2 x3 th) := by
  have U := ut_of h
  refine gc_enter (n := 12) Tryz.func16 rfl (by kernel_rfl) (by kernel_rfl) ?_
  refine gc_seq ?_
  refine gc_reg ?_
  refine ta 4 [.int .u64 0, .int .u64 0, .slice none 0 0, .bool false, .int .u64 0, .bool false, .int .u64 0, .slice none 0 0, .slice none 0 0, .slice none 0 0] 57 (pg) ?_
  intro v1 g2 Xg2 hg2 B
  replace U := U.new Xg2 hg2 B
  clear Xg2 hg2 B
  refine t 5 (.bool false) ?_
  refine gl_nil ?_
  refine ge_then ?_
  refine gc_seq ?_
  refine gc_reg ?_
  refine t 6 (pg g) ?_
  refine t 7 (.int .u64 id) ?_
  refine t 8 (.agg #[.int .i64 5, .int .u64 id, .int .u64 0]) ?_
  refine tc 9 42 #[pg g, .agg #[.int .i64 5, .int .u64 id, .int .u64 0], .func (.func 43) #[] #[]] (fdVal U.ta.sx hid (mkE5 _) hv hth (by omega) (by omega)) ?_
  rintro _ v10 ⟨aq3, nq3, cq3, zq3, aq4, nq4, cq4, zq4, aq5, nq5, cq5, zq5, aq6, nq6, cq6, zq6, K7, n8, N9, rfl, S, qn8, qN9, hK, hC, Q0, mq3, h0, Q1, mq4, h1, Q2, mq5, h2, Q3, mq6, h3⟩
  refine ⟨_, rfl, ?_⟩
  have fq3 := ne3 h0 U.ta.size
  have fq4 := ne3 h1 U.ta.size
  have fq5 := ne3 h2 U.ta.size
  have fq6 := ne3 h3 U.ta.size
  have L := U.lt
  replace U := ((((U.op S hK hC).add L Q0 h0).add L Q1 h1).add L Q2 h2).add L Q3 h3
  clear L S hK hC Q0 h0 Q1 h1 Q2 h2 Q3 h3
  refine t 10 (.agg #[.int .u64 rt, .int .u64 tk, .slice aq3 nq3 cq3, .bool jl, .int .u64 un, .bool bo, .int .u64 pe, .slice aq4 nq4 cq4, .slice aq5 nq5 cq5, .slice aq6 nq6 cq6]) ?_
  refine t 11 (.bool th) ?_
  refine ts (U.bk 0 rfl) 0 (.agg #[.int .u64 rt, .int .u64 tk, .slice aq3 nq3 cq3, .bool jl, .int .u64 un, .bool bo, .int .u64 pe, .slice aq4 nq4 cq4, .slice aq5 nq5 cq5, .slice aq6 nq6 cq6]) [.int .u64 rt, .int .u64 tk, .slice aq3 nq3 cq3, .bool jl, .int .u64 un, .bool bo, .int .u64 pe, .slice aq4 nq4 cq4, .slice aq5 nq5 cq5, .slice aq6 nq6 cq6] [.int .u64 rt, .int .u64 tk, .slice aq3 nq3 cq3, .bool jl, .int .u64 un, .bool bo, .int .u64 pe, .slice aq4 nq4 cq4, .slice aq5 nq5 cq5, .slice aq6 nq6 cq6] ?_
  intro v11 Y C
  replace U := U.put 0 rfl C Y (by decide)
  clear Y C
  refine t 5 (.bool th) ?_
  refine gl_nil ?_
  refine ge_then ?_
  refine gc_ret ?_
  refine ge_ret (.tuple #[.agg #[.int .u64 rt, .int .u64 tk, .slice aq3 nq3 cq3, .bool jl, .int .u64 un, .bool bo, .int .u64 pe, .slice aq4 nq4 cq4, .slice aq5 nq5 cq5, .slice aq6 nq6 cq6], .bool th]) (rsct 4 5 (T := 57) (by kernel_rfl) (by kernel_rfl) (by kernel_rfl) (lr (U.bk 0 rfl) 0)) ?_
  exact ⟨_, _, _, _, _, _, _, _, _, _, _, _, _, _, _, _, _, _, _, rfl, U.ta.sx, by omega, by omega, U.ta.km, U.ta.cc, (U.nq 3 rfl), by omega, fq3, (U.nq 2 rfl), by omega, fq4, (U.nq 1 rfl), by omega, fq5, (U.nq 0 rfl), by omega, fq6⟩
structure PlE (B : Nat) (w : World) (K : Nat → Prop) (g : Nat) (E : Ents) (W : List Ents) (n N : Nat) (x0 : Int) (e : Ending) (w' : World) : Prop where
  ex : ∃ b0 k0 d0 y0 K' n' N', e = .returned (.agg #[.slice b0 k0 d0]) ∧ Sx B w' K' g E W n' N' ∧ n' ≤ n + 1 ∧ N' ≤ N ∧ (∀ b, K' b → K b ∨ w.heap.size ≤ b) ∧ Chg K w w' ∧ Nq w' K' y0 b0 k0 d0 x0 ∧ k0 ≤ 510 ∧ (k0 = 0 ∨ w.heap.size ≤ y0)
theorem gPool {B : Nat} {w : World} {K : Nat → Prop} {g : Nat} {E : Ents} {W : List Ents} {n N : Nat} {x0 er : Int} (h : Sx B w K g E W n N) (hv : qPool (got E (Ky.mk 3 0 0)) = ([x0], er)) (hn : n + 40 ≤ 4000000000000000000) (hN : N + 40 ≤ 100000000) : Calls Tryz.prog 288 #[pg g] w (PlE B w K g E W n N x0) := by
  have U := ut_of h
  refine gc_enter (n := 12) Tryz.func288 rfl (by kernel_rfl) (by kernel_rfl) ?_
  obtain ⟨th, hth⟩ : ∃ th, (er == 0) = th := ⟨_, rfl⟩
  refine gc_seq ?_
  refine gc_reg ?_
  refine ta 2 [.slice none 0 0] 55 (pg) ?_
  intro v1 g2 Xg2 hg2 B
  replace U := U.new Xg2 hg2 B
  clear Xg2 hg2 B
  refine gl_nil ?_
  refine ge_then ?_
  refine gc_seq ?_
  refine gc_reg ?_
  refine t 6 (pg g) ?_
  refine t 7 (.agg #[.int .i64 3, .int .u64 0, .int .u64 0]) ?_
  refine tc 8 338 #[pg g, .agg #[.int .i64 3, .int .u64 0, .int .u64 0], .func (.func 339) #[] #[]] (fdPool U.ta.sx ⟨by decide, by decide⟩ mkE3 hv hth (by omega) (by omega)) ?_
  rintro _ v7 ⟨aq3, nq3, cq3, zq3, K4, n5, N6, rfl, S, qn5, qN6, hK, hC, Q0, mq3, h0⟩
  refine ⟨_, rfl, ?_⟩
  have fq3 := ne3 h0 U.ta.size
  have L := U.lt
  replace U := (U.op S hK hC).add L Q0 h0
  clear L S hK hC Q0 h0
  refine t 5 (.tuple #[.agg #[.slice aq3 nq3 cq3], .bool th]) ?_
  refine t 9 (.agg #[.slice aq3 nq3 cq3]) ?_
  refine t 10 (.bool th) ?_
  refine ta 3 [.slice none 0 0] 55 (pg) ?_
  intro v8 g9 Xg9 hg9 B
  replace U := U.new Xg9 hg9 B
  clear Xg9 hg9 B
  refine ts (U.bk 0 rfl) 0 (.agg #[.slice aq3 nq3 cq3]) [.slice aq3 nq3 cq3] [.slice aq3 nq3 cq3] ?_
  intro v10 Y C
  replace U := U.put 0 rfl C Y (by decide)
  clear Y C
  refine t 4 (.bool th) ?_
  refine gl_nil ?_
  refine ge_then ?_
  refine gc_seq ?_
  refine gc_reg ?_
  refine tlr 11 [.slice aq3 nq3 cq3] (U.bk 0 rfl) 0 ?_
  refine ts (U.bk 1 rfl) 0 (.agg #[.slice aq3 nq3 cq3]) [.slice aq3 nq3 cq3] [.slice aq3 nq3 cq3] ?_
  intro v11 Y C
  replace U := U.put 1 rfl C Y (by decide)
  clear Y C
  refine gl_nil ?_
  refine ge_then ?_
  refine gc_ret ?_
  refine ge_ret (.agg #[.slice aq3 nq3 cq3]) (rsc 2 (T := 55) (by kernel_rfl) (by kernel_rfl) (lr (U.bk 1 rfl) 0)) ?_
  exact ⟨_, _, _, _, _, _, _, rfl, U.ta.sx, by omega, by omega, U.ta.km, U.ta.cc, (U.nq 0 rfl), by omega, fq3⟩
theorem sVal {B : Nat} {w : World} {K : Nat → Prop} {g : Nat} {E : Ents} {W : List Ents} {n N : Nat} {rt tk un pe id : Int} {jl bo : Bool} {a0 : Option Addr} {n0 c0 z0 : Nat} {x0 : Int} {a1 : Option Addr} {n1 c1 z1 : Nat} {x1 : Int} {a2 : Option Addr} {n2 c2 z2 : Nat} {x2 : Int} {a3 : Option Addr} {n3 c3 z3 : Nat} {x3 : Int} (h : Sx B w K g E W n N) (hid : 0 ≤ id ∧ id < 18446744073709551616) (Q0 : Nk w K z0 a0 n0 c0 x0) (m0 : n0 ≤ 100000) (Q1 : Nk w K z1 a1 n1 c1 x1) (m1 : n1 ≤ 100000) (Q2 : Nk w K z2 a2 n2 c2 x2) (m2 : n2 ≤ 100000) (Q3 : Nk w K z3 a3 n3 c3 x3) (m3 : n3 ≤ 100000) (hn : n + 40 ≤ 4000000000000000000) (hN : N + 40 ≤ 100000000) : Calls Tryz.prog 149 #[pg g, .int .u64 id, .agg #[.int .u64 rt, .int .u64 tk, .slice a0 n0 c0, .bool jl, .int .u64 un, .bool bo, .int .u64 pe, .slice a1 n1 c1, .slice a2 n2 c2, .slice a3 n3 c3]] w (SxE B w K g (put E (Ky.mk 5 id 0) (vv rt tk x0 jl un bo pe x1 x2 x3)) W (n + 1) (N + 2) (.tuple #[])) := by
  have U := ut_of h
  refine gc_enter (n := 12) Tryz.func149 rfl (by kernel_rfl) (by kernel_rfl) ?_
  refine gc_seq ?_
  refine gc_reg ?_
  refine ta 5 [.int .u64 rt, .int .u64 tk, .slice a0 n0 c0, .bool jl, .int .u64 un, .bool bo, .int .u64 pe, .slice a1 n1 c1, .slice a2 n2 c2, .slice a3 n3 c3] 57 (pg) ?_
  intro v1 g2 Xg2 hg2 B
  replace U := U.new Xg2 hg2 B
  clear Xg2 hg2 B
  refine gl_nil ?_
  refine ge_then ?_
  refine gc_reg ?_
  refine t 6 (pg g) ?_
  refine t 7 (.int .u64 id) ?_
  refine t 8 (.agg #[.int .i64 5, .int .u64 id, .int .u64 0]) ?_
  refine tlr 9 [.int .u64 rt, .int .u64 tk, .slice a0 n0 c0, .bool jl, .int .u64 un, .bool bo, .int .u64 pe, .slice a1 n1 c1, .slice a2 n2 c2, .slice a3 n3 c3] (U.bk 0 rfl) 0 ?_
  refine tc 10 199 #[.agg #[.int .u64 rt, .int .u64 tk, .slice a0 n0 c0, .bool jl, .int .u64 un, .bool bo, .int .u64 pe, .slice a1 n1 c1, .slice a2 n2 c2, .slice a3 n3 c3]] (putVal (Q0.op U.ta.km U.ta.cc).nat (by omega) (Q1.op U.ta.km U.ta.cc).nat (by omega) (Q2.op U.ta.km U.ta.cc).nat (by omega) (Q3.op U.ta.km U.ta.cc).nat (by omega)) ?_
  rintro _ v5 ⟨pv4, rfl, U3, B⟩
  refine ⟨_, rfl, ?_⟩
  replace U := U.keep B
  clear B
  refine tc 11 198 #[pg g, .agg #[.int .i64 5, .int .u64 id, .int .u64 0], pv4] (dLay U.ta.sx hid (mkE5 _) U3 vv_len (by omega) (by omega)) ?_
  rintro _ v7 ⟨rfl, K6, S, hK, hC⟩
  refine ⟨_, rfl, ?_⟩
  replace U := U.op S hK hC
  clear S hK hC
  refine gl_nil ?_
  refine ge_end (.tuple #[]) (rs0 (by kernel_rfl)) ?_
  exact ⟨rfl, _, U.ta.sx, U.ta.km, U.ta.cc⟩
theorem sDel {B : Nat} {w : World} {K : Nat → Prop} {g : Nat} {E : Ents} {W : List Ents} {n N : Nat} {id de dp : Int} {a0 : Option Addr} {n0 c0 z0 : Nat} {x0 : Int} {a1 : Option Addr} {n1 c1 z1 : Nat} {x1 : Int} (h : Sx B w K g E W n N) (hid : 0 ≤ id ∧ id < 18446744073709551616) (Q0 : Nk w K z0 a0 n0 c0 x0) (m0 : n0 ≤ 100000) (Q1 : Nk w K z1 a1 n1 c1 x1) (m1 : n1 ≤ 100000) (hn : n + 40 ≤ 4000000000000000000) (hN : N + 40 ≤ 100000000) : Calls Tryz.prog 237 #[pg g, .int .u64 id, .int .u64 de, .agg #[.slice a0 n0 c0, .int .u64 dp, .slice a1 n1 c1]] w (SxE B w K g (put E (Ky.mk 6 id de) (dv x0 dp x1)) W (n + 1) (N + 2) (.tuple #[])) := by
  have U := ut_of h
  refine gc_enter (n := 15) Tryz.func237 rfl (by kernel_rfl) (by kernel_rfl) ?_
  refine gc_seq ?_
  refine gc_reg ?_
  refine ta 7 [.slice a0 n0 c0, .int .u64 dp, .slice a1 n1 c1] 181 (pg) ?_
  intro v1 g2 Xg2 hg2 B
  replace U := U.new Xg2 hg2 B
  clear Xg2 hg2 B
  refine gl_nil ?_
  refine ge_then ?_
  refine gc_reg ?_
  refine t 8 (pg g) ?_
  refine t 9 (.int .u64 id) ?_
  refine t 10 (.int .u64 de) ?_
  refine t 11 (.agg #[.int .i64 6, .int .u64 id, .int .u64 de]) ?_
  refine tlr 12 [.slice a0 n0 c0, .int .u64 dp, .slice a1 n1 c1] (U.bk 0 rfl) 0 ?_
  refine tc 13 291 #[.agg #[.slice a0 n0 c0, .int .u64 dp, .slice a1 n1 c1]] (putDelegation (Q0.op U.ta.km U.ta.cc).nat (by omega) (Q1.op U.ta.km U.ta.cc).nat (by omega)) ?_
  rintro _ v5 ⟨pv4, rfl, U3, B⟩
  refine ⟨_, rfl, ?_⟩
  replace U := U.keep B
  clear B
  refine tc 14 198 #[pg g, .agg #[.int .i64 6, .int .u64 id, .int .u64 de], pv4] (dLay U.ta.sx hid (mkE6 _ _) U3 dv_len (by omega) (by omega)) ?_
  rintro _ v7 ⟨rfl, K6, S, hK, hC⟩
  refine ⟨_, rfl, ?_⟩
  replace U := U.op S hK hC
  clear S hK hC
  refine gl_nil ?_
  refine ge_end (.tuple #[]) (rs0 (by kernel_rfl)) ?_
  exact ⟨rfl, _, U.ta.sx, U.ta.km, U.ta.cc⟩
def plE (E : Ents) (x : Int) : Ents := if x = 0 then rem E (Ky.mk 3 0 0) else put E (Ky.mk 3 0 0) (pov x)
theorem lPool {B : Nat} {w : World} {K : Nat → Prop} {g : Nat} {E : Ents} {W : List Ents} {n N : Nat} {a0 : Option Addr} {n0 c0 z0 : Nat} {x0 : Int} (h : Sx B w K g E W n N) (Q0 : Nk w K z0 a0 n0 c0 x0) (m0 : n0 ≤ 100000) (hn : n + 40 ≤ 4000000000000000000) (hN : N + 40 ≤ 100000000) : Calls Tryz.prog 287 #[pg g, .agg #[.slice a0 n0 c0]] w (SxE B w K g (plE E x0) W (n + 1) (N + 2) (.tuple #[])) := by
  have U := ut_of h
  refine gc_enter (n := 17) Tryz.func287 rfl (by kernel_rfl) (by kernel_rfl) ?_
  refine gc_seq ?_
  refine gc_reg ?_
  refine ta 3 [.slice a0 n0 c0] 55 (pg) ?_
  intro v1 g2 Xg2 hg2 B
  replace U := U.new Xg2 hg2 B
  clear Xg2 hg2 B
  refine gl_nil ?_
  refine ge_then ?_
  refine gc_seq ?_
  refine gc_reg ?_
  refine t 5 (.agg #[.int .i64 3, .int .u64 0, .int .u64 0]) ?_
  refine ta 4 [.int .i64 0, .int .u64 0, .int .u64 0] 103 (pg) ?_
  intro v3 g4 Xg4 hg4 B
  replace U := U.new Xg4 hg4 B
  clear Xg4 hg4 B
  refine ts (U.bk 0 rfl) 0 (.agg #[.int .i64 3, .int .u64 0, .int .u64 0]) [.int .i64 3, .int .u64 0, .int .u64 0] [.int .i64 3, .int .u64 0, .int .u64 0] ?_
  intro v5 Y C
  replace U := U.put 0 rfl C Y (by decide)
  clear Y C
  refine gl_nil ?_
  refine ge_then ?_
  refine gc_seq ?_
  refine gc_seq ?_
  refine gc_reg ?_
  refine tlr 6 [.slice a0 n0 c0] (U.bk 1 rfl) 0 ?_
  by_cases cz : x0 = 0
  · refine tc 7 181 #[.agg #[.slice a0 n0 c0]] (dZ (Q0.op U.ta.km U.ta.cc).nat (by omega) (b := true) (decide_eq_true cz)) ?_
    rintro _ v6 ⟨rfl, B⟩
    refine ⟨_, rfl, ?_⟩
    replace U := U.keep B
    clear B
    refine gl_nil ?_
    refine ge_then ?_
    refine gc_yes ?_
    refine gc_seq ?_
    refine gc_reg ?_
    refine t 8 (pg g) ?_
    refine tlr 9 [.int .i64 3, .int .u64 0, .int .u64 0] (U.bk 0 rfl) 0 ?_
    refine tc 10 75 #[.agg #[.int .i64 3, .int .u64 0, .int .u64 0]] (dBytes ⟨by decide, by decide⟩ mkE3) ?_
    rintro _ v9 ⟨kv8, rfl, U7, B⟩
    refine ⟨_, rfl, ?_⟩
    replace U := U.keep B
    clear B
    refine tc 11 131 #[pg g, kv8] (xdel U.ta.sx U7 (Nat.le_trans (Ky.mk_len _ _ _) (by decide)) (by omega) (by omega)) ?_
    rintro _ v11 ⟨rfl, K10, S, hK, hC⟩
    refine ⟨_, rfl, ?_⟩
    replace U := U.op S hK hC
    clear S hK hC
    refine gl_nil ?_
    refine ge_then ?_
    refine gc_ret ?_
    refine ge_tr ?_
    refine ge_ret (.tuple #[]) (rs0 (by kernel_rfl)) ?_
    rw [show plE E x0 = _ from if_pos cz]
    exact ⟨rfl, _, U.ta.sx, U.ta.km, U.ta.cc⟩
  · refine tc 7 181 #[.agg #[.slice a0 n0 c0]] (dZ (Q0.op U.ta.km U.ta.cc).nat (by omega) (b := false) (decide_eq_false cz)) ?_
    rintro _ v12 ⟨rfl, B⟩
    refine ⟨_, rfl, ?_⟩
    replace U := U.keep B
    clear B
    refine gl_nil ?_
    refine ge_then ?_
    refine gc_no ?_
    refine gc_skip ?_
    refine ge_then ?_
    replace U := U.drew
    refine gc_draw (fun w' => Blk w' g4 [.int .i64 3, .int .u64 0, .int .u64 0] 103 ∧ Blk w' g2 [.slice a0 n0 c0] 55) (fun _ => false) ⟨(U.bk 0 rfl), (U.bk 1 rfl)⟩ ?_
    refine z 0 12 (pg g) ?_
    refine zlr 1 13 [.int .i64 3, .int .u64 0, .int .u64 0] (fun _ h => h.1) 0 ?_
    refine zlr 2 14 [.slice a0 n0 c0] (fun _ h => h.2) 0 ?_
    refine zc 3 15 337 #[.agg #[.slice a0 n0 c0]] (putPool (Q0.op U.ta.km U.ta.cc).nat (by omega)) ?_
    rintro _ v15 ⟨pv14, rfl, U13, B⟩
    replace U := U.keep B
    clear B
    refine ⟨_, rfl, ⟨(U.bk 0 rfl), (U.bk 1 rfl)⟩, ?_⟩
    refine zc 4 16 198 #[pg g, .agg #[.int .i64 3, .int .u64 0, .int .u64 0], pv14] (dLay U.ta.sx ⟨by decide, by decide⟩ mkE3 U13 pov_len (by omega) (by omega)) ?_
    rintro _ v17 ⟨rfl, K16, S, hK, hC⟩
    replace U := U.op S hK hC
    clear S hK hC
    refine ⟨_, rfl, ⟨(U.bk 0 rfl), (U.bk 1 rfl)⟩, ?_⟩
    refine gz_done ?_
    refine ge_end (.tuple #[]) (rs0 (by kernel_rfl)) ?_
    rw [show plE E x0 = _ from if_neg cz]
    exact ⟨rfl, _, U.ta.sx, U.ta.km, U.ta.cc⟩
theorem pour_any {B : Nat} {w : World} {K : Nat → Prop} {g : Nat} {E : Ents} {W : List Ents} {n N : Nat} {a0 : Option Addr} {n0 c0 z0 : Nat} {x0 : Int} {p er : Int} (h : Sx B w K g E W n N) (Q0 : Nk w K z0 a0 n0 c0 x0) (m0 : n0 ≤ 90000) (hv : qPool (got E (Ky.mk 3 0 0)) = ([p], er)) (hn : n + 100 ≤ 4000000000000000000) (hN : N + 100 ≤ 100000000) : Calls Tryz.prog 233 #[pg g, .agg #[.slice a0 n0 c0]] w (SxF B w K g (plE E (p + x0)) W n N (.tuple #[])) := by
  have U := ut_of h
  refine gc_enter (n := 10) Tryz.func233 rfl (by kernel_rfl) (by kernel_rfl) ?_
  refine gc_seq ?_
  refine gc_reg ?_
  refine ta 3 [.slice a0 n0 c0] 55 (pg) ?_
  intro v1 g2 Xg2 hg2 B
  replace U := U.new Xg2 hg2 B
  clear Xg2 hg2 B
  refine gl_nil ?_
  refine ge_then ?_
  replace U := U.drew
  refine gc_draw (fun w' => Blk w' g2 [.slice a0 n0 c0] 55) (fun _ => false) (U.bk 0 rfl) ?_
  refine z 0 4 (pg g) ?_
  refine z 1 5 (pg g) ?_
  refine zlr 3 7 [.slice a0 n0 c0] (fun _ h => h) 0 ?_
  refine zc 2 6 288 #[pg g] (gPool U.ta.sx hv (by omega) (by omega)) ?_
  rintro _ v7 ⟨aq3, nq3, cq3, zq3, K4, n5, N6, rfl, S, qn5, qN6, hK, hC, Q0, mq3, h0⟩
  have fq3 := ne3 h0 U.ta.size
  have L := U.lt
  replace U := (U.op S hK hC).add L Q0 h0
  clear L S hK hC Q0 h0
  refine ⟨_, rfl, (U.bk 0 rfl), ?_⟩
  refine zc 4 8 185 #[.agg #[.slice aq3 nq3 cq3], .agg #[.slice a0 n0 c0]] (eAdd (U.nq 0 rfl).nat (by omega) (Q0.op U.ta.km U.ta.cc).nat (by omega)) ?_
  rintro _ v9 ⟨aq8, nq8, cq8, zq8, rfl, M, h, mq8, B⟩
  have fq8 := ne3 h U.ta.size
  replace U := U.num M h B
  clear M h B
  refine ⟨_, rfl, (U.bk 0 rfl), ?_⟩
  refine zc 5 9 287 #[pg g, .agg #[.slice aq8 nq8 cq8]] (lPool U.ta.sx (U.nq 0 rfl).nk (by omega) (by omega) (by omega)) ?_
  rintro _ v11 ⟨rfl, K10, S, hK, hC⟩
  replace U := U.op S hK hC
  clear S hK hC
  refine ⟨_, rfl, (U.bk 0 rfl), ?_⟩
  refine gz_done ?_
  refine ge_end (.tuple #[]) (rs0 (by kernel_rfl)) ?_
  exact ⟨rfl, _, _, _, U.ta.sx, by omega, by omega, U.ta.km, U.ta.cc⟩
end Fo
end Go.Proofs.YtpoifdokmjhclaaGreat

namespace Go.Proofs.YtpoifdokmjhclaaGreat
namespace Fo
open Go.RowKit Go.Lib Pg Lim Gl Kv Bk Pw Sd Di
set_option maxRecDepth 100000
set_option linter.unusedVariables false
set_option maxHeartbeats 1000000
section
variable {w0 w w' w1 : World} {B g0 n N n' N' g i C : Nat} {K0 K K' : Nat → Prop} {W : List Ents} {E E' : Ents} {bs : List Bx} {qs : List Nx} {cs cs' : List Value} {t : TypeId}
theorem Ut.opnew (h : Ut w0 K0 B g0 W w K E n N bs qs) (S : Sx B w' K' g0 E' W n' N') (hK : ∀ b, K' b → K b ∨ w.heap.size ≤ b) (hC : Chg K w w') (X : Blk w' g cs t) (hb : w.heap.size ≤ g) (nk : ¬ K' g) : Ut w0 K0 B g0 W w' K' E' n' N' ((g, cs, t) :: bs) qs := by
  have u := h.op S hK hC
  exact ⟨u.ta, List.forall_mem_cons.2 ⟨⟨X, nk, Nat.le_trans h.ta.size hb⟩, u.b⟩, u.q, List.forall_mem_cons.2 ⟨fun r hr => ne1 (h.q r hr).lt hb, u.e⟩, List.pairwise_cons.2 ⟨fun p hp e => by have := h.lt p hp; have e' : g = p.1 := e; omega, u.d⟩⟩
end
end Fo
end Go.Proofs.YtpoifdokmjhclaaGreat

namespace Go.Proofs.YtpoifdokmjhclaaGreat
namespace Gl
open Go.RowKit Go.Lib Pg
section
variable {P : Program} {n : Nat} {ds : List Deferred} {ops : Array Oper} {rest : List Oper} {o : Oper} {l : Fr} {w : World} {Q : Exit → Act → World → Prop}
/-- a call is deferred -/
theorem td (d : Deferred) (h : GL P n (d :: ds) ops Q rest l w) (hg : gd ops l o = some true := by kernel_rfl) (hc : chk n l o none = true := by kernel_rfl) (hrun : (execOp (evL l) o).run P w = .ok (.defer d) w := by kernel_rfl) : GL P n ds ops Q (o :: rest) l w := ⟨fun a r =>
  BigFrame.wpList_want (gd_want r hg) fun K hK => by
    unfold Oper.wp
    rw [chk_ex hc r, hrun, Oper.upon_defer, (chk_d hc).1]
    exact hK _ _ (h.out _ ⟨r.size, by show d :: a.defers = d :: ds; rw [r.dfs], r.get⟩)⟩
theorem enR {fn : Func} {vs : List Value} (hn : fn.ntmps = n) (hs : Nat.ble vs.length n = true) : Rd n [] (en 0 vs) { tmps := vs.toArray ++ Array.replicate (fn.ntmps - vs.toArray.size) undef, defers := [] } := by
  have hs := Nat.le_of_ble_eq_true hs
  refine ⟨?_, rfl, fun k v hk => ?_⟩
  · simp
    omega
  · obtain ⟨_, h2⟩ := lk_en vs 0 k v hk
    rw [Nat.sub_zero] at h2
    have hlt := (List.getElem?_eq_some_iff.1 h2).1
    rw [Array.getElem?_append_left (by simpa using hlt)]
    simpa using h2
/-- a function that defers -/
theorem gc_enterF {f : FuncId} {fn : Func} {c : Code} {vs : List Value} {R : Ending → World → Prop} (hf : P.funcs[f]? = some fn) (hb : fn.body = some c) (h : GC P n [] c (bodyPostD P fn R) (en 0 vs) w) (hn : fn.ntmps = n := by kernel_rfl) (hs : Nat.ble vs.length n = true := by kernel_rfl) : Calls P f vs.toArray w R :=
  calls_of_wp_defers hf hb (h.out _ (enR hn hs))
/-- a function that was deferred -/
theorem gc_enterG {f : FuncId} {fn : Func} {c : Code} {vs : List Value} {u : FrameMode} {R : Ending → World → Prop} (hf : P.funcs[f]? = some fn) (hb : fn.body = some c) (h : GC P n [] c (bodyPost P fn R) (en 0 vs) w) (hn : fn.ntmps = n := by kernel_rfl) (hs : Nat.ble vs.length n = true := by kernel_rfl) : CallsD P f vs.toArray u w fun e u' w' => u' = u ∧ R e w' :=
  callsD_of_wp hf hb (h.out _ (enR hn hs))
/-- the end of a function with one deferred call -/
theorem ge_retF {fn : Func} {R R' : Ending → World → Prop} {fv : Fn} {cap dargs args : Array Value} {f : FuncId} (hi : (invoke (.fn fv cap) dargs).run P w = .ok (.enter f args) w) (hc : CallsD P f args .returning w fun e u' w' => u' = .returning ∧ R' e w')
    (h : ∀ e w', R' e w' → ∃ x v, e = .returned x ∧ (∀ a, Rd n [] l a → (results fn a.tmps).run P w' = .ok v w') ∧ R (.returned v) w') : GE n [⟨.fn fv cap, dargs⟩] (bodyPostD P fn R) .ret l w := ⟨fun a r => by
  show Leaves P fn a.tmps R a.defers .returning w
  rw [r.dfs]
  refine ⟨by simp, fv, cap, f, args, rfl, hi, hc.mono ?_⟩
  rintro e u' w' ⟨rfl, h'⟩
  obtain ⟨x, v, rfl, hr, hR⟩ := h e w' h'
  exact ⟨v, hr { a with defers := [] } ⟨r.size, rfl, r.get⟩, hR⟩⟩
end
end Gl
end Go.Proofs.YtpoifdokmjhclaaGreat

namespace Go.Proofs.YtpoifdokmjhclaaGreat
namespace Kv
open Go.RowKit Go.Lib Pg
attribute [local go_sem] Oper.semAt_some
end Kv
end Go.Proofs.YtpoifdokmjhclaaGreat

namespace Go.Proofs.YtpoifdokmjhclaaGreat
namespace Kv
open Go.RowKit Go.Lib Pg
attribute [local go_sem] Oper.semAt_some
/-- a step of a script: its four cells, and what lies behind its two lists -/
structure Ste where
  what : Int
  num : Int
  ka : Option Addr
  kc : Nat
  kl : List Int
  va : Option Addr
  vc : Nat
  vl : List Int
end Kv
end Go.Proofs.YtpoifdokmjhclaaGreat

namespace Go.Proofs.YtpoifdokmjhclaaGreat
namespace Kv
open Go.RowKit Go.Lib Pg
attribute [local go_sem] Oper.semAt_some
def setd (E : Ents) (k v : List Int) : Ents := if setE k v = 0 then put E k v else E
/-- set or deleted -/
def chgd (E : Ents) (what : Int) (k v : List Int) : Ents := if what.tmod 2 = 0 then setd E k v else rem E k
end Kv
end Go.Proofs.YtpoifdokmjhclaaGreat

namespace Go.Proofs.YtpoifdokmjhclaaGreat
namespace Kv
open Go.RowKit Go.Lib Pg
end Kv
end Go.Proofs.YtpoifdokmjhclaaGreat

namespace Go.Proofs.YtpoifdokmjhclaaGreat
namespace Kv
open Go.RowKit Go.Lib Pg
end Kv
end Go.Proofs.YtpoifdokmjhclaaGreat

namespace Go.Proofs.YtpoifdokmjhclaaGreat
namespace Kv
open Go.RowKit Go.Lib Pg
/-- the entries behind the first j steps -/
def run (ss : List Ste) : Nat → Ents
  | 0 => []
  | j + 1 => match ss[j]? with
    | some s => chgd (run ss j) s.what s.kl s.vl
    | none => run ss j
end Kv
end Go.Proofs.YtpoifdokmjhclaaGreat
