/- Several texts, joined: GnG, GlD. -/
import Derived.Test.YtpoifdokmjhclaaGreatJyB
import Derived.Test.YtpoifdokmjhclaaGreatJyi
import Derived.Test.YtpoifdokmjhclaaGreatJyd
namespace Go.Proofs.YtpoifdokmjhclaaGreat
namespace Fo
open Go.RowKit Go.Lib Pg Lim Gl Kv Bk Pw Sd Di
attribute [local go_sem] Oper.semAt_some
set_option maxRecDepth 100000
set_option linter.unusedVariables false
set_option linter.unusedSimpArgs false
set_option maxHeartbeats 4000000
section
variable {B : Nat} {w : World} {K : Nat → Prop} {g : Nat} {E E0 : Ents} {W : List Ents} {n N : Nat}
theorem xbegin (h : Sx B w K g E W n N) (hW : W.length < 16) : Calls Tryz.prog 133 #[pg g] w (SxE B w K g E (E :: W) n N (.int .i64 0)) := by
  have u := sbegin h.sa
  rw [if_neg (by omega), if_neg (by omega)] at u
  exact h.ends u
theorem xcommit (h : Sx B w K g E (E0 :: W) n N) (hN : N ≤ 100000000) : Calls Tryz.prog 137 #[pg g] w (SxE B w K g E W n N (.int .i64 0)) := h.ends (by simpa using scommit h.sa hN)
theorem xrollback (h : Sx B w K g E (E0 :: W) n N) (hN : N ≤ 100000000) : Calls Tryz.prog 136 #[pg g] w (SxE B w K g E0 W n N (.int .i64 0)) := h.ends (by simpa using srollback h.sa hN)
theorem xhas {kv : Value} {k : List Int} (h : Sx B w K g E W n N) (hk : ByU w kv k) (hn : n ≤ 4000000000000000000) (hN : N ≤ 100000000) : Calls Tryz.prog 94 #[pg g, kv] w (SxE B w K g E W (n + 1) N (.bool (Kv.look E k).isSome)) := by
  refine (shas h.sa (h.bk hk) hn hN).mono ?_
  rintro e w' ⟨rfl, S, C⟩
  exact ⟨rfl, K, ⟨S, Nat.le_trans h.lo C.size, h.kb⟩, fun _ q => .inl q, C⟩
end
theorem Ut.opW {w0 w w' : World} {B g0 n N n' N' : Nat} {K0 K K' : Nat → Prop} {W W' : List Ents} {E E' : Ents} {bs : List Bx} {qs : List Nx} (h : Ut w0 K0 B g0 W w K E n N bs qs) (S : Sx B w' K' g0 E' W' n' N') (hK : ∀ b, K' b → K b ∨ w.heap.size ≤ b) (hC : Chg K w w') : Ut w0 K0 B g0 W' w' K' E' n' N' bs qs := ⟨h.ta.op S hK hC, fun p hp => ⟨(h.b p hp).1.chg hC (h.b p hp).2.1, not_opF (h.b p hp).1 (h.b p hp).2.1 hK, (h.b p hp).2.2⟩, fun r hr => (h.q r hr).op hK hC, h.e, h.d⟩
theorem has_lit {B : Nat} {w : World} {K : Nat → Prop} {g : Nat} {E : Ents} {W : List Ents} {n N P : Nat} {args : Array Value} {r r' : Bool} (h : Calls Tryz.prog P args w (SxE B w K g E W n N (.bool r))) (hr : r = r') : Calls Tryz.prog P args w (SxE B w K g E W n N (.bool r')) := by
  subst hr
  exact h
theorem mk_s {k a b : Int} (hE : Ky.mkE k a b = false) {B : Nat} {w : World} {K : Nat → Prop} {g : Nat} {E : Ents} {W : List Ents} {n N : Nat} {kv vv : Value} {v : List Int} (h : Sx B w K g E W n N) (hk : ByU w kv (Ky.mk k a b)) (hv : ByU w vv v) (hl : v.length ≤ 4096) (hn : n ≤ 4000000000000000000) (hN : N + 2 ≤ 100000000) : Calls Tryz.prog 86 #[pg g, kv, vv] w (SxE B w K g (put E (Ky.mk k a b) v) W (n + 1) (N + 2) (.int .i64 0)) := qset h hk hE hv hl hn hN
theorem SxE.castE {B : Nat} {w : World} {K : Nat → Prop} {g : Nat} {E : Ents} {W : List Ents} {P m M : Nat} {args : Array Value} {r : Value} {E' : Ents} (h : Calls Tryz.prog P args w (SxE B w K g E W m M r)) (hE : E = E') : Calls Tryz.prog P args w (SxE B w K g E' W m M r) := by
  subst hE
  exact h
theorem sKey {w : World} {k a b : Int} (ha : 0 ≤ a ∧ a < 18446744073709551616) (hE : Ky.mkE k a b = false) : Calls Tryz.prog 87 #[.int .i64 k, .int .u64 a, .int .u64 b] w fun e w' => ∃ v, e = .returned v ∧ ByU w' v (Ky.mk k a b) ∧ Below w.heap.size w w' := by
  have BB := Below.refl w.heap.size w
  refine gc_enter (n := 18) Tryz.func87 rfl (by kernel_rfl) (by kernel_rfl) ?_
  refine gc_seq ?_
  refine gc_reg ?_
  refine t 6 (.slice none 0 0) ?_
  refine gl_nil ?_
  refine ge_then ?_
  refine gc_seq ?_
  refine gc_reg ?_
  refine t 10 (.int .i64 k) ?_
  refine t 11 (.int .u64 a) ?_
  refine t 12 (.int .u64 b) ?_
  refine t 13 (.agg #[.int .i64 k, .int .u64 a, .int .u64 b]) ?_
  refine tc 14 72 #[.agg #[.int .i64 k, .int .u64 a, .int .u64 b]] (mk_key ha hE) ?_
  rintro _ v1 ⟨v, rfl, U1, B⟩
  refine ⟨_, rfl, ?_⟩
  replace BB := joinB BB B
  clear B
  refine t 9 (.tuple #[v, .int .i64 0]) ?_
  refine t 15 (v) ?_
  refine t 16 (.int .i64 0) ?_
  refine t 7 (v) ?_
  refine t 8 (.int .i64 0) ?_
  refine gl_nil ?_
  refine ge_then ?_
  refine gc_fr [(6, .slice none 0 0), (7, v)] (by kernel_rfl) ?_
  refine gc_seq ?_
  refine gc_reg ?_
  refine t 17 (v) ?_
  refine t 6 (v) ?_
  refine gl_nil ?_
  refine ge_then ?_
  refine gc_ret ?_
  refine ge_ret (v) (rs1 6 (by kernel_rfl) (by kernel_rfl)) ?_
  exact ⟨_, rfl, U1, BB⟩
theorem issue0 {w : World} {tk sh : Int} {a0 : Option Addr} {n0 c0 : Nat} (h0 : NatA w a0 n0 c0 0) (k0 : n0 ≤ 1000000) (ht : 0 ≤ sh ∧ sh < 18446744073709551616) (hs0 : ¬ sh = 0) : Calls Tryz.prog 141 #[.int .u64 tk, .agg #[.slice a0 n0 c0], .int .u64 sh] w (NtE 0 w (· ≤ 40) (sh * U36)) := by
  have BB := Below.refl w.heap.size w
  refine gc_enter (n := 42) Tryz.func141 rfl (by kernel_rfl) (by kernel_rfl) ?_
  refine gc_seq ?_
  refine gc_reg ?_
  refine ta 4 [.slice a0 n0 c0] 55 (pg) ?_
  intro v1 g2 Xg2 hg2 B
  replace BB := joinB BB B
  clear B
  have lXg2 := Xg2.lt
  refine ta 6 [.slice none 0 0] 55 (pg) ?_
  intro v3 g4 Xg4 hg4 B
  replace BB := joinB BB B
  replace Xg2 := Xg2.keep B
  clear B
  refine t 7 (.int .i64 0) ?_
  refine gl_nil ?_
  refine ge_then ?_
  refine gc_seq ?_
  refine gc_block ?_
  refine gc_seq ?_
  refine gc_reg ?_
  refine t 11 (.int .u64 sh) ?_
  refine tq 12 (.bool ((sh : Int) == 0)) (.bool false) (congrArg Value.bool (beq_eq_false_iff_ne.2 hs0)) ?_
  refine t 10 (.bool false) ?_
  refine gl_nil ?_
  refine ge_then ?_
  refine gc_no ?_
  refine gc_seq ?_
  refine gc_reg ?_
  refine tlr 15 [.slice a0 n0 c0] Xg2 0 ?_
  have lXg2 := Xg2.lt
  have lXg4 := Xg4.lt
  refine tc 16 181 #[.agg #[.slice a0 n0 c0]] (dZ (h0.keep BB) (by omega) (b := true) (by decide)) ?_
  rintro _ v5 ⟨rfl, B⟩
  refine ⟨_, rfl, ?_⟩
  replace BB := joinB BB B
  replace Xg2 := Xg2.keep B
  replace Xg4 := Xg4.keep B
  clear B
  refine t 14 (.bool true) ?_
  refine gl_nil ?_
  refine ge_then ?_
  refine gc_fr [(0, .int .u64 tk), (2, .int .u64 sh), (4, pg g2), (6, pg g4), (7, .int .i64 0), (14, .bool true)] (by kernel_rfl) ?_
  refine gc_yes ?_
  refine gc_seq ?_
  refine gc_reg ?_
  refine t 17 (.int .u64 sh) ?_
  have lXg2 := Xg2.lt
  have lXg4 := Xg4.lt
  refine tc 18 182 #[.int .u64 sh] (eOf ht) ?_
  rintro _ v7 ⟨aq6, nq6, cq6, zq6, rfl, Nq6, hq6, mq6, B⟩
  refine ⟨_, rfl, ?_⟩
  replace BB := joinB BB B
  replace Xg2 := Xg2.keep B
  replace Xg4 := Xg4.keep B
  clear B
  refine ts Xg4 0 (.agg #[.slice aq6 nq6 cq6]) [.slice aq6 nq6 cq6] [.slice aq6 nq6 cq6] ?_
  intro v8 Y C
  replace BB := belowC BB C (by omega)
  replace Xg2 := Xg2.chg C (show g2 ≠ g4 by omega)
  replace Nq6 := Nq6.cell C (show nq6 = 0 ∨ zq6 ≠ g4 by omega)
  clear C Xg4
  have Xg4 := Y
  clear Y
  refine t 7 (.int .i64 0) ?_
  refine gl_nil ?_
  refine ge_then ?_
  refine gc_ret ?_
  refine ge_br ?_
  refine ge_tr ?_
  refine ge_ret (.tuple #[.agg #[.slice aq6 nq6 cq6], .int .i64 0]) (rsct 6 7 (T := 55) (by kernel_rfl) (by kernel_rfl) (by kernel_rfl) (lr Xg4 0)) ?_
  exact ⟨_, _, _, _, rfl, Nq6, by omega, by omega, BB⟩
def cav (h x : Int) : List Int := Rc.thr (Rc.pnx (fun o => ([h, x] : List Int).getD o 0)) [(0, 0), (0, 1)] []
theorem cav_len {h x : Int} : (cav h x).length ≤ 4096 := by have := Rc.pnx_len (fun o => ([h, x] : List Int).getD o 0) [(0, 0), (0, 1)] []; simp only [List.length_cons, List.length_nil] at this; unfold cav; omega
theorem putChain {w : World} {h x : Int} : Calls Tryz.prog 89 #[.agg #[.int .u64 h, .int .u64 x]] w fun e w' => ∃ v, e = .returned v ∧ ByU w' v (cav h x) ∧ Below w.heap.size w w' := by
  refine (Rc.PutChain_any).mono ?_
  rintro e w' ⟨b, n, rfl, hn, X, hb, B⟩
  exact ⟨_, rfl, byu_box X (Rc.thr_oct _ _ _ (fun _ h => by simp at h)) hn (Nat.le_trans cav_len (by decide)), B⟩
structure HoV (B : Nat) (w : World) (K : Nat → Prop) (g : Nat) (E' : Ents) (W : List Ents) (n N : Nat) (p x4 xs : Int) (n0 n4 : Nat) (e : Ending) (w' : World) : Prop where
  ex : ∃ b0 k0 d0 y0 b1 k1 d1 y1 K' n' N', e = .returned (.agg #[.slice b0 k0 d0, .int .u64 p, .slice b1 k1 d1]) ∧ Sx B w' K' g E' W n' N' ∧ n' ≤ n + 10 ∧ N' ≤ N + 10 ∧ (∀ b, K' b → K b ∨ w.heap.size ≤ b) ∧ Chg K w w' ∧ Nq w' K' y0 b0 k0 d0 (x4) ∧ k0 ≤ n4 + 1 ∧ (k0 = 0 ∨ w.heap.size ≤ y0) ∧ Nq w' K' y1 b1 k1 d1 (xs) ∧ k1 ≤ n0 + n4 + 40 ∧ (k1 = 0 ∨ w.heap.size ≤ y1)
theorem HoE.cast {B : Nat} {w : World} {K : Nat → Prop} {g : Nat} {E : Ents} {W : List Ents} {n N : Nat} {tk pe id x0 x4 p xs : Int} {n0 n4 P : Nat} {args : Array Value} {E' : Ents} (h : Calls Tryz.prog P args w (HoE B w K g E W n N tk pe id x0 x4 n0 n4)) (hp : (pe - 1) % 18446744073709551616 = p) (hE : referE E id p = E') (hx : x4 * (tk * U36) / x0 = xs) : Calls Tryz.prog P args w (HoV B w K g E' W n N p x4 xs n0 n4) := by
  subst hp hE hx
  exact h.mono fun e w' h => ⟨h.ex⟩
structure ClV (B : Nat) (w : World) (K : Nat → Prop) (g : Nat) (E' : Ents) (W : List Ents) (n N : Nat) (rt tk : Int) (jl : Bool) (un : Int) (bo : Bool) (pq x0 x1 x2 x3 : Int) (n0 n1 n2 n3 : Nat) (e : Ending) (w' : World) : Prop where
  ex : ∃ b0 k0 d0 y0 b1 k1 d1 y1 b2 k2 d2 y2 b3 k3 d3 y3 K' n' N', e = .returned (.tuple #[.agg #[.int .u64 rt, .int .u64 tk, .slice b0 k0 d0, .bool jl, .int .u64 un, .bool bo, .int .u64 pq, .slice none 0 0, .slice b2 k2 d2, .slice b3 k3 d3], .agg #[.slice b1 k1 d1]]) ∧ Sx B w' K' g E' W n' N' ∧ n' ≤ n + 20 ∧ N' ≤ N + 20 ∧ (∀ b, K' b → K b ∨ w.heap.size ≤ b) ∧ Chg K w w' ∧ Nq w' K' y0 b0 k0 d0 (x0) ∧ k0 ≤ n0 + 1 ∧ (k0 = 0 ∨ w.heap.size ≤ y0) ∧ Nq w' K' y1 b1 k1 d1 ((if tk = 0 then x1 else 0)) ∧ k1 ≤ n1 + 1 ∧ (k1 = 0 ∨ w.heap.size ≤ y1) ∧ Nq w' K' y2 b2 k2 d2 ((if tk = 0 then subV x2 x1 else x2)) ∧ k2 ≤ n2 + 1 ∧ (k2 = 0 ∨ w.heap.size ≤ y2) ∧ Nq w' K' y3 b3 k3 d3 (x3) ∧ k3 ≤ n3 + 1 ∧ (k3 = 0 ∨ w.heap.size ≤ y3)
theorem ClE.cast {B : Nat} {w : World} {K : Nat → Prop} {g : Nat} {E : Ents} {W : List Ents} {n N : Nat} {rt tk un pe id x0 x1 x2 x3 pq : Int} {jl bo : Bool} {n0 n1 n2 n3 P : Nat} {args : Array Value} {E' : Ents} (h : Calls Tryz.prog P args w (ClE B w K g E W n N rt tk jl un bo pe id x0 x1 x2 x3 n0 n1 n2 n3)) (hp : (pe + 1) % 18446744073709551616 = pq) (hE : closeE E id pe tk x1 = E') : Calls Tryz.prog P args w (ClV B w K g E' W n N rt tk jl un bo pq x0 x1 x2 x3 n0 n1 n2 n3) := by
  subst hp hE
  exact h.mono fun e w' h => ⟨h.ex⟩
theorem SxF.castE {B : Nat} {w : World} {K : Nat → Prop} {g : Nat} {E : Ents} {W : List Ents} {n N : Nat} {P : Nat} {args : Array Value} {r : Value} {E' : Ents} (h : Calls Tryz.prog P args w (SxF B w K g E W n N r)) (hE : E = E') : Calls Tryz.prog P args w (SxF B w K g E' W n N r) := by
  subst hE
  exact h
theorem mv_lit {B : Nat} {w : World} {K : Nat → Prop} {g : Nat} {E : Ents} {W : List Ents} {n N : Nat} {P : Nat} {args : Array Value} {r r' : Int} {E' : Ents} (h : Calls Tryz.prog P args w (SxF B w K g E W n N (.int .i64 r))) (hE : E = E') (hr : r = r') : Calls Tryz.prog P args w (SxF B w K g E' W n N (.int .i64 r')) := by
  subst hE hr
  exact h
theorem get_lit {B : Nat} {w : World} {K : Nat → Prop} {g : Nat} {E : Ents} {W : List Ents} {n N : Nat} {P : Nat} {args : Array Value} {a b a' b' : Int} (h : Calls Tryz.prog P args w (SxE B w K g E W n N (.agg #[.int .u64 a, .int .u64 b]))) (ha : a = a') (hb : b = b') : Calls Tryz.prog P args w (SxE B w K g E W n N (.agg #[.int .u64 a', .int .u64 b'])) := by
  subst ha hb
  exact h
def e1 : Ents := put [] (Ky.mk 1 0 0) (pav 1 1 1 0 0 0 0 0 0 16)
def e2 : Ents := put e1 (Ky.mk 2 0 0) (cav 0 1)
def e3 : Ents := mintE e2 16 100
theorem setParams_l {B : Nat} {w : World} {K : Nat → Prop} {g : Nat} {W : List Ents} {n N : Nat}  (h : Sx B w K g [] W n N)  (hn : n ≤ 100000) (hN : N ≤ 100000) : Calls Tryz.prog 65 #[pg g, .agg #[.int .u64 1, .int .u64 1, .int .u64 1, .int .u64 0, .int .u64 0, .int .u64 0, .int .u64 0, .int .u64 0, .int .u64 0, .int .u64 16]] w (fun e w' => ∃ K' n' N', e = .returned (.tuple #[]) ∧ Sx B w' K' g e1 W n' N' ∧ n' ≤ n + 300 ∧ N' ≤ N + 300 ∧ (∀ b, K' b → K b ∨ w.heap.size ≤ b) ∧ Chg K w w') := by
  have U := ut_of h
  refine gc_enter (n := 9) Tryz.func65 rfl (by kernel_rfl) (by kernel_rfl) ?_
  refine gc_seq ?_
  refine gc_reg ?_
  refine ta 3 [.int .u64 1, .int .u64 1, .int .u64 1, .int .u64 0, .int .u64 0, .int .u64 0, .int .u64 0, .int .u64 0, .int .u64 0, .int .u64 16] 24 (pg) ?_
  intro v1 g2 Xg2 hg2 B
  replace U := U.new Xg2 hg2 B
  clear Xg2 hg2 B
  refine gl_nil ?_
  refine ge_then ?_
  replace U := U.drew
  refine gc_draw (fun w' => Blk w' g2 [.int .u64 1, .int .u64 1, .int .u64 1, .int .u64 0, .int .u64 0, .int .u64 0, .int .u64 0, .int .u64 0, .int .u64 0, .int .u64 16] 24) (fun _ => false) (U.bk 0 rfl) ?_
  refine z 0 4 (pg g) ?_
  refine zlr 2 6 [.int .u64 1, .int .u64 1, .int .u64 1, .int .u64 0, .int .u64 0, .int .u64 0, .int .u64 0, .int .u64 0, .int .u64 0, .int .u64 16] (fun _ h => h) 0 ?_
  refine zc 1 5 87 #[.int .i64 1, .int .u64 0, .int .u64 0] (sKey ⟨by decide, by decide⟩ (by kernel_rfl)) ?_
  rintro _ v5 ⟨kv4, rfl, Y3, B⟩
  replace U := U.keep B
  clear B
  refine ⟨_, rfl, (U.bk 0 rfl), ?_⟩
  refine zc 3 7 88 #[.agg #[.int .u64 1, .int .u64 1, .int .u64 1, .int .u64 0, .int .u64 0, .int .u64 0, .int .u64 0, .int .u64 0, .int .u64 0, .int .u64 16]] (putParams) ?_
  rintro _ v8 ⟨pv7, rfl, Y6, B⟩
  replace U := U.keep B
  replace Y3 := byu_keep Y3 B
  clear B
  refine ⟨_, rfl, (U.bk 0 rfl), ?_⟩
  refine zc 4 8 86 #[pg g, kv4, pv7] (SxE.castE (mk_s (by kernel_rfl) U.ta.sx Y3 Y6 pav_len (by omega) (by omega)) (show _ = e1 from rfl)) ?_
  rintro _ v10 ⟨rfl, K9, S, hK, hC⟩
  replace U := U.op S hK hC
  clear S hK hC
  clear Y3 Y6
  refine ⟨_, rfl, (U.bk 0 rfl), ?_⟩
  refine gz_done ?_
  refine ge_end (.tuple #[]) (rs0 (by kernel_rfl)) ?_
  exact ⟨_, _, _, rfl, U.ta.sx, by omega, by omega, U.ta.km, U.ta.cc⟩
theorem setChain_l {B : Nat} {w : World} {K : Nat → Prop} {g : Nat} {W : List Ents} {n N : Nat}  (h : Sx B w K g e1 W n N)  (hn : n ≤ 100000) (hN : N ≤ 100000) : Calls Tryz.prog 66 #[pg g, .agg #[.int .u64 0, .int .u64 1]] w (fun e w' => ∃ K' n' N', e = .returned (.tuple #[]) ∧ Sx B w' K' g e2 W n' N' ∧ n' ≤ n + 300 ∧ N' ≤ N + 300 ∧ (∀ b, K' b → K b ∨ w.heap.size ≤ b) ∧ Chg K w w') := by
  have U := ut_of h
  refine gc_enter (n := 9) Tryz.func66 rfl (by kernel_rfl) (by kernel_rfl) ?_
  refine gc_seq ?_
  refine gc_reg ?_
  refine ta 3 [.int .u64 0, .int .u64 1] 138 (pg) ?_
  intro v1 g2 Xg2 hg2 B
  replace U := U.new Xg2 hg2 B
  clear Xg2 hg2 B
  refine gl_nil ?_
  refine ge_then ?_
  replace U := U.drew
  refine gc_draw (fun w' => Blk w' g2 [.int .u64 0, .int .u64 1] 138) (fun _ => false) (U.bk 0 rfl) ?_
  refine z 0 4 (pg g) ?_
  refine zlr 2 6 [.int .u64 0, .int .u64 1] (fun _ h => h) 0 ?_
  refine zc 1 5 87 #[.int .i64 2, .int .u64 0, .int .u64 0] (sKey ⟨by decide, by decide⟩ (by kernel_rfl)) ?_
  rintro _ v5 ⟨kv4, rfl, Y3, B⟩
  replace U := U.keep B
  clear B
  refine ⟨_, rfl, (U.bk 0 rfl), ?_⟩
  refine zc 3 7 89 #[.agg #[.int .u64 0, .int .u64 1]] (putChain) ?_
  rintro _ v8 ⟨pv7, rfl, Y6, B⟩
  replace U := U.keep B
  replace Y3 := byu_keep Y3 B
  clear B
  refine ⟨_, rfl, (U.bk 0 rfl), ?_⟩
  refine zc 4 8 86 #[pg g, kv4, pv7] (SxE.castE (mk_s (by kernel_rfl) U.ta.sx Y3 Y6 cav_len (by omega) (by omega)) (show _ = e2 from rfl)) ?_
  rintro _ v10 ⟨rfl, K9, S, hK, hC⟩
  replace U := U.op S hK hC
  clear S hK hC
  clear Y3 Y6
  refine ⟨_, rfl, (U.bk 0 rfl), ?_⟩
  refine gz_done ?_
  refine ge_end (.tuple #[]) (rs0 (by kernel_rfl)) ?_
  exact ⟨_, _, _, rfl, U.ta.sx, by omega, by omega, U.ta.km, U.ta.cc⟩
end Fo
end Go.Proofs.YtpoifdokmjhclaaGreat

namespace Go.Proofs.YtpoifdokmjhclaaGreat
namespace Gl
open Go.RowKit Go.Lib Pg
def sameL (n : Nat) (L L' : List Nat) : Bool := (List.range n).all fun i => hasL L i == hasL L' i
theorem arr_same {n : Nat} {L L' : List Nat} (h : sameL n L L' = true) : arr n L = arr n L' := by
  unfold arr
  rw [List.map_congr_left fun i hi => by have := List.all_eq_true.1 h i hi; simpa using this]
section
variable {P : Program} {n : Nat} {ds : List Deferred} {ops : Array Oper} {Q : Exit → Act → World → Prop} {S : World → Prop} {Z : Nat → Bool} {fuel : Nat} {L : List Nat} {l : Fr} {w : World}
theorem gz_join {α : Type} (L' : List Nat) (k : Nat) (fr : α → Fr) (F : α → World → Prop) (h1 : (∀ s w', F s w' → GZ P n ds ops Q S Z k L' (fr s) w') → GZ P n ds ops Q S Z fuel L l w) (h2 : ∀ s w', F s w' → GZ P n ds ops Q S Z k L' (fr s) w') : GZ P n ds ops Q S Z fuel L l w := h1 h2
theorem gz_to {α : Type} {L' : List Nat} {fr : α → Fr} {F : α → World → Prop} (J : ∀ s w', F s w' → GZ P n ds ops Q S Z fuel L' (fr s) w') (s : α) (hF : F s w) (hl : (fr s).map (fun p => lk l p.1) = (fr s).map (fun p => some p.2) := by kernel_rfl) (hL : sameL ops.size L L' = true := by kernel_rfl) : GZ P n ds ops Q S Z fuel L l w := ⟨fun ok hS a r => by rw [arr_same hL]; exact (J s w hF).out ok hS a (r.sub (sub_of hl))⟩
end
end Gl
end Go.Proofs.YtpoifdokmjhclaaGreat
