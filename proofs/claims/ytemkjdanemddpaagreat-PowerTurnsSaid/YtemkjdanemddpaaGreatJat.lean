/- Several texts, joined: PwA, PwB, PwC, PtG, PwF. -/
import Derived.Test.YtemkjdanemddpaaGreatJas
import Derived.Test.YtemkjdanemddpaaGreatJai
namespace Go.Proofs.YtemkjdanemddpaaGreat
namespace Pw
open Go.RowKit Go.Lib Pg Lim Gl Kv Bk
attribute [local go_sem] Oper.semAt_some
set_option maxRecDepth 100000
set_option linter.unusedVariables false
set_option maxHeartbeats 2000000
theorem mk_key {w : World} {k a b : Int} (ha : 0 ≤ a ∧ a < 18446744073709551616) (hE : Ky.mkE k a b = false) : Calls Tryz.prog 39 #[.agg #[.int .i64 k, .int .u64 a, .int .u64 b]] w fun e w' => ∃ v, e = .returned (.tuple #[v, .int .i64 0]) ∧ ByU w' v (Ky.mk k a b) ∧ Below w.heap.size w w' := by
  have u := Ky.make_any (w := w) (k := k) (b := b) ha.1 ha.2
  rw [hE] at u
  refine u.mono ?_
  rintro e w' ⟨v, rfl, O, B⟩
  exact ⟨v, rfl, ByU.of O, B⟩
theorem byu_nil (w : World) : ByU w (.slice none 0 0) [] := ⟨⟨none, 0, rfl, Nat.le_refl _, by decide, fun _ => rfl, fun x h => by simp at h, .inl rfl⟩, fun b o n c e => by cases e⟩
theorem mk_pos {k a b : Int} (_hE : Ky.mkE k a b = false) : 0 < (Ky.mk k a b).length := by
  rw [Ky.mk_eq (k := k) (n := (Ky.frm k).1) (m0 := (Ky.frm k).2.1) (m1 := (Ky.frm k).2.2) rfl]
  simp
theorem set_mk {k a b : Int} (hE : Ky.mkE k a b = false) : setE (Ky.mk k a b) [] = 0 := by
  have h1 := mk_pos hE
  have h2 := Ky.mk_len k a b
  unfold setE
  rw [if_neg (by omega), if_neg (by simp)]
theorem mset {B : Nat} {w : World} {K : Nat → Prop} {g : Nat} {E : Ents} {W : List Ents} {n N : Nat} {kv : Value} {k a b : Int} (h : Sx B w K g E W n N) (hk : ByU w kv (Ky.mk k a b)) (hE : Ky.mkE k a b = false) (hn : n ≤ 4000000000000000000) (hN : N + 2 ≤ 100000000) :
    Calls Tryz.prog 41 #[pg g, kv, .slice none 0 0] w (SxE B w K g (put E (Ky.mk k a b) []) W (n + 1) (N + 2) (.int .i64 0)) := by
  have u := xset h hk (byu_nil w) hn hN
  rw [set_mk hE, if_pos rfl] at u
  exact u
theorem mark_on {B : Nat} {w : World} {K : Nat → Prop} {g : Nat} {E : Ents} {W : List Ents} {n N : Nat} {k a b : Int} (h : Sx B w K g E W n N) (ha : 0 ≤ a ∧ a < 18446744073709551616) (hE : Ky.mkE k a b = false) (hn : n + 5 ≤ 4000000000000000000) (hN : N + 5 ≤ 100000000) : Calls Tryz.prog 26 #[pg g, .agg #[.int .i64 k, .int .u64 a, .int .u64 b], .bool true] w (SxE B w K g (put E (Ky.mk k a b) []) W (n + 1) (N + 2) (.tuple #[])) := by
  have A := h.at
  refine gc_enter (n := 21) Tryz.func26 rfl (by kernel_rfl) (by kernel_rfl) ?_
  refine gc_seq ?_
  refine gc_reg ?_
  refine ta 4 [.int .i64 k, .int .u64 a, .int .u64 b] 64 (pg) ?_
  intro v1 g2 Xg2 hg2 B
  have zg2 := Nat.le_trans A.size hg2
  have nXg2 := A.new hg2
  replace A := A.keep B
  clear B
  refine gl_nil ?_
  refine ge_then ?_
  refine gc_seq ?_
  refine gc_reg ?_
  refine tlr 9 [.int .i64 k, .int .u64 a, .int .u64 b] Xg2 0 ?_
  refine tc 10 39 #[.agg #[.int .i64 k, .int .u64 a, .int .u64 b]] (mk_key ha hE) ?_
  rintro _ v5 ⟨kv4, rfl, U3, B⟩
  refine ⟨_, rfl, ?_⟩
  replace A := A.keep B
  replace Xg2 := Xg2.keep B
  clear B
  refine t 8 (.tuple #[kv4, .int .i64 0]) ?_
  refine t 11 (kv4) ?_
  refine t 12 (.int .i64 0) ?_
  refine t 6 (kv4) ?_
  refine t 7 (.int .i64 0) ?_
  refine gl_nil ?_
  refine ge_then ?_
  refine gc_seq ?_
  refine gc_seq ?_
  refine gc_reg ?_
  refine t 13 (.bool true) ?_
  refine t 14 (.bool false) ?_
  refine gl_nil ?_
  refine ge_then ?_
  refine gc_fr [(0, pg g), (6, kv4), (14, .bool false)] (by kernel_rfl) ?_
  refine gc_no ?_
  refine gc_skip ?_
  refine ge_then ?_
  refine gc_reg ?_
  refine t 18 (pg g) ?_
  refine t 19 (kv4) ?_
  refine tc 20 41 #[pg g, kv4, .slice none 0 0] (mset A.sx U3 hE (by omega) (by omega)) ?_
  rintro _ v7 ⟨rfl, K6, S, hK, hC⟩
  refine ⟨_, rfl, ?_⟩
  have mXg2 := not_op Xg2 nXg2 hK
  replace Xg2 := Xg2.chg hC nXg2
  replace nXg2 := mXg2
  clear mXg2
  replace U3 := A.byu U3 hC
  replace A := A.op S hK hC
  clear S hK hC
  clear U3
  refine gl_nil ?_
  refine ge_end (.tuple #[]) (rs0 (by kernel_rfl)) ?_
  exact ⟨rfl, _, A.sx, A.km, A.cc⟩
theorem mark_off {B : Nat} {w : World} {K : Nat → Prop} {g : Nat} {E : Ents} {W : List Ents} {n N : Nat} {k a b : Int} (h : Sx B w K g E W n N) (ha : 0 ≤ a ∧ a < 18446744073709551616) (hE : Ky.mkE k a b = false) (hn : n + 5 ≤ 4000000000000000000) (hN : N + 5 ≤ 100000000) : Calls Tryz.prog 26 #[pg g, .agg #[.int .i64 k, .int .u64 a, .int .u64 b], .bool false] w (SxE B w K g (rem E (Ky.mk k a b)) W (n + 1) (N + 2) (.tuple #[])) := by
  have A := h.at
  refine gc_enter (n := 21) Tryz.func26 rfl (by kernel_rfl) (by kernel_rfl) ?_
  refine gc_seq ?_
  refine gc_reg ?_
  refine ta 4 [.int .i64 k, .int .u64 a, .int .u64 b] 64 (pg) ?_
  intro v1 g2 Xg2 hg2 B
  have zg2 := Nat.le_trans A.size hg2
  have nXg2 := A.new hg2
  replace A := A.keep B
  clear B
  refine gl_nil ?_
  refine ge_then ?_
  refine gc_seq ?_
  refine gc_reg ?_
  refine tlr 9 [.int .i64 k, .int .u64 a, .int .u64 b] Xg2 0 ?_
  refine tc 10 39 #[.agg #[.int .i64 k, .int .u64 a, .int .u64 b]] (mk_key ha hE) ?_
  rintro _ v5 ⟨kv4, rfl, U3, B⟩
  refine ⟨_, rfl, ?_⟩
  replace A := A.keep B
  replace Xg2 := Xg2.keep B
  clear B
  refine t 8 (.tuple #[kv4, .int .i64 0]) ?_
  refine t 11 (kv4) ?_
  refine t 12 (.int .i64 0) ?_
  refine t 6 (kv4) ?_
  refine t 7 (.int .i64 0) ?_
  refine gl_nil ?_
  refine ge_then ?_
  refine gc_seq ?_
  refine gc_seq ?_
  refine gc_reg ?_
  refine t 13 (.bool false) ?_
  refine t 14 (.bool true) ?_
  refine gl_nil ?_
  refine ge_then ?_
  refine gc_fr [(0, pg g), (6, kv4), (14, .bool true)] (by kernel_rfl) ?_
  refine gc_yes ?_
  refine gc_seq ?_
  refine gc_reg ?_
  refine t 15 (pg g) ?_
  refine t 16 (kv4) ?_
  refine tc 17 40 #[pg g, kv4] (xdel A.sx U3 (Nat.le_trans (Ky.mk_len _ _ _) (by decide)) (by omega) (by omega)) ?_
  rintro _ v7 ⟨rfl, K6, S, hK, hC⟩
  refine ⟨_, rfl, ?_⟩
  have mXg2 := not_op Xg2 nXg2 hK
  replace Xg2 := Xg2.chg hC nXg2
  replace nXg2 := mXg2
  clear mXg2
  replace U3 := A.byu U3 hC
  replace A := A.op S hK hC
  clear S hK hC
  clear U3
  refine gl_nil ?_
  refine ge_then ?_
  refine gc_ret ?_
  refine ge_tr ?_
  refine ge_ret (.tuple #[]) (rs0 (by kernel_rfl)) ?_
  exact ⟨rfl, _, A.sx, A.km, A.cc⟩
theorem place_any {w : World} {v tk : Int} : Calls Tryz.prog 27 #[.int .u64 v, .int .u64 tk] w fun e w' => e = .returned (.agg #[.int .i64 10, .int .u64 tk, .int .u64 v]) ∧ Below w.heap.size w w' := by
  have BB := Below.refl w.heap.size w
  refine gc_enter (n := 8) Tryz.func27 rfl (by kernel_rfl) (by kernel_rfl) ?_
  refine gc_seq ?_
  refine gc_reg ?_
  refine ta 4 [.int .i64 0, .int .u64 0, .int .u64 0] 64 (pg) ?_
  intro v1 g2 Xg2 hg2 B
  replace BB := joinB BB B
  clear B
  refine gl_nil ?_
  refine ge_then ?_
  refine gc_seq ?_
  refine gc_reg ?_
  refine t 5 (.int .u64 tk) ?_
  refine t 6 (.int .u64 v) ?_
  refine t 7 (.agg #[.int .i64 10, .int .u64 tk, .int .u64 v]) ?_
  refine ts Xg2 0 (.agg #[.int .i64 10, .int .u64 tk, .int .u64 v]) [.int .i64 10, .int .u64 tk, .int .u64 v] [.int .i64 10, .int .u64 tk, .int .u64 v] ?_
  intro v3 Y C
  replace BB := belowC BB C (by omega)
  clear C Xg2
  have Xg2 := Y
  clear Y
  refine gl_nil ?_
  refine ge_then ?_
  refine gc_ret ?_
  refine ge_ret (.agg #[.int .i64 10, .int .u64 tk, .int .u64 v]) (rsc 4 (T := 64) (by kernel_rfl) (by kernel_rfl) (lr Xg2 0)) ?_
  exact ⟨rfl, BB⟩
theorem mkE10 (tk v : Int) : Ky.mkE 10 tk v = false := by
  unfold Ky.mkE
  rw [show (Ky.frm 10).1 = 17 from rfl]
  simp
theorem mkE11 (v : Int) : Ky.mkE 11 v 0 = false := by
  unfold Ky.mkE
  rw [show (Ky.frm 11).1 = 9 from rfl]
  simp
theorem put_any {B : Nat} {w : World} {K : Nat → Prop} {g : Nat} {E : Ents} {W : List Ents} {n N : Nat} {v tk : Int} (h : Sx B w K g E W n N) (htk : 0 ≤ tk ∧ tk < 18446744073709551616) (hn : n + 5 ≤ 4000000000000000000) (hN : N + 5 ≤ 100000000) : Calls Tryz.prog 8 #[pg g, .int .u64 v, .int .u64 tk] w (SxE B w K g (put E (Ky.mk 10 tk v) []) W (n + 1) (N + 2) (.tuple #[])) := by
  have A := h.at
  refine gc_enter (n := 11) Tryz.func8 rfl (by kernel_rfl) (by kernel_rfl) ?_
  refine gc_reg ?_
  refine t 6 (pg g) ?_
  refine t 7 (.int .u64 v) ?_
  refine t 8 (.int .u64 tk) ?_
  refine tc 9 27 #[.int .u64 v, .int .u64 tk] (place_any) ?_
  rintro _ v1 ⟨rfl, B⟩
  refine ⟨_, rfl, ?_⟩
  replace A := A.keep B
  clear B
  refine tc 10 26 #[pg g, .agg #[.int .i64 10, .int .u64 tk, .int .u64 v], .bool true] (mark_on A.sx htk (mkE10 tk v) (by omega) (by omega)) ?_
  rintro _ v3 ⟨rfl, K2, S, hK, hC⟩
  refine ⟨_, rfl, ?_⟩
  replace A := A.op S hK hC
  clear S hK hC
  refine gl_nil ?_
  refine ge_end (.tuple #[]) (rs0 (by kernel_rfl)) ?_
  exact ⟨rfl, _, A.sx, A.km, A.cc⟩
theorem drop_any {B : Nat} {w : World} {K : Nat → Prop} {g : Nat} {E : Ents} {W : List Ents} {n N : Nat} {v tk : Int} (h : Sx B w K g E W n N) (htk : 0 ≤ tk ∧ tk < 18446744073709551616) (hn : n + 5 ≤ 4000000000000000000) (hN : N + 5 ≤ 100000000) : Calls Tryz.prog 10 #[pg g, .int .u64 v, .int .u64 tk] w (SxE B w K g (rem E (Ky.mk 10 tk v)) W (n + 1) (N + 2) (.tuple #[])) := by
  have A := h.at
  refine gc_enter (n := 11) Tryz.func10 rfl (by kernel_rfl) (by kernel_rfl) ?_
  refine gc_reg ?_
  refine t 6 (pg g) ?_
  refine t 7 (.int .u64 v) ?_
  refine t 8 (.int .u64 tk) ?_
  refine tc 9 27 #[.int .u64 v, .int .u64 tk] (place_any) ?_
  rintro _ v1 ⟨rfl, B⟩
  refine ⟨_, rfl, ?_⟩
  replace A := A.keep B
  clear B
  refine tc 10 26 #[pg g, .agg #[.int .i64 10, .int .u64 tk, .int .u64 v], .bool false] (mark_off A.sx htk (mkE10 tk v) (by omega) (by omega)) ?_
  rintro _ v3 ⟨rfl, K2, S, hK, hC⟩
  refine ⟨_, rfl, ?_⟩
  replace A := A.op S hK hC
  clear S hK hC
  refine gl_nil ?_
  refine ge_end (.tuple #[]) (rs0 (by kernel_rfl)) ?_
  exact ⟨rfl, _, A.sx, A.km, A.cc⟩
theorem bond_on {B : Nat} {w : World} {K : Nat → Prop} {g : Nat} {E : Ents} {W : List Ents} {n N : Nat} {v : Int} (h : Sx B w K g E W n N) (hv : 0 ≤ v ∧ v < 18446744073709551616) (hn : n + 5 ≤ 4000000000000000000) (hN : N + 5 ≤ 100000000) : Calls Tryz.prog 12 #[pg g, .int .u64 v, .bool true] w (SxE B w K g (put E (Ky.mk 11 v 0) []) W (n + 1) (N + 2) (.tuple #[])) := by
  have A := h.at
  refine gc_enter (n := 11) Tryz.func12 rfl (by kernel_rfl) (by kernel_rfl) ?_
  refine gc_reg ?_
  refine t 6 (pg g) ?_
  refine t 7 (.int .u64 v) ?_
  refine t 8 (.agg #[.int .i64 11, .int .u64 v, .int .u64 0]) ?_
  refine t 9 (.bool true) ?_
  refine tc 10 26 #[pg g, .agg #[.int .i64 11, .int .u64 v, .int .u64 0], .bool true] (mark_on A.sx hv (mkE11 v) (by omega) (by omega)) ?_
  rintro _ v2 ⟨rfl, K1, S, hK, hC⟩
  refine ⟨_, rfl, ?_⟩
  replace A := A.op S hK hC
  clear S hK hC
  refine gl_nil ?_
  refine ge_end (.tuple #[]) (rs0 (by kernel_rfl)) ?_
  exact ⟨rfl, _, A.sx, A.km, A.cc⟩
theorem bond_off {B : Nat} {w : World} {K : Nat → Prop} {g : Nat} {E : Ents} {W : List Ents} {n N : Nat} {v : Int} (h : Sx B w K g E W n N) (hv : 0 ≤ v ∧ v < 18446744073709551616) (hn : n + 5 ≤ 4000000000000000000) (hN : N + 5 ≤ 100000000) : Calls Tryz.prog 12 #[pg g, .int .u64 v, .bool false] w (SxE B w K g (rem E (Ky.mk 11 v 0)) W (n + 1) (N + 2) (.tuple #[])) := by
  have A := h.at
  refine gc_enter (n := 11) Tryz.func12 rfl (by kernel_rfl) (by kernel_rfl) ?_
  refine gc_reg ?_
  refine t 6 (pg g) ?_
  refine t 7 (.int .u64 v) ?_
  refine t 8 (.agg #[.int .i64 11, .int .u64 v, .int .u64 0]) ?_
  refine t 9 (.bool false) ?_
  refine tc 10 26 #[pg g, .agg #[.int .i64 11, .int .u64 v, .int .u64 0], .bool false] (mark_off A.sx hv (mkE11 v) (by omega) (by omega)) ?_
  rintro _ v2 ⟨rfl, K1, S, hK, hC⟩
  refine ⟨_, rfl, ?_⟩
  replace A := A.op S hK hC
  clear S hK hC
  refine gl_nil ?_
  refine ge_end (.tuple #[]) (rs0 (by kernel_rfl)) ?_
  exact ⟨rfl, _, A.sx, A.km, A.cc⟩
end Pw
end Go.Proofs.YtemkjdanemddpaaGreat

namespace Go.Proofs.YtemkjdanemddpaaGreat
namespace Pw
open Go.RowKit Go.Lib Pg Kv Bk
attribute [local go_sem] Oper.semAt_some
def TpU (t : TypeId) : Prop := t = 31
/-- what keys of a kind hold, in their order -/
def pks (r : Nat) (m0 : Int) (E : Ents) : List (Int × Int) := (E.filter (fun x => decide ([m0] <+: x.1))).map (fun x => (Ky.rdA r x.1, Ky.rdB x.1))
def ArP (r : Nat) (ps : List (Int × Int)) (i : Nat) (args : Array Value) (_ : Nat) (_ : World) : Prop := ∃ c, ps[i]? = some c ∧ args = #[.agg #[.int .i64 (r : Int), .int .u64 c.1, .int .u64 c.2]]
theorem of10 (w : World) : Calls Tryz.prog 47 #[.int .i64 (10 : Nat)] w fun e w' => ∃ v, e = .returned (.tuple #[v, .int .i64 0]) ∧ OB w' (w.heap.size ≤ ·) v [105] ∧ Below w.heap.size w w' := Ky.of_any (k := 10)
theorem of11 (w : World) : Calls Tryz.prog 47 #[.int .i64 (11 : Nat)] w fun e w' => ∃ v, e = .returned (.tuple #[v, .int .i64 0]) ∧ OB w' (w.heap.size ≤ ·) v [98] ∧ Below w.heap.size w w' := Ky.of_any (k := 11)
theorem marked_mk {w : World} {p : Option Addr} {r : Nat} : Calls Tryz.prog 32 #[.pointer p, .int .i64 r] w fun e w' => ∃ bs bk, e = .returned (.func (.func 46) #[] #[.pointer (some ⟨bk, 0, none⟩), .pointer (some ⟨bs, 0, none⟩)]) ∧ w.heap.size ≤ bs ∧ w.heap.size ≤ bk ∧ Blk w' bs [.pointer p] 24 ∧ Blk w' bk [.int .i64 r] 3 ∧ Below w.heap.size w w' := by
  have b1 := below_alloc w (.cells #[.pointer p] 24)
  have c1 := blk_new w [.pointer p] 24
  have b2 := below_alloc (w.alloc (.cells #[.pointer p] 24)) (.cells #[.int .i64 r] 3)
  have c2 := blk_new (w.alloc (.cells #[.pointer p] 24)) [.int .i64 r] 3
  go_enter Tryz.func32, Tryz.ntmps32
  go_wp2
  go_ret
  exact ⟨_, _, rfl, Nat.le_refl _, by simp, c1.keep b2, by simpa using c2, joinB b1 b2⟩
set_option maxHeartbeats 8000000 in
set_option maxRecDepth 100000 in
theorem marked_itr {W0 : World} {K D X : Nat → Prop} {g bk bs x0 N r : Nat} {m0 : Int} {E : Ents} {Wn : List Ents} (hS : SA W0 K D g E Wn x0 N) (hbs : Blk W0 bs [.pointer (some ⟨g, 0, none⟩)] 24) (hXb : ¬ X bs) (hbk : Blk W0 bk [.int .i64 r] 3) (hXk : ¬ X bk) (hr : r < 18) (hr0 : 0 < r) (hOf : ∀ w, Calls Tryz.prog 47 #[.int .i64 r] w fun e w' => ∃ v, e = .returned (.tuple #[v, .int .i64 0]) ∧ OB w' (w.heap.size ≤ ·) v [m0] ∧ Below w.heap.size w w') (hRk : ∀ x ∈ E, [m0] <+: x.1 → Ky.frm r = Ky.fIn x.1) (hX1 : ∀ b, X b → b = g ∨ ¬ K b) (hXl : ∀ b, X b → b < W0.heap.size) (hN : N ≤ 100000000) (hx : x0 + N ≤ 2000000000000000000) :
    ItrE W0 TpU g x0 46 #[.pointer (some ⟨bk, 0, none⟩), .pointer (some ⟨bs, 0, none⟩)] (pks r m0 E).length (ArP r (pks r m0 E)) (RdS W0 X K D g E Wn N) := by
  intro l J0 J Jt Jx W hNB hW0 hS0 hSJ hSt hSx hgW hJ0 hJ hY h0
  obtain ⟨_, _, ⟨c0, u0, xx, s0⟩, _⟩ := hJ0 _ h0
  have B1 := below_alloc W (.cells #[.func (.yield l) #[] #[]] 101)
  have Y1 := blk_new W [.func (.yield l) #[] #[]] 101
  have s1 : (W.alloc (.cells #[.func (.yield l) #[] #[]] 101)).heap.size = W.heap.size + 1 := by simp
  obtain ⟨Wa, hWa⟩ : ∃ Wa, Hid (W.alloc (.cells #[.func (.yield l) #[] #[]] 101) = Wa) := ⟨_, rfl⟩
  rw [hWa.out] at B1 Y1 s1
  have bsW := hbs.chg c0 hXb
  have cK : (W.alloc (.cells #[.func (.yield l) #[] #[]] 101)).cell? ⟨bk, 0, none⟩ = some (.int .i64 r) := by rw [hWa.out]; exact ((hbk.chg c0 hXk).keep B1).cell (i := 0) rfl
  have hK0 : ∀ b, K b → b < W0.heap.size := fun b hb => hS.lt hb
  have HX' : Hid (∀ b, (X b ∨ (W0.heap.size ≤ b ∧ b < W.heap.size)) → b = g ∨ ¬ K b) := hid3 (fun b hb => hb.elim (hX1 b) (fun h => .inr (fun hk => by have := hK0 b hk; omega)))
  have HXl : Hid (∀ b, (X b ∨ (W0.heap.size ≤ b ∧ b < W.heap.size)) → b < W.heap.size) := hid3 (fun b hb => hb.elim (fun h => Nat.lt_of_lt_of_le (hXl b h) hW0) (fun h => h.2))
  have HXU : Hid (∀ b, (X b ∨ (W0.heap.size ≤ b ∧ b < W.heap.size)) → ∀ cs, ¬ Blk W b cs 5) := hid3 (fun b hb => hb.elim (u0 b) (fun h => hNB b h.1))
  have HY := hid3 hY
  have HJ := hid3 hJ
  have HJ0 := hid3 hJ0
  have H0 := hid3 h0
  have HS := hid3 s0
  have HC0 := hid3 c0
  have HB1 := hid3 B1
  have HY1 := hid3 Y1
  have HBS := hid3 bsW
  clear hJ0 hJ hY h0 s0 c0 B1 Y1 bsW hNB u0
  refine (callsIn_wide (n := 0)).1 ?_
  refine callsIn_of_wp_marks Tryz.func46 rfl trivial ?_ rfl
  simp only [Tryz.ntmps46, List.size_toArray, List.length_cons, List.length_nil, Nat.reduceAdd, Nat.reduceSub, Array.replicate_succ, Array.replicate_zero, List.push_toArray, List.append_toArray, List.nil_append, List.cons_append]
  gi_wp2_with first
    | (refine ⟨trivial, rfl, ?_⟩; gi_at_call 47; rw [hWa.out]; refine (callsIn_wide.2 (hOf _)).mono ?_; rintro e' w1 ⟨v1, rfl, O1, B2⟩; have cB := (HBS.out.keep (joinB HB1.out B2)).cell (i := 0) rfl; have tP := sprefixG (Tp := TpU) (X := fun b => X b ∨ (W0.heap.size ≤ b ∧ b < W.heap.size)) (HS.out.keep (joinB HB1.out B2)) hN O1.by (by simp) HX'.out (fun b hb cs k => HXU.out b hb cs ⟨by rw [← (joinB HB1.out B2).block b (HXl.out b hb)]; exact k.blk⟩) (fun b hb => Nat.lt_of_lt_of_le (HXl.out b hb) (joinB HB1.out B2).size) (by unfold TpU; decide) (by unfold TpU; decide); obtain ⟨pa, pc, rfl⟩ := O1.shape)
    | (refine ⟨trivial, rfl, ?_⟩; gi_at_call 48; refine (callsIn_wide.2 tP).mono ?_; rintro e' w2 ⟨v2, EL, rfl, IG, hEL, B3⟩; obtain ⟨bs1, bs2, bw, W1, rfl, IT, hRd, hb1, hb2⟩ := IG.ex; have hsm := IG.small; clear tP IG)
  have BW := joinB (joinB HB1.out B2) B3
  have hw1 : W.heap.size + 1 ≤ w1.heap.size := by have := B2.size; omega
  have hw2 : W.heap.size + 1 ≤ w2.heap.size := Nat.le_trans hw1 B3.size
  have YB := (HY1.out.keep B2).keep B3
  have hlen : (pks r m0 E).length = EL.length := by simp [pks, ← hEL]
  have hle : EL.length ≤ N := by
    have h1 := HS.out.size
    have h2 : (EL.map En.kl2).length ≤ E.length := by rw [hEL]; exact List.length_filter_le _ _
    rw [List.length_map] at h2
    omega
  have ITC := counted_itr (g := g) (bs1 := bs1) (bs2 := bs2) (x0 := x0) IT (by unfold TpU; decide) (by omega)
  have J2 := hS0 _ _ H0.out (Rec.of BW)
  have E2 : Ext W.heap.size w2 w2 := ⟨fun _ _ _ => rfl, Nat.le_refl _⟩
  have RDC : Hid (∀ V, RdS W0 X K D g E Wn N V → Ext W.heap.size w2 V → RdC (fun b => X b ∨ (W0.heap.size ≤ b ∧ b < W.heap.size)) W1 g bs1 bs2 bw V) := hid3 (fun V hR hE => by
    obtain ⟨c1, _, x, s1⟩ := hR
    obtain ⟨r1, r2, r3, _⟩ := hRd
    refine ⟨⟨?_, ?_, ?_, Nat.le_trans r1.size hE.2, fun b hb hn => ?_⟩, hE.blk r2 (by omega), hE.blk r3 (by omega), s1.kv⟩
    · rw [c1.os, ← HC0.out.os, ← BW.os, r1.os]
    · rw [c1.tape, ← HC0.out.tape, ← BW.tape, r1.tape]
    · rw [c1.output, ← HC0.out.output, ← BW.output, r1.output]
    · rw [← r1.same b hb hn]
      rw [not_or] at hn
      rcases Nat.lt_or_ge b W0.heap.size with h1 | h1
      · rw [c1.same b h1 hn.1, BW.block b (by omega), HC0.out.same b h1 hn.1]
      · exact hE.1 b (by omega) (Nat.lt_of_lt_of_le hb r1.size))
  have HEL := hid3 hEL
  have HSM := hid3 hsm
  have HYB := hid3 YB
  clear hEL hsm YB B2 B3 hRd O1 cB IT BW HB1 HY1
  refine rf_outerC ITC (by rfl) (enters_of Tryz.func93 (by kernel_rfl) rfl) (fun i args n V V' h hc => h.cel hc) (fun i args n V h => by obtain ⟨e, kv, vv, s, _, rfl, _⟩ := h; rfl)
    (fun V => J0 V ∧ Ext W.heap.size w2 V)
    (fun i V => J w2 i V ∧ Ext W.heap.size w2 V)
    (fun i V => Jt w2 i V ∧ Ext W.heap.size w2 V)
    (fun c i V => c = .ret ∧ Jx w2 i V ∧ w2.heap.size ≤ V.heap.size)
    (fun A B hx hr => ⟨hS0 A B hx.1 (hr.mono (by omega)), hx.2.rcd hr⟩)
    (fun i A B hx hr => ⟨hSJ w2 i A B hx.1 (hr.mono (by omega)), hx.2.rcd hr⟩)
    (fun i A B hx hr => ⟨hSt w2 i A B hx.1 (hr.mono (by omega)), hx.2.rcd hr⟩)
    (fun c i A B hx hr => ⟨hx.1, hSx w2 i A B hx.2.1 (hr.mono (by omega)), Nat.le_trans hx.2.2 hr.size⟩)
    (by omega)
    (fun V hv => by obtain ⟨q1, q2, q3, q4⟩ := HJ0.out V hv.1; exact ⟨q1, q2, RDC.out V q3 hv.2, q4 w2 (by omega) (ExtC.of hv.2), hv.2.tick hgW⟩)
    (fun i V hv => by obtain ⟨q1, q2, q3, q5, q4⟩ := HJ.out w2 i V hv.1; exact ⟨q1, q2, RDC.out V q3 hv.2, fun hi => ⟨q4 (by omega), hv.2.tick hgW⟩⟩)
    ⟨J2, E2⟩ ?_ ?_ ?_
  · rintro l2 i args V Wv hl hlV hrec hiN ⟨hJi, hExt⟩ hb ⟨e0, kv, vv, s0, he0, rfl, hk0, hv0, _⟩
    obtain ⟨ak0, nk, hk1⟩ := hk0.shape
    obtain ⟨av, nv, hv1⟩ := hv0.shape
    subst hk1 hv1
    simp
    gi_wp2
    refine ⟨Below.refl _ _, ?_⟩
    intro V2 W2 hJ2 hExt2 hb2 hAr2 hoth hsz3 hV2 rl hrec2
    obtain ⟨e1, kv1, vv1, t1, he1, harr, hk2, hv2, ht1⟩ := hAr2
    obtain rfl : e1 = e0 := by rw [he0] at he1; cases he1; rfl
    simp at harr
    obtain ⟨rfl, rfl⟩ := harr
    have hmE : e1.kl2 ∈ E.filter (fun x => decide ([m0] <+: x.1)) := by rw [← HEL.out]; exact List.mem_map.2 ⟨e1, List.mem_of_getElem? he0, rfl⟩
    have hfr := hRk _ (List.mem_filter.1 hmE).1 (of_decide_eq_true (List.mem_filter.1 hmE).2)
    have tA := Ky.read_yes hk2.by (HSM.out e1 (List.mem_of_getElem? he0)).1 hr hr0 hfr
    have hci : (pks r m0 E)[i]? = some (Ky.rdA r e1.kl, Ky.rdB e1.kl) := by simp [pks, ← HEL.out, he0, En.kl2]
    have yB := hExt2.blk HYB.out (Nat.le_refl _)
    have HE2 := hid3 hExt2
    have HYY := hid3 (HY.out w2 i #[.agg #[.int .i64 (r : Int), .int .u64 (Ky.rdA r e1.kl), .int .u64 (Ky.rdB e1.kl)]] V2)
    have HJT := hid3 hJ2
    have HB2 := hid3 hb2
    have hs2 : w2.heap.size ≤ V2.heap.size := hExt2.2
    have hs3 : V2.heap.size ≤ W2.heap.size := hb2.size
    have HYV := hid3 (yB.keep hb2)
    have HCI := hid3 hci
    clear hmE hfr hJi hExt hb hk0 hv0 hk2 hv2 hoth hExt2 hJ2 hb2 yB he1 he0 ht1 hci
    obtain ⟨cc, hcc⟩ : ∃ cc, Hid (Ky.rdA r e1.kl = cc) := ⟨_, rfl⟩
    obtain ⟨ss, hss⟩ : ∃ ss, Hid (Ky.rdB e1.kl = ss) := ⟨_, rfl⟩
    simp only [hcc.out, hss.out] at tA HYY HCI
    gi_wp2_with (refine ⟨trivial, rfl, ?_⟩; gi_at_call 49; refine (CallsIn.inRound l2 (callsIn_wide.2 tA)).mono ?_; rintro e' w3 ⟨rfl, B3⟩; clear tA; have B4 := below_alloc w3 (.cells #[.int .i64 (r : Int), .int .u64 cc, .int .u64 ss] 64); have yC := (HYV.out.keep (joinB B3 B4)).cell (i := 0) rfl; have hYY := HYY.out _ (by omega) (by omega) HJT.out (by omega) (joinB HB2.out (joinB B3 B4)) ⟨_, HCI.out, rfl⟩; obtain ⟨fn, tmps, assign, body, hy, hR⟩ := hYY; have hR2 : RoundIn (Fence.wide.inRound l2) 0 Tryz.prog l fn tmps assign body (w3.alloc (.cells #[.int .i64 (r : Int), .int .u64 cc, .int .u64 ss] 64)) _ := ⟨hR.1, fun c cs _ => hR.2 c cs (fun _ h => by cases h)⟩; have HR := hid3 hR2; have HK := hid3 (joinB B3 B4); clear hR hR2 B3 B4)
    refine ⟨rfl, HR.out.mono ?_⟩
    rintro e' w5 ⟨hk5, h5⟩
    have hkk : KeepsT TpU W.heap.size W2 w5 := (KeepsT.of HK.out).trans hk5
    have hk2 : KeepsT TpU w2.heap.size W2 w5 := hkk.mono (by omega)
    rcases h5 with ⟨rfl, hJ5⟩ | ⟨rfl, hJ5⟩
    · gi_wp2
      exact ⟨hk2, hJ5, Ext.mix (HE2.out.keep HB2.out) hkk (HJ.out w2 (i + 1) w5 hJ5).2.2.2.1⟩
    · gi_wp2
      exact ⟨hk2, rfl, hJ5, Nat.le_trans (HE2.out.keep HB2.out).2 hkk.size⟩
  · rintro D' W' hD hK ⟨hJn, hE⟩
    gi_wp2
    refine ⟨by simp, .inl ⟨_, _, rfl, run_takeDeferred hK, ?_⟩⟩
    have := hE.2
    exact ⟨_, results_none rfl _ _ _, ⟨_, rfl⟩, by simp; omega, w2, by omega, .inl (by rw [hlen]; exact hSJ w2 _ _ _ hJn (Rec.put hK rfl (by omega) _))⟩
  · rintro D' c i W' hD hK hiN ⟨rfl, hJx', hsz⟩
    gi_wp2
    refine ⟨by simp, .inl ⟨_, _, rfl, run_takeDeferred hK, ?_⟩⟩
    exact ⟨_, results_none rfl _ _ _, ⟨_, rfl⟩, by simp; omega, w2, by omega, .inr ⟨i, by omega, hSx w2 (i + 1) _ _ hJx' (Rec.put hK rfl (by omega) _)⟩⟩
end Pw
end Go.Proofs.YtemkjdanemddpaaGreat

namespace Go.Proofs.YtemkjdanemddpaaGreat
namespace Pw
open Go.RowKit Go.Lib Pg Kv Bk
attribute [local go_sem] Oper.semAt_some
theorem KU : Kd Tryz.prog 40 31 1 8 (.int .u64 0) := ⟨by kernel_rfl, by kernel_rfl, rfl, by simp [Value.cells, Value.oneCell'], by decide⟩
/-- numbers in a list of their own, in a block from B on -/
structure UA (w : World) (B : Nat) (v : Value) (l : List Int) : Prop where
  ex : (v = .slice none 0 0 ∧ l = []) ∨ ∃ b c, v = .slice (some ⟨b, 0, none⟩) l.length c ∧ B ≤ b ∧ Rw w 31 1 b l.length c (l.map (Value.int .u64))
section
variable {w w' : World} {B B' : Nat} {v : Value} {l : List Int}
theorem UA.shape (h : UA w B v l) : ∃ ao c, v = .slice ao l.length c := by
  rcases h.ex with ⟨rfl, rfl⟩ | ⟨b, c, rfl, _⟩
  · exact ⟨none, 0, rfl⟩
  · exact ⟨_, c, rfl⟩
theorem UA.nil (w : World) (B : Nat) : UA w B (.slice none 0 0) [] := ⟨.inl ⟨rfl, rfl⟩⟩
theorem UA.keep (h : UA w B v l) (hb : Below w.heap.size w w') : UA w' B v l := ⟨h.ex.imp id (fun ⟨b, c, e, hl, hR⟩ => ⟨b, c, e, hl, hR.keep hb⟩)⟩
theorem UA.chg {F : Nat → Prop} (h : UA w B v l) (hc : Chg F w w') (hF : ∀ b, F b → b < B) : UA w' B v l := ⟨h.ex.imp id (fun ⟨b, c, e, hl, hR⟩ => ⟨b, c, e, hl, hR.chg hc (fun hf => by have := hF b hf; omega)⟩)⟩
theorem UA.low (h : UA w B v l) (hB : B' ≤ B) : UA w B' v l := ⟨h.ex.imp id (fun ⟨b, c, e, hl, hR⟩ => ⟨b, c, e, Nat.le_trans hB hl, hR⟩)⟩
theorem UA.rcd {C : Nat} (h : UA w B v l) (hr : Rec C w w') : UA w' B v l := ⟨h.ex.imp id (fun ⟨b, c, e, hl, hR⟩ => ⟨b, c, e, hl, Kv.Rw.rcd hR hr⟩)⟩
theorem app_u {x : Int} {a : Addr} (ty : TypeId) (h : UA w B v l) (hB : B ≤ w.heap.size) (hl : l.length ≤ 2000000000) (c0 : w.cell? (a.add 0) = some (.int .u64 x)) :
    ∃ v' w', (Builtin.append_ #[40, 40] ty #[v, .slice (some a) 1 1]).run Tryz.prog w = .ok v' w' ∧ UA w' B v' (l ++ [x]) ∧ Chg (fun b => B ≤ b ∧ ∃ cs, Blk w b cs 31) w w' := by
  have hnews : ∀ j u, [Value.int .u64 x][j]? = some u → w.cell? (a.add j) = some u := fun j u hj => by
    match j with
    | 0 => simp at hj; rw [← hj]; exact c0
    | k + 1 => simp at hj
  rcases h.ex with ⟨rfl, rfl⟩ | ⟨b, c, rfl, hb, hR⟩
  · obtain ⟨c', w', hr, hR, hw⟩ := app_nil (w := w) KU ty a 1 1 [.int .u64 x] rfl hnews (by omega) (by omega) (by omega)
    exact ⟨_, w', hr, ⟨.inr ⟨_, c', rfl, hB, hR⟩⟩, Chg.of hw⟩
  · obtain ⟨b', c', w', hr, hb', hR', hC⟩ := app_row KU ty hR a 1 1 [.int .u64 x] rfl hnews (fun u hu => by simp at hu; subst hu; rfl) (by omega) (by omega)
    refine ⟨_, w', hr, ⟨.inr ⟨b', c', by simp, by rcases hb' with rfl | rfl <;> omega, ?_⟩⟩, hC.mono (fun y _ e => ?_)⟩
    · simpa using hR'
    · have e' : y = b := e
      subst e'
      exact ⟨hb, hR.kind⟩
end
theorem wli_ap16 {F : Fence} {n : Nat} {ops : Array Oper} {Q : Exit → Act → World → Prop} {rest : List Oper} {pos : String} {after : Array Edge} {a : Act} {w w' : World} {u v r : Value} (hF : ∀ f, F.fn f) (hu : a.eval (.tmp 12) = u) (hv : a.eval (.tmp 15) = v) (hr : (Builtin.append_ #[40, 40] 40 #[u, v]).run Tryz.prog w = .ok r w') (h : wpListIn F n Tryz.prog ops Q rest (a.put (some 16) r) w') :
    wpListIn F n Tryz.prog ops Q ({ dst := some 16, op := .call { callee := .builtin .append, args := #[.tmp 12, .tmp 15], argTypes := #[40, 40] }, type := 40, pos := pos, after := after, guard := none } :: rest) a w :=
  Ky.wli_val rfl hF (Oper.semAt_eq _ _ _ (fun c h => by cases h)) (Ky.run_app (x := 12) (y := 15) rfl rfl hu hv hr) h
theorem wli_ap12 {F : Fence} {n : Nat} {ops : Array Oper} {Q : Exit → Act → World → Prop} {rest : List Oper} {pos : String} {after : Array Edge} {a : Act} {w w' : World} {u v r : Value} (hF : ∀ f, F.fn f) (hu : a.eval (.tmp 8) = u) (hv : a.eval (.tmp 11) = v) (hr : (Builtin.append_ #[40, 40] 40 #[u, v]).run Tryz.prog w = .ok r w') (h : wpListIn F n Tryz.prog ops Q rest (a.put (some 12) r) w') :
    wpListIn F n Tryz.prog ops Q ({ dst := some 12, op := .call { callee := .builtin .append, args := #[.tmp 8, .tmp 11], argTypes := #[40, 40] }, type := 40, pos := pos, after := after, guard := none } :: rest) a w :=
  Ky.wli_val rfl hF (Oper.semAt_eq _ _ _ (fun c h => by cases h)) (Ky.run_app (x := 8) (y := 11) rfl rfl hu hv hr) h
theorem sa_rcd {w w' : World} {K D : Nat → Prop} {g n N B : Nat} {E : Ents} {W : List Ents} (h : SA w K D g E W n N) (hr : Rec B w w') : SA w' K D g E W n N :=
  h.same (fun b hK => by obtain ⟨cs, t, k, _⟩ := h.kind b hK; exact (hr.same b _ k.blk (.inr rfl)).trans k.blk.symm) (fun b _ _ hk => by obtain ⟨cs, k⟩ := hk; exact (hr.same b _ k.blk (.inr rfl)).trans k.blk.symm)
/-- while the numbers are gathered -/
structure TopI (Wb : World) (a t : Nat) (R : World) (K D : Nat → Prop) (g : Nat) (E : Ents) (Wn : List Ents) (N x : Nat) (l : List Int) (V : World) : Prop where
  chg : Chg (fun b => b = g ∨ b = t) Wb V
  sa : SA V K D g E Wn x N
  out : ∃ v, Blk V t [v] 40 ∧ UA V R.heap.size v l
  ext : ExtC a R V
structure TopO (Wb : World) (t : Nat) (K D : Nat → Prop) (g : Nat) (E : Ents) (Wn : List Ents) (N x : Nat) (V : World) : Prop where
  chg : Chg (fun b => b = g ∨ b = t) Wb V
  sa : SA V K D g E Wn x N
  out : Blk V t [.slice none 0 0] 40
section
variable {Wb V V' R : World} {a t g x N : Nat} {K D : Nat → Prop} {E : Ents} {Wn : List Ents} {l : List Int}
theorem top_ne {v : Value} (h : SA V K D g E Wn x N) (h1 : Blk V t [v] 40) : t ≠ g := fun e => by
  obtain ⟨cs, k⟩ := h.kv
  subst e
  exact absurd (h1.eq k).2 (by decide)
theorem TopI.rcd (h : TopI Wb a t R K D g E Wn N x l V) (hr : Rec Wb.heap.size V V') : TopI Wb a t R K D g E Wn N x l V' := by
  obtain ⟨v, h1, h2⟩ := h.out
  exact ⟨chg_rcd h.chg hr (Nat.le_refl _), sa_rcd h.sa hr, ⟨v, rec_cel h1 hr, h2.rcd hr⟩, h.ext.rcd hr⟩
theorem TopO.rcd (h : TopO Wb t K D g E Wn N x V) (hr : Rec Wb.heap.size V V') : TopO Wb t K D g E Wn N x V' := ⟨chg_rcd h.chg hr (Nat.le_refl _), sa_rcd h.sa hr, rec_cel h.out hr⟩
theorem TopI.tick (h : TopI Wb a t R K D g E Wn N x l V) (hg : g < a) (hR : a ≤ R.heap.size) : TopI Wb a t R K D g E Wn N (x + 1) l (tick g V x) := by
  obtain ⟨v, h1, h2⟩ := h.out
  have hc := chg_tick g x V
  exact ⟨h.chg.trans hc (fun b _ e => .inl e), h.sa.tick, ⟨v, h1.chg hc (top_ne h.sa h1), h2.chg hc (fun b e => by have e' : b = g := e; omega)⟩, h.ext.tick hg⟩
theorem TopO.tick (h : TopO Wb t K D g E Wn N x V) (hg : g < a) (hE : ExtC a R V) : TopI Wb a t R K D g E Wn N (x + 1) [] (tick g V x) := by
  have hc := chg_tick g x V
  exact ⟨h.chg.trans hc (fun b _ e => .inl e), h.sa.tick, ⟨_, h.out.chg hc (top_ne h.sa h.out), UA.nil _ _⟩, hE.tick hg⟩
theorem top_rd {v : Value} (hc : Chg (fun b => b = g ∨ b = t) Wb V) (hs : SA V K D g E Wn x N) (h1 : Blk V t [v] 40) : RdS Wb (fun b => b = g ∨ b = t) K D g E Wn N V := by
  refine ⟨hc, fun b hb cs k => ?_, _, hs⟩
  rcases hb with rfl | rfl
  · obtain ⟨cs', k'⟩ := hs.kv
    exact absurd (k.eq k').2 (by decide)
  · exact absurd (k.eq h1).2 (by decide)
end
structure NumE (B : Nat) (w : World) (K : Nat → Prop) (g : Nat) (E : Ents) (W : List Ents) (n N : Nat) (l : List Int) (e : Ending) (w' : World) : Prop where
  ex : ∃ v, e = .returned v ∧ UA w' w.heap.size v l ∧ Sx B w' K g E W n N ∧ Chg (· = g) w w'
set_option maxHeartbeats 8000000 in
set_option maxRecDepth 100000 in
theorem top_any_sa {w : World} {K D : Nat → Prop} {g x0 N m : Nat} {E : Ents} {Wn : List Ents} (hS : SA w K D g E Wn x0 N) (hm0 : 0 < m) (hm : m ≤ 1000000000) (hRk : ∀ x ∈ E, [105] <+: x.1 → Ky.frm (10 : Nat) = Ky.fIn x.1) (hN : N ≤ 100000000) (hx : x0 + N ≤ 2000000000000000000) :
    Calls Tryz.prog 16 #[.pointer (some ⟨g, 0, none⟩), .int .i64 m] w fun e w' => ∃ v j, e = .returned v ∧ UA w' w.heap.size v (((pks 10 105 E).map Prod.snd).take m) ∧ j = min m (pks 10 105 E).length ∧ SA w' K D g E Wn (x0 + 1 + j) N ∧ Chg (· = g) w w' := by
  have hglt : g < w.heap.size := hS.lt hS.top
  have b1 := below_alloc w (.cells #[.int .i64 m] 3)
  have b2 := below_alloc (w.alloc (.cells #[.int .i64 m] 3)) (.cells #[.slice none 0 0] 40)
  have c1 := (blk_new w [.int .i64 m] 3).keep b2
  have c2 := blk_new (w.alloc (.cells #[.int .i64 m] 3)) [.slice none 0 0] 40
  have s1 : (w.alloc (.cells #[.int .i64 m] 3)).heap.size = w.heap.size + 1 := by simp
  have s2 : ((w.alloc (.cells #[.int .i64 m] 3)).alloc (.cells #[.slice none 0 0] 40)).heap.size = w.heap.size + 2 := by simp
  rw [s1] at c2
  have b12 := joinB b1 b2
  have hm1 : ¬ ((m : Int) < 1) := by omega
  obtain ⟨Wp, hWp⟩ : ∃ Wp, Hid ((w.alloc (.cells #[.int .i64 m] 3)).alloc (.cells #[.slice none 0 0] 40) = Wp) := ⟨_, rfl⟩
  rw [hWp.out] at c1 c2 s2 b12
  clear b1 b2 s1
  have HS := hid3 hS
  have HRK := hid3 hRk
  clear hS hRk
  refine (callsIn_wide (n := 0)).1 ?_
  refine callsIn_of_wp_marks Tryz.func16 rfl trivial ?_ rfl
  simp only [Tryz.ntmps16, List.size_toArray, List.length_cons, List.length_nil, Nat.reduceAdd, Nat.reduceSub, Array.replicate_succ, Array.replicate_zero, List.push_toArray, List.append_toArray, List.nil_append, List.cons_append]
  gi_wp2_with (refine ⟨trivial, rfl, ?_⟩; gi_at_call 32; rw [hWp.out]; refine (callsIn_wide.2 (marked_mk (r := 10))).mono ?_; rintro e' Wb ⟨bs, bk, rfl, hbs, hbk, k1, k2, B1⟩)
  have BB := joinB b12 B1
  have T1 := c2.keep B1
  have SB := HS.out.keep BB
  have zb := B1.size
  have hKt : ∀ b, K b → b < w.heap.size := fun b hb => HS.out.lt hb
  have IT := marked_itr (X := fun b => b = g ∨ b = w.heap.size + 1) (r := 10) (m0 := 105) SB k1 (fun h => by rcases h with h | h <;> omega) k2 (fun h => by rcases h with h | h <;> omega) (by decide) (by decide) of10 HRK.out (fun b hb => hb.elim .inl (fun e => .inr (fun hk => by have := hKt b hk; omega))) (fun b hb => by have := T1.lt; rcases hb with h | h <;> omega) hN hx
  have I0 : TopO Wb (w.heap.size + 1) K D g E Wn N x0 Wb := ⟨Chg.refl _ _, SB, T1⟩
  have HB := hid3 BB
  have HN := hid3 (c1.keep B1)
  have hlen : ((pks 10 105 E).map Prod.snd).length = (pks 10 105 E).length := List.length_map ..
  clear SB k1 k2 B1 BB c2 c1
  refine rf_outerE IT (by rfl) (enters_of Tryz.func46 (by kernel_rfl) rfl) (fun i args n V V' h hc => h) (fun i args n V h => by obtain ⟨c, _, rfl⟩ := h; rfl)
    (fun V => TopO Wb (w.heap.size + 1) K D g E Wn N x0 V)
    (fun R i V => Wb.heap.size + 2 ≤ R.heap.size ∧ i < m ∧ TopI Wb (Wb.heap.size + 2) (w.heap.size + 1) R K D g E Wn N (x0 + 1 + i) (((pks 10 105 E).map Prod.snd).take i) V)
    (fun R i V => Wb.heap.size + 2 ≤ R.heap.size ∧ i < m ∧ TopI Wb (Wb.heap.size + 2) (w.heap.size + 1) R K D g E Wn N (x0 + 1 + i + 1) (((pks 10 105 E).map Prod.snd).take i) V)
    (fun R c i V => c = .exit 0 ∧ i = m ∧ TopI Wb (Wb.heap.size + 2) (w.heap.size + 1) R K D g E Wn N (x0 + 1 + i) (((pks 10 105 E).map Prod.snd).take i) V)
    (fun A B hx hr => hx.rcd hr) (fun R i A B hx hr => ⟨hx.1, hx.2.1, hx.2.2.rcd hr⟩) (fun R i A B hx hr => ⟨hx.1, hx.2.1, hx.2.2.rcd hr⟩) (fun R c i A B hx hr => ⟨hx.1, hx.2.1, hx.2.2.rcd hr⟩) (by omega)
    (fun V hv => by have q := hv.sa.cnt; exact ⟨q.1, q.2, top_rd hv.chg hv.sa hv.out, fun R hR hE => ⟨hR, hm0, by simpa using hv.tick (by omega) hE⟩⟩)
    (fun R i V hv => by have hT := hv.2.2; have q := hT.sa.cnt; obtain ⟨v, o1, o2⟩ := hT.out; exact ⟨q.1, q.2, top_rd hT.chg hT.sa o1, hT.ext, fun _ => ⟨hv.1, hv.2.1, hT.tick (by omega) hv.1⟩⟩)
    I0 ?_ ?_ ?_
  · rintro R hR l2 i args V Wv hl hlV hrec hiN ⟨-, him, hT⟩ hb ⟨c, hc, rfl⟩
    have hpi : ((pks 10 105 E).map Prod.snd)[i]? = some c.2 := by rw [List.getElem?_map, hc]; rfl
    simp
    gi_wp2
    refine ⟨below_alloc _ _, ?_⟩
    intro V2 W2 _ him2 hT2 hb2 hAr2 hoth hsz3 hV2 r hrec2
    obtain ⟨v, o1, o2⟩ := hT2.out
    have hlt : i < ((pks 10 105 E).map Prod.snd).length := (List.getElem?_eq_some_iff.1 hpi).1
    have hli : (((pks 10 105 E).map Prod.snd).take i).length = i := by rw [List.length_take]; omega
    obtain ⟨ao, cc, rfl⟩ := o2.shape
    rw [hli] at o1 o2
    have zV := hb.size
    have z2 := hb2.size
    have zT := hT2.chg.size
    have zE := hT2.ext.size
    have kk : Blk W2 Wv.heap.size [.int .i64 (10 : Nat), .int .u64 c.1, .int .u64 c.2] 64 := ⟨(hoth _ (by omega)).trans (blk_new Wv [.int .i64 (10 : Nat), .int .u64 c.1, .int .u64 c.2] 64).blk⟩
    have P0 := o1.keep hb2
    have Q0 := o2.keep hb2
    have hBa := below_alloc W2 (.cells #[.int .u64 c.2] 31)
    have N4 := blk_new W2 [.int .u64 c.2] 31
    obtain ⟨W4, hW4⟩ : ∃ W4, Hid (W2.alloc (.cells #[.int .u64 c.2] 31) = W4) := ⟨_, rfl⟩
    rw [hW4.out] at hBa N4
    have z4 := hBa.size
    obtain ⟨v5, w5, hr5, U5, C5⟩ := app_u (a := ⟨W2.heap.size, 0, none⟩) 40 (Q0.keep hBa) (by omega) (by have := hT2.sa.size; have : ((pks 10 105 E).map Prod.snd).length ≤ E.length := (by rw [List.length_map]; unfold pks; rw [List.length_map]; exact List.length_filter_le _ _); omega) (N4.cell (i := 0) rfl)
    have hl5 : (((pks 10 105 E).map Prod.snd).take i ++ [c.2]).length = i + 1 := by rw [List.length_append, hli]; rfl
    obtain ⟨a5, c5, rfl⟩ := U5.shape
    rw [hl5] at U5 hr5
    have he5 : ((pks 10 105 E).map Prod.snd).take (i + 1) = ((pks 10 105 E).map Prod.snd).take i ++ [c.2] := by rw [List.take_add_one, hpi]; rfl
    have S5 := (P0.keep hBa).chg C5 (fun h => by obtain ⟨_, cs, k⟩ := h; exact absurd (k.eq (P0.keep hBa)).2 (by decide))
    obtain ⟨q1, hq1⟩ : ∃ q1, Hid (i + 1 = q1) := ⟨_, rfl⟩
    rw [hq1.out] at U5 hr5
    have hC6 : Chg (· = w.heap.size + 1) w5 (w5.setCell ⟨w.heap.size + 1, 0, none⟩ (.slice a5 q1 c5)) := (Chg.refl (fun x => x = w.heap.size + 1) w5).cell (.inl (by rfl)) _
    have S6 := S5.setCell (i := 0) (.slice a5 q1 c5)
    have hK5 : KeepsT TpU Wb.heap.size W4 w5 := ⟨C5.size, fun k o _ h0 hs => (C5.same k (lt_of_block h0) (fun h => by
      obtain ⟨_, cs, kb⟩ := h
      rw [kb.blk] at h0
      cases h0
      exact hs _ _ _ rfl rfl)).trans h0⟩
    have hKe : KeepsT TpU Wb.heap.size W2 (w5.setCell ⟨w.heap.size + 1, 0, none⟩ (.slice a5 q1 c5)) := ((KeepsT.of hBa).trans hK5).trans ⟨hC6.size, fun k o hk h0 _ => (hC6.same k (lt_of_block h0) (fun e => by have e' : k = w.heap.size + 1 := e; have := T1.lt; omega)).trans h0⟩
    have hTI : TopI Wb (Wb.heap.size + 2) (w.heap.size + 1) R K D g E Wn N (x0 + 1 + q1) (((pks 10 105 E).map Prod.snd).take q1) (w5.setCell ⟨w.heap.size + 1, 0, none⟩ (.slice a5 q1 c5)) := by
      have hTl := T1.lt
      refine ⟨?_, ?_, ⟨_, S6, ?_⟩, ?_⟩
      · exact ((hT2.chg.trans (Chg.of (F := fun _ => False) (joinB hb2 hBa)) (fun _ _ h => h.elim)).trans C5 (fun b h1 h2 => by omega)).trans hC6 (fun b _ h => .inr h)
      · have q := ((hT2.sa.keep (joinB hb2 hBa)).chg C5 (fun b h1 hk => by have := hKt b hk; omega) (fun b h1 cs kk => by obtain ⟨_, cs', k'⟩ := h1; exact absurd (kk.eq k').2 (by decide))).chg hC6 (fun b e hk => by have e' : b = w.heap.size + 1 := e; have := hKt b hk; omega) (fun b e cs kk => by
          have e' : b = w.heap.size + 1 := e
          subst e'
          exact absurd (kk.eq S5).2 (by decide))
        rw [show x0 + 1 + q1 = x0 + 1 + i + 1 by have := hq1.out; omega]
        exact q
      · rw [← hq1.out, he5]
        have q := U5.chg hC6 (fun b e => by have e' : b = w.heap.size + 1 := e; omega)
        rw [← hq1.out] at q
        exact q
      · exact (((hT2.ext.keep hb2).keep hBa).chg C5 (fun b h => .inr h.1)).chg hC6 (fun b e => .inl (by have e' : b = w.heap.size + 1 := e; omega))
    have p0c := P0.cell (i := 0) rfl
    have kc := kk.cell (i := 2) rfl
    have s5c := S5.cell (i := 0) rfl
    have s5f := S5.free 0
    have t6c := S6.cell (i := 0) rfl
    have n6c := ((((((HN.out.chg hT2.chg (fun e => by rcases e with e | e <;> omega)).keep hb2).keep hBa).chg C5 (fun h => by omega))).chg hC6 (fun e => by have e' : w.heap.size = w.heap.size + 1 := e; omega)).cell (i := 0) rfl
    have HKE := hid3 hKe
    have HTI := hid3 hTI
    clear hT hoth hAr2 hb hT2 hb2 P0 Q0 N4 hBa U5 C5 S5 hC6 S6 hK5 hKe hTI o1 o2 kk hli hl5 he5 hpi hlt zV z2 zT zE z4 hc hsz3 hV2
    rw [← hW4.out] at hr5
    clear hW4
    by_cases hlast : q1 = m
    · subst hlast
      gi_wp2_with (first | (have gate := hr5; clear gate; (with_reducible refine wli_ap16 ?_ ?_ ?_ hr5 ?_); (exact fun _ => trivial); rfl; rfl; clear hr5))
      exact ⟨HKE.out, rfl, hq1.out, hq1.out ▸ HTI.out⟩
    · have hq : ¬ ((q1 : Int) = (m : Int)) := by omega
      gi_wp2_with (first | (have gate := hr5; clear gate; (with_reducible refine wli_ap16 ?_ ?_ ?_ hr5 ?_); (exact fun _ => trivial); rfl; rfl; clear hr5))
      exact ⟨HKE.out, hR, by have := hq1.out; omega, hq1.out ▸ HTI.out⟩
  · rintro R D' W' hR hD hK ⟨-, him, hT⟩
    obtain ⟨v, o1, o2⟩ := hT.out
    obtain ⟨ao, cc, rfl⟩ := o2.shape
    obtain ⟨ln, hln⟩ : ∃ ln, Hid ((((pks 10 105 E).map Prod.snd).take (pks 10 105 E).length).length = ln) := ⟨_, rfl⟩
    rw [hln.out] at o1 o2
    have h1c := o1.cell (i := 0) rfl
    have R3 := Rec.put hK rfl hD (.deferred none)
    have hT3 := hT.rcd R3
    have HH2 := hid3 o2
    have zW := HB.out.size
    clear o2
    gi_wp2
    refine ⟨by simp, .inl ⟨_, _, rfl, run_takeDeferred hK, ?_⟩⟩
    refine ⟨_, results_tmp rfl _ _ _, _, _, rfl, ?_, ?_, hT3.sa, ?_⟩
    · have q := (HH2.out.rcd R3).low (B' := w.heap.size) (by omega)
      rw [List.take_of_length_le (by rw [hlen]; omega)] at q ⊢
      exact q
    · rw [Nat.min_eq_right (by omega)]
    · exact (Chg.of (F := (· = g)) HB.out).trans hT3.chg (fun b hl e => e.elim id (fun e => by omega))
  · rintro R D' c i W' hR hD hK hiN ⟨rfl, him, hT⟩
    obtain ⟨v, o1, o2⟩ := hT.out
    obtain ⟨ao, cc, rfl⟩ := o2.shape
    obtain ⟨ln, hln⟩ : ∃ ln, Hid ((((pks 10 105 E).map Prod.snd).take (i + 1)).length = ln) := ⟨_, rfl⟩
    rw [hln.out] at o1 o2
    have h1c := o1.cell (i := 0) rfl
    have R3 := Rec.put hK rfl hD (.deferred none)
    have hT3 := hT.rcd R3
    have HH2 := hid3 o2
    have zW := HB.out.size
    clear o2
    gi_wp2
    refine ⟨by simp, .inl ⟨_, _, rfl, run_takeDeferred hK, ?_⟩⟩
    refine ⟨_, results_tmp rfl _ _ _, _, _, rfl, ?_, ?_, hT3.sa, ?_⟩
    · have q := (HH2.out.rcd R3).low (B' := w.heap.size) (by omega)
      rw [him] at q
      exact q
    · rw [Nat.min_eq_left (by omega)]; exact him
    · exact (Chg.of (F := (· = g)) HB.out).trans hT3.chg (fun b hl e => e.elim id (fun e => by omega))
set_option maxHeartbeats 8000000 in
set_option maxRecDepth 100000 in
theorem bonded_any_sa {w : World} {K D : Nat → Prop} {g x0 N  : Nat} {E : Ents} {Wn : List Ents} (hS : SA w K D g E Wn x0 N) (hRk : ∀ x ∈ E, [98] <+: x.1 → Ky.frm (11 : Nat) = Ky.fIn x.1) (hN : N ≤ 100000000) (hx : x0 + N ≤ 2000000000000000000) :
    Calls Tryz.prog 18 #[.pointer (some ⟨g, 0, none⟩)] w fun e w' => ∃ v j, e = .returned v ∧ UA w' w.heap.size v (((pks 11 98 E).map Prod.fst)) ∧ j = (pks 11 98 E).length ∧ SA w' K D g E Wn (x0 + 1 + j) N ∧ Chg (· = g) w w' := by
  have hglt : g < w.heap.size := hS.lt hS.top
  have b12 := below_alloc w (.cells #[.slice none 0 0] 40)
  have c2 := blk_new w [.slice none 0 0] 40
  have s2 : (w.alloc (.cells #[.slice none 0 0] 40)).heap.size = w.heap.size + 1 := by simp
  obtain ⟨Wp, hWp⟩ : ∃ Wp, Hid (w.alloc (.cells #[.slice none 0 0] 40) = Wp) := ⟨_, rfl⟩
  rw [hWp.out] at c2 s2 b12
  have HS := hid3 hS
  have HRK := hid3 hRk
  clear hS hRk
  refine (callsIn_wide (n := 0)).1 ?_
  refine callsIn_of_wp_marks Tryz.func18 rfl trivial ?_ rfl
  simp only [Tryz.ntmps18, List.size_toArray, List.length_cons, List.length_nil, Nat.reduceAdd, Nat.reduceSub, Array.replicate_succ, Array.replicate_zero, List.push_toArray, List.append_toArray, List.nil_append, List.cons_append]
  gi_wp2_with (refine ⟨trivial, rfl, ?_⟩; gi_at_call 32; rw [hWp.out]; refine (callsIn_wide.2 (marked_mk (r := 11))).mono ?_; rintro e' Wb ⟨bs, bk, rfl, hbs, hbk, k1, k2, B1⟩)
  have BB := joinB b12 B1
  have T1 := c2.keep B1
  have SB := HS.out.keep BB
  have zb := B1.size
  have hKt : ∀ b, K b → b < w.heap.size := fun b hb => HS.out.lt hb
  have IT := marked_itr (X := fun b => b = g ∨ b = w.heap.size) (r := 11) (m0 := 98) SB k1 (fun h => by rcases h with h | h <;> omega) k2 (fun h => by rcases h with h | h <;> omega) (by decide) (by decide) of11 HRK.out (fun b hb => hb.elim .inl (fun e => .inr (fun hk => by have := hKt b hk; omega))) (fun b hb => by have := T1.lt; rcases hb with h | h <;> omega) hN hx
  have I0 : TopO Wb (w.heap.size) K D g E Wn N x0 Wb := ⟨Chg.refl _ _, SB, T1⟩
  have HB := hid3 BB
  have hlen : ((pks 11 98 E).map Prod.fst).length = (pks 11 98 E).length := List.length_map ..
  clear SB k1 k2 B1 BB c2
  refine rf_outerE IT (by rfl) (enters_of Tryz.func46 (by kernel_rfl) rfl) (fun i args n V V' h hc => h) (fun i args n V h => by obtain ⟨c, _, rfl⟩ := h; rfl)
    (fun V => TopO Wb (w.heap.size) K D g E Wn N x0 V)
    (fun R i V => Wb.heap.size + 2 ≤ R.heap.size ∧ TopI Wb (Wb.heap.size + 2) (w.heap.size) R K D g E Wn N (x0 + 1 + i) (((pks 11 98 E).map Prod.fst).take i) V)
    (fun R i V => Wb.heap.size + 2 ≤ R.heap.size ∧ TopI Wb (Wb.heap.size + 2) (w.heap.size) R K D g E Wn N (x0 + 1 + i + 1) (((pks 11 98 E).map Prod.fst).take i) V)
    (fun R c i V => False)
    (fun A B hx hr => hx.rcd hr) (fun R i A B hx hr => ⟨hx.1, hx.2.rcd hr⟩) (fun R i A B hx hr => ⟨hx.1, hx.2.rcd hr⟩) (fun R c i A B hx hr => hx) (by omega)
    (fun V hv => by have q := hv.sa.cnt; exact ⟨q.1, q.2, top_rd hv.chg hv.sa hv.out, fun R hR hE => ⟨hR, by simpa using hv.tick (by omega) hE⟩⟩)
    (fun R i V hv => by have hT := hv.2; have q := hT.sa.cnt; obtain ⟨v, o1, o2⟩ := hT.out; exact ⟨q.1, q.2, top_rd hT.chg hT.sa o1, hT.ext, fun _ => ⟨hv.1, hT.tick (by omega) hv.1⟩⟩)
    I0 ?_ ?_ ?_
  · rintro R hR l2 i args V Wv hl hlV hrec hiN ⟨-, hT⟩ hb ⟨c, hc, rfl⟩
    have hpi : ((pks 11 98 E).map Prod.fst)[i]? = some c.1 := by rw [List.getElem?_map, hc]; rfl
    simp
    gi_wp2
    refine ⟨below_alloc _ _, ?_⟩
    intro V2 W2 _ hT2 hb2 hAr2 hoth hsz3 hV2 r hrec2
    obtain ⟨v, o1, o2⟩ := hT2.out
    have hlt : i < ((pks 11 98 E).map Prod.fst).length := (List.getElem?_eq_some_iff.1 hpi).1
    have hli : (((pks 11 98 E).map Prod.fst).take i).length = i := by rw [List.length_take]; omega
    obtain ⟨ao, cc, rfl⟩ := o2.shape
    rw [hli] at o1 o2
    have zV := hb.size
    have z2 := hb2.size
    have zT := hT2.chg.size
    have zE := hT2.ext.size
    have kk : Blk W2 Wv.heap.size [.int .i64 (11 : Nat), .int .u64 c.1, .int .u64 c.2] 64 := ⟨(hoth _ (by omega)).trans (blk_new Wv [.int .i64 (11 : Nat), .int .u64 c.1, .int .u64 c.2] 64).blk⟩
    have P0 := o1.keep hb2
    have Q0 := o2.keep hb2
    have hBa := below_alloc W2 (.cells #[.int .u64 c.1] 31)
    have N4 := blk_new W2 [.int .u64 c.1] 31
    obtain ⟨W4, hW4⟩ : ∃ W4, Hid (W2.alloc (.cells #[.int .u64 c.1] 31) = W4) := ⟨_, rfl⟩
    rw [hW4.out] at hBa N4
    have z4 := hBa.size
    obtain ⟨v5, w5, hr5, U5, C5⟩ := app_u (a := ⟨W2.heap.size, 0, none⟩) 40 (Q0.keep hBa) (by omega) (by have := hT2.sa.size; have : ((pks 11 98 E).map Prod.fst).length ≤ E.length := (by rw [List.length_map]; unfold pks; rw [List.length_map]; exact List.length_filter_le _ _); omega) (N4.cell (i := 0) rfl)
    have hl5 : (((pks 11 98 E).map Prod.fst).take i ++ [c.1]).length = i + 1 := by rw [List.length_append, hli]; rfl
    obtain ⟨a5, c5, rfl⟩ := U5.shape
    rw [hl5] at U5 hr5
    have he5 : ((pks 11 98 E).map Prod.fst).take (i + 1) = ((pks 11 98 E).map Prod.fst).take i ++ [c.1] := by rw [List.take_add_one, hpi]; rfl
    have S5 := (P0.keep hBa).chg C5 (fun h => by obtain ⟨_, cs, k⟩ := h; exact absurd (k.eq (P0.keep hBa)).2 (by decide))
    obtain ⟨q1, hq1⟩ : ∃ q1, Hid (i + 1 = q1) := ⟨_, rfl⟩
    rw [hq1.out] at U5 hr5
    have hC6 : Chg (· = w.heap.size) w5 (w5.setCell ⟨w.heap.size, 0, none⟩ (.slice a5 q1 c5)) := (Chg.refl (fun x => x = w.heap.size) w5).cell (.inl (by rfl)) _
    have S6 := S5.setCell (i := 0) (.slice a5 q1 c5)
    have hK5 : KeepsT TpU Wb.heap.size W4 w5 := ⟨C5.size, fun k o _ h0 hs => (C5.same k (lt_of_block h0) (fun h => by
      obtain ⟨_, cs, kb⟩ := h
      rw [kb.blk] at h0
      cases h0
      exact hs _ _ _ rfl rfl)).trans h0⟩
    have hKe : KeepsT TpU Wb.heap.size W2 (w5.setCell ⟨w.heap.size, 0, none⟩ (.slice a5 q1 c5)) := ((KeepsT.of hBa).trans hK5).trans ⟨hC6.size, fun k o hk h0 _ => (hC6.same k (lt_of_block h0) (fun e => by have e' : k = w.heap.size := e; have := T1.lt; omega)).trans h0⟩
    have hTI : TopI Wb (Wb.heap.size + 2) (w.heap.size) R K D g E Wn N (x0 + 1 + q1) (((pks 11 98 E).map Prod.fst).take q1) (w5.setCell ⟨w.heap.size, 0, none⟩ (.slice a5 q1 c5)) := by
      have hTl := T1.lt
      refine ⟨?_, ?_, ⟨_, S6, ?_⟩, ?_⟩
      · exact ((hT2.chg.trans (Chg.of (F := fun _ => False) (joinB hb2 hBa)) (fun _ _ h => h.elim)).trans C5 (fun b h1 h2 => by omega)).trans hC6 (fun b _ h => .inr h)
      · have q := ((hT2.sa.keep (joinB hb2 hBa)).chg C5 (fun b h1 hk => by have := hKt b hk; omega) (fun b h1 cs kk => by obtain ⟨_, cs', k'⟩ := h1; exact absurd (kk.eq k').2 (by decide))).chg hC6 (fun b e hk => by have e' : b = w.heap.size := e; have := hKt b hk; omega) (fun b e cs kk => by
          have e' : b = w.heap.size := e
          subst e'
          exact absurd (kk.eq S5).2 (by decide))
        rw [show x0 + 1 + q1 = x0 + 1 + i + 1 by have := hq1.out; omega]
        exact q
      · rw [← hq1.out, he5]
        have q := U5.chg hC6 (fun b e => by have e' : b = w.heap.size := e; omega)
        rw [← hq1.out] at q
        exact q
      · exact (((hT2.ext.keep hb2).keep hBa).chg C5 (fun b h => .inr h.1)).chg hC6 (fun b e => .inl (by have e' : b = w.heap.size := e; omega))
    have p0c := P0.cell (i := 0) rfl
    have kc := kk.cell (i := 1) rfl
    have s5c := S5.cell (i := 0) rfl
    have s5f := S5.free 0
    have HKE := hid3 hKe
    have HTI := hid3 hTI
    clear hT hoth hAr2 hb hT2 hb2 P0 Q0 N4 hBa U5 C5 S5 hC6 S6 hK5 hKe hTI o1 o2 kk hli hl5 he5 hpi hlt zV z2 zT zE z4 hc hsz3 hV2
    rw [← hW4.out] at hr5
    clear hW4
    gi_wp2_with (first | (have gate := hr5; clear gate; (with_reducible refine wli_ap12 ?_ ?_ ?_ hr5 ?_); (exact fun _ => trivial); rfl; rfl; clear hr5))
    exact ⟨HKE.out, hR, hq1.out ▸ HTI.out⟩
  · rintro R D' W' hR hD hK ⟨-, hT⟩
    obtain ⟨v, o1, o2⟩ := hT.out
    obtain ⟨ao, cc, rfl⟩ := o2.shape
    obtain ⟨ln, hln⟩ : ∃ ln, Hid ((((pks 11 98 E).map Prod.fst).take (pks 11 98 E).length).length = ln) := ⟨_, rfl⟩
    rw [hln.out] at o1 o2
    have h1c := o1.cell (i := 0) rfl
    have R3 := Rec.put hK rfl hD (.deferred none)
    have hT3 := hT.rcd R3
    have HH2 := hid3 o2
    have zW := HB.out.size
    clear o2
    gi_wp2
    refine ⟨by simp, .inl ⟨_, _, rfl, run_takeDeferred hK, ?_⟩⟩
    refine ⟨_, results_tmp rfl _ _ _, _, _, rfl, ?_, ?_, hT3.sa, ?_⟩
    · have q := (HH2.out.rcd R3).low (B' := w.heap.size) (by omega)
      rw [List.take_of_length_le (by rw [hlen]; omega)] at q
      exact q
    · rfl
    · exact (Chg.of (F := (· = g)) HB.out).trans hT3.chg (fun b hl e => e.elim id (fun e => by omega))
  · rintro R D' c i W' hR hD hK hiN h
    exact h.elim
end Pw
end Go.Proofs.YtemkjdanemddpaaGreat

namespace Go.Proofs.YtemkjdanemddpaaGreat
namespace Pw
open Go.RowKit Go.Lib Pg Gl So Pt
theorem UB_ua {w : World} {B n : Nat} {v : Value} {f : Nat → Int} (u : UB w B v n f) : UA w B v (seg 0 n f) := by
  rcases u.ex with ⟨rfl, rfl⟩ | ⟨b, c, rfl, h1, h2, h3, h4⟩
  · exact ⟨.inl ⟨rfl, rfl⟩⟩
  · refine ⟨.inr ⟨b, c, by rw [seg0_len], h1, ⟨(cs c f).drop n, ?_, by rw [List.length_map, Nat.mul_one], ?_, by rw [seg0_len]; exact h3, h4⟩⟩⟩
    · have e : (seg 0 n f).map (Value.int .u64) = (cs c f).take n := by
        refine List.ext_getElem? fun i => ?_
        by_cases hi : i < n
        · rw [List.getElem?_map, seg_at hi, List.getElem?_take_of_lt hi, cs_at (by omega)]; rfl
        · rw [List.getElem?_eq_none (by rw [List.length_map, seg0_len]; omega), List.getElem?_eq_none (by rw [List.length_take]; omega)]
      rw [e, List.take_append_drop]
      exact h2
    · rw [List.length_append, List.length_map, seg0_len, List.length_drop, cs_len]; omega
theorem two_nu {w : World} {g : Nat} {x y : Int} (X : Blk w g [.int .u64 x, .int .u64 y] 31) : Nu w (some ⟨g, 0, none⟩) 2 g 0 (fun i => if i = 0 then x else y) := ⟨fun _ => rfl, fun i hi => by
  match i, hi with
  | 0, _ => exact X.cell (i := 0) rfl
  | 1, _ => exact X.cell (i := 1) rfl⟩
theorem el_two {x y v : Int} : El 2 (fun i => if i = 0 then x else y) v ↔ v = x ∨ v = y := by
  constructor
  · rintro ⟨i, hi, e⟩
    match i, hi with
    | 0, _ => exact .inl e.symm
    | 1, _ => exact .inr e.symm
  · rintro (e | e)
    · exact ⟨0, by decide, e.symm⟩
    · exact ⟨1, by decide, e.symm⟩
theorem turns_x {w : World} {xa xb : Nat} (XA : Blk w xa [.int .u64 1, .int .u64 2] 31) (XB : Blk w xb [.int .u64 2, .int .u64 3] 31) : Calls Tryz.prog 22 #[sg 2 xa, sg 2 xb] w fun e w' => ∃ va vb, e = .returned (.tuple #[va, vb]) ∧ UA w' w.heap.size va [1] ∧ UA w' w.heap.size vb [3] ∧ Below w.heap.size w w' := by
  refine (turns_any (c := 2) (c' := 2) (two_nu XA) (two_nu XB) (by decide) (by decide)).mono ?_
  rintro e w' ⟨va, vb, na, nb, fa, fb, rfl, Ua, Ub, Oa, Ob, -, -, B⟩
  have ea := Oa.uniq (l' := [1]) ⟨by decide, fun v => by rw [el_two, el_two, List.mem_singleton]; omega⟩
  have eb := Ob.uniq (l' := [3]) ⟨by decide, fun v => by rw [el_two, el_two, List.mem_singleton]; omega⟩
  have Va := UB_ua Ua
  have Vb := UB_ua Ub
  rw [ea] at Va
  rw [eb] at Vb
  exact ⟨va, vb, rfl, Va, Vb, B⟩
end Pw
end Go.Proofs.YtemkjdanemddpaaGreat

namespace Go.Proofs.YtemkjdanemddpaaGreat
namespace Pw
open Go.RowKit Go.Lib Pg Lim Gl Kv Bk
attribute [local go_sem] Oper.semAt_some
set_option maxRecDepth 100000
set_option linter.unusedVariables false
set_option maxHeartbeats 2000000
theorem run_ld64 {ρ : Operand → Value} {o : Oper} {w : World} {b off : Nat} {v : Value} (hc : w.cell? ⟨b, off, none⟩ = some v) (ho : ∃ p, o.op = .load 31 p ∧ ρ p = .pointer (some ⟨b, off, none⟩) := by exact ⟨_, rfl, by kernel_rfl⟩) : (execOp ρ o).run Tryz.prog w = .ok (.value v) w := by
  obtain ⟨p, h, hp⟩ := ho
  have : (loadVar 31 ⟨b, off, none⟩).run Tryz.prog w = .ok v w := by go_simp
  simp only [execOp, h, hp]
  simp [Instr.loadAt, Instr.sureAddr, Result.andThen, this]
theorem cellB {w W : World} {b o : Nat} {v : Value} (B : Below w.heap.size w W) (h : w.cell? ⟨b, o, none⟩ = some v) : W.cell? ⟨b, o, none⟩ = some v := by
  rw [World.cell?_of_block (w := w) (B.block b (cell_lt h))]; exact h
theorem run_ixa {P : Program} {ρ : Operand → Value} {o : Oper} {w : World} {ao : Option Addr} (sz b off n c k : Nat) (hk : k < n) (hao : 0 < n → ao = some ⟨b, off, none⟩) (ho : ∃ T x y, o.op = .indexAddr T x y ∧ slT P T sz = true ∧ ρ x = .slice ao n c ∧ ρ y = .int .i64 (k : Int) := by exact ⟨_, _, _, rfl, by kernel_rfl, by kernel_rfl, by kernel_rfl⟩) : (execOp ρ o).run P w = .ok (.value (.pointer (some ⟨b, off + k * sz, none⟩))) w := by
  rw [hao (by omega)] at ho
  exact run_ixs sz b off n c k hk ho
theorem numbers_at {w : World} {a a' : Option Addr} {n c c' pb pb' : Nat} {xs : Nat → Int} (hn : n ≤ 9000000000000000000) (ha : 0 < n → a = some ⟨pb, 0, none⟩) (ha' : 0 < n → a' = some ⟨pb', 0, none⟩) (hc : ∀ i, i < n → w.cell? ⟨pb, 0 + i * 1, none⟩ = some (.int .u64 (xs i))) (hc' : ∀ i, i < n → w.cell? ⟨pb', 0 + i * 1, none⟩ = some (.int .u64 (xs i))) : Calls Tryz.prog 15 #[.slice a n c, .slice a' n c'] w fun e w' => e = .returned (.bool true) ∧ Below w.heap.size w w' := by
  have BB := Below.refl w.heap.size w
  refine gc_enter (n := 26) Tryz.func15 rfl (by kernel_rfl) (by kernel_rfl) ?_
  refine gc_seq ?_
  refine gc_reg ?_
  refine t 4 (.bool false) ?_
  refine gl_nil ?_
  refine ge_then ?_
  refine gc_seq ?_
  refine gc_seq ?_
  refine gc_reg ?_
  refine t 6 (.slice a n c) ?_
  refine t 7 (.int .i64 ((n : Nat) : Int)) ?_
  refine t 8 (.slice a' n c') ?_
  refine t 9 (.int .i64 ((n : Nat) : Int)) ?_
  refine tq 10 (.bool (((n : Nat) : Int) != ((n : Nat) : Int))) (.bool false) (congrArg Value.bool (bne_self_eq_false _)) ?_
  refine gl_nil ?_
  refine ge_then ?_
  refine gc_no ?_
  refine gc_skip ?_
  refine ge_then ?_
  refine gc_seq ?_
  refine gc_seq ?_
  refine gc_reg ?_
  refine t 5 (.int .i64 0) ?_
  refine gl_nil ?_
  refine ge_then ?_
  refine gc_block ?_
  refine gc_loop (fun s => n - s) (fun (s : Nat) => [(0, .slice a n c), (1, .slice a' n c'), (5, .int .i64 (s : Int))]) (fun s w' => s ≤ n ∧ Below w.heap.size w w') (0 : Nat) ⟨Nat.zero_le _, BB⟩ (by kernel_rfl) ?_
  clear BB
  rintro i v1 ⟨hi, BB⟩
  refine gc_seq ?_
  refine gc_seq ?_
  refine gc_reg ?_
  refine t 11 (.int .i64 (i : Int)) ?_
  refine t 12 (.slice a n c) ?_
  refine t 13 (.int .i64 ((n : Nat) : Int)) ?_
  by_cases ci : (i : Int) < ((n : Nat) : Int)
  · have hk_i : i < n := by omega
    refine tq 14 (.bool (decide ((i : Int) < ((n : Nat) : Int)))) (.bool true) (congrArg Value.bool (decide_eq_true ci)) ?_
    refine gl_nil ?_
    refine ge_then ?_
    refine gc_yes ?_
    refine gc_skip ?_
    refine ge_then ?_
    refine gc_seq ?_
    refine gc_block ?_
    refine gc_seq ?_
    replace BB := BB.drew
    refine gc_draw (fun w' => Below w.heap.size w w') (fun _ => false) BB ?_
    refine z 0 17 (.slice a n c) ?_
    refine z 1 18 (.int .i64 (i : Int)) ?_
    refine zr 2 19 (pq pb (0 + i * 1)) (fun _ h => run_ixa 1 pb 0 n c i hk_i ha) ?_
    refine zr 3 20 (.int .u64 (xs i)) (fun _ h => run_ld64 (cellB h (hc i hk_i))) ?_
    refine z 4 21 (.slice a' n c') ?_
    refine z 5 22 (.int .i64 (i : Int)) ?_
    refine zr 6 23 (pq pb' (0 + i * 1)) (fun _ h => run_ixa 1 pb' 0 n c' i hk_i ha') ?_
    refine zr 7 24 (.int .u64 (xs i)) (fun _ h => run_ld64 (cellB h (hc' i hk_i))) ?_
    refine zq 8 25 (.bool ((xs i : Int) != xs i)) (.bool false) (congrArg Value.bool (bne_self_eq_false _)) ?_
    refine gz_done ?_
    refine ge_then ?_
    refine gc_fr [(0, .slice a n c), (1, .slice a' n c'), (5, .int .i64 (i : Int)), (11, .int .i64 (i : Int)), (12, .slice a n c), (13, .int .i64 ((n : Nat) : Int)), (14, .bool true), (17, .slice a n c), (18, .int .i64 (i : Int)), (19, pq pb (0 + i * 1)), (20, .int .u64 (xs i)), (21, .slice a' n c'), (22, .int .i64 (i : Int)), (23, pq pb' (0 + i * 1)), (24, .int .u64 (xs i)), (25, .bool false)] (by kernel_rfl) ?_
    refine gc_no ?_
    refine gc_skip ?_
    refine ge_bn ?_
    refine ge_then ?_
    refine gc_reg ?_
    refine t 15 (.int .i64 (i : Int)) ?_
    refine tq 16 (.int .i64 (IntKind.i64.wrap ((i : Int) + 1))) (.int .i64 ((i : Int) + 1)) (wi (by omega)) ?_
    refine t 5 (.int .i64 ((i : Int) + 1)) ?_
    refine gl_nil ?_
    exact ge_round (i + 1) (by show n - (i + 1) < n - i; omega) ⟨hk_i, BB⟩ (by kernel_rfl)
  · refine tq 14 (.bool (decide ((i : Int) < ((n : Nat) : Int)))) (.bool false) (congrArg Value.bool (decide_eq_false ci)) ?_
    refine gl_nil ?_
    refine ge_then ?_
    refine gc_no ?_
    refine gc_exit ?_
    refine ge_tx ?_
    refine ge_tx ?_
    refine ge_bx ?_
    refine ge_then ?_
    refine gc_seq ?_
    refine gc_reg ?_
    refine t 4 (.bool true) ?_
    refine gl_nil ?_
    refine ge_then ?_
    refine gc_ret ?_
    refine ge_ret (.bool true) (rs1 4 (by kernel_rfl) (by kernel_rfl)) ?_
    exact ⟨rfl, BB⟩
theorem UA.cells {w : World} {B : Nat} {a : Option Addr} {n c : Nat} {l : List Int} (h : UA w B (.slice a n c) l) : n = l.length ∧ ∃ pb, (0 < n → a = some ⟨pb, 0, none⟩) ∧ ∀ i, i < n → w.cell? ⟨pb, 0 + i * 1, none⟩ = some (.int .u64 (l.getD i 0)) := by
  rcases h.ex with ⟨e, rfl⟩ | ⟨b, c', e, _, hR⟩
  · cases e
    exact ⟨rfl, 0, fun h => by omega, fun i h => by omega⟩
  · cases e
    refine ⟨rfl, b, fun _ => rfl, fun i hi => ?_⟩
    rw [Nat.zero_add, Nat.mul_one]
    refine hR.cell ?_
    rw [List.getElem?_map, List.getElem?_eq_getElem hi]
    simp [List.getD, hi]
theorem numbers_ua {w : World} {B B' : Nat} {u v : Value} {l : List Int} (h : UA w B u l) (h' : UA w B' v l) (hl : l.length ≤ 9000000000000000000) : Calls Tryz.prog 15 #[u, v] w fun e w' => e = .returned (.bool true) ∧ Below w.heap.size w w' := by
  obtain ⟨a, c, rfl⟩ := h.shape
  obtain ⟨a', c', rfl⟩ := h'.shape
  obtain ⟨_, pb, h1, h2⟩ := h.cells
  obtain ⟨_, pb', h1', h2'⟩ := h'.cells
  exact numbers_at hl h1 h1' h2 h2'
theorem ua_blk {w : World} {g B : Nat} {cs : List Value} (l : List Int) (X : Blk w g cs 31) (e : cs = l.map (Value.int .u64)) (hB : B ≤ g) (hl : l.length ≤ 1000000) : UA w B (sg l.length g) l := by
  subst e
  exact ⟨.inr ⟨g, l.length, rfl, hB, ⟨[], by simpa using X, by simp, by simp, Nat.le_refl _, Nat.le_trans hl (by decide)⟩⟩⟩
theorem top_x {B : Nat} {w : World} {K : Nat → Prop} {g : Nat} {E : Ents} {W : List Ents} {n N : Nat} {m : Nat} (h : Sx B w K g E W n N) (hm0 : 0 < m) (hm : m ≤ 1000000000) (hRk : ∀ x ∈ E, [105] <+: x.1 → Ky.frm (10 : Nat) = Ky.fIn x.1) (hN : N ≤ 100000000) (hx : n + N ≤ 2000000000000000000) : Calls Tryz.prog 16 #[pg g, .int .i64 m] w (NumE B w K g E W (n + 1 + min m (pks 10 105 E).length) N (((pks 10 105 E).map Prod.snd).take m)) := by
  refine (top_any_sa h.sa hm0 hm hRk hN hx).mono ?_
  rintro e w' ⟨v, j, rfl, U, rfl, S, C⟩
  exact ⟨v, rfl, U, ⟨S, Nat.le_trans h.lo C.size, h.kb⟩, C⟩
theorem bonded_x {B : Nat} {w : World} {K : Nat → Prop} {g : Nat} {E : Ents} {W : List Ents} {n N : Nat} (h : Sx B w K g E W n N) (hRk : ∀ x ∈ E, [98] <+: x.1 → Ky.frm (11 : Nat) = Ky.fIn x.1) (hN : N ≤ 100000000) (hx : n + N ≤ 2000000000000000000) : Calls Tryz.prog 18 #[pg g] w (NumE B w K g E W (n + 1 + (pks 11 98 E).length) N ((pks 11 98 E).map Prod.fst)) := by
  refine (bonded_any_sa h.sa hRk hN hx).mono ?_
  rintro e w' ⟨v, j, rfl, U, rfl, S, C⟩
  exact ⟨v, rfl, U, ⟨S, Nat.le_trans h.lo C.size, h.kb⟩, C⟩
/-- what was laid from n0 on up to wz lies beside the store's blocks K, and lies there still -/
structure Zp (K : Nat → Prop) (n0 : Nat) (wz V : World) : Prop where
  ext : Ext n0 wz V
  off : ∀ b, n0 ≤ b → b < wz.heap.size → ¬ K b
section
variable {K K' : Nat → Prop} {n0 : Nat} {wz V V' : World}
theorem Zp.keep (h : Zp K n0 wz V) (hb : Below V.heap.size V V') : Zp K n0 wz V' := ⟨h.ext.keep hb, h.off⟩
theorem Zp.op (h : Zp K n0 wz V) (hC : Chg K V V') (hK : ∀ b, K' b → K b ∨ V.heap.size ≤ b) : Zp K' n0 wz V' :=
  ⟨⟨fun b h1 h2 => (hC.same b (Nat.lt_of_lt_of_le h2 h.ext.2) (h.off b h1 h2)).trans (h.ext.1 b h1 h2), Nat.le_trans h.ext.2 hC.size⟩, fun b h1 h2 hk => (hK b hk).elim (h.off b h1 h2) (fun h3 => by have := h.ext.2; omega)⟩
theorem zp_new (hk : ∀ b, K b → b < V.heap.size) : Zp K V.heap.size V' V' := ⟨⟨fun _ _ _ => rfl, Nat.le_refl _⟩, fun b h1 _ hb2 => by have := hk b hb2; omega⟩
theorem Zp.ua {v : Value} {l : List Int} (h : Zp K n0 wz V) (U : UA wz n0 v l) : UA V n0 v l := ⟨U.ex.imp id (fun ⟨b, c, e, hl, hR⟩ => ⟨b, c, e, hl, hR.same (h.ext.1 b hl hR.lt)⟩)⟩
end
theorem belowO {w V V' : World} {K : Nat → Prop} (h : Below w.heap.size w V) (hC : Chg K V V') (hk : ∀ b, K b → w.heap.size ≤ b) : Below w.heap.size w V' :=
  ((Chg.of (F := fun _ => False) h).trans hC (fun b hl hb => by have := hk b hb; omega)).nothing
theorem snewP {w : World} (Bz : Nat) (hb : Bz = w.heap.size) : Calls Tryz.prog 7 #[] w fun e w' => ∃ g K, e = .returned (pg g) ∧ Sx Bz w' K g [] [] 0 0 ∧ (∀ b, K b → Bz ≤ b) ∧ Below w.heap.size w w' := by
  subst hb
  refine snew.mono ?_
  rintro e w' ⟨g, K, rfl, S, hK, B⟩
  exact ⟨g, K, rfl, ⟨S.mono (fun _ _ h => h.elim), B.size, hK⟩, hK, B⟩
theorem NumE.cast {B : Nat} {w : World} {K : Nat → Prop} {g : Nat} {E : Ents} {W : List Ents} {n n' N P : Nat} {l l' : List Int} {args : Array Value} (h : Calls Tryz.prog P args w (NumE B w K g E W n N l)) (hn : n = n') (hl : l = l') : Calls Tryz.prog P args w (NumE B w K g E W n' N l') := by subst hn hl; exact h
theorem known11 {w : World} : Calls Tryz.prog 6 #[] w fun e w' => e = .returned (.bool true) ∧ Below w.heap.size w w' := by
  have BB := Below.refl w.heap.size w
  refine gc_enter (n := 55) Tryz.func6 rfl (by kernel_rfl) (by kernel_rfl) ?_
  refine gc_seq ?_
  refine gc_reg ?_
  refine t 0 (.bool false) ?_
  refine gl_nil ?_
  refine ge_then ?_
  refine gc_seq ?_
  refine gc_reg ?_
  obtain ⟨Bz, hBz⟩ : ∃ Bz, Bz = (w).heap.size := ⟨_, rfl⟩
  have hwB : w.heap.size ≤ Bz := by rw [hBz]; exact BB.size
  refine tc 5 7 #[] (snewP Bz hBz) ?_
  rintro _ v1 ⟨g0, K0, rfl, S0, hK0, B0⟩
  refine ⟨_, rfl, ?_⟩
  replace BB := joinB BB B0
  have A := S0.at
  clear S0
  refine t 1 (pg g0) ?_
  refine gl_nil ?_
  refine ge_then ?_
  refine gc_seq ?_
  refine gc_seq ?_
  refine gc_reg ?_
  refine t 6 (pg g0) ?_
  refine t 7 (.bool false) ?_
  refine gl_nil ?_
  refine ge_then ?_
  refine gc_no ?_
  refine gc_skip ?_
  refine ge_then ?_
  refine gc_seq ?_
  refine gc_reg ?_
  refine t 8 (pg g0) ?_
  refine tc 9 8 #[pg g0, .int .u64 16, .int .u64 5] (put_any (v := 16) (tk := 5) A.sx (by decide) (by omega) (by omega)) ?_
  rintro _ v3 ⟨rfl, K2, S, hK, hC⟩
  refine ⟨_, rfl, ?_⟩
  replace BB := belowO BB hC (fun b hb => Nat.le_trans hwB (A.sx.kb b hb))
  replace A := A.op S hK hC
  clear S hK hC
  refine gl_nil ?_
  refine ge_then ?_
  refine gc_seq ?_
  refine gc_reg ?_
  refine t 10 (pg g0) ?_
  refine tc 11 8 #[pg g0, .int .u64 17, .int .u64 9] (put_any (v := 17) (tk := 9) A.sx (by decide) (by omega) (by omega)) ?_
  rintro _ v5 ⟨rfl, K4, S, hK, hC⟩
  refine ⟨_, rfl, ?_⟩
  replace BB := belowO BB hC (fun b hb => Nat.le_trans hwB (A.sx.kb b hb))
  replace A := A.op S hK hC
  clear S hK hC
  refine gl_nil ?_
  refine ge_then ?_
  refine gc_seq ?_
  refine gc_reg ?_
  refine t 12 (pg g0) ?_
  refine tc 13 8 #[pg g0, .int .u64 18, .int .u64 5] (put_any (v := 18) (tk := 5) A.sx (by decide) (by omega) (by omega)) ?_
  rintro _ v7 ⟨rfl, K6, S, hK, hC⟩
  refine ⟨_, rfl, ?_⟩
  replace BB := belowO BB hC (fun b hb => Nat.le_trans hwB (A.sx.kb b hb))
  replace A := A.op S hK hC
  clear S hK hC
  refine gl_nil ?_
  refine ge_then ?_
  refine gc_seq ?_
  refine gc_reg ?_
  refine t 14 (pg g0) ?_
  refine tc 15 16 #[pg g0, .int .i64 2] (NumE.cast (l' := [17, 16]) (top_x (m := 2) A.sx (by decide) (by decide) (by decide +kernel) (by omega) (by omega)) rfl (by kernel_rfl)) ?_
  rintro _ v8 ⟨tv15, rfl, U15, S, C⟩
  refine ⟨_, rfl, ?_⟩
  have hC := C.mono (fun b _ (e : b = g0) => e ▸ A.sx.sa.top)
  replace BB := belowO BB hC (fun b hb => Nat.le_trans hwB (A.sx.kb b hb))
  have ZU15 := zp_new (V := v7) (V' := v8) (fun b hb => A.sx.sa.lt hb)
  replace A := A.op S (fun _ h => .inl h) hC
  clear S hC C
  refine t 2 (tv15) ?_
  refine gl_nil ?_
  refine ge_then ?_
  refine gc_fr [(0, .bool false), (1, pg g0), (2, tv15)] (by kernel_rfl) ?_
  refine gc_seq ?_
  refine gc_reg ?_
  refine t 16 (pg g0) ?_
  refine tc 17 10 #[pg g0, .int .u64 17, .int .u64 9] (drop_any (v := 17) (tk := 9) A.sx (by decide) (by omega) (by omega)) ?_
  rintro _ v10 ⟨rfl, K9, S, hK, hC⟩
  refine ⟨_, rfl, ?_⟩
  replace BB := belowO BB hC (fun b hb => Nat.le_trans hwB (A.sx.kb b hb))
  replace ZU15 := ZU15.op hC hK
  replace A := A.op S hK hC
  clear S hK hC
  refine gl_nil ?_
  refine ge_then ?_
  refine gc_seq ?_
  refine gc_reg ?_
  refine t 18 (pg g0) ?_
  refine tc 19 12 #[pg g0, .int .u64 18, .bool true] (bond_on (v := 18) A.sx (by decide) (by omega) (by omega)) ?_
  rintro _ v12 ⟨rfl, K11, S, hK, hC⟩
  refine ⟨_, rfl, ?_⟩
  replace BB := belowO BB hC (fun b hb => Nat.le_trans hwB (A.sx.kb b hb))
  replace ZU15 := ZU15.op hC hK
  replace A := A.op S hK hC
  clear S hK hC
  refine gl_nil ?_
  refine ge_then ?_
  refine gc_seq ?_
  refine gc_reg ?_
  refine t 20 (pg g0) ?_
  refine tc 21 12 #[pg g0, .int .u64 16, .bool true] (bond_on (v := 16) A.sx (by decide) (by omega) (by omega)) ?_
  rintro _ v14 ⟨rfl, K13, S, hK, hC⟩
  refine ⟨_, rfl, ?_⟩
  replace BB := belowO BB hC (fun b hb => Nat.le_trans hwB (A.sx.kb b hb))
  replace ZU15 := ZU15.op hC hK
  replace A := A.op S hK hC
  clear S hK hC
  refine gl_nil ?_
  refine ge_then ?_
  refine gc_seq ?_
  refine gc_reg ?_
  refine t 22 (pg g0) ?_
  refine tc 23 12 #[pg g0, .int .u64 17, .bool false] (bond_off (v := 17) A.sx (by decide) (by omega) (by omega)) ?_
  rintro _ v16 ⟨rfl, K15, S, hK, hC⟩
  refine ⟨_, rfl, ?_⟩
  replace BB := belowO BB hC (fun b hb => Nat.le_trans hwB (A.sx.kb b hb))
  replace ZU15 := ZU15.op hC hK
  replace A := A.op S hK hC
  clear S hK hC
  refine gl_nil ?_
  refine ge_then ?_
  refine gc_seq ?_
  refine gc_reg ?_
  refine ta 25 [.int .u64 1, .int .u64 2] 31 (sg 2) ?_
  intro v17 g18 Xg18 hg18 B
  have zg18 := Nat.le_trans A.size hg18
  have nXg18 := A.new hg18
  replace BB := joinB BB B
  replace A := A.keep B
  replace ZU15 := ZU15.keep B
  clear B
  refine ta 26 [.int .u64 2, .int .u64 3] 31 (sg 2) ?_
  intro v19 g20 Xg20 hg20 B
  have zg20 := Nat.le_trans A.size hg20
  have nXg20 := A.new hg20
  replace BB := joinB BB B
  replace A := A.keep B
  replace ZU15 := ZU15.keep B
  replace Xg18 := Xg18.keep B
  clear B
  refine tc 27 22 #[sg 2 g18, sg 2 g20] (turns_x Xg18 Xg20) ?_
  rintro _ v21 ⟨va, vb, rfl, Ua, Ub, B⟩
  refine ⟨_, rfl, ?_⟩
  have ZT_ := zp_new (V := v19) (V' := v21) (fun b hb => A.sx.sa.lt hb)
  replace BB := joinB BB B
  replace A := A.keep B
  replace ZU15 := ZU15.keep B
  replace Xg18 := Xg18.keep B
  replace Xg20 := Xg20.keep B
  clear B
  refine t 24 (.tuple #[va, vb]) ?_
  refine t 28 (va) ?_
  refine t 29 (vb) ?_
  refine t 3 (va) ?_
  refine t 4 (vb) ?_
  refine gl_nil ?_
  refine ge_then ?_
  refine gc_fr [(0, .bool false), (1, pg g0), (2, tv15), (3, va), (4, vb)] (by kernel_rfl) ?_
  refine gc_seq ?_
  refine gc_reg ?_
  refine t 30 (tv15) ?_
  refine ta 31 [.int .u64 17, .int .u64 16] 31 (sg 2) ?_
  intro v22 g23 Xg23 hg23 B
  have zg23 := Nat.le_trans A.size hg23
  have nXg23 := A.new hg23
  replace BB := joinB BB B
  replace A := A.keep B
  replace ZU15 := ZU15.keep B
  replace Xg18 := Xg18.keep B
  replace Xg20 := Xg20.keep B
  replace ZT_ := ZT_.keep B
  clear B
  refine tc 32 15 #[tv15, sg 2 g23] (numbers_ua (ZU15.ua U15) (ua_blk [17, 16] Xg23 rfl (Nat.zero_le _) (by decide)) (by decide)) ?_
  rintro _ v24 ⟨rfl, B⟩
  refine ⟨_, rfl, ?_⟩
  replace BB := joinB BB B
  replace A := A.keep B
  replace ZU15 := ZU15.keep B
  replace Xg18 := Xg18.keep B
  replace Xg20 := Xg20.keep B
  replace ZT_ := ZT_.keep B
  replace Xg23 := Xg23.keep B
  clear B
  refine t 33 (.bool true) ?_
  refine t 34 (pg g0) ?_
  refine tc 35 16 #[pg g0, .int .i64 9] (NumE.cast (l' := [16, 18]) (top_x (m := 9) A.sx (by decide) (by decide) (by decide +kernel) (by omega) (by omega)) rfl (by kernel_rfl)) ?_
  rintro _ v25 ⟨tv35, rfl, U35, S, C⟩
  refine ⟨_, rfl, ?_⟩
  have hC := C.mono (fun b _ (e : b = g0) => e ▸ A.sx.sa.top)
  replace BB := belowO BB hC (fun b hb => Nat.le_trans hwB (A.sx.kb b hb))
  replace ZU15 := ZU15.op hC (fun _ h => .inl h)
  have mXg18 := not_op Xg18 nXg18 (fun _ h => .inl h)
  replace Xg18 := Xg18.chg hC nXg18
  replace nXg18 := mXg18
  clear mXg18
  have mXg20 := not_op Xg20 nXg20 (fun _ h => .inl h)
  replace Xg20 := Xg20.chg hC nXg20
  replace nXg20 := mXg20
  clear mXg20
  replace ZT_ := ZT_.op hC (fun _ h => .inl h)
  have mXg23 := not_op Xg23 nXg23 (fun _ h => .inl h)
  replace Xg23 := Xg23.chg hC nXg23
  replace nXg23 := mXg23
  clear mXg23
  have ZU35 := zp_new (V := v24) (V' := v25) (fun b hb => A.sx.sa.lt hb)
  replace A := A.op S (fun _ h => .inl h) hC
  clear S hC C
  refine ta 36 [.int .u64 16, .int .u64 18] 31 (sg 2) ?_
  intro v26 g27 Xg27 hg27 B
  have zg27 := Nat.le_trans A.size hg27
  have nXg27 := A.new hg27
  replace BB := joinB BB B
  replace A := A.keep B
  replace ZU15 := ZU15.keep B
  replace Xg18 := Xg18.keep B
  replace Xg20 := Xg20.keep B
  replace ZT_ := ZT_.keep B
  replace Xg23 := Xg23.keep B
  replace ZU35 := ZU35.keep B
  clear B
  refine tc 37 15 #[tv35, sg 2 g27] (numbers_ua (ZU35.ua U35) (ua_blk [16, 18] Xg27 rfl (Nat.zero_le _) (by decide)) (by decide)) ?_
  rintro _ v28 ⟨rfl, B⟩
  refine ⟨_, rfl, ?_⟩
  replace BB := joinB BB B
  replace A := A.keep B
  replace ZU15 := ZU15.keep B
  replace Xg18 := Xg18.keep B
  replace Xg20 := Xg20.keep B
  replace ZT_ := ZT_.keep B
  replace Xg23 := Xg23.keep B
  replace ZU35 := ZU35.keep B
  replace Xg27 := Xg27.keep B
  clear B
  refine t 38 (.bool true) ?_
  refine t 39 (.bool true) ?_
  refine t 40 (pg g0) ?_
  refine tc 41 18 #[pg g0] (NumE.cast (n' := 16) (l' := [16, 18]) (bonded_x A.sx (by decide +kernel) (by omega) (by omega)) (by kernel_rfl) (by kernel_rfl)) ?_
  rintro _ v29 ⟨tv41, rfl, U41, S, C⟩
  refine ⟨_, rfl, ?_⟩
  have hC := C.mono (fun b _ (e : b = g0) => e ▸ A.sx.sa.top)
  replace BB := belowO BB hC (fun b hb => Nat.le_trans hwB (A.sx.kb b hb))
  replace ZU15 := ZU15.op hC (fun _ h => .inl h)
  have mXg18 := not_op Xg18 nXg18 (fun _ h => .inl h)
  replace Xg18 := Xg18.chg hC nXg18
  replace nXg18 := mXg18
  clear mXg18
  have mXg20 := not_op Xg20 nXg20 (fun _ h => .inl h)
  replace Xg20 := Xg20.chg hC nXg20
  replace nXg20 := mXg20
  clear mXg20
  replace ZT_ := ZT_.op hC (fun _ h => .inl h)
  have mXg23 := not_op Xg23 nXg23 (fun _ h => .inl h)
  replace Xg23 := Xg23.chg hC nXg23
  replace nXg23 := mXg23
  clear mXg23
  replace ZU35 := ZU35.op hC (fun _ h => .inl h)
  have mXg27 := not_op Xg27 nXg27 (fun _ h => .inl h)
  replace Xg27 := Xg27.chg hC nXg27
  replace nXg27 := mXg27
  clear mXg27
  have ZU41 := zp_new (V := v28) (V' := v29) (fun b hb => A.sx.sa.lt hb)
  replace A := A.op S (fun _ h => .inl h) hC
  clear S hC C
  refine ta 42 [.int .u64 16, .int .u64 18] 31 (sg 2) ?_
  intro v30 g31 Xg31 hg31 B
  have zg31 := Nat.le_trans A.size hg31
  have nXg31 := A.new hg31
  replace BB := joinB BB B
  replace A := A.keep B
  replace ZU15 := ZU15.keep B
  replace Xg18 := Xg18.keep B
  replace Xg20 := Xg20.keep B
  replace ZT_ := ZT_.keep B
  replace Xg23 := Xg23.keep B
  replace ZU35 := ZU35.keep B
  replace Xg27 := Xg27.keep B
  replace ZU41 := ZU41.keep B
  clear B
  refine tc 43 15 #[tv41, sg 2 g31] (numbers_ua (ZU41.ua U41) (ua_blk [16, 18] Xg31 rfl (Nat.zero_le _) (by decide)) (by decide)) ?_
  rintro _ v32 ⟨rfl, B⟩
  refine ⟨_, rfl, ?_⟩
  replace BB := joinB BB B
  replace A := A.keep B
  replace ZU15 := ZU15.keep B
  replace Xg18 := Xg18.keep B
  replace Xg20 := Xg20.keep B
  replace ZT_ := ZT_.keep B
  replace Xg23 := Xg23.keep B
  replace ZU35 := ZU35.keep B
  replace Xg27 := Xg27.keep B
  replace ZU41 := ZU41.keep B
  replace Xg31 := Xg31.keep B
  clear B
  refine t 44 (.bool true) ?_
  refine t 45 (.bool true) ?_
  refine t 46 (va) ?_
  refine ta 47 [.int .u64 1] 31 (sg 1) ?_
  intro v33 g34 Xg34 hg34 B
  have zg34 := Nat.le_trans A.size hg34
  have nXg34 := A.new hg34
  replace BB := joinB BB B
  replace A := A.keep B
  replace ZU15 := ZU15.keep B
  replace Xg18 := Xg18.keep B
  replace Xg20 := Xg20.keep B
  replace ZT_ := ZT_.keep B
  replace Xg23 := Xg23.keep B
  replace ZU35 := ZU35.keep B
  replace Xg27 := Xg27.keep B
  replace ZU41 := ZU41.keep B
  replace Xg31 := Xg31.keep B
  clear B
  refine tc 48 15 #[va, sg 1 g34] (numbers_ua (ZT_.ua Ua) (ua_blk [1] Xg34 rfl (Nat.zero_le _) (by decide)) (by decide)) ?_
  rintro _ v35 ⟨rfl, B⟩
  refine ⟨_, rfl, ?_⟩
  replace BB := joinB BB B
  replace A := A.keep B
  replace ZU15 := ZU15.keep B
  replace Xg18 := Xg18.keep B
  replace Xg20 := Xg20.keep B
  replace ZT_ := ZT_.keep B
  replace Xg23 := Xg23.keep B
  replace ZU35 := ZU35.keep B
  replace Xg27 := Xg27.keep B
  replace ZU41 := ZU41.keep B
  replace Xg31 := Xg31.keep B
  replace Xg34 := Xg34.keep B
  clear B
  refine t 49 (.bool true) ?_
  refine t 50 (.bool true) ?_
  refine t 51 (vb) ?_
  refine ta 52 [.int .u64 3] 31 (sg 1) ?_
  intro v36 g37 Xg37 hg37 B
  have zg37 := Nat.le_trans A.size hg37
  have nXg37 := A.new hg37
  replace BB := joinB BB B
  replace A := A.keep B
  replace ZU15 := ZU15.keep B
  replace Xg18 := Xg18.keep B
  replace Xg20 := Xg20.keep B
  replace ZT_ := ZT_.keep B
  replace Xg23 := Xg23.keep B
  replace ZU35 := ZU35.keep B
  replace Xg27 := Xg27.keep B
  replace ZU41 := ZU41.keep B
  replace Xg31 := Xg31.keep B
  replace Xg34 := Xg34.keep B
  clear B
  refine tc 53 15 #[vb, sg 1 g37] (numbers_ua (ZT_.ua Ub) (ua_blk [3] Xg37 rfl (Nat.zero_le _) (by decide)) (by decide)) ?_
  rintro _ v38 ⟨rfl, B⟩
  refine ⟨_, rfl, ?_⟩
  replace BB := joinB BB B
  replace A := A.keep B
  replace ZU15 := ZU15.keep B
  replace Xg18 := Xg18.keep B
  replace Xg20 := Xg20.keep B
  replace ZT_ := ZT_.keep B
  replace Xg23 := Xg23.keep B
  replace ZU35 := ZU35.keep B
  replace Xg27 := Xg27.keep B
  replace ZU41 := ZU41.keep B
  replace Xg31 := Xg31.keep B
  replace Xg34 := Xg34.keep B
  replace Xg37 := Xg37.keep B
  clear B
  refine t 54 (.bool true) ?_
  refine t 0 (.bool true) ?_
  refine gl_nil ?_
  refine ge_then ?_
  refine gc_fr [(0, .bool true)] (by kernel_rfl) ?_
  refine gc_ret ?_
  refine ge_ret (.bool true) (rs1 0 (by kernel_rfl) (by kernel_rfl)) ?_
  exact ⟨rfl, BB⟩
end Pw
end Go.Proofs.YtemkjdanemddpaaGreat
