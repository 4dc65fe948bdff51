/- Several texts, joined: PwA. -/
import Derived.Test.YtliajmpchofiiaaGreatJal
namespace Go.Proofs.YtliajmpchofiiaaGreat
namespace Pw
open Go.RowKit Go.Lib Pg Lim Gl Kv Bk
attribute [local go_sem] Oper.semAt_some
set_option maxRecDepth 100000
set_option linter.unusedVariables false
set_option maxHeartbeats 2000000
theorem mk_key {w : World} {k a b : Int} (ha : 0 ≤ a ∧ a < 18446744073709551616) (hE : Ky.mkE k a b = false) : Calls Tryz.prog 49 #[.agg #[.int .i64 k, .int .u64 a, .int .u64 b]] w fun e w' => ∃ v, e = .returned (.tuple #[v, .int .i64 0]) ∧ ByU w' v (Ky.mk k a b) ∧ Below w.heap.size w w' := by
  have u := Ky.make_any (w := w) (k := k) (b := b) ha.1 ha.2
  rw [hE] at u
  refine u.mono ?_
  rintro e w' ⟨v, rfl, O, B⟩
  exact ⟨v, rfl, ByU.of O, B⟩
theorem byu_nil (w : World) : ByU w (.slice none 0 0) [] := ⟨⟨none, 0, rfl, Nat.le_refl _, by decide, fun _ => rfl, fun x h => by simp at h, .inl rfl⟩, fun b o n c e => by cases e⟩
theorem mk_pos {k a b : Int} (_hE : Ky.mkE k a b = false) : 0 < (Ky.mk k a b).length := by
  rw [Ky.mk_eq (k := k) (n := (Ky.frm k).1) (m0 := (Ky.frm k).2.1) (m1 := (Ky.frm k).2.2) rfl]
  simp
theorem set_mk {k a b : Int} (hE : Ky.mkE k a b = false) : setE (Ky.mk k a b) [] = 0 := by
  have h1 := mk_pos hE
  have h2 := Ky.mk_len k a b
  unfold setE
  rw [if_neg (by omega), if_neg (by simp)]
theorem mset {B : Nat} {w : World} {K : Nat → Prop} {g : Nat} {E : Ents} {W : List Ents} {n N : Nat} {kv : Value} {k a b : Int} (h : Sx B w K g E W n N) (hk : ByU w kv (Ky.mk k a b)) (hE : Ky.mkE k a b = false) (hn : n ≤ 4000000000000000000) (hN : N + 2 ≤ 100000000) :
    Calls Tryz.prog 50 #[pg g, kv, .slice none 0 0] w (SxE B w K g (put E (Ky.mk k a b) []) W (n + 1) (N + 2) (.int .i64 0)) := by
  have u := xset h hk (byu_nil w) hn hN
  rw [set_mk hE, if_pos rfl] at u
  exact u
theorem mark_on {B : Nat} {w : World} {K : Nat → Prop} {g : Nat} {E : Ents} {W : List Ents} {n N : Nat} {k a b : Int} (h : Sx B w K g E W n N) (ha : 0 ≤ a ∧ a < 18446744073709551616) (hE : Ky.mkE k a b = false) (hn : n + 5 ≤ 4000000000000000000) (hN : N + 5 ≤ 100000000) : Calls Tryz.prog 94 #[pg g, .agg #[.int .i64 k, .int .u64 a, .int .u64 b], .bool true] w (SxE B w K g (put E (Ky.mk k a b) []) W (n + 1) (N + 2) (.tuple #[])) := by
  have A := h.at
  refine gc_enter (n := 21) Tryz.func94 rfl (by kernel_rfl) (by kernel_rfl) ?_
  refine gc_seq ?_
  refine gc_reg ?_
  refine ta 4 [.int .i64 k, .int .u64 a, .int .u64 b] 104 (pg) ?_
  intro v1 g2 Xg2 hg2 B
  have zg2 := Nat.le_trans A.size hg2
  have nXg2 := A.new hg2
  replace A := A.keep B
  clear B
  refine gl_nil ?_
  refine ge_then ?_
  refine gc_seq ?_
  refine gc_reg ?_
  refine tlr 9 [.int .i64 k, .int .u64 a, .int .u64 b] Xg2 0 ?_
  refine tc 10 49 #[.agg #[.int .i64 k, .int .u64 a, .int .u64 b]] (mk_key ha hE) ?_
  rintro _ v5 ⟨kv4, rfl, U3, B⟩
  refine ⟨_, rfl, ?_⟩
  replace A := A.keep B
  replace Xg2 := Xg2.keep B
  clear B
  refine t 8 (.tuple #[kv4, .int .i64 0]) ?_
  refine t 11 (kv4) ?_
  refine t 12 (.int .i64 0) ?_
  refine t 6 (kv4) ?_
  refine t 7 (.int .i64 0) ?_
  refine gl_nil ?_
  refine ge_then ?_
  refine gc_seq ?_
  refine gc_seq ?_
  refine gc_reg ?_
  refine t 13 (.bool true) ?_
  refine t 14 (.bool false) ?_
  refine gl_nil ?_
  refine ge_then ?_
  refine gc_fr [(0, pg g), (6, kv4), (14, .bool false)] (by kernel_rfl) ?_
  refine gc_no ?_
  refine gc_skip ?_
  refine ge_then ?_
  refine gc_reg ?_
  refine t 18 (pg g) ?_
  refine t 19 (kv4) ?_
  refine tc 20 50 #[pg g, kv4, .slice none 0 0] (mset A.sx U3 hE (by omega) (by omega)) ?_
  rintro _ v7 ⟨rfl, K6, S, hK, hC⟩
  refine ⟨_, rfl, ?_⟩
  have mXg2 := not_op Xg2 nXg2 hK
  replace Xg2 := Xg2.chg hC nXg2
  replace nXg2 := mXg2
  clear mXg2
  replace U3 := A.byu U3 hC
  replace A := A.op S hK hC
  clear S hK hC
  clear U3
  refine gl_nil ?_
  refine ge_end (.tuple #[]) (rs0 (by kernel_rfl)) ?_
  exact ⟨rfl, _, A.sx, A.km, A.cc⟩
theorem mark_off {B : Nat} {w : World} {K : Nat → Prop} {g : Nat} {E : Ents} {W : List Ents} {n N : Nat} {k a b : Int} (h : Sx B w K g E W n N) (ha : 0 ≤ a ∧ a < 18446744073709551616) (hE : Ky.mkE k a b = false) (hn : n + 5 ≤ 4000000000000000000) (hN : N + 5 ≤ 100000000) : Calls Tryz.prog 94 #[pg g, .agg #[.int .i64 k, .int .u64 a, .int .u64 b], .bool false] w (SxE B w K g (rem E (Ky.mk k a b)) W (n + 1) (N + 2) (.tuple #[])) := by
  have A := h.at
  refine gc_enter (n := 21) Tryz.func94 rfl (by kernel_rfl) (by kernel_rfl) ?_
  refine gc_seq ?_
  refine gc_reg ?_
  refine ta 4 [.int .i64 k, .int .u64 a, .int .u64 b] 104 (pg) ?_
  intro v1 g2 Xg2 hg2 B
  have zg2 := Nat.le_trans A.size hg2
  have nXg2 := A.new hg2
  replace A := A.keep B
  clear B
  refine gl_nil ?_
  refine ge_then ?_
  refine gc_seq ?_
  refine gc_reg ?_
  refine tlr 9 [.int .i64 k, .int .u64 a, .int .u64 b] Xg2 0 ?_
  refine tc 10 49 #[.agg #[.int .i64 k, .int .u64 a, .int .u64 b]] (mk_key ha hE) ?_
  rintro _ v5 ⟨kv4, rfl, U3, B⟩
  refine ⟨_, rfl, ?_⟩
  replace A := A.keep B
  replace Xg2 := Xg2.keep B
  clear B
  refine t 8 (.tuple #[kv4, .int .i64 0]) ?_
  refine t 11 (kv4) ?_
  refine t 12 (.int .i64 0) ?_
  refine t 6 (kv4) ?_
  refine t 7 (.int .i64 0) ?_
  refine gl_nil ?_
  refine ge_then ?_
  refine gc_seq ?_
  refine gc_seq ?_
  refine gc_reg ?_
  refine t 13 (.bool false) ?_
  refine t 14 (.bool true) ?_
  refine gl_nil ?_
  refine ge_then ?_
  refine gc_fr [(0, pg g), (6, kv4), (14, .bool true)] (by kernel_rfl) ?_
  refine gc_yes ?_
  refine gc_seq ?_
  refine gc_reg ?_
  refine t 15 (pg g) ?_
  refine t 16 (kv4) ?_
  refine tc 17 130 #[pg g, kv4] (xdel A.sx U3 (Nat.le_trans (Ky.mk_len _ _ _) (by decide)) (by omega) (by omega)) ?_
  rintro _ v7 ⟨rfl, K6, S, hK, hC⟩
  refine ⟨_, rfl, ?_⟩
  have mXg2 := not_op Xg2 nXg2 hK
  replace Xg2 := Xg2.chg hC nXg2
  replace nXg2 := mXg2
  clear mXg2
  replace U3 := A.byu U3 hC
  replace A := A.op S hK hC
  clear S hK hC
  clear U3
  refine gl_nil ?_
  refine ge_then ?_
  refine gc_ret ?_
  refine ge_tr ?_
  refine ge_ret (.tuple #[]) (rs0 (by kernel_rfl)) ?_
  exact ⟨rfl, _, A.sx, A.km, A.cc⟩
theorem place_any {w : World} {v tk : Int} : Calls Tryz.prog 95 #[.int .u64 v, .int .u64 tk] w fun e w' => e = .returned (.agg #[.int .i64 10, .int .u64 tk, .int .u64 v]) ∧ Below w.heap.size w w' := by
  have BB := Below.refl w.heap.size w
  refine gc_enter (n := 8) Tryz.func95 rfl (by kernel_rfl) (by kernel_rfl) ?_
  refine gc_seq ?_
  refine gc_reg ?_
  refine ta 4 [.int .i64 0, .int .u64 0, .int .u64 0] 104 (pg) ?_
  intro v1 g2 Xg2 hg2 B
  replace BB := joinB BB B
  clear B
  refine gl_nil ?_
  refine ge_then ?_
  refine gc_seq ?_
  refine gc_reg ?_
  refine t 5 (.int .u64 tk) ?_
  refine t 6 (.int .u64 v) ?_
  refine t 7 (.agg #[.int .i64 10, .int .u64 tk, .int .u64 v]) ?_
  refine ts Xg2 0 (.agg #[.int .i64 10, .int .u64 tk, .int .u64 v]) [.int .i64 10, .int .u64 tk, .int .u64 v] [.int .i64 10, .int .u64 tk, .int .u64 v] ?_
  intro v3 Y C
  replace BB := belowC BB C (by omega)
  clear C Xg2
  have Xg2 := Y
  clear Y
  refine gl_nil ?_
  refine ge_then ?_
  refine gc_ret ?_
  refine ge_ret (.agg #[.int .i64 10, .int .u64 tk, .int .u64 v]) (rsc 4 (T := 104) (by kernel_rfl) (by kernel_rfl) (lr Xg2 0)) ?_
  exact ⟨rfl, BB⟩
theorem mkE10 (tk v : Int) : Ky.mkE 10 tk v = false := by
  unfold Ky.mkE
  rw [show (Ky.frm 10).1 = 17 from rfl]
  simp
theorem mkE11 (v : Int) : Ky.mkE 11 v 0 = false := by
  unfold Ky.mkE
  rw [show (Ky.frm 11).1 = 9 from rfl]
  simp
theorem put_any {B : Nat} {w : World} {K : Nat → Prop} {g : Nat} {E : Ents} {W : List Ents} {n N : Nat} {v tk : Int} (h : Sx B w K g E W n N) (htk : 0 ≤ tk ∧ tk < 18446744073709551616) (hn : n + 5 ≤ 4000000000000000000) (hN : N + 5 ≤ 100000000) : Calls Tryz.prog 40 #[pg g, .int .u64 v, .int .u64 tk] w (SxE B w K g (put E (Ky.mk 10 tk v) []) W (n + 1) (N + 2) (.tuple #[])) := by
  have A := h.at
  refine gc_enter (n := 11) Tryz.func40 rfl (by kernel_rfl) (by kernel_rfl) ?_
  refine gc_reg ?_
  refine t 6 (pg g) ?_
  refine t 7 (.int .u64 v) ?_
  refine t 8 (.int .u64 tk) ?_
  refine tc 9 95 #[.int .u64 v, .int .u64 tk] (place_any) ?_
  rintro _ v1 ⟨rfl, B⟩
  refine ⟨_, rfl, ?_⟩
  replace A := A.keep B
  clear B
  refine tc 10 94 #[pg g, .agg #[.int .i64 10, .int .u64 tk, .int .u64 v], .bool true] (mark_on A.sx htk (mkE10 tk v) (by omega) (by omega)) ?_
  rintro _ v3 ⟨rfl, K2, S, hK, hC⟩
  refine ⟨_, rfl, ?_⟩
  replace A := A.op S hK hC
  clear S hK hC
  refine gl_nil ?_
  refine ge_end (.tuple #[]) (rs0 (by kernel_rfl)) ?_
  exact ⟨rfl, _, A.sx, A.km, A.cc⟩
theorem drop_any {B : Nat} {w : World} {K : Nat → Prop} {g : Nat} {E : Ents} {W : List Ents} {n N : Nat} {v tk : Int} (h : Sx B w K g E W n N) (htk : 0 ≤ tk ∧ tk < 18446744073709551616) (hn : n + 5 ≤ 4000000000000000000) (hN : N + 5 ≤ 100000000) : Calls Tryz.prog 42 #[pg g, .int .u64 v, .int .u64 tk] w (SxE B w K g (rem E (Ky.mk 10 tk v)) W (n + 1) (N + 2) (.tuple #[])) := by
  have A := h.at
  refine gc_enter (n := 11) Tryz.func42 rfl (by kernel_rfl) (by kernel_rfl) ?_
  refine gc_reg ?_
  refine t 6 (pg g) ?_
  refine t 7 (.int .u64 v) ?_
  refine t 8 (.int .u64 tk) ?_
  refine tc 9 95 #[.int .u64 v, .int .u64 tk] (place_any) ?_
  rintro _ v1 ⟨rfl, B⟩
  refine ⟨_, rfl, ?_⟩
  replace A := A.keep B
  clear B
  refine tc 10 94 #[pg g, .agg #[.int .i64 10, .int .u64 tk, .int .u64 v], .bool false] (mark_off A.sx htk (mkE10 tk v) (by omega) (by omega)) ?_
  rintro _ v3 ⟨rfl, K2, S, hK, hC⟩
  refine ⟨_, rfl, ?_⟩
  replace A := A.op S hK hC
  clear S hK hC
  refine gl_nil ?_
  refine ge_end (.tuple #[]) (rs0 (by kernel_rfl)) ?_
  exact ⟨rfl, _, A.sx, A.km, A.cc⟩
theorem bond_on {B : Nat} {w : World} {K : Nat → Prop} {g : Nat} {E : Ents} {W : List Ents} {n N : Nat} {v : Int} (h : Sx B w K g E W n N) (hv : 0 ≤ v ∧ v < 18446744073709551616) (hn : n + 5 ≤ 4000000000000000000) (hN : N + 5 ≤ 100000000) : Calls Tryz.prog 43 #[pg g, .int .u64 v, .bool true] w (SxE B w K g (put E (Ky.mk 11 v 0) []) W (n + 1) (N + 2) (.tuple #[])) := by
  have A := h.at
  refine gc_enter (n := 11) Tryz.func43 rfl (by kernel_rfl) (by kernel_rfl) ?_
  refine gc_reg ?_
  refine t 6 (pg g) ?_
  refine t 7 (.int .u64 v) ?_
  refine t 8 (.agg #[.int .i64 11, .int .u64 v, .int .u64 0]) ?_
  refine t 9 (.bool true) ?_
  refine tc 10 94 #[pg g, .agg #[.int .i64 11, .int .u64 v, .int .u64 0], .bool true] (mark_on A.sx hv (mkE11 v) (by omega) (by omega)) ?_
  rintro _ v2 ⟨rfl, K1, S, hK, hC⟩
  refine ⟨_, rfl, ?_⟩
  replace A := A.op S hK hC
  clear S hK hC
  refine gl_nil ?_
  refine ge_end (.tuple #[]) (rs0 (by kernel_rfl)) ?_
  exact ⟨rfl, _, A.sx, A.km, A.cc⟩
theorem bond_off {B : Nat} {w : World} {K : Nat → Prop} {g : Nat} {E : Ents} {W : List Ents} {n N : Nat} {v : Int} (h : Sx B w K g E W n N) (hv : 0 ≤ v ∧ v < 18446744073709551616) (hn : n + 5 ≤ 4000000000000000000) (hN : N + 5 ≤ 100000000) : Calls Tryz.prog 43 #[pg g, .int .u64 v, .bool false] w (SxE B w K g (rem E (Ky.mk 11 v 0)) W (n + 1) (N + 2) (.tuple #[])) := by
  have A := h.at
  refine gc_enter (n := 11) Tryz.func43 rfl (by kernel_rfl) (by kernel_rfl) ?_
  refine gc_reg ?_
  refine t 6 (pg g) ?_
  refine t 7 (.int .u64 v) ?_
  refine t 8 (.agg #[.int .i64 11, .int .u64 v, .int .u64 0]) ?_
  refine t 9 (.bool false) ?_
  refine tc 10 94 #[pg g, .agg #[.int .i64 11, .int .u64 v, .int .u64 0], .bool false] (mark_off A.sx hv (mkE11 v) (by omega) (by omega)) ?_
  rintro _ v2 ⟨rfl, K1, S, hK, hC⟩
  refine ⟨_, rfl, ?_⟩
  replace A := A.op S hK hC
  clear S hK hC
  refine gl_nil ?_
  refine ge_end (.tuple #[]) (rs0 (by kernel_rfl)) ?_
  exact ⟨rfl, _, A.sx, A.km, A.cc⟩
end Pw
end Go.Proofs.YtliajmpchofiiaaGreat
