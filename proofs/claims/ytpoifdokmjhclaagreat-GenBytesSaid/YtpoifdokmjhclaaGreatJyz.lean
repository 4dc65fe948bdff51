/- Several texts, joined: FoX2, FoB, FoC. -/
import Derived.Test.YtpoifdokmjhclaaGreatJyw
import Derived.Test.YtpoifdokmjhclaaGreatJyy
namespace Go.Proofs.YtpoifdokmjhclaaGreat
namespace Fo
open Go.RowKit Go.Lib Pg Lim Gl Kv Bk Pw
theorem mk_f {w : World} {k a b : Int} (ha : 0 ≤ a ∧ a < 18446744073709551616) (hk : 16 < (Ky.frm k).1) : Calls Tryz.prog 72 #[.agg #[.int .i64 k, .int .u64 a, .int .u64 b]] w fun e w' => ∃ v, e = .returned (.tuple #[v, .int .i64 0]) ∧ ByU w' v (Ky.mk k a b) ∧ Below w.heap.size w w' := mk_key ha (by
  unfold Ky.mkE
  have h1 : ¬ (Ky.frm k).1 = 0 := by omega
  have h2 : 8 < (Ky.frm k).1 := by omega
  simp [h1, h2, hk])
end Fo
end Go.Proofs.YtpoifdokmjhclaaGreat

namespace Go.Proofs.YtpoifdokmjhclaaGreat
namespace Fo
open Go.RowKit Go.Lib Pg Lim Gl Kv Bk Pw
attribute [local go_sem] Oper.semAt_some
set_option maxRecDepth 100000
set_option linter.unusedVariables false
set_option linter.unusedSimpArgs false
set_option maxHeartbeats 2000000
/-- limbs worth x, in block z (where there are any), which is none of the store's -/
structure Nk (w : World) (K : Nat → Prop) (z : Nat) (ao : Option Addr) (n c : Nat) (x : Int) : Prop where
  lt : n = 0 ∨ z < w.heap.size
  out : n = 0 ∨ ¬ K z
  to : ∀ w' : World, (n ≠ 0 → w'.heap[z]? = w.heap[z]?) → NatA w' ao n c x
/-- the normal list of x, in block z (where there are any limbs), which is none of the store's -/
structure Nq (w : World) (K : Nat → Prop) (z : Nat) (ao : Option Addr) (n c : Nat) (x : Int) : Prop where
  lt : n = 0 ∨ z < w.heap.size
  out : n = 0 ∨ ¬ K z
  to : ∀ w' : World, (n ≠ 0 → w'.heap[z]? = w.heap[z]?) → NatO w' ao n c x
section
variable {w w' : World} {K K' : Nat → Prop} {z n c : Nat} {ao : Option Addr} {x : Int}
theorem Nk.nat (h : Nk w K z ao n c x) : NatA w ao n c x := h.to w (fun _ => rfl)
theorem Nk.keep (h : Nk w K z ao n c x) (hb : Below w.heap.size w w') : Nk w' K z ao n c x :=
  ⟨h.lt.imp_right fun h => Nat.lt_of_lt_of_le h hb.size, h.out, fun w2 h2 => h.to w2 fun hn => (h2 hn).trans (hb.block z (h.lt.resolve_left hn))⟩
theorem Nk.op (h : Nk w K z ao n c x) (hK : ∀ b, K' b → K b ∨ w.heap.size ≤ b) (hc : Chg K w w') : Nk w' K' z ao n c x := by
  refine ⟨h.lt.imp_right fun h => Nat.lt_of_lt_of_le h hc.size, ?_, fun w2 h2 => h.to w2 fun hn => (h2 hn).trans (hc.same z (h.lt.resolve_left hn) (h.out.resolve_left hn))⟩
  rcases h.lt with h1 | h1
  · exact .inl h1
  · refine h.out.imp_right fun h2 h3 => (hK z h3).elim h2 fun h4 => by omega
theorem Nq.o (h : Nq w K z ao n c x) : NatO w ao n c x := h.to w (fun _ => rfl)
theorem Nq.keep (h : Nq w K z ao n c x) (hb : Below w.heap.size w w') : Nq w' K z ao n c x :=
  ⟨h.lt.imp_right fun h => Nat.lt_of_lt_of_le h hb.size, h.out, fun w2 h2 => h.to w2 fun hn => (h2 hn).trans (hb.block z (h.lt.resolve_left hn))⟩
theorem Nq.op (h : Nq w K z ao n c x) (hK : ∀ b, K' b → K b ∨ w.heap.size ≤ b) (hc : Chg K w w') : Nq w' K' z ao n c x := by
  refine ⟨h.lt.imp_right fun h => Nat.lt_of_lt_of_le h hc.size, ?_, fun w2 h2 => h.to w2 fun hn => (h2 hn).trans (hc.same z (h.lt.resolve_left hn) (h.out.resolve_left hn))⟩
  rcases h.lt with h1 | h1
  · exact .inl h1
  · refine h.out.imp_right fun h2 h3 => (hK z h3).elim h2 fun h4 => by omega
theorem Nq.cell {g : Nat} (h : Nq w K z ao n c x) (hc : Chg (· = g) w w') (hne : n = 0 ∨ z ≠ g) : Nq w' K z ao n c x :=
  ⟨h.lt.imp_right fun h => Nat.lt_of_lt_of_le h hc.size, h.out, fun w2 h2 => h.to w2 fun hn => (h2 hn).trans (hc.same z (h.lt.resolve_left hn) (hne.resolve_left hn))⟩
theorem Nq.nat (h : Nq w K z ao n c x) : NatA w ao n c x := h.o.a
theorem natW_nq {B : Nat} (h : Rc.NatW w B ao n c x) (hK : ∀ b, K b → b < B) : ∃ z, (n = 0 ∨ B ≤ z) ∧ Nq w K z ao n c x := by
  obtain ⟨b, o, l, h1, h2, h3, h4, h5⟩ := h.ex
  refine ⟨b, .inr h5, ?_, .inr fun hk => by have := hK b hk; omega, fun w2 hw => ⟨b, o, l, h1, h2, h3, ⟨h4.loc, fun i hi => ?_⟩⟩⟩
  · rcases Nat.eq_zero_or_pos n with h | h
    · exact .inl h
    · exact .inr (cell_lt (h4.cell 0 (by omega)))
  · rw [World.cell?_of_block (w := w) (hw (by omega))]
    exact h4.cell i hi
end

section
variable {w w' : World} {K : Nat → Prop} {z k d g B n N : Nat} {a : Option Addr} {x : Int} {E : Ents} {W : List Ents}
theorem nq_of (A : Sx B w K g E W n N) (M : Nf w' z a k d x) (hz : k = 0 ∨ w.heap.size ≤ z) : Nq w' K z a k d x :=
  ⟨M.lt, hz.imp_right fun h1 h2 => by have := A.sa.lt h2; omega, M.to⟩
theorem Nq.nk (h : Nq w K z a k d x) : Nk w K z a k d x := ⟨h.lt, h.out, fun w2 h2 => (h.to w2 h2).a⟩
end
theorem ne1 {n z s g : Nat} (h : n = 0 ∨ z < s) (hg : s ≤ g) : n = 0 ∨ z ≠ g := h.imp_right fun h => by omega
theorem ne2 {n z s g : Nat} (h : n = 0 ∨ s ≤ z) (hg : g < s) : n = 0 ∨ z ≠ g := h.imp_right fun h => by omega
theorem ne3 {n z s t : Nat} (h : n = 0 ∨ s ≤ z) (hs : t ≤ s) : n = 0 ∨ t ≤ z := h.imp_right fun h => by omega
def got (E : Ents) (k : List Int) : List Int := (Kv.look E k).getD []
theorem setE_mk {k a b : Int} {v : List Int} (hE : Ky.mkE k a b = false) (hv : v.length ≤ 4096) : setE (Ky.mk k a b) v = 0 := by
  have h1 := mk_pos hE
  have h2 := Ky.mk_len k a b
  unfold setE
  rw [if_neg (by omega), if_neg (by omega)]
theorem qset {B : Nat} {w : World} {K : Nat → Prop} {g : Nat} {E : Ents} {W : List Ents} {n N : Nat} {kv vv : Value} {k a b : Int} {v : List Int} (h : Sx B w K g E W n N) (hk : ByU w kv (Ky.mk k a b)) (hE : Ky.mkE k a b = false) (hv : ByU w vv v) (hl : v.length ≤ 4096) (hn : n ≤ 4000000000000000000) (hN : N + 2 ≤ 100000000) :
    Calls Tryz.prog 86 #[pg g, kv, vv] w (SxE B w K g (put E (Ky.mk k a b) v) W (n + 1) (N + 2) (.int .i64 0)) := by
  have u := xset h hk hv hn hN
  rw [setE_mk hE hl, if_pos rfl] at u
  exact u
theorem getlen {B : Nat} {w : World} {K : Nat → Prop} {g : Nat} {E : Ents} {W : List Ents} {n N : Nat} (h : Sx B w K g E W n N) (k : List Int) : (got E k).length ≤ 1000000000 := by
  unfold got
  cases e : Kv.look E k with
  | none => simp
  | some v => exact (h.sa.small _ (Kv.look_mem e)).2
theorem mkE7 (a b : Int) : Ky.mkE 7 a b = false := by
  unfold Ky.mkE
  rw [show (Ky.frm 7).1 = 18 from rfl]
  simp
/-- a history's bytes, and what bytes tell -/
def hv (x y : Int) : List Int := Rc.thr (Rc.pnx (fun o => ([x, y] : List Int).getD o 0)) [(2, 0), (0, 1)] []
def hX (l : List Int) (i : Nat) : Int := Rc.outX (Rc.stHistory l) i
theorem hv_len (x y : Int) : (hv x y).length ≤ 600 := by have := Rc.pnx_len (fun o => ([x, y] : List Int).getD o 0) [(2, 0), (0, 1)] []; simpa [hv] using this
theorem hv_oct (x y : Int) : Oct (hv x y) := Rc.thr_oct _ _ _ (fun _ h => by simp at h)
theorem put_hist {w : World} {x y : Int} {a : Option Addr} {n c : Nat} (h : NatA w a n c x) (m : n ≤ 1000000) : Calls Tryz.prog 221 #[.agg #[.slice a n c, .int .u64 y]] w fun e w' => ∃ v, e = .returned v ∧ ByU w' v (hv x y) ∧ Below w.heap.size w w' := by
  refine (Rc.PutHistory_any h m).mono ?_
  rintro e w' ⟨b, n, rfl, hn, X, hb, B⟩
  exact ⟨_, rfl, byu_box X (hv_oct x y) hn (Nat.le_trans (hv_len x y) (by decide)), B⟩
theorem hist_rd {w : World} {v : Value} {l : List Int} (h : ByU w v l) (hl : l.length ≤ 1000000000) : Calls Tryz.prog 220 #[v] w fun e w' => ∃ a0 n0 c0, e = .returned (.tuple #[.agg #[.slice a0 n0 c0, .int .u64 (hX l 1)], .int .i64 (Rc.outR (Rc.stHistory l))]) ∧ (Rc.NatW w' w.heap.size a0 n0 c0 (hX l 0) ∧ n0 ≤ 510) ∧ Below w.heap.size w w' := by
  obtain ⟨b, ao, c, rfl, h2⟩ := bya h.byt
  exact Rc.oHistory h2 hl
theorem fkey {w : World} {k a b : Int} (ha : 0 ≤ a ∧ a < 18446744073709551616) (hk : 16 < (Ky.frm k).1) : Calls Tryz.prog 219 #[.int .i64 k, .int .u64 a, .int .u64 b] w fun e w' => ∃ v, e = .returned v ∧ ByU w' v (Ky.mk k a b) ∧ Below w.heap.size w w' := by
  have BB := Below.refl w.heap.size w
  refine gc_enter (n := 18) Tryz.func219 rfl (by kernel_rfl) (by kernel_rfl) ?_
  refine gc_seq ?_
  refine gc_reg ?_
  refine t 6 (.slice none 0 0) ?_
  refine gl_nil ?_
  refine ge_then ?_
  refine gc_seq ?_
  refine gc_reg ?_
  refine t 10 (.int .i64 k) ?_
  refine t 11 (.int .u64 a) ?_
  refine t 12 (.int .u64 b) ?_
  refine t 13 (.agg #[.int .i64 k, .int .u64 a, .int .u64 b]) ?_
  refine tc 14 72 #[.agg #[.int .i64 k, .int .u64 a, .int .u64 b]] (mk_f ha hk) ?_
  rintro _ v1 ⟨v, rfl, U1, B⟩
  refine ⟨_, rfl, ?_⟩
  replace BB := joinB BB B
  clear B
  refine t 9 (.tuple #[v, .int .i64 0]) ?_
  refine t 15 (v) ?_
  refine t 16 (.int .i64 0) ?_
  refine t 7 (v) ?_
  refine t 8 (.int .i64 0) ?_
  refine gl_nil ?_
  refine ge_then ?_
  refine gc_fr [(6, .slice none 0 0), (7, v)] (by kernel_rfl) ?_
  refine gc_seq ?_
  refine gc_reg ?_
  refine t 17 (v) ?_
  refine t 6 (v) ?_
  refine gl_nil ?_
  refine ge_then ?_
  refine gc_ret ?_
  refine ge_ret (v) (rs1 6 (by kernel_rfl) (by kernel_rfl)) ?_
  exact ⟨_, rfl, U1, BB⟩
/-- what is answered of a history: its number lies beside the store -/
structure FndH (B : Nat) (w : World) (K : Nat → Prop) (g : Nat) (E : Ents) (W : List Ents) (n N : Nat) (V : Int) (mk : Value → Value) (e : Ending) (w' : World) : Prop where
  ex : ∃ a0 n0 c0, e = .returned (mk (.slice a0 n0 c0)) ∧ ∃ z0 K', Sx B w' K' g E W n N ∧ (∀ b, K' b → K b ∨ w.heap.size ≤ b) ∧ Chg K w w' ∧ Nq w' K' z0 a0 n0 c0 V ∧ n0 ≤ 510 ∧ (n0 = 0 ∨ w.heap.size ≤ z0)
abbrev hmk (r : Int) (b : Bool) (v : Value) : Value := .tuple #[.agg #[v, .int .u64 r], .bool b]
abbrev rmk (v : Value) : Value := .agg #[v]
theorem find_any {B : Nat} {w : World} {K : Nat → Prop} {g : Nat} {E : Ents} {W : List Ents} {n N : Nat} {id p : Int} (h : Sx B w K g E W n N) (hid : 0 ≤ id ∧ id < 18446744073709551616) (hn : n + 10 ≤ 4000000000000000000) (hN : N + 10 ≤ 100000000) : Calls Tryz.prog 179 #[pg g, .int .u64 id, .int .u64 p] w (FndH B w K g E W (n + 1) N (hX (got E (Ky.mk 7 id p)) 0) (hmk (hX (got E (Ky.mk 7 id p)) 1) (Kv.look E (Ky.mk 7 id p)).isSome)) := by
  have A := h.at
  refine gc_enter (n := 27) Tryz.func179 rfl (by kernel_rfl) (by kernel_rfl) ?_
  refine gc_seq ?_
  refine gc_reg ?_
  refine ta 6 [.slice none 0 0, .int .u64 0] 272 (pg) ?_
  intro v1 g2 Xg2 hg2 B
  have zg2 := Nat.le_trans A.size hg2
  have nXg2 := A.new hg2
  replace A := A.keep B
  clear B
  refine t 7 (.bool false) ?_
  refine gl_nil ?_
  refine ge_then ?_
  refine gc_seq ?_
  refine gc_reg ?_
  refine t 13 (pg g) ?_
  refine t 14 (.int .u64 id) ?_
  refine t 15 (.int .u64 p) ?_
  refine tc 16 219 #[.int .i64 7, .int .u64 id, .int .u64 p] (fkey hid (by decide)) ?_
  rintro _ v5 ⟨kv4, rfl, U3, B⟩
  refine ⟨_, rfl, ?_⟩
  replace A := A.keep B
  replace Xg2 := Xg2.keep B
  clear B
  refine tc 17 39 #[pg g, kv4] (xget A.sx U3 (by omega) (by omega)) ?_
  rintro _ v8 ⟨gv6, rfl, U7, S, hC⟩
  refine ⟨_, rfl, ?_⟩
  have mXg2 := not_op Xg2 nXg2 (fun _ h => .inl h)
  replace Xg2 := Xg2.chg hC nXg2
  replace nXg2 := mXg2
  clear mXg2
  replace U3 := A.byu U3 hC
  replace A := A.op S (fun _ h => .inl h) hC
  clear S hC
  refine t 12 (.tuple #[gv6, .bool (Kv.look E (Ky.mk 7 id p)).isSome]) ?_
  refine t 18 (gv6) ?_
  refine t 19 (.bool (Kv.look E (Ky.mk 7 id p)).isSome) ?_
  refine t 8 (gv6) ?_
  refine t 9 (.bool (Kv.look E (Ky.mk 7 id p)).isSome) ?_
  refine gl_nil ?_
  refine ge_then ?_
  refine gc_fr [(6, pg g2), (7, .bool false), (8, gv6), (9, .bool (Kv.look E (Ky.mk 7 id p)).isSome)] (by kernel_rfl) ?_
  refine gc_seq ?_
  refine gc_reg ?_
  refine t 21 (gv6) ?_
  refine tc 22 220 #[gv6] (hist_rd U7 (getlen A.sx _)) ?_
  rintro _ v10 ⟨ar9, nr9, cr9, rfl, ⟨NW, mr9⟩, B⟩
  refine ⟨_, rfl, ?_⟩
  obtain ⟨zr9, hr9, Qr9⟩ := natW_nq NW (fun b hb => A.lt hb)
  clear NW
  have eQr9g2 := ne2 hr9 Xg2.lt
  have fQr9 := ne3 hr9 A.size
  clear hr9
  replace A := A.keep B
  replace Xg2 := Xg2.keep B
  replace U3 := byu_keep U3 B
  replace U7 := byu_keep U7 B
  clear B
  clear U7
  refine t 20 (.tuple #[.agg #[.slice ar9 nr9 cr9, .int .u64 (hX (got E (Ky.mk 7 id p)) 1)], .int .i64 (Rc.outR (Rc.stHistory (got E (Ky.mk 7 id p))))]) ?_
  refine t 23 (.agg #[.slice ar9 nr9 cr9, .int .u64 (hX (got E (Ky.mk 7 id p)) 1)]) ?_
  refine t 24 (.int .i64 (Rc.outR (Rc.stHistory (got E (Ky.mk 7 id p))))) ?_
  have lXg2 := Xg2.lt
  refine ta 10 [.slice none 0 0, .int .u64 0] 272 (pg) ?_
  intro v11 g12 Xg12 hg12 B
  have zg12 := Nat.le_trans A.size hg12
  have nXg12 := A.new hg12
  have eQr9g12 := ne1 Qr9.lt hg12
  replace A := A.keep B
  replace Xg2 := Xg2.keep B
  replace U3 := byu_keep U3 B
  replace Qr9 := Qr9.keep B
  clear B
  refine ts Xg12 0 (.agg #[.slice ar9 nr9 cr9, .int .u64 (hX (got E (Ky.mk 7 id p)) 1)]) [.slice ar9 nr9 cr9, .int .u64 (hX (got E (Ky.mk 7 id p)) 1)] [.slice ar9 nr9 cr9, .int .u64 (hX (got E (Ky.mk 7 id p)) 1)] ?_
  intro v13 Y C
  replace A := Bk.At.cell A Xg12 C zg12 nXg12 (by decide)
  replace Xg2 := Xg2.chg C (show g2 ≠ g12 by omega)
  replace U3 := byu_cell U3 Xg12 C (by decide)
  replace Qr9 := Qr9.cell C eQr9g12
  clear C Xg12
  have Xg12 := Y
  clear Y
  refine t 11 (.int .i64 (Rc.outR (Rc.stHistory (got E (Ky.mk 7 id p))))) ?_
  refine gl_nil ?_
  refine ge_then ?_
  refine gc_seq ?_
  refine gc_reg ?_
  refine tlr 25 [.slice ar9 nr9 cr9, .int .u64 (hX (got E (Ky.mk 7 id p)) 1)] Xg12 0 ?_
  refine t 26 (.bool (Kv.look E (Ky.mk 7 id p)).isSome) ?_
  refine ts Xg2 0 (.agg #[.slice ar9 nr9 cr9, .int .u64 (hX (got E (Ky.mk 7 id p)) 1)]) [.slice ar9 nr9 cr9, .int .u64 (hX (got E (Ky.mk 7 id p)) 1)] [.slice ar9 nr9 cr9, .int .u64 (hX (got E (Ky.mk 7 id p)) 1)] ?_
  intro v14 Y C
  replace A := Bk.At.cell A Xg2 C zg2 nXg2 (by decide)
  replace U3 := byu_cell U3 Xg2 C (by decide)
  replace Qr9 := Qr9.cell C eQr9g2
  replace Xg12 := Xg12.chg C (show g12 ≠ g2 by omega)
  clear C Xg2
  have Xg2 := Y
  clear Y
  refine t 7 (.bool (Kv.look E (Ky.mk 7 id p)).isSome) ?_
  refine gl_nil ?_
  refine ge_then ?_
  refine gc_ret ?_
  refine ge_ret (.tuple #[.agg #[.slice ar9 nr9 cr9, .int .u64 (hX (got E (Ky.mk 7 id p)) 1)], .bool (Kv.look E (Ky.mk 7 id p)).isSome]) (rsct 6 7 (T := 272) (by kernel_rfl) (by kernel_rfl) (by kernel_rfl) (lr Xg2 0)) ?_
  exact ⟨_, _, _, rfl, _, _, A.sx, A.km, A.cc, Qr9, mr9, fQr9⟩
theorem ratio_any {B : Nat} {w : World} {K : Nat → Prop} {g : Nat} {E : Ents} {W : List Ents} {n N : Nat} {id p : Int} (h : Sx B w K g E W n N) (hid : 0 ≤ id ∧ id < 18446744073709551616) (hn : n + 10 ≤ 4000000000000000000) (hN : N + 10 ≤ 100000000) : Calls Tryz.prog 284 #[pg g, .int .u64 id, .int .u64 p] w (FndH B w K g E W (n + 1) N (hX (got E (Ky.mk 7 id p)) 0) rmk) := by
  have A := h.at
  refine gc_enter (n := 18) Tryz.func284 rfl (by kernel_rfl) (by kernel_rfl) ?_
  refine gc_seq ?_
  refine gc_reg ?_
  refine ta 6 [.slice none 0 0] 55 (pg) ?_
  intro v1 g2 Xg2 hg2 B
  have zg2 := Nat.le_trans A.size hg2
  have nXg2 := A.new hg2
  replace A := A.keep B
  clear B
  refine gl_nil ?_
  refine ge_then ?_
  refine gc_seq ?_
  refine gc_reg ?_
  refine t 10 (pg g) ?_
  refine t 11 (.int .u64 id) ?_
  refine t 12 (.int .u64 p) ?_
  refine tc 13 179 #[pg g, .int .u64 id, .int .u64 p] (find_any A.sx hid (by omega) (by omega)) ?_
  rintro _ v5 ⟨ar3, nr3, cr3, rfl, zr3, K4, S, hK, hC, Qr3, mr3, hr3⟩
  refine ⟨_, rfl, ?_⟩
  have eQr3g2 := ne2 hr3 Xg2.lt
  have fQr3 := ne3 hr3 A.size
  clear hr3
  have mXg2 := not_op Xg2 nXg2 hK
  replace Xg2 := Xg2.chg hC nXg2
  replace nXg2 := mXg2
  clear mXg2
  replace A := A.op S hK hC
  clear S hK hC
  refine t 9 (.tuple #[.agg #[.slice ar3 nr3 cr3, .int .u64 (hX (got E (Ky.mk 7 id p)) 1)], .bool (Kv.look E (Ky.mk 7 id p)).isSome]) ?_
  refine t 14 (.agg #[.slice ar3 nr3 cr3, .int .u64 (hX (got E (Ky.mk 7 id p)) 1)]) ?_
  refine t 15 (.bool (Kv.look E (Ky.mk 7 id p)).isSome) ?_
  have lXg2 := Xg2.lt
  refine ta 7 [.slice none 0 0, .int .u64 0] 272 (pg) ?_
  intro v6 g7 Xg7 hg7 B
  have zg7 := Nat.le_trans A.size hg7
  have nXg7 := A.new hg7
  have eQr3g7 := ne1 Qr3.lt hg7
  replace A := A.keep B
  replace Xg2 := Xg2.keep B
  replace Qr3 := Qr3.keep B
  clear B
  refine ts Xg7 0 (.agg #[.slice ar3 nr3 cr3, .int .u64 (hX (got E (Ky.mk 7 id p)) 1)]) [.slice ar3 nr3 cr3, .int .u64 (hX (got E (Ky.mk 7 id p)) 1)] [.slice ar3 nr3 cr3, .int .u64 (hX (got E (Ky.mk 7 id p)) 1)] ?_
  intro v8 Y C
  replace A := Bk.At.cell A Xg7 C zg7 nXg7 (by decide)
  replace Xg2 := Xg2.chg C (show g2 ≠ g7 by omega)
  replace Qr3 := Qr3.cell C eQr3g7
  clear C Xg7
  have Xg7 := Y
  clear Y
  refine t 8 (.bool (Kv.look E (Ky.mk 7 id p)).isSome) ?_
  refine gl_nil ?_
  refine ge_then ?_
  refine gc_fr [(6, pg g2), (7, pg g7)] (by kernel_rfl) ?_
  refine gc_seq ?_
  refine gc_reg ?_
  refine t 16 (pg g7) ?_
  refine tlr 17 [.slice ar3 nr3 cr3] Xg7 0 ?_
  refine ts Xg2 0 (.agg #[.slice ar3 nr3 cr3]) [.slice ar3 nr3 cr3] [.slice ar3 nr3 cr3] ?_
  intro v9 Y C
  replace A := Bk.At.cell A Xg2 C zg2 nXg2 (by decide)
  replace Qr3 := Qr3.cell C eQr3g2
  replace Xg7 := Xg7.chg C (show g7 ≠ g2 by omega)
  clear C Xg2
  have Xg2 := Y
  clear Y
  refine gl_nil ?_
  refine ge_then ?_
  refine gc_ret ?_
  refine ge_ret (.agg #[.slice ar3 nr3 cr3]) (rsc 6 (T := 55) (by kernel_rfl) (by kernel_rfl) (lr Xg2 0)) ?_
  exact ⟨_, _, _, rfl, _, _, A.sx, A.km, A.cc, Qr3, mr3, fQr3⟩
def layH (E : Ents) (id p x r : Int) : Ents := if r = 0 then rem E (Ky.mk 7 id p) else put E (Ky.mk 7 id p) (hv x r)
theorem lay_any {B : Nat} {w : World} {K : Nat → Prop} {g : Nat} {E : Ents} {W : List Ents} {n N : Nat} {id p r : Int} {aH : Option Addr} {nH cH zH : Nat} {xH : Int} (h : Sx B w K g E W n N) (hid : 0 ≤ id ∧ id < 18446744073709551616) (QH : Nk w K zH aH nH cH xH) (mH : nH ≤ 1000000) (hn : n + 10 ≤ 4000000000000000000) (hN : N + 10 ≤ 100000000) : Calls Tryz.prog 180 #[pg g, .int .u64 id, .int .u64 p, .agg #[.slice aH nH cH, .int .u64 r]] w (SxE B w K g (layH E id p xH r) W (n + 1) (N + 2) (.tuple #[])) := by
  have A := h.at
  refine gc_enter (n := 23) Tryz.func180 rfl (by kernel_rfl) (by kernel_rfl) ?_
  refine gc_seq ?_
  refine gc_reg ?_
  refine ta 7 [.slice aH nH cH, .int .u64 r] 272 (pg) ?_
  intro v1 g2 Xg2 hg2 B
  have zg2 := Nat.le_trans A.size hg2
  have nXg2 := A.new hg2
  have eQHg2 := ne1 QH.lt hg2
  replace A := A.keep B
  replace QH := QH.keep B
  clear B
  refine gl_nil ?_
  refine ge_then ?_
  refine gc_seq ?_
  refine gc_reg ?_
  refine t 9 (.int .u64 id) ?_
  refine t 10 (.int .u64 p) ?_
  refine tc 11 219 #[.int .i64 7, .int .u64 id, .int .u64 p] (fkey hid (by decide)) ?_
  rintro _ v5 ⟨kv4, rfl, U3, B⟩
  refine ⟨_, rfl, ?_⟩
  replace A := A.keep B
  replace QH := QH.keep B
  replace Xg2 := Xg2.keep B
  clear B
  refine t 8 (kv4) ?_
  refine gl_nil ?_
  refine ge_then ?_
  refine gc_seq ?_
  refine gc_seq ?_
  refine gc_reg ?_
  refine t 12 (pq g2 1) ?_
  refine tl 13 (.int .u64 r) Xg2 1 ?_
  by_cases c6 : (r : Int) = 0
  · refine tq 14 (.bool ((r : Int) == 0)) (.bool true) (congrArg Value.bool (beq_iff_eq.2 c6)) ?_
    refine gl_nil ?_
    refine ge_then ?_
    refine gc_fr [(0, pg g), (7, pg g2), (8, kv4), (14, .bool true)] (by kernel_rfl) ?_
    refine gc_yes ?_
    refine gc_seq ?_
    refine gc_reg ?_
    refine t 15 (pg g) ?_
    refine t 16 (kv4) ?_
    refine tc 17 131 #[pg g, kv4] (xdel A.sx U3 (Nat.le_trans (Ky.mk_len _ _ _) (by decide)) (by omega) (by omega)) ?_
    rintro _ v8 ⟨rfl, K7, S, hK, hC⟩
    refine ⟨_, rfl, ?_⟩
    replace QH := QH.op hK hC
    have mXg2 := not_op Xg2 nXg2 hK
    replace Xg2 := Xg2.chg hC nXg2
    replace nXg2 := mXg2
    clear mXg2
    replace U3 := A.byu U3 hC
    replace A := A.op S hK hC
    clear S hK hC
    clear U3
    refine gl_nil ?_
    refine ge_then ?_
    refine gc_ret ?_
    refine ge_tr ?_
    refine ge_ret (.tuple #[]) (rs0 (by kernel_rfl)) ?_
    rw [show layH E id p xH r = _ from if_pos c6]
    exact ⟨rfl, _, A.sx, A.km, A.cc⟩
  · refine tq 14 (.bool ((r : Int) == 0)) (.bool false) (congrArg Value.bool (beq_eq_false_iff_ne.2 c6)) ?_
    refine gl_nil ?_
    refine ge_then ?_
    refine gc_fr [(0, pg g), (7, pg g2), (8, kv4), (14, .bool false)] (by kernel_rfl) ?_
    refine gc_no ?_
    refine gc_skip ?_
    refine ge_then ?_
    refine gc_reg ?_
    refine t 18 (pg g) ?_
    refine t 19 (kv4) ?_
    refine tlr 20 [.slice aH nH cH, .int .u64 r] Xg2 0 ?_
    refine tc 21 221 #[.agg #[.slice aH nH cH, .int .u64 r]] (put_hist QH.nat mH) ?_
    rintro _ v11 ⟨pv10, rfl, U9, B⟩
    refine ⟨_, rfl, ?_⟩
    replace A := A.keep B
    replace QH := QH.keep B
    replace Xg2 := Xg2.keep B
    replace U3 := byu_keep U3 B
    clear B
    refine tc 22 86 #[pg g, kv4, pv10] (qset A.sx U3 (mkE7 id p) U9 (Nat.le_trans (hv_len _ _) (by decide)) (by omega) (by omega)) ?_
    rintro _ v13 ⟨rfl, K12, S, hK, hC⟩
    refine ⟨_, rfl, ?_⟩
    replace QH := QH.op hK hC
    have mXg2 := not_op Xg2 nXg2 hK
    replace Xg2 := Xg2.chg hC nXg2
    replace nXg2 := mXg2
    clear mXg2
    replace U3 := A.byu U3 hC
    replace U9 := A.byu U9 hC
    replace A := A.op S hK hC
    clear S hK hC
    clear U3
    clear U9
    refine gl_nil ?_
    refine ge_end (.tuple #[]) (rs0 (by kernel_rfl)) ?_
    rw [show layH E id p xH r = _ from if_neg c6]
    exact ⟨rfl, _, A.sx, A.km, A.cc⟩
def referE (E : Ents) (id p : Int) : Ents := layH E id p (hX (got E (Ky.mk 7 id p)) 0) ((hX (got E (Ky.mk 7 id p)) 1 + 1) % 18446744073709551616)
def letE (E : Ents) (id p : Int) : Ents := if (Kv.look E (Ky.mk 7 id p)).isSome = true then layH E id p (hX (got E (Ky.mk 7 id p)) 0) ((hX (got E (Ky.mk 7 id p)) 1 - 1) % 18446744073709551616) else E
theorem refer_any {B : Nat} {w : World} {K : Nat → Prop} {g : Nat} {E : Ents} {W : List Ents} {n N : Nat} {id p : Int} (h : Sx B w K g E W n N) (hid : 0 ≤ id ∧ id < 18446744073709551616) (hn : n + 20 ≤ 4000000000000000000) (hN : N + 20 ≤ 100000000) : Calls Tryz.prog 140 #[pg g, .int .u64 id, .int .u64 p] w (SxE B w K g (referE E id p) W (n + 2) (N + 2) (.tuple #[])) := by
  have A := h.at
  refine gc_enter (n := 24) Tryz.func140 rfl (by kernel_rfl) (by kernel_rfl) ?_
  refine gc_seq ?_
  refine gc_reg ?_
  refine t 9 (pg g) ?_
  refine t 10 (.int .u64 id) ?_
  refine t 11 (.int .u64 p) ?_
  refine tc 12 179 #[pg g, .int .u64 id, .int .u64 p] (find_any A.sx hid (by omega) (by omega)) ?_
  rintro _ v3 ⟨ar1, nr1, cr1, rfl, zr1, K2, S, hK, hC, Qr1, mr1, hr1⟩
  refine ⟨_, rfl, ?_⟩
  have fQr1 := ne3 hr1 A.size
  clear hr1
  replace A := A.op S hK hC
  clear S hK hC
  refine t 8 (.tuple #[.agg #[.slice ar1 nr1 cr1, .int .u64 (hX (got E (Ky.mk 7 id p)) 1)], .bool (Kv.look E (Ky.mk 7 id p)).isSome]) ?_
  refine t 13 (.agg #[.slice ar1 nr1 cr1, .int .u64 (hX (got E (Ky.mk 7 id p)) 1)]) ?_
  refine t 14 (.bool (Kv.look E (Ky.mk 7 id p)).isSome) ?_
  refine ta 6 [.slice none 0 0, .int .u64 0] 272 (pg) ?_
  intro v4 g5 Xg5 hg5 B
  have zg5 := Nat.le_trans A.size hg5
  have nXg5 := A.new hg5
  have eQr1g5 := ne1 Qr1.lt hg5
  replace A := A.keep B
  replace Qr1 := Qr1.keep B
  clear B
  refine ts Xg5 0 (.agg #[.slice ar1 nr1 cr1, .int .u64 (hX (got E (Ky.mk 7 id p)) 1)]) [.slice ar1 nr1 cr1, .int .u64 (hX (got E (Ky.mk 7 id p)) 1)] [.slice ar1 nr1 cr1, .int .u64 (hX (got E (Ky.mk 7 id p)) 1)] ?_
  intro v6 Y C
  replace A := Bk.At.cell A Xg5 C zg5 nXg5 (by decide)
  replace Qr1 := Qr1.cell C eQr1g5
  clear C Xg5
  have Xg5 := Y
  clear Y
  refine t 7 (.bool (Kv.look E (Ky.mk 7 id p)).isSome) ?_
  refine gl_nil ?_
  refine ge_then ?_
  refine gc_fr [(0, pg g), (1, .int .u64 id), (2, .int .u64 p), (6, pg g5)] (by kernel_rfl) ?_
  refine gc_seq ?_
  refine gc_reg ?_
  refine t 15 (pq g5 1) ?_
  refine tl 16 (.int .u64 (hX (got E (Ky.mk 7 id p)) 1)) Xg5 1 ?_
  refine tq 17 (.int .u64 (IntKind.u64.wrap ((hX (got E (Ky.mk 7 id p)) 1) + 1))) (.int .u64 (((hX (got E (Ky.mk 7 id p)) 1) + 1) % 18446744073709551616)) (congrArg (Value.int .u64) (IntKind.wrap_u64 _)) ?_
  refine t 18 (pq g5 1) ?_
  refine ts Xg5 1 (.int .u64 (((hX (got E (Ky.mk 7 id p)) 1) + 1) % 18446744073709551616)) [.int .u64 (((hX (got E (Ky.mk 7 id p)) 1) + 1) % 18446744073709551616)] [.slice ar1 nr1 cr1, .int .u64 (((hX (got E (Ky.mk 7 id p)) 1) + 1) % 18446744073709551616)] ?_
  intro v7 Y C
  replace A := Bk.At.cell A Xg5 C zg5 nXg5 (by decide)
  replace Qr1 := Qr1.cell C eQr1g5
  clear C Xg5
  have Xg5 := Y
  clear Y
  refine gl_nil ?_
  refine ge_then ?_
  refine gc_reg ?_
  refine t 19 (pg g) ?_
  refine t 20 (.int .u64 id) ?_
  refine t 21 (.int .u64 p) ?_
  refine tlr 22 [.slice ar1 nr1 cr1, .int .u64 (((hX (got E (Ky.mk 7 id p)) 1) + 1) % 18446744073709551616)] Xg5 0 ?_
  refine tc 23 180 #[pg g, .int .u64 id, .int .u64 p, .agg #[.slice ar1 nr1 cr1, .int .u64 (((hX (got E (Ky.mk 7 id p)) 1) + 1) % 18446744073709551616)]] (lay_any A.sx hid Qr1.nk (by omega) (by omega) (by omega)) ?_
  rintro _ v9 ⟨rfl, K8, S, hK, hC⟩
  refine ⟨_, rfl, ?_⟩
  replace Qr1 := Qr1.op hK hC
  have mXg5 := not_op Xg5 nXg5 hK
  replace Xg5 := Xg5.chg hC nXg5
  replace nXg5 := mXg5
  clear mXg5
  replace A := A.op S hK hC
  clear S hK hC
  refine gl_nil ?_
  refine ge_end (.tuple #[]) (rs0 (by kernel_rfl)) ?_
  exact ⟨rfl, _, A.sx, A.km, A.cc⟩
theorem let_any {B : Nat} {w : World} {K : Nat → Prop} {g : Nat} {E : Ents} {W : List Ents} {n N : Nat} {id p : Int} (h : Sx B w K g E W n N) (hid : 0 ≤ id ∧ id < 18446744073709551616) (hn : n + 20 ≤ 4000000000000000000) (hN : N + 20 ≤ 100000000) : Calls Tryz.prog 285 #[pg g, .int .u64 id, .int .u64 p] w (SxF B w K g (letE E id p) W n N (.tuple #[])) := by
  have A := h.at
  refine gc_enter (n := 25) Tryz.func285 rfl (by kernel_rfl) (by kernel_rfl) ?_
  refine gc_seq ?_
  refine gc_reg ?_
  refine t 9 (pg g) ?_
  refine t 10 (.int .u64 id) ?_
  refine t 11 (.int .u64 p) ?_
  refine tc 12 179 #[pg g, .int .u64 id, .int .u64 p] (find_any A.sx hid (by omega) (by omega)) ?_
  rintro _ v3 ⟨ar1, nr1, cr1, rfl, zr1, K2, S, hK, hC, Qr1, mr1, hr1⟩
  refine ⟨_, rfl, ?_⟩
  have fQr1 := ne3 hr1 A.size
  clear hr1
  replace A := A.op S hK hC
  clear S hK hC
  refine t 8 (.tuple #[.agg #[.slice ar1 nr1 cr1, .int .u64 (hX (got E (Ky.mk 7 id p)) 1)], .bool (Kv.look E (Ky.mk 7 id p)).isSome]) ?_
  refine t 13 (.agg #[.slice ar1 nr1 cr1, .int .u64 (hX (got E (Ky.mk 7 id p)) 1)]) ?_
  refine t 14 (.bool (Kv.look E (Ky.mk 7 id p)).isSome) ?_
  refine ta 6 [.slice none 0 0, .int .u64 0] 272 (pg) ?_
  intro v4 g5 Xg5 hg5 B
  have zg5 := Nat.le_trans A.size hg5
  have nXg5 := A.new hg5
  have eQr1g5 := ne1 Qr1.lt hg5
  replace A := A.keep B
  replace Qr1 := Qr1.keep B
  clear B
  refine ts Xg5 0 (.agg #[.slice ar1 nr1 cr1, .int .u64 (hX (got E (Ky.mk 7 id p)) 1)]) [.slice ar1 nr1 cr1, .int .u64 (hX (got E (Ky.mk 7 id p)) 1)] [.slice ar1 nr1 cr1, .int .u64 (hX (got E (Ky.mk 7 id p)) 1)] ?_
  intro v6 Y C
  replace A := Bk.At.cell A Xg5 C zg5 nXg5 (by decide)
  replace Qr1 := Qr1.cell C eQr1g5
  clear C Xg5
  have Xg5 := Y
  clear Y
  refine t 7 (.bool (Kv.look E (Ky.mk 7 id p)).isSome) ?_
  refine gl_nil ?_
  refine ge_then ?_
  refine gc_fr [(0, pg g), (1, .int .u64 id), (2, .int .u64 p), (6, pg g5), (7, .bool (Kv.look E (Ky.mk 7 id p)).isSome)] (by kernel_rfl) ?_
  refine gc_seq ?_
  refine gc_reg ?_
  refine t 15 (.bool (Kv.look E (Ky.mk 7 id p)).isSome) ?_
  refine gl_nil ?_
  refine ge_then ?_
  rcases Bool.eq_false_or_eq_true ((Kv.look E (Ky.mk 7 id p)).isSome) with b7 | b7
  · refine gc_yes (hc := congrArg Value.bool b7) ?_
    refine gc_seq ?_
    refine gc_reg ?_
    refine t 16 (pq g5 1) ?_
    refine tl 17 (.int .u64 (hX (got E (Ky.mk 7 id p)) 1)) Xg5 1 ?_
    refine tq 18 (.int .u64 (IntKind.u64.wrap ((hX (got E (Ky.mk 7 id p)) 1) - 1))) (.int .u64 (((hX (got E (Ky.mk 7 id p)) 1) - 1) % 18446744073709551616)) (congrArg (Value.int .u64) (IntKind.wrap_u64 _)) ?_
    refine t 19 (pq g5 1) ?_
    refine ts Xg5 1 (.int .u64 (((hX (got E (Ky.mk 7 id p)) 1) - 1) % 18446744073709551616)) [.int .u64 (((hX (got E (Ky.mk 7 id p)) 1) - 1) % 18446744073709551616)] [.slice ar1 nr1 cr1, .int .u64 (((hX (got E (Ky.mk 7 id p)) 1) - 1) % 18446744073709551616)] ?_
    intro v8 Y C
    replace A := Bk.At.cell A Xg5 C zg5 nXg5 (by decide)
    replace Qr1 := Qr1.cell C eQr1g5
    clear C Xg5
    have Xg5 := Y
    clear Y
    refine gl_nil ?_
    refine ge_then ?_
    refine gc_reg ?_
    refine t 20 (pg g) ?_
    refine t 21 (.int .u64 id) ?_
    refine t 22 (.int .u64 p) ?_
    refine tlr 23 [.slice ar1 nr1 cr1, .int .u64 (((hX (got E (Ky.mk 7 id p)) 1) - 1) % 18446744073709551616)] Xg5 0 ?_
    refine tc 24 180 #[pg g, .int .u64 id, .int .u64 p, .agg #[.slice ar1 nr1 cr1, .int .u64 (((hX (got E (Ky.mk 7 id p)) 1) - 1) % 18446744073709551616)]] (lay_any A.sx hid Qr1.nk (by omega) (by omega) (by omega)) ?_
    rintro _ v10 ⟨rfl, K9, S, hK, hC⟩
    refine ⟨_, rfl, ?_⟩
    replace Qr1 := Qr1.op hK hC
    have mXg5 := not_op Xg5 nXg5 hK
    replace Xg5 := Xg5.chg hC nXg5
    replace nXg5 := mXg5
    clear mXg5
    replace A := A.op S hK hC
    clear S hK hC
    refine gl_nil ?_
    refine ge_end (.tuple #[]) (rs0 (by kernel_rfl)) ?_
    rw [show letE E id p = _ from if_pos b7]
    exact ⟨rfl, _, _, _, A.sx, by omega, by omega, A.km, A.cc⟩
  · refine gc_no (hc := congrArg Value.bool b7) ?_
    refine gc_skip ?_
    refine ge_end (.tuple #[]) (rs0 (by kernel_rfl)) ?_
    rw [show letE E id p = _ from if_neg (by rw [b7]; decide)]
    exact ⟨rfl, _, _, _, A.sx, by omega, by omega, A.km, A.cc⟩
end Fo
end Go.Proofs.YtpoifdokmjhclaaGreat

namespace Go.Proofs.YtpoifdokmjhclaaGreat
namespace Fo
open Go.RowKit Go.Lib Pg Lim Gl
set_option maxRecDepth 100000
set_option linter.unusedVariables false
set_option linter.unusedSimpArgs false
set_option maxHeartbeats 2000000
theorem own_any {w : World} {a0 : Option Addr} {n0 c0 : Nat} {x0 : Int} (h0 : NatA w a0 n0 c0 x0) (k0 : n0 ≤ 100000000000) : Calls Tryz.prog 178 #[.agg #[.slice a0 n0 c0]] w (NdE w (· ≤ n0 + 1) (x0)) := by
  have BB := Below.refl w.heap.size w
  refine gc_enter (n := 6) Tryz.func178 rfl (by kernel_rfl) (by kernel_rfl) ?_
  refine gc_seq ?_
  refine gc_reg ?_
  refine ta 1 [.slice a0 n0 c0] 55 (pg) ?_
  intro v1 g2 Xg2 hg2 B
  replace BB := joinB BB B
  clear B
  have lXg2 := Xg2.lt
  refine ta 2 [.slice none 0 0] 55 (pg) ?_
  intro v3 g4 Xg4 hg4 B
  replace BB := joinB BB B
  replace Xg2 := Xg2.keep B
  clear B
  refine gl_nil ?_
  refine ge_then ?_
  refine gc_seq ?_
  refine gc_reg ?_
  refine tlr 3 [.slice a0 n0 c0] Xg2 0 ?_
  refine t 4 (.agg #[.slice none 0 0]) ?_
  have lXg2 := Xg2.lt
  have lXg4 := Xg4.lt
  refine tc 5 185 #[.agg #[.slice a0 n0 c0], .agg #[.slice none 0 0]] (eAdd (h0.keep BB) (by omega) (nf_nil _ 0).nat (by omega)) ?_
  rintro _ v6 ⟨aq5, nq5, cq5, zq5, rfl, Nq5, hq5, mq5, B⟩
  refine ⟨_, rfl, ?_⟩
  replace BB := joinB BB B
  replace Xg2 := Xg2.keep B
  replace Xg4 := Xg4.keep B
  clear B
  refine ts Xg4 0 (.agg #[.slice aq5 nq5 cq5]) [.slice aq5 nq5 cq5] [.slice aq5 nq5 cq5] ?_
  intro v7 Y C
  replace BB := belowC BB C (by omega)
  replace Xg2 := Xg2.chg C (show g2 ≠ g4 by omega)
  replace Nq5 := Nq5.cell C (show nq5 = 0 ∨ zq5 ≠ g4 by omega)
  clear C Xg4
  have Xg4 := Y
  clear Y
  refine gl_nil ?_
  refine ge_then ?_
  refine gc_ret ?_
  refine ge_ret (.agg #[.slice aq5 nq5 cq5]) (rsc 2 (T := 55) (by kernel_rfl) (by kernel_rfl) (lr Xg4 0)) ?_
  exact ⟨_, _, _, _, rfl, Nq5.eqv (by omega), by omega, by omega, BB⟩
theorem less_any {w : World} {a0 : Option Addr} {n0 c0 : Nat} {x0 : Int} {a1 : Option Addr} {n1 c1 : Nat} {x1 : Int} (h0 : NatA w a0 n0 c0 x0) (k0 : n0 ≤ 100000000000) (h1 : NatA w a1 n1 c1 x1) (k1 : n1 ≤ 100000000000) : Calls Tryz.prog 286 #[.agg #[.slice a0 n0 c0], .agg #[.slice a1 n1 c1]] w (NdE w (· ≤ n0) (subV x0 x1)) := by
  have BB := Below.refl w.heap.size w
  refine gc_enter (n := 14) Tryz.func286 rfl (by kernel_rfl) (by kernel_rfl) ?_
  refine gc_seq ?_
  refine gc_reg ?_
  refine ta 2 [.slice a0 n0 c0] 55 (pg) ?_
  intro v1 g2 Xg2 hg2 B
  replace BB := joinB BB B
  clear B
  have lXg2 := Xg2.lt
  refine ta 3 [.slice a1 n1 c1] 55 (pg) ?_
  intro v3 g4 Xg4 hg4 B
  replace BB := joinB BB B
  replace Xg2 := Xg2.keep B
  clear B
  have lXg2 := Xg2.lt
  have lXg4 := Xg4.lt
  refine ta 4 [.slice none 0 0] 55 (pg) ?_
  intro v5 g6 Xg6 hg6 B
  replace BB := joinB BB B
  replace Xg2 := Xg2.keep B
  replace Xg4 := Xg4.keep B
  clear B
  refine gl_nil ?_
  refine ge_then ?_
  refine gc_seq ?_
  refine gc_reg ?_
  refine tlr 8 [.slice a0 n0 c0] Xg2 0 ?_
  refine tlr 9 [.slice a1 n1 c1] Xg4 0 ?_
  have lXg2 := Xg2.lt
  have lXg4 := Xg4.lt
  have lXg6 := Xg6.lt
  refine tc 10 336 #[.agg #[.slice a0 n0 c0], .agg #[.slice a1 n1 c1]] (eSub (h0.keep BB) (by omega) (h1.keep BB) (by omega)) ?_
  rintro _ v8 ⟨aq7, nq7, cq7, zq7, rfl, Nq7, hq7, mq7, B⟩
  refine ⟨_, rfl, ?_⟩
  replace BB := joinB BB B
  replace Xg2 := Xg2.keep B
  replace Xg4 := Xg4.keep B
  replace Xg6 := Xg6.keep B
  clear B
  refine t 7 (.tuple #[.agg #[.slice aq7 nq7 cq7], .int .i64 (sbE x0 x1)]) ?_
  refine t 11 (.agg #[.slice aq7 nq7 cq7]) ?_
  refine t 12 (.int .i64 (sbE x0 x1)) ?_
  have lXg2 := Xg2.lt
  have lXg4 := Xg4.lt
  have lXg6 := Xg6.lt
  have lNq7 := Nq7.lt
  refine ta 5 [.slice none 0 0] 55 (pg) ?_
  intro v9 g10 Xg10 hg10 B
  replace BB := joinB BB B
  replace Xg2 := Xg2.keep B
  replace Xg4 := Xg4.keep B
  replace Xg6 := Xg6.keep B
  replace Nq7 := Nq7.keep B
  clear B
  refine ts Xg10 0 (.agg #[.slice aq7 nq7 cq7]) [.slice aq7 nq7 cq7] [.slice aq7 nq7 cq7] ?_
  intro v11 Y C
  replace BB := belowC BB C (by omega)
  replace Xg2 := Xg2.chg C (show g2 ≠ g10 by omega)
  replace Xg4 := Xg4.chg C (show g4 ≠ g10 by omega)
  replace Xg6 := Xg6.chg C (show g6 ≠ g10 by omega)
  replace Nq7 := Nq7.cell C (show nq7 = 0 ∨ zq7 ≠ g10 by omega)
  clear C Xg10
  have Xg10 := Y
  clear Y
  refine t 6 (.int .i64 (sbE x0 x1)) ?_
  refine gl_nil ?_
  refine ge_then ?_
  refine gc_fr [(4, pg g6), (5, pg g10)] (by kernel_rfl) ?_
  refine gc_seq ?_
  refine gc_reg ?_
  refine tlr 13 [.slice aq7 nq7 cq7] Xg10 0 ?_
  refine ts Xg6 0 (.agg #[.slice aq7 nq7 cq7]) [.slice aq7 nq7 cq7] [.slice aq7 nq7 cq7] ?_
  intro v12 Y C
  replace BB := belowC BB C (by omega)
  replace Xg2 := Xg2.chg C (show g2 ≠ g6 by omega)
  replace Xg4 := Xg4.chg C (show g4 ≠ g6 by omega)
  replace Nq7 := Nq7.cell C (show nq7 = 0 ∨ zq7 ≠ g6 by omega)
  replace Xg10 := Xg10.chg C (show g10 ≠ g6 by omega)
  clear C Xg6
  have Xg6 := Y
  clear Y
  refine gl_nil ?_
  refine ge_then ?_
  refine gc_ret ?_
  refine ge_ret (.agg #[.slice aq7 nq7 cq7]) (rsc 4 (T := 55) (by kernel_rfl) (by kernel_rfl) (lr Xg6 0)) ?_
  exact ⟨_, _, _, _, rfl, Nq7, by omega, by omega, BB⟩
theorem ownVal_any {w : World} {a0 : Option Addr} {n0 c0 : Nat} {x0 : Int} {a1 : Option Addr} {n1 c1 : Nat} {x1 : Int} {a2 : Option Addr} {n2 c2 : Nat} {x2 : Int} {a3 : Option Addr} {n3 c3 : Nat} {x3 : Int} {rt tk un pe : Int} {jl bo : Bool} (h0 : NatA w a0 n0 c0 x0) (k0 : n0 ≤ 100000000000) (h1 : NatA w a1 n1 c1 x1) (k1 : n1 ≤ 100000000000) (h2 : NatA w a2 n2 c2 x2) (k2 : n2 ≤ 100000000000) (h3 : NatA w a3 n3 c3 x3) (k3 : n3 ≤ 100000000000) : Calls Tryz.prog 139 #[.agg #[.int .u64 rt, .int .u64 tk, .slice a0 n0 c0, .bool jl, .int .u64 un, .bool bo, .int .u64 pe, .slice a1 n1 c1, .slice a2 n2 c2, .slice a3 n3 c3]] w fun e w' => ∃ b0 m0 d0 y0 b1 m1 d1 y1 b2 m2 d2 y2 b3 m3 d3 y3, e = .returned (.agg #[.int .u64 rt, .int .u64 tk, .slice b0 m0 d0, .bool jl, .int .u64 un, .bool bo, .int .u64 pe, .slice b1 m1 d1, .slice b2 m2 d2, .slice b3 m3 d3]) ∧ Nf w' y0 b0 m0 d0 x0 ∧ (m0 = 0 ∨ w.heap.size ≤ y0) ∧ m0 ≤ n0 + 1 ∧ Nf w' y1 b1 m1 d1 x1 ∧ (m1 = 0 ∨ w.heap.size ≤ y1) ∧ m1 ≤ n1 + 1 ∧ Nf w' y2 b2 m2 d2 x2 ∧ (m2 = 0 ∨ w.heap.size ≤ y2) ∧ m2 ≤ n2 + 1 ∧ Nf w' y3 b3 m3 d3 x3 ∧ (m3 = 0 ∨ w.heap.size ≤ y3) ∧ m3 ≤ n3 + 1 ∧ Below w.heap.size w w' := by
  have BB := Below.refl w.heap.size w
  refine gc_enter (n := 20) Tryz.func139 rfl (by kernel_rfl) (by kernel_rfl) ?_
  refine gc_seq ?_
  refine gc_reg ?_
  refine ta 1 [.int .u64 rt, .int .u64 tk, .slice a0 n0 c0, .bool jl, .int .u64 un, .bool bo, .int .u64 pe, .slice a1 n1 c1, .slice a2 n2 c2, .slice a3 n3 c3] 57 (pg) ?_
  intro v1 g2 Xg2 hg2 B
  replace BB := joinB BB B
  clear B
  have lXg2 := Xg2.lt
  refine ta 2 [.int .u64 0, .int .u64 0, .slice none 0 0, .bool false, .int .u64 0, .bool false, .int .u64 0, .slice none 0 0, .slice none 0 0, .slice none 0 0] 57 (pg) ?_
  intro v3 g4 Xg4 hg4 B
  replace BB := joinB BB B
  replace Xg2 := Xg2.keep B
  clear B
  refine gl_nil ?_
  refine ge_then ?_
  refine gc_seq ?_
  replace BB := BB.drew
  replace Xg2 := Xg2.drew
  replace Xg4 := Xg4.drew
  refine gc_draw (fun w' => Blk w' g2 [.int .u64 rt, .int .u64 tk, .slice a0 n0 c0, .bool jl, .int .u64 un, .bool bo, .int .u64 pe, .slice a1 n1 c1, .slice a2 n2 c2, .slice a3 n3 c3] 57) (fun i => decide (7 ≤ i)) Xg2 ?_
  refine z 0 3 (pq g2 2) ?_
  refine zlr 1 4 [.slice a0 n0 c0] (fun _ h => h) 2 ?_
  refine z 3 6 (pq g2 7) ?_
  refine zlr 4 7 [.slice a1 n1 c1] (fun _ h => h) 7 ?_
  have lXg2 := Xg2.lt
  have lXg4 := Xg4.lt
  refine zc 2 5 178 #[.agg #[.slice a0 n0 c0]] (own_any (h0.keep BB) (by omega)) ?_
  rintro _ v6 ⟨aq5, nq5, cq5, zq5, rfl, Nq5, hq5, mq5, B⟩
  replace BB := joinB BB B
  replace Xg2 := Xg2.keep B
  replace Xg4 := Xg4.keep B
  clear B
  refine ⟨_, rfl, Xg2, ?_⟩
  refine z 6 9 (pq g2 2) ?_
  have lXg2 := Xg2.lt
  have lXg4 := Xg4.lt
  refine zc 5 8 178 #[.agg #[.slice a1 n1 c1]] (own_any (h1.keep BB) (by omega)) ?_
  rintro _ v8 ⟨aq7, nq7, cq7, zq7, rfl, Nq7, hq7, mq7, B⟩
  replace BB := joinB BB B
  replace Xg2 := Xg2.keep B
  replace Xg4 := Xg4.keep B
  replace Nq5 := Nq5.keep B
  clear B
  refine ⟨_, rfl, Xg2, ?_⟩
  refine gz_late ?_
  refine ys 7 Xg2 2 (.agg #[.slice aq5 nq5 cq5]) [.slice aq5 nq5 cq5] [.int .u64 rt, .int .u64 tk, .slice aq5 nq5 cq5, .bool jl, .int .u64 un, .bool bo, .int .u64 pe, .slice a1 n1 c1, .slice a2 n2 c2, .slice a3 n3 c3] ?_
  intro v9 Y C
  replace BB := belowC BB C (by omega)
  replace Xg4 := Xg4.chg C (show g4 ≠ g2 by omega)
  replace Nq5 := Nq5.cell C (show nq5 = 0 ∨ zq5 ≠ g2 by omega)
  replace Nq7 := Nq7.cell C (show nq7 = 0 ∨ zq7 ≠ g2 by omega)
  clear C Xg2
  have Xg2 := Y
  clear Y
  refine yt 8 10 (pq g2 7) ?_
  refine ys 9 Xg2 7 (.agg #[.slice aq7 nq7 cq7]) [.slice aq7 nq7 cq7] [.int .u64 rt, .int .u64 tk, .slice aq5 nq5 cq5, .bool jl, .int .u64 un, .bool bo, .int .u64 pe, .slice aq7 nq7 cq7, .slice a2 n2 c2, .slice a3 n3 c3] ?_
  intro v10 Y C
  replace BB := belowC BB C (by omega)
  replace Xg4 := Xg4.chg C (show g4 ≠ g2 by omega)
  replace Nq5 := Nq5.cell C (show nq5 = 0 ∨ zq5 ≠ g2 by omega)
  replace Nq7 := Nq7.cell C (show nq7 = 0 ∨ zq7 ≠ g2 by omega)
  clear C Xg2
  have Xg2 := Y
  clear Y
  refine gy_done ?_
  refine ge_then ?_
  refine gc_seq ?_
  replace BB := BB.drew
  replace Xg2 := Xg2.drew
  replace Xg4 := Xg4.drew
  replace Nq5 := Nq5.drew
  replace Nq7 := Nq7.drew
  refine gc_draw (fun w' => Blk w' g2 [.int .u64 rt, .int .u64 tk, .slice aq5 nq5 cq5, .bool jl, .int .u64 un, .bool bo, .int .u64 pe, .slice aq7 nq7 cq7, .slice a2 n2 c2, .slice a3 n3 c3] 57) (fun i => decide (7 ≤ i)) Xg2 ?_
  refine z 0 11 (pq g2 8) ?_
  refine zlr 1 12 [.slice a2 n2 c2] (fun _ h => h) 8 ?_
  refine z 3 14 (pq g2 9) ?_
  refine zlr 4 15 [.slice a3 n3 c3] (fun _ h => h) 9 ?_
  have lXg2 := Xg2.lt
  have lXg4 := Xg4.lt
  refine zc 2 13 178 #[.agg #[.slice a2 n2 c2]] (own_any (h2.keep BB) (by omega)) ?_
  rintro _ v12 ⟨aq11, nq11, cq11, zq11, rfl, Nq11, hq11, mq11, B⟩
  replace BB := joinB BB B
  replace Xg2 := Xg2.keep B
  replace Xg4 := Xg4.keep B
  replace Nq5 := Nq5.keep B
  replace Nq7 := Nq7.keep B
  clear B
  refine ⟨_, rfl, Xg2, ?_⟩
  refine z 6 17 (pq g2 8) ?_
  have lXg2 := Xg2.lt
  have lXg4 := Xg4.lt
  refine zc 5 16 178 #[.agg #[.slice a3 n3 c3]] (own_any (h3.keep BB) (by omega)) ?_
  rintro _ v14 ⟨aq13, nq13, cq13, zq13, rfl, Nq13, hq13, mq13, B⟩
  replace BB := joinB BB B
  replace Xg2 := Xg2.keep B
  replace Xg4 := Xg4.keep B
  replace Nq5 := Nq5.keep B
  replace Nq7 := Nq7.keep B
  replace Nq11 := Nq11.keep B
  clear B
  refine ⟨_, rfl, Xg2, ?_⟩
  refine gz_late ?_
  refine ys 7 Xg2 8 (.agg #[.slice aq11 nq11 cq11]) [.slice aq11 nq11 cq11] [.int .u64 rt, .int .u64 tk, .slice aq5 nq5 cq5, .bool jl, .int .u64 un, .bool bo, .int .u64 pe, .slice aq7 nq7 cq7, .slice aq11 nq11 cq11, .slice a3 n3 c3] ?_
  intro v15 Y C
  replace BB := belowC BB C (by omega)
  replace Xg4 := Xg4.chg C (show g4 ≠ g2 by omega)
  replace Nq5 := Nq5.cell C (show nq5 = 0 ∨ zq5 ≠ g2 by omega)
  replace Nq7 := Nq7.cell C (show nq7 = 0 ∨ zq7 ≠ g2 by omega)
  replace Nq11 := Nq11.cell C (show nq11 = 0 ∨ zq11 ≠ g2 by omega)
  replace Nq13 := Nq13.cell C (show nq13 = 0 ∨ zq13 ≠ g2 by omega)
  clear C Xg2
  have Xg2 := Y
  clear Y
  refine yt 8 18 (pq g2 9) ?_
  refine ys 9 Xg2 9 (.agg #[.slice aq13 nq13 cq13]) [.slice aq13 nq13 cq13] [.int .u64 rt, .int .u64 tk, .slice aq5 nq5 cq5, .bool jl, .int .u64 un, .bool bo, .int .u64 pe, .slice aq7 nq7 cq7, .slice aq11 nq11 cq11, .slice aq13 nq13 cq13] ?_
  intro v16 Y C
  replace BB := belowC BB C (by omega)
  replace Xg4 := Xg4.chg C (show g4 ≠ g2 by omega)
  replace Nq5 := Nq5.cell C (show nq5 = 0 ∨ zq5 ≠ g2 by omega)
  replace Nq7 := Nq7.cell C (show nq7 = 0 ∨ zq7 ≠ g2 by omega)
  replace Nq11 := Nq11.cell C (show nq11 = 0 ∨ zq11 ≠ g2 by omega)
  replace Nq13 := Nq13.cell C (show nq13 = 0 ∨ zq13 ≠ g2 by omega)
  clear C Xg2
  have Xg2 := Y
  clear Y
  refine gy_done ?_
  refine ge_then ?_
  refine gc_fr [(1, pg g2), (2, pg g4)] (by kernel_rfl) ?_
  refine gc_seq ?_
  refine gc_reg ?_
  refine tlr 19 [.int .u64 rt, .int .u64 tk, .slice aq5 nq5 cq5, .bool jl, .int .u64 un, .bool bo, .int .u64 pe, .slice aq7 nq7 cq7, .slice aq11 nq11 cq11, .slice aq13 nq13 cq13] Xg2 0 ?_
  refine ts Xg4 0 (.agg #[.int .u64 rt, .int .u64 tk, .slice aq5 nq5 cq5, .bool jl, .int .u64 un, .bool bo, .int .u64 pe, .slice aq7 nq7 cq7, .slice aq11 nq11 cq11, .slice aq13 nq13 cq13]) [.int .u64 rt, .int .u64 tk, .slice aq5 nq5 cq5, .bool jl, .int .u64 un, .bool bo, .int .u64 pe, .slice aq7 nq7 cq7, .slice aq11 nq11 cq11, .slice aq13 nq13 cq13] [.int .u64 rt, .int .u64 tk, .slice aq5 nq5 cq5, .bool jl, .int .u64 un, .bool bo, .int .u64 pe, .slice aq7 nq7 cq7, .slice aq11 nq11 cq11, .slice aq13 nq13 cq13] ?_
  intro v17 Y C
  replace BB := belowC BB C (by omega)
  replace Xg2 := Xg2.chg C (show g2 ≠ g4 by omega)
  replace Nq5 := Nq5.cell C (show nq5 = 0 ∨ zq5 ≠ g4 by omega)
  replace Nq7 := Nq7.cell C (show nq7 = 0 ∨ zq7 ≠ g4 by omega)
  replace Nq11 := Nq11.cell C (show nq11 = 0 ∨ zq11 ≠ g4 by omega)
  replace Nq13 := Nq13.cell C (show nq13 = 0 ∨ zq13 ≠ g4 by omega)
  clear C Xg4
  have Xg4 := Y
  clear Y
  refine gl_nil ?_
  refine ge_then ?_
  refine gc_ret ?_
  refine ge_ret (.agg #[.int .u64 rt, .int .u64 tk, .slice aq5 nq5 cq5, .bool jl, .int .u64 un, .bool bo, .int .u64 pe, .slice aq7 nq7 cq7, .slice aq11 nq11 cq11, .slice aq13 nq13 cq13]) (rsc 2 (T := 57) (by kernel_rfl) (by kernel_rfl) (lr Xg4 0)) ?_
  exact ⟨_, _, _, _, _, _, _, _, _, _, _, _, _, _, _, _, rfl, Nq5, by omega, by omega, Nq7, by omega, by omega, Nq11, by omega, by omega, Nq13, by omega, by omega, BB⟩
theorem shr_mk {w : World} : Calls Tryz.prog 183 #[.bool false] w fun e w' => ∃ g, e = .returned (.func (.func 227) #[] #[pg g]) ∧ Blk w' g [.func (.func 225) #[] #[]] 322 ∧ w.heap.size ≤ g ∧ Below w.heap.size w w' := by
  have BB := Below.refl w.heap.size w
  refine gc_enter (n := 6) Tryz.func183 rfl (by kernel_rfl) (by kernel_rfl) ?_
  refine gc_seq ?_
  refine gc_reg ?_
  refine t 2 (.nilFunc) ?_
  refine gl_nil ?_
  refine ge_then ?_
  refine gc_seq ?_
  refine gc_reg ?_
  refine ta 3 [.nilFunc] 322 (pg) ?_
  intro v1 g2 Xg2 hg2 B
  replace BB := joinB BB B
  clear B
  refine ts Xg2 0 (.func (.func 225) #[] #[]) [.func (.func 225) #[] #[]] [.func (.func 225) #[] #[]] ?_
  intro v3 Y C
  replace BB := belowC BB C (by omega)
  clear C Xg2
  have Xg2 := Y
  clear Y
  refine gl_nil ?_
  refine ge_then ?_
  refine gc_seq ?_
  refine gc_seq ?_
  refine gc_reg ?_
  refine t 4 (.bool false) ?_
  refine gl_nil ?_
  refine ge_then ?_
  refine gc_no ?_
  refine gc_skip ?_
  refine ge_then ?_
  refine gc_seq ?_
  refine gc_reg ?_
  refine t 5 (.func (.func 227) #[] #[pg g2]) ?_
  refine t 2 (.func (.func 227) #[] #[pg g2]) ?_
  refine gl_nil ?_
  refine ge_then ?_
  refine gc_ret ?_
  refine ge_ret (.func (.func 227) #[] #[pg g2]) (rs1 2 (by kernel_rfl) (by kernel_rfl)) ?_
  exact ⟨_, rfl, Xg2, hg2, BB⟩
theorem shr_down {w : World} {a0 : Option Addr} {n0 c0 : Nat} {x0 : Int} {a1 : Option Addr} {n1 c1 : Nat} {x1 : Int} {a2 : Option Addr} {n2 c2 : Nat} {x2 : Int} {g : Nat} (h0 : NatA w a0 n0 c0 x0) (k0 : n0 ≤ 100000000000) (h1 : NatA w a1 n1 c1 x1) (k1 : n1 ≤ 100000000000) (h2 : NatA w a2 n2 c2 x2) (k2 : n2 ≤ 100000000000) (Xr : Blk w g [.func (.func 225) #[] #[]] 322) : Calls Tryz.prog 227 #[.agg #[.slice a0 n0 c0], .agg #[.slice a1 n1 c1], .agg #[.slice a2 n2 c2], pg g] w (NdE w (· ≤ n0 + n1 + n2) (x0 * x1 / x2)) := by
  have lXr := Xr.lt
  have BB := Below.refl w.heap.size w
  refine gc_enter (n := 19) Tryz.func227 rfl (by kernel_rfl) (by kernel_rfl) ?_
  refine gc_seq ?_
  refine gc_reg ?_
  have lXr := Xr.lt
  refine ta 4 [.slice a0 n0 c0] 55 (pg) ?_
  intro v1 g2 Xg2 hg2 B
  replace BB := joinB BB B
  replace Xr := Xr.keep B
  clear B
  have lXr := Xr.lt
  have lXg2 := Xg2.lt
  refine ta 5 [.slice a1 n1 c1] 55 (pg) ?_
  intro v3 g4 Xg4 hg4 B
  replace BB := joinB BB B
  replace Xr := Xr.keep B
  replace Xg2 := Xg2.keep B
  clear B
  have lXr := Xr.lt
  have lXg2 := Xg2.lt
  have lXg4 := Xg4.lt
  refine ta 6 [.slice a2 n2 c2] 55 (pg) ?_
  intro v5 g6 Xg6 hg6 B
  replace BB := joinB BB B
  replace Xr := Xr.keep B
  replace Xg2 := Xg2.keep B
  replace Xg4 := Xg4.keep B
  clear B
  have lXr := Xr.lt
  have lXg2 := Xg2.lt
  have lXg4 := Xg4.lt
  have lXg6 := Xg6.lt
  refine ta 7 [.slice none 0 0] 55 (pg) ?_
  intro v7 g8 Xg8 hg8 B
  replace BB := joinB BB B
  replace Xr := Xr.keep B
  replace Xg2 := Xg2.keep B
  replace Xg4 := Xg4.keep B
  replace Xg6 := Xg6.keep B
  clear B
  refine gl_nil ?_
  refine ge_then ?_
  refine gc_seq ?_
  refine gc_reg ?_
  refine tl 11 (.func (.func 225) #[] #[]) Xr 0 ?_
  refine tlr 12 [.slice a0 n0 c0] Xg2 0 ?_
  refine tlr 13 [.slice a1 n1 c1] Xg4 0 ?_
  refine tlr 14 [.slice a2 n2 c2] Xg6 0 ?_
  have lXr := Xr.lt
  have lXg2 := Xg2.lt
  have lXg4 := Xg4.lt
  have lXg6 := Xg6.lt
  have lXg8 := Xg8.lt
  refine tc 15 225 #[.agg #[.slice a0 n0 c0], .agg #[.slice a1 n1 c1], .agg #[.slice a2 n2 c2]] (eMulDiv (h0.keep BB) (by omega) (h1.keep BB) (by omega) (h2.keep BB) (by omega)) ?_
  rintro _ v10 ⟨aq9, nq9, cq9, zq9, rfl, Nq9, hq9, mq9, B⟩
  refine ⟨_, rfl, ?_⟩
  replace BB := joinB BB B
  replace Xr := Xr.keep B
  replace Xg2 := Xg2.keep B
  replace Xg4 := Xg4.keep B
  replace Xg6 := Xg6.keep B
  replace Xg8 := Xg8.keep B
  clear B
  refine t 10 (.tuple #[.agg #[.slice aq9 nq9 cq9], .int .i64 (dvZ x2)]) ?_
  refine t 16 (.agg #[.slice aq9 nq9 cq9]) ?_
  refine t 17 (.int .i64 (dvZ x2)) ?_
  have lXr := Xr.lt
  have lXg2 := Xg2.lt
  have lXg4 := Xg4.lt
  have lXg6 := Xg6.lt
  have lXg8 := Xg8.lt
  have lNq9 := Nq9.lt
  refine ta 8 [.slice none 0 0] 55 (pg) ?_
  intro v11 g12 Xg12 hg12 B
  replace BB := joinB BB B
  replace Xr := Xr.keep B
  replace Xg2 := Xg2.keep B
  replace Xg4 := Xg4.keep B
  replace Xg6 := Xg6.keep B
  replace Xg8 := Xg8.keep B
  replace Nq9 := Nq9.keep B
  clear B
  refine ts Xg12 0 (.agg #[.slice aq9 nq9 cq9]) [.slice aq9 nq9 cq9] [.slice aq9 nq9 cq9] ?_
  intro v13 Y C
  replace BB := belowC BB C (by omega)
  replace Xr := Xr.chg C (show g ≠ g12 by omega)
  replace Xg2 := Xg2.chg C (show g2 ≠ g12 by omega)
  replace Xg4 := Xg4.chg C (show g4 ≠ g12 by omega)
  replace Xg6 := Xg6.chg C (show g6 ≠ g12 by omega)
  replace Xg8 := Xg8.chg C (show g8 ≠ g12 by omega)
  replace Nq9 := Nq9.cell C (show nq9 = 0 ∨ zq9 ≠ g12 by omega)
  clear C Xg12
  have Xg12 := Y
  clear Y
  refine t 9 (.int .i64 (dvZ x2)) ?_
  refine gl_nil ?_
  refine ge_then ?_
  refine gc_fr [(7, pg g8), (8, pg g12)] (by kernel_rfl) ?_
  refine gc_seq ?_
  refine gc_reg ?_
  refine tlr 18 [.slice aq9 nq9 cq9] Xg12 0 ?_
  refine ts Xg8 0 (.agg #[.slice aq9 nq9 cq9]) [.slice aq9 nq9 cq9] [.slice aq9 nq9 cq9] ?_
  intro v14 Y C
  replace BB := belowC BB C (by omega)
  replace Xr := Xr.chg C (show g ≠ g8 by omega)
  replace Xg2 := Xg2.chg C (show g2 ≠ g8 by omega)
  replace Xg4 := Xg4.chg C (show g4 ≠ g8 by omega)
  replace Xg6 := Xg6.chg C (show g6 ≠ g8 by omega)
  replace Nq9 := Nq9.cell C (show nq9 = 0 ∨ zq9 ≠ g8 by omega)
  replace Xg12 := Xg12.chg C (show g12 ≠ g8 by omega)
  clear C Xg8
  have Xg8 := Y
  clear Y
  refine gl_nil ?_
  refine ge_then ?_
  refine gc_ret ?_
  refine ge_ret (.agg #[.slice aq9 nq9 cq9]) (rsc 7 (T := 55) (by kernel_rfl) (by kernel_rfl) (lr Xg8 0)) ?_
  exact ⟨_, _, _, _, rfl, Nq9, by omega, by omega, BB⟩
theorem dZ {w : World} {a0 : Option Addr} {n0 c0 : Nat} {x0 : Int} {b : Bool} (h : NatA w a0 n0 c0 x0) (hn : n0 ≤ 100000000000) (hb : decide (x0 = 0) = b) : Calls Tryz.prog 181 #[.agg #[.slice a0 n0 c0]] w fun e w' => e = .returned (.bool b) ∧ Below w.heap.size w w' := hb ▸ dZero h (by omega)
theorem worth_any {w : World} {a0 : Option Addr} {n0 c0 : Nat} {x0 : Int} {a1 : Option Addr} {n1 c1 : Nat} {x1 : Int} {y : Int} (h0 : NatA w a0 n0 c0 x0) (k0 : n0 ≤ 100000000000) (h1 : NatA w a1 n1 c1 x1) (k1 : n1 ≤ 100000000000) (hy : 0 ≤ y ∧ y < 18446744073709551616) : Calls Tryz.prog 290 #[.int .u64 y, .agg #[.slice a0 n0 c0], .agg #[.slice a1 n1 c1]] w (NdE w (· ≤ n0 + n1 + 40) (x1 * (y * U36) / x0)) := by
  have BB := Below.refl w.heap.size w
  refine gc_enter (n := 18) Tryz.func290 rfl (by kernel_rfl) (by kernel_rfl) ?_
  refine gc_seq ?_
  refine gc_reg ?_
  refine ta 4 [.slice a0 n0 c0] 55 (pg) ?_
  intro v1 g2 Xg2 hg2 B
  replace BB := joinB BB B
  clear B
  have lXg2 := Xg2.lt
  refine ta 5 [.slice a1 n1 c1] 55 (pg) ?_
  intro v3 g4 Xg4 hg4 B
  replace BB := joinB BB B
  replace Xg2 := Xg2.keep B
  clear B
  have lXg2 := Xg2.lt
  have lXg4 := Xg4.lt
  refine ta 6 [.slice none 0 0] 55 (pg) ?_
  intro v5 g6 Xg6 hg6 B
  replace BB := joinB BB B
  replace Xg2 := Xg2.keep B
  replace Xg4 := Xg4.keep B
  clear B
  refine gl_nil ?_
  refine ge_then ?_
  refine gc_seq ?_
  refine gc_seq ?_
  refine gc_reg ?_
  refine tlr 8 [.slice a0 n0 c0] Xg2 0 ?_
  by_cases cz : x0 = 0
  · have lXg2 := Xg2.lt
    have lXg4 := Xg4.lt
    have lXg6 := Xg6.lt
    refine tc 9 181 #[.agg #[.slice a0 n0 c0]] (dZ (h0.keep BB) (by omega) (b := true) (decide_eq_true cz)) ?_
    rintro _ v7 ⟨rfl, B⟩
    refine ⟨_, rfl, ?_⟩
    replace BB := joinB BB B
    replace Xg2 := Xg2.keep B
    replace Xg4 := Xg4.keep B
    replace Xg6 := Xg6.keep B
    clear B
    refine gl_nil ?_
    refine ge_then ?_
    refine gc_yes ?_
    refine gc_seq ?_
    refine gc_reg ?_
    refine t 10 (.agg #[.slice none 0 0]) ?_
    refine ts Xg6 0 (.agg #[.slice none 0 0]) [.slice none 0 0] [.slice none 0 0] ?_
    intro v8 Y C
    replace BB := belowC BB C (by omega)
    replace Xg2 := Xg2.chg C (show g2 ≠ g6 by omega)
    replace Xg4 := Xg4.chg C (show g4 ≠ g6 by omega)
    clear C Xg6
    have Xg6 := Y
    clear Y
    refine gl_nil ?_
    refine ge_then ?_
    refine gc_ret ?_
    refine ge_tr ?_
    refine ge_ret (.agg #[.slice none 0 0]) (rsc 6 (T := 55) (by kernel_rfl) (by kernel_rfl) (lr Xg6 0)) ?_
    subst cz
    rw [Int.ediv_zero]
    exact ⟨_, _, _, 0, rfl, nf_nil _ 0, .inl rfl, by omega, BB⟩
  · have lXg2 := Xg2.lt
    have lXg4 := Xg4.lt
    have lXg6 := Xg6.lt
    refine tc 9 181 #[.agg #[.slice a0 n0 c0]] (dZ (h0.keep BB) (by omega) (b := false) (decide_eq_false cz)) ?_
    rintro _ v9 ⟨rfl, B⟩
    refine ⟨_, rfl, ?_⟩
    replace BB := joinB BB B
    replace Xg2 := Xg2.keep B
    replace Xg4 := Xg4.keep B
    replace Xg6 := Xg6.keep B
    clear B
    refine gl_nil ?_
    refine ge_then ?_
    refine gc_no ?_
    refine gc_skip ?_
    refine ge_then ?_
    refine gc_seq ?_
    refine gc_reg ?_
    have lXg2 := Xg2.lt
    have lXg4 := Xg4.lt
    have lXg6 := Xg6.lt
    refine tc 11 183 #[.bool false] (shr_mk) ?_
    rintro _ v10 ⟨g, rfl, Xr, hg, B⟩
    refine ⟨_, rfl, ?_⟩
    replace BB := joinB BB B
    replace Xg2 := Xg2.keep B
    replace Xg4 := Xg4.keep B
    replace Xg6 := Xg6.keep B
    clear B
    refine t 7 (.func (.func 227) #[] #[pg g]) ?_
    refine gl_nil ?_
    refine ge_then ?_
    refine gc_seq ?_
    replace BB := BB.drew
    replace Xg2 := Xg2.drew
    replace Xg4 := Xg4.drew
    replace Xg6 := Xg6.drew
    replace Xr := Xr.drew
    refine gc_draw (fun w' => Blk w' g4 [.slice a1 n1 c1] 55 ∧ Blk w' g2 [.slice a0 n0 c0] 55) (fun _ => false) ⟨Xg4, Xg2⟩ ?_
    refine z 0 12 (.func (.func 227) #[] #[pg g]) ?_
    refine zlr 1 13 [.slice a1 n1 c1] (fun _ h => h.1) 0 ?_
    refine z 2 14 (.int .u64 y) ?_
    refine zlr 4 16 [.slice a0 n0 c0] (fun _ h => h.2) 0 ?_
    have lXg2 := Xg2.lt
    have lXg4 := Xg4.lt
    have lXg6 := Xg6.lt
    have lXr := Xr.lt
    refine zc 3 15 182 #[.int .u64 y] (eOf hy) ?_
    rintro _ v12 ⟨aq11, nq11, cq11, zq11, rfl, Nq11, hq11, mq11, B⟩
    replace BB := joinB BB B
    replace Xg2 := Xg2.keep B
    replace Xg4 := Xg4.keep B
    replace Xg6 := Xg6.keep B
    replace Xr := Xr.keep B
    clear B
    refine ⟨_, rfl, ⟨Xg4, Xg2⟩, ?_⟩
    have lXg2 := Xg2.lt
    have lXg4 := Xg4.lt
    have lXg6 := Xg6.lt
    have lXr := Xr.lt
    refine zc 5 17 227 #[.agg #[.slice a1 n1 c1], .agg #[.slice aq11 nq11 cq11], .agg #[.slice a0 n0 c0], pg g] (shr_down (h1.keep BB) (by omega) Nq11.nat (by omega) (h0.keep BB) (by omega) Xr) ?_
    rintro _ v14 ⟨aq13, nq13, cq13, zq13, rfl, Nq13, hq13, mq13, B⟩
    replace BB := joinB BB B
    replace Xg2 := Xg2.keep B
    replace Xg4 := Xg4.keep B
    replace Xg6 := Xg6.keep B
    replace Xr := Xr.keep B
    replace Nq11 := Nq11.keep B
    clear B
    refine ⟨_, rfl, ⟨Xg4, Xg2⟩, ?_⟩
    refine zs 6 Xg6 0 (.agg #[.slice aq13 nq13 cq13]) [.slice aq13 nq13 cq13] [.slice aq13 nq13 cq13] ?_
    intro v15 Y C
    replace BB := belowC BB C (by omega)
    replace Xg2 := Xg2.chg C (show g2 ≠ g6 by omega)
    replace Xg4 := Xg4.chg C (show g4 ≠ g6 by omega)
    replace Xr := Xr.chg C (show g ≠ g6 by omega)
    replace Nq11 := Nq11.cell C (show nq11 = 0 ∨ zq11 ≠ g6 by omega)
    replace Nq13 := Nq13.cell C (show nq13 = 0 ∨ zq13 ≠ g6 by omega)
    clear C Xg6
    have Xg6 := Y
    clear Y
    refine ⟨⟨Xg4, Xg2⟩, ?_⟩
    refine gz_done ?_
    refine ge_then ?_
    refine gc_fr [(6, pg g6)] (by kernel_rfl) ?_
    refine gc_ret ?_
    refine ge_ret (.agg #[.slice aq13 nq13 cq13]) (rsc 6 (T := 55) (by kernel_rfl) (by kernel_rfl) (lr Xg6 0)) ?_
    exact ⟨_, _, _, _, rfl, Nq13, by omega, by omega, BB⟩
end Fo
end Go.Proofs.YtpoifdokmjhclaaGreat
