/- Several texts, joined: BkA, KyMk. -/
import Derived.Test.YtpoifdokmjhclaaGreatJge
import Derived.Test.YtpoifdokmjhclaaGreatJgf
import Derived.Test.YtpoifdokmjhclaaGreatJgh
import Derived.Test.YtpoifdokmjhclaaGreatJgl
import Derived.Test.YtpoifdokmjhclaaGreatJgk
namespace Go.Proofs.YtpoifdokmjhclaaGreat
namespace Bk
open Go.RowKit Go.Lib Pg Lim Gl Kv
/-- the store, its blocks and bytes from B on -/
structure Sx (B : Nat) (w : World) (K : Nat → Prop) (g : Nat) (E : Ents) (W : List Ents) (n N : Nat) : Prop where
  sa : SA w K (B ≤ ·) g E W n N
  lo : B ≤ w.heap.size
  kb : ∀ b, K b → B ≤ b
/-- what an operation leaves -/
structure SxE (B : Nat) (w : World) (K : Nat → Prop) (g : Nat) (E : Ents) (W : List Ents) (n N : Nat) (r : Value) (e : Ending) (w' : World) : Prop where
  ret : e = .returned r
  ex : ∃ K', Sx B w' K' g E W n N ∧ (∀ b, K' b → K b ∨ w.heap.size ≤ b) ∧ Chg K w w'
/-- the same, the counts bounded -/
structure SxF (B : Nat) (w : World) (K : Nat → Prop) (g : Nat) (E : Ents) (W : List Ents) (n N : Nat) (r : Value) (e : Ending) (w' : World) : Prop where
  ret : e = .returned r
  ex : ∃ K' n' N', Sx B w' K' g E W n' N' ∧ n' ≤ n + 10 ∧ N' ≤ N + 10 ∧ (∀ b, K' b → K b ∨ w.heap.size ≤ b) ∧ Chg K w w'
/-- from a first world on -/
structure At (B : Nat) (w0 : World) (K0 : Nat → Prop) (w : World) (K : Nat → Prop) (g : Nat) (E : Ents) (W : List Ents) (n N : Nat) : Prop where
  sx : Sx B w K g E W n N
  km : ∀ b, K b → K0 b ∨ w0.heap.size ≤ b
  cc : Chg K0 w0 w
section
variable {B : Nat} {w0 w w' : World} {K0 K K' : Nat → Prop} {g : Nat} {E E' : Ents} {W W' : List Ents} {n N n' N' : Nat}
theorem Sx.at (h : Sx B w K g E W n N) : At B w K w K g E W n N := ⟨h, fun _ h => .inl h, Chg.refl _ _⟩
theorem Sx.keep (h : Sx B w K g E W n N) (b : Below w.heap.size w w') : Sx B w' K g E W n N := ⟨h.sa.keep b, Nat.le_trans h.lo b.size, h.kb⟩
theorem At.keep (h : At B w0 K0 w K g E W n N) (b : Below w.heap.size w w') : At B w0 K0 w' K g E W n N := ⟨h.sx.keep b, h.km, h.cc.trans (Chg.of (F := fun _ => False) b) (fun _ _ h => h.elim)⟩
theorem At.drew (h : At B w0 K0 w K g E W n N) : At B w0 K0 w.drew K g E W n N := h.keep (Below.refl _ _).drew
theorem At.lt (h : At B w0 K0 w K g E W n N) {b : Nat} (hb : K b) : b < w.heap.size := h.sx.sa.lt hb
theorem At.size (h : At B w0 K0 w K g E W n N) : w0.heap.size ≤ w.heap.size := h.cc.size
/-- a variable of the walk's own is written -/
theorem At.cell {x : Nat} {cs : List Value} {t : TypeId} (h : At B w0 K0 w K g E W n N) (X : Blk w x cs t) (C : Chg (· = x) w w') (hx : w0.heap.size ≤ x) (hk : ¬ K x) (ht : t ≠ 5) : At B w0 K0 w' K g E W n N := by
  refine ⟨⟨h.sx.sa.chg C (fun b e hb => hk ((show b = x from e) ▸ hb)) (fun b e cs' k => ?_), Nat.le_trans h.sx.lo C.size, h.sx.kb⟩, h.km, h.cc.trans C (fun b hb e => by have e' : b = x := e; omega)⟩
  have e' : b = x := e
  subst e'
  exact ht (X.eq k).2
theorem At.op (h : At B w0 K0 w K g E W n N) (hs : Sx B w' K' g E' W' n' N') (hK : ∀ b, K' b → K b ∨ w.heap.size ≤ b) (hc : Chg K w w') : At B w0 K0 w' K' g E' W' n' N' :=
  ⟨hs, fun b hb => (hK b hb).elim (h.km b) (fun h2 => .inr (Nat.le_trans h.cc.size h2)), h.cc.trans hc (fun b hb hk => (h.km b hk).elim id (fun h2 => by omega))⟩
theorem not_op {x : Nat} {cs : List Value} {t : TypeId} (X : Blk w x cs t) (hn : ¬ K x) (hK : ∀ b, K' b → K b ∨ w.heap.size ≤ b) : ¬ K' x := fun h => (hK x h).elim hn (fun h2 => by have := X.lt; omega)
theorem At.new {x : Nat} (h : At B w0 K0 w K g E W n N) (hx : w.heap.size ≤ x) : ¬ K x := fun hk => by have := h.lt hk; omega
theorem At.byu {v : Value} {l : List Int} (h : At B w0 K0 w K g E W n N) (hv : ByU w v l) (C : Chg K w w') : ByU w' v l := hv.chg C h.sx.sa.kind
theorem byu_keep {v : Value} {l : List Int} (h : ByU w v l) (b : Below w.heap.size w w') : ByU w' v l := h.chg (K := fun _ => False) (Chg.of b) (fun _ h => h.elim)
theorem byu_cell {x : Nat} {cs : List Value} {t : TypeId} {v : Value} {l : List Int} (h : ByU w v l) (X : Blk w x cs t) (C : Chg (· = x) w w') (ht : t ≠ 5) : ByU w' v l := h.chg C (fun b e => ⟨cs, t, by have e' : b = x := e; subst e'; exact X, ht⟩)
theorem Sx.bk {v : Value} {l : List Int} (h : Sx B w K g E W n N) (hv : ByU w v l) : BK w K v l := fun _ hc => (hv.chg hc h.sa.kind).byt
theorem Sx.ends {r : Value} {P : Nat} {args : Array Value} (h : Sx B w K g E W n N) (u : Calls Tryz.prog P args w (Kv.Ends w K (B ≤ ·) g E' W' n' N' r)) : Calls Tryz.prog P args w (SxE B w K g E' W' n' N' r) := by
  refine u.mono ?_
  rintro e w' ⟨rfl, K', hs, hK, hc⟩
  exact ⟨rfl, K', ⟨hs.mono (fun b _ hb => hb.elim id (Nat.le_trans h.lo)), Nat.le_trans h.lo hc.size, fun b hb => (hK b hb).elim (h.kb b) (Nat.le_trans h.lo)⟩, hK, hc⟩
theorem xset {kv vv : Value} {k v : List Int} (h : Sx B w K g E W n N) (hk : ByU w kv k) (hv : ByU w vv v) (hn : n ≤ 4000000000000000000) (hN : N + 2 ≤ 100000000) :
    Calls Tryz.prog 86 #[pg g, kv, vv] w (SxE B w K g (if setE k v = 0 then put E k v else E) W (n + 1) (N + 2) (.int .i64 (setE k v))) := h.ends (sset h.sa (h.bk hk) (h.bk hv) hn hN)
theorem xdel {kv : Value} {k : List Int} (h : Sx B w K g E W n N) (hk : ByU w kv k) (hkl : k.length ≤ 1000000000) (hn : n ≤ 4000000000000000000) (hN : N + 2 ≤ 100000000) :
    Calls Tryz.prog 131 #[pg g, kv] w (SxE B w K g (rem E k) W (n + 1) (N + 2) (.bool (Kv.look E k).isSome)) := h.ends (sdel h.sa (h.bk hk) hkl hn hN)
structure GetE (B : Nat) (w : World) (K : Nat → Prop) (g : Nat) (E : Ents) (W : List Ents) (n N : Nat) (k : List Int) (e : Ending) (w' : World) : Prop where
  ex : ∃ v, e = .returned (.tuple #[v, .bool (Kv.look E k).isSome]) ∧ ByU w' v ((Kv.look E k).getD []) ∧ Sx B w' K g E W n N ∧ Chg K w w'
theorem xget {kv : Value} {k : List Int} (h : Sx B w K g E W n N) (hk : ByU w kv k) (hn : n ≤ 4000000000000000000) (hN : N ≤ 100000000) :
    Calls Tryz.prog 39 #[pg g, kv] w (GetE B w K g E W (n + 1) N k) := by
  refine (sget h.sa (h.bk hk) hn hN).mono ?_
  rintro e w' ⟨v, rfl, O, S, C⟩
  exact ⟨v, rfl, ByU.of O, ⟨S, Nat.le_trans h.lo C.size, h.kb⟩, C⟩
end
/-- bytes, as enc and rec tell them -/
theorem bya {w : World} {v : Value} {l : List Int} (h : By w v l) : ∃ b ao c, v = .slice ao l.length c ∧ ByA w b ao l.length c l := by
  obtain ⟨ao, c, e, h1, h2, h3, h4, h5⟩ := h.ex
  rcases h5 with rfl | ⟨b, o, rfl, _, h6⟩
  · exact ⟨0, ao, c, e, 0, rfl, h1, ⟨h2, h3⟩, h4, .inl rfl, fun i hi => absurd hi (by simp)⟩
  · exact ⟨b, _, c, e, o, rfl, h1, ⟨h2, h3⟩, h4, .inr rfl, fun i hi => h6 i _ (by rw [nth_eq hi]; exact List.getElem?_eq_getElem hi)⟩
theorem byu_box {w : World} {b n : Nat} {l : List Int} (h : Box w b (l.map (Value.int .u8)) 5) (ho : Oct l) (hn : n = l.length) (hl : l.length ≤ 1000000) : ByU w (.slice (some ⟨b, 0, none⟩) n n) l := by
  subst hn
  refine ⟨⟨_, _, rfl, Nat.le_refl _, by omega, fun e => by simp at e, ho, .inr ⟨b, 0, rfl, h.lt, fun i x hi => ?_⟩⟩, fun b' o n' c e => ?_⟩
  · rw [Nat.zero_add]
    have e := h.blk
    simp [World.cell?, e, hi]
  · simp only [Value.slice.injEq, Option.some.injEq, Addr.mk.injEq] at e
    obtain ⟨⟨rfl, _⟩, _⟩ := e
    exact ⟨_, _, h.blk⟩
/-- where an account lies -/
def ak (id : Int) : List Int := Ky.mk 4 id 0
/-- an account's bytes -/
def pv (x y : Int) : List Int := Rc.thr (Rc.pnx (fun o => ([x, y] : List Int).getD o 0)) [(0, 0), (0, 1)] []
def coinB (l : List Int) : Int := Rc.outX (Rc.stAccount l) 0
def seqB (l : List Int) : Int := Rc.outX (Rc.stAccount l) 1
def coin (E : Ents) (id : Int) : Int := coinB ((Kv.look E (ak id)).getD [])
def seqn (E : Ents) (id : Int) : Int := seqB ((Kv.look E (ak id)).getD [])
def layE (E : Ents) (id x y : Int) : Ents := if x = 0 ∧ y = 0 then rem E (ak id) else put E (ak id) (pv x y)
abbrev isA (id : Int) : Prop := (1 ≤ id ∧ id ≤ 4) ∨ 16 ≤ id
abbrev holdsP (x k : Int) : Prop := x ≤ 1000000000000000000 ∧ k ≤ 1000000000000000000 - x
theorem ak_len (id : Int) : 0 < (ak id).length ∧ (ak id).length ≤ 18 := by
  refine ⟨?_, Ky.mk_len _ _ _⟩
  unfold ak
  rw [Ky.mk_eq (k := 4) (n := 9) (m0 := 97) (m1 := 0) rfl]
  simp
theorem pv_len (x y : Int) : (pv x y).length ≤ 600 := by have := Rc.pnx_len (fun o => ([x, y] : List Int).getD o 0) [(0, 0), (0, 1)] []; simpa [pv] using this
theorem pv_oct (x y : Int) : Oct (pv x y) := Rc.thr_oct _ _ _ (fun _ h => by simp at h)
theorem set_ok (id x y : Int) : setE (ak id) (pv x y) = 0 := by
  have h1 := ak_len id
  have h2 := pv_len x y
  unfold setE
  rw [if_neg (by omega), if_neg (by omega)]
end Bk
end Go.Proofs.YtpoifdokmjhclaaGreat

namespace Go.Proofs.YtpoifdokmjhclaaGreat
namespace Ks
open Go.RowKit Go.Lib Pg Gl
attribute [local go_sem] Oper.semAt_some
set_option maxRecDepth 100000
set_option linter.unusedVariables false
set_option linter.unusedSimpArgs false
theorem fo_f {w : World} {k : Int} {n : Nat} {m0 m1 : Int} (hf : Ky.frm k = ((n : Int), m0, m1)) : Calls Tryz.prog 105 #[.int .i64 k] w fun e w' => e = .returned (.agg #[.int .i64 (n : Int), .int .u8 m0, .int .u8 m1]) ∧ Below w.heap.size w w' := by
  have u := Ky.formOf_any (w := w) (k := k)
  rw [hf] at u
  exact u
theorem usesA_b {w : World} {n x y : Int} {r : Bool} (h : decide (8 < n) = r) : Calls Tryz.prog 106 #[.agg #[.int .i64 n, .int .u8 x, .int .u8 y]] w fun e w' => e = .returned (.bool r) ∧ Below w.heap.size w w' := by
  subst h
  exact Ky.usesA_any (w := w) (n := n) (x := x) (y := y)
theorem usesB_b {w : World} {n x y : Int} {r : Bool} (h : decide (16 < n) = r) : Calls Tryz.prog 107 #[.agg #[.int .i64 n, .int .u8 x, .int .u8 y]] w fun e w' => e = .returned (.bool r) ∧ Below w.heap.size w w' := by
  subst h
  exact Ky.usesB_any (w := w) (n := n) (x := x) (y := y)
theorem turned_b {w : World} {k a : Int} (h0 : 0 ≤ a) (h1 : a < 18446744073709551616) : Calls Tryz.prog 109 #[.int .i64 k, .int .u64 a] w fun e w' => e = .returned (.int .u64 (Ky.tn k a)) ∧ Below w.heap.size w w' := by
  refine (Ky.turned_any h0 h1).mono ?_
  rintro e w' ⟨rfl, rfl⟩
  exact ⟨rfl, Below.refl _ _⟩
theorem run_eqf {ρ : Operand → Value} {w : World} {o : Oper} {n m0 m1 : Int} (hn : n ≠ 0) (ho : ∃ u v, o.op = .binOp .eql 204 u v 204 ∧ ρ u = .agg #[.int .i64 n, .int .u8 m0, .int .u8 m1] ∧ ρ v = .agg #[.int .i64 0, .int .u8 0, .int .u8 0] := by exact ⟨_, _, rfl, by kernel_rfl, by kernel_rfl⟩) : (execOp ρ o).run Tryz.prog w = .ok (.value (.bool false)) w := by
  obtain ⟨u, v, h, e1, e2⟩ := ho
  simp only [execOp, h, e1, e2]
  go_simp
  try simp [hn]
set_option maxHeartbeats 2000000 in
theorem mk_n {w : World} {k a b : Int} {n : Nat} {m0 m1 : Int} (hf : Ky.frm k = ((n : Int), m0, m1)) (hn : n ≤ 18) (h0 : 0 ≤ m0 ∧ m0 < 256) (h1 : 0 ≤ m1 ∧ m1 < 256) (ha : 0 ≤ a ∧ a < 18446744073709551616) (he : (n : Int) ≠ 0 ∧ (a ≠ 0 → 8 < (n : Int)) ∧ (b ≠ 0 → 16 < (n : Int))) : Calls Tryz.prog 72 #[.agg #[.int .i64 k, .int .u64 a, .int .u64 b]] w fun e w' => ∃ v, e = .returned (.tuple #[v, .int .i64 0]) ∧ OB w' (w.heap.size ≤ ·) v (Ky.mk k a b) ∧ Below w.heap.size w w' := by
  have BB := Below.refl w.heap.size w
  refine gc_enter (n := 46) Tryz.func72 rfl (by kernel_rfl) (by kernel_rfl) ?_
  refine gc_seq ?_
  refine gc_reg ?_
  refine ta 1 [.int .i64 k, .int .u64 a, .int .u64 b] 103 (pg) ?_
  intro v1 g2 Xg2 hg2 B
  have yg2 := Nat.le_trans BB.size hg2
  skip
  replace BB := joinB BB B
  clear B
  refine t 2 (.slice none 0 0) ?_
  refine t 3 (.int .i64 0) ?_
  refine gl_nil ?_
  refine ge_then ?_
  refine gc_seq ?_
  refine gc_reg ?_
  refine t 6 (pg g2) ?_
  refine tl 7 (.int .i64 k) Xg2 0 ?_
  refine tc 8 105 #[.int .i64 k] (fo_f hf) ?_
  rintro _ v3 ⟨rfl, B⟩
  refine ⟨_, rfl, ?_⟩
  replace BB := joinB BB B
  replace Xg2 := Xg2.keep B
  clear B
  have lXg2 := Xg2.lt
  refine ta 4 [.int .i64 0, .int .u8 0, .int .u8 0] 204 (pg) ?_
  intro v4 g5 Xg5 hg5 B
  have yg5 := Nat.le_trans BB.size hg5
  have lXg2g5 := Xg2.lt
  replace BB := joinB BB B
  replace Xg2 := Xg2.keep B
  clear B
  refine ts Xg5 0 (.agg #[.int .i64 (n : Int), .int .u8 m0, .int .u8 m1]) [.int .i64 (n : Int), .int .u8 m0, .int .u8 m1] [.int .i64 (n : Int), .int .u8 m0, .int .u8 m1] ?_
  intro v6 Y C
  replace BB := belowC BB C (by omega)
  replace Xg2 := Xg2.chg C (show g2 ≠ g5 by omega)
  clear C Xg5
  have Xg5 := Y
  clear Y
  refine gl_nil ?_
  refine ge_then ?_
  refine gc_join (fun (_ : Unit) => [(1, pg g2), (4, pg g5), (31, .bool false)]) (fun _ w' => Below w.heap.size w w' ∧ Blk w' g2 [.int .i64 k, .int .u64 a, .int .u64 b] 103 ∧ Blk w' g5 [.int .i64 (n : Int), .int .u8 m0, .int .u8 m1] 204) ?_ ?_
  · refine gc_seq ?_
    refine gc_reg ?_
    refine tlr 9 [.int .i64 (n : Int), .int .u8 m0, .int .u8 m1] Xg5 0 ?_
    refine t 10 (.agg #[.int .i64 0, .int .u8 0, .int .u8 0]) ?_
    refine tr 11 (.bool false) (run_eqf (n := (n : Int)) (m0 := m0) (m1 := m1) he.1) ?_
    refine t 12 (.bool false) ?_
    refine t 13 (pq g2 1) ?_
    refine tl 14 (.int .u64 a) Xg2 1 ?_
    by_cases c7 : (a : Int) = 0
    · refine tq 15 (.bool ((a : Int) != 0)) (.bool false) (congrArg Value.bool (bne_eq_false_iff_eq.2 c7)) ?_
      refine t 16 (.bool false) ?_
      refine tn 17 ?_
      refine tn 18 ?_
      refine tn 19 ?_
      refine t 20 (.bool false) ?_
      refine t 21 (.bool false) ?_
      refine t 22 (.bool false) ?_
      refine t 23 (pq g2 2) ?_
      refine tl 24 (.int .u64 b) Xg2 2 ?_
      by_cases c8 : (b : Int) = 0
      · refine tq 25 (.bool ((b : Int) != 0)) (.bool false) (congrArg Value.bool (bne_eq_false_iff_eq.2 c8)) ?_
        refine t 26 (.bool false) ?_
        refine tn 27 ?_
        refine tn 28 ?_
        refine tn 29 ?_
        refine t 30 (.bool false) ?_
        refine t 31 (.bool false) ?_
        refine gl_nil ?_
        refine ge_then ?_
        refine gc_fr [(1, pg g2), (2, .slice none 0 0), (3, .int .i64 0), (4, pg g5), (31, .bool false)] (by kernel_rfl) ?_
        refine gc_no ?_
        refine gc_skip ?_
        exact ge_join () ⟨BB, Xg2, Xg5⟩ (by kernel_rfl)
      · refine tq 25 (.bool ((b : Int) != 0)) (.bool true) (congrArg Value.bool (bne_iff_ne.2 c8)) ?_
        refine t 26 (.bool true) ?_
        refine tlr 27 [.int .i64 (n : Int), .int .u8 m0, .int .u8 m1] Xg5 0 ?_
        refine tc 28 107 #[.agg #[.int .i64 (n : Int), .int .u8 m0, .int .u8 m1]] (usesB_b (r := true) (by exact decide_eq_true (he.2.2 (by omega)))) ?_
        rintro _ v9 ⟨rfl, B⟩
        refine ⟨_, rfl, ?_⟩
        replace BB := joinB BB B
        replace Xg2 := Xg2.keep B
        replace Xg5 := Xg5.keep B
        clear B
        refine t 29 (.bool false) ?_
        refine t 30 (.bool false) ?_
        refine t 31 (.bool false) ?_
        refine gl_nil ?_
        refine ge_then ?_
        refine gc_fr [(1, pg g2), (2, .slice none 0 0), (3, .int .i64 0), (4, pg g5), (31, .bool false)] (by kernel_rfl) ?_
        refine gc_no ?_
        refine gc_skip ?_
        exact ge_join () ⟨BB, Xg2, Xg5⟩ (by kernel_rfl)
    · refine tq 15 (.bool ((a : Int) != 0)) (.bool true) (congrArg Value.bool (bne_iff_ne.2 c7)) ?_
      refine t 16 (.bool true) ?_
      refine tlr 17 [.int .i64 (n : Int), .int .u8 m0, .int .u8 m1] Xg5 0 ?_
      refine tc 18 106 #[.agg #[.int .i64 (n : Int), .int .u8 m0, .int .u8 m1]] (usesA_b (r := true) (by exact decide_eq_true (he.2.1 (by omega)))) ?_
      rintro _ v10 ⟨rfl, B⟩
      refine ⟨_, rfl, ?_⟩
      replace BB := joinB BB B
      replace Xg2 := Xg2.keep B
      replace Xg5 := Xg5.keep B
      clear B
      refine t 19 (.bool false) ?_
      refine t 20 (.bool false) ?_
      refine t 21 (.bool false) ?_
      refine t 22 (.bool false) ?_
      refine t 23 (pq g2 2) ?_
      refine tl 24 (.int .u64 b) Xg2 2 ?_
      by_cases c11 : (b : Int) = 0
      · refine tq 25 (.bool ((b : Int) != 0)) (.bool false) (congrArg Value.bool (bne_eq_false_iff_eq.2 c11)) ?_
        refine t 26 (.bool false) ?_
        refine tn 27 ?_
        refine tn 28 ?_
        refine tn 29 ?_
        refine t 30 (.bool false) ?_
        refine t 31 (.bool false) ?_
        refine gl_nil ?_
        refine ge_then ?_
        refine gc_fr [(1, pg g2), (2, .slice none 0 0), (3, .int .i64 0), (4, pg g5), (31, .bool false)] (by kernel_rfl) ?_
        refine gc_no ?_
        refine gc_skip ?_
        exact ge_join () ⟨BB, Xg2, Xg5⟩ (by kernel_rfl)
      · refine tq 25 (.bool ((b : Int) != 0)) (.bool true) (congrArg Value.bool (bne_iff_ne.2 c11)) ?_
        refine t 26 (.bool true) ?_
        refine tlr 27 [.int .i64 (n : Int), .int .u8 m0, .int .u8 m1] Xg5 0 ?_
        refine tc 28 107 #[.agg #[.int .i64 (n : Int), .int .u8 m0, .int .u8 m1]] (usesB_b (r := true) (by exact decide_eq_true (he.2.2 (by omega)))) ?_
        rintro _ v12 ⟨rfl, B⟩
        refine ⟨_, rfl, ?_⟩
        replace BB := joinB BB B
        replace Xg2 := Xg2.keep B
        replace Xg5 := Xg5.keep B
        clear B
        refine t 29 (.bool false) ?_
        refine t 30 (.bool false) ?_
        refine t 31 (.bool false) ?_
        refine gl_nil ?_
        refine ge_then ?_
        refine gc_fr [(1, pg g2), (2, .slice none 0 0), (3, .int .i64 0), (4, pg g5), (31, .bool false)] (by kernel_rfl) ?_
        refine gc_no ?_
        refine gc_skip ?_
        exact ge_join () ⟨BB, Xg2, Xg5⟩ (by kernel_rfl)
  clear Xg2 Xg5 BB
  rintro _ v13 ⟨BB, Xg2, Xg5⟩
  refine gc_seq ?_
  replace BB := BB.drew
  replace Xg2 := Xg2.drew
  replace Xg5 := Xg5.drew
  refine gc_draw (fun w' => Blk w' g5 [.int .i64 (n : Int), .int .u8 m0, .int .u8 m1] 204 ∧ Blk w' g2 [.int .i64 k, .int .u64 a, .int .u64 b] 103) (fun _ => false) ⟨Xg5, Xg2⟩ ?_
  refine zlr 0 32 [.int .i64 (n : Int), .int .u8 m0, .int .u8 m1] (fun _ h => h.1) 0 ?_
  refine z 1 33 (pg g2) ?_
  refine zl 2 34 (.int .i64 k) (fun _ h => h.2) 0 ?_
  refine z 3 35 (pq g2 1) ?_
  refine zl 4 36 (.int .u64 a) (fun _ h => h.2) 1 ?_
  refine zc 5 37 109 #[.int .i64 k, .int .u64 a] (turned_b ha.1 ha.2) ?_
  rintro _ v14 ⟨rfl, B⟩
  replace BB := joinB BB B
  replace Xg2 := Xg2.keep B
  replace Xg5 := Xg5.keep B
  clear B
  refine ⟨_, rfl, ⟨Xg5, Xg2⟩, ?_⟩
  obtain ⟨T, hT⟩ : ∃ T, T = (v14).heap.size := ⟨_, rfl⟩
  have hTw : w.heap.size ≤ T := by rw [hT]; exact BB.size
  refine zc 6 38 108 #[.agg #[.int .i64 (n : Int), .int .u8 m0, .int .u8 m1], .int .u64 (Ky.tn k a)] (Ky.begin_any (n := n) (a := Ky.tn k a) (by omega) h0 h1) ?_
  rintro _ v15 ⟨u, rfl, U, B⟩
  rw [← hT] at U
  have Bs := B.size
  replace BB := joinB BB B
  replace Xg2 := Xg2.keep B
  replace Xg5 := Xg5.keep B
  clear B
  have hTs : T ≤ _ := Nat.le_trans (Nat.le_of_eq hT) Bs
  refine ⟨_, rfl, ⟨Xg5, Xg2⟩, ?_⟩
  refine z 7 5 (u) ?_
  refine gz_done ?_
  refine ge_then ?_
  refine gc_seq ?_
  refine gc_seq ?_
  refine gc_reg ?_
  refine tlr 39 [.int .i64 (n : Int), .int .u8 m0, .int .u8 m1] Xg5 0 ?_
  by_cases c16 : (16 : Int) < n
  · refine tc 40 107 #[.agg #[.int .i64 (n : Int), .int .u8 m0, .int .u8 m1]] (usesB_b (r := true) (decide_eq_true c16)) ?_
    rintro _ v17 ⟨rfl, B⟩
    refine ⟨_, rfl, ?_⟩
    replace BB := joinB BB B
    replace Xg2 := Xg2.keep B
    replace Xg5 := Xg5.keep B
    replace U := U.keep B
    replace hTs := Nat.le_trans hTs B.size
    clear B
    refine gl_nil ?_
    refine ge_then ?_
    refine gc_yes ?_
    refine gc_reg ?_
    refine t 41 (u) ?_
    refine t 42 (pq g2 2) ?_
    refine tl 43 (.int .u64 b) Xg2 2 ?_
    clear Xg2
    clear Xg5
    refine tc 44 110 #[u, .int .u64 b] (Ky.appendNumber_any U hTs (Nat.le_trans (Ky.mkb_len _ _) (by decide))) ?_
    rintro _ v18 ⟨u2, rfl, U2, B2⟩
    refine ⟨_, rfl, ?_⟩
    replace BB := BB.trans (B2.mono hTw)
    clear U
    refine t 5 (u2) ?_
    refine gl_nil ?_
    refine ge_then ?_
    refine gc_fr [(5, u2)] (by kernel_rfl) ?_
    refine gc_seq ?_
    refine gc_reg ?_
    refine t 45 (u2) ?_
    refine t 2 (u2) ?_
    refine t 3 (.int .i64 0) ?_
    refine gl_nil ?_
    refine ge_then ?_
    refine gc_ret ?_
    refine ge_ret (.tuple #[u2, .int .i64 0]) (rs2 2 3 (by kernel_rfl) (by kernel_rfl) (by kernel_rfl)) ?_
    refine ⟨_, rfl, ?_, BB⟩
    rw [show Ky.mk k a b = _ by unfold Ky.mk; rw [hf, if_pos (show (16 : Int) < (n : Int) from c16)]]
    exact (U2).mono (fun b _ h => Nat.le_trans hTw h)
  · refine tc 40 107 #[.agg #[.int .i64 (n : Int), .int .u8 m0, .int .u8 m1]] (usesB_b (r := false) (decide_eq_false c16)) ?_
    rintro _ v19 ⟨rfl, B⟩
    refine ⟨_, rfl, ?_⟩
    replace BB := joinB BB B
    replace Xg2 := Xg2.keep B
    replace Xg5 := Xg5.keep B
    replace U := U.keep B
    replace hTs := Nat.le_trans hTs B.size
    clear B
    refine gl_nil ?_
    refine ge_then ?_
    refine gc_no ?_
    refine gc_skip ?_
    refine ge_then ?_
    refine gc_seq ?_
    refine gc_reg ?_
    refine t 45 (u) ?_
    refine t 2 (u) ?_
    refine t 3 (.int .i64 0) ?_
    refine gl_nil ?_
    refine ge_then ?_
    refine gc_fr [(2, u), (3, .int .i64 0)] (by kernel_rfl) ?_
    refine gc_ret ?_
    refine ge_ret (.tuple #[u, .int .i64 0]) (rs2 2 3 (by kernel_rfl) (by kernel_rfl) (by kernel_rfl)) ?_
    refine ⟨_, rfl, ?_, BB⟩
    rw [show Ky.mk k a b = _ by unfold Ky.mk; rw [hf, if_neg (show ¬ (16 : Int) < (n : Int) from c16), List.append_nil]]
    exact (U).mono (fun b _ h => Nat.le_trans hTw h)
theorem mk_g {w : World} {k a b : Int} (ha : 0 ≤ a ∧ a < 18446744073709551616) (hE : Ky.mkE k a b = false) : Calls Tryz.prog 72 #[.agg #[.int .i64 k, .int .u64 a, .int .u64 b]] w fun e w' => ∃ v, e = .returned (.tuple #[v, .int .i64 0]) ∧ OB w' (w.heap.size ≤ ·) v (Ky.mk k a b) ∧ Below w.heap.size w w' := by
  obtain ⟨n, m0, m1, hf, hn, hm0, hm1, hz⟩ := Ky.frm_shape k
  unfold Ky.mkE at hE
  rw [hf] at hE
  simp at hE
  exact mk_n hf hn hm0 hm1 ha ⟨by omega, fun h => by omega, fun h => by omega⟩
end Ks
end Go.Proofs.YtpoifdokmjhclaaGreat
