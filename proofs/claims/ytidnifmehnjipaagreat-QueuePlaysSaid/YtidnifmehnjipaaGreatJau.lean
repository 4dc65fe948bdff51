/- Several texts, joined: PwG, PwH, RcU. -/
import Derived.Test.YtidnifmehnjipaaGreatJar
import Derived.Test.YtidnifmehnjipaaGreatJas
import Derived.Test.YtidnifmehnjipaaGreatJat
import Derived.Test.YtidnifmehnjipaaGreatJak
import Derived.Test.YtidnifmehnjipaaGreatJal
namespace Go.Proofs.YtidnifmehnjipaaGreat
namespace Pw
open Go.RowKit Go.Lib Pg Lim Gl Kv Bk
theorem RS.min {w : World} {z X : Nat → Prop} {q n : Nat} {E : Ents} (h : RS w z X q E [] n) : ∃ X', RS w z X' q E [] n ∧ (∀ b, X' b → X b) ∧ ∀ b, X' b → ∃ cs t, Blk w b cs t ∧ t ≠ 5 := by
  obtain ⟨lv, wv, hb, hl, hw⟩ := h.ex
  refine ⟨fun b => X b ∧ ∃ cs t, Blk w b cs t ∧ t ≠ 5, ⟨⟨lv, wv, hb, ⟨hl.ex, fun b m c e => ⟨hl.blk b m c e, ?_⟩⟩, ⟨hw.ex.imp id ?_⟩⟩, ⟨h.xq, _, _, hb, by decide⟩, fun b hx => h.xz b hx.1, h.rise, h.small⟩, fun _ h => h.1, fun _ h => h.2⟩
  · obtain ⟨es, P, _⟩ := hl.ex
    rcases P.ex with ⟨e', _⟩ | ⟨b', c', e', _, hR⟩
    · rw [e'] at e; cases e
    · rw [e'] at e
      cases e
      obtain ⟨cs, k⟩ := hR.kind
      exact ⟨cs, _, k, by decide⟩
  · rintro ⟨b, c, vs, e, hx, hR, hv⟩
    obtain ⟨cs, k⟩ := hR.kind
    exact ⟨b, c, vs, e, ⟨hx, cs, _, k, by decide⟩, hR, fun i v F h1 h2 => by simp at h2⟩
/-- the document's store, its blocks and bytes from B on -/
structure Rx (B : Nat) (w : World) (X : Nat → Prop) (q : Nat) (E : Ents) (n : Nat) : Prop where
  rs : RS w (B ≤ ·) X q E [] n
  kind : ∀ b, X b → ∃ cs t, Blk w b cs t ∧ t ≠ 5
  lo : B ≤ w.heap.size
structure RxE (B : Nat) (w : World) (X : Nat → Prop) (q : Nat) (E : Ents) (n : Nat) (r : Value) (e : Ending) (w' : World) : Prop where
  ret : e = .returned r
  ex : ∃ X', Rx B w' X' q E n ∧ (∀ b, X' b → X b ∨ w.heap.size ≤ b) ∧ Chg X w w'
structure RxF (B : Nat) (w : World) (X : Nat → Prop) (q : Nat) (E : Ents) (n m : Nat) (r : Value) (e : Ending) (w' : World) : Prop where
  ret : e = .returned r
  ex : ∃ X' n', Rx B w' X' q E n' ∧ n' ≤ n + m ∧ (∀ b, X' b → X b ∨ w.heap.size ≤ b) ∧ Chg X w w'
structure Ar (B : Nat) (w0 : World) (X0 : Nat → Prop) (w : World) (X : Nat → Prop) (q : Nat) (E : Ents) (n : Nat) : Prop where
  rx : Rx B w X q E n
  xm : ∀ b, X b → X0 b ∨ w0.heap.size ≤ b
  cc : Chg X0 w0 w
section
variable {B : Nat} {w0 w w' : World} {X0 X X' : Nat → Prop} {q : Nat} {E E' : Ents} {n n' : Nat}
theorem Rx.at (h : Rx B w X q E n) : Ar B w X w X q E n := ⟨h, fun _ h => .inl h, Chg.refl _ _⟩
theorem Rx.lt (h : Rx B w X q E n) {b : Nat} (hb : X b) : b < w.heap.size := (h.rs.xz b hb).2
theorem Rx.keep (h : Rx B w X q E n) (b : Below w.heap.size w w') : Rx B w' X q E n := ⟨h.rs.keep b, fun x hx => by obtain ⟨cs, t, k, ht⟩ := h.kind x hx; exact ⟨cs, t, k.keep b, ht⟩, Nat.le_trans h.lo b.size⟩
theorem Rx.off {Y : Nat → Prop} (h : Rx B w X q E n) (C : Chg Y w w') (h1 : ∀ b, Y b → ¬ X b) (h2 : ∀ b, Y b → ∀ cs, ¬ Blk w b cs 5) : Rx B w' X q E n :=
  ⟨h.rs.chg C h1 h2, fun x hx => by obtain ⟨cs, t, k, ht⟩ := h.kind x hx; exact ⟨cs, t, k.chg C (fun hy => h1 x hy hx), ht⟩, Nat.le_trans h.lo C.size⟩
theorem Ar.keep (h : Ar B w0 X0 w X q E n) (b : Below w.heap.size w w') : Ar B w0 X0 w' X q E n := ⟨h.rx.keep b, h.xm, h.cc.trans (Chg.of (F := fun _ => False) b) (fun _ _ h => h.elim)⟩
theorem Ar.drew (h : Ar B w0 X0 w X q E n) : Ar B w0 X0 w.drew X q E n := h.keep (Below.refl _ _).drew
theorem Ar.size (h : Ar B w0 X0 w X q E n) : w0.heap.size ≤ w.heap.size := h.cc.size
theorem Ar.cell {x : Nat} {cs : List Value} {t : TypeId} (h : Ar B w0 X0 w X q E n) (Y : Blk w x cs t) (C : Chg (· = x) w w') (hx : w0.heap.size ≤ x) (hk : ¬ X x) (ht : t ≠ 5) : Ar B w0 X0 w' X q E n :=
  ⟨h.rx.off C (fun b e hb => hk ((show b = x from e) ▸ hb)) (fun b e cs' k => by have e' : b = x := e; subst e'; exact ht (Y.eq k).2), h.xm, h.cc.trans C (fun b hb e => by have e' : b = x := e; omega)⟩
theorem Ar.op (h : Ar B w0 X0 w X q E n) (hs : Rx B w' X' q E' n') (hK : ∀ b, X' b → X b ∨ w.heap.size ≤ b) (hc : Chg X w w') : Ar B w0 X0 w' X' q E' n' :=
  ⟨hs, fun b hb => (hK b hb).elim (h.xm b) (fun h2 => .inr (Nat.le_trans h.cc.size h2)), h.cc.trans hc (fun b hb hk => (h.xm b hk).elim id (fun h2 => by omega))⟩
theorem Ar.new {x : Nat} (h : Ar B w0 X0 w X q E n) (hx : w.heap.size ≤ x) : ¬ X x := fun hk => by have := h.rx.lt hk; omega
theorem Ar.byu {v : Value} {l : List Int} (h : Ar B w0 X0 w X q E n) (hv : ByU w v l) (C : Chg X w w') : ByU w' v l := hv.chg C h.rx.kind
theorem Rx.made (h : Rx B w X q E n) (r : RS w' (B ≤ ·) X' q E' [] n') (hX : ∀ b, X' b → X b ∨ w.heap.size ≤ b) (hs : w.heap.size ≤ w'.heap.size) : ∃ Y, Rx B w' Y q E' n' ∧ (∀ b, Y b → X b ∨ w.heap.size ≤ b) := by
  obtain ⟨Y, r', hY, hk⟩ := RS.min r
  exact ⟨Y, ⟨r', hk, Nat.le_trans h.lo hs⟩, fun b hb => hX b (hY b hb)⟩
theorem Rx.bq {v : Value} {l : List Int} (h : Rx B w X q E n) (hv : ByU w v l) : BK w (· = q) v l := fun _ hc => (hv.chg hc (fun b e => by
  have e' : b = q := e
  subst e'
  exact h.kind _ h.rs.xq)).byt
theorem Rx.bs {v : Value} {l : List Int} (h : Rx B w X q E n) (hv : ByU w v l) (x : Value) : By (w.setCell ⟨q, 2, none⟩ x) v l := h.bq hv _ ((Chg.refl (fun y => y = q) w).cell (.inl rfl) _)
theorem rxset {kv vv : Value} {k v : List Int} (h : Rx B w X q E n) (hk : ByU w kv k) (hv : ByU w vv v) (hn : n ≤ 4000000000000000000) (hm : E.length ≤ 1000000) (h0 : setE k v = 0) :
    Calls Tryz.prog 8 #[pg q, kv, vv] w (RxE B w X q (put E k v) (n + 1) (.int .i64 0)) := by
  refine (rset h.rs (fun b hb => Nat.le_trans h.lo hb) hk.byt hv.byt (h.bs hk _) (h.bs hv _) hn hm).mono ?_
  rw [h0, if_pos rfl]
  rintro e w' ⟨rfl, X', R, hX, _, C⟩
  obtain ⟨Y, S, hY⟩ := h.made R hX C.size
  exact ⟨rfl, Y, S, hY, C.mono (fun b _ hb => hb.1)⟩
theorem rxdel {kv : Value} {k : List Int} (h : Rx B w X q E n) (hk : ByU w kv k) (hkl : k.length ≤ 1000000000) (hn : n ≤ 4000000000000000000) (hm : E.length ≤ 1000000) :
    Calls Tryz.prog 55 #[pg q, kv] w (RxE B w X q (rem E k) (n + 1) (.bool (Kv.look E k).isSome)) := by
  refine (rdel h.rs (fun b hb => Nat.le_trans h.lo hb) hk.byt (h.bs hk _) hkl hn hm).mono ?_
  rintro e w' ⟨rfl, X', R, hX, _, C⟩
  obtain ⟨Y, S, hY⟩ := h.made R hX C.size
  exact ⟨rfl, Y, S, hY, C.mono (fun b _ hb => hb.1)⟩
structure RGetE (B : Nat) (w : World) (X : Nat → Prop) (q : Nat) (E : Ents) (n : Nat) (k : List Int) (b : Bool) (e : Ending) (w' : World) : Prop where
  ex : ∃ v, e = .returned (.tuple #[v, .bool b]) ∧ ByU w' v ((Kv.look E k).getD []) ∧ ∃ X', Rx B w' X' q E n ∧ (∀ b, X' b → X b ∨ w.heap.size ≤ b) ∧ Chg X w w'
theorem rxget {kv : Value} {k : List Int} {b : Bool} (h : Rx B w X q E n) (hk : ByU w kv k) (hkl : k.length ≤ 1000000000) (hn : n ≤ 4000000000000000000) (hm : E.length ≤ 1000000) (hb : (Kv.look E k).isSome = b) :
    Calls Tryz.prog 98 #[pg q, kv] w (RGetE B w X q E (n + 1) k b) := by
  subst hb
  refine (rget h.rs hk.byt hkl (h.bs hk _) hn hm).mono ?_
  rintro e w' ⟨v, rfl, O, R, C⟩
  obtain ⟨Y, S, hY⟩ := h.made R (fun _ h => .inl h) C.size
  exact ⟨v, rfl, ByU.of O, Y, S, hY, C.mono (fun b _ e => by have e' : b = q := e; subst e'; exact h.rs.xq)⟩
end
theorem rem_len (E : Ents) (k : List Int) : (rem E k).length ≤ E.length := List.length_filter_le _ _
theorem put_len (E : Ents) (k v : List Int) : (put E k v).length ≤ E.length + 1 := by
  have key : ∀ F : Ents, (F.filter (fun x => decide (Lt x.1 k))).length + (F.filter (fun x => decide (Lt k x.1))).length ≤ F.length := by
    intro F
    induction F with
    | nil => simp
    | cons x F ih =>
      by_cases a : Lt x.1 k
      · rw [List.filter_cons_of_pos (by simpa using a), List.filter_cons_of_neg (by simpa using a.not)]
        simp only [List.length_cons]
        omega
      · rw [List.filter_cons_of_neg (by simpa using a)]
        have := List.length_filter_le (fun x : KV => decide (Lt k x.1)) [x]
        by_cases b : Lt k x.1
        · rw [List.filter_cons_of_pos (by simpa using b)]
          simp only [List.length_cons]
          omega
        · rw [List.filter_cons_of_neg (by simpa using b)]
          simp only [List.length_cons]
          omega
  unfold put
  rw [List.length_append, List.length_cons]
  exact (by omega : ∀ a b c : Nat, a + b ≤ c → a + (b + 1) ≤ c + 1) _ _ _ (key E)
end Pw
end Go.Proofs.YtidnifmehnjipaaGreat

namespace Go.Proofs.YtidnifmehnjipaaGreat
namespace Pw
open Go.RowKit Go.Lib Pg Lim Gl Kv Bk
attribute [local go_sem] Oper.semAt_some
set_option maxRecDepth 100000
set_option linter.unusedSimpArgs false
set_option linter.unusedVariables false
set_option maxHeartbeats 2000000
theorem rmk_key {w : World} {k a b : Int} (ha : 0 ≤ a ∧ a < 18446744073709551616) (hE : Ky.mkE k a b = false) : Calls Tryz.prog 37 #[.agg #[.int .i64 k, .int .u64 a, .int .u64 b]] w fun e w' => ∃ v, e = .returned (.tuple #[v, .int .i64 0]) ∧ ByU w' v (Ky.mk k a b) ∧ Below w.heap.size w w' := by
  have u := Ky.rmake_any (w := w) (k := k) (b := b) ha.1 ha.2
  rw [hE] at u
  refine u.mono ?_
  rintro e w' ⟨v, rfl, O, B⟩
  exact ⟨v, rfl, ByU.of O, B⟩
theorem key9 {w : World} {k a b : Int} (ha : 0 ≤ a ∧ a < 18446744073709551616) (hE : Ky.mkE k a b = false) : Calls Tryz.prog 9 #[.int .i64 k, .int .u64 a, .int .u64 b] w fun e w' => ∃ v, e = .returned v ∧ ByU w' v (Ky.mk k a b) ∧ Below w.heap.size w w' := by
  have BB := Below.refl w.heap.size w
  refine gc_enter (n := 18) Tryz.func9 rfl (by kernel_rfl) (by kernel_rfl) ?_
  refine gc_seq ?_
  refine gc_reg ?_
  refine t 6 (.slice none 0 0) ?_
  refine gl_nil ?_
  refine ge_then ?_
  refine gc_seq ?_
  refine gc_reg ?_
  refine t 10 (.int .i64 k) ?_
  refine t 11 (.int .u64 a) ?_
  refine t 12 (.int .u64 b) ?_
  refine t 13 (.agg #[.int .i64 k, .int .u64 a, .int .u64 b]) ?_
  refine tc 14 37 #[.agg #[.int .i64 k, .int .u64 a, .int .u64 b]] (rmk_key ha hE) ?_
  rintro _ v1 ⟨v0, rfl, U0, B⟩
  refine ⟨_, rfl, ?_⟩
  replace BB := joinB BB B
  clear B
  refine t 9 (.tuple #[v0, .int .i64 0]) ?_
  refine t 15 (v0) ?_
  refine t 16 (.int .i64 0) ?_
  refine t 7 (v0) ?_
  refine t 8 (.int .i64 0) ?_
  refine gl_nil ?_
  refine ge_then ?_
  refine gc_fr [(6, .slice none 0 0), (7, v0)] (by kernel_rfl) ?_
  refine gc_seq ?_
  refine gc_reg ?_
  refine t 17 (v0) ?_
  refine t 6 (v0) ?_
  refine gl_nil ?_
  refine ge_then ?_
  refine gc_ret ?_
  refine ge_ret (v0) (rs1 6 (by kernel_rfl) (by kernel_rfl)) ?_
  exact ⟨_, rfl, U0, BB⟩
theorem byu1 {w : World} {g : Nat} {x : Int} (hx : 0 ≤ x ∧ x < 256) (X : Blk w g [.int .u8 x] 5) : ByU w (sg 1 g) [x] := by
  refine ⟨⟨_, 1, rfl, Nat.le_refl _, by decide, fun e => (by cases e), (fun y hy => by simp at hy; subst hy; exact hx), .inr ⟨g, 0, rfl, X.lt, fun i y hi => ?_⟩⟩, fun b o n c e => by cases e; exact ⟨_, _, X.blk⟩⟩
  match i, hi with
  | 0, hi => cases hi; exact X.cell (i := 0) rfl
/-- the entries under a beginning -/
structure PrfE (B : Nat) (w : World) (X : Nat → Prop) (q : Nat) (E : Ents) (n : Nat) (p : List Int) (e : Ending) (w' : World) : Prop where
  ex : ∃ v es, e = .returned v ∧ Pq w' w.heap.size (B ≤ ·) v es ∧ es.map En.kl2 = E.filter (fun x => decide (p <+: x.1)) ∧ ∃ X' n', Rx B w' X' q E n' ∧ n' ≤ n + 1 + E.length ∧ (∀ b, X' b → X b ∨ w.heap.size ≤ b) ∧ Chg (· = q) w w'
section
variable {B : Nat} {w : World} {X : Nat → Prop} {q : Nat} {E : Ents} {n : Nat}
theorem rxprefix {pv : Value} {p : List Int} {m : Nat} (h : Rx B w X q E n) (hp : ByU w pv p) (hpl : p.length ≤ 1000000000) (hn : n ≤ 3000000000000000000) (hm : E.length ≤ m) (hmo : m ≤ 1000000) : Calls Tryz.prog 156 #[pg q, pv, .int .i64 (m : Nat)] w (PrfE B w X q E n p) := by
  refine (rprefix h.rs (h.bq hp) hpl hn (by omega) hmo).mono ?_
  rintro e w' ⟨v, es, rfl, P, he, R, C⟩
  have hl : (E.filter (fun x => decide (p <+: x.1))).length ≤ E.length := List.length_filter_le _ _
  have e2 : (E.filter (fun x => decide (p <+: x.1))).take m = E.filter (fun x => decide (p <+: x.1)) := List.take_of_length_le (Nat.le_trans hl hm)
  rw [e2] at he R
  obtain ⟨Y, S, hY⟩ := h.made R (fun _ h => .inl h) C.size
  exact ⟨v, es, rfl, P, he, Y, _, S, Nat.add_le_add_left hl _, hY, C⟩
theorem all9 {pv : Value} {p : List Int} (h : Rx B w X q E n) (hp : ByU w pv p) (hpl : p.length ≤ 1000000000) (hn : n ≤ 3000000000000000000) (hm : E.length ≤ 1000000) : Calls Tryz.prog 109 #[pg q, pv] w (PrfE B w X q E n p) := by
  obtain ⟨lv, wv, hb, hl, hw⟩ := h.rs.ex
  obtain ⟨es0, P0, he0⟩ := hl.ex
  obtain ⟨la, lc, rfl⟩ := P0.shape
  have hlen : es0.length = E.length := by rw [← he0, List.length_map]
  clear hl hw P0 he0
  obtain ⟨m, hm0⟩ : ∃ m, es0.length = m := ⟨_, rfl⟩
  rw [hm0] at hb hlen
  refine gc_enter (n := 13) Tryz.func109 rfl (by kernel_rfl) (by kernel_rfl) ?_
  refine gc_seq ?_
  refine gc_reg ?_
  refine t 4 (.slice none 0 0) ?_
  refine gl_nil ?_
  refine ge_then ?_
  refine gc_seq ?_
  refine gc_reg ?_
  refine t 5 (pg q) ?_
  refine t 6 (pv) ?_
  refine t 7 (pg q) ?_
  refine t 8 (pg q) ?_
  refine t 9 (pg q) ?_
  refine tl 10 (.slice la m lc) hb 0 ?_
  refine t 11 (.int .i64 ((m : Nat) : Int)) ?_
  refine tc 12 156 #[pg q, pv, .int .i64 ((m : Nat) : Int)] (rxprefix h hp hpl hn (by omega) (by omega)) ?_
  rintro _ v1 ⟨v, es, rfl, P, he, Y, n1, S, hn1, hY, C⟩
  refine ⟨_, rfl, ?_⟩
  refine t 4 (v) ?_
  refine gl_nil ?_
  refine ge_then ?_
  refine gc_fr [(4, v)] (by kernel_rfl) ?_
  refine gc_ret ?_
  refine ge_ret (v) (rs1 4 (by kernel_rfl) (by kernel_rfl)) ?_
  exact ⟨_, _, rfl, P, he, Y, n1, S, hn1, hY, C⟩
end
theorem run_ld8 {ρ : Operand → Value} {o : Oper} {w : World} {b off : Nat} {v : Value} (hc : w.cell? ⟨b, off, none⟩ = some v) (ho : ∃ p, o.op = .load 36 p ∧ ρ p = .pointer (some ⟨b, off, none⟩) := by exact ⟨_, rfl, by kernel_rfl⟩) : (execOp ρ o).run Tryz.prog w = .ok (.value v) w := by
  obtain ⟨p, h, hp⟩ := ho
  have : (loadVar 36 ⟨b, off, none⟩).run Tryz.prog w = .ok v w := by go_simp
  simp only [execOp, h, hp]
  simp [Instr.loadAt, Instr.sureAddr, Result.andThen, this]
theorem frm_u10 : ∀ k : Nat, k < 18 → Ky.frm k = Ky.frm (10 : Nat) → k = 10 := by decide +kernel
theorem frm_u11 : ∀ k : Nat, k < 18 → Ky.frm k = Ky.frm (11 : Nat) → k = 11 := by decide +kernel
/-- the document's Read of a key of kind r -/
theorem rread_k {w : World} {v : Value} {l : List Int} {r : Nat} (hr : ∀ k : Nat, k < 18 → Ky.frm k = Ky.frm r → k = r) (hr1 : r < 18) (hr0 : 0 < r) (h : By w v l) (hl : l.length ≤ 1000000000) (h0 : 0 < l.length) (hf : Ky.frm r = Ky.fIn l) : Calls Tryz.prog 157 #[v] w fun e w' => e = .returned (.tuple #[.agg #[.int .i64 (r : Int), .int .u64 (Ky.rdA r l), .int .u64 (Ky.rdB l)], .int .i64 0]) ∧ Below w.heap.size w w' := by
  obtain ⟨ao, c, rfl, h1, h2, h3, h4, h5⟩ := id h.ex
  rcases h5 with rfl | ⟨b, o, rfl, _⟩
  · simp at h0
  refine (Ky.rread_any h hl h0).mono ?_
  rintro e w' ⟨R, A, B, Er, rfl, h6, hb⟩
  rcases h6 with ⟨k, k1, k2, k3, rfl, rfl, rfl, rfl⟩ | ⟨k1, _⟩
  · have := hr k k1 (k3.trans hf.symm)
    subst this
    exact ⟨rfl, hb⟩
  · exact absurd hf (k1 r hr1 hr0)
structure RNumE (B : Nat) (w : World) (X : Nat → Prop) (q : Nat) (E : Ents) (n : Nat) (l : List Int) (e : Ending) (w' : World) : Prop where
  ex : ∃ v, e = .returned v ∧ UA w' w.heap.size v l ∧ ∃ X' n', Rx B w' X' q E n' ∧ n' ≤ n + 1 + E.length ∧ (∀ b, X' b → X b ∨ w.heap.size ≤ b) ∧ Chg (· = q) w w'
end Pw
end Go.Proofs.YtidnifmehnjipaaGreat

namespace Go.Proofs.YtidnifmehnjipaaGreat
namespace Rc
open Go.RowKit Go.Lib Pg Lim Gl
theorem mine0 {B : Nat} (w : World) : MineB w B (.slice none 0 0) [] := World.ownsRow_nil _ _ _ _
theorem len_0 : ([] : List Int).length ≤ 0 := Nat.le_refl 0
theorem len_app {L X : List Int} {a b : Nat} (h : L.length ≤ a) (h' : X.length ≤ b) : (L ++ X).length ≤ a + b := by rw [List.length_append]; omega
theorem len_u8 (xs : List Int) : (xs.flatMap (be 8)).length ≤ 8 * xs.length := by
  induction xs with
  | nil => exact Nat.le_refl _
  | cons x r ih => rw [List.flatMap_cons, List.length_append, be_length, List.length_cons]; omega
theorem len_d8 (x : Int) : (cntd 1 (natB (fit x))).length ≤ 256 := by
  have := fit_len x
  rw [cntd_len]; omega
theorem len_f8 (x : Int) : (be 1 x).length ≤ 1 := by rw [be_length]; exact Nat.le_refl _
set_option maxHeartbeats 2000000 in
set_option maxRecDepth 100000 in
theorem rPutChain {w : World} {x0 : Int} {x1 : Int}  :
    Calls Tryz.prog 10 #[.agg #[.int .u64 x0, .int .u64 x1]] w fun e w' => ∃ v, e = .returned v ∧ MineB w' w.heap.size v (thr (pnx (fun o => ([x0, x1] : List Int).getD o 0)) [(0, 0), (0, 1)] []) ∧ Below w.heap.size w w' := by
  have BB := Below.refl w.heap.size w
  refine gc_enter (n := 9) Tryz.func10 rfl (by kernel_rfl) (by kernel_rfl) ?_
  refine gc_seq ?_
  refine gc_reg ?_
  refine ta 1 [.int .u64 x0, .int .u64 x1] 40 (pg) ?_
  intro v1 g2 Xg2 hg2 B
  replace BB := joinB BB B
  clear B
  refine t 2 (.slice none 0 0) ?_
  refine gl_nil ?_
  refine ge_then ?_
  refine gc_seq ?_
  refine gc_reg ?_
  refine t 3 (pg g2) ?_
  refine tl 4 (.int .u64 x0) Xg2 0 ?_
  refine t 5 (pq g2 1) ?_
  refine tl 6 (.int .u64 x1) Xg2 1 ?_
  refine ta 7 [.int .u64 x0, .int .u64 x1] 22 (sg 2) ?_
  intro v3 g4 Xg4 hg4 B
  replace BB := joinB BB B
  replace Xg2 := Xg2.keep B
  clear B
  refine tc 8 38 #[.slice none 0 0, sg 2 g4] (ru8 (xs := [x0, x1]) (mine0 _) BB.size Xg4 (Nat.le_trans len_0 (Nat.le_of_ble_eq_true rfl)) (Nat.le_of_ble_eq_true rfl)) ?_
  rintro _ v6 ⟨Vm5, rfl, m5, Y⟩
  refine ⟨_, rfl, ?_⟩
  replace BB := Byt.below Y BB (Nat.le_refl _) (Nat.le_refl _)
  replace Xg2 := Blk.byt Xg2 Y (by decide)
  replace Xg4 := Blk.byt Xg4 Y (by decide)
  clear Y
  have bm5 := len_app len_0 (len_u8 [x0, x1])
  refine t 2 (Vm5) ?_
  refine gl_nil ?_
  refine ge_then ?_
  refine gc_ret ?_
  refine ge_ret (Vm5) (rs1 2 (by kernel_rfl) (by kernel_rfl)) ?_
  exact ⟨_, rfl, by simpa [thr, pnx, enc1] using m5, BB⟩
set_option maxHeartbeats 2000000 in
set_option maxRecDepth 100000 in
theorem rPutUnbonding {w : World} {x0 : Int} {x1 : Int} {x2 : Int} {x3 : Int} {x4 : Int} {x5 : Int}  :
    Calls Tryz.prog 42 #[.agg #[.int .u64 x0, .int .u64 x1, .int .u64 x2, .int .u64 x3, .int .u64 x4, .int .u64 x5]] w fun e w' => ∃ v, e = .returned v ∧ MineB w' w.heap.size v (thr (pnx (fun o => ([x0, x1, x2, x3, x4, x5] : List Int).getD o 0)) [(0, 0), (0, 1), (0, 2), (0, 3), (0, 4), (0, 5)] []) ∧ Below w.heap.size w w' := by
  have BB := Below.refl w.heap.size w
  refine gc_enter (n := 17) Tryz.func42 rfl (by kernel_rfl) (by kernel_rfl) ?_
  refine gc_seq ?_
  refine gc_reg ?_
  refine ta 1 [.int .u64 x0, .int .u64 x1, .int .u64 x2, .int .u64 x3, .int .u64 x4, .int .u64 x5] 42 (pg) ?_
  intro v1 g2 Xg2 hg2 B
  replace BB := joinB BB B
  clear B
  refine t 2 (.slice none 0 0) ?_
  refine gl_nil ?_
  refine ge_then ?_
  refine gc_seq ?_
  refine gc_reg ?_
  refine t 3 (pg g2) ?_
  refine tl 4 (.int .u64 x0) Xg2 0 ?_
  refine t 5 (pq g2 1) ?_
  refine tl 6 (.int .u64 x1) Xg2 1 ?_
  refine t 7 (pq g2 2) ?_
  refine tl 8 (.int .u64 x2) Xg2 2 ?_
  refine t 9 (pq g2 3) ?_
  refine tl 10 (.int .u64 x3) Xg2 3 ?_
  refine t 11 (pq g2 4) ?_
  refine tl 12 (.int .u64 x4) Xg2 4 ?_
  refine t 13 (pq g2 5) ?_
  refine tl 14 (.int .u64 x5) Xg2 5 ?_
  refine ta 15 [.int .u64 x0, .int .u64 x1, .int .u64 x2, .int .u64 x3, .int .u64 x4, .int .u64 x5] 22 (sg 6) ?_
  intro v3 g4 Xg4 hg4 B
  replace BB := joinB BB B
  replace Xg2 := Xg2.keep B
  clear B
  refine tc 16 38 #[.slice none 0 0, sg 6 g4] (ru8 (xs := [x0, x1, x2, x3, x4, x5]) (mine0 _) BB.size Xg4 (Nat.le_trans len_0 (Nat.le_of_ble_eq_true rfl)) (Nat.le_of_ble_eq_true rfl)) ?_
  rintro _ v6 ⟨Vm5, rfl, m5, Y⟩
  refine ⟨_, rfl, ?_⟩
  replace BB := Byt.below Y BB (Nat.le_refl _) (Nat.le_refl _)
  replace Xg2 := Blk.byt Xg2 Y (by decide)
  replace Xg4 := Blk.byt Xg4 Y (by decide)
  clear Y
  have bm5 := len_app len_0 (len_u8 [x0, x1, x2, x3, x4, x5])
  refine t 2 (Vm5) ?_
  refine gl_nil ?_
  refine ge_then ?_
  refine gc_fr [(2, Vm5)] (by kernel_rfl) ?_
  refine gc_ret ?_
  refine ge_ret (Vm5) (rs1 2 (by kernel_rfl) (by kernel_rfl)) ?_
  exact ⟨_, rfl, by simpa [thr, pnx, enc1] using m5, BB⟩
set_option maxHeartbeats 2000000 in
set_option maxRecDepth 100000 in
theorem rPutMove {w : World} {x0 : Int} {x1 : Int} {x2 : Int} {x3 : Int} {x4 : Int} {x5 : Int} {a6 : Option Addr} {n6 c6 : Nat} {x6 : Int} (h6 : NatA w a6 n6 c6 x6) (m6 : n6 ≤ 3000) :
    Calls Tryz.prog 46 #[.agg #[.int .u64 x0, .int .u64 x1, .int .u64 x2, .int .u64 x3, .int .u64 x4, .int .u64 x5, .slice a6 n6 c6]] w fun e w' => ∃ v, e = .returned v ∧ MineB w' w.heap.size v (thr (pnx (fun o => ([x0, x1, x2, x3, x4, x5, x6] : List Int).getD o 0)) [(0, 0), (0, 1), (0, 2), (0, 3), (0, 4), (0, 5), (2, 6)] []) ∧ Below w.heap.size w w' := by
  have BB := Below.refl w.heap.size w
  refine gc_enter (n := 20) Tryz.func46 rfl (by kernel_rfl) (by kernel_rfl) ?_
  refine gc_seq ?_
  refine gc_reg ?_
  refine ta 1 [.int .u64 x0, .int .u64 x1, .int .u64 x2, .int .u64 x3, .int .u64 x4, .int .u64 x5, .slice a6 n6 c6] 48 (pg) ?_
  intro v1 g2 Xg2 hg2 B
  replace BB := joinB BB B
  clear B
  refine t 2 (.slice none 0 0) ?_
  refine gl_nil ?_
  refine ge_then ?_
  refine gc_seq ?_
  replace BB := BB.drew
  replace Xg2 := Xg2.drew
  refine gc_draw (fun w' => Blk w' g2 [.int .u64 x0, .int .u64 x1, .int .u64 x2, .int .u64 x3, .int .u64 x4, .int .u64 x5, .slice a6 n6 c6] 48) (fun _ => false) Xg2 ?_
  refine z 0 3 (pg g2) ?_
  refine zl 1 4 (.int .u64 x0) (fun _ h => h) 0 ?_
  refine z 2 5 (pq g2 1) ?_
  refine zl 3 6 (.int .u64 x1) (fun _ h => h) 1 ?_
  refine z 4 7 (pq g2 2) ?_
  refine zl 5 8 (.int .u64 x2) (fun _ h => h) 2 ?_
  refine z 6 9 (pq g2 3) ?_
  refine zl 7 10 (.int .u64 x3) (fun _ h => h) 3 ?_
  refine z 8 11 (pq g2 4) ?_
  refine zl 9 12 (.int .u64 x4) (fun _ h => h) 4 ?_
  refine z 10 13 (pq g2 5) ?_
  refine zl 11 14 (.int .u64 x5) (fun _ h => h) 5 ?_
  refine z 14 17 (pq g2 6) ?_
  refine zlr 15 18 [.slice a6 n6 c6] (fun _ h => h) 6 ?_
  refine za 12 15 [.int .u64 x0, .int .u64 x1, .int .u64 x2, .int .u64 x3, .int .u64 x4, .int .u64 x5] 22 (sg 6) ?_
  intro v3 g4 Xg4 hg4 B
  replace BB := joinB BB B
  replace Xg2 := Xg2.keep B
  clear B
  refine ⟨Xg2, ?_⟩
  refine zc 13 16 38 #[.slice none 0 0, sg 6 g4] (ru8 (xs := [x0, x1, x2, x3, x4, x5]) (mine0 _) BB.size Xg4 (Nat.le_trans len_0 (Nat.le_of_ble_eq_true rfl)) (Nat.le_of_ble_eq_true rfl)) ?_
  rintro _ v6 ⟨Vm5, rfl, m5, Y⟩
  replace BB := Byt.below Y BB (Nat.le_refl _) (Nat.le_refl _)
  replace Xg2 := Blk.byt Xg2 Y (by decide)
  replace Xg4 := Blk.byt Xg4 Y (by decide)
  clear Y
  have bm5 := len_app len_0 (len_u8 [x0, x1, x2, x3, x4, x5])
  refine ⟨_, rfl, Xg2, ?_⟩
  refine zc 16 19 104 #[Vm5, .agg #[.slice a6 n6 c6]] (rd8 m5 BB.size (Nat.le_trans bm5 (Nat.le_of_ble_eq_true rfl)) (h6.keep BB) m6) ?_
  rintro _ v8 ⟨Vm7, rfl, m7, Y⟩
  replace BB := Byt.below Y BB (Nat.le_refl _) (Nat.le_refl _)
  replace Xg2 := Blk.byt Xg2 Y (by decide)
  replace Xg4 := Blk.byt Xg4 Y (by decide)
  clear m5
  clear Y
  have bm7 := len_app bm5 (len_d8 x6)
  refine ⟨_, rfl, Xg2, ?_⟩
  refine z 17 2 (Vm7) ?_
  refine gz_done ?_
  refine ge_then ?_
  refine gc_fr [(2, Vm7)] (by kernel_rfl) ?_
  refine gc_ret ?_
  refine ge_ret (Vm7) (rs1 2 (by kernel_rfl) (by kernel_rfl)) ?_
  exact ⟨_, rfl, by simpa [thr, pnx, enc1] using m7, BB⟩
set_option maxHeartbeats 2000000 in
set_option maxRecDepth 100000 in
theorem rPutNumber {w : World} {x0 : Int}  :
    Calls Tryz.prog 57 #[.int .u64 x0] w fun e w' => ∃ v, e = .returned v ∧ MineB w' w.heap.size v (thr (pnx (fun o => ([x0] : List Int).getD o 0)) [(0, 0)] []) ∧ Below w.heap.size w w' := by
  have BB := Below.refl w.heap.size w
  refine gc_enter (n := 6) Tryz.func57 rfl (by kernel_rfl) (by kernel_rfl) ?_
  refine gc_seq ?_
  refine gc_reg ?_
  refine t 2 (.slice none 0 0) ?_
  refine gl_nil ?_
  refine ge_then ?_
  refine gc_seq ?_
  refine gc_reg ?_
  refine t 3 (.int .u64 x0) ?_
  refine ta 4 [.int .u64 x0] 22 (sg 1) ?_
  intro v1 g2 Xg2 hg2 B
  replace BB := joinB BB B
  clear B
  refine tc 5 38 #[.slice none 0 0, sg 1 g2] (ru8 (xs := [x0]) (mine0 _) BB.size Xg2 (Nat.le_trans len_0 (Nat.le_of_ble_eq_true rfl)) (Nat.le_of_ble_eq_true rfl)) ?_
  rintro _ v4 ⟨Vm3, rfl, m3, Y⟩
  refine ⟨_, rfl, ?_⟩
  replace BB := Byt.below Y BB (Nat.le_refl _) (Nat.le_refl _)
  replace Xg2 := Blk.byt Xg2 Y (by decide)
  clear Y
  have bm3 := len_app len_0 (len_u8 [x0])
  refine t 2 (Vm3) ?_
  refine gl_nil ?_
  refine ge_then ?_
  refine gc_ret ?_
  refine ge_ret (Vm3) (rs1 2 (by kernel_rfl) (by kernel_rfl)) ?_
  exact ⟨_, rfl, by simpa [thr, pnx, enc1] using m3, BB⟩
end Rc
end Go.Proofs.YtidnifmehnjipaaGreat
