/- Several texts, joined: BkR, BkS. -/
import Derived.Test.YtagnmdejdeeenaaGreatJao
import Derived.Test.YtagnmdejdeeenaaGreatJap
import Derived.Test.YtagnmdejdeeenaaGreatJag
namespace Go.Proofs.YtagnmdejdeeenaaGreat
namespace Bk
open Go.RowKit Go.Lib Pg Lim Gl Kv
theorem RS.min {w : World} {z X : Nat → Prop} {q n : Nat} {E : Ents} (h : RS w z X q E [] n) : ∃ X', RS w z X' q E [] n ∧ (∀ b, X' b → X b) ∧ ∀ b, X' b → ∃ cs t, Blk w b cs t ∧ t ≠ 5 := by
  obtain ⟨lv, wv, hb, hl, hw⟩ := h.ex
  refine ⟨fun b => X b ∧ ∃ cs t, Blk w b cs t ∧ t ≠ 5, ⟨⟨lv, wv, hb, ⟨hl.ex, fun b m c e => ⟨hl.blk b m c e, ?_⟩⟩, ⟨hw.ex.imp id ?_⟩⟩, ⟨h.xq, _, _, hb, by decide⟩, fun b hx => h.xz b hx.1, h.rise, h.small⟩, fun _ h => h.1, fun _ h => h.2⟩
  · obtain ⟨es, P, _⟩ := hl.ex
    rcases P.ex with ⟨e', _⟩ | ⟨b', c', e', _, hR⟩
    · rw [e'] at e; cases e
    · rw [e'] at e
      cases e
      obtain ⟨cs, k⟩ := hR.kind
      exact ⟨cs, _, k, by decide⟩
  · rintro ⟨b, c, vs, e, hx, hR, hv⟩
    obtain ⟨cs, k⟩ := hR.kind
    exact ⟨b, c, vs, e, ⟨hx, cs, _, k, by decide⟩, hR, fun i v F h1 h2 => by simp at h2⟩
/-- the document's store, its blocks and bytes from B on -/
structure Rx (B : Nat) (w : World) (X : Nat → Prop) (q : Nat) (E : Ents) (n : Nat) : Prop where
  rs : RS w (B ≤ ·) X q E [] n
  kind : ∀ b, X b → ∃ cs t, Blk w b cs t ∧ t ≠ 5
  lo : B ≤ w.heap.size
structure RxE (B : Nat) (w : World) (X : Nat → Prop) (q : Nat) (E : Ents) (n : Nat) (r : Value) (e : Ending) (w' : World) : Prop where
  ret : e = .returned r
  ex : ∃ X', Rx B w' X' q E n ∧ (∀ b, X' b → X b ∨ w.heap.size ≤ b) ∧ Chg X w w'
structure RxF (B : Nat) (w : World) (X : Nat → Prop) (q : Nat) (E : Ents) (n m : Nat) (r : Value) (e : Ending) (w' : World) : Prop where
  ret : e = .returned r
  ex : ∃ X' n', Rx B w' X' q E n' ∧ n' ≤ n + m ∧ (∀ b, X' b → X b ∨ w.heap.size ≤ b) ∧ Chg X w w'
structure Ar (B : Nat) (w0 : World) (X0 : Nat → Prop) (w : World) (X : Nat → Prop) (q : Nat) (E : Ents) (n : Nat) : Prop where
  rx : Rx B w X q E n
  xm : ∀ b, X b → X0 b ∨ w0.heap.size ≤ b
  cc : Chg X0 w0 w
section
variable {B : Nat} {w0 w w' : World} {X0 X X' : Nat → Prop} {q : Nat} {E E' : Ents} {n n' : Nat}
theorem Rx.at (h : Rx B w X q E n) : Ar B w X w X q E n := ⟨h, fun _ h => .inl h, Chg.refl _ _⟩
theorem Rx.lt (h : Rx B w X q E n) {b : Nat} (hb : X b) : b < w.heap.size := (h.rs.xz b hb).2
theorem Rx.keep (h : Rx B w X q E n) (b : Below w.heap.size w w') : Rx B w' X q E n := ⟨h.rs.keep b, fun x hx => by obtain ⟨cs, t, k, ht⟩ := h.kind x hx; exact ⟨cs, t, k.keep b, ht⟩, Nat.le_trans h.lo b.size⟩
theorem Rx.off {Y : Nat → Prop} (h : Rx B w X q E n) (C : Chg Y w w') (h1 : ∀ b, Y b → ¬ X b) (h2 : ∀ b, Y b → ∀ cs, ¬ Blk w b cs 5) : Rx B w' X q E n :=
  ⟨h.rs.chg C h1 h2, fun x hx => by obtain ⟨cs, t, k, ht⟩ := h.kind x hx; exact ⟨cs, t, k.chg C (fun hy => h1 x hy hx), ht⟩, Nat.le_trans h.lo C.size⟩
theorem Ar.keep (h : Ar B w0 X0 w X q E n) (b : Below w.heap.size w w') : Ar B w0 X0 w' X q E n := ⟨h.rx.keep b, h.xm, h.cc.trans (Chg.of (F := fun _ => False) b) (fun _ _ h => h.elim)⟩
theorem Ar.drew (h : Ar B w0 X0 w X q E n) : Ar B w0 X0 w.drew X q E n := h.keep (Below.refl _ _).drew
theorem Ar.size (h : Ar B w0 X0 w X q E n) : w0.heap.size ≤ w.heap.size := h.cc.size
theorem Ar.cell {x : Nat} {cs : List Value} {t : TypeId} (h : Ar B w0 X0 w X q E n) (Y : Blk w x cs t) (C : Chg (· = x) w w') (hx : w0.heap.size ≤ x) (hk : ¬ X x) (ht : t ≠ 5) : Ar B w0 X0 w' X q E n :=
  ⟨h.rx.off C (fun b e hb => hk ((show b = x from e) ▸ hb)) (fun b e cs' k => by have e' : b = x := e; subst e'; exact ht (Y.eq k).2), h.xm, h.cc.trans C (fun b hb e => by have e' : b = x := e; omega)⟩
theorem Ar.op (h : Ar B w0 X0 w X q E n) (hs : Rx B w' X' q E' n') (hK : ∀ b, X' b → X b ∨ w.heap.size ≤ b) (hc : Chg X w w') : Ar B w0 X0 w' X' q E' n' :=
  ⟨hs, fun b hb => (hK b hb).elim (h.xm b) (fun h2 => .inr (Nat.le_trans h.cc.size h2)), h.cc.trans hc (fun b hb hk => (h.xm b hk).elim id (fun h2 => by omega))⟩
theorem Ar.new {x : Nat} (h : Ar B w0 X0 w X q E n) (hx : w.heap.size ≤ x) : ¬ X x := fun hk => by have := h.rx.lt hk; omega
theorem Ar.byu {v : Value} {l : List Int} (h : Ar B w0 X0 w X q E n) (hv : ByU w v l) (C : Chg X w w') : ByU w' v l := hv.chg C h.rx.kind
theorem Rx.made (h : Rx B w X q E n) (r : RS w' (B ≤ ·) X' q E' [] n') (hX : ∀ b, X' b → X b ∨ w.heap.size ≤ b) (hs : w.heap.size ≤ w'.heap.size) : ∃ Y, Rx B w' Y q E' n' ∧ (∀ b, Y b → X b ∨ w.heap.size ≤ b) := by
  obtain ⟨Y, r', hY, hk⟩ := RS.min r
  exact ⟨Y, ⟨r', hk, Nat.le_trans h.lo hs⟩, fun b hb => hX b (hY b hb)⟩
theorem Rx.bq {v : Value} {l : List Int} (h : Rx B w X q E n) (hv : ByU w v l) : BK w (· = q) v l := fun _ hc => (hv.chg hc (fun b e => by
  have e' : b = q := e
  subst e'
  exact h.kind _ h.rs.xq)).byt
theorem Rx.bs {v : Value} {l : List Int} (h : Rx B w X q E n) (hv : ByU w v l) (x : Value) : By (w.setCell ⟨q, 2, none⟩ x) v l := h.bq hv _ ((Chg.refl (fun y => y = q) w).cell (.inl rfl) _)
theorem rxset {kv vv : Value} {k v : List Int} (h : Rx B w X q E n) (hk : ByU w kv k) (hv : ByU w vv v) (hn : n ≤ 4000000000000000000) (hm : E.length ≤ 1000000) (h0 : setE k v = 0) :
    Calls Tryz.prog 20 #[pg q, kv, vv] w (RxE B w X q (put E k v) (n + 1) (.int .i64 0)) := by
  refine (rset h.rs (fun b hb => Nat.le_trans h.lo hb) hk.byt hv.byt (h.bs hk _) (h.bs hv _) hn hm).mono ?_
  rw [h0, if_pos rfl]
  rintro e w' ⟨rfl, X', R, hX, _, C⟩
  obtain ⟨Y, S, hY⟩ := h.made R hX C.size
  exact ⟨rfl, Y, S, hY, C.mono (fun b _ hb => hb.1)⟩
theorem rxdel {kv : Value} {k : List Int} (h : Rx B w X q E n) (hk : ByU w kv k) (hkl : k.length ≤ 1000000000) (hn : n ≤ 4000000000000000000) (hm : E.length ≤ 1000000) :
    Calls Tryz.prog 56 #[pg q, kv] w (RxE B w X q (rem E k) (n + 1) (.bool (Kv.look E k).isSome)) := by
  refine (rdel h.rs (fun b hb => Nat.le_trans h.lo hb) hk.byt (h.bs hk _) hkl hn hm).mono ?_
  rintro e w' ⟨rfl, X', R, hX, _, C⟩
  obtain ⟨Y, S, hY⟩ := h.made R hX C.size
  exact ⟨rfl, Y, S, hY, C.mono (fun b _ hb => hb.1)⟩
structure RGetE (B : Nat) (w : World) (X : Nat → Prop) (q : Nat) (E : Ents) (n : Nat) (k : List Int) (b : Bool) (e : Ending) (w' : World) : Prop where
  ex : ∃ v, e = .returned (.tuple #[v, .bool b]) ∧ ByU w' v ((Kv.look E k).getD []) ∧ ∃ X', Rx B w' X' q E n ∧ (∀ b, X' b → X b ∨ w.heap.size ≤ b) ∧ Chg X w w'
theorem rxget {kv : Value} {k : List Int} {b : Bool} (h : Rx B w X q E n) (hk : ByU w kv k) (hkl : k.length ≤ 1000000000) (hn : n ≤ 4000000000000000000) (hm : E.length ≤ 1000000) (hb : (Kv.look E k).isSome = b) :
    Calls Tryz.prog 54 #[pg q, kv] w (RGetE B w X q E (n + 1) k b) := by
  subst hb
  refine (rget h.rs hk.byt hkl (h.bs hk _) hn hm).mono ?_
  rintro e w' ⟨v, rfl, O, R, C⟩
  obtain ⟨Y, S, hY⟩ := h.made R (fun _ h => .inl h) C.size
  exact ⟨v, rfl, ByU.of O, Y, S, hY, C.mono (fun b _ e => by have e' : b = q := e; subst e'; exact h.rs.xq)⟩
end
theorem rkey_any {w : World} {id : Int} (hid : 0 ≤ id ∧ id < 18446744073709551616) : Calls Tryz.prog 50 #[.agg #[.int .i64 4, .int .u64 id, .int .u64 0]] w fun e w' => ∃ v r, e = .returned (.tuple #[v, .int .i64 r]) ∧ ByU w' v (ak id) ∧ Below w.heap.size w w' := by
  refine (Ky.rmake_any (k := 4) (b := 0) hid.1 hid.2).mono ?_
  rintro e w' ⟨v, rfl, O, b⟩
  rw [ake id] at O
  exact ⟨v, _, rfl, ByU.of O, b⟩
theorem racct_any {w : World} {v : Value} {l : List Int} (h : ByU w v l) : Calls Tryz.prog 55 #[v] w fun e w' => e = .returned (.tuple #[.agg #[.int .u64 (coinB l), .int .u64 (seqB l)], .int .i64 (Rc.outR (Rc.stAccount l))]) ∧ Below w.heap.size w w' := by
  obtain ⟨b, ao, c, rfl, h2⟩ := bya h.byt
  exact Rc.rAccount h2
theorem mineU {w : World} {B : Nat} {v : Value} {l : List Int} (h : MineB w B v l) (ho : Oct l) : ByU w v l := by
  obtain ⟨_, h2⟩ := h
  rcases h2 with ⟨rfl, h0⟩ | ⟨g, cap, cur, rfl, hB, hh, hle, hmx, hsz, htk⟩
  · have e := List.eq_nil_of_length_eq_zero h0
    subst e
    exact ⟨⟨none, 0, rfl, Nat.le_refl _, by decide, fun _ => rfl, ho, .inl rfl⟩, fun b o n c e => by cases e⟩
  · refine ⟨⟨_, cap, rfl, hle, hmx, fun e => by (cases e), ho, .inr ⟨g, 0, rfl, lt_of_block hh, fun i x hi => ?_⟩⟩, fun b o n c e => by cases e; exact ⟨_, _, hh⟩⟩
    have h3 : (cur.toList.take (l.length * 1))[i]? = some (.int .u8 x) := by
      rw [htk, List.getElem?_map, hi]
      rfl
    rw [List.getElem?_take] at h3
    split at h3
    · rw [Nat.zero_add]
      simp only [World.cell?, hh]
      rw [← Array.getElem?_toList]
      simpa using h3
    · cases h3
theorem rem_len (E : Ents) (k : List Int) : (rem E k).length ≤ E.length := List.length_filter_le _ _
theorem put_len (E : Ents) (k v : List Int) : (put E k v).length ≤ E.length + 1 := by
  have key : ∀ F : Ents, (F.filter (fun x => decide (Lt x.1 k))).length + (F.filter (fun x => decide (Lt k x.1))).length ≤ F.length := by
    intro F
    induction F with
    | nil => simp
    | cons x F ih =>
      by_cases a : Lt x.1 k
      · rw [List.filter_cons_of_pos (by simpa using a), List.filter_cons_of_neg (by simpa using a.not)]
        simp only [List.length_cons]
        omega
      · rw [List.filter_cons_of_neg (by simpa using a)]
        have := List.length_filter_le (fun x : KV => decide (Lt k x.1)) [x]
        by_cases b : Lt k x.1
        · rw [List.filter_cons_of_pos (by simpa using b)]
          simp only [List.length_cons]
          omega
        · rw [List.filter_cons_of_neg (by simpa using b)]
          simp only [List.length_cons]
          omega
  unfold put
  rw [List.length_append, List.length_cons]
  exact (by omega : ∀ a b c : Nat, a + b ≤ c → a + (b + 1) ≤ c + 1) _ _ _ (key E)
theorem lay_ok {E : Ents} {id x y : Int} (o : Ok E) (_hid : U64 id) (hx : U64 x) (hy : U64 y) : Ok (layE E id x y) := by
  refine ⟨rise_lay o.rise _ _ _, o.all.lay _ _ _, fun j => ?_, fun j => ?_⟩
  · unfold coin
    rw [lay_look o.rise]
    split
    · unfold ent
      split
      · rw [show (none : Option (List Int)).getD [] = [] from rfl, coinB_nil]; exact ⟨by decide, by decide⟩
      · rw [show (some (pv x y)).getD [] = pv x y from rfl, (pv_back hx hy).1]; exact hx
    · exact o.cr j
  · unfold seqn
    rw [lay_look o.rise]
    split
    · unfold ent
      split
      · rw [show (none : Option (List Int)).getD [] = [] from rfl, seqB_nil]; exact ⟨by decide, by decide⟩
      · rw [show (some (pv x y)).getD [] = pv x y from rfl, (pv_back hx hy).2]; exact hy
    · exact o.sr j
theorem rput_acct {w : World} {x y : Int} : Calls Tryz.prog 57 #[.agg #[.int .u64 x, .int .u64 y]] w fun e w' => ∃ v, e = .returned v ∧ ByU w' v (pv x y) ∧ Below w.heap.size w w' := by
  refine Rc.rPutAccount.mono ?_
  rintro e w' ⟨v, rfl, M, B⟩
  exact ⟨v, rfl, mineU M (pv_oct x y), B⟩
end Bk
end Go.Proofs.YtagnmdejdeeenaaGreat

namespace Go.Proofs.YtagnmdejdeeenaaGreat
namespace Bk
open Go.RowKit Go.Lib Pg Lim Gl Kv
attribute [local go_sem] Oper.semAt_some
set_option maxRecDepth 100000
set_option linter.unusedSimpArgs false
set_option linter.unusedVariables false
set_option maxHeartbeats 2000000
theorem key9 {w : World} {id : Int} (hid : 0 ≤ id ∧ id < 18446744073709551616) : Calls Tryz.prog 21 #[.int .i64 4, .int .u64 id, .int .u64 0] w fun e w' => ∃ v, e = .returned v ∧ ByU w' v (ak id) ∧ Below w.heap.size w w' := by
  have BB := Below.refl w.heap.size w
  refine gc_enter (n := 18) Tryz.func21 rfl (by kernel_rfl) (by kernel_rfl) ?_
  refine gc_seq ?_
  refine gc_reg ?_
  refine t 6 (.slice none 0 0) ?_
  refine gl_nil ?_
  refine ge_then ?_
  refine gc_seq ?_
  refine gc_reg ?_
  refine t 10 (.int .i64 4) ?_
  refine t 11 (.int .u64 id) ?_
  refine t 12 (.int .u64 0) ?_
  refine t 13 (.agg #[.int .i64 4, .int .u64 id, .int .u64 0]) ?_
  refine tc 14 50 #[.agg #[.int .i64 4, .int .u64 id, .int .u64 0]] (rkey_any hid) ?_
  rintro _ v1 ⟨v0, r0, rfl, U0, B⟩
  refine ⟨_, rfl, ?_⟩
  replace BB := joinB BB B
  clear B
  refine t 9 (.tuple #[v0, .int .i64 r0]) ?_
  refine t 15 (v0) ?_
  refine t 16 (.int .i64 r0) ?_
  refine t 7 (v0) ?_
  refine t 8 (.int .i64 r0) ?_
  refine gl_nil ?_
  refine ge_then ?_
  refine gc_fr [(6, .slice none 0 0), (7, v0)] (by kernel_rfl) ?_
  refine gc_seq ?_
  refine gc_reg ?_
  refine t 17 (v0) ?_
  refine t 6 (v0) ?_
  refine gl_nil ?_
  refine ge_then ?_
  refine gc_ret ?_
  refine ge_ret (v0) (rs1 6 (by kernel_rfl) (by kernel_rfl)) ?_
  exact ⟨_, rfl, U0, BB⟩
theorem is9 {w : World} {id : Int} {b : Bool} (hid : 0 ≤ id ∧ id < 18446744073709551616) (hb : decide (isA id) = b) : Calls Tryz.prog 26 #[.int .u64 id] w fun e w' => e = .returned (.bool b) ∧ Below w.heap.size w w' := by
  have BB := Below.refl w.heap.size w
  refine gc_enter (n := 13) Tryz.func26 rfl (by kernel_rfl) (by kernel_rfl) ?_
  refine gc_seq ?_
  refine gc_reg ?_
  refine t 2 (.bool false) ?_
  refine gl_nil ?_
  refine ge_then ?_
  refine gc_seq ?_
  refine gc_reg ?_
  refine t 3 (.int .u64 id) ?_
  by_cases c1 : (1 : Int) ≤ id
  · refine tq 4 (.bool (decide ((1 : Int) ≤ id))) (.bool true) (congrArg Value.bool (decide_eq_true c1)) ?_
    refine t 5 (.bool true) ?_
    refine t 6 (.int .u64 id) ?_
    by_cases c2 : (id : Int) ≤ 4
    · refine tq 7 (.bool (decide ((id : Int) ≤ 4))) (.bool true) (congrArg Value.bool (decide_eq_true c2)) ?_
      refine t 8 (.bool true) ?_
      refine t 9 (.bool true) ?_
      refine tn 10 ?_
      refine tn 11 ?_
      refine t 12 (.bool true) ?_
      refine t 2 (.bool true) ?_
      refine gl_nil ?_
      refine ge_then ?_
      refine gc_fr [(2, .bool true)] (by kernel_rfl) ?_
      refine gc_ret ?_
      refine ge_ret (.bool true) (rs1 2 (by kernel_rfl) (by kernel_rfl)) ?_
      refine ⟨?_, BB⟩
      rw [← hb]
      rw [decide_eq_true (by unfold isA; omega)]
    · refine tq 7 (.bool (decide ((id : Int) ≤ 4))) (.bool false) (congrArg Value.bool (decide_eq_false c2)) ?_
      refine t 8 (.bool false) ?_
      refine t 9 (.bool false) ?_
      refine t 10 (.int .u64 id) ?_
      by_cases c3 : (16 : Int) ≤ id
      · refine tq 11 (.bool (decide ((16 : Int) ≤ id))) (.bool true) (congrArg Value.bool (decide_eq_true c3)) ?_
        refine t 12 (.bool true) ?_
        refine t 2 (.bool true) ?_
        refine gl_nil ?_
        refine ge_then ?_
        refine gc_fr [(2, .bool true)] (by kernel_rfl) ?_
        refine gc_ret ?_
        refine ge_ret (.bool true) (rs1 2 (by kernel_rfl) (by kernel_rfl)) ?_
        refine ⟨?_, BB⟩
        rw [← hb]
        rw [decide_eq_true (by unfold isA; omega)]
      · refine tq 11 (.bool (decide ((16 : Int) ≤ id))) (.bool false) (congrArg Value.bool (decide_eq_false c3)) ?_
        refine t 12 (.bool false) ?_
        refine t 2 (.bool false) ?_
        refine gl_nil ?_
        refine ge_then ?_
        refine gc_fr [(2, .bool false)] (by kernel_rfl) ?_
        refine gc_ret ?_
        refine ge_ret (.bool false) (rs1 2 (by kernel_rfl) (by kernel_rfl)) ?_
        refine ⟨?_, BB⟩
        rw [← hb]
        rw [decide_eq_false (by unfold isA; omega)]
  · refine tq 4 (.bool (decide ((1 : Int) ≤ id))) (.bool false) (congrArg Value.bool (decide_eq_false c1)) ?_
    refine t 5 (.bool false) ?_
    refine tn 6 ?_
    refine tn 7 ?_
    refine t 8 (.bool false) ?_
    refine t 9 (.bool false) ?_
    refine t 10 (.int .u64 id) ?_
    by_cases c4 : (16 : Int) ≤ id
    · refine tq 11 (.bool (decide ((16 : Int) ≤ id))) (.bool true) (congrArg Value.bool (decide_eq_true c4)) ?_
      refine t 12 (.bool true) ?_
      refine t 2 (.bool true) ?_
      refine gl_nil ?_
      refine ge_then ?_
      refine gc_fr [(2, .bool true)] (by kernel_rfl) ?_
      refine gc_ret ?_
      refine ge_ret (.bool true) (rs1 2 (by kernel_rfl) (by kernel_rfl)) ?_
      refine ⟨?_, BB⟩
      rw [← hb]
      rw [decide_eq_true (by unfold isA; omega)]
    · refine tq 11 (.bool (decide ((16 : Int) ≤ id))) (.bool false) (congrArg Value.bool (decide_eq_false c4)) ?_
      refine t 12 (.bool false) ?_
      refine t 2 (.bool false) ?_
      refine gl_nil ?_
      refine ge_then ?_
      refine gc_fr [(2, .bool false)] (by kernel_rfl) ?_
      refine gc_ret ?_
      refine ge_ret (.bool false) (rs1 2 (by kernel_rfl) (by kernel_rfl)) ?_
      refine ⟨?_, BB⟩
      rw [← hb]
      rw [decide_eq_false (by unfold isA; omega)]
theorem over9 {w : World} {x k : Int} {b : Bool} (hx : 0 ≤ x ∧ x < 18446744073709551616) (hk : 0 ≤ k ∧ k < 18446744073709551616) (hb : decide (holdsP x k) = !b) : Calls Tryz.prog 28 #[.int .u64 x, .int .u64 k] w fun e w' => e = .returned (.bool b) ∧ Below w.heap.size w w' := by
  have BB := Below.refl w.heap.size w
  refine gc_enter (n := 13) Tryz.func28 rfl (by kernel_rfl) (by kernel_rfl) ?_
  refine gc_seq ?_
  refine gc_reg ?_
  refine t 4 (.bool false) ?_
  refine gl_nil ?_
  refine ge_then ?_
  refine gc_seq ?_
  refine gc_reg ?_
  refine t 5 (.int .u64 k) ?_
  by_cases c1 : (1000000000000000000 : Int) < k
  · refine tq 6 (.bool (decide ((1000000000000000000 : Int) < k))) (.bool true) (congrArg Value.bool (decide_eq_true c1)) ?_
    refine t 7 (.bool true) ?_
    refine tn 8 ?_
    refine tn 9 ?_
    refine tn 10 ?_
    refine tn 11 ?_
    refine t 12 (.bool true) ?_
    refine t 4 (.bool true) ?_
    refine gl_nil ?_
    refine ge_then ?_
    refine gc_fr [(4, .bool true)] (by kernel_rfl) ?_
    refine gc_ret ?_
    refine ge_ret (.bool true) (rs1 4 (by kernel_rfl) (by kernel_rfl)) ?_
    refine ⟨?_, BB⟩
    have e : b = true := by cases b <;> first | rfl | (exfalso; first | (have q := of_decide_eq_true hb; unfold holdsP at q; omega) | (have q := of_decide_eq_false hb; unfold holdsP at q; omega))
    rw [e]
  · refine tq 6 (.bool (decide ((1000000000000000000 : Int) < k))) (.bool false) (congrArg Value.bool (decide_eq_false c1)) ?_
    refine t 7 (.bool false) ?_
    refine t 8 (.int .u64 x) ?_
    refine t 9 (.int .u64 k) ?_
    refine tq 10 (.int .u64 (IntKind.u64.wrap (1000000000000000000 - k))) (.int .u64 (1000000000000000000 - k)) (wu (by omega)) ?_
    by_cases c2 : (1000000000000000000 - k : Int) < x
    · refine tq 11 (.bool (decide ((1000000000000000000 - k : Int) < x))) (.bool true) (congrArg Value.bool (decide_eq_true c2)) ?_
      refine t 12 (.bool true) ?_
      refine t 4 (.bool true) ?_
      refine gl_nil ?_
      refine ge_then ?_
      refine gc_fr [(4, .bool true)] (by kernel_rfl) ?_
      refine gc_ret ?_
      refine ge_ret (.bool true) (rs1 4 (by kernel_rfl) (by kernel_rfl)) ?_
      refine ⟨?_, BB⟩
      have e : b = true := by cases b <;> first | rfl | (exfalso; first | (have q := of_decide_eq_true hb; unfold holdsP at q; omega) | (have q := of_decide_eq_false hb; unfold holdsP at q; omega))
      rw [e]
    · refine tq 11 (.bool (decide ((1000000000000000000 - k : Int) < x))) (.bool false) (congrArg Value.bool (decide_eq_false c2)) ?_
      refine t 12 (.bool false) ?_
      refine t 4 (.bool false) ?_
      refine gl_nil ?_
      refine ge_then ?_
      refine gc_fr [(4, .bool false)] (by kernel_rfl) ?_
      refine gc_ret ?_
      refine ge_ret (.bool false) (rs1 4 (by kernel_rfl) (by kernel_rfl)) ?_
      refine ⟨?_, BB⟩
      have e : b = false := by cases b <;> first | rfl | (exfalso; first | (have q := of_decide_eq_true hb; unfold holdsP at q; omega) | (have q := of_decide_eq_false hb; unfold holdsP at q; omega))
      rw [e]
theorem get9 {B : Nat} {w : World} {X : Nat → Prop} {q : Nat} {E : Ents} {n : Nat} {id : Int} (h : Rx B w X q E n) (hid : 0 ≤ id ∧ id < 18446744073709551616) (hn : n + 2 ≤ 4000000000000000000) (hm : E.length + 1 ≤ 1000000) : Calls Tryz.prog 27 #[pg q, .int .u64 id] w (RxE B w X q E (n + 1) (.agg #[.int .u64 (coin E id), .int .u64 (seqn E id)])) := by
  have A := h.at
  refine gc_enter (n := 25) Tryz.func27 rfl (by kernel_rfl) (by kernel_rfl) ?_
  refine gc_seq ?_
  refine gc_reg ?_
  refine ta 4 [.int .u64 0, .int .u64 0] 52 (pg) ?_
  intro v1 g2 Xg2 hg2 B
  have zg2 := Nat.le_trans A.size hg2
  have nXg2 := A.new hg2
  replace A := A.keep B
  clear B
  refine gl_nil ?_
  refine ge_then ?_
  refine gc_seq ?_
  refine gc_reg ?_
  refine t 10 (pg q) ?_
  refine t 11 (.int .u64 id) ?_
  refine tc 12 21 #[.int .i64 4, .int .u64 id, .int .u64 0] (key9 hid) ?_
  rintro _ v5 ⟨kv4, rfl, U3, B⟩
  refine ⟨_, rfl, ?_⟩
  replace A := A.keep B
  replace Xg2 := Xg2.keep B
  clear B
  by_cases c9 : (Kv.look E (ak id)).isSome = true
  · refine tc 13 54 #[pg q, kv4] (rxget A.rx U3 (by have := ak_len id; omega) (by omega) (by omega) c9) ?_
    rintro _ v13 ⟨gv10, rfl, U11, K12, S, hK, hC⟩
    refine ⟨_, rfl, ?_⟩
    have mXg2 := not_op Xg2 nXg2 hK
    replace Xg2 := Xg2.chg hC nXg2
    replace nXg2 := mXg2
    clear mXg2
    replace U3 := A.byu U3 hC
    replace A := A.op S hK hC
    clear S hK hC
    clear U3
    refine t 9 (.tuple #[gv10, .bool true]) ?_
    refine t 14 (gv10) ?_
    refine t 15 (.bool true) ?_
    refine t 5 (gv10) ?_
    refine t 6 (.bool true) ?_
    refine gl_nil ?_
    refine ge_then ?_
    refine gc_fr [(4, pg g2), (5, gv10), (6, .bool true)] (by kernel_rfl) ?_
    refine gc_seq ?_
    refine gc_seq ?_
    refine gc_reg ?_
    refine t 16 (.bool true) ?_
    refine t 17 (.bool false) ?_
    refine gl_nil ?_
    refine ge_then ?_
    refine gc_no ?_
    refine gc_skip ?_
    refine ge_then ?_
    refine gc_seq ?_
    refine gc_reg ?_
    refine t 20 (gv10) ?_
    refine tc 21 55 #[gv10] (racct_any U11) ?_
    rintro _ v14 ⟨rfl, B⟩
    refine ⟨_, rfl, ?_⟩
    replace A := A.keep B
    replace Xg2 := Xg2.keep B
    replace U11 := byu_keep U11 B
    clear B
    clear U11
    refine t 19 (.tuple #[.agg #[.int .u64 (coinB ((Kv.look E (ak id)).getD [])), .int .u64 (seqB ((Kv.look E (ak id)).getD []))], .int .i64 (Rc.outR (Rc.stAccount ((Kv.look E (ak id)).getD [])))]) ?_
    refine t 22 (.agg #[.int .u64 (coinB ((Kv.look E (ak id)).getD [])), .int .u64 (seqB ((Kv.look E (ak id)).getD []))]) ?_
    refine t 23 (.int .i64 (Rc.outR (Rc.stAccount ((Kv.look E (ak id)).getD [])))) ?_
    have lXg2 := Xg2.lt
    refine ta 7 [.int .u64 0, .int .u64 0] 52 (pg) ?_
    intro v15 g16 Xg16 hg16 B
    have zg16 := Nat.le_trans A.size hg16
    have nXg16 := A.new hg16
    replace A := A.keep B
    replace Xg2 := Xg2.keep B
    clear B
    refine ts Xg16 0 (.agg #[.int .u64 (coinB ((Kv.look E (ak id)).getD [])), .int .u64 (seqB ((Kv.look E (ak id)).getD []))]) [.int .u64 (coinB ((Kv.look E (ak id)).getD [])), .int .u64 (seqB ((Kv.look E (ak id)).getD []))] [.int .u64 (coinB ((Kv.look E (ak id)).getD [])), .int .u64 (seqB ((Kv.look E (ak id)).getD []))] ?_
    intro v17 Y C
    replace A := Ar.cell A Xg16 C zg16 nXg16 (by decide)
    replace Xg2 := Xg2.chg C (show g2 ≠ g16 by omega)
    clear C Xg16
    have Xg16 := Y
    clear Y
    refine t 8 (.int .i64 (Rc.outR (Rc.stAccount ((Kv.look E (ak id)).getD [])))) ?_
    refine gl_nil ?_
    refine ge_then ?_
    refine gc_seq ?_
    refine gc_reg ?_
    refine tlr 24 [.int .u64 (coinB ((Kv.look E (ak id)).getD [])), .int .u64 (seqB ((Kv.look E (ak id)).getD []))] Xg16 0 ?_
    refine ts Xg2 0 (.agg #[.int .u64 (coinB ((Kv.look E (ak id)).getD [])), .int .u64 (seqB ((Kv.look E (ak id)).getD []))]) [.int .u64 (coinB ((Kv.look E (ak id)).getD [])), .int .u64 (seqB ((Kv.look E (ak id)).getD []))] [.int .u64 (coinB ((Kv.look E (ak id)).getD [])), .int .u64 (seqB ((Kv.look E (ak id)).getD []))] ?_
    intro v18 Y C
    replace A := Ar.cell A Xg2 C zg2 nXg2 (by decide)
    replace Xg16 := Xg16.chg C (show g16 ≠ g2 by omega)
    clear C Xg2
    have Xg2 := Y
    clear Y
    refine gl_nil ?_
    refine ge_then ?_
    refine gc_ret ?_
    refine ge_ret (.agg #[.int .u64 (coinB ((Kv.look E (ak id)).getD [])), .int .u64 (seqB ((Kv.look E (ak id)).getD []))]) (rsc 4 (T := 52) (by kernel_rfl) (by kernel_rfl) (lr Xg2 0)) ?_
    exact ⟨rfl, _, A.rx, A.xm, A.cc⟩
  · refine tc 13 54 #[pg q, kv4] (rxget A.rx U3 (by have := ak_len id; omega) (by omega) (by omega) (Bool.eq_false_iff.2 c9)) ?_
    rintro _ v22 ⟨gv19, rfl, U20, K21, S, hK, hC⟩
    refine ⟨_, rfl, ?_⟩
    have mXg2 := not_op Xg2 nXg2 hK
    replace Xg2 := Xg2.chg hC nXg2
    replace nXg2 := mXg2
    clear mXg2
    replace U3 := A.byu U3 hC
    replace A := A.op S hK hC
    clear S hK hC
    clear U3
    refine t 9 (.tuple #[gv19, .bool false]) ?_
    refine t 14 (gv19) ?_
    refine t 15 (.bool false) ?_
    refine t 5 (gv19) ?_
    refine t 6 (.bool false) ?_
    refine gl_nil ?_
    refine ge_then ?_
    refine gc_fr [(4, pg g2), (5, gv19), (6, .bool false)] (by kernel_rfl) ?_
    refine gc_seq ?_
    refine gc_seq ?_
    refine gc_reg ?_
    refine t 16 (.bool false) ?_
    refine t 17 (.bool true) ?_
    refine gl_nil ?_
    refine ge_then ?_
    refine gc_yes ?_
    refine gc_seq ?_
    refine gc_reg ?_
    refine t 18 (.agg #[.int .u64 0, .int .u64 0]) ?_
    refine ts Xg2 0 (.agg #[.int .u64 0, .int .u64 0]) [.int .u64 0, .int .u64 0] [.int .u64 0, .int .u64 0] ?_
    intro v23 Y C
    replace A := Ar.cell A Xg2 C zg2 nXg2 (by decide)
    replace U20 := byu_cell U20 Xg2 C (by decide)
    clear C Xg2
    have Xg2 := Y
    clear Y
    refine gl_nil ?_
    refine ge_then ?_
    refine gc_ret ?_
    refine ge_tr ?_
    refine ge_ret (.agg #[.int .u64 0, .int .u64 0]) (rsc 4 (T := 52) (by kernel_rfl) (by kernel_rfl) (lr Xg2 0)) ?_
    have e0 : Kv.look E (ak id) = none := by cases e : Kv.look E (ak id) with
      | none => rfl
      | some z => exact absurd (by rw [e]; rfl) c9
    have e1 : coin E id = 0 := by unfold coin; rw [e0]; exact coinB_nil
    have e2 : seqn E id = 0 := by unfold seqn; rw [e0]; exact seqB_nil
    rw [e1, e2]
    exact ⟨rfl, _, A.rx, A.xm, A.cc⟩
theorem set9 {B : Nat} {w : World} {X : Nat → Prop} {q : Nat} {E : Ents} {n : Nat} {id x y : Int} (h : Rx B w X q E n) (hid : 0 ≤ id ∧ id < 18446744073709551616) (hn : n + 2 ≤ 4000000000000000000) (hm : E.length + 1 ≤ 1000000) : Calls Tryz.prog 29 #[pg q, .int .u64 id, .agg #[.int .u64 x, .int .u64 y]] w (RxE B w X q (layE E id x y) (n + 1) (.tuple #[])) := by
  have A := h.at
  refine gc_enter (n := 25) Tryz.func29 rfl (by kernel_rfl) (by kernel_rfl) ?_
  refine gc_seq ?_
  refine gc_reg ?_
  refine ta 5 [.int .u64 x, .int .u64 y] 52 (pg) ?_
  intro v1 g2 Xg2 hg2 B
  have zg2 := Nat.le_trans A.size hg2
  have nXg2 := A.new hg2
  replace A := A.keep B
  clear B
  refine gl_nil ?_
  refine ge_then ?_
  refine gc_seq ?_
  refine gc_reg ?_
  refine t 7 (.int .u64 id) ?_
  refine tc 8 21 #[.int .i64 4, .int .u64 id, .int .u64 0] (key9 hid) ?_
  rintro _ v5 ⟨kv4, rfl, U3, B⟩
  refine ⟨_, rfl, ?_⟩
  replace A := A.keep B
  replace Xg2 := Xg2.keep B
  clear B
  refine t 6 (kv4) ?_
  refine gl_nil ?_
  refine ge_then ?_
  refine gc_seq ?_
  refine gc_seq ?_
  refine gc_reg ?_
  refine t 9 (pg g2) ?_
  refine tl 10 (.int .u64 x) Xg2 0 ?_
  by_cases c6 : (x : Int) = 0
  · refine tq 11 (.bool ((x : Int) == 0)) (.bool true) (congrArg Value.bool (beq_iff_eq.2 c6)) ?_
    refine t 12 (.bool true) ?_
    refine t 13 (pq g2 1) ?_
    refine tl 14 (.int .u64 y) Xg2 1 ?_
    by_cases c7 : (y : Int) = 0
    · refine tq 15 (.bool ((y : Int) == 0)) (.bool true) (congrArg Value.bool (beq_iff_eq.2 c7)) ?_
      refine t 16 (.bool true) ?_
      refine gl_nil ?_
      refine ge_then ?_
      refine gc_fr [(0, pg q), (5, pg g2), (6, kv4), (16, .bool true)] (by kernel_rfl) ?_
      refine gc_yes ?_
      refine gc_seq ?_
      refine gc_reg ?_
      refine t 17 (pg q) ?_
      refine t 18 (kv4) ?_
      refine tc 19 56 #[pg q, kv4] (rxdel A.rx U3 (by have := ak_len id; omega) (by omega) (by omega)) ?_
      rintro _ v10 ⟨rfl, K8, S, hK, hC⟩
      refine ⟨_, rfl, ?_⟩
      have mXg2 := not_op Xg2 nXg2 hK
      replace Xg2 := Xg2.chg hC nXg2
      replace nXg2 := mXg2
      clear mXg2
      replace U3 := A.byu U3 hC
      replace A := A.op S hK hC
      clear S hK hC
      clear U3
      refine gl_nil ?_
      refine ge_then ?_
      refine gc_ret ?_
      refine ge_tr ?_
      refine ge_ret (.tuple #[]) (rs0 (by kernel_rfl)) ?_
      rw [show layE E id x y = _ from if_pos ⟨c6, c7⟩]
      exact ⟨rfl, _, A.rx, A.xm, A.cc⟩
    · refine tq 15 (.bool ((y : Int) == 0)) (.bool false) (congrArg Value.bool (beq_eq_false_iff_ne.2 c7)) ?_
      refine t 16 (.bool false) ?_
      refine gl_nil ?_
      refine ge_then ?_
      refine gc_fr [(0, pg q), (5, pg g2), (6, kv4), (16, .bool false)] (by kernel_rfl) ?_
      refine gc_no ?_
      refine gc_skip ?_
      refine ge_then ?_
      refine gc_reg ?_
      refine t 20 (pg q) ?_
      refine t 21 (kv4) ?_
      refine tlr 22 [.int .u64 x, .int .u64 y] Xg2 0 ?_
      refine tc 23 57 #[.agg #[.int .u64 x, .int .u64 y]] (rput_acct) ?_
      rintro _ v13 ⟨pv12, rfl, U11, B⟩
      refine ⟨_, rfl, ?_⟩
      replace A := A.keep B
      replace Xg2 := Xg2.keep B
      replace U3 := byu_keep U3 B
      clear B
      refine tc 24 20 #[pg q, kv4, pv12] (rxset A.rx U3 U11 (by omega) (by omega) (set_ok id x y)) ?_
      rintro _ v16 ⟨rfl, K14, S, hK, hC⟩
      refine ⟨_, rfl, ?_⟩
      have mXg2 := not_op Xg2 nXg2 hK
      replace Xg2 := Xg2.chg hC nXg2
      replace nXg2 := mXg2
      clear mXg2
      replace U3 := A.byu U3 hC
      replace U11 := A.byu U11 hC
      replace A := A.op S hK hC
      clear S hK hC
      clear U3
      clear U11
      refine gl_nil ?_
      refine ge_end (.tuple #[]) (rs0 (by kernel_rfl)) ?_
      rw [show layE E id x y = _ from if_neg (fun c => c7 c.2)]
      exact ⟨rfl, _, A.rx, A.xm, A.cc⟩
  · refine tq 11 (.bool ((x : Int) == 0)) (.bool false) (congrArg Value.bool (beq_eq_false_iff_ne.2 c6)) ?_
    refine t 12 (.bool false) ?_
    refine tn 13 ?_
    refine tn 14 ?_
    refine tn 15 ?_
    refine t 16 (.bool false) ?_
    refine gl_nil ?_
    refine ge_then ?_
    refine gc_fr [(0, pg q), (5, pg g2), (6, kv4), (16, .bool false)] (by kernel_rfl) ?_
    refine gc_no ?_
    refine gc_skip ?_
    refine ge_then ?_
    refine gc_reg ?_
    refine t 20 (pg q) ?_
    refine t 21 (kv4) ?_
    refine tlr 22 [.int .u64 x, .int .u64 y] Xg2 0 ?_
    refine tc 23 57 #[.agg #[.int .u64 x, .int .u64 y]] (rput_acct) ?_
    rintro _ v19 ⟨pv18, rfl, U17, B⟩
    refine ⟨_, rfl, ?_⟩
    replace A := A.keep B
    replace Xg2 := Xg2.keep B
    replace U3 := byu_keep U3 B
    clear B
    refine tc 24 20 #[pg q, kv4, pv18] (rxset A.rx U3 U17 (by omega) (by omega) (set_ok id x y)) ?_
    rintro _ v22 ⟨rfl, K20, S, hK, hC⟩
    refine ⟨_, rfl, ?_⟩
    have mXg2 := not_op Xg2 nXg2 hK
    replace Xg2 := Xg2.chg hC nXg2
    replace nXg2 := mXg2
    clear mXg2
    replace U3 := A.byu U3 hC
    replace U17 := A.byu U17 hC
    replace A := A.op S hK hC
    clear S hK hC
    clear U3
    clear U17
    refine gl_nil ?_
    refine ge_end (.tuple #[]) (rs0 (by kernel_rfl)) ?_
    rw [show layE E id x y = _ from if_neg (fun c => c6 c.1)]
    exact ⟨rfl, _, A.rx, A.xm, A.cc⟩
theorem mint9 {B : Nat} {w : World} {X : Nat → Prop} {q : Nat} {E : Ents} {n : Nat} {id k : Int} (h : Rx B w X q E n) (o : Can E) (hid : 0 ≤ id ∧ id < 18446744073709551616) (hk : 0 ≤ k ∧ k < 18446744073709551616) (hn : n + 20 ≤ 4000000000000000000) (hm : E.length + 10 ≤ 1000000) : Calls Tryz.prog 10 #[pg q, .int .u64 id, .int .u64 k] w (RxF B w X q (mintE E id k) n 10 (.int .i64 (mintR E id k))) := by
  have A := h.at
  refine gc_enter (n := 27) Tryz.func10 rfl (by kernel_rfl) (by kernel_rfl) ?_
  refine gc_seq ?_
  refine gc_reg ?_
  refine t 6 (.int .i64 0) ?_
  refine gl_nil ?_
  refine ge_then ?_
  refine gc_seq ?_
  refine gc_seq ?_
  refine gc_reg ?_
  refine t 8 (.int .u64 id) ?_
  by_cases c1 : isA id
  · refine tc 9 26 #[.int .u64 id] (is9 hid (decide_eq_true c1)) ?_
    rintro _ v2 ⟨rfl, B⟩
    refine ⟨_, rfl, ?_⟩
    replace A := A.keep B
    clear B
    refine t 10 (.bool false) ?_
    refine gl_nil ?_
    refine ge_then ?_
    refine gc_no ?_
    refine gc_skip ?_
    refine ge_then ?_
    refine gc_seq ?_
    refine gc_reg ?_
    refine t 11 (pg q) ?_
    refine t 12 (.int .u64 id) ?_
    refine tc 13 27 #[pg q, .int .u64 id] (get9 A.rx hid (by omega) (by omega)) ?_
    rintro _ v5 ⟨rfl, K3, S, hK, hC⟩
    refine ⟨_, rfl, ?_⟩
    replace A := A.op S hK hC
    clear S hK hC
    refine ta 7 [.int .u64 0, .int .u64 0] 52 (pg) ?_
    intro v6 g7 Xg7 hg7 B
    have zg7 := Nat.le_trans A.size hg7
    have nXg7 := A.new hg7
    replace A := A.keep B
    clear B
    refine ts Xg7 0 (.agg #[.int .u64 (coin E id), .int .u64 (seqn E id)]) [.int .u64 (coin E id), .int .u64 (seqn E id)] [.int .u64 (coin E id), .int .u64 (seqn E id)] ?_
    intro v8 Y C
    replace A := Ar.cell A Xg7 C zg7 nXg7 (by decide)
    clear C Xg7
    have Xg7 := Y
    clear Y
    refine gl_nil ?_
    refine ge_then ?_
    refine gc_seq ?_
    refine gc_seq ?_
    refine gc_reg ?_
    refine t 14 (pg g7) ?_
    refine tl 15 (.int .u64 (coin E id)) Xg7 0 ?_
    refine t 16 (.int .u64 k) ?_
    by_cases c9 : holdsP (coin E id) k
    · refine tc 17 28 #[.int .u64 (coin E id), .int .u64 k] (over9 (b := false) (o.ok.cr _) hk (decide_eq_true c9)) ?_
      rintro _ v10 ⟨rfl, B⟩
      refine ⟨_, rfl, ?_⟩
      replace A := A.keep B
      replace Xg7 := Xg7.keep B
      clear B
      refine gl_nil ?_
      refine ge_then ?_
      refine gc_fr [(0, pg q), (1, .int .u64 id), (2, .int .u64 k), (6, .int .i64 0), (7, pg g7), (17, .bool false)] (by kernel_rfl) ?_
      refine gc_no ?_
      refine gc_skip ?_
      refine ge_then ?_
      refine gc_seq ?_
      refine gc_reg ?_
      refine t 18 (pg g7) ?_
      refine tl 19 (.int .u64 (coin E id)) Xg7 0 ?_
      refine t 20 (.int .u64 k) ?_
      refine tq 21 (.int .u64 (IntKind.u64.wrap ((coin E id) + k))) (.int .u64 ((coin E id) + k)) (wu (by have := o.ok.cr id; unfold U64 at *; have q := c9; unfold holdsP at q; omega)) ?_
      refine t 22 (pg g7) ?_
      refine ts Xg7 0 (.int .u64 ((coin E id) + k)) [.int .u64 ((coin E id) + k)] [.int .u64 ((coin E id) + k), .int .u64 (seqn E id)] ?_
      intro v11 Y C
      replace A := Ar.cell A Xg7 C zg7 nXg7 (by decide)
      clear C Xg7
      have Xg7 := Y
      clear Y
      refine gl_nil ?_
      refine ge_then ?_
      refine gc_seq ?_
      refine gc_reg ?_
      refine t 23 (pg q) ?_
      refine t 24 (.int .u64 id) ?_
      refine tlr 25 [.int .u64 ((coin E id) + k), .int .u64 (seqn E id)] Xg7 0 ?_
      refine tc 26 29 #[pg q, .int .u64 id, .agg #[.int .u64 ((coin E id) + k), .int .u64 (seqn E id)]] (set9 A.rx hid (by omega) (by omega)) ?_
      rintro _ v14 ⟨rfl, K12, S, hK, hC⟩
      refine ⟨_, rfl, ?_⟩
      have mXg7 := not_op Xg7 nXg7 hK
      replace Xg7 := Xg7.chg hC nXg7
      replace nXg7 := mXg7
      clear mXg7
      replace A := A.op S hK hC
      clear S hK hC
      refine gl_nil ?_
      refine ge_then ?_
      refine gc_seq ?_
      refine gc_reg ?_
      refine t 6 (.int .i64 0) ?_
      refine gl_nil ?_
      refine ge_then ?_
      refine gc_ret ?_
      refine ge_ret (.int .i64 0) (rs1 6 (by kernel_rfl) (by kernel_rfl)) ?_
      have e1 : mintR E id k = 0 := by first | (simp [mintR, c1, c9]; done) | (subst_vars; simp_all [mintR])
      have e2 : mintE E id k = layE E id ((coin E id) + k) (seqn E id) := by simp [mintE, e1, c1, c9]
      rw [e1, e2]
      exact ⟨rfl, _, _, A.rx, by omega, A.xm, A.cc⟩
    · refine tc 17 28 #[.int .u64 (coin E id), .int .u64 k] (over9 (b := true) (o.ok.cr _) hk (decide_eq_false c9)) ?_
      rintro _ v15 ⟨rfl, B⟩
      refine ⟨_, rfl, ?_⟩
      replace A := A.keep B
      replace Xg7 := Xg7.keep B
      clear B
      refine gl_nil ?_
      refine ge_then ?_
      refine gc_fr [(0, pg q), (1, .int .u64 id), (2, .int .u64 k), (6, .int .i64 0), (7, pg g7), (17, .bool true)] (by kernel_rfl) ?_
      refine gc_yes ?_
      refine gc_seq ?_
      refine gc_reg ?_
      refine t 6 (.int .i64 91) ?_
      refine gl_nil ?_
      refine ge_then ?_
      refine gc_ret ?_
      refine ge_tr ?_
      refine ge_ret (.int .i64 91) (rs1 6 (by kernel_rfl) (by kernel_rfl)) ?_
      have e1 : mintR E id k = 91 := by first | (simp [mintR, c1, c9]; done) | (subst_vars; simp_all [mintR])
      have e2 : mintE E id k = E := by simp [mintE, e1, c1, c9]
      rw [e1, e2]
      exact ⟨rfl, _, _, A.rx, by omega, A.xm, A.cc⟩
  · refine tc 9 26 #[.int .u64 id] (is9 hid (decide_eq_false c1)) ?_
    rintro _ v16 ⟨rfl, B⟩
    refine ⟨_, rfl, ?_⟩
    replace A := A.keep B
    clear B
    refine t 10 (.bool true) ?_
    refine gl_nil ?_
    refine ge_then ?_
    refine gc_yes ?_
    refine gc_seq ?_
    refine gc_reg ?_
    refine t 6 (.int .i64 92) ?_
    refine gl_nil ?_
    refine ge_then ?_
    refine gc_ret ?_
    refine ge_tr ?_
    refine ge_ret (.int .i64 92) (rs1 6 (by kernel_rfl) (by kernel_rfl)) ?_
    have e1 : mintR E id k = 92 := by first | (simp [mintR, c1]; done) | (subst_vars; simp_all [mintR])
    have e2 : mintE E id k = E := by simp [mintE, e1, c1]
    rw [e1, e2]
    exact ⟨rfl, _, _, A.rx, by omega, A.xm, A.cc⟩
theorem may9 {B : Nat} {w : World} {X : Nat → Prop} {q : Nat} {E : Ents} {n : Nat} {a b k : Int} (h : Rx B w X q E n) (o : Can E) (ha : 0 ≤ a ∧ a < 18446744073709551616) (hb : 0 ≤ b ∧ b < 18446744073709551616) (hk : 0 ≤ k ∧ k < 18446744073709551616) (hn : n + 20 ≤ 4000000000000000000) (hm : E.length + 10 ≤ 1000000) : Calls Tryz.prog 61 #[pg q, .int .u64 a, .int .u64 b, .int .u64 k] w (RxF B w X q E n 2 (.int .i64 (moveR E a b k))) := by
  have A := h.at
  refine gc_enter (n := 34) Tryz.func61 rfl (by kernel_rfl) (by kernel_rfl) ?_
  refine gc_seq ?_
  refine gc_reg ?_
  refine t 8 (.int .i64 0) ?_
  refine gl_nil ?_
  refine ge_then ?_
  refine gc_seq ?_
  refine gc_seq ?_
  refine gc_reg ?_
  refine t 9 (.int .u64 a) ?_
  by_cases c1 : isA a
  · refine tc 10 26 #[.int .u64 a] (is9 ha (decide_eq_true c1)) ?_
    rintro _ v2 ⟨rfl, B⟩
    refine ⟨_, rfl, ?_⟩
    replace A := A.keep B
    clear B
    refine t 11 (.bool false) ?_
    refine t 12 (.bool false) ?_
    refine t 13 (.int .u64 b) ?_
    by_cases c3 : isA b
    · refine tc 14 26 #[.int .u64 b] (is9 hb (decide_eq_true c3)) ?_
      rintro _ v4 ⟨rfl, B⟩
      refine ⟨_, rfl, ?_⟩
      replace A := A.keep B
      clear B
      refine t 15 (.bool false) ?_
      refine t 16 (.bool false) ?_
      refine gl_nil ?_
      refine ge_then ?_
      refine gc_fr [(0, pg q), (1, .int .u64 a), (2, .int .u64 b), (3, .int .u64 k), (8, .int .i64 0), (16, .bool false)] (by kernel_rfl) ?_
      refine gc_no ?_
      refine gc_skip ?_
      refine ge_then ?_
      refine gc_seq ?_
      refine gc_seq ?_
      refine gc_reg ?_
      refine t 17 (pg q) ?_
      refine t 18 (.int .u64 a) ?_
      refine tc 19 27 #[pg q, .int .u64 a] (get9 A.rx ha (by omega) (by omega)) ?_
      rintro _ v7 ⟨rfl, K5, S, hK, hC⟩
      refine ⟨_, rfl, ?_⟩
      replace A := A.op S hK hC
      clear S hK hC
      refine t 20 (.int .u64 (coin E a)) ?_
      refine t 21 (.int .u64 k) ?_
      by_cases c8 : (coin E a : Int) < k
      · refine tq 22 (.bool (decide ((coin E a : Int) < k))) (.bool true) (congrArg Value.bool (decide_eq_true c8)) ?_
        refine gl_nil ?_
        refine ge_then ?_
        refine gc_yes ?_
        refine gc_seq ?_
        refine gc_reg ?_
        refine t 8 (.int .i64 90) ?_
        refine gl_nil ?_
        refine ge_then ?_
        refine gc_ret ?_
        refine ge_tr ?_
        refine ge_ret (.int .i64 90) (rs1 8 (by kernel_rfl) (by kernel_rfl)) ?_
        have e1 : moveR E a b k = 90 := by first | (simp [moveR, c1, c3, c8]; done) | (subst_vars; simp_all [moveR])
        rw [e1]
        exact ⟨rfl, _, _, A.rx, by omega, A.xm, A.cc⟩
      · refine tq 22 (.bool (decide ((coin E a : Int) < k))) (.bool false) (congrArg Value.bool (decide_eq_false c8)) ?_
        refine gl_nil ?_
        refine ge_then ?_
        refine gc_no ?_
        refine gc_skip ?_
        refine ge_then ?_
        refine gc_seq ?_
        refine gc_seq ?_
        refine gc_reg ?_
        refine t 23 (.int .u64 a) ?_
        refine t 24 (.int .u64 b) ?_
        by_cases c9 : (a : Int) = b
        · refine tq 25 (.bool ((a : Int) != b)) (.bool false) (congrArg Value.bool (bne_eq_false_iff_eq.2 c9)) ?_
          refine t 26 (.bool false) ?_
          refine tn 27 ?_
          refine tn 28 ?_
          refine tn 29 ?_
          refine tn 30 ?_
          refine tn 31 ?_
          refine tn 32 ?_
          refine t 33 (.bool false) ?_
          refine gl_nil ?_
          refine ge_then ?_
          refine gc_fr [(8, .int .i64 0), (33, .bool false)] (by kernel_rfl) ?_
          refine gc_no ?_
          refine gc_skip ?_
          refine ge_then ?_
          refine gc_seq ?_
          refine gc_reg ?_
          refine t 8 (.int .i64 0) ?_
          refine gl_nil ?_
          refine ge_then ?_
          refine gc_ret ?_
          refine ge_ret (.int .i64 0) (rs1 8 (by kernel_rfl) (by kernel_rfl)) ?_
          have e1 : moveR E a b k = 0 := by first | (simp [moveR, c1, c3, c8, c9]; done) | (subst_vars; simp_all [moveR])
          rw [e1]
          exact ⟨rfl, _, _, A.rx, by omega, A.xm, A.cc⟩
        · refine tq 25 (.bool ((a : Int) != b)) (.bool true) (congrArg Value.bool (bne_iff_ne.2 c9)) ?_
          refine t 26 (.bool true) ?_
          refine t 27 (pg q) ?_
          refine t 28 (.int .u64 b) ?_
          refine tc 29 27 #[pg q, .int .u64 b] (get9 A.rx hb (by omega) (by omega)) ?_
          rintro _ v12 ⟨rfl, K10, S, hK, hC⟩
          refine ⟨_, rfl, ?_⟩
          replace A := A.op S hK hC
          clear S hK hC
          refine t 30 (.int .u64 (coin E b)) ?_
          refine t 31 (.int .u64 k) ?_
          by_cases c13 : holdsP (coin E b) k
          · refine tc 32 28 #[.int .u64 (coin E b), .int .u64 k] (over9 (b := false) (o.ok.cr _) hk (decide_eq_true c13)) ?_
            rintro _ v14 ⟨rfl, B⟩
            refine ⟨_, rfl, ?_⟩
            replace A := A.keep B
            clear B
            refine t 33 (.bool false) ?_
            refine gl_nil ?_
            refine ge_then ?_
            refine gc_fr [(8, .int .i64 0), (33, .bool false)] (by kernel_rfl) ?_
            refine gc_no ?_
            refine gc_skip ?_
            refine ge_then ?_
            refine gc_seq ?_
            refine gc_reg ?_
            refine t 8 (.int .i64 0) ?_
            refine gl_nil ?_
            refine ge_then ?_
            refine gc_ret ?_
            refine ge_ret (.int .i64 0) (rs1 8 (by kernel_rfl) (by kernel_rfl)) ?_
            have e1 : moveR E a b k = 0 := by first | (simp [moveR, c1, c13, c3, c8, c9]; done) | (subst_vars; simp_all [moveR])
            rw [e1]
            exact ⟨rfl, _, _, A.rx, by omega, A.xm, A.cc⟩
          · refine tc 32 28 #[.int .u64 (coin E b), .int .u64 k] (over9 (b := true) (o.ok.cr _) hk (decide_eq_false c13)) ?_
            rintro _ v15 ⟨rfl, B⟩
            refine ⟨_, rfl, ?_⟩
            replace A := A.keep B
            clear B
            refine t 33 (.bool true) ?_
            refine gl_nil ?_
            refine ge_then ?_
            refine gc_fr [(8, .int .i64 0), (33, .bool true)] (by kernel_rfl) ?_
            refine gc_yes ?_
            refine gc_seq ?_
            refine gc_reg ?_
            refine t 8 (.int .i64 91) ?_
            refine gl_nil ?_
            refine ge_then ?_
            refine gc_ret ?_
            refine ge_tr ?_
            refine ge_ret (.int .i64 91) (rs1 8 (by kernel_rfl) (by kernel_rfl)) ?_
            have e1 : moveR E a b k = 91 := by first | (simp [moveR, c1, c13, c3, c8, c9]; done) | (subst_vars; simp_all [moveR])
            rw [e1]
            exact ⟨rfl, _, _, A.rx, by omega, A.xm, A.cc⟩
    · refine tc 14 26 #[.int .u64 b] (is9 hb (decide_eq_false c3)) ?_
      rintro _ v16 ⟨rfl, B⟩
      refine ⟨_, rfl, ?_⟩
      replace A := A.keep B
      clear B
      refine t 15 (.bool true) ?_
      refine t 16 (.bool true) ?_
      refine gl_nil ?_
      refine ge_then ?_
      refine gc_fr [(0, pg q), (1, .int .u64 a), (2, .int .u64 b), (3, .int .u64 k), (8, .int .i64 0), (16, .bool true)] (by kernel_rfl) ?_
      refine gc_yes ?_
      refine gc_seq ?_
      refine gc_reg ?_
      refine t 8 (.int .i64 92) ?_
      refine gl_nil ?_
      refine ge_then ?_
      refine gc_ret ?_
      refine ge_tr ?_
      refine ge_ret (.int .i64 92) (rs1 8 (by kernel_rfl) (by kernel_rfl)) ?_
      have e1 : moveR E a b k = 92 := by first | (simp [moveR, c1, c3]; done) | (subst_vars; simp_all [moveR])
      rw [e1]
      exact ⟨rfl, _, _, A.rx, by omega, A.xm, A.cc⟩
  · refine tc 10 26 #[.int .u64 a] (is9 ha (decide_eq_false c1)) ?_
    rintro _ v17 ⟨rfl, B⟩
    refine ⟨_, rfl, ?_⟩
    replace A := A.keep B
    clear B
    refine t 11 (.bool true) ?_
    refine t 12 (.bool true) ?_
    refine tn 13 ?_
    refine tn 14 ?_
    refine tn 15 ?_
    refine t 16 (.bool true) ?_
    refine gl_nil ?_
    refine ge_then ?_
    refine gc_fr [(0, pg q), (1, .int .u64 a), (2, .int .u64 b), (3, .int .u64 k), (8, .int .i64 0), (16, .bool true)] (by kernel_rfl) ?_
    refine gc_yes ?_
    refine gc_seq ?_
    refine gc_reg ?_
    refine t 8 (.int .i64 92) ?_
    refine gl_nil ?_
    refine ge_then ?_
    refine gc_ret ?_
    refine ge_tr ?_
    refine ge_ret (.int .i64 92) (rs1 8 (by kernel_rfl) (by kernel_rfl)) ?_
    have e1 : moveR E a b k = 92 := by first | (simp [moveR, c1]; done) | (subst_vars; simp_all [moveR])
    rw [e1]
    exact ⟨rfl, _, _, A.rx, by omega, A.xm, A.cc⟩
theorem bump9 {B : Nat} {w : World} {X : Nat → Prop} {q : Nat} {E : Ents} {n : Nat} {id : Int} (h : Rx B w X q E n) (o : Can E) (hid : 0 ≤ id ∧ id < 18446744073709551616) (hn : n + 20 ≤ 4000000000000000000) (hm : E.length + 10 ≤ 1000000) : Calls Tryz.prog 36 #[pg q, .int .u64 id] w (RxF B w X q (bumpE E id) n 10 (.int .i64 (bumpR id))) := by
  have A := h.at
  refine gc_enter (n := 20) Tryz.func36 rfl (by kernel_rfl) (by kernel_rfl) ?_
  refine gc_seq ?_
  refine gc_reg ?_
  refine t 4 (.int .i64 0) ?_
  refine gl_nil ?_
  refine ge_then ?_
  refine gc_seq ?_
  refine gc_seq ?_
  refine gc_reg ?_
  refine t 6 (.int .u64 id) ?_
  by_cases c1 : isA id
  · refine tc 7 26 #[.int .u64 id] (is9 hid (decide_eq_true c1)) ?_
    rintro _ v2 ⟨rfl, B⟩
    refine ⟨_, rfl, ?_⟩
    replace A := A.keep B
    clear B
    refine t 8 (.bool false) ?_
    refine gl_nil ?_
    refine ge_then ?_
    refine gc_no ?_
    refine gc_skip ?_
    refine ge_then ?_
    refine gc_seq ?_
    refine gc_reg ?_
    refine t 9 (pg q) ?_
    refine t 10 (.int .u64 id) ?_
    refine tc 11 27 #[pg q, .int .u64 id] (get9 A.rx hid (by omega) (by omega)) ?_
    rintro _ v5 ⟨rfl, K3, S, hK, hC⟩
    refine ⟨_, rfl, ?_⟩
    replace A := A.op S hK hC
    clear S hK hC
    refine ta 5 [.int .u64 0, .int .u64 0] 52 (pg) ?_
    intro v6 g7 Xg7 hg7 B
    have zg7 := Nat.le_trans A.size hg7
    have nXg7 := A.new hg7
    replace A := A.keep B
    clear B
    refine ts Xg7 0 (.agg #[.int .u64 (coin E id), .int .u64 (seqn E id)]) [.int .u64 (coin E id), .int .u64 (seqn E id)] [.int .u64 (coin E id), .int .u64 (seqn E id)] ?_
    intro v8 Y C
    replace A := Ar.cell A Xg7 C zg7 nXg7 (by decide)
    clear C Xg7
    have Xg7 := Y
    clear Y
    refine gl_nil ?_
    refine ge_then ?_
    refine gc_seq ?_
    refine gc_reg ?_
    refine t 12 (pq g7 1) ?_
    refine tl 13 (.int .u64 (seqn E id)) Xg7 1 ?_
    refine tq 14 (.int .u64 (IntKind.u64.wrap (seqn E id + 1))) (.int .u64 ((seqn E id + 1) % 18446744073709551616)) (congrArg (Value.int .u64) (IntKind.wrap_u64 _)) ?_
    refine t 15 (pq g7 1) ?_
    refine ts Xg7 1 (.int .u64 ((seqn E id + 1) % 18446744073709551616)) [.int .u64 ((seqn E id + 1) % 18446744073709551616)] [.int .u64 (coin E id), .int .u64 ((seqn E id + 1) % 18446744073709551616)] ?_
    intro v9 Y C
    replace A := Ar.cell A Xg7 C zg7 nXg7 (by decide)
    clear C Xg7
    have Xg7 := Y
    clear Y
    refine gl_nil ?_
    refine ge_then ?_
    refine gc_fr [(0, pg q), (1, .int .u64 id), (4, .int .i64 0), (5, pg g7)] (by kernel_rfl) ?_
    refine gc_seq ?_
    refine gc_reg ?_
    refine t 16 (pg q) ?_
    refine t 17 (.int .u64 id) ?_
    refine tlr 18 [.int .u64 (coin E id), .int .u64 ((seqn E id + 1) % 18446744073709551616)] Xg7 0 ?_
    refine tc 19 29 #[pg q, .int .u64 id, .agg #[.int .u64 (coin E id), .int .u64 ((seqn E id + 1) % 18446744073709551616)]] (set9 A.rx hid (by omega) (by omega)) ?_
    rintro _ v12 ⟨rfl, K10, S, hK, hC⟩
    refine ⟨_, rfl, ?_⟩
    have mXg7 := not_op Xg7 nXg7 hK
    replace Xg7 := Xg7.chg hC nXg7
    replace nXg7 := mXg7
    clear mXg7
    replace A := A.op S hK hC
    clear S hK hC
    refine gl_nil ?_
    refine ge_then ?_
    refine gc_seq ?_
    refine gc_reg ?_
    refine t 4 (.int .i64 0) ?_
    refine gl_nil ?_
    refine ge_then ?_
    refine gc_ret ?_
    refine ge_ret (.int .i64 0) (rs1 4 (by kernel_rfl) (by kernel_rfl)) ?_
    have e1 : bumpR id = 0 := by first | (simp [bumpR, c1]; done) | (subst_vars; simp_all [bumpR])
    have e2 : bumpE E id = layE E id (coin E id) ((seqn E id + 1) % 18446744073709551616) := by simp [bumpE, c1]
    rw [e1, e2]
    exact ⟨rfl, _, _, A.rx, by omega, A.xm, A.cc⟩
  · refine tc 7 26 #[.int .u64 id] (is9 hid (decide_eq_false c1)) ?_
    rintro _ v13 ⟨rfl, B⟩
    refine ⟨_, rfl, ?_⟩
    replace A := A.keep B
    clear B
    refine t 8 (.bool true) ?_
    refine gl_nil ?_
    refine ge_then ?_
    refine gc_yes ?_
    refine gc_seq ?_
    refine gc_reg ?_
    refine t 4 (.int .i64 92) ?_
    refine gl_nil ?_
    refine ge_then ?_
    refine gc_ret ?_
    refine ge_tr ?_
    refine ge_ret (.int .i64 92) (rs1 4 (by kernel_rfl) (by kernel_rfl)) ?_
    have e1 : bumpR id = 92 := by first | (simp [bumpR, c1]; done) | (subst_vars; simp_all [bumpR])
    have e2 : bumpE E id = E := by simp [bumpE, c1]
    rw [e1, e2]
    exact ⟨rfl, _, _, A.rx, by omega, A.xm, A.cc⟩
theorem lay_len (E : Ents) (id x y : Int) : (layE E id x y).length ≤ E.length + 1 := by
  unfold layE
  split
  · exact Nat.le_trans (rem_len E _) (Nat.le_succ _)
  · exact put_len E _ _
section
variable {E : Ents} {a b k : Int}
theorem move9_rng (c : Can E) (ha : U64 a) (hb : U64 b) (hk : U64 k) (h : moveR E a b k = 0) : U64 (coin E a - k) ∧ U64 (coin (layE E a (coin E a - k) (seqn E a)) b + k) := by
  have ca := c.ok.cr a
  have cb := c.ok.cr b
  have hka : k ≤ coin E a := by
    unfold moveR at h
    split at h
    · omega
    split at h
    · omega
    omega
  have u1 : U64 (coin E a - k) := by unfold U64 at *; omega
  refine ⟨u1, ?_⟩
  rw [coin_lay c.ok.rise ha hb u1 (c.ok.sr a)]
  by_cases e : a = b
  · rw [if_pos e]; unfold U64 at *; omega
  · rw [if_neg e]
    obtain ⟨_, _, h2⟩ := move_yes h e
    unfold holdsP at h2
    unfold U64 at *; omega
theorem move9_end (c : Can E) (ha : U64 a) (hb : U64 b) (hk : U64 k) (h : moveR E a b k = 0) : layE (layE E a (coin E a - k) (seqn E a)) b (coin (layE E a (coin E a - k) (seqn E a)) b + k) (seqn (layE E a (coin E a - k) (seqn E a)) b) = moveE E a b k := by
  obtain ⟨u1, u2⟩ := move9_rng c ha hb hk h
  rw [coin_lay c.ok.rise ha hb u1 (c.ok.sr a), seqn_lay c.ok.rise ha hb u1 (c.ok.sr a)]
  by_cases e : a = b
  · subst e
    rw [if_pos rfl, if_pos rfl, move_same rfl, Int.sub_add_cancel]
    refine rise_ext (rise_lay (rise_lay c.ok.rise _ _ _) _ _ _) c.ok.rise fun j => ?_
    rw [lay_look (rise_lay c.ok.rise _ _ _), lay_look c.ok.rise]
    split
    · rename_i hj
      rw [← hj, c.one a ha]
    · rfl
  · rw [if_neg e, if_neg e, (move_yes h e).1]
theorem can_move (c : Can E) (ho : Ok (moveE E a b k)) (ha : U64 a) (hb : U64 b) (hk : U64 k) : Can (moveE E a b k) := by
  by_cases h : moveR E a b k = 0
  · by_cases e : a = b
    · rw [move_same e]; exact c
    · obtain ⟨q, h1, h2⟩ := move_yes h e
      obtain ⟨u1, _⟩ := move9_rng c ha hb hk h
      have cb := c.ok.cr b
      have cp := c.cap a ha
      unfold holdsP at h2
      have o1 : Ok (layE E a (coin E a - k) (seqn E a)) := lay_ok c.ok ha u1 (c.ok.sr a)
      have c1 := can_lay c o1 ha u1 (c.ok.sr a) (by unfold U64 at hk; omega)
      rw [q] at ho ⊢
      exact can_lay c1 ho hb (by unfold U64 at *; omega) (c.ok.sr b) (by omega)
  · rw [move_no h]; exact c
end
theorem move9 {B : Nat} {w : World} {X : Nat → Prop} {q : Nat} {E : Ents} {n : Nat} {a b k : Int} (h : Rx B w X q E n) (o : Can E) (ha : 0 ≤ a ∧ a < 18446744073709551616) (hb : 0 ≤ b ∧ b < 18446744073709551616) (hk : 0 ≤ k ∧ k < 18446744073709551616) (hn : n + 20 ≤ 4000000000000000000) (hm : E.length + 10 ≤ 1000000) : Calls Tryz.prog 35 #[pg q, .int .u64 a, .int .u64 b, .int .u64 k] w (RxF B w X q (moveE E a b k) n 10 (.int .i64 (moveR E a b k))) := by
  have A := h.at
  refine gc_enter (n := 44) Tryz.func35 rfl (by kernel_rfl) (by kernel_rfl) ?_
  refine gc_seq ?_
  refine gc_reg ?_
  refine t 8 (.int .i64 0) ?_
  refine gl_nil ?_
  refine ge_then ?_
  refine gc_seq ?_
  refine gc_reg ?_
  refine t 12 (pg q) ?_
  refine t 13 (.int .u64 a) ?_
  refine t 14 (.int .u64 b) ?_
  refine t 15 (.int .u64 k) ?_
  refine tc 16 61 #[pg q, .int .u64 a, .int .u64 b, .int .u64 k] (may9 A.rx o ha hb hk (by omega) (by omega)) ?_
  rintro _ v3 ⟨rfl, K1, n2, S, qn2, hK, hC⟩
  refine ⟨_, rfl, ?_⟩
  replace A := A.op S hK hC
  clear S hK hC
  refine t 9 (.int .i64 (moveR E a b k)) ?_
  refine gl_nil ?_
  refine ge_then ?_
  refine gc_seq ?_
  refine gc_seq ?_
  refine gc_reg ?_
  refine t 17 (.int .i64 (moveR E a b k)) ?_
  by_cases c4 : (moveR E a b k : Int) = 0
  · refine tq 18 (.bool ((moveR E a b k : Int) != 0)) (.bool false) (congrArg Value.bool (bne_eq_false_iff_eq.2 c4)) ?_
    refine gl_nil ?_
    refine ge_then ?_
    refine gc_fr [(0, pg q), (1, .int .u64 a), (2, .int .u64 b), (3, .int .u64 k), (8, .int .i64 0), (9, .int .i64 (moveR E a b k)), (18, .bool false)] (by kernel_rfl) ?_
    refine gc_no ?_
    refine gc_skip ?_
    refine ge_then ?_
    refine gc_seq ?_
    refine gc_reg ?_
    refine t 20 (pg q) ?_
    refine t 21 (.int .u64 a) ?_
    refine tc 22 27 #[pg q, .int .u64 a] (get9 A.rx ha (by omega) (by omega)) ?_
    rintro _ v7 ⟨rfl, K5, S, hK, hC⟩
    refine ⟨_, rfl, ?_⟩
    replace A := A.op S hK hC
    clear S hK hC
    refine ta 10 [.int .u64 0, .int .u64 0] 52 (pg) ?_
    intro v8 g9 Xg9 hg9 B
    have zg9 := Nat.le_trans A.size hg9
    have nXg9 := A.new hg9
    replace A := A.keep B
    clear B
    refine ts Xg9 0 (.agg #[.int .u64 (coin E a), .int .u64 (seqn E a)]) [.int .u64 (coin E a), .int .u64 (seqn E a)] [.int .u64 (coin E a), .int .u64 (seqn E a)] ?_
    intro v10 Y C
    replace A := Ar.cell A Xg9 C zg9 nXg9 (by decide)
    clear C Xg9
    have Xg9 := Y
    clear Y
    refine gl_nil ?_
    refine ge_then ?_
    refine gc_seq ?_
    refine gc_reg ?_
    refine t 23 (pg g9) ?_
    refine tl 24 (.int .u64 (coin E a)) Xg9 0 ?_
    refine t 25 (.int .u64 k) ?_
    refine tq 26 (.int .u64 (IntKind.u64.wrap ((coin E a) - k))) (.int .u64 ((coin E a) - k)) (wu (by have q := move9_rng o ha hb hk c4; unfold U64 at q; omega)) ?_
    refine t 27 (pg g9) ?_
    refine ts Xg9 0 (.int .u64 ((coin E a) - k)) [.int .u64 ((coin E a) - k)] [.int .u64 ((coin E a) - k), .int .u64 (seqn E a)] ?_
    intro v11 Y C
    replace A := Ar.cell A Xg9 C zg9 nXg9 (by decide)
    clear C Xg9
    have Xg9 := Y
    clear Y
    refine gl_nil ?_
    refine ge_then ?_
    refine gc_seq ?_
    refine gc_reg ?_
    refine t 28 (pg q) ?_
    refine t 29 (.int .u64 a) ?_
    refine tlr 30 [.int .u64 ((coin E a) - k), .int .u64 (seqn E a)] Xg9 0 ?_
    refine tc 31 29 #[pg q, .int .u64 a, .agg #[.int .u64 ((coin E a) - k), .int .u64 (seqn E a)]] (set9 A.rx ha (by omega) (by omega)) ?_
    rintro _ v14 ⟨rfl, K12, S, hK, hC⟩
    refine ⟨_, rfl, ?_⟩
    have mXg9 := not_op Xg9 nXg9 hK
    replace Xg9 := Xg9.chg hC nXg9
    replace nXg9 := mXg9
    clear mXg9
    replace A := A.op S hK hC
    clear S hK hC
    refine gl_nil ?_
    refine ge_then ?_
    refine gc_fr [(0, pg q), (2, .int .u64 b), (3, .int .u64 k), (8, .int .i64 0)] (by kernel_rfl) ?_
    refine gc_seq ?_
    refine gc_reg ?_
    refine t 32 (pg q) ?_
    refine t 33 (.int .u64 b) ?_
    refine tc 34 27 #[pg q, .int .u64 b] (get9 A.rx hb (by omega) (by have := lay_len E a (coin E a - k) (seqn E a); omega)) ?_
    rintro _ v17 ⟨rfl, K15, S, hK, hC⟩
    refine ⟨_, rfl, ?_⟩
    have mXg9 := not_op Xg9 nXg9 hK
    replace Xg9 := Xg9.chg hC nXg9
    replace nXg9 := mXg9
    clear mXg9
    replace A := A.op S hK hC
    clear S hK hC
    have lXg9 := Xg9.lt
    refine ta 11 [.int .u64 0, .int .u64 0] 52 (pg) ?_
    intro v18 g19 Xg19 hg19 B
    have zg19 := Nat.le_trans A.size hg19
    have nXg19 := A.new hg19
    replace A := A.keep B
    replace Xg9 := Xg9.keep B
    clear B
    refine ts Xg19 0 (.agg #[.int .u64 (coin (layE E a ((coin E a) - k) (seqn E a)) b), .int .u64 (seqn (layE E a ((coin E a) - k) (seqn E a)) b)]) [.int .u64 (coin (layE E a ((coin E a) - k) (seqn E a)) b), .int .u64 (seqn (layE E a ((coin E a) - k) (seqn E a)) b)] [.int .u64 (coin (layE E a ((coin E a) - k) (seqn E a)) b), .int .u64 (seqn (layE E a ((coin E a) - k) (seqn E a)) b)] ?_
    intro v20 Y C
    replace A := Ar.cell A Xg19 C zg19 nXg19 (by decide)
    replace Xg9 := Xg9.chg C (show g9 ≠ g19 by omega)
    clear C Xg19
    have Xg19 := Y
    clear Y
    refine gl_nil ?_
    refine ge_then ?_
    refine gc_seq ?_
    refine gc_reg ?_
    refine t 35 (pg g19) ?_
    refine tl 36 (.int .u64 (coin (layE E a ((coin E a) - k) (seqn E a)) b)) Xg19 0 ?_
    refine t 37 (.int .u64 k) ?_
    refine tq 38 (.int .u64 (IntKind.u64.wrap ((coin (layE E a ((coin E a) - k) (seqn E a)) b) + k))) (.int .u64 ((coin (layE E a ((coin E a) - k) (seqn E a)) b) + k)) (wu (by have q := move9_rng o ha hb hk c4; unfold U64 at q; omega)) ?_
    refine t 39 (pg g19) ?_
    refine ts Xg19 0 (.int .u64 ((coin (layE E a ((coin E a) - k) (seqn E a)) b) + k)) [.int .u64 ((coin (layE E a ((coin E a) - k) (seqn E a)) b) + k)] [.int .u64 ((coin (layE E a ((coin E a) - k) (seqn E a)) b) + k), .int .u64 (seqn (layE E a ((coin E a) - k) (seqn E a)) b)] ?_
    intro v21 Y C
    replace A := Ar.cell A Xg19 C zg19 nXg19 (by decide)
    replace Xg9 := Xg9.chg C (show g9 ≠ g19 by omega)
    clear C Xg19
    have Xg19 := Y
    clear Y
    refine gl_nil ?_
    refine ge_then ?_
    refine gc_seq ?_
    refine gc_reg ?_
    refine t 40 (pg q) ?_
    refine t 41 (.int .u64 b) ?_
    refine tlr 42 [.int .u64 ((coin (layE E a ((coin E a) - k) (seqn E a)) b) + k), .int .u64 (seqn (layE E a ((coin E a) - k) (seqn E a)) b)] Xg19 0 ?_
    refine tc 43 29 #[pg q, .int .u64 b, .agg #[.int .u64 ((coin (layE E a ((coin E a) - k) (seqn E a)) b) + k), .int .u64 (seqn (layE E a ((coin E a) - k) (seqn E a)) b)]] (set9 A.rx hb (by omega) (by have := lay_len E a (coin E a - k) (seqn E a); omega)) ?_
    rintro _ v24 ⟨rfl, K22, S, hK, hC⟩
    refine ⟨_, rfl, ?_⟩
    have mXg9 := not_op Xg9 nXg9 hK
    replace Xg9 := Xg9.chg hC nXg9
    replace nXg9 := mXg9
    clear mXg9
    have mXg19 := not_op Xg19 nXg19 hK
    replace Xg19 := Xg19.chg hC nXg19
    replace nXg19 := mXg19
    clear mXg19
    replace A := A.op S hK hC
    clear S hK hC
    refine gl_nil ?_
    refine ge_then ?_
    refine gc_fr [(8, .int .i64 0)] (by kernel_rfl) ?_
    refine gc_seq ?_
    refine gc_reg ?_
    refine t 8 (.int .i64 0) ?_
    refine gl_nil ?_
    refine ge_then ?_
    refine gc_ret ?_
    refine ge_ret (.int .i64 0) (rs1 8 (by kernel_rfl) (by kernel_rfl)) ?_
    rw [← move9_end o ha hb hk c4, c4]
    exact ⟨rfl, _, _, A.rx, by omega, A.xm, A.cc⟩
  · refine tq 18 (.bool ((moveR E a b k : Int) != 0)) (.bool true) (congrArg Value.bool (bne_iff_ne.2 c4)) ?_
    refine gl_nil ?_
    refine ge_then ?_
    refine gc_fr [(0, pg q), (1, .int .u64 a), (2, .int .u64 b), (3, .int .u64 k), (8, .int .i64 0), (9, .int .i64 (moveR E a b k)), (18, .bool true)] (by kernel_rfl) ?_
    refine gc_yes ?_
    refine gc_seq ?_
    refine gc_reg ?_
    refine t 19 (.int .i64 (moveR E a b k)) ?_
    refine t 8 (.int .i64 (moveR E a b k)) ?_
    refine gl_nil ?_
    refine ge_then ?_
    refine gc_ret ?_
    refine ge_tr ?_
    refine ge_ret (.int .i64 (moveR E a b k)) (rs1 8 (by kernel_rfl) (by kernel_rfl)) ?_
    rw [move_no c4]
    exact ⟨rfl, _, _, A.rx, by omega, A.xm, A.cc⟩
end Bk
end Go.Proofs.YtagnmdejdeeenaaGreat
