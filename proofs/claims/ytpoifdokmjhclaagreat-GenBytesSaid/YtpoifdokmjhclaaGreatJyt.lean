/- Several texts, joined: BkB. -/
import Derived.Test.YtpoifdokmjhclaaGreatJym
import Derived.Test.YtpoifdokmjhclaaGreatJys
namespace Go.Proofs.YtpoifdokmjhclaaGreat
namespace Bk
open Go.RowKit Go.Lib Pg Lim Gl Kv
attribute [local go_sem] Oper.semAt_some
set_option maxRecDepth 100000
set_option linter.unusedSimpArgs false
set_option linter.unusedVariables false
set_option maxHeartbeats 2000000
theorem ake (id : Int) : Ky.mkE 4 id 0 = false := by
  unfold Ky.mkE
  rw [show (Ky.frm 4).1 = 9 from rfl]
  simp
theorem key_any {w : World} {id : Int} (hid : 0 ≤ id ∧ id < 18446744073709551616) : Calls Tryz.prog 40 #[.int .u64 id] w fun e w' => ∃ v, e = .returned v ∧ ByU w' v (ak id) ∧ Below w.heap.size w w' := by
  have BB := Below.refl w.heap.size w
  refine gc_enter (n := 12) Tryz.func40 rfl (by kernel_rfl) (by kernel_rfl) ?_
  refine gc_seq ?_
  refine gc_reg ?_
  refine t 2 (.slice none 0 0) ?_
  refine gl_nil ?_
  refine ge_then ?_
  refine gc_seq ?_
  refine gc_reg ?_
  refine t 6 (.int .u64 id) ?_
  refine t 7 (.agg #[.int .i64 4, .int .u64 id, .int .u64 0]) ?_
  refine tc 8 72 #[.agg #[.int .i64 4, .int .u64 id, .int .u64 0]] (Ks.mk_g hid (ake id)) ?_
  rintro _ v1 ⟨kv0, rfl, U0, B⟩
  refine ⟨_, rfl, ?_⟩
  replace BB := joinB BB B
  clear B
  refine t 5 (.tuple #[kv0, .int .i64 0]) ?_
  refine t 9 (kv0) ?_
  refine t 10 (.int .i64 0) ?_
  refine t 3 (kv0) ?_
  refine t 4 (.int .i64 0) ?_
  refine gl_nil ?_
  refine ge_then ?_
  refine gc_seq ?_
  refine gc_reg ?_
  refine t 11 (kv0) ?_
  refine t 2 (kv0) ?_
  refine gl_nil ?_
  refine ge_then ?_
  refine gc_fr [(2, kv0)] (by kernel_rfl) ?_
  refine gc_ret ?_
  refine ge_ret (kv0) (rs1 2 (by kernel_rfl) (by kernel_rfl)) ?_
  exact ⟨_, rfl, ByU.of U0, BB⟩
theorem acct_any {w : World} {v : Value} {l : List Int} (h : ByU w v l) (hl : l.length ≤ 1000000000) : Calls Tryz.prog 41 #[v] w fun e w' => e = .returned (.tuple #[.agg #[.int .u64 (coinB l), .int .u64 (seqB l)], .int .i64 (Rc.outR (Rc.stAccount l))]) ∧ Below w.heap.size w w' := by
  obtain ⟨b, ao, c, rfl, h2⟩ := bya h.byt
  exact Rc.oAccount h2 hl
theorem put_acct {w : World} {x y : Int} : Calls Tryz.prog 132 #[.agg #[.int .u64 x, .int .u64 y]] w fun e w' => ∃ v, e = .returned v ∧ ByU w' v (pv x y) ∧ Below w.heap.size w w' := by
  refine Rc.PutAccount_any.mono ?_
  rintro e w' ⟨b, n, rfl, hn, X, hb, B⟩
  exact ⟨_, rfl, byu_box X (pv_oct x y) hn (Nat.le_trans (pv_len x y) (by decide)), B⟩
theorem aset {B : Nat} {w : World} {K : Nat → Prop} {g : Nat} {E : Ents} {W : List Ents} {n N : Nat} {kv vv : Value} {id x y : Int} (h : Sx B w K g E W n N) (hk : ByU w kv (ak id)) (hv : ByU w vv (pv x y)) (hn : n ≤ 4000000000000000000) (hN : N + 2 ≤ 100000000) :
    Calls Tryz.prog 86 #[pg g, kv, vv] w (SxE B w K g (put E (ak id) (pv x y)) W (n + 1) (N + 2) (.int .i64 0)) := by
  have u := xset h hk hv hn hN
  rw [set_ok, if_pos rfl] at u
  exact u
theorem Sx.getlen {B : Nat} {w : World} {K : Nat → Prop} {g : Nat} {E : Ents} {W : List Ents} {n N : Nat} (h : Sx B w K g E W n N) (k : List Int) : ((Kv.look E k).getD []).length ≤ 1000000000 := by
  cases e : Kv.look E k with
  | none => simp
  | some v => exact (h.sa.small _ (Kv.look_mem e)).2
theorem rd8_rng {l : List Int} {err : Int} (ho : Octets l) : 0 ≤ rdV 0 (pFix 8 l) err ∧ rdV 0 (pFix 8 l) err < 18446744073709551616 := by
  unfold rdV pFix
  split
  · split
    · exact ⟨Int.le_refl _, by decide⟩
    · rename_i hh
      split at hh
      · cases hh
        have := bval_bound (l := l.take 8) (fun x hx => ho x (List.mem_of_mem_take hx))
        rw [List.length_take, Nat.min_eq_left (by assumption)] at this
        exact this
      · cases hh
  · exact ⟨Int.le_refl _, by decide⟩
theorem coinB_rng {l : List Int} (ho : Oct l) : (0 ≤ coinB l ∧ coinB l < 18446744073709551616) ∧ (0 ≤ seqB l ∧ seqB l < 18446744073709551616) := by
  have h1 : Octets (rdL (pFix 8 l) 0 l) := by
    unfold rdL
    split
    · split
      · exact ho
      · exact fun x hx => ho x (List.mem_of_mem_drop hx)
    · exact ho
  have e : Rc.stAccount l = Rc.rnx 0 1 (Rc.rnx 0 0 (0, l, fun _ => 0)) := rfl
  unfold coinB seqB Rc.outX
  rw [e]
  split
  · exact ⟨rd8_rng (err := 0) ho, rd8_rng h1⟩
  · exact ⟨⟨Int.le_refl _, by decide⟩, Int.le_refl _, by decide⟩
theorem SA.octv {w : World} {K D : Nat → Prop} {g n N : Nat} {E : Ents} {W : List Ents} (h : SA w K D g E W n N) : ∀ x ∈ E, Oct x.2 := by
  obtain ⟨F, V, m, Q, jv, T, oj, hX, rfl, hB⟩ := h.open
  obtain ⟨L, rfl, A, O, S, k, r⟩ := hX.map.ex
  intro x hx
  rw [abs_flat] at hx
  obtain ⟨e, he, rfl⟩ := List.mem_map.1 hx
  obtain ⟨es, h1, h2⟩ := List.mem_flatten.1 he
  obtain ⟨p, hp, rfl⟩ := List.mem_map.1 h1
  exact ((A.pages p hp).1.ents e h2).v.oct
theorem Sx.oct {B : Nat} {w : World} {K : Nat → Prop} {g : Nat} {E : Ents} {W : List Ents} {n N : Nat} (h : Sx B w K g E W n N) (k : List Int) : Oct ((Kv.look E k).getD []) := by
  cases e : Kv.look E k with
  | none => exact fun x hx => by simp at hx
  | some v => exact SA.octv h.sa _ (Kv.look_mem e)
theorem Sx.crng {B : Nat} {w : World} {K : Nat → Prop} {g : Nat} {E : Ents} {W : List Ents} {n N : Nat} (h : Sx B w K g E W n N) (id : Int) : 0 ≤ coin E id ∧ coin E id < 18446744073709551616 := (coinB_rng (h.oct _)).1
theorem run_z {ρ : Operand → Value} {w : World} {o : Oper} {x y : Int} {b : Bool} (hb : decide (x = 0 ∧ y = 0) = b) (ho : ∃ u v, o.op = .binOp .eql 50 u v 50 ∧ ρ u = .agg #[.int .u64 x, .int .u64 y] ∧ ρ v = .agg #[.int .u64 0, .int .u64 0] := by exact ⟨_, _, rfl, by kernel_rfl, by kernel_rfl⟩) : (execOp ρ o).run Tryz.prog w = .ok (.value (.bool b)) w := by
  obtain ⟨u, v, h, h1, h2⟩ := ho
  subst hb
  simp only [execOp, h, h1, h2]
  go_simp
  repeat' split
  all_goals simp_all
theorem isAcc_any {w : World} {id : Int} {b : Bool} (hid : 0 ≤ id ∧ id < 18446744073709551616) (hb : decide (isA id) = b) : Calls Tryz.prog 90 #[.int .u64 id] w fun e w' => e = .returned (.bool b) ∧ Below w.heap.size w w' := by
  have BB := Below.refl w.heap.size w
  refine gc_enter (n := 13) Tryz.func90 rfl (by kernel_rfl) (by kernel_rfl) ?_
  refine gc_seq ?_
  refine gc_reg ?_
  refine t 2 (.bool false) ?_
  refine gl_nil ?_
  refine ge_then ?_
  refine gc_seq ?_
  refine gc_reg ?_
  refine t 3 (.int .u64 id) ?_
  by_cases c1 : (1 : Int) ≤ id
  · refine tq 4 (.bool (decide ((1 : Int) ≤ id))) (.bool true) (congrArg Value.bool (decide_eq_true c1)) ?_
    refine t 5 (.bool true) ?_
    refine t 6 (.int .u64 id) ?_
    by_cases c2 : (id : Int) ≤ 4
    · refine tq 7 (.bool (decide ((id : Int) ≤ 4))) (.bool true) (congrArg Value.bool (decide_eq_true c2)) ?_
      refine t 8 (.bool true) ?_
      refine t 9 (.bool true) ?_
      refine tn 10 ?_
      refine tn 11 ?_
      refine t 12 (.bool true) ?_
      refine t 2 (.bool true) ?_
      refine gl_nil ?_
      refine ge_then ?_
      refine gc_fr [(2, .bool true)] (by kernel_rfl) ?_
      refine gc_ret ?_
      refine ge_ret (.bool true) (rs1 2 (by kernel_rfl) (by kernel_rfl)) ?_
      refine ⟨?_, BB⟩
      rw [← hb]
      rw [decide_eq_true (by unfold isA; omega)]
    · refine tq 7 (.bool (decide ((id : Int) ≤ 4))) (.bool false) (congrArg Value.bool (decide_eq_false c2)) ?_
      refine t 8 (.bool false) ?_
      refine t 9 (.bool false) ?_
      refine t 10 (.int .u64 id) ?_
      by_cases c3 : (16 : Int) ≤ id
      · refine tq 11 (.bool (decide ((16 : Int) ≤ id))) (.bool true) (congrArg Value.bool (decide_eq_true c3)) ?_
        refine t 12 (.bool true) ?_
        refine t 2 (.bool true) ?_
        refine gl_nil ?_
        refine ge_then ?_
        refine gc_fr [(2, .bool true)] (by kernel_rfl) ?_
        refine gc_ret ?_
        refine ge_ret (.bool true) (rs1 2 (by kernel_rfl) (by kernel_rfl)) ?_
        refine ⟨?_, BB⟩
        rw [← hb]
        rw [decide_eq_true (by unfold isA; omega)]
      · refine tq 11 (.bool (decide ((16 : Int) ≤ id))) (.bool false) (congrArg Value.bool (decide_eq_false c3)) ?_
        refine t 12 (.bool false) ?_
        refine t 2 (.bool false) ?_
        refine gl_nil ?_
        refine ge_then ?_
        refine gc_fr [(2, .bool false)] (by kernel_rfl) ?_
        refine gc_ret ?_
        refine ge_ret (.bool false) (rs1 2 (by kernel_rfl) (by kernel_rfl)) ?_
        refine ⟨?_, BB⟩
        rw [← hb]
        rw [decide_eq_false (by unfold isA; omega)]
  · refine tq 4 (.bool (decide ((1 : Int) ≤ id))) (.bool false) (congrArg Value.bool (decide_eq_false c1)) ?_
    refine t 5 (.bool false) ?_
    refine tn 6 ?_
    refine tn 7 ?_
    refine t 8 (.bool false) ?_
    refine t 9 (.bool false) ?_
    refine t 10 (.int .u64 id) ?_
    by_cases c4 : (16 : Int) ≤ id
    · refine tq 11 (.bool (decide ((16 : Int) ≤ id))) (.bool true) (congrArg Value.bool (decide_eq_true c4)) ?_
      refine t 12 (.bool true) ?_
      refine t 2 (.bool true) ?_
      refine gl_nil ?_
      refine ge_then ?_
      refine gc_fr [(2, .bool true)] (by kernel_rfl) ?_
      refine gc_ret ?_
      refine ge_ret (.bool true) (rs1 2 (by kernel_rfl) (by kernel_rfl)) ?_
      refine ⟨?_, BB⟩
      rw [← hb]
      rw [decide_eq_true (by unfold isA; omega)]
    · refine tq 11 (.bool (decide ((16 : Int) ≤ id))) (.bool false) (congrArg Value.bool (decide_eq_false c4)) ?_
      refine t 12 (.bool false) ?_
      refine t 2 (.bool false) ?_
      refine gl_nil ?_
      refine ge_then ?_
      refine gc_fr [(2, .bool false)] (by kernel_rfl) ?_
      refine gc_ret ?_
      refine ge_ret (.bool false) (rs1 2 (by kernel_rfl) (by kernel_rfl)) ?_
      refine ⟨?_, BB⟩
      rw [← hb]
      rw [decide_eq_false (by unfold isA; omega)]
theorem holds_any {w : World} {x y k : Int} {b : Bool} (hx : 0 ≤ x ∧ x < 18446744073709551616) (hk : 0 ≤ k ∧ k < 18446744073709551616) (hb : decide (holdsP x k) = b) : Calls Tryz.prog 91 #[.agg #[.int .u64 x, .int .u64 y], .int .u64 k] w fun e w' => e = .returned (.bool b) ∧ Below w.heap.size w w' := by
  have BB := Below.refl w.heap.size w
  refine gc_enter (n := 15) Tryz.func91 rfl (by kernel_rfl) (by kernel_rfl) ?_
  refine gc_seq ?_
  refine gc_reg ?_
  refine ta 2 [.int .u64 x, .int .u64 y] 50 (pg) ?_
  intro v1 g2 Xg2 hg2 B
  replace BB := joinB BB B
  clear B
  refine t 4 (.bool false) ?_
  refine gl_nil ?_
  refine ge_then ?_
  refine gc_seq ?_
  refine gc_reg ?_
  refine t 5 (pg g2) ?_
  refine tl 6 (.int .u64 x) Xg2 0 ?_
  by_cases c3 : (x : Int) ≤ 1000000000000000000
  · refine tq 7 (.bool (decide ((x : Int) ≤ 1000000000000000000))) (.bool true) (congrArg Value.bool (decide_eq_true c3)) ?_
    refine t 8 (.bool true) ?_
    refine t 9 (.int .u64 k) ?_
    refine t 10 (pg g2) ?_
    refine tl 11 (.int .u64 x) Xg2 0 ?_
    refine tq 12 (.int .u64 (IntKind.u64.wrap (1000000000000000000 - x))) (.int .u64 (1000000000000000000 - x)) (wu (by omega)) ?_
    by_cases c4 : (k : Int) ≤ 1000000000000000000 - x
    · refine tq 13 (.bool (decide ((k : Int) ≤ 1000000000000000000 - x))) (.bool true) (congrArg Value.bool (decide_eq_true c4)) ?_
      refine t 14 (.bool true) ?_
      refine t 4 (.bool true) ?_
      refine gl_nil ?_
      refine ge_then ?_
      refine gc_fr [(4, .bool true)] (by kernel_rfl) ?_
      refine gc_ret ?_
      refine ge_ret (.bool true) (rs1 4 (by kernel_rfl) (by kernel_rfl)) ?_
      refine ⟨?_, BB⟩
      rw [← hb]
      rw [decide_eq_true (by unfold holdsP; omega)]
    · refine tq 13 (.bool (decide ((k : Int) ≤ 1000000000000000000 - x))) (.bool false) (congrArg Value.bool (decide_eq_false c4)) ?_
      refine t 14 (.bool false) ?_
      refine t 4 (.bool false) ?_
      refine gl_nil ?_
      refine ge_then ?_
      refine gc_fr [(4, .bool false)] (by kernel_rfl) ?_
      refine gc_ret ?_
      refine ge_ret (.bool false) (rs1 4 (by kernel_rfl) (by kernel_rfl)) ?_
      refine ⟨?_, BB⟩
      rw [← hb]
      rw [decide_eq_false (by unfold holdsP; omega)]
  · refine tq 7 (.bool (decide ((x : Int) ≤ 1000000000000000000))) (.bool false) (congrArg Value.bool (decide_eq_false c3)) ?_
    refine t 8 (.bool false) ?_
    refine tn 9 ?_
    refine tn 10 ?_
    refine tn 11 ?_
    refine tn 12 ?_
    refine tn 13 ?_
    refine t 14 (.bool false) ?_
    refine t 4 (.bool false) ?_
    refine gl_nil ?_
    refine ge_then ?_
    refine gc_fr [(4, .bool false)] (by kernel_rfl) ?_
    refine gc_ret ?_
    refine ge_ret (.bool false) (rs1 4 (by kernel_rfl) (by kernel_rfl)) ?_
    refine ⟨?_, BB⟩
    rw [← hb]
    rw [decide_eq_false (by unfold holdsP; omega)]
theorem get_any {B : Nat} {w : World} {K : Nat → Prop} {g : Nat} {E : Ents} {W : List Ents} {n N : Nat} {id : Int} (h : Sx B w K g E W n N) (hid : 0 ≤ id ∧ id < 18446744073709551616) (hn : n + 5 ≤ 4000000000000000000) (hN : N + 5 ≤ 100000000) : Calls Tryz.prog 15 #[pg g, .int .u64 id] w (SxE B w K g E W (n + 1) N (.agg #[.int .u64 (coin E id), .int .u64 (seqn E id)])) := by
  have A := h.at
  refine gc_enter (n := 22) Tryz.func15 rfl (by kernel_rfl) (by kernel_rfl) ?_
  refine gc_seq ?_
  refine gc_reg ?_
  refine ta 4 [.int .u64 0, .int .u64 0] 50 (pg) ?_
  intro v1 g2 Xg2 hg2 B
  have zg2 := Nat.le_trans A.size hg2
  have nXg2 := A.new hg2
  replace A := A.keep B
  clear B
  refine gl_nil ?_
  refine ge_then ?_
  refine gc_seq ?_
  refine gc_reg ?_
  refine t 10 (pg g) ?_
  refine t 11 (.int .u64 id) ?_
  refine tc 12 40 #[.int .u64 id] (key_any hid) ?_
  rintro _ v5 ⟨kv4, rfl, U3, B⟩
  refine ⟨_, rfl, ?_⟩
  replace A := A.keep B
  replace Xg2 := Xg2.keep B
  clear B
  refine tc 13 39 #[pg g, kv4] (xget A.sx U3 (by omega) (by omega)) ?_
  rintro _ v8 ⟨gv6, rfl, U7, S, hC⟩
  refine ⟨_, rfl, ?_⟩
  replace Xg2 := Xg2.chg hC nXg2
  replace U3 := A.byu U3 hC
  replace A := A.op S (fun _ h => .inl h) hC
  clear S hC
  clear U3
  refine t 9 (.tuple #[gv6, .bool (Kv.look E (ak id)).isSome]) ?_
  refine t 14 (gv6) ?_
  refine t 15 (.bool (Kv.look E (ak id)).isSome) ?_
  refine t 5 (gv6) ?_
  refine t 6 (.bool (Kv.look E (ak id)).isSome) ?_
  refine gl_nil ?_
  refine ge_then ?_
  refine gc_fr [(4, pg g2), (5, gv6)] (by kernel_rfl) ?_
  refine gc_seq ?_
  refine gc_reg ?_
  refine t 17 (gv6) ?_
  refine tc 18 41 #[gv6] (acct_any U7 (A.sx.getlen _)) ?_
  rintro _ v9 ⟨rfl, B⟩
  refine ⟨_, rfl, ?_⟩
  replace A := A.keep B
  replace Xg2 := Xg2.keep B
  replace U7 := byu_keep U7 B
  clear B
  clear U7
  refine t 16 (.tuple #[.agg #[.int .u64 (coinB ((Kv.look E (ak id)).getD [])), .int .u64 (seqB ((Kv.look E (ak id)).getD []))], .int .i64 (Rc.outR (Rc.stAccount ((Kv.look E (ak id)).getD [])))]) ?_
  refine t 19 (.agg #[.int .u64 (coinB ((Kv.look E (ak id)).getD [])), .int .u64 (seqB ((Kv.look E (ak id)).getD []))]) ?_
  refine t 20 (.int .i64 (Rc.outR (Rc.stAccount ((Kv.look E (ak id)).getD [])))) ?_
  have lXg2 := Xg2.lt
  refine ta 7 [.int .u64 0, .int .u64 0] 50 (pg) ?_
  intro v10 g11 Xg11 hg11 B
  have zg11 := Nat.le_trans A.size hg11
  have nXg11 := A.new hg11
  replace A := A.keep B
  replace Xg2 := Xg2.keep B
  clear B
  refine ts Xg11 0 (.agg #[.int .u64 (coinB ((Kv.look E (ak id)).getD [])), .int .u64 (seqB ((Kv.look E (ak id)).getD []))]) [.int .u64 (coinB ((Kv.look E (ak id)).getD [])), .int .u64 (seqB ((Kv.look E (ak id)).getD []))] [.int .u64 (coinB ((Kv.look E (ak id)).getD [])), .int .u64 (seqB ((Kv.look E (ak id)).getD []))] ?_
  intro v12 Y C
  replace A := At.cell A Xg11 C zg11 nXg11 (by decide)
  replace Xg2 := Xg2.chg C (show g2 ≠ g11 by omega)
  clear C Xg11
  have Xg11 := Y
  clear Y
  refine t 8 (.int .i64 (Rc.outR (Rc.stAccount ((Kv.look E (ak id)).getD [])))) ?_
  refine gl_nil ?_
  refine ge_then ?_
  refine gc_seq ?_
  refine gc_reg ?_
  refine tlr 21 [.int .u64 (coinB ((Kv.look E (ak id)).getD [])), .int .u64 (seqB ((Kv.look E (ak id)).getD []))] Xg11 0 ?_
  refine ts Xg2 0 (.agg #[.int .u64 (coinB ((Kv.look E (ak id)).getD [])), .int .u64 (seqB ((Kv.look E (ak id)).getD []))]) [.int .u64 (coinB ((Kv.look E (ak id)).getD [])), .int .u64 (seqB ((Kv.look E (ak id)).getD []))] [.int .u64 (coinB ((Kv.look E (ak id)).getD [])), .int .u64 (seqB ((Kv.look E (ak id)).getD []))] ?_
  intro v13 Y C
  replace A := At.cell A Xg2 C zg2 nXg2 (by decide)
  replace Xg11 := Xg11.chg C (show g11 ≠ g2 by omega)
  clear C Xg2
  have Xg2 := Y
  clear Y
  refine gl_nil ?_
  refine ge_then ?_
  refine gc_ret ?_
  refine ge_ret (.agg #[.int .u64 (coinB ((Kv.look E (ak id)).getD [])), .int .u64 (seqB ((Kv.look E (ak id)).getD []))]) (rsc 4 (T := 50) (by kernel_rfl) (by kernel_rfl) (lr Xg2 0)) ?_
  exact ⟨rfl, _, A.sx, A.km, A.cc⟩
theorem lay_any {B : Nat} {w : World} {K : Nat → Prop} {g : Nat} {E : Ents} {W : List Ents} {n N : Nat} {id x y : Int} (h : Sx B w K g E W n N) (hid : 0 ≤ id ∧ id < 18446744073709551616) (hn : n + 5 ≤ 4000000000000000000) (hN : N + 5 ≤ 100000000) : Calls Tryz.prog 92 #[pg g, .int .u64 id, .agg #[.int .u64 x, .int .u64 y]] w (SxE B w K g (layE E id x y) W (n + 1) (N + 2) (.tuple #[])) := by
  have A := h.at
  refine gc_enter (n := 19) Tryz.func92 rfl (by kernel_rfl) (by kernel_rfl) ?_
  refine gc_seq ?_
  refine gc_reg ?_
  refine ta 5 [.int .u64 x, .int .u64 y] 50 (pg) ?_
  intro v1 g2 Xg2 hg2 B
  have zg2 := Nat.le_trans A.size hg2
  have nXg2 := A.new hg2
  replace A := A.keep B
  clear B
  refine gl_nil ?_
  refine ge_then ?_
  refine gc_seq ?_
  refine gc_seq ?_
  refine gc_reg ?_
  refine tlr 6 [.int .u64 x, .int .u64 y] Xg2 0 ?_
  refine t 7 (.agg #[.int .u64 0, .int .u64 0]) ?_
  by_cases c3 : x = 0 ∧ y = 0
  · refine tr 8 (.bool true) (run_z (decide_eq_true c3)) ?_
    refine gl_nil ?_
    refine ge_then ?_
    refine gc_yes ?_
    refine gc_seq ?_
    refine gc_reg ?_
    refine t 9 (pg g) ?_
    refine t 10 (.int .u64 id) ?_
    refine tc 11 40 #[.int .u64 id] (key_any hid) ?_
    rintro _ v6 ⟨kv5, rfl, U4, B⟩
    refine ⟨_, rfl, ?_⟩
    replace A := A.keep B
    replace Xg2 := Xg2.keep B
    clear B
    refine tc 12 131 #[pg g, kv5] (xdel A.sx U4 (by have := ak_len id; omega) (by omega) (by omega)) ?_
    rintro _ v8 ⟨rfl, K7, S, hK, hC⟩
    refine ⟨_, rfl, ?_⟩
    have mXg2 := not_op Xg2 nXg2 hK
    replace Xg2 := Xg2.chg hC nXg2
    replace nXg2 := mXg2
    clear mXg2
    replace U4 := A.byu U4 hC
    replace A := A.op S hK hC
    clear S hK hC
    clear U4
    refine gl_nil ?_
    refine ge_then ?_
    refine gc_ret ?_
    refine ge_tr ?_
    refine ge_ret (.tuple #[]) (rs0 (by kernel_rfl)) ?_
    rw [show layE E id x y = _ from if_pos c3]
    exact ⟨rfl, _, A.sx, A.km, A.cc⟩
  · refine tr 8 (.bool false) (run_z (decide_eq_false c3)) ?_
    refine gl_nil ?_
    refine ge_then ?_
    refine gc_no ?_
    refine gc_skip ?_
    refine ge_then ?_
    replace A := A.drew
    replace Xg2 := Xg2.drew
    refine gc_draw (fun w' => Blk w' g2 [.int .u64 x, .int .u64 y] 50) (fun _ => false) Xg2 ?_
    refine z 0 13 (pg g) ?_
    refine z 1 14 (.int .u64 id) ?_
    refine zlr 3 16 [.int .u64 x, .int .u64 y] (fun _ h => h) 0 ?_
    refine zc 2 15 40 #[.int .u64 id] (key_any hid) ?_
    rintro _ v11 ⟨kv10, rfl, U9, B⟩
    replace A := A.keep B
    replace Xg2 := Xg2.keep B
    clear B
    refine ⟨_, rfl, Xg2, ?_⟩
    refine zc 4 17 132 #[.agg #[.int .u64 x, .int .u64 y]] (put_acct) ?_
    rintro _ v14 ⟨pv13, rfl, U12, B⟩
    replace A := A.keep B
    replace Xg2 := Xg2.keep B
    replace U9 := byu_keep U9 B
    clear B
    refine ⟨_, rfl, Xg2, ?_⟩
    refine zc 5 18 86 #[pg g, kv10, pv13] (aset A.sx U9 U12 (by omega) (by omega)) ?_
    rintro _ v16 ⟨rfl, K15, S, hK, hC⟩
    have mXg2 := not_op Xg2 nXg2 hK
    replace Xg2 := Xg2.chg hC nXg2
    replace nXg2 := mXg2
    clear mXg2
    replace U9 := A.byu U9 hC
    replace U12 := A.byu U12 hC
    replace A := A.op S hK hC
    clear S hK hC
    clear U9
    clear U12
    refine ⟨_, rfl, Xg2, ?_⟩
    refine gz_done ?_
    refine ge_end (.tuple #[]) (rs0 (by kernel_rfl)) ?_
    rw [show layE E id x y = _ from if_neg c3]
    exact ⟨rfl, _, A.sx, A.km, A.cc⟩
def mintR (E : Ents) (id k : Int) : Int := if ¬ isA id then 92 else if ¬ holdsP (coin E id) k then 91 else 0
def mintE (E : Ents) (id k : Int) : Ents := if mintR E id k = 0 then layE E id (coin E id + k) (seqn E id) else E
def moveR (E : Ents) (a b k : Int) : Int := if ¬ isA a ∨ ¬ isA b then 92 else if coin E a < k then 90 else if a = b then 0 else if ¬ holdsP (coin E b) k then 91 else 0
def moveE (E : Ents) (a b k : Int) : Ents := if moveR E a b k = 0 ∧ a ≠ b then layE (layE E a (coin E a - k) (seqn E a)) b (coin E b + k) (seqn E b) else E
theorem mint_any {B : Nat} {w : World} {K : Nat → Prop} {g : Nat} {E : Ents} {W : List Ents} {n N : Nat} {id k : Int} (h : Sx B w K g E W n N) (hid : 0 ≤ id ∧ id < 18446744073709551616) (hk : 0 ≤ k ∧ k < 18446744073709551616) (hn : n + 10 ≤ 4000000000000000000) (hN : N + 10 ≤ 100000000) : Calls Tryz.prog 67 #[pg g, .int .u64 id, .int .u64 k] w (SxF B w K g (mintE E id k) W n N (.int .i64 (mintR E id k))) := by
  have A := h.at
  refine gc_enter (n := 27) Tryz.func67 rfl (by kernel_rfl) (by kernel_rfl) ?_
  refine gc_seq ?_
  refine gc_reg ?_
  refine t 6 (.int .i64 0) ?_
  refine gl_nil ?_
  refine ge_then ?_
  refine gc_seq ?_
  refine gc_seq ?_
  refine gc_reg ?_
  refine t 8 (.int .u64 id) ?_
  by_cases c1 : isA id
  · refine tc 9 90 #[.int .u64 id] (isAcc_any hid (decide_eq_true c1)) ?_
    rintro _ v2 ⟨rfl, B⟩
    refine ⟨_, rfl, ?_⟩
    replace A := A.keep B
    clear B
    refine t 10 (.bool false) ?_
    refine gl_nil ?_
    refine ge_then ?_
    refine gc_no ?_
    refine gc_skip ?_
    refine ge_then ?_
    refine gc_seq ?_
    refine gc_reg ?_
    refine t 11 (pg g) ?_
    refine t 12 (.int .u64 id) ?_
    refine tc 13 15 #[pg g, .int .u64 id] (get_any A.sx hid (by omega) (by omega)) ?_
    rintro _ v4 ⟨rfl, K3, S, hK, hC⟩
    refine ⟨_, rfl, ?_⟩
    replace A := A.op S hK hC
    clear S hK hC
    refine ta 7 [.int .u64 0, .int .u64 0] 50 (pg) ?_
    intro v5 g6 Xg6 hg6 B
    have zg6 := Nat.le_trans A.size hg6
    have nXg6 := A.new hg6
    replace A := A.keep B
    clear B
    refine ts Xg6 0 (.agg #[.int .u64 (coin E id), .int .u64 (seqn E id)]) [.int .u64 (coin E id), .int .u64 (seqn E id)] [.int .u64 (coin E id), .int .u64 (seqn E id)] ?_
    intro v7 Y C
    replace A := At.cell A Xg6 C zg6 nXg6 (by decide)
    clear C Xg6
    have Xg6 := Y
    clear Y
    refine gl_nil ?_
    refine ge_then ?_
    refine gc_seq ?_
    refine gc_seq ?_
    refine gc_reg ?_
    refine tlr 14 [.int .u64 (coin E id), .int .u64 (seqn E id)] Xg6 0 ?_
    refine t 15 (.int .u64 k) ?_
    by_cases c8 : holdsP (coin E id) k
    · refine tc 16 91 #[.agg #[.int .u64 (coin E id), .int .u64 (seqn E id)], .int .u64 k] (holds_any (h.crng _) hk (decide_eq_true c8)) ?_
      rintro _ v9 ⟨rfl, B⟩
      refine ⟨_, rfl, ?_⟩
      replace A := A.keep B
      replace Xg6 := Xg6.keep B
      clear B
      refine t 17 (.bool false) ?_
      refine gl_nil ?_
      refine ge_then ?_
      refine gc_fr [(0, pg g), (1, .int .u64 id), (2, .int .u64 k), (6, .int .i64 0), (7, pg g6), (17, .bool false)] (by kernel_rfl) ?_
      refine gc_no ?_
      refine gc_skip ?_
      refine ge_then ?_
      refine gc_seq ?_
      refine gc_reg ?_
      refine t 18 (pg g6) ?_
      refine tl 19 (.int .u64 (coin E id)) Xg6 0 ?_
      refine t 20 (.int .u64 k) ?_
      refine tq 21 (.int .u64 (IntKind.u64.wrap ((coin E id) + k))) (.int .u64 ((coin E id) + k)) (wu (by have := h.crng id; have q := c8; unfold holdsP at q; omega)) ?_
      refine t 22 (pg g6) ?_
      refine ts Xg6 0 (.int .u64 ((coin E id) + k)) [.int .u64 ((coin E id) + k)] [.int .u64 ((coin E id) + k), .int .u64 (seqn E id)] ?_
      intro v10 Y C
      replace A := At.cell A Xg6 C zg6 nXg6 (by decide)
      clear C Xg6
      have Xg6 := Y
      clear Y
      refine gl_nil ?_
      refine ge_then ?_
      refine gc_seq ?_
      refine gc_reg ?_
      refine t 23 (pg g) ?_
      refine t 24 (.int .u64 id) ?_
      refine tlr 25 [.int .u64 ((coin E id) + k), .int .u64 (seqn E id)] Xg6 0 ?_
      refine tc 26 92 #[pg g, .int .u64 id, .agg #[.int .u64 ((coin E id) + k), .int .u64 (seqn E id)]] (lay_any A.sx hid (by omega) (by omega)) ?_
      rintro _ v12 ⟨rfl, K11, S, hK, hC⟩
      refine ⟨_, rfl, ?_⟩
      have mXg6 := not_op Xg6 nXg6 hK
      replace Xg6 := Xg6.chg hC nXg6
      replace nXg6 := mXg6
      clear mXg6
      replace A := A.op S hK hC
      clear S hK hC
      refine gl_nil ?_
      refine ge_then ?_
      refine gc_seq ?_
      refine gc_reg ?_
      refine t 6 (.int .i64 0) ?_
      refine gl_nil ?_
      refine ge_then ?_
      refine gc_ret ?_
      refine ge_ret (.int .i64 0) (rs1 6 (by kernel_rfl) (by kernel_rfl)) ?_
      have e1 : mintR E id k = 0 := by first | (simp [mintR, c1, c8]; done) | (subst_vars; simp_all [mintR])
      have e2 : mintE E id k = layE E id ((coin E id) + k) (seqn E id) := by simp [mintE, e1, c1, c8]
      rw [e1, e2]
      exact ⟨rfl, _, _, _, A.sx, by omega, by omega, A.km, A.cc⟩
    · refine tc 16 91 #[.agg #[.int .u64 (coin E id), .int .u64 (seqn E id)], .int .u64 k] (holds_any (h.crng _) hk (decide_eq_false c8)) ?_
      rintro _ v13 ⟨rfl, B⟩
      refine ⟨_, rfl, ?_⟩
      replace A := A.keep B
      replace Xg6 := Xg6.keep B
      clear B
      refine t 17 (.bool true) ?_
      refine gl_nil ?_
      refine ge_then ?_
      refine gc_fr [(0, pg g), (1, .int .u64 id), (2, .int .u64 k), (6, .int .i64 0), (7, pg g6), (17, .bool true)] (by kernel_rfl) ?_
      refine gc_yes ?_
      refine gc_seq ?_
      refine gc_reg ?_
      refine t 6 (.int .i64 91) ?_
      refine gl_nil ?_
      refine ge_then ?_
      refine gc_ret ?_
      refine ge_tr ?_
      refine ge_ret (.int .i64 91) (rs1 6 (by kernel_rfl) (by kernel_rfl)) ?_
      have e1 : mintR E id k = 91 := by first | (simp [mintR, c1, c8]; done) | (subst_vars; simp_all [mintR])
      have e2 : mintE E id k = E := by simp [mintE, e1, c1, c8]
      rw [e1, e2]
      exact ⟨rfl, _, _, _, A.sx, by omega, by omega, A.km, A.cc⟩
  · refine tc 9 90 #[.int .u64 id] (isAcc_any hid (decide_eq_false c1)) ?_
    rintro _ v14 ⟨rfl, B⟩
    refine ⟨_, rfl, ?_⟩
    replace A := A.keep B
    clear B
    refine t 10 (.bool true) ?_
    refine gl_nil ?_
    refine ge_then ?_
    refine gc_yes ?_
    refine gc_seq ?_
    refine gc_reg ?_
    refine t 6 (.int .i64 92) ?_
    refine gl_nil ?_
    refine ge_then ?_
    refine gc_ret ?_
    refine ge_tr ?_
    refine ge_ret (.int .i64 92) (rs1 6 (by kernel_rfl) (by kernel_rfl)) ?_
    have e1 : mintR E id k = 92 := by first | (simp [mintR, c1]; done) | (subst_vars; simp_all [mintR])
    have e2 : mintE E id k = E := by simp [mintE, e1, c1]
    rw [e1, e2]
    exact ⟨rfl, _, _, _, A.sx, by omega, by omega, A.km, A.cc⟩
theorem move_any {B : Nat} {w : World} {K : Nat → Prop} {g : Nat} {E : Ents} {W : List Ents} {n N : Nat} {a b k : Int} (h : Sx B w K g E W n N) (ha : 0 ≤ a ∧ a < 18446744073709551616) (hb : 0 ≤ b ∧ b < 18446744073709551616) (hk : 0 ≤ k ∧ k < 18446744073709551616) (hn : n + 10 ≤ 4000000000000000000) (hN : N + 10 ≤ 100000000) : Calls Tryz.prog 142 #[pg g, .int .u64 a, .int .u64 b, .int .u64 k] w (SxF B w K g (moveE E a b k) W n N (.int .i64 (moveR E a b k))) := by
  have A := h.at
  refine gc_enter (n := 54) Tryz.func142 rfl (by kernel_rfl) (by kernel_rfl) ?_
  refine gc_seq ?_
  refine gc_reg ?_
  refine t 8 (.int .i64 0) ?_
  refine gl_nil ?_
  refine ge_then ?_
  refine gc_seq ?_
  refine gc_seq ?_
  refine gc_reg ?_
  refine t 11 (.int .u64 a) ?_
  by_cases c1 : isA a
  · refine tc 12 90 #[.int .u64 a] (isAcc_any ha (decide_eq_true c1)) ?_
    rintro _ v2 ⟨rfl, B⟩
    refine ⟨_, rfl, ?_⟩
    replace A := A.keep B
    clear B
    refine t 13 (.bool false) ?_
    refine t 14 (.bool false) ?_
    refine t 15 (.int .u64 b) ?_
    by_cases c3 : isA b
    · refine tc 16 90 #[.int .u64 b] (isAcc_any hb (decide_eq_true c3)) ?_
      rintro _ v4 ⟨rfl, B⟩
      refine ⟨_, rfl, ?_⟩
      replace A := A.keep B
      clear B
      refine t 17 (.bool false) ?_
      refine t 18 (.bool false) ?_
      refine gl_nil ?_
      refine ge_then ?_
      refine gc_fr [(0, pg g), (1, .int .u64 a), (2, .int .u64 b), (3, .int .u64 k), (8, .int .i64 0), (18, .bool false)] (by kernel_rfl) ?_
      refine gc_no ?_
      refine gc_skip ?_
      refine ge_then ?_
      refine gc_seq ?_
      refine gc_reg ?_
      refine t 19 (pg g) ?_
      refine t 20 (.int .u64 a) ?_
      refine tc 21 15 #[pg g, .int .u64 a] (get_any A.sx ha (by omega) (by omega)) ?_
      rintro _ v6 ⟨rfl, K5, S, hK, hC⟩
      refine ⟨_, rfl, ?_⟩
      replace A := A.op S hK hC
      clear S hK hC
      refine ta 9 [.int .u64 0, .int .u64 0] 50 (pg) ?_
      intro v7 g8 Xg8 hg8 B
      have zg8 := Nat.le_trans A.size hg8
      have nXg8 := A.new hg8
      replace A := A.keep B
      clear B
      refine ts Xg8 0 (.agg #[.int .u64 (coin E a), .int .u64 (seqn E a)]) [.int .u64 (coin E a), .int .u64 (seqn E a)] [.int .u64 (coin E a), .int .u64 (seqn E a)] ?_
      intro v9 Y C
      replace A := At.cell A Xg8 C zg8 nXg8 (by decide)
      clear C Xg8
      have Xg8 := Y
      clear Y
      refine gl_nil ?_
      refine ge_then ?_
      refine gc_seq ?_
      refine gc_seq ?_
      refine gc_reg ?_
      refine t 22 (pg g8) ?_
      refine tl 23 (.int .u64 (coin E a)) Xg8 0 ?_
      refine t 24 (.int .u64 k) ?_
      by_cases c10 : (coin E a : Int) < k
      · refine tq 25 (.bool (decide ((coin E a : Int) < k))) (.bool true) (congrArg Value.bool (decide_eq_true c10)) ?_
        refine gl_nil ?_
        refine ge_then ?_
        refine gc_yes ?_
        refine gc_seq ?_
        refine gc_reg ?_
        refine t 8 (.int .i64 90) ?_
        refine gl_nil ?_
        refine ge_then ?_
        refine gc_ret ?_
        refine ge_tr ?_
        refine ge_ret (.int .i64 90) (rs1 8 (by kernel_rfl) (by kernel_rfl)) ?_
        have e1 : moveR E a b k = 90 := by first | (simp [moveR, c1, c10, c3]; done) | (subst_vars; simp_all [moveR])
        have e2 : moveE E a b k = E := by simp [moveE, e1, c1, c10, c3]
        rw [e1, e2]
        exact ⟨rfl, _, _, _, A.sx, by omega, by omega, A.km, A.cc⟩
      · refine tq 25 (.bool (decide ((coin E a : Int) < k))) (.bool false) (congrArg Value.bool (decide_eq_false c10)) ?_
        refine gl_nil ?_
        refine ge_then ?_
        refine gc_no ?_
        refine gc_skip ?_
        refine ge_then ?_
        refine gc_seq ?_
        refine gc_seq ?_
        refine gc_reg ?_
        refine t 26 (.int .u64 a) ?_
        refine t 27 (.int .u64 b) ?_
        by_cases c11 : (a : Int) = b
        · refine tq 28 (.bool ((a : Int) == b)) (.bool true) (congrArg Value.bool (beq_iff_eq.2 c11)) ?_
          refine gl_nil ?_
          refine ge_then ?_
          refine gc_yes ?_
          refine gc_seq ?_
          refine gc_reg ?_
          refine t 8 (.int .i64 0) ?_
          refine gl_nil ?_
          refine ge_then ?_
          refine gc_fr [(0, pg g), (1, .int .u64 a), (2, .int .u64 b), (3, .int .u64 k), (8, .int .i64 0), (9, pg g8)] (by kernel_rfl) ?_
          refine gc_ret ?_
          refine ge_tr ?_
          refine ge_ret (.int .i64 0) (rs1 8 (by kernel_rfl) (by kernel_rfl)) ?_
          have e1 : moveR E a b k = 0 := by first | (simp [moveR, c1, c10, c11, c3]; done) | (subst_vars; simp_all [moveR])
          have e2 : moveE E a b k = E := by simp [moveE, e1, c1, c10, c11, c3]
          rw [e1, e2]
          exact ⟨rfl, _, _, _, A.sx, by omega, by omega, A.km, A.cc⟩
        · refine tq 28 (.bool ((a : Int) == b)) (.bool false) (congrArg Value.bool (beq_eq_false_iff_ne.2 c11)) ?_
          refine gl_nil ?_
          refine ge_then ?_
          refine gc_no ?_
          refine gc_skip ?_
          refine ge_then ?_
          refine gc_seq ?_
          refine gc_reg ?_
          refine t 29 (pg g) ?_
          refine t 30 (.int .u64 b) ?_
          refine tc 31 15 #[pg g, .int .u64 b] (get_any A.sx hb (by omega) (by omega)) ?_
          rintro _ v13 ⟨rfl, K12, S, hK, hC⟩
          refine ⟨_, rfl, ?_⟩
          have mXg8 := not_op Xg8 nXg8 hK
          replace Xg8 := Xg8.chg hC nXg8
          replace nXg8 := mXg8
          clear mXg8
          replace A := A.op S hK hC
          clear S hK hC
          have lXg8 := Xg8.lt
          refine ta 10 [.int .u64 0, .int .u64 0] 50 (pg) ?_
          intro v14 g15 Xg15 hg15 B
          have zg15 := Nat.le_trans A.size hg15
          have nXg15 := A.new hg15
          replace A := A.keep B
          replace Xg8 := Xg8.keep B
          clear B
          refine ts Xg15 0 (.agg #[.int .u64 (coin E b), .int .u64 (seqn E b)]) [.int .u64 (coin E b), .int .u64 (seqn E b)] [.int .u64 (coin E b), .int .u64 (seqn E b)] ?_
          intro v16 Y C
          replace A := At.cell A Xg15 C zg15 nXg15 (by decide)
          replace Xg8 := Xg8.chg C (show g8 ≠ g15 by omega)
          clear C Xg15
          have Xg15 := Y
          clear Y
          refine gl_nil ?_
          refine ge_then ?_
          refine gc_fr [(0, pg g), (1, .int .u64 a), (2, .int .u64 b), (3, .int .u64 k), (8, .int .i64 0), (9, pg g8), (10, pg g15)] (by kernel_rfl) ?_
          refine gc_seq ?_
          refine gc_seq ?_
          refine gc_reg ?_
          refine tlr 32 [.int .u64 (coin E b), .int .u64 (seqn E b)] Xg15 0 ?_
          refine t 33 (.int .u64 k) ?_
          by_cases c17 : holdsP (coin E b) k
          · refine tc 34 91 #[.agg #[.int .u64 (coin E b), .int .u64 (seqn E b)], .int .u64 k] (holds_any (h.crng _) hk (decide_eq_true c17)) ?_
            rintro _ v18 ⟨rfl, B⟩
            refine ⟨_, rfl, ?_⟩
            replace A := A.keep B
            replace Xg8 := Xg8.keep B
            replace Xg15 := Xg15.keep B
            clear B
            refine t 35 (.bool false) ?_
            refine gl_nil ?_
            refine ge_then ?_
            refine gc_no ?_
            refine gc_skip ?_
            refine ge_then ?_
            refine gc_seq ?_
            refine gc_reg ?_
            refine t 36 (pg g8) ?_
            refine tl 37 (.int .u64 (coin E a)) Xg8 0 ?_
            refine t 38 (.int .u64 k) ?_
            refine tq 39 (.int .u64 (IntKind.u64.wrap ((coin E a) - k))) (.int .u64 ((coin E a) - k)) (wu (by have := h.crng a; have := h.crng b; have q := c17; unfold holdsP at q; omega)) ?_
            refine t 40 (pg g8) ?_
            refine ts Xg8 0 (.int .u64 ((coin E a) - k)) [.int .u64 ((coin E a) - k)] [.int .u64 ((coin E a) - k), .int .u64 (seqn E a)] ?_
            intro v19 Y C
            replace A := At.cell A Xg8 C zg8 nXg8 (by decide)
            replace Xg15 := Xg15.chg C (show g15 ≠ g8 by omega)
            clear C Xg8
            have Xg8 := Y
            clear Y
            refine gl_nil ?_
            refine ge_then ?_
            refine gc_seq ?_
            refine gc_reg ?_
            refine t 41 (pg g15) ?_
            refine tl 42 (.int .u64 (coin E b)) Xg15 0 ?_
            refine t 43 (.int .u64 k) ?_
            refine tq 44 (.int .u64 (IntKind.u64.wrap ((coin E b) + k))) (.int .u64 ((coin E b) + k)) (wu (by have := h.crng a; have := h.crng b; have q := c17; unfold holdsP at q; omega)) ?_
            refine t 45 (pg g15) ?_
            refine ts Xg15 0 (.int .u64 ((coin E b) + k)) [.int .u64 ((coin E b) + k)] [.int .u64 ((coin E b) + k), .int .u64 (seqn E b)] ?_
            intro v20 Y C
            replace A := At.cell A Xg15 C zg15 nXg15 (by decide)
            replace Xg8 := Xg8.chg C (show g8 ≠ g15 by omega)
            clear C Xg15
            have Xg15 := Y
            clear Y
            refine gl_nil ?_
            refine ge_then ?_
            refine gc_fr [(0, pg g), (1, .int .u64 a), (2, .int .u64 b), (8, .int .i64 0), (9, pg g8), (10, pg g15)] (by kernel_rfl) ?_
            refine gc_seq ?_
            refine gc_reg ?_
            refine t 46 (pg g) ?_
            refine t 47 (.int .u64 a) ?_
            refine tlr 48 [.int .u64 ((coin E a) - k), .int .u64 (seqn E a)] Xg8 0 ?_
            refine tc 49 92 #[pg g, .int .u64 a, .agg #[.int .u64 ((coin E a) - k), .int .u64 (seqn E a)]] (lay_any A.sx ha (by omega) (by omega)) ?_
            rintro _ v22 ⟨rfl, K21, S, hK, hC⟩
            refine ⟨_, rfl, ?_⟩
            have mXg8 := not_op Xg8 nXg8 hK
            replace Xg8 := Xg8.chg hC nXg8
            replace nXg8 := mXg8
            clear mXg8
            have mXg15 := not_op Xg15 nXg15 hK
            replace Xg15 := Xg15.chg hC nXg15
            replace nXg15 := mXg15
            clear mXg15
            replace A := A.op S hK hC
            clear S hK hC
            refine gl_nil ?_
            refine ge_then ?_
            refine gc_seq ?_
            refine gc_reg ?_
            refine t 50 (pg g) ?_
            refine t 51 (.int .u64 b) ?_
            refine tlr 52 [.int .u64 ((coin E b) + k), .int .u64 (seqn E b)] Xg15 0 ?_
            refine tc 53 92 #[pg g, .int .u64 b, .agg #[.int .u64 ((coin E b) + k), .int .u64 (seqn E b)]] (lay_any A.sx hb (by omega) (by omega)) ?_
            rintro _ v24 ⟨rfl, K23, S, hK, hC⟩
            refine ⟨_, rfl, ?_⟩
            have mXg8 := not_op Xg8 nXg8 hK
            replace Xg8 := Xg8.chg hC nXg8
            replace nXg8 := mXg8
            clear mXg8
            have mXg15 := not_op Xg15 nXg15 hK
            replace Xg15 := Xg15.chg hC nXg15
            replace nXg15 := mXg15
            clear mXg15
            replace A := A.op S hK hC
            clear S hK hC
            refine gl_nil ?_
            refine ge_then ?_
            refine gc_seq ?_
            refine gc_reg ?_
            refine t 8 (.int .i64 0) ?_
            refine gl_nil ?_
            refine ge_then ?_
            refine gc_ret ?_
            refine ge_ret (.int .i64 0) (rs1 8 (by kernel_rfl) (by kernel_rfl)) ?_
            have e1 : moveR E a b k = 0 := by first | (simp [moveR, c1, c10, c11, c17, c3]; done) | (subst_vars; simp_all [moveR])
            have e2 : moveE E a b k = layE (layE E a ((coin E a) - k) (seqn E a)) b ((coin E b) + k) (seqn E b) := by simp [moveE, e1, c1, c10, c11, c17, c3]
            rw [e1, e2]
            exact ⟨rfl, _, _, _, A.sx, by omega, by omega, A.km, A.cc⟩
          · refine tc 34 91 #[.agg #[.int .u64 (coin E b), .int .u64 (seqn E b)], .int .u64 k] (holds_any (h.crng _) hk (decide_eq_false c17)) ?_
            rintro _ v25 ⟨rfl, B⟩
            refine ⟨_, rfl, ?_⟩
            replace A := A.keep B
            replace Xg8 := Xg8.keep B
            replace Xg15 := Xg15.keep B
            clear B
            refine t 35 (.bool true) ?_
            refine gl_nil ?_
            refine ge_then ?_
            refine gc_yes ?_
            refine gc_seq ?_
            refine gc_reg ?_
            refine t 8 (.int .i64 91) ?_
            refine gl_nil ?_
            refine ge_then ?_
            refine gc_ret ?_
            refine ge_tr ?_
            refine ge_ret (.int .i64 91) (rs1 8 (by kernel_rfl) (by kernel_rfl)) ?_
            have e1 : moveR E a b k = 91 := by first | (simp [moveR, c1, c10, c11, c17, c3]; done) | (subst_vars; simp_all [moveR])
            have e2 : moveE E a b k = E := by simp [moveE, e1, c1, c10, c11, c17, c3]
            rw [e1, e2]
            exact ⟨rfl, _, _, _, A.sx, by omega, by omega, A.km, A.cc⟩
    · refine tc 16 90 #[.int .u64 b] (isAcc_any hb (decide_eq_false c3)) ?_
      rintro _ v26 ⟨rfl, B⟩
      refine ⟨_, rfl, ?_⟩
      replace A := A.keep B
      clear B
      refine t 17 (.bool true) ?_
      refine t 18 (.bool true) ?_
      refine gl_nil ?_
      refine ge_then ?_
      refine gc_fr [(0, pg g), (1, .int .u64 a), (2, .int .u64 b), (3, .int .u64 k), (8, .int .i64 0), (18, .bool true)] (by kernel_rfl) ?_
      refine gc_yes ?_
      refine gc_seq ?_
      refine gc_reg ?_
      refine t 8 (.int .i64 92) ?_
      refine gl_nil ?_
      refine ge_then ?_
      refine gc_ret ?_
      refine ge_tr ?_
      refine ge_ret (.int .i64 92) (rs1 8 (by kernel_rfl) (by kernel_rfl)) ?_
      have e1 : moveR E a b k = 92 := by first | (simp [moveR, c1, c3]; done) | (subst_vars; simp_all [moveR])
      have e2 : moveE E a b k = E := by simp [moveE, e1, c1, c3]
      rw [e1, e2]
      exact ⟨rfl, _, _, _, A.sx, by omega, by omega, A.km, A.cc⟩
  · refine tc 12 90 #[.int .u64 a] (isAcc_any ha (decide_eq_false c1)) ?_
    rintro _ v27 ⟨rfl, B⟩
    refine ⟨_, rfl, ?_⟩
    replace A := A.keep B
    clear B
    refine t 13 (.bool true) ?_
    refine t 14 (.bool true) ?_
    refine tn 15 ?_
    refine tn 16 ?_
    refine tn 17 ?_
    refine t 18 (.bool true) ?_
    refine gl_nil ?_
    refine ge_then ?_
    refine gc_fr [(0, pg g), (1, .int .u64 a), (2, .int .u64 b), (3, .int .u64 k), (8, .int .i64 0), (18, .bool true)] (by kernel_rfl) ?_
    refine gc_yes ?_
    refine gc_seq ?_
    refine gc_reg ?_
    refine t 8 (.int .i64 92) ?_
    refine gl_nil ?_
    refine ge_then ?_
    refine gc_ret ?_
    refine ge_tr ?_
    refine ge_ret (.int .i64 92) (rs1 8 (by kernel_rfl) (by kernel_rfl)) ?_
    have e1 : moveR E a b k = 92 := by first | (simp [moveR, c1]; done) | (subst_vars; simp_all [moveR])
    have e2 : moveE E a b k = E := by simp [moveE, e1, c1]
    rw [e1, e2]
    exact ⟨rfl, _, _, _, A.sx, by omega, by omega, A.km, A.cc⟩
end Bk
end Go.Proofs.YtpoifdokmjhclaaGreat
