/- Several texts, joined: AnR. -/
import Derived.Test.YtagnmdejdeeenaaGreatJaq
import Derived.Test.YtagnmdejdeeenaaGreatJao
namespace Go.Proofs.YtagnmdejdeeenaaGreat
namespace Bk
open Go.RowKit Go.Lib Pg Lim Gl Kv
attribute [local go_sem] Oper.semAt_some
set_option maxRecDepth 100000
set_option linter.unusedSimpArgs false
set_option linter.unusedVariables false
set_option maxHeartbeats 2000000
theorem rkey_pk {w : World} : Calls Tryz.prog 50 #[.agg #[.int .i64 1, .int .u64 0, .int .u64 0]] w fun e w' => ∃ v r, e = .returned (.tuple #[v, .int .i64 r]) ∧ ByU w' v pk ∧ Below w.heap.size w w' := by
  have u := Ky.rmake_any (w := w) (k := 1) (a := 0) (b := 0) (by decide) (by decide)
  rw [pkE] at u
  refine u.mono ?_
  rintro e w' ⟨v, rfl, O, b⟩
  exact ⟨v, _, rfl, ByU.of O, b⟩
theorem key9p {w : World} : Calls Tryz.prog 21 #[.int .i64 1, .int .u64 0, .int .u64 0] w fun e w' => ∃ v, e = .returned v ∧ ByU w' v pk ∧ Below w.heap.size w w' := by
  have BB := Below.refl w.heap.size w
  refine gc_enter (n := 18) Tryz.func21 rfl (by kernel_rfl) (by kernel_rfl) ?_
  refine gc_seq ?_
  refine gc_reg ?_
  refine t 6 (.slice none 0 0) ?_
  refine gl_nil ?_
  refine ge_then ?_
  refine gc_seq ?_
  refine gc_reg ?_
  refine t 10 (.int .i64 1) ?_
  refine t 11 (.int .u64 0) ?_
  refine t 12 (.int .u64 0) ?_
  refine t 13 (.agg #[.int .i64 1, .int .u64 0, .int .u64 0]) ?_
  refine tc 14 50 #[.agg #[.int .i64 1, .int .u64 0, .int .u64 0]] (rkey_pk) ?_
  rintro _ v1 ⟨v0, r0, rfl, U0, B⟩
  refine ⟨_, rfl, ?_⟩
  replace BB := joinB BB B
  clear B
  refine t 9 (.tuple #[v0, .int .i64 r0]) ?_
  refine t 15 (v0) ?_
  refine t 16 (.int .i64 r0) ?_
  refine t 7 (v0) ?_
  refine t 8 (.int .i64 r0) ?_
  refine gl_nil ?_
  refine ge_then ?_
  refine gc_fr [(6, .slice none 0 0), (7, v0)] (by kernel_rfl) ?_
  refine gc_seq ?_
  refine gc_reg ?_
  refine t 17 (v0) ?_
  refine t 6 (v0) ?_
  refine gl_nil ?_
  refine ge_then ?_
  refine gc_ret ?_
  refine ge_ret (v0) (rs1 6 (by kernel_rfl) (by kernel_rfl)) ?_
  exact ⟨_, rfl, U0, BB⟩
theorem rpar_rd {w : World} {v : Value} {l : List Int} (h : ByU w v l) : Calls Tryz.prog 60 #[v] w fun e w' => e = .returned (.tuple #[.agg #[.int .u64 (pm l 0), .int .u64 (pm l 1), .int .u64 (pm l 2), .int .u64 (pm l 3), .int .u64 (pm l 4), .int .u64 (pm l 5), .int .u64 (pm l 6), .int .u64 (pm l 7), .int .u64 (pm l 8), .int .u64 (pm l 9)], .int .i64 (Rc.outR (Rc.stParams l))]) ∧ Below w.heap.size w w' := by
  obtain ⟨b, ao, c, rfl, h2⟩ := bya h.byt
  exact Rc.rParams h2
theorem rput_par {w : World} {f : Int} : Calls Tryz.prog 22 #[.agg #[.int .u64 0, .int .u64 0, .int .u64 0, .int .u64 0, .int .u64 0, .int .u64 0, .int .u64 0, .int .u64 0, .int .u64 f, .int .u64 0]] w fun e w' => ∃ v, e = .returned v ∧ ByU w' v (ppv f) ∧ Below w.heap.size w w' := by
  refine Rc.rPutParams.mono ?_
  rintro e w' ⟨v, rfl, M, B⟩
  exact ⟨v, rfl, mineU M (ppv_oct f), B⟩
theorem pm_nil : pm [] = fun _ => 0 := by kernel_rfl
theorem par15 {B : Nat} {w : World} {X : Nat → Prop} {q : Nat} {E : Ents} {n : Nat}  (h : Rx B w X q E n) (hn : n + 2 ≤ 4000000000000000000) (hm : E.length + 1 ≤ 1000000) : Calls Tryz.prog 34 #[pg q] w (RxE B w X q E (n + 1) (.agg #[.int .u64 (pm (got E pk) 0), .int .u64 (pm (got E pk) 1), .int .u64 (pm (got E pk) 2), .int .u64 (pm (got E pk) 3), .int .u64 (pm (got E pk) 4), .int .u64 (pm (got E pk) 5), .int .u64 (pm (got E pk) 6), .int .u64 (pm (got E pk) 7), .int .u64 (fee E), .int .u64 (pm (got E pk) 9)])) := by
  have A := h.at
  refine gc_enter (n := 22) Tryz.func34 rfl (by kernel_rfl) (by kernel_rfl) ?_
  refine gc_seq ?_
  refine gc_reg ?_
  refine ta 2 [.int .u64 0, .int .u64 0, .int .u64 0, .int .u64 0, .int .u64 0, .int .u64 0, .int .u64 0, .int .u64 0, .int .u64 0, .int .u64 0] 35 (pg) ?_
  intro v1 g2 Xg2 hg2 B
  have zg2 := Nat.le_trans A.size hg2
  have nXg2 := A.new hg2
  replace A := A.keep B
  clear B
  refine gl_nil ?_
  refine ge_then ?_
  refine gc_seq ?_
  refine gc_reg ?_
  refine t 8 (pg q) ?_
  refine tc 9 21 #[.int .i64 1, .int .u64 0, .int .u64 0] (key9p) ?_
  rintro _ v5 ⟨kv4, rfl, U3, B⟩
  refine ⟨_, rfl, ?_⟩
  replace A := A.keep B
  replace Xg2 := Xg2.keep B
  clear B
  by_cases c9 : (Kv.look E pk).isSome = true
  · refine tc 10 54 #[pg q, kv4] (rxget A.rx U3 (by rw [pk_eq]; decide) (by omega) (by omega) c9) ?_
    rintro _ v13 ⟨gv10, rfl, U11, K12, S, hK, hC⟩
    refine ⟨_, rfl, ?_⟩
    have mXg2 := not_op Xg2 nXg2 hK
    replace Xg2 := Xg2.chg hC nXg2
    replace nXg2 := mXg2
    clear mXg2
    replace U3 := A.byu U3 hC
    replace A := A.op S hK hC
    clear S hK hC
    clear U3
    refine t 7 (.tuple #[gv10, .bool true]) ?_
    refine t 11 (gv10) ?_
    refine t 12 (.bool true) ?_
    refine t 3 (gv10) ?_
    refine t 4 (.bool true) ?_
    refine gl_nil ?_
    refine ge_then ?_
    refine gc_seq ?_
    refine gc_seq ?_
    refine gc_reg ?_
    refine t 13 (.bool true) ?_
    refine t 14 (.bool false) ?_
    refine gl_nil ?_
    refine ge_then ?_
    refine gc_fr [(2, pg g2), (3, gv10), (14, .bool false)] (by kernel_rfl) ?_
    refine gc_no ?_
    refine gc_skip ?_
    refine ge_then ?_
    refine gc_seq ?_
    refine gc_reg ?_
    refine t 17 (gv10) ?_
    refine tc 18 60 #[gv10] (rpar_rd U11) ?_
    rintro _ v14 ⟨rfl, B⟩
    refine ⟨_, rfl, ?_⟩
    replace A := A.keep B
    replace Xg2 := Xg2.keep B
    replace U11 := byu_keep U11 B
    clear B
    clear U11
    refine t 16 (.tuple #[.agg #[.int .u64 (pm (got E pk) 0), .int .u64 (pm (got E pk) 1), .int .u64 (pm (got E pk) 2), .int .u64 (pm (got E pk) 3), .int .u64 (pm (got E pk) 4), .int .u64 (pm (got E pk) 5), .int .u64 (pm (got E pk) 6), .int .u64 (pm (got E pk) 7), .int .u64 (pm (got E pk) 8), .int .u64 (pm (got E pk) 9)], .int .i64 (Rc.outR (Rc.stParams (got E pk)))]) ?_
    refine t 19 (.agg #[.int .u64 (pm (got E pk) 0), .int .u64 (pm (got E pk) 1), .int .u64 (pm (got E pk) 2), .int .u64 (pm (got E pk) 3), .int .u64 (pm (got E pk) 4), .int .u64 (pm (got E pk) 5), .int .u64 (pm (got E pk) 6), .int .u64 (pm (got E pk) 7), .int .u64 (pm (got E pk) 8), .int .u64 (pm (got E pk) 9)]) ?_
    refine t 20 (.int .i64 (Rc.outR (Rc.stParams (got E pk)))) ?_
    have lXg2 := Xg2.lt
    refine ta 5 [.int .u64 0, .int .u64 0, .int .u64 0, .int .u64 0, .int .u64 0, .int .u64 0, .int .u64 0, .int .u64 0, .int .u64 0, .int .u64 0] 35 (pg) ?_
    intro v15 g16 Xg16 hg16 B
    have zg16 := Nat.le_trans A.size hg16
    have nXg16 := A.new hg16
    replace A := A.keep B
    replace Xg2 := Xg2.keep B
    clear B
    refine ts Xg16 0 (.agg #[.int .u64 (pm (got E pk) 0), .int .u64 (pm (got E pk) 1), .int .u64 (pm (got E pk) 2), .int .u64 (pm (got E pk) 3), .int .u64 (pm (got E pk) 4), .int .u64 (pm (got E pk) 5), .int .u64 (pm (got E pk) 6), .int .u64 (pm (got E pk) 7), .int .u64 (pm (got E pk) 8), .int .u64 (pm (got E pk) 9)]) [.int .u64 (pm (got E pk) 0), .int .u64 (pm (got E pk) 1), .int .u64 (pm (got E pk) 2), .int .u64 (pm (got E pk) 3), .int .u64 (pm (got E pk) 4), .int .u64 (pm (got E pk) 5), .int .u64 (pm (got E pk) 6), .int .u64 (pm (got E pk) 7), .int .u64 (pm (got E pk) 8), .int .u64 (pm (got E pk) 9)] [.int .u64 (pm (got E pk) 0), .int .u64 (pm (got E pk) 1), .int .u64 (pm (got E pk) 2), .int .u64 (pm (got E pk) 3), .int .u64 (pm (got E pk) 4), .int .u64 (pm (got E pk) 5), .int .u64 (pm (got E pk) 6), .int .u64 (pm (got E pk) 7), .int .u64 (pm (got E pk) 8), .int .u64 (pm (got E pk) 9)] ?_
    intro v17 Y C
    replace A := Ar.cell A Xg16 C zg16 nXg16 (by decide)
    replace Xg2 := Xg2.chg C (show g2 ≠ g16 by omega)
    clear C Xg16
    have Xg16 := Y
    clear Y
    refine t 6 (.int .i64 (Rc.outR (Rc.stParams (got E pk)))) ?_
    refine gl_nil ?_
    refine ge_then ?_
    refine gc_seq ?_
    refine gc_reg ?_
    refine tlr 21 [.int .u64 (pm (got E pk) 0), .int .u64 (pm (got E pk) 1), .int .u64 (pm (got E pk) 2), .int .u64 (pm (got E pk) 3), .int .u64 (pm (got E pk) 4), .int .u64 (pm (got E pk) 5), .int .u64 (pm (got E pk) 6), .int .u64 (pm (got E pk) 7), .int .u64 (pm (got E pk) 8), .int .u64 (pm (got E pk) 9)] Xg16 0 ?_
    refine ts Xg2 0 (.agg #[.int .u64 (pm (got E pk) 0), .int .u64 (pm (got E pk) 1), .int .u64 (pm (got E pk) 2), .int .u64 (pm (got E pk) 3), .int .u64 (pm (got E pk) 4), .int .u64 (pm (got E pk) 5), .int .u64 (pm (got E pk) 6), .int .u64 (pm (got E pk) 7), .int .u64 (pm (got E pk) 8), .int .u64 (pm (got E pk) 9)]) [.int .u64 (pm (got E pk) 0), .int .u64 (pm (got E pk) 1), .int .u64 (pm (got E pk) 2), .int .u64 (pm (got E pk) 3), .int .u64 (pm (got E pk) 4), .int .u64 (pm (got E pk) 5), .int .u64 (pm (got E pk) 6), .int .u64 (pm (got E pk) 7), .int .u64 (pm (got E pk) 8), .int .u64 (pm (got E pk) 9)] [.int .u64 (pm (got E pk) 0), .int .u64 (pm (got E pk) 1), .int .u64 (pm (got E pk) 2), .int .u64 (pm (got E pk) 3), .int .u64 (pm (got E pk) 4), .int .u64 (pm (got E pk) 5), .int .u64 (pm (got E pk) 6), .int .u64 (pm (got E pk) 7), .int .u64 (pm (got E pk) 8), .int .u64 (pm (got E pk) 9)] ?_
    intro v18 Y C
    replace A := Ar.cell A Xg2 C zg2 nXg2 (by decide)
    replace Xg16 := Xg16.chg C (show g16 ≠ g2 by omega)
    clear C Xg2
    have Xg2 := Y
    clear Y
    refine gl_nil ?_
    refine ge_then ?_
    refine gc_ret ?_
    refine ge_ret (.agg #[.int .u64 (pm (got E pk) 0), .int .u64 (pm (got E pk) 1), .int .u64 (pm (got E pk) 2), .int .u64 (pm (got E pk) 3), .int .u64 (pm (got E pk) 4), .int .u64 (pm (got E pk) 5), .int .u64 (pm (got E pk) 6), .int .u64 (pm (got E pk) 7), .int .u64 (pm (got E pk) 8), .int .u64 (pm (got E pk) 9)]) (rsc 2 (T := 35) (by kernel_rfl) (by kernel_rfl) (lr Xg2 0)) ?_
    exact ⟨rfl, _, A.rx, A.xm, A.cc⟩
  · refine tc 10 54 #[pg q, kv4] (rxget A.rx U3 (by rw [pk_eq]; decide) (by omega) (by omega) (Bool.eq_false_iff.2 c9)) ?_
    rintro _ v22 ⟨gv19, rfl, U20, K21, S, hK, hC⟩
    refine ⟨_, rfl, ?_⟩
    have mXg2 := not_op Xg2 nXg2 hK
    replace Xg2 := Xg2.chg hC nXg2
    replace nXg2 := mXg2
    clear mXg2
    replace U3 := A.byu U3 hC
    replace A := A.op S hK hC
    clear S hK hC
    clear U3
    refine t 7 (.tuple #[gv19, .bool false]) ?_
    refine t 11 (gv19) ?_
    refine t 12 (.bool false) ?_
    refine t 3 (gv19) ?_
    refine t 4 (.bool false) ?_
    refine gl_nil ?_
    refine ge_then ?_
    refine gc_seq ?_
    refine gc_seq ?_
    refine gc_reg ?_
    refine t 13 (.bool false) ?_
    refine t 14 (.bool true) ?_
    refine gl_nil ?_
    refine ge_then ?_
    refine gc_fr [(2, pg g2), (3, gv19), (14, .bool true)] (by kernel_rfl) ?_
    refine gc_yes ?_
    refine gc_seq ?_
    refine gc_reg ?_
    refine t 15 (.agg #[.int .u64 0, .int .u64 0, .int .u64 0, .int .u64 0, .int .u64 0, .int .u64 0, .int .u64 0, .int .u64 0, .int .u64 0, .int .u64 0]) ?_
    refine ts Xg2 0 (.agg #[.int .u64 0, .int .u64 0, .int .u64 0, .int .u64 0, .int .u64 0, .int .u64 0, .int .u64 0, .int .u64 0, .int .u64 0, .int .u64 0]) [.int .u64 0, .int .u64 0, .int .u64 0, .int .u64 0, .int .u64 0, .int .u64 0, .int .u64 0, .int .u64 0, .int .u64 0, .int .u64 0] [.int .u64 0, .int .u64 0, .int .u64 0, .int .u64 0, .int .u64 0, .int .u64 0, .int .u64 0, .int .u64 0, .int .u64 0, .int .u64 0] ?_
    intro v23 Y C
    replace A := Ar.cell A Xg2 C zg2 nXg2 (by decide)
    replace U20 := byu_cell U20 Xg2 C (by decide)
    clear C Xg2
    have Xg2 := Y
    clear Y
    refine gl_nil ?_
    refine ge_then ?_
    refine gc_ret ?_
    refine ge_tr ?_
    refine ge_ret (.agg #[.int .u64 0, .int .u64 0, .int .u64 0, .int .u64 0, .int .u64 0, .int .u64 0, .int .u64 0, .int .u64 0, .int .u64 0, .int .u64 0]) (rsc 2 (T := 35) (by kernel_rfl) (by kernel_rfl) (lr Xg2 0)) ?_
    have e0 : got E pk = [] := by
      unfold got
      cases e : Kv.look E pk with
      | none => rfl
      | some z => exact absurd (by rw [e]; rfl) c9
    have ef : fee E = 0 := by unfold fee; rw [e0]; exact feeB_nil
    rw [ef, e0, pm_nil]
    exact ⟨rfl, _, A.rx, A.xm, A.cc⟩
theorem setp15 {B : Nat} {w : World} {X : Nat → Prop} {q : Nat} {E : Ents} {n : Nat} {f : Int} (h : Rx B w X q E n) (hn : n + 2 ≤ 4000000000000000000) (hm : E.length + 1 ≤ 1000000) : Calls Tryz.prog 8 #[pg q, .agg #[.int .u64 0, .int .u64 0, .int .u64 0, .int .u64 0, .int .u64 0, .int .u64 0, .int .u64 0, .int .u64 0, .int .u64 f, .int .u64 0]] w (RxE B w X q (put E pk (ppv f)) (n + 1) (.tuple #[])) := by
  have A := h.at
  refine gc_enter (n := 9) Tryz.func8 rfl (by kernel_rfl) (by kernel_rfl) ?_
  refine gc_seq ?_
  refine gc_reg ?_
  refine ta 3 [.int .u64 0, .int .u64 0, .int .u64 0, .int .u64 0, .int .u64 0, .int .u64 0, .int .u64 0, .int .u64 0, .int .u64 f, .int .u64 0] 35 (pg) ?_
  intro v1 g2 Xg2 hg2 B
  have zg2 := Nat.le_trans A.size hg2
  have nXg2 := A.new hg2
  replace A := A.keep B
  clear B
  refine gl_nil ?_
  refine ge_then ?_
  replace A := A.drew
  replace Xg2 := Xg2.drew
  refine gc_draw (fun w' => Blk w' g2 [.int .u64 0, .int .u64 0, .int .u64 0, .int .u64 0, .int .u64 0, .int .u64 0, .int .u64 0, .int .u64 0, .int .u64 f, .int .u64 0] 35) (fun _ => false) Xg2 ?_
  refine z 0 4 (pg q) ?_
  refine zlr 2 6 [.int .u64 0, .int .u64 0, .int .u64 0, .int .u64 0, .int .u64 0, .int .u64 0, .int .u64 0, .int .u64 0, .int .u64 f, .int .u64 0] (fun _ h => h) 0 ?_
  refine zc 1 5 21 #[.int .i64 1, .int .u64 0, .int .u64 0] (key9p) ?_
  rintro _ v5 ⟨kv4, rfl, U3, B⟩
  replace A := A.keep B
  replace Xg2 := Xg2.keep B
  clear B
  refine ⟨_, rfl, Xg2, ?_⟩
  refine zc 3 7 22 #[.agg #[.int .u64 0, .int .u64 0, .int .u64 0, .int .u64 0, .int .u64 0, .int .u64 0, .int .u64 0, .int .u64 0, .int .u64 f, .int .u64 0]] (rput_par) ?_
  rintro _ v8 ⟨pv7, rfl, U6, B⟩
  replace A := A.keep B
  replace Xg2 := Xg2.keep B
  replace U3 := byu_keep U3 B
  clear B
  refine ⟨_, rfl, Xg2, ?_⟩
  refine zc 4 8 20 #[pg q, kv4, pv7] (rxset A.rx U3 U6 (by omega) (by omega) (pk_set f)) ?_
  rintro _ v11 ⟨rfl, K9, S, hK, hC⟩
  have mXg2 := not_op Xg2 nXg2 hK
  replace Xg2 := Xg2.chg hC nXg2
  replace nXg2 := mXg2
  clear mXg2
  replace U3 := A.byu U3 hC
  replace U6 := A.byu U6 hC
  replace A := A.op S hK hC
  clear S hK hC
  clear U3
  clear U6
  refine ⟨_, rfl, Xg2, ?_⟩
  refine gz_done ?_
  refine ge_end (.tuple #[]) (rs0 (by kernel_rfl)) ?_
  exact ⟨rfl, _, A.rx, A.xm, A.cc⟩
section
variable {E : Ents} {a b k id s q f : Int}
theorem ok_move (c : Can E) (ha : U64 a) (hb : U64 b) (hk : U64 k) : Ok (moveE E a b k) := by
  by_cases h : moveR E a b k = 0
  · by_cases e : a = b
    · rw [move_same e]; exact c.ok
    · obtain ⟨q, h1, h2⟩ := move_yes h e
      obtain ⟨v1, _⟩ := move9_rng c ha hb hk h
      have cb := c.ok.cr b
      unfold holdsP at h2
      rw [q]
      exact lay_ok (lay_ok c.ok ha v1 (c.ok.sr a)) hb (by unfold U64 at *; omega) (c.ok.sr b)
  · rw [move_no h]; exact c.ok
theorem can_mv (c : Can E) (ha : U64 a) (hb : U64 b) (hk : U64 k) : Can (moveE E a b k) := can_move c (ok_move c ha hb hk) ha hb hk
theorem can_bp (c : Can E) (hid : U64 id) : Can (bumpE E id) := by
  by_cases h : bumpR id = 0
  · rw [bump_yes h]
    exact can_lay c (lay_ok c.ok hid (c.ok.cr id) (mod_u _)) hid (c.ok.cr id) (mod_u _) (c.cap id hid)
  · rw [bump_no h]; exact c
theorem can_mi (c : Can E) (hid : U64 id) (hk : U64 k) : Can (mintE E id k) := by
  refine can_mint c ?_ hid hk
  by_cases h : mintR E id k = 0
  · obtain ⟨e, hh⟩ := mint_yes h
    have := c.ok.cr id
    unfold holdsP at hh
    rw [e]
    exact lay_ok c.ok hid (by unfold U64 at *; omega) (c.ok.sr id)
  · rw [mint_no h]; exact c.ok
theorem can_ad (c : Can E) (hs : U64 s) (hf : U64 f) : Can (admE E s q f) := by
  unfold admE
  split
  · exact can_bp (can_mv c hs u1 hf) hs
  · exact c
theorem move_len (E : Ents) (a b k : Int) : (moveE E a b k).length ≤ E.length + 2 := by
  unfold moveE
  split
  · exact Nat.le_trans (lay_len _ _ _ _) (Nat.succ_le_succ (lay_len _ _ _ _))
  · omega
theorem can_put {f : Int} : Can (put [] pk (ppv f)) := by
  have lk : ∀ j, Kv.look (put [] pk (ppv f)) (ak j) = none := fun j => by
    rw [look_put List.Pairwise.nil, if_neg (fun e => ak_pk j e.symm)]
    rfl
  have c : ∀ j, coin (put [] pk (ppv f)) j = 0 := fun j => by unfold coin; rw [lk]; exact coinB_nil
  have s : ∀ j, seqn (put [] pk (ppv f)) j = 0 := fun j => by unfold seqn; rw [lk]; exact seqB_nil
  refine ⟨⟨Rise.put (E := []) List.Pairwise.nil _ _, fun e h => ?_, fun j => by rw [c]; exact ⟨by decide, by decide⟩, fun j => by rw [s]; exact ⟨by decide, by decide⟩⟩, fun j _ => ?_, fun j _ => by rw [c]; decide⟩
  · rcases put_mem h with h | rfl
    · cases h
    · exact .inr rfl
  · rw [c, s, lk]
    rfl
end
theorem adm18 {B : Nat} {w : World} {X : Nat → Prop} {p : Nat} {E : Ents} {n : Nat} {s q f m a b c : Int} (h : Rx B w X p E n) (o : Can E) (hs : 0 ≤ s ∧ s < 18446744073709551616) (hf : 0 ≤ f ∧ f < 18446744073709551616) (hn : n + 40 ≤ 4000000000000000000) (hm : E.length + 20 ≤ 1000000) : Calls Tryz.prog 12 #[pg p, .agg #[.int .u64 s, .int .u64 q, .int .u64 f, .int .i64 m, .int .u64 a, .int .u64 b, .int .u64 c]] w (RxF B w X p (admE E s q f) n 40 (.int .i64 (admR E s q f))) := by
  have A := h.at
  refine gc_enter (n := 43) Tryz.func12 rfl (by kernel_rfl) (by kernel_rfl) ?_
  refine gc_seq ?_
  refine gc_reg ?_
  refine ta 3 [.int .u64 s, .int .u64 q, .int .u64 f, .int .i64 m, .int .u64 a, .int .u64 b, .int .u64 c] 46 (pg) ?_
  intro v1 g2 Xg2 hg2 B
  have zg2 := Nat.le_trans A.size hg2
  have nXg2 := A.new hg2
  replace A := A.keep B
  clear B
  refine t 4 (.int .i64 0) ?_
  refine gl_nil ?_
  refine ge_then ?_
  refine gc_seq ?_
  refine gc_seq ?_
  refine gc_reg ?_
  refine t 7 (pg g2) ?_
  refine tl 8 (.int .u64 s) Xg2 0 ?_
  by_cases c3 : (s : Int) < 16
  · refine tq 9 (.bool (decide ((s : Int) < 16))) (.bool true) (congrArg Value.bool (decide_eq_true c3)) ?_
    refine gl_nil ?_
    refine ge_then ?_
    refine gc_yes ?_
    refine gc_seq ?_
    refine gc_reg ?_
    refine t 4 (.int .i64 180) ?_
    refine gl_nil ?_
    refine ge_then ?_
    refine gc_ret ?_
    refine ge_tr ?_
    refine ge_ret (.int .i64 180) (rs1 4 (by kernel_rfl) (by kernel_rfl)) ?_
    have e1 : admR E s q f = 180 := by
      unfold admR
      rw [if_pos c3]
    rw [adm_no (q := q) (show admR E s q f ≠ 0 by rw [e1]; decide), e1]
    exact ⟨rfl, _, _, A.rx, by omega, A.xm, A.cc⟩
  · refine tq 9 (.bool (decide ((s : Int) < 16))) (.bool false) (congrArg Value.bool (decide_eq_false c3)) ?_
    refine gl_nil ?_
    refine ge_then ?_
    refine gc_no ?_
    refine gc_skip ?_
    refine ge_then ?_
    refine gc_seq ?_
    refine gc_seq ?_
    replace A := A.drew
    replace Xg2 := Xg2.drew
    refine gc_draw (fun w' => Blk w' g2 [.int .u64 s, .int .u64 q, .int .u64 f, .int .i64 m, .int .u64 a, .int .u64 b, .int .u64 c] 46) (fun _ => false) Xg2 ?_
    refine z 0 10 (pq g2 2) ?_
    refine zl 1 11 (.int .u64 f) (fun _ h => h) 2 ?_
    refine z 2 12 (pg p) ?_
    refine zc 3 13 34 #[pg p] (par15 A.rx (by omega) (by omega)) ?_
    rintro _ v6 ⟨rfl, K4, S, hK, hC⟩
    have mXg2 := not_op Xg2 nXg2 hK
    replace Xg2 := Xg2.chg hC nXg2
    replace nXg2 := mXg2
    clear mXg2
    replace A := A.op S hK hC
    clear S hK hC
    refine ⟨_, rfl, Xg2, ?_⟩
    refine z 4 14 (.int .u64 (fee E)) ?_
    by_cases c7 : (f : Int) < fee E
    · refine zq 5 15 (.bool (decide ((f : Int) < fee E))) (.bool true) (congrArg Value.bool (decide_eq_true c7)) ?_
      refine gz_done ?_
      refine ge_then ?_
      refine gc_fr [(0, pg p), (3, pg g2), (4, .int .i64 0), (15, .bool true)] (by kernel_rfl) ?_
      refine gc_yes ?_
      refine gc_seq ?_
      refine gc_reg ?_
      refine t 4 (.int .i64 181) ?_
      refine gl_nil ?_
      refine ge_then ?_
      refine gc_ret ?_
      refine ge_tr ?_
      refine ge_ret (.int .i64 181) (rs1 4 (by kernel_rfl) (by kernel_rfl)) ?_
      have e1 : admR E s q f = 181 := by
        unfold admR
        rw [if_neg c3, if_pos c7]
      rw [adm_no (q := q) (show admR E s q f ≠ 0 by rw [e1]; decide), e1]
      exact ⟨rfl, _, _, A.rx, by omega, A.xm, A.cc⟩
    · refine zq 5 15 (.bool (decide ((f : Int) < fee E))) (.bool false) (congrArg Value.bool (decide_eq_false c7)) ?_
      refine gz_done ?_
      refine ge_then ?_
      refine gc_fr [(0, pg p), (3, pg g2), (4, .int .i64 0), (15, .bool false)] (by kernel_rfl) ?_
      refine gc_no ?_
      refine gc_skip ?_
      refine ge_then ?_
      refine gc_seq ?_
      refine gc_reg ?_
      refine t 16 (pg p) ?_
      refine t 17 (pg g2) ?_
      refine tl 18 (.int .u64 s) Xg2 0 ?_
      refine tc 19 27 #[pg p, .int .u64 s] (get9 A.rx hs (by omega) (by omega)) ?_
      rintro _ v10 ⟨rfl, K8, S, hK, hC⟩
      refine ⟨_, rfl, ?_⟩
      have mXg2 := not_op Xg2 nXg2 hK
      replace Xg2 := Xg2.chg hC nXg2
      replace nXg2 := mXg2
      clear mXg2
      replace A := A.op S hK hC
      clear S hK hC
      have lXg2 := Xg2.lt
      refine ta 5 [.int .u64 0, .int .u64 0] 52 (pg) ?_
      intro v11 g12 Xg12 hg12 B
      have zg12 := Nat.le_trans A.size hg12
      have nXg12 := A.new hg12
      replace A := A.keep B
      replace Xg2 := Xg2.keep B
      clear B
      refine ts Xg12 0 (.agg #[.int .u64 (coin E s), .int .u64 (seqn E s)]) [.int .u64 (coin E s), .int .u64 (seqn E s)] [.int .u64 (coin E s), .int .u64 (seqn E s)] ?_
      intro v13 Y C
      replace A := Ar.cell A Xg12 C zg12 nXg12 (by decide)
      replace Xg2 := Xg2.chg C (show g2 ≠ g12 by omega)
      clear C Xg12
      have Xg12 := Y
      clear Y
      refine gl_nil ?_
      refine ge_then ?_
      refine gc_seq ?_
      refine gc_seq ?_
      refine gc_reg ?_
      refine t 20 (pg g12) ?_
      refine tl 21 (.int .u64 (coin E s)) Xg12 0 ?_
      refine t 22 (pq g2 2) ?_
      refine tl 23 (.int .u64 f) Xg2 2 ?_
      by_cases c14 : (coin E s : Int) < f
      · refine tq 24 (.bool (decide ((coin E s : Int) < f))) (.bool true) (congrArg Value.bool (decide_eq_true c14)) ?_
        refine gl_nil ?_
        refine ge_then ?_
        refine gc_yes ?_
        refine gc_seq ?_
        refine gc_reg ?_
        refine t 4 (.int .i64 182) ?_
        refine gl_nil ?_
        refine ge_then ?_
        refine gc_ret ?_
        refine ge_tr ?_
        refine ge_ret (.int .i64 182) (rs1 4 (by kernel_rfl) (by kernel_rfl)) ?_
        have e1 : admR E s q f = 182 := by
          unfold admR
          rw [if_neg c3, if_neg c7, if_pos c14]
        rw [adm_no (q := q) (show admR E s q f ≠ 0 by rw [e1]; decide), e1]
        exact ⟨rfl, _, _, A.rx, by omega, A.xm, A.cc⟩
      · refine tq 24 (.bool (decide ((coin E s : Int) < f))) (.bool false) (congrArg Value.bool (decide_eq_false c14)) ?_
        refine gl_nil ?_
        refine ge_then ?_
        refine gc_no ?_
        refine gc_skip ?_
        refine ge_then ?_
        refine gc_seq ?_
        refine gc_seq ?_
        refine gc_reg ?_
        refine t 25 (pq g12 1) ?_
        refine tl 26 (.int .u64 (seqn E s)) Xg12 1 ?_
        refine t 27 (pq g2 1) ?_
        refine tl 28 (.int .u64 q) Xg2 1 ?_
        by_cases c15 : (seqn E s : Int) = q
        · refine tq 29 (.bool ((seqn E s : Int) != q)) (.bool false) (congrArg Value.bool (bne_eq_false_iff_eq.2 c15)) ?_
          refine gl_nil ?_
          refine ge_then ?_
          refine gc_fr [(0, pg p), (3, pg g2), (4, .int .i64 0), (29, .bool false)] (by kernel_rfl) ?_
          refine gc_no ?_
          refine gc_skip ?_
          refine ge_then ?_
          refine gc_seq ?_
          refine gc_reg ?_
          refine t 30 (pg p) ?_
          refine t 31 (pg g2) ?_
          refine tl 32 (.int .u64 s) Xg2 0 ?_
          refine t 33 (pq g2 2) ?_
          refine tl 34 (.int .u64 f) Xg2 2 ?_
          refine tc 35 35 #[pg p, .int .u64 s, .int .u64 1, .int .u64 f] (move9 A.rx o hs u1 hf (by omega) (by omega)) ?_
          rintro _ v18 ⟨rfl, K16, n17, S, qn17, hK, hC⟩
          refine ⟨_, rfl, ?_⟩
          have mXg2 := not_op Xg2 nXg2 hK
          replace Xg2 := Xg2.chg hC nXg2
          replace nXg2 := mXg2
          clear mXg2
          have mXg12 := not_op Xg12 nXg12 hK
          replace Xg12 := Xg12.chg hC nXg12
          replace nXg12 := mXg12
          clear mXg12
          replace A := A.op S hK hC
          clear S hK hC
          refine t 6 (.int .i64 (moveR E s 1 f)) ?_
          refine gl_nil ?_
          refine ge_then ?_
          refine gc_seq ?_
          refine gc_seq ?_
          refine gc_reg ?_
          refine t 36 (.int .i64 (moveR E s 1 f)) ?_
          by_cases c19 : (moveR E s 1 f : Int) = 0
          · refine tq 37 (.bool ((moveR E s 1 f : Int) != 0)) (.bool false) (congrArg Value.bool (bne_eq_false_iff_eq.2 c19)) ?_
            refine gl_nil ?_
            refine ge_then ?_
            refine gc_no ?_
            refine gc_skip ?_
            refine ge_then ?_
            refine gc_seq ?_
            refine gc_reg ?_
            refine t 39 (pg p) ?_
            refine t 40 (pg g2) ?_
            refine tl 41 (.int .u64 s) Xg2 0 ?_
            refine tc 42 36 #[pg p, .int .u64 s] (bump9 A.rx (can_mv o hs u1 hf) hs (by omega) (by have := move_len E s 1 f; omega)) ?_
            rintro _ v22 ⟨rfl, K20, n21, S, qn21, hK, hC⟩
            refine ⟨_, rfl, ?_⟩
            have mXg2 := not_op Xg2 nXg2 hK
            replace Xg2 := Xg2.chg hC nXg2
            replace nXg2 := mXg2
            clear mXg2
            have mXg12 := not_op Xg12 nXg12 hK
            replace Xg12 := Xg12.chg hC nXg12
            replace nXg12 := mXg12
            clear mXg12
            replace A := A.op S hK hC
            clear S hK hC
            refine gl_nil ?_
            refine ge_then ?_
            refine gc_fr [(4, .int .i64 0)] (by kernel_rfl) ?_
            refine gc_seq ?_
            refine gc_reg ?_
            refine t 4 (.int .i64 0) ?_
            refine gl_nil ?_
            refine ge_then ?_
            refine gc_ret ?_
            refine ge_ret (.int .i64 0) (rs1 4 (by kernel_rfl) (by kernel_rfl)) ?_
            have e1 : admR E s q f = moveR E s 1 f := by
              unfold admR
              rw [if_neg c3, if_neg c7, if_neg c14, if_neg (fun c => c c15.symm)]
            rw [show admE E s q f = _ from if_pos (e1.trans c19), e1, c19]
            exact ⟨rfl, _, _, A.rx, by omega, A.xm, A.cc⟩
          · refine tq 37 (.bool ((moveR E s 1 f : Int) != 0)) (.bool true) (congrArg Value.bool (bne_iff_ne.2 c19)) ?_
            refine gl_nil ?_
            refine ge_then ?_
            refine gc_yes ?_
            refine gc_seq ?_
            refine gc_reg ?_
            refine t 38 (.int .i64 (moveR E s 1 f)) ?_
            refine t 4 (.int .i64 (moveR E s 1 f)) ?_
            refine gl_nil ?_
            refine ge_then ?_
            refine gc_ret ?_
            refine ge_tr ?_
            refine ge_ret (.int .i64 (moveR E s 1 f)) (rs1 4 (by kernel_rfl) (by kernel_rfl)) ?_
            have e1 : admR E s q f = moveR E s 1 f := by
              unfold admR
              rw [if_neg c3, if_neg c7, if_neg c14, if_neg (fun c => c c15.symm)]
            rw [adm_no (q := q) (show admR E s q f ≠ 0 by rw [e1]; exact c19), e1]
            rw [move_no c19] at A
            exact ⟨rfl, _, _, A.rx, by omega, A.xm, A.cc⟩
        · refine tq 29 (.bool ((seqn E s : Int) != q)) (.bool true) (congrArg Value.bool (bne_iff_ne.2 c15)) ?_
          refine gl_nil ?_
          refine ge_then ?_
          refine gc_fr [(0, pg p), (3, pg g2), (4, .int .i64 0), (29, .bool true)] (by kernel_rfl) ?_
          refine gc_yes ?_
          refine gc_seq ?_
          refine gc_reg ?_
          refine t 4 (.int .i64 183) ?_
          refine gl_nil ?_
          refine ge_then ?_
          refine gc_ret ?_
          refine ge_tr ?_
          refine ge_ret (.int .i64 183) (rs1 4 (by kernel_rfl) (by kernel_rfl)) ?_
          have e1 : admR E s q f = 183 := by
            unfold admR
            rw [if_neg c3, if_neg c7, if_neg c14, if_pos (fun c => c15 c.symm)]
          rw [adm_no (q := q) (show admR E s q f ≠ 0 by rw [e1]; decide), e1]
          exact ⟨rfl, _, _, A.rx, by omega, A.xm, A.cc⟩
end Bk
end Go.Proofs.YtagnmdejdeeenaaGreat
