/- Package stake: what Create stands on, at a closed store. -/
import Derived.Test.YtpoifdokmjhclaaGreatJgT
import Derived.Test.YtpoifdokmjhclaaGreatJgU
namespace Go.Proofs.YtpoifdokmjhclaaGreat
namespace Fo
open Go.RowKit Go.Lib Pg Lim Gl Kv Bk Pw Sd Di
attribute [local go_sem] Oper.semAt_some
set_option maxRecDepth 100000
set_option linter.unusedVariables false
set_option linter.unusedSimpArgs false
set_option maxHeartbeats 4000000
theorem genBack_walk {w : World} {p0 p1 p2 p3 p4 p5 p6 p7 p8 p9 : Int} {a1 a2 ao : Option Addr} {na nv c1 c2 b1 b2 o1 o2 b n c : Nat} {A V l : List Int} (hp : ∀ x ∈ ([p0, p1, p2, p3, p4, p5, p6, p7, p8, p9] : List Int), Mg.In8 x) (N1 : Gn.Nl w a1 na 2 b1 o1 A) (N2 : Gn.Nl w a2 nv 3 b2 o2 V) (hna : na ≤ 9223372036854775807) (hnv : nv ≤ 9223372036854775807) (H : ByA w b ao n c l) (hn : n ≤ 9223372036854775807) : Calls Tryz.prog 4 #[.agg #[.int .u64 p0, .int .u64 p1, .int .u64 p2, .int .u64 p3, .int .u64 p4, .int .u64 p5, .int .u64 p6, .int .u64 p7, .int .u64 p8, .int .u64 p9, .slice a1 na c1, .slice a2 nv c2], .slice ao n c] w fun e w' => e = .returned (.bool true) ∧ Below w.heap.size w w' := by
  have BB := Below.refl w.heap.size w
  refine gc_enter (n := 66) Tryz.func4 rfl (by kernel_rfl) (by kernel_rfl) ?_
  refine gc_seq ?_
  refine gc_reg ?_
  refine ta 2 [.int .u64 p0, .int .u64 p1, .int .u64 p2, .int .u64 p3, .int .u64 p4, .int .u64 p5, .int .u64 p6, .int .u64 p7, .int .u64 p8, .int .u64 p9, .slice a1 na c1, .slice a2 nv c2] 28 (pg) ?_
  intro v1 g2 Xg2 hg2 B
  have zg2 : w.heap.size ≤ g2 := Nat.le_trans BB.size hg2
  replace BB := joinB BB B
  clear B
  refine t 4 (.bool false) ?_
  refine gl_nil ?_
  refine ge_then ?_
  refine gc_seq ?_
  refine gc_seq ?_
  refine gc_reg ?_
  have lXg2 := Xg2.lt
  refine tc 10 5 #[] (known21) ?_
  rintro _ v3 ⟨rfl, B⟩
  refine ⟨_, rfl, ?_⟩
  replace BB := joinB BB B
  replace Xg2 := Xg2.keep B
  clear B
  refine t 11 (.bool false) ?_
  refine gl_nil ?_
  refine ge_then ?_
  refine gc_no ?_
  refine gc_skip ?_
  refine ge_then ?_
  refine gc_seq ?_
  refine gc_seq ?_
  refine gc_reg ?_
  refine t 12 (pq g2 10) ?_
  refine tl 13 (.slice a1 na c1) Xg2 10 ?_
  refine t 14 (.int .i64 ((na : Nat) : Int)) ?_
  by_cases ci4 : (256 : Int) < ((na : Nat) : Int)
  · refine tq 15 (.bool (decide ((256 : Int) < ((na : Nat) : Int)))) (.bool true) (congrArg Value.bool (decide_eq_true ci4)) ?_
    refine t 16 (.bool true) ?_
    refine tn 17 ?_
    refine tn 18 ?_
    refine tn 19 ?_
    refine tn 20 ?_
    refine t 21 (.bool true) ?_
    refine t 22 (.bool true) ?_
    refine tn 23 ?_
    refine tn 24 ?_
    refine tn 25 ?_
    refine t 26 (.bool true) ?_
    refine gl_nil ?_
    refine ge_then ?_
    refine gc_fr [(1, .slice ao n c), (2, pg g2), (4, .bool false), (26, .bool true)] (by kernel_rfl) ?_
    refine gc_yes ?_
    refine gc_seq ?_
    refine gc_reg ?_
    refine t 4 (.bool true) ?_
    refine gl_nil ?_
    refine ge_then ?_
    refine gc_ret ?_
    refine ge_tr ?_
    refine ge_ret (.bool true) (rs1 4 (by kernel_rfl) (by kernel_rfl)) ?_
    exact ⟨rfl, BB⟩
  · refine tq 15 (.bool (decide ((256 : Int) < ((na : Nat) : Int)))) (.bool false) (congrArg Value.bool (decide_eq_false ci4)) ?_
    refine t 16 (.bool false) ?_
    refine t 17 (pq g2 11) ?_
    refine tl 18 (.slice a2 nv c2) Xg2 11 ?_
    refine t 19 (.int .i64 ((nv : Nat) : Int)) ?_
    by_cases ci7 : (64 : Int) < ((nv : Nat) : Int)
    · refine tq 20 (.bool (decide ((64 : Int) < ((nv : Nat) : Int)))) (.bool true) (congrArg Value.bool (decide_eq_true ci7)) ?_
      refine t 21 (.bool true) ?_
      refine t 22 (.bool true) ?_
      refine tn 23 ?_
      refine tn 24 ?_
      refine tn 25 ?_
      refine t 26 (.bool true) ?_
      refine gl_nil ?_
      refine ge_then ?_
      refine gc_fr [(1, .slice ao n c), (2, pg g2), (4, .bool false), (26, .bool true)] (by kernel_rfl) ?_
      refine gc_yes ?_
      refine gc_seq ?_
      refine gc_reg ?_
      refine t 4 (.bool true) ?_
      refine gl_nil ?_
      refine ge_then ?_
      refine gc_ret ?_
      refine ge_tr ?_
      refine ge_ret (.bool true) (rs1 4 (by kernel_rfl) (by kernel_rfl)) ?_
      exact ⟨rfl, BB⟩
    · refine tq 20 (.bool (decide ((64 : Int) < ((nv : Nat) : Int)))) (.bool false) (congrArg Value.bool (decide_eq_false ci7)) ?_
      refine t 21 (.bool false) ?_
      refine t 22 (.bool false) ?_
      refine t 23 (.slice ao n c) ?_
      refine t 24 (.int .i64 ((n : Nat) : Int)) ?_
      by_cases ci10 : (65546 : Int) < ((n : Nat) : Int)
      · refine tq 25 (.bool (decide ((65546 : Int) < ((n : Nat) : Int)))) (.bool true) (congrArg Value.bool (decide_eq_true ci10)) ?_
        refine t 26 (.bool true) ?_
        refine gl_nil ?_
        refine ge_then ?_
        refine gc_fr [(1, .slice ao n c), (2, pg g2), (4, .bool false), (26, .bool true)] (by kernel_rfl) ?_
        refine gc_yes ?_
        refine gc_seq ?_
        refine gc_reg ?_
        refine t 4 (.bool true) ?_
        refine gl_nil ?_
        refine ge_then ?_
        refine gc_ret ?_
        refine ge_tr ?_
        refine ge_ret (.bool true) (rs1 4 (by kernel_rfl) (by kernel_rfl)) ?_
        exact ⟨rfl, BB⟩
      · refine tq 25 (.bool (decide ((65546 : Int) < ((n : Nat) : Int)))) (.bool false) (congrArg Value.bool (decide_eq_false ci10)) ?_
        refine t 26 (.bool false) ?_
        refine gl_nil ?_
        refine ge_then ?_
        refine gc_fr [(1, .slice ao n c), (2, pg g2), (4, .bool false), (26, .bool false)] (by kernel_rfl) ?_
        refine gc_no ?_
        refine gc_skip ?_
        refine ge_then ?_
        refine gc_seq ?_
        refine gc_reg ?_
        refine tlr 27 [.int .u64 p0, .int .u64 p1, .int .u64 p2, .int .u64 p3, .int .u64 p4, .int .u64 p5, .int .u64 p6, .int .u64 p7, .int .u64 p8, .int .u64 p9, .slice a1 na c1, .slice a2 nv c2] Xg2 0 ?_
        obtain ⟨L, hL⟩ : ∃ L, Gn.bG ⟨[p0, p1, p2, p3, p4, p5, p6, p7, p8, p9], A, V⟩ na nv = L := ⟨_, rfl⟩
        obtain ⟨m, hm⟩ : ∃ m, L.length = m := ⟨_, rfl⟩
        have ok : Gn.Ge.Ok ⟨[p0, p1, p2, p3, p4, p5, p6, p7, p8, p9], A, V⟩ na nv := ⟨rfl, N1.len, N2.len, hp, N1.rng, N2.rng⟩
        obtain ⟨hE, hG, hL6⟩ := back0 ok (by omega) (by omega)
        have hF := back1 ok (by omega) (by omega)
        have hO := Gn.bG_oct ⟨[p0, p1, p2, p3, p4, p5, p6, p7, p8, p9], A, V⟩ na nv
        rw [hL] at hE hG hL6 hF hO
        rw [hm] at hL6
        have lXg2 := Xg2.lt
        refine tc 28 11 #[.agg #[.int .u64 p0, .int .u64 p1, .int .u64 p2, .int .u64 p3, .int .u64 p4, .int .u64 p5, .int .u64 p6, .int .u64 p7, .int .u64 p8, .int .u64 p9, .slice a1 na c1, .slice a2 nv c2]] (enc_n (N1.keep BB) (N2.keep BB) hL hm (by omega) (by omega)) ?_
        rintro _ v14 ⟨b13, rfl, Xb13, hb13, B⟩
        refine ⟨_, rfl, ?_⟩
        replace BB := joinB BB B
        replace Xg2 := Xg2.keep B
        clear B
        refine t 5 (.slice (some ⟨b13, 0, none⟩) m m) ?_
        refine gl_nil ?_
        refine ge_then ?_
        refine gc_seq ?_
        refine gc_reg ?_
        refine t 30 (.slice (some ⟨b13, 0, none⟩) m m) ?_
        have lXg2 := Xg2.lt
        have lXb13 := Xb13.lt
        refine tc 31 8 #[.slice (some ⟨b13, 0, none⟩) m m] (dec_g (by_bm Xb13 hO hm (by omega)) (by omega) hE hG ok) ?_
        rintro _ v15 ⟨a3, g3, a4, g4, rfl, N3, N4, B⟩
        refine ⟨_, rfl, ?_⟩
        replace BB := joinB BB B
        replace Xg2 := Xg2.keep B
        replace Xb13 := Xb13.keep B
        clear B
        have B3 := Below.refl v15.heap.size v15
        refine t 29 (.tuple #[.agg #[.int .u64 p0, .int .u64 p1, .int .u64 p2, .int .u64 p3, .int .u64 p4, .int .u64 p5, .int .u64 p6, .int .u64 p7, .int .u64 p8, .int .u64 p9, .slice a3 na na, .slice a4 nv nv], .int .i64 0]) ?_
        refine t 32 (.agg #[.int .u64 p0, .int .u64 p1, .int .u64 p2, .int .u64 p3, .int .u64 p4, .int .u64 p5, .int .u64 p6, .int .u64 p7, .int .u64 p8, .int .u64 p9, .slice a3 na na, .slice a4 nv nv]) ?_
        refine t 33 (.int .i64 0) ?_
        have lXg2 := Xg2.lt
        have lXb13 := Xb13.lt
        refine ta 6 [.int .u64 0, .int .u64 0, .int .u64 0, .int .u64 0, .int .u64 0, .int .u64 0, .int .u64 0, .int .u64 0, .int .u64 0, .int .u64 0, .slice none 0 0, .slice none 0 0] 28 (pg) ?_
        intro v16 g17 Xg17 hg17 B
        have zg17 : w.heap.size ≤ g17 := Nat.le_trans BB.size hg17
        have yg17 := Nat.le_trans B3.size hg17
        replace BB := joinB BB B
        replace Xg2 := Xg2.keep B
        replace Xb13 := Xb13.keep B
        replace B3 := joinB B3 B
        clear B
        refine ts Xg17 0 (.agg #[.int .u64 p0, .int .u64 p1, .int .u64 p2, .int .u64 p3, .int .u64 p4, .int .u64 p5, .int .u64 p6, .int .u64 p7, .int .u64 p8, .int .u64 p9, .slice a3 na na, .slice a4 nv nv]) [.int .u64 p0, .int .u64 p1, .int .u64 p2, .int .u64 p3, .int .u64 p4, .int .u64 p5, .int .u64 p6, .int .u64 p7, .int .u64 p8, .int .u64 p9, .slice a3 na na, .slice a4 nv nv] [.int .u64 p0, .int .u64 p1, .int .u64 p2, .int .u64 p3, .int .u64 p4, .int .u64 p5, .int .u64 p6, .int .u64 p7, .int .u64 p8, .int .u64 p9, .slice a3 na na, .slice a4 nv nv] ?_
        intro v18 Y C
        replace BB := belowC BB C (by omega)
        replace Xg2 := Xg2.chg C (show g2 ≠ g17 by omega)
        replace Xb13 := Xb13.chg C (show b13 ≠ g17 by omega)
        replace B3 := belowC B3 C (by omega)
        clear C Xg17
        have Xg17 := Y
        clear Y
        refine t 7 (.int .i64 0) ?_
        refine gl_nil ?_
        refine ge_then ?_
        refine gc_seq ?_
        refine gc_reg ?_
        refine t 35 (.slice (some ⟨b13, 0, none⟩) m m) ?_
        have lXg2 := Xg2.lt
        have lXb13 := Xb13.lt
        have lXg17 := Xg17.lt
        refine ta 36 [.int .u8 0] 5 (sg 1) ?_
        intro v19 g20 Xg20 hg20 B
        have zg20 : w.heap.size ≤ g20 := Nat.le_trans BB.size hg20
        have yg20 := Nat.le_trans B3.size hg20
        replace BB := joinB BB B
        replace Xg2 := Xg2.keep B
        replace Xb13 := Xb13.keep B
        replace B3 := joinB B3 B
        replace Xg17 := Xg17.keep B
        clear B
        have lXg2 := Xg2.lt
        have lXb13 := Xb13.lt
        have lXg17 := Xg17.lt
        have lXg20 := Xg20.lt
        obtain ⟨bb, cc, w5, hr5, A5, B5⟩ := app_fm Xb13 Xg20 hO hm ⟨by decide, by decide⟩ (by omega)
        refine tw 37 (.slice (some ⟨bb, 0, none⟩) (m + 1) cc) _ (run_apB hr5) ?_
        replace BB := joinB BB B5
        replace Xg2 := Xg2.keep B5
        replace Xb13 := Xb13.keep B5
        replace B3 := joinB B3 B5
        replace Xg17 := Xg17.keep B5
        replace Xg20 := Xg20.keep B5
        clear B5 hr5
        have lXg2 := Xg2.lt
        have lXb13 := Xb13.lt
        have lXg17 := Xg17.lt
        have lXg20 := Xg20.lt
        refine tc 38 8 #[.slice (some ⟨bb, 0, none⟩) (m + 1) cc] (dec_bad A5 (by omega) hF (by decide)) ?_
        rintro _ v21 ⟨b1, k1, b2, k2, rfl, B⟩
        refine ⟨_, rfl, ?_⟩
        replace BB := joinB BB B
        replace Xg2 := Xg2.keep B
        replace Xb13 := Xb13.keep B
        replace B3 := joinB B3 B
        replace Xg17 := Xg17.keep B
        replace Xg20 := Xg20.keep B
        clear B
        refine t 34 (.tuple #[.agg #[.int .u64 0, .int .u64 0, .int .u64 0, .int .u64 0, .int .u64 0, .int .u64 0, .int .u64 0, .int .u64 0, .int .u64 0, .int .u64 0, .slice b1 k1 k1, .slice b2 k2 k2], .int .i64 210]) ?_
        refine t 39 (.agg #[.int .u64 0, .int .u64 0, .int .u64 0, .int .u64 0, .int .u64 0, .int .u64 0, .int .u64 0, .int .u64 0, .int .u64 0, .int .u64 0, .slice b1 k1 k1, .slice b2 k2 k2]) ?_
        refine t 40 (.int .i64 210) ?_
        have lXg2 := Xg2.lt
        have lXb13 := Xb13.lt
        have lXg17 := Xg17.lt
        have lXg20 := Xg20.lt
        refine ta 8 [.int .u64 0, .int .u64 0, .int .u64 0, .int .u64 0, .int .u64 0, .int .u64 0, .int .u64 0, .int .u64 0, .int .u64 0, .int .u64 0, .slice none 0 0, .slice none 0 0] 28 (pg) ?_
        intro v22 g23 Xg23 hg23 B
        have zg23 : w.heap.size ≤ g23 := Nat.le_trans BB.size hg23
        have yg23 := Nat.le_trans B3.size hg23
        replace BB := joinB BB B
        replace Xg2 := Xg2.keep B
        replace Xb13 := Xb13.keep B
        replace B3 := joinB B3 B
        replace Xg17 := Xg17.keep B
        replace Xg20 := Xg20.keep B
        clear B
        refine ts Xg23 0 (.agg #[.int .u64 0, .int .u64 0, .int .u64 0, .int .u64 0, .int .u64 0, .int .u64 0, .int .u64 0, .int .u64 0, .int .u64 0, .int .u64 0, .slice b1 k1 k1, .slice b2 k2 k2]) [.int .u64 0, .int .u64 0, .int .u64 0, .int .u64 0, .int .u64 0, .int .u64 0, .int .u64 0, .int .u64 0, .int .u64 0, .int .u64 0, .slice b1 k1 k1, .slice b2 k2 k2] [.int .u64 0, .int .u64 0, .int .u64 0, .int .u64 0, .int .u64 0, .int .u64 0, .int .u64 0, .int .u64 0, .int .u64 0, .int .u64 0, .slice b1 k1 k1, .slice b2 k2 k2] ?_
        intro v24 Y C
        replace BB := belowC BB C (by omega)
        replace Xg2 := Xg2.chg C (show g2 ≠ g23 by omega)
        replace Xb13 := Xb13.chg C (show b13 ≠ g23 by omega)
        replace B3 := belowC B3 C (by omega)
        replace Xg17 := Xg17.chg C (show g17 ≠ g23 by omega)
        replace Xg20 := Xg20.chg C (show g20 ≠ g23 by omega)
        clear C Xg23
        have Xg23 := Y
        clear Y
        refine t 9 (.int .i64 210) ?_
        refine gl_nil ?_
        refine ge_then ?_
        refine gc_fr [(1, .slice ao n c), (2, pg g2), (4, .bool false), (6, pg g17), (7, .int .i64 0), (9, .int .i64 210)] (by kernel_rfl) ?_
        refine gc_seq ?_
        refine gc_seq ?_
        refine gc_reg ?_
        refine t 41 (.int .i64 0) ?_
        refine t 42 (.bool false) ?_
        refine t 43 (.bool false) ?_
        refine tlr 44 [.int .u64 p0, .int .u64 p1, .int .u64 p2, .int .u64 p3, .int .u64 p4, .int .u64 p5, .int .u64 p6, .int .u64 p7, .int .u64 p8, .int .u64 p9, .slice a3 na na, .slice a4 nv nv] Xg17 0 ?_
        refine tlr 45 [.int .u64 p0, .int .u64 p1, .int .u64 p2, .int .u64 p3, .int .u64 p4, .int .u64 p5, .int .u64 p6, .int .u64 p7, .int .u64 p8, .int .u64 p9, .slice a1 na c1, .slice a2 nv c2] Xg2 0 ?_
        have lXg2 := Xg2.lt
        have lXb13 := Xb13.lt
        have lXg17 := Xg17.lt
        have lXg20 := Xg20.lt
        have lXg23 := Xg23.lt
        refine tc 46 13 #[.agg #[.int .u64 p0, .int .u64 p1, .int .u64 p2, .int .u64 p3, .int .u64 p4, .int .u64 p5, .int .u64 p6, .int .u64 p7, .int .u64 p8, .int .u64 p9, .slice a3 na na, .slice a4 nv nv], .agg #[.int .u64 p0, .int .u64 p1, .int .u64 p2, .int .u64 p3, .int .u64 p4, .int .u64 p5, .int .u64 p6, .int .u64 p7, .int .u64 p8, .int .u64 p9, .slice a1 na c1, .slice a2 nv c2]] (Gn.same_t (N3.keep B3) (N4.keep B3) (N1.keep BB) (N2.keep BB) (by omega) (by omega)) ?_
        rintro _ v25 ⟨rfl, B⟩
        refine ⟨_, rfl, ?_⟩
        replace BB := joinB BB B
        replace Xg2 := Xg2.keep B
        replace Xb13 := Xb13.keep B
        replace B3 := joinB B3 B
        replace Xg17 := Xg17.keep B
        replace Xg20 := Xg20.keep B
        replace Xg23 := Xg23.keep B
        clear B
        refine t 47 (.bool false) ?_
        refine t 48 (.bool false) ?_
        refine t 49 (.bool false) ?_
        refine t 50 (.int .i64 210) ?_
        refine t 51 (.bool false) ?_
        refine t 52 (.bool false) ?_
        refine gl_nil ?_
        refine ge_then ?_
        refine gc_fr [(1, .slice ao n c), (4, .bool false), (6, pg g17), (7, .int .i64 0), (52, .bool false)] (by kernel_rfl) ?_
        refine gc_no ?_
        refine gc_skip ?_
        refine ge_then ?_
        refine gc_seq ?_
        refine gc_reg ?_
        refine t 54 (.slice ao n c) ?_
        have lXg2 := Xg2.lt
        have lXb13 := Xb13.lt
        have lXg17 := Xg17.lt
        have lXg20 := Xg20.lt
        have lXg23 := Xg23.lt
        refine tc 55 8 #[.slice ao n c] (dec_n (H.keep BB) (by omega)) ?_
        rintro _ v26 ⟨q0, q1, q2, q3, q4, q5, q6, q7, q8, q9, a5, m5, g5, a6, m6, g6, A1, V1, rfl, hd, NA, NV, k5, k6, B⟩
        refine ⟨_, rfl, ?_⟩
        replace BB := joinB BB B
        replace Xg2 := Xg2.keep B
        replace Xb13 := Xb13.keep B
        replace B3 := joinB B3 B
        replace Xg17 := Xg17.keep B
        replace Xg20 := Xg20.keep B
        replace Xg23 := Xg23.keep B
        clear B
        refine t 53 (.tuple #[.agg #[.int .u64 q0, .int .u64 q1, .int .u64 q2, .int .u64 q3, .int .u64 q4, .int .u64 q5, .int .u64 q6, .int .u64 q7, .int .u64 q8, .int .u64 q9, .slice a5 m5 m5, .slice a6 m6 m6], .int .i64 (Gn.eD l)]) ?_
        refine t 56 (.agg #[.int .u64 q0, .int .u64 q1, .int .u64 q2, .int .u64 q3, .int .u64 q4, .int .u64 q5, .int .u64 q6, .int .u64 q7, .int .u64 q8, .int .u64 q9, .slice a5 m5 m5, .slice a6 m6 m6]) ?_
        refine t 57 (.int .i64 (Gn.eD l)) ?_
        refine ts Xg17 0 (.agg #[.int .u64 q0, .int .u64 q1, .int .u64 q2, .int .u64 q3, .int .u64 q4, .int .u64 q5, .int .u64 q6, .int .u64 q7, .int .u64 q8, .int .u64 q9, .slice a5 m5 m5, .slice a6 m6 m6]) [.int .u64 q0, .int .u64 q1, .int .u64 q2, .int .u64 q3, .int .u64 q4, .int .u64 q5, .int .u64 q6, .int .u64 q7, .int .u64 q8, .int .u64 q9, .slice a5 m5 m5, .slice a6 m6 m6] [.int .u64 q0, .int .u64 q1, .int .u64 q2, .int .u64 q3, .int .u64 q4, .int .u64 q5, .int .u64 q6, .int .u64 q7, .int .u64 q8, .int .u64 q9, .slice a5 m5 m5, .slice a6 m6 m6] ?_
        intro v27 Y C
        replace BB := belowC BB C (by omega)
        replace Xg2 := Xg2.chg C (show g2 ≠ g17 by omega)
        replace Xb13 := Xb13.chg C (show b13 ≠ g17 by omega)
        replace B3 := belowC B3 C (by omega)
        replace Xg20 := Xg20.chg C (show g20 ≠ g17 by omega)
        replace Xg23 := Xg23.chg C (show g23 ≠ g17 by omega)
        replace NA := nlC NA C (fun h => by have := k5 h; omega)
        replace NV := nlC NV C (fun h => by have := k6 h; omega)
        clear C Xg17
        have Xg17 := Y
        clear Y
        refine t 7 (.int .i64 (Gn.eD l)) ?_
        refine gl_nil ?_
        refine ge_then ?_
        refine gc_seq ?_
        refine gc_reg ?_
        refine t 58 (.int .i64 (Gn.eD l)) ?_
        by_cases ci28 : (Gn.eD l : Int) = 0
        · refine tq 59 (.bool ((Gn.eD l : Int) != 0)) (.bool false) (congrArg Value.bool (bne_eq_false_iff_eq.2 ci28)) ?_
          refine t 60 (.bool false) ?_
          refine tlr 61 [.int .u64 q0, .int .u64 q1, .int .u64 q2, .int .u64 q3, .int .u64 q4, .int .u64 q5, .int .u64 q6, .int .u64 q7, .int .u64 q8, .int .u64 q9, .slice a5 m5 m5, .slice a6 m6 m6] Xg17 0 ?_
          obtain ⟨hb, hm5, hm6, hl6⟩ := hd ci28
          have lXg2 := Xg2.lt
          have lXb13 := Xb13.lt
          have lXg17 := Xg17.lt
          have lXg20 := Xg20.lt
          have lXg23 := Xg23.lt
          refine tc 62 11 #[.agg #[.int .u64 q0, .int .u64 q1, .int .u64 q2, .int .u64 q3, .int .u64 q4, .int .u64 q5, .int .u64 q6, .int .u64 q7, .int .u64 q8, .int .u64 q9, .slice a5 m5 m5, .slice a6 m6 m6]] (enc_n NA NV hb rfl (by omega) (by omega)) ?_
          rintro _ v31 ⟨b30, rfl, Xb30, hb30, B⟩
          refine ⟨_, rfl, ?_⟩
          replace BB := joinB BB B
          replace Xg2 := Xg2.keep B
          replace Xb13 := Xb13.keep B
          replace B3 := joinB B3 B
          replace Xg17 := Xg17.keep B
          replace Xg20 := Xg20.keep B
          replace Xg23 := Xg23.keep B
          replace NA := NA.keep B
          replace NV := NV.keep B
          clear B
          refine t 63 (.slice ao n c) ?_
          have lXg2 := Xg2.lt
          have lXb13 := Xb13.lt
          have lXg17 := Xg17.lt
          have lXg20 := Xg20.lt
          have lXg23 := Xg23.lt
          have lXb30 := Xb30.lt
          refine tc 64 10 #[.slice (some ⟨b30, 0, none⟩) l.length l.length, .slice ao n c] (bytS (by_bm Xb30 (by_oct H).1 rfl (by omega)) (H.keep BB) (by omega)) ?_
          rintro _ v32 ⟨rfl, B⟩
          refine ⟨_, rfl, ?_⟩
          replace BB := joinB BB B
          replace Xg2 := Xg2.keep B
          replace Xb13 := Xb13.keep B
          replace B3 := joinB B3 B
          replace Xg17 := Xg17.keep B
          replace Xg20 := Xg20.keep B
          replace Xg23 := Xg23.keep B
          replace NA := NA.keep B
          replace NV := NV.keep B
          replace Xb30 := Xb30.keep B
          clear B
          refine t 65 (.bool true) ?_
          refine t 4 (.bool true) ?_
          refine gl_nil ?_
          refine ge_then ?_
          refine gc_fr [(4, .bool true)] (by kernel_rfl) ?_
          refine gc_ret ?_
          refine ge_ret (.bool true) (rs1 4 (by kernel_rfl) (by kernel_rfl)) ?_
          exact ⟨rfl, BB⟩
        · refine tq 59 (.bool ((Gn.eD l : Int) != 0)) (.bool true) (congrArg Value.bool (bne_iff_ne.2 ci28)) ?_
          refine t 60 (.bool true) ?_
          refine tn 61 ?_
          refine tn 62 ?_
          refine tn 63 ?_
          refine tn 64 ?_
          refine t 65 (.bool true) ?_
          refine t 4 (.bool true) ?_
          refine gl_nil ?_
          refine ge_then ?_
          refine gc_fr [(4, .bool true)] (by kernel_rfl) ?_
          refine gc_ret ?_
          refine ge_ret (.bool true) (rs1 4 (by kernel_rfl) (by kernel_rfl)) ?_
          exact ⟨rfl, BB⟩
end Fo
end Go.Proofs.YtpoifdokmjhclaaGreat
