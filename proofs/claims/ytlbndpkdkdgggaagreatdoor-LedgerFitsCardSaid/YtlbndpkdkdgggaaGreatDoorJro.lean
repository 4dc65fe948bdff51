/- Several texts, joined: LgD. -/
import Derived.Test.YtlbndpkdkdgggaaGreatDoorJrj
import Derived.Test.YtlbndpkdkdgggaaGreatDoorJrm
import Derived.Test.YtlbndpkdkdgggaaGreatDoorJne
import Derived.Test.YtlbndpkdkdgggaaGreatDoorJrn
namespace Go.Proofs.YtlbndpkdkdgggaaGreatDoor
namespace Lg
open Go.RowKit Go.Lib Lim Pg Gl
set_option maxHeartbeats 4000000 in
set_option maxRecDepth 100000 in
theorem tFits {w : World} {a0 b0 aq : Option Addr} {n0 c0 m0 d0 nq cq : Nat} {r : Rat} {u x p k : Int} (E : VQ w a0 n0 c0 b0 m0 d0 r 320) (hu : 0 ≤ u ∧ u < 18446744073709551616) (X : NatA w aq nq cq x) (hq : nq ≤ 60) (hp : p ≤ 9223372036854775807) (hk : k ≤ 9223372036854775807) :
    Calls Tryz.prog 32 #[.agg #[.slice a0 n0 c0, .slice b0 m0 d0], .int .u64 u, .agg #[.slice aq nq cq], .int .i64 p, .int .i64 k] w fun e w' => e = .returned (.bool (fitV r u x p k)) ∧ Below w.heap.size w w' := by
  have hpp := pos_rng hp
  have hkk := pos_rng hk
  have fp := ft_paid hu.1 hu.2 X.nonneg (nat_lt X hq)
  have fr := ft_room hp hk
  have hp0 := paid_nn hu.1 X.nonneg
  have hr0 := room_nn hp hk
  have BB := Below.refl w.heap.size w
  refine gc_enter (n := 53) Tryz.func32 rfl (by kernel_rfl) (by kernel_rfl) ?_
  refine gc_seq ?_
  refine gc_reg ?_
  refine ta 5 [.slice a0 n0 c0, .slice b0 m0 d0] 40 (pg) ?_
  intro v1 g2 Xg2 hg2 B
  replace E := E.keep B
  replace X := X.keep B
  replace BB := joinB BB B
  clear B
  have lXg2 := Xg2.lt
  refine ta 7 [.slice aq nq cq] 35 (pg) ?_
  intro v3 g4 Xg4 hg4 B
  replace E := E.keep B
  replace X := X.keep B
  replace BB := joinB BB B
  replace Xg2 := Xg2.keep B
  clear B
  refine t 10 (.bool false) ?_
  refine gl_nil ?_
  refine ge_then ?_
  refine gc_seq ?_
  replace E := E.drew
  replace X := X.keep (Below.refl _ _).drew
  replace BB := BB.drew
  replace Xg2 := Xg2.drew
  replace Xg4 := Xg4.drew
  refine gc_draw (fun w' => Blk w' g4 [.slice aq nq cq] 35) (fun _ => false) Xg4 ?_
  refine z 0 17 (.int .u64 u) ?_
  refine zlr 2 19 [.slice aq nq cq] (fun _ h => h) 0 ?_
  refine gz_ready [1, 5] ?_
  refine ga_call 1 (some 18) 73 #[.int .u64 u] (eOf (x := u) (hu).1 (hu).2) ?_ ?_
  · rintro _ v6 ⟨an5, kn5, dn5, rfl, Nn5, ln5, B⟩
    replace E := E.keep B
    replace X := X.keep B
    replace BB := joinB BB B
    replace Xg2 := Xg2.keep B
    replace Xg4 := Xg4.keep B
    clear B
    refine ⟨_, rfl, Xg4, ?_⟩
    refine gz_ready [3, 5] ?_
    refine ga_call 3 (some 20) 72 #[.agg #[.slice an5 kn5 dn5], .agg #[.slice aq nq cq]] (eAdd Nn5.a X (by omega) (by omega)) ?_ ?_
    · rintro _ v8 ⟨an7, kn7, dn7, rfl, Nn7, ln7, B⟩
      replace E := E.keep B
      replace X := X.keep B
      replace BB := joinB BB B
      replace Xg2 := Xg2.keep B
      replace Xg4 := Xg4.keep B
      replace Nn5 := Nn5.keep B
      clear B
      refine ⟨_, rfl, Xg4, ?_⟩
      refine gz_ready [4, 5] ?_
      refine ga_call 4 (some 21) 56 #[.agg #[.slice an7 kn7 dn7]] (tpOfDec (B := 320) Nn7.a (by omega) (by omega) (by omega)) ?_ ?_
      · rintro _ v10 ⟨aq9, kq9, dq9, bq9, lq9, eq9, rfl, Qq9, B⟩
        replace E := E.keep B
        replace X := X.keep B
        replace BB := joinB BB B
        replace Xg2 := Xg2.keep B
        replace Xg4 := Xg4.keep B
        replace Nn5 := Nn5.keep B
        replace Nn7 := Nn7.keep B
        clear B
        refine ⟨_, rfl, Xg4, ?_⟩
        have lXg2 := Xg2.lt
        have lXg4 := Xg4.lt
        refine za 5 11 [.slice none 0 0, .slice none 0 0] 40 (pg) ?_
        intro v11 g12 Xg12 hg12 B
        replace E := E.keep B
        replace X := X.keep B
        replace BB := joinB BB B
        replace Xg2 := Xg2.keep B
        replace Xg4 := Xg4.keep B
        replace Nn5 := Nn5.keep B
        replace Nn7 := Nn7.keep B
        replace Qq9 := Qq9.keep B
        clear B
        refine ⟨Xg4, ?_⟩
        refine zs 6 Xg12 0 (.agg #[.slice aq9 kq9 dq9, .slice bq9 lq9 eq9]) [.slice aq9 kq9 dq9, .slice bq9 lq9 eq9] [.slice aq9 kq9 dq9, .slice bq9 lq9 eq9] ?_
        intro v13 Y C
        replace E := E.cg Xg12 C (by rfl)
        replace X := NatA.cg X Xg12 C (by rfl)
        replace BB := belowC BB C (by omega)
        replace Xg2 := Xg2.chg C (show g2 ≠ g12 by omega)
        replace Xg4 := Xg4.chg C (show g4 ≠ g12 by omega)
        replace Nn5 := NatO.cg Nn5 Xg12 C (by rfl)
        replace Nn7 := NatO.cg Nn7 Xg12 C (by rfl)
        replace Qq9 := Qq9.cg Xg12 C (by rfl)
        clear C Xg12
        have Xg12 := Y
        clear Y
        refine ⟨Xg4, ?_⟩
        refine gz_done ?_
        refine ge_then ?_
        refine gc_fr [(3, .int .i64 p), (4, .int .i64 k), (5, pg g2), (10, .bool false), (11, pg g12)] (by kernel_rfl) ?_
        refine gc_seq ?_
        refine gc_seq ?_
        refine gc_reg ?_
        refine tlr 22 [.slice aq9 kq9 dq9, .slice bq9 lq9 eq9] Xg12 0 ?_
        refine tlr 23 [.slice a0 n0 c0, .slice b0 m0 d0] Xg2 0 ?_
        refine tc 24 74 #[.agg #[.slice aq9 kq9 dq9, .slice bq9 lq9 eq9], .agg #[.slice a0 n0 c0, .slice b0 m0 d0]] (tpCmp (B := 320) (Qq9.v (ft_up fp (by decide))) E (by omega)) ?_
        rintro _ v14 ⟨rfl, B⟩
        refine ⟨_, rfl, ?_⟩
        replace E := E.keep B
        replace X := X.keep B
        replace BB := joinB BB B
        replace Xg2 := Xg2.keep B
        replace Xg4 := Xg4.keep B
        replace Nn5 := Nn5.keep B
        replace Nn7 := Nn7.keep B
        replace Qq9 := Qq9.keep B
        replace Xg12 := Xg12.keep B
        clear B
        by_cases c15 : (0 : Int) < sgr (paid u x) (r)
        · refine tq 25 (.bool (decide ((0 : Int) < sgr (paid u x) (r)))) (.bool true) (congrArg Value.bool (decide_eq_true c15)) ?_
          refine gl_nil ?_
          refine ge_then ?_
          refine gc_yes ?_
          refine gc_seq ?_
          refine gc_reg ?_
          refine t 10 (.bool false) ?_
          refine gl_nil ?_
          refine ge_then ?_
          refine gc_ret ?_
          refine ge_tr ?_
          refine ge_ret (.bool false) (rs1 10 (by kernel_rfl) (by kernel_rfl)) ?_
          exact ⟨congrArg (fun b => Ending.returned (.bool b)) (fit_n c15).symm, BB⟩
        · refine tq 25 (.bool (decide ((0 : Int) < sgr (paid u x) (r)))) (.bool false) (congrArg Value.bool (decide_eq_false c15)) ?_
          refine gl_nil ?_
          refine ge_then ?_
          refine gc_no ?_
          refine gc_skip ?_
          refine ge_then ?_
          refine gc_seq ?_
          refine gc_reg ?_
          refine t 26 (.int .i64 p) ?_
          refine tr 27 (.int .i64 (pos p)) (run_pos) ?_
          refine tr 28 (.int .u64 (pos p)) (run_iu (hpp)) ?_
          refine tc 29 66 #[.int .u64 (pos p)] (rOf (x := (pos p)) (hpp).1 (hpp).2) ?_
          rintro _ v17 ⟨an16, kn16, dn16, rfl, Nn16, ln16, B⟩
          refine ⟨_, rfl, ?_⟩
          replace E := E.keep B
          replace X := X.keep B
          replace BB := joinB BB B
          replace Xg2 := Xg2.keep B
          replace Xg4 := Xg4.keep B
          replace Nn5 := Nn5.keep B
          replace Nn7 := Nn7.keep B
          replace Qq9 := Qq9.keep B
          replace Xg12 := Xg12.keep B
          clear B
          refine t 30 (.int .i64 k) ?_
          refine tr 31 (.int .i64 (pos k)) (run_pos) ?_
          refine tr 32 (.int .u64 (pos k)) (run_iu (hkk)) ?_
          refine tc 33 66 #[.int .u64 (pos k)] (rOf (x := (pos k)) (hkk).1 (hkk).2) ?_
          rintro _ v19 ⟨an18, kn18, dn18, rfl, Nn18, ln18, B⟩
          refine ⟨_, rfl, ?_⟩
          replace E := E.keep B
          replace X := X.keep B
          replace BB := joinB BB B
          replace Xg2 := Xg2.keep B
          replace Xg4 := Xg4.keep B
          replace Nn5 := Nn5.keep B
          replace Nn7 := Nn7.keep B
          replace Qq9 := Qq9.keep B
          replace Xg12 := Xg12.keep B
          replace Nn16 := Nn16.keep B
          clear B
          refine tc 34 66 #[.int .u64 3] (rOf (x := 3) (by decide) (by decide)) ?_
          rintro _ v21 ⟨an20, kn20, dn20, rfl, Nn20, ln20, B⟩
          refine ⟨_, rfl, ?_⟩
          replace E := E.keep B
          replace X := X.keep B
          replace BB := joinB BB B
          replace Xg2 := Xg2.keep B
          replace Xg4 := Xg4.keep B
          replace Nn5 := Nn5.keep B
          replace Nn7 := Nn7.keep B
          replace Qq9 := Qq9.keep B
          replace Xg12 := Xg12.keep B
          replace Nn16 := Nn16.keep B
          replace Nn18 := Nn18.keep B
          clear B
          refine tc 35 75 #[.slice an18 kn18 dn18, .slice an20 kn20 dn20] (rAdd Nn18.a Nn20.a (by omega) (by omega)) ?_
          rintro _ v23 ⟨an22, kn22, dn22, rfl, Nn22, ln22, B⟩
          refine ⟨_, rfl, ?_⟩
          replace E := E.keep B
          replace X := X.keep B
          replace BB := joinB BB B
          replace Xg2 := Xg2.keep B
          replace Xg4 := Xg4.keep B
          replace Nn5 := Nn5.keep B
          replace Nn7 := Nn7.keep B
          replace Qq9 := Qq9.keep B
          replace Xg12 := Xg12.keep B
          replace Nn16 := Nn16.keep B
          replace Nn18 := Nn18.keep B
          replace Nn20 := Nn20.keep B
          clear B
          refine tc 36 65 #[.slice an16 kn16 dn16, .slice an22 kn22 dn22] (rMul Nn16.a Nn22.a (by omega) (by omega)) ?_
          rintro _ v25 ⟨an24, kn24, dn24, rfl, Nn24, ln24, B⟩
          refine ⟨_, rfl, ?_⟩
          replace E := E.keep B
          replace X := X.keep B
          replace BB := joinB BB B
          replace Xg2 := Xg2.keep B
          replace Xg4 := Xg4.keep B
          replace Nn5 := Nn5.keep B
          replace Nn7 := Nn7.keep B
          replace Qq9 := Qq9.keep B
          replace Xg12 := Xg12.keep B
          replace Nn16 := Nn16.keep B
          replace Nn18 := Nn18.keep B
          replace Nn20 := Nn20.keep B
          replace Nn22 := Nn22.keep B
          clear B
          refine t 12 (.slice an24 kn24 dn24) ?_
          refine gl_nil ?_
          refine ge_then ?_
          refine gc_fr [(5, pg g2), (10, .bool false), (11, pg g12), (12, .slice an24 kn24 dn24)] (by kernel_rfl) ?_
          refine gc_seq ?_
          refine gc_reg ?_
          refine tc 38 76 #[.int .i64 18] (rPow 18 (by decide)) ?_
          rintro _ v27 ⟨an26, kn26, dn26, rfl, Nn26, ln26, B⟩
          refine ⟨_, rfl, ?_⟩
          replace E := E.keep B
          replace X := X.keep B
          replace BB := joinB BB B
          replace Xg2 := Xg2.keep B
          replace Xg4 := Xg4.keep B
          replace Nn5 := Nn5.keep B
          replace Nn7 := Nn7.keep B
          replace Qq9 := Qq9.keep B
          replace Xg12 := Xg12.keep B
          replace Nn16 := Nn16.keep B
          replace Nn18 := Nn18.keep B
          replace Nn20 := Nn20.keep B
          replace Nn22 := Nn22.keep B
          replace Nn24 := Nn24.keep B
          clear B
          refine t 37 (.tuple #[.slice an26 kn26 dn26, .int .i64 0]) ?_
          refine t 39 (.slice an26 kn26 dn26) ?_
          refine t 40 (.int .i64 0) ?_
          refine t 13 (.slice an26 kn26 dn26) ?_
          refine t 14 (.int .i64 0) ?_
          refine gl_nil ?_
          refine ge_then ?_
          refine gc_seq ?_
          refine gc_reg ?_
          refine t 42 (.slice an24 kn24 dn24) ?_
          refine t 43 (.slice an26 kn26 dn26) ?_
          refine tc 44 64 #[.slice an24 kn24 dn24, .slice an26 kn26 dn26] (tpOf (B := 320) Nn24.a Nn26.a (by omega) (by omega) (by omega) (by decide)) ?_
          rintro _ v29 ⟨aq28, kq28, dq28, bq28, lq28, eq28, rfl, Qq28, B⟩
          refine ⟨_, rfl, ?_⟩
          replace E := E.keep B
          replace X := X.keep B
          replace BB := joinB BB B
          replace Xg2 := Xg2.keep B
          replace Xg4 := Xg4.keep B
          replace Nn5 := Nn5.keep B
          replace Nn7 := Nn7.keep B
          replace Qq9 := Qq9.keep B
          replace Xg12 := Xg12.keep B
          replace Nn16 := Nn16.keep B
          replace Nn18 := Nn18.keep B
          replace Nn20 := Nn20.keep B
          replace Nn22 := Nn22.keep B
          replace Nn24 := Nn24.keep B
          replace Nn26 := Nn26.keep B
          clear B
          refine t 41 (.tuple #[.agg #[.slice aq28 kq28 dq28, .slice bq28 lq28 eq28], .int .i64 0]) ?_
          refine t 45 (.agg #[.slice aq28 kq28 dq28, .slice bq28 lq28 eq28]) ?_
          refine t 46 (.int .i64 0) ?_
          have lXg2 := Xg2.lt
          have lXg4 := Xg4.lt
          have lXg12 := Xg12.lt
          refine ta 15 [.slice none 0 0, .slice none 0 0] 40 (pg) ?_
          intro v30 g31 Xg31 hg31 B
          replace E := E.keep B
          replace X := X.keep B
          replace BB := joinB BB B
          replace Xg2 := Xg2.keep B
          replace Xg4 := Xg4.keep B
          replace Nn5 := Nn5.keep B
          replace Nn7 := Nn7.keep B
          replace Qq9 := Qq9.keep B
          replace Xg12 := Xg12.keep B
          replace Nn16 := Nn16.keep B
          replace Nn18 := Nn18.keep B
          replace Nn20 := Nn20.keep B
          replace Nn22 := Nn22.keep B
          replace Nn24 := Nn24.keep B
          replace Nn26 := Nn26.keep B
          replace Qq28 := Qq28.keep B
          clear B
          refine ts Xg31 0 (.agg #[.slice aq28 kq28 dq28, .slice bq28 lq28 eq28]) [.slice aq28 kq28 dq28, .slice bq28 lq28 eq28] [.slice aq28 kq28 dq28, .slice bq28 lq28 eq28] ?_
          intro v32 Y C
          replace E := E.cg Xg31 C (by rfl)
          replace X := NatA.cg X Xg31 C (by rfl)
          replace BB := belowC BB C (by omega)
          replace Xg2 := Xg2.chg C (show g2 ≠ g31 by omega)
          replace Xg4 := Xg4.chg C (show g4 ≠ g31 by omega)
          replace Nn5 := NatO.cg Nn5 Xg31 C (by rfl)
          replace Nn7 := NatO.cg Nn7 Xg31 C (by rfl)
          replace Qq9 := Qq9.cg Xg31 C (by rfl)
          replace Xg12 := Xg12.chg C (show g12 ≠ g31 by omega)
          replace Nn16 := NatO.cg Nn16 Xg31 C (by rfl)
          replace Nn18 := NatO.cg Nn18 Xg31 C (by rfl)
          replace Nn20 := NatO.cg Nn20 Xg31 C (by rfl)
          replace Nn22 := NatO.cg Nn22 Xg31 C (by rfl)
          replace Nn24 := NatO.cg Nn24 Xg31 C (by rfl)
          replace Nn26 := NatO.cg Nn26 Xg31 C (by rfl)
          replace Qq28 := Qq28.cg Xg31 C (by rfl)
          clear C Xg31
          have Xg31 := Y
          clear Y
          refine t 16 (.int .i64 0) ?_
          refine gl_nil ?_
          refine ge_then ?_
          refine gc_fr [(5, pg g2), (10, .bool false), (11, pg g12), (15, pg g31)] (by kernel_rfl) ?_
          refine gc_seq ?_
          replace E := E.drew
          replace X := X.keep (Below.refl _ _).drew
          replace BB := BB.drew
          replace Xg2 := Xg2.drew
          replace Xg4 := Xg4.drew
          replace Nn5 := Nn5.keep (Below.refl _ _).drew
          replace Nn7 := Nn7.keep (Below.refl _ _).drew
          replace Qq9 := Qq9.drew
          replace Xg12 := Xg12.drew
          replace Nn16 := Nn16.keep (Below.refl _ _).drew
          replace Nn18 := Nn18.keep (Below.refl _ _).drew
          replace Nn20 := Nn20.keep (Below.refl _ _).drew
          replace Nn22 := Nn22.keep (Below.refl _ _).drew
          replace Nn24 := Nn24.keep (Below.refl _ _).drew
          replace Nn26 := Nn26.keep (Below.refl _ _).drew
          replace Qq28 := Qq28.drew
          replace Xg31 := Xg31.drew
          refine gc_draw (fun w' => Blk w' g2 [.slice a0 n0 c0, .slice b0 m0 d0] 40 ∧ Blk w' g12 [.slice aq9 kq9 dq9, .slice bq9 lq9 eq9] 40 ∧ Blk w' g31 [.slice aq28 kq28 dq28, .slice bq28 lq28 eq28] 40) (fun _ => false) ⟨Xg2, Xg12, Xg31⟩ ?_
          refine zlr 0 47 [.slice a0 n0 c0, .slice b0 m0 d0] (fun _ h => h.1) 0 ?_
          refine zlr 1 48 [.slice aq9 kq9 dq9, .slice bq9 lq9 eq9] (fun _ h => h.2.1) 0 ?_
          refine zlr 2 49 [.slice aq28 kq28 dq28, .slice bq28 lq28 eq28] (fun _ h => h.2.2) 0 ?_
          refine zc 3 50 53 #[.agg #[.slice aq9 kq9 dq9, .slice bq9 lq9 eq9], .agg #[.slice aq28 kq28 dq28, .slice bq28 lq28 eq28]] (tpAdd (B := 320) (Qq9.v (ft_up fp (by decide))) (Qq28.v (ft_up fr (by decide))) (by omega)) ?_
          rintro _ v34 ⟨aq33, kq33, dq33, bq33, lq33, eq33, rfl, Qq33, B⟩
          replace E := E.keep B
          replace X := X.keep B
          replace BB := joinB BB B
          replace Xg2 := Xg2.keep B
          replace Xg4 := Xg4.keep B
          replace Nn5 := Nn5.keep B
          replace Nn7 := Nn7.keep B
          replace Qq9 := Qq9.keep B
          replace Xg12 := Xg12.keep B
          replace Nn16 := Nn16.keep B
          replace Nn18 := Nn18.keep B
          replace Nn20 := Nn20.keep B
          replace Nn22 := Nn22.keep B
          replace Nn24 := Nn24.keep B
          replace Nn26 := Nn26.keep B
          replace Qq28 := Qq28.keep B
          replace Xg31 := Xg31.keep B
          clear B
          refine ⟨_, rfl, ⟨Xg2, Xg12, Xg31⟩, ?_⟩
          refine zc 4 51 74 #[.agg #[.slice a0 n0 c0, .slice b0 m0 d0], .agg #[.slice aq33 kq33 dq33, .slice bq33 lq33 eq33]] (tpCmp (B := 320) E (Qq33.v (ft_up (ft_add fp fr hp0 hr0) (by decide))) (by omega)) ?_
          rintro _ v35 ⟨rfl, B⟩
          replace E := E.keep B
          replace X := X.keep B
          replace BB := joinB BB B
          replace Xg2 := Xg2.keep B
          replace Xg4 := Xg4.keep B
          replace Nn5 := Nn5.keep B
          replace Nn7 := Nn7.keep B
          replace Qq9 := Qq9.keep B
          replace Xg12 := Xg12.keep B
          replace Nn16 := Nn16.keep B
          replace Nn18 := Nn18.keep B
          replace Nn20 := Nn20.keep B
          replace Nn22 := Nn22.keep B
          replace Nn24 := Nn24.keep B
          replace Nn26 := Nn26.keep B
          replace Qq28 := Qq28.keep B
          replace Xg31 := Xg31.keep B
          replace Qq33 := Qq33.keep B
          clear B
          refine ⟨_, rfl, ⟨Xg2, Xg12, Xg31⟩, ?_⟩
          by_cases c36 : (sgr (r) ((paid u x) + (room p k)) : Int) ≤ 0
          · refine zq 5 52 (.bool (decide ((sgr (r) ((paid u x) + (room p k)) : Int) ≤ 0))) (.bool true) (congrArg Value.bool (decide_eq_true c36)) ?_
            refine z 6 10 (.bool true) ?_
            refine gz_done ?_
            refine ge_then ?_
            refine gc_ret ?_
            refine ge_ret (.bool true) (rs1 10 (by kernel_rfl) (by kernel_rfl)) ?_
            exact ⟨congrArg (fun b => Ending.returned (.bool b)) (fit_y c15 c36).symm, BB⟩
          · refine zq 5 52 (.bool (decide ((sgr (r) ((paid u x) + (room p k)) : Int) ≤ 0))) (.bool false) (congrArg Value.bool (decide_eq_false c36)) ?_
            refine z 6 10 (.bool false) ?_
            refine gz_done ?_
            refine ge_then ?_
            refine gc_ret ?_
            refine ge_ret (.bool false) (rs1 10 (by kernel_rfl) (by kernel_rfl)) ?_
            exact ⟨congrArg (fun b => Ending.returned (.bool b)) (fit_z c36).symm, BB⟩
      have lXg2 := Xg2.lt
      have lXg4 := Xg4.lt
      refine zaa 5 11 [.slice none 0 0, .slice none 0 0] 40 (pg) ?_ ?_
      · intro v37 g38 Xg38 hg38 B
        replace E := E.keep B
        replace X := X.keep B
        replace BB := joinB BB B
        replace Xg2 := Xg2.keep B
        replace Xg4 := Xg4.keep B
        replace Nn5 := Nn5.keep B
        replace Nn7 := Nn7.keep B
        clear B
        refine ⟨Xg4, ?_⟩
        refine zc 4 21 56 #[.agg #[.slice an7 kn7 dn7]] (tpOfDec (B := 320) Nn7.a (by omega) (by omega) (by omega)) ?_
        rintro _ v40 ⟨aq39, kq39, dq39, bq39, lq39, eq39, rfl, Qq39, B⟩
        replace E := E.keep B
        replace X := X.keep B
        replace BB := joinB BB B
        replace Xg2 := Xg2.keep B
        replace Xg4 := Xg4.keep B
        replace Nn5 := Nn5.keep B
        replace Nn7 := Nn7.keep B
        replace Xg38 := Xg38.keep B
        clear B
        refine ⟨_, rfl, Xg4, ?_⟩
        refine zs 6 Xg38 0 (.agg #[.slice aq39 kq39 dq39, .slice bq39 lq39 eq39]) [.slice aq39 kq39 dq39, .slice bq39 lq39 eq39] [.slice aq39 kq39 dq39, .slice bq39 lq39 eq39] ?_
        intro v41 Y C
        replace E := E.cg Xg38 C (by rfl)
        replace X := NatA.cg X Xg38 C (by rfl)
        replace BB := belowC BB C (by omega)
        replace Xg2 := Xg2.chg C (show g2 ≠ g38 by omega)
        replace Xg4 := Xg4.chg C (show g4 ≠ g38 by omega)
        replace Nn5 := NatO.cg Nn5 Xg38 C (by rfl)
        replace Nn7 := NatO.cg Nn7 Xg38 C (by rfl)
        replace Qq39 := Qq39.cg Xg38 C (by rfl)
        clear C Xg38
        have Xg38 := Y
        clear Y
        refine ⟨Xg4, ?_⟩
        refine gz_done ?_
        refine ge_then ?_
        refine gc_fr [(3, .int .i64 p), (4, .int .i64 k), (5, pg g2), (10, .bool false), (11, pg g38)] (by kernel_rfl) ?_
        refine gc_seq ?_
        refine gc_seq ?_
        refine gc_reg ?_
        refine tlr 22 [.slice aq39 kq39 dq39, .slice bq39 lq39 eq39] Xg38 0 ?_
        refine tlr 23 [.slice a0 n0 c0, .slice b0 m0 d0] Xg2 0 ?_
        refine tc 24 74 #[.agg #[.slice aq39 kq39 dq39, .slice bq39 lq39 eq39], .agg #[.slice a0 n0 c0, .slice b0 m0 d0]] (tpCmp (B := 320) (Qq39.v (ft_up fp (by decide))) E (by omega)) ?_
        rintro _ v42 ⟨rfl, B⟩
        refine ⟨_, rfl, ?_⟩
        replace E := E.keep B
        replace X := X.keep B
        replace BB := joinB BB B
        replace Xg2 := Xg2.keep B
        replace Xg4 := Xg4.keep B
        replace Nn5 := Nn5.keep B
        replace Nn7 := Nn7.keep B
        replace Xg38 := Xg38.keep B
        replace Qq39 := Qq39.keep B
        clear B
        by_cases c43 : (0 : Int) < sgr (paid u x) (r)
        · refine tq 25 (.bool (decide ((0 : Int) < sgr (paid u x) (r)))) (.bool true) (congrArg Value.bool (decide_eq_true c43)) ?_
          refine gl_nil ?_
          refine ge_then ?_
          refine gc_yes ?_
          refine gc_seq ?_
          refine gc_reg ?_
          refine t 10 (.bool false) ?_
          refine gl_nil ?_
          refine ge_then ?_
          refine gc_ret ?_
          refine ge_tr ?_
          refine ge_ret (.bool false) (rs1 10 (by kernel_rfl) (by kernel_rfl)) ?_
          exact ⟨congrArg (fun b => Ending.returned (.bool b)) (fit_n c43).symm, BB⟩
        · refine tq 25 (.bool (decide ((0 : Int) < sgr (paid u x) (r)))) (.bool false) (congrArg Value.bool (decide_eq_false c43)) ?_
          refine gl_nil ?_
          refine ge_then ?_
          refine gc_no ?_
          refine gc_skip ?_
          refine ge_then ?_
          refine gc_seq ?_
          refine gc_reg ?_
          refine t 26 (.int .i64 p) ?_
          refine tr 27 (.int .i64 (pos p)) (run_pos) ?_
          refine tr 28 (.int .u64 (pos p)) (run_iu (hpp)) ?_
          refine tc 29 66 #[.int .u64 (pos p)] (rOf (x := (pos p)) (hpp).1 (hpp).2) ?_
          rintro _ v45 ⟨an44, kn44, dn44, rfl, Nn44, ln44, B⟩
          refine ⟨_, rfl, ?_⟩
          replace E := E.keep B
          replace X := X.keep B
          replace BB := joinB BB B
          replace Xg2 := Xg2.keep B
          replace Xg4 := Xg4.keep B
          replace Nn5 := Nn5.keep B
          replace Nn7 := Nn7.keep B
          replace Xg38 := Xg38.keep B
          replace Qq39 := Qq39.keep B
          clear B
          refine t 30 (.int .i64 k) ?_
          refine tr 31 (.int .i64 (pos k)) (run_pos) ?_
          refine tr 32 (.int .u64 (pos k)) (run_iu (hkk)) ?_
          refine tc 33 66 #[.int .u64 (pos k)] (rOf (x := (pos k)) (hkk).1 (hkk).2) ?_
          rintro _ v47 ⟨an46, kn46, dn46, rfl, Nn46, ln46, B⟩
          refine ⟨_, rfl, ?_⟩
          replace E := E.keep B
          replace X := X.keep B
          replace BB := joinB BB B
          replace Xg2 := Xg2.keep B
          replace Xg4 := Xg4.keep B
          replace Nn5 := Nn5.keep B
          replace Nn7 := Nn7.keep B
          replace Xg38 := Xg38.keep B
          replace Qq39 := Qq39.keep B
          replace Nn44 := Nn44.keep B
          clear B
          refine tc 34 66 #[.int .u64 3] (rOf (x := 3) (by decide) (by decide)) ?_
          rintro _ v49 ⟨an48, kn48, dn48, rfl, Nn48, ln48, B⟩
          refine ⟨_, rfl, ?_⟩
          replace E := E.keep B
          replace X := X.keep B
          replace BB := joinB BB B
          replace Xg2 := Xg2.keep B
          replace Xg4 := Xg4.keep B
          replace Nn5 := Nn5.keep B
          replace Nn7 := Nn7.keep B
          replace Xg38 := Xg38.keep B
          replace Qq39 := Qq39.keep B
          replace Nn44 := Nn44.keep B
          replace Nn46 := Nn46.keep B
          clear B
          refine tc 35 75 #[.slice an46 kn46 dn46, .slice an48 kn48 dn48] (rAdd Nn46.a Nn48.a (by omega) (by omega)) ?_
          rintro _ v51 ⟨an50, kn50, dn50, rfl, Nn50, ln50, B⟩
          refine ⟨_, rfl, ?_⟩
          replace E := E.keep B
          replace X := X.keep B
          replace BB := joinB BB B
          replace Xg2 := Xg2.keep B
          replace Xg4 := Xg4.keep B
          replace Nn5 := Nn5.keep B
          replace Nn7 := Nn7.keep B
          replace Xg38 := Xg38.keep B
          replace Qq39 := Qq39.keep B
          replace Nn44 := Nn44.keep B
          replace Nn46 := Nn46.keep B
          replace Nn48 := Nn48.keep B
          clear B
          refine tc 36 65 #[.slice an44 kn44 dn44, .slice an50 kn50 dn50] (rMul Nn44.a Nn50.a (by omega) (by omega)) ?_
          rintro _ v53 ⟨an52, kn52, dn52, rfl, Nn52, ln52, B⟩
          refine ⟨_, rfl, ?_⟩
          replace E := E.keep B
          replace X := X.keep B
          replace BB := joinB BB B
          replace Xg2 := Xg2.keep B
          replace Xg4 := Xg4.keep B
          replace Nn5 := Nn5.keep B
          replace Nn7 := Nn7.keep B
          replace Xg38 := Xg38.keep B
          replace Qq39 := Qq39.keep B
          replace Nn44 := Nn44.keep B
          replace Nn46 := Nn46.keep B
          replace Nn48 := Nn48.keep B
          replace Nn50 := Nn50.keep B
          clear B
          refine t 12 (.slice an52 kn52 dn52) ?_
          refine gl_nil ?_
          refine ge_then ?_
          refine gc_fr [(5, pg g2), (10, .bool false), (11, pg g38), (12, .slice an52 kn52 dn52)] (by kernel_rfl) ?_
          refine gc_seq ?_
          refine gc_reg ?_
          refine tc 38 76 #[.int .i64 18] (rPow 18 (by decide)) ?_
          rintro _ v55 ⟨an54, kn54, dn54, rfl, Nn54, ln54, B⟩
          refine ⟨_, rfl, ?_⟩
          replace E := E.keep B
          replace X := X.keep B
          replace BB := joinB BB B
          replace Xg2 := Xg2.keep B
          replace Xg4 := Xg4.keep B
          replace Nn5 := Nn5.keep B
          replace Nn7 := Nn7.keep B
          replace Xg38 := Xg38.keep B
          replace Qq39 := Qq39.keep B
          replace Nn44 := Nn44.keep B
          replace Nn46 := Nn46.keep B
          replace Nn48 := Nn48.keep B
          replace Nn50 := Nn50.keep B
          replace Nn52 := Nn52.keep B
          clear B
          refine t 37 (.tuple #[.slice an54 kn54 dn54, .int .i64 0]) ?_
          refine t 39 (.slice an54 kn54 dn54) ?_
          refine t 40 (.int .i64 0) ?_
          refine t 13 (.slice an54 kn54 dn54) ?_
          refine t 14 (.int .i64 0) ?_
          refine gl_nil ?_
          refine ge_then ?_
          refine gc_seq ?_
          refine gc_reg ?_
          refine t 42 (.slice an52 kn52 dn52) ?_
          refine t 43 (.slice an54 kn54 dn54) ?_
          refine tc 44 64 #[.slice an52 kn52 dn52, .slice an54 kn54 dn54] (tpOf (B := 320) Nn52.a Nn54.a (by omega) (by omega) (by omega) (by decide)) ?_
          rintro _ v57 ⟨aq56, kq56, dq56, bq56, lq56, eq56, rfl, Qq56, B⟩
          refine ⟨_, rfl, ?_⟩
          replace E := E.keep B
          replace X := X.keep B
          replace BB := joinB BB B
          replace Xg2 := Xg2.keep B
          replace Xg4 := Xg4.keep B
          replace Nn5 := Nn5.keep B
          replace Nn7 := Nn7.keep B
          replace Xg38 := Xg38.keep B
          replace Qq39 := Qq39.keep B
          replace Nn44 := Nn44.keep B
          replace Nn46 := Nn46.keep B
          replace Nn48 := Nn48.keep B
          replace Nn50 := Nn50.keep B
          replace Nn52 := Nn52.keep B
          replace Nn54 := Nn54.keep B
          clear B
          refine t 41 (.tuple #[.agg #[.slice aq56 kq56 dq56, .slice bq56 lq56 eq56], .int .i64 0]) ?_
          refine t 45 (.agg #[.slice aq56 kq56 dq56, .slice bq56 lq56 eq56]) ?_
          refine t 46 (.int .i64 0) ?_
          have lXg2 := Xg2.lt
          have lXg4 := Xg4.lt
          have lXg38 := Xg38.lt
          refine ta 15 [.slice none 0 0, .slice none 0 0] 40 (pg) ?_
          intro v58 g59 Xg59 hg59 B
          replace E := E.keep B
          replace X := X.keep B
          replace BB := joinB BB B
          replace Xg2 := Xg2.keep B
          replace Xg4 := Xg4.keep B
          replace Nn5 := Nn5.keep B
          replace Nn7 := Nn7.keep B
          replace Xg38 := Xg38.keep B
          replace Qq39 := Qq39.keep B
          replace Nn44 := Nn44.keep B
          replace Nn46 := Nn46.keep B
          replace Nn48 := Nn48.keep B
          replace Nn50 := Nn50.keep B
          replace Nn52 := Nn52.keep B
          replace Nn54 := Nn54.keep B
          replace Qq56 := Qq56.keep B
          clear B
          refine ts Xg59 0 (.agg #[.slice aq56 kq56 dq56, .slice bq56 lq56 eq56]) [.slice aq56 kq56 dq56, .slice bq56 lq56 eq56] [.slice aq56 kq56 dq56, .slice bq56 lq56 eq56] ?_
          intro v60 Y C
          replace E := E.cg Xg59 C (by rfl)
          replace X := NatA.cg X Xg59 C (by rfl)
          replace BB := belowC BB C (by omega)
          replace Xg2 := Xg2.chg C (show g2 ≠ g59 by omega)
          replace Xg4 := Xg4.chg C (show g4 ≠ g59 by omega)
          replace Nn5 := NatO.cg Nn5 Xg59 C (by rfl)
          replace Nn7 := NatO.cg Nn7 Xg59 C (by rfl)
          replace Xg38 := Xg38.chg C (show g38 ≠ g59 by omega)
          replace Qq39 := Qq39.cg Xg59 C (by rfl)
          replace Nn44 := NatO.cg Nn44 Xg59 C (by rfl)
          replace Nn46 := NatO.cg Nn46 Xg59 C (by rfl)
          replace Nn48 := NatO.cg Nn48 Xg59 C (by rfl)
          replace Nn50 := NatO.cg Nn50 Xg59 C (by rfl)
          replace Nn52 := NatO.cg Nn52 Xg59 C (by rfl)
          replace Nn54 := NatO.cg Nn54 Xg59 C (by rfl)
          replace Qq56 := Qq56.cg Xg59 C (by rfl)
          clear C Xg59
          have Xg59 := Y
          clear Y
          refine t 16 (.int .i64 0) ?_
          refine gl_nil ?_
          refine ge_then ?_
          refine gc_fr [(5, pg g2), (10, .bool false), (11, pg g38), (15, pg g59)] (by kernel_rfl) ?_
          refine gc_seq ?_
          replace E := E.drew
          replace X := X.keep (Below.refl _ _).drew
          replace BB := BB.drew
          replace Xg2 := Xg2.drew
          replace Xg4 := Xg4.drew
          replace Nn5 := Nn5.keep (Below.refl _ _).drew
          replace Nn7 := Nn7.keep (Below.refl _ _).drew
          replace Xg38 := Xg38.drew
          replace Qq39 := Qq39.drew
          replace Nn44 := Nn44.keep (Below.refl _ _).drew
          replace Nn46 := Nn46.keep (Below.refl _ _).drew
          replace Nn48 := Nn48.keep (Below.refl _ _).drew
          replace Nn50 := Nn50.keep (Below.refl _ _).drew
          replace Nn52 := Nn52.keep (Below.refl _ _).drew
          replace Nn54 := Nn54.keep (Below.refl _ _).drew
          replace Qq56 := Qq56.drew
          replace Xg59 := Xg59.drew
          refine gc_draw (fun w' => Blk w' g2 [.slice a0 n0 c0, .slice b0 m0 d0] 40 ∧ Blk w' g38 [.slice aq39 kq39 dq39, .slice bq39 lq39 eq39] 40 ∧ Blk w' g59 [.slice aq56 kq56 dq56, .slice bq56 lq56 eq56] 40) (fun _ => false) ⟨Xg2, Xg38, Xg59⟩ ?_
          refine zlr 0 47 [.slice a0 n0 c0, .slice b0 m0 d0] (fun _ h => h.1) 0 ?_
          refine zlr 1 48 [.slice aq39 kq39 dq39, .slice bq39 lq39 eq39] (fun _ h => h.2.1) 0 ?_
          refine zlr 2 49 [.slice aq56 kq56 dq56, .slice bq56 lq56 eq56] (fun _ h => h.2.2) 0 ?_
          refine zc 3 50 53 #[.agg #[.slice aq39 kq39 dq39, .slice bq39 lq39 eq39], .agg #[.slice aq56 kq56 dq56, .slice bq56 lq56 eq56]] (tpAdd (B := 320) (Qq39.v (ft_up fp (by decide))) (Qq56.v (ft_up fr (by decide))) (by omega)) ?_
          rintro _ v62 ⟨aq61, kq61, dq61, bq61, lq61, eq61, rfl, Qq61, B⟩
          replace E := E.keep B
          replace X := X.keep B
          replace BB := joinB BB B
          replace Xg2 := Xg2.keep B
          replace Xg4 := Xg4.keep B
          replace Nn5 := Nn5.keep B
          replace Nn7 := Nn7.keep B
          replace Xg38 := Xg38.keep B
          replace Qq39 := Qq39.keep B
          replace Nn44 := Nn44.keep B
          replace Nn46 := Nn46.keep B
          replace Nn48 := Nn48.keep B
          replace Nn50 := Nn50.keep B
          replace Nn52 := Nn52.keep B
          replace Nn54 := Nn54.keep B
          replace Qq56 := Qq56.keep B
          replace Xg59 := Xg59.keep B
          clear B
          refine ⟨_, rfl, ⟨Xg2, Xg38, Xg59⟩, ?_⟩
          refine zc 4 51 74 #[.agg #[.slice a0 n0 c0, .slice b0 m0 d0], .agg #[.slice aq61 kq61 dq61, .slice bq61 lq61 eq61]] (tpCmp (B := 320) E (Qq61.v (ft_up (ft_add fp fr hp0 hr0) (by decide))) (by omega)) ?_
          rintro _ v63 ⟨rfl, B⟩
          replace E := E.keep B
          replace X := X.keep B
          replace BB := joinB BB B
          replace Xg2 := Xg2.keep B
          replace Xg4 := Xg4.keep B
          replace Nn5 := Nn5.keep B
          replace Nn7 := Nn7.keep B
          replace Xg38 := Xg38.keep B
          replace Qq39 := Qq39.keep B
          replace Nn44 := Nn44.keep B
          replace Nn46 := Nn46.keep B
          replace Nn48 := Nn48.keep B
          replace Nn50 := Nn50.keep B
          replace Nn52 := Nn52.keep B
          replace Nn54 := Nn54.keep B
          replace Qq56 := Qq56.keep B
          replace Xg59 := Xg59.keep B
          replace Qq61 := Qq61.keep B
          clear B
          refine ⟨_, rfl, ⟨Xg2, Xg38, Xg59⟩, ?_⟩
          by_cases c64 : (sgr (r) ((paid u x) + (room p k)) : Int) ≤ 0
          · refine zq 5 52 (.bool (decide ((sgr (r) ((paid u x) + (room p k)) : Int) ≤ 0))) (.bool true) (congrArg Value.bool (decide_eq_true c64)) ?_
            refine z 6 10 (.bool true) ?_
            refine gz_done ?_
            refine ge_then ?_
            refine gc_ret ?_
            refine ge_ret (.bool true) (rs1 10 (by kernel_rfl) (by kernel_rfl)) ?_
            exact ⟨congrArg (fun b => Ending.returned (.bool b)) (fit_y c43 c64).symm, BB⟩
          · refine zq 5 52 (.bool (decide ((sgr (r) ((paid u x) + (room p k)) : Int) ≤ 0))) (.bool false) (congrArg Value.bool (decide_eq_false c64)) ?_
            refine z 6 10 (.bool false) ?_
            refine gz_done ?_
            refine ge_then ?_
            refine gc_ret ?_
            refine ge_ret (.bool false) (rs1 10 (by kernel_rfl) (by kernel_rfl)) ?_
            exact ⟨congrArg (fun b => Ending.returned (.bool b)) (fit_z c64).symm, BB⟩
      exact ga_nil
    have lXg2 := Xg2.lt
    have lXg4 := Xg4.lt
    refine zaa 5 11 [.slice none 0 0, .slice none 0 0] 40 (pg) ?_ ?_
    · intro v65 g66 Xg66 hg66 B
      replace E := E.keep B
      replace X := X.keep B
      replace BB := joinB BB B
      replace Xg2 := Xg2.keep B
      replace Xg4 := Xg4.keep B
      replace Nn5 := Nn5.keep B
      clear B
      refine ⟨Xg4, ?_⟩
      refine zc 3 20 72 #[.agg #[.slice an5 kn5 dn5], .agg #[.slice aq nq cq]] (eAdd Nn5.a X (by omega) (by omega)) ?_
      rintro _ v68 ⟨an67, kn67, dn67, rfl, Nn67, ln67, B⟩
      replace E := E.keep B
      replace X := X.keep B
      replace BB := joinB BB B
      replace Xg2 := Xg2.keep B
      replace Xg4 := Xg4.keep B
      replace Nn5 := Nn5.keep B
      replace Xg66 := Xg66.keep B
      clear B
      refine ⟨_, rfl, Xg4, ?_⟩
      refine zc 4 21 56 #[.agg #[.slice an67 kn67 dn67]] (tpOfDec (B := 320) Nn67.a (by omega) (by omega) (by omega)) ?_
      rintro _ v70 ⟨aq69, kq69, dq69, bq69, lq69, eq69, rfl, Qq69, B⟩
      replace E := E.keep B
      replace X := X.keep B
      replace BB := joinB BB B
      replace Xg2 := Xg2.keep B
      replace Xg4 := Xg4.keep B
      replace Nn5 := Nn5.keep B
      replace Xg66 := Xg66.keep B
      replace Nn67 := Nn67.keep B
      clear B
      refine ⟨_, rfl, Xg4, ?_⟩
      refine zs 6 Xg66 0 (.agg #[.slice aq69 kq69 dq69, .slice bq69 lq69 eq69]) [.slice aq69 kq69 dq69, .slice bq69 lq69 eq69] [.slice aq69 kq69 dq69, .slice bq69 lq69 eq69] ?_
      intro v71 Y C
      replace E := E.cg Xg66 C (by rfl)
      replace X := NatA.cg X Xg66 C (by rfl)
      replace BB := belowC BB C (by omega)
      replace Xg2 := Xg2.chg C (show g2 ≠ g66 by omega)
      replace Xg4 := Xg4.chg C (show g4 ≠ g66 by omega)
      replace Nn5 := NatO.cg Nn5 Xg66 C (by rfl)
      replace Nn67 := NatO.cg Nn67 Xg66 C (by rfl)
      replace Qq69 := Qq69.cg Xg66 C (by rfl)
      clear C Xg66
      have Xg66 := Y
      clear Y
      refine ⟨Xg4, ?_⟩
      refine gz_done ?_
      refine ge_then ?_
      refine gc_fr [(3, .int .i64 p), (4, .int .i64 k), (5, pg g2), (10, .bool false), (11, pg g66)] (by kernel_rfl) ?_
      refine gc_seq ?_
      refine gc_seq ?_
      refine gc_reg ?_
      refine tlr 22 [.slice aq69 kq69 dq69, .slice bq69 lq69 eq69] Xg66 0 ?_
      refine tlr 23 [.slice a0 n0 c0, .slice b0 m0 d0] Xg2 0 ?_
      refine tc 24 74 #[.agg #[.slice aq69 kq69 dq69, .slice bq69 lq69 eq69], .agg #[.slice a0 n0 c0, .slice b0 m0 d0]] (tpCmp (B := 320) (Qq69.v (ft_up fp (by decide))) E (by omega)) ?_
      rintro _ v72 ⟨rfl, B⟩
      refine ⟨_, rfl, ?_⟩
      replace E := E.keep B
      replace X := X.keep B
      replace BB := joinB BB B
      replace Xg2 := Xg2.keep B
      replace Xg4 := Xg4.keep B
      replace Nn5 := Nn5.keep B
      replace Xg66 := Xg66.keep B
      replace Nn67 := Nn67.keep B
      replace Qq69 := Qq69.keep B
      clear B
      by_cases c73 : (0 : Int) < sgr (paid u x) (r)
      · refine tq 25 (.bool (decide ((0 : Int) < sgr (paid u x) (r)))) (.bool true) (congrArg Value.bool (decide_eq_true c73)) ?_
        refine gl_nil ?_
        refine ge_then ?_
        refine gc_yes ?_
        refine gc_seq ?_
        refine gc_reg ?_
        refine t 10 (.bool false) ?_
        refine gl_nil ?_
        refine ge_then ?_
        refine gc_ret ?_
        refine ge_tr ?_
        refine ge_ret (.bool false) (rs1 10 (by kernel_rfl) (by kernel_rfl)) ?_
        exact ⟨congrArg (fun b => Ending.returned (.bool b)) (fit_n c73).symm, BB⟩
      · refine tq 25 (.bool (decide ((0 : Int) < sgr (paid u x) (r)))) (.bool false) (congrArg Value.bool (decide_eq_false c73)) ?_
        refine gl_nil ?_
        refine ge_then ?_
        refine gc_no ?_
        refine gc_skip ?_
        refine ge_then ?_
        refine gc_seq ?_
        refine gc_reg ?_
        refine t 26 (.int .i64 p) ?_
        refine tr 27 (.int .i64 (pos p)) (run_pos) ?_
        refine tr 28 (.int .u64 (pos p)) (run_iu (hpp)) ?_
        refine tc 29 66 #[.int .u64 (pos p)] (rOf (x := (pos p)) (hpp).1 (hpp).2) ?_
        rintro _ v75 ⟨an74, kn74, dn74, rfl, Nn74, ln74, B⟩
        refine ⟨_, rfl, ?_⟩
        replace E := E.keep B
        replace X := X.keep B
        replace BB := joinB BB B
        replace Xg2 := Xg2.keep B
        replace Xg4 := Xg4.keep B
        replace Nn5 := Nn5.keep B
        replace Xg66 := Xg66.keep B
        replace Nn67 := Nn67.keep B
        replace Qq69 := Qq69.keep B
        clear B
        refine t 30 (.int .i64 k) ?_
        refine tr 31 (.int .i64 (pos k)) (run_pos) ?_
        refine tr 32 (.int .u64 (pos k)) (run_iu (hkk)) ?_
        refine tc 33 66 #[.int .u64 (pos k)] (rOf (x := (pos k)) (hkk).1 (hkk).2) ?_
        rintro _ v77 ⟨an76, kn76, dn76, rfl, Nn76, ln76, B⟩
        refine ⟨_, rfl, ?_⟩
        replace E := E.keep B
        replace X := X.keep B
        replace BB := joinB BB B
        replace Xg2 := Xg2.keep B
        replace Xg4 := Xg4.keep B
        replace Nn5 := Nn5.keep B
        replace Xg66 := Xg66.keep B
        replace Nn67 := Nn67.keep B
        replace Qq69 := Qq69.keep B
        replace Nn74 := Nn74.keep B
        clear B
        refine tc 34 66 #[.int .u64 3] (rOf (x := 3) (by decide) (by decide)) ?_
        rintro _ v79 ⟨an78, kn78, dn78, rfl, Nn78, ln78, B⟩
        refine ⟨_, rfl, ?_⟩
        replace E := E.keep B
        replace X := X.keep B
        replace BB := joinB BB B
        replace Xg2 := Xg2.keep B
        replace Xg4 := Xg4.keep B
        replace Nn5 := Nn5.keep B
        replace Xg66 := Xg66.keep B
        replace Nn67 := Nn67.keep B
        replace Qq69 := Qq69.keep B
        replace Nn74 := Nn74.keep B
        replace Nn76 := Nn76.keep B
        clear B
        refine tc 35 75 #[.slice an76 kn76 dn76, .slice an78 kn78 dn78] (rAdd Nn76.a Nn78.a (by omega) (by omega)) ?_
        rintro _ v81 ⟨an80, kn80, dn80, rfl, Nn80, ln80, B⟩
        refine ⟨_, rfl, ?_⟩
        replace E := E.keep B
        replace X := X.keep B
        replace BB := joinB BB B
        replace Xg2 := Xg2.keep B
        replace Xg4 := Xg4.keep B
        replace Nn5 := Nn5.keep B
        replace Xg66 := Xg66.keep B
        replace Nn67 := Nn67.keep B
        replace Qq69 := Qq69.keep B
        replace Nn74 := Nn74.keep B
        replace Nn76 := Nn76.keep B
        replace Nn78 := Nn78.keep B
        clear B
        refine tc 36 65 #[.slice an74 kn74 dn74, .slice an80 kn80 dn80] (rMul Nn74.a Nn80.a (by omega) (by omega)) ?_
        rintro _ v83 ⟨an82, kn82, dn82, rfl, Nn82, ln82, B⟩
        refine ⟨_, rfl, ?_⟩
        replace E := E.keep B
        replace X := X.keep B
        replace BB := joinB BB B
        replace Xg2 := Xg2.keep B
        replace Xg4 := Xg4.keep B
        replace Nn5 := Nn5.keep B
        replace Xg66 := Xg66.keep B
        replace Nn67 := Nn67.keep B
        replace Qq69 := Qq69.keep B
        replace Nn74 := Nn74.keep B
        replace Nn76 := Nn76.keep B
        replace Nn78 := Nn78.keep B
        replace Nn80 := Nn80.keep B
        clear B
        refine t 12 (.slice an82 kn82 dn82) ?_
        refine gl_nil ?_
        refine ge_then ?_
        refine gc_fr [(5, pg g2), (10, .bool false), (11, pg g66), (12, .slice an82 kn82 dn82)] (by kernel_rfl) ?_
        refine gc_seq ?_
        refine gc_reg ?_
        refine tc 38 76 #[.int .i64 18] (rPow 18 (by decide)) ?_
        rintro _ v85 ⟨an84, kn84, dn84, rfl, Nn84, ln84, B⟩
        refine ⟨_, rfl, ?_⟩
        replace E := E.keep B
        replace X := X.keep B
        replace BB := joinB BB B
        replace Xg2 := Xg2.keep B
        replace Xg4 := Xg4.keep B
        replace Nn5 := Nn5.keep B
        replace Xg66 := Xg66.keep B
        replace Nn67 := Nn67.keep B
        replace Qq69 := Qq69.keep B
        replace Nn74 := Nn74.keep B
        replace Nn76 := Nn76.keep B
        replace Nn78 := Nn78.keep B
        replace Nn80 := Nn80.keep B
        replace Nn82 := Nn82.keep B
        clear B
        refine t 37 (.tuple #[.slice an84 kn84 dn84, .int .i64 0]) ?_
        refine t 39 (.slice an84 kn84 dn84) ?_
        refine t 40 (.int .i64 0) ?_
        refine t 13 (.slice an84 kn84 dn84) ?_
        refine t 14 (.int .i64 0) ?_
        refine gl_nil ?_
        refine ge_then ?_
        refine gc_seq ?_
        refine gc_reg ?_
        refine t 42 (.slice an82 kn82 dn82) ?_
        refine t 43 (.slice an84 kn84 dn84) ?_
        refine tc 44 64 #[.slice an82 kn82 dn82, .slice an84 kn84 dn84] (tpOf (B := 320) Nn82.a Nn84.a (by omega) (by omega) (by omega) (by decide)) ?_
        rintro _ v87 ⟨aq86, kq86, dq86, bq86, lq86, eq86, rfl, Qq86, B⟩
        refine ⟨_, rfl, ?_⟩
        replace E := E.keep B
        replace X := X.keep B
        replace BB := joinB BB B
        replace Xg2 := Xg2.keep B
        replace Xg4 := Xg4.keep B
        replace Nn5 := Nn5.keep B
        replace Xg66 := Xg66.keep B
        replace Nn67 := Nn67.keep B
        replace Qq69 := Qq69.keep B
        replace Nn74 := Nn74.keep B
        replace Nn76 := Nn76.keep B
        replace Nn78 := Nn78.keep B
        replace Nn80 := Nn80.keep B
        replace Nn82 := Nn82.keep B
        replace Nn84 := Nn84.keep B
        clear B
        refine t 41 (.tuple #[.agg #[.slice aq86 kq86 dq86, .slice bq86 lq86 eq86], .int .i64 0]) ?_
        refine t 45 (.agg #[.slice aq86 kq86 dq86, .slice bq86 lq86 eq86]) ?_
        refine t 46 (.int .i64 0) ?_
        have lXg2 := Xg2.lt
        have lXg4 := Xg4.lt
        have lXg66 := Xg66.lt
        refine ta 15 [.slice none 0 0, .slice none 0 0] 40 (pg) ?_
        intro v88 g89 Xg89 hg89 B
        replace E := E.keep B
        replace X := X.keep B
        replace BB := joinB BB B
        replace Xg2 := Xg2.keep B
        replace Xg4 := Xg4.keep B
        replace Nn5 := Nn5.keep B
        replace Xg66 := Xg66.keep B
        replace Nn67 := Nn67.keep B
        replace Qq69 := Qq69.keep B
        replace Nn74 := Nn74.keep B
        replace Nn76 := Nn76.keep B
        replace Nn78 := Nn78.keep B
        replace Nn80 := Nn80.keep B
        replace Nn82 := Nn82.keep B
        replace Nn84 := Nn84.keep B
        replace Qq86 := Qq86.keep B
        clear B
        refine ts Xg89 0 (.agg #[.slice aq86 kq86 dq86, .slice bq86 lq86 eq86]) [.slice aq86 kq86 dq86, .slice bq86 lq86 eq86] [.slice aq86 kq86 dq86, .slice bq86 lq86 eq86] ?_
        intro v90 Y C
        replace E := E.cg Xg89 C (by rfl)
        replace X := NatA.cg X Xg89 C (by rfl)
        replace BB := belowC BB C (by omega)
        replace Xg2 := Xg2.chg C (show g2 ≠ g89 by omega)
        replace Xg4 := Xg4.chg C (show g4 ≠ g89 by omega)
        replace Nn5 := NatO.cg Nn5 Xg89 C (by rfl)
        replace Xg66 := Xg66.chg C (show g66 ≠ g89 by omega)
        replace Nn67 := NatO.cg Nn67 Xg89 C (by rfl)
        replace Qq69 := Qq69.cg Xg89 C (by rfl)
        replace Nn74 := NatO.cg Nn74 Xg89 C (by rfl)
        replace Nn76 := NatO.cg Nn76 Xg89 C (by rfl)
        replace Nn78 := NatO.cg Nn78 Xg89 C (by rfl)
        replace Nn80 := NatO.cg Nn80 Xg89 C (by rfl)
        replace Nn82 := NatO.cg Nn82 Xg89 C (by rfl)
        replace Nn84 := NatO.cg Nn84 Xg89 C (by rfl)
        replace Qq86 := Qq86.cg Xg89 C (by rfl)
        clear C Xg89
        have Xg89 := Y
        clear Y
        refine t 16 (.int .i64 0) ?_
        refine gl_nil ?_
        refine ge_then ?_
        refine gc_fr [(5, pg g2), (10, .bool false), (11, pg g66), (15, pg g89)] (by kernel_rfl) ?_
        refine gc_seq ?_
        replace E := E.drew
        replace X := X.keep (Below.refl _ _).drew
        replace BB := BB.drew
        replace Xg2 := Xg2.drew
        replace Xg4 := Xg4.drew
        replace Nn5 := Nn5.keep (Below.refl _ _).drew
        replace Xg66 := Xg66.drew
        replace Nn67 := Nn67.keep (Below.refl _ _).drew
        replace Qq69 := Qq69.drew
        replace Nn74 := Nn74.keep (Below.refl _ _).drew
        replace Nn76 := Nn76.keep (Below.refl _ _).drew
        replace Nn78 := Nn78.keep (Below.refl _ _).drew
        replace Nn80 := Nn80.keep (Below.refl _ _).drew
        replace Nn82 := Nn82.keep (Below.refl _ _).drew
        replace Nn84 := Nn84.keep (Below.refl _ _).drew
        replace Qq86 := Qq86.drew
        replace Xg89 := Xg89.drew
        refine gc_draw (fun w' => Blk w' g2 [.slice a0 n0 c0, .slice b0 m0 d0] 40 ∧ Blk w' g66 [.slice aq69 kq69 dq69, .slice bq69 lq69 eq69] 40 ∧ Blk w' g89 [.slice aq86 kq86 dq86, .slice bq86 lq86 eq86] 40) (fun _ => false) ⟨Xg2, Xg66, Xg89⟩ ?_
        refine zlr 0 47 [.slice a0 n0 c0, .slice b0 m0 d0] (fun _ h => h.1) 0 ?_
        refine zlr 1 48 [.slice aq69 kq69 dq69, .slice bq69 lq69 eq69] (fun _ h => h.2.1) 0 ?_
        refine zlr 2 49 [.slice aq86 kq86 dq86, .slice bq86 lq86 eq86] (fun _ h => h.2.2) 0 ?_
        refine zc 3 50 53 #[.agg #[.slice aq69 kq69 dq69, .slice bq69 lq69 eq69], .agg #[.slice aq86 kq86 dq86, .slice bq86 lq86 eq86]] (tpAdd (B := 320) (Qq69.v (ft_up fp (by decide))) (Qq86.v (ft_up fr (by decide))) (by omega)) ?_
        rintro _ v92 ⟨aq91, kq91, dq91, bq91, lq91, eq91, rfl, Qq91, B⟩
        replace E := E.keep B
        replace X := X.keep B
        replace BB := joinB BB B
        replace Xg2 := Xg2.keep B
        replace Xg4 := Xg4.keep B
        replace Nn5 := Nn5.keep B
        replace Xg66 := Xg66.keep B
        replace Nn67 := Nn67.keep B
        replace Qq69 := Qq69.keep B
        replace Nn74 := Nn74.keep B
        replace Nn76 := Nn76.keep B
        replace Nn78 := Nn78.keep B
        replace Nn80 := Nn80.keep B
        replace Nn82 := Nn82.keep B
        replace Nn84 := Nn84.keep B
        replace Qq86 := Qq86.keep B
        replace Xg89 := Xg89.keep B
        clear B
        refine ⟨_, rfl, ⟨Xg2, Xg66, Xg89⟩, ?_⟩
        refine zc 4 51 74 #[.agg #[.slice a0 n0 c0, .slice b0 m0 d0], .agg #[.slice aq91 kq91 dq91, .slice bq91 lq91 eq91]] (tpCmp (B := 320) E (Qq91.v (ft_up (ft_add fp fr hp0 hr0) (by decide))) (by omega)) ?_
        rintro _ v93 ⟨rfl, B⟩
        replace E := E.keep B
        replace X := X.keep B
        replace BB := joinB BB B
        replace Xg2 := Xg2.keep B
        replace Xg4 := Xg4.keep B
        replace Nn5 := Nn5.keep B
        replace Xg66 := Xg66.keep B
        replace Nn67 := Nn67.keep B
        replace Qq69 := Qq69.keep B
        replace Nn74 := Nn74.keep B
        replace Nn76 := Nn76.keep B
        replace Nn78 := Nn78.keep B
        replace Nn80 := Nn80.keep B
        replace Nn82 := Nn82.keep B
        replace Nn84 := Nn84.keep B
        replace Qq86 := Qq86.keep B
        replace Xg89 := Xg89.keep B
        replace Qq91 := Qq91.keep B
        clear B
        refine ⟨_, rfl, ⟨Xg2, Xg66, Xg89⟩, ?_⟩
        by_cases c94 : (sgr (r) ((paid u x) + (room p k)) : Int) ≤ 0
        · refine zq 5 52 (.bool (decide ((sgr (r) ((paid u x) + (room p k)) : Int) ≤ 0))) (.bool true) (congrArg Value.bool (decide_eq_true c94)) ?_
          refine z 6 10 (.bool true) ?_
          refine gz_done ?_
          refine ge_then ?_
          refine gc_ret ?_
          refine ge_ret (.bool true) (rs1 10 (by kernel_rfl) (by kernel_rfl)) ?_
          exact ⟨congrArg (fun b => Ending.returned (.bool b)) (fit_y c73 c94).symm, BB⟩
        · refine zq 5 52 (.bool (decide ((sgr (r) ((paid u x) + (room p k)) : Int) ≤ 0))) (.bool false) (congrArg Value.bool (decide_eq_false c94)) ?_
          refine z 6 10 (.bool false) ?_
          refine gz_done ?_
          refine ge_then ?_
          refine gc_ret ?_
          refine ge_ret (.bool false) (rs1 10 (by kernel_rfl) (by kernel_rfl)) ?_
          exact ⟨congrArg (fun b => Ending.returned (.bool b)) (fit_z c94).symm, BB⟩
    exact ga_nil
  have lXg2 := Xg2.lt
  have lXg4 := Xg4.lt
  refine zaa 5 11 [.slice none 0 0, .slice none 0 0] 40 (pg) ?_ ?_
  · intro v95 g96 Xg96 hg96 B
    replace E := E.keep B
    replace X := X.keep B
    replace BB := joinB BB B
    replace Xg2 := Xg2.keep B
    replace Xg4 := Xg4.keep B
    clear B
    refine ⟨Xg4, ?_⟩
    refine zc 1 18 73 #[.int .u64 u] (eOf (x := u) (hu).1 (hu).2) ?_
    rintro _ v98 ⟨an97, kn97, dn97, rfl, Nn97, ln97, B⟩
    replace E := E.keep B
    replace X := X.keep B
    replace BB := joinB BB B
    replace Xg2 := Xg2.keep B
    replace Xg4 := Xg4.keep B
    replace Xg96 := Xg96.keep B
    clear B
    refine ⟨_, rfl, Xg4, ?_⟩
    refine zc 3 20 72 #[.agg #[.slice an97 kn97 dn97], .agg #[.slice aq nq cq]] (eAdd Nn97.a X (by omega) (by omega)) ?_
    rintro _ v100 ⟨an99, kn99, dn99, rfl, Nn99, ln99, B⟩
    replace E := E.keep B
    replace X := X.keep B
    replace BB := joinB BB B
    replace Xg2 := Xg2.keep B
    replace Xg4 := Xg4.keep B
    replace Xg96 := Xg96.keep B
    replace Nn97 := Nn97.keep B
    clear B
    refine ⟨_, rfl, Xg4, ?_⟩
    refine zc 4 21 56 #[.agg #[.slice an99 kn99 dn99]] (tpOfDec (B := 320) Nn99.a (by omega) (by omega) (by omega)) ?_
    rintro _ v102 ⟨aq101, kq101, dq101, bq101, lq101, eq101, rfl, Qq101, B⟩
    replace E := E.keep B
    replace X := X.keep B
    replace BB := joinB BB B
    replace Xg2 := Xg2.keep B
    replace Xg4 := Xg4.keep B
    replace Xg96 := Xg96.keep B
    replace Nn97 := Nn97.keep B
    replace Nn99 := Nn99.keep B
    clear B
    refine ⟨_, rfl, Xg4, ?_⟩
    refine zs 6 Xg96 0 (.agg #[.slice aq101 kq101 dq101, .slice bq101 lq101 eq101]) [.slice aq101 kq101 dq101, .slice bq101 lq101 eq101] [.slice aq101 kq101 dq101, .slice bq101 lq101 eq101] ?_
    intro v103 Y C
    replace E := E.cg Xg96 C (by rfl)
    replace X := NatA.cg X Xg96 C (by rfl)
    replace BB := belowC BB C (by omega)
    replace Xg2 := Xg2.chg C (show g2 ≠ g96 by omega)
    replace Xg4 := Xg4.chg C (show g4 ≠ g96 by omega)
    replace Nn97 := NatO.cg Nn97 Xg96 C (by rfl)
    replace Nn99 := NatO.cg Nn99 Xg96 C (by rfl)
    replace Qq101 := Qq101.cg Xg96 C (by rfl)
    clear C Xg96
    have Xg96 := Y
    clear Y
    refine ⟨Xg4, ?_⟩
    refine gz_done ?_
    refine ge_then ?_
    refine gc_fr [(3, .int .i64 p), (4, .int .i64 k), (5, pg g2), (10, .bool false), (11, pg g96)] (by kernel_rfl) ?_
    refine gc_seq ?_
    refine gc_seq ?_
    refine gc_reg ?_
    refine tlr 22 [.slice aq101 kq101 dq101, .slice bq101 lq101 eq101] Xg96 0 ?_
    refine tlr 23 [.slice a0 n0 c0, .slice b0 m0 d0] Xg2 0 ?_
    refine tc 24 74 #[.agg #[.slice aq101 kq101 dq101, .slice bq101 lq101 eq101], .agg #[.slice a0 n0 c0, .slice b0 m0 d0]] (tpCmp (B := 320) (Qq101.v (ft_up fp (by decide))) E (by omega)) ?_
    rintro _ v104 ⟨rfl, B⟩
    refine ⟨_, rfl, ?_⟩
    replace E := E.keep B
    replace X := X.keep B
    replace BB := joinB BB B
    replace Xg2 := Xg2.keep B
    replace Xg4 := Xg4.keep B
    replace Xg96 := Xg96.keep B
    replace Nn97 := Nn97.keep B
    replace Nn99 := Nn99.keep B
    replace Qq101 := Qq101.keep B
    clear B
    by_cases c105 : (0 : Int) < sgr (paid u x) (r)
    · refine tq 25 (.bool (decide ((0 : Int) < sgr (paid u x) (r)))) (.bool true) (congrArg Value.bool (decide_eq_true c105)) ?_
      refine gl_nil ?_
      refine ge_then ?_
      refine gc_yes ?_
      refine gc_seq ?_
      refine gc_reg ?_
      refine t 10 (.bool false) ?_
      refine gl_nil ?_
      refine ge_then ?_
      refine gc_ret ?_
      refine ge_tr ?_
      refine ge_ret (.bool false) (rs1 10 (by kernel_rfl) (by kernel_rfl)) ?_
      exact ⟨congrArg (fun b => Ending.returned (.bool b)) (fit_n c105).symm, BB⟩
    · refine tq 25 (.bool (decide ((0 : Int) < sgr (paid u x) (r)))) (.bool false) (congrArg Value.bool (decide_eq_false c105)) ?_
      refine gl_nil ?_
      refine ge_then ?_
      refine gc_no ?_
      refine gc_skip ?_
      refine ge_then ?_
      refine gc_seq ?_
      refine gc_reg ?_
      refine t 26 (.int .i64 p) ?_
      refine tr 27 (.int .i64 (pos p)) (run_pos) ?_
      refine tr 28 (.int .u64 (pos p)) (run_iu (hpp)) ?_
      refine tc 29 66 #[.int .u64 (pos p)] (rOf (x := (pos p)) (hpp).1 (hpp).2) ?_
      rintro _ v107 ⟨an106, kn106, dn106, rfl, Nn106, ln106, B⟩
      refine ⟨_, rfl, ?_⟩
      replace E := E.keep B
      replace X := X.keep B
      replace BB := joinB BB B
      replace Xg2 := Xg2.keep B
      replace Xg4 := Xg4.keep B
      replace Xg96 := Xg96.keep B
      replace Nn97 := Nn97.keep B
      replace Nn99 := Nn99.keep B
      replace Qq101 := Qq101.keep B
      clear B
      refine t 30 (.int .i64 k) ?_
      refine tr 31 (.int .i64 (pos k)) (run_pos) ?_
      refine tr 32 (.int .u64 (pos k)) (run_iu (hkk)) ?_
      refine tc 33 66 #[.int .u64 (pos k)] (rOf (x := (pos k)) (hkk).1 (hkk).2) ?_
      rintro _ v109 ⟨an108, kn108, dn108, rfl, Nn108, ln108, B⟩
      refine ⟨_, rfl, ?_⟩
      replace E := E.keep B
      replace X := X.keep B
      replace BB := joinB BB B
      replace Xg2 := Xg2.keep B
      replace Xg4 := Xg4.keep B
      replace Xg96 := Xg96.keep B
      replace Nn97 := Nn97.keep B
      replace Nn99 := Nn99.keep B
      replace Qq101 := Qq101.keep B
      replace Nn106 := Nn106.keep B
      clear B
      refine tc 34 66 #[.int .u64 3] (rOf (x := 3) (by decide) (by decide)) ?_
      rintro _ v111 ⟨an110, kn110, dn110, rfl, Nn110, ln110, B⟩
      refine ⟨_, rfl, ?_⟩
      replace E := E.keep B
      replace X := X.keep B
      replace BB := joinB BB B
      replace Xg2 := Xg2.keep B
      replace Xg4 := Xg4.keep B
      replace Xg96 := Xg96.keep B
      replace Nn97 := Nn97.keep B
      replace Nn99 := Nn99.keep B
      replace Qq101 := Qq101.keep B
      replace Nn106 := Nn106.keep B
      replace Nn108 := Nn108.keep B
      clear B
      refine tc 35 75 #[.slice an108 kn108 dn108, .slice an110 kn110 dn110] (rAdd Nn108.a Nn110.a (by omega) (by omega)) ?_
      rintro _ v113 ⟨an112, kn112, dn112, rfl, Nn112, ln112, B⟩
      refine ⟨_, rfl, ?_⟩
      replace E := E.keep B
      replace X := X.keep B
      replace BB := joinB BB B
      replace Xg2 := Xg2.keep B
      replace Xg4 := Xg4.keep B
      replace Xg96 := Xg96.keep B
      replace Nn97 := Nn97.keep B
      replace Nn99 := Nn99.keep B
      replace Qq101 := Qq101.keep B
      replace Nn106 := Nn106.keep B
      replace Nn108 := Nn108.keep B
      replace Nn110 := Nn110.keep B
      clear B
      refine tc 36 65 #[.slice an106 kn106 dn106, .slice an112 kn112 dn112] (rMul Nn106.a Nn112.a (by omega) (by omega)) ?_
      rintro _ v115 ⟨an114, kn114, dn114, rfl, Nn114, ln114, B⟩
      refine ⟨_, rfl, ?_⟩
      replace E := E.keep B
      replace X := X.keep B
      replace BB := joinB BB B
      replace Xg2 := Xg2.keep B
      replace Xg4 := Xg4.keep B
      replace Xg96 := Xg96.keep B
      replace Nn97 := Nn97.keep B
      replace Nn99 := Nn99.keep B
      replace Qq101 := Qq101.keep B
      replace Nn106 := Nn106.keep B
      replace Nn108 := Nn108.keep B
      replace Nn110 := Nn110.keep B
      replace Nn112 := Nn112.keep B
      clear B
      refine t 12 (.slice an114 kn114 dn114) ?_
      refine gl_nil ?_
      refine ge_then ?_
      refine gc_fr [(5, pg g2), (10, .bool false), (11, pg g96), (12, .slice an114 kn114 dn114)] (by kernel_rfl) ?_
      refine gc_seq ?_
      refine gc_reg ?_
      refine tc 38 76 #[.int .i64 18] (rPow 18 (by decide)) ?_
      rintro _ v117 ⟨an116, kn116, dn116, rfl, Nn116, ln116, B⟩
      refine ⟨_, rfl, ?_⟩
      replace E := E.keep B
      replace X := X.keep B
      replace BB := joinB BB B
      replace Xg2 := Xg2.keep B
      replace Xg4 := Xg4.keep B
      replace Xg96 := Xg96.keep B
      replace Nn97 := Nn97.keep B
      replace Nn99 := Nn99.keep B
      replace Qq101 := Qq101.keep B
      replace Nn106 := Nn106.keep B
      replace Nn108 := Nn108.keep B
      replace Nn110 := Nn110.keep B
      replace Nn112 := Nn112.keep B
      replace Nn114 := Nn114.keep B
      clear B
      refine t 37 (.tuple #[.slice an116 kn116 dn116, .int .i64 0]) ?_
      refine t 39 (.slice an116 kn116 dn116) ?_
      refine t 40 (.int .i64 0) ?_
      refine t 13 (.slice an116 kn116 dn116) ?_
      refine t 14 (.int .i64 0) ?_
      refine gl_nil ?_
      refine ge_then ?_
      refine gc_seq ?_
      refine gc_reg ?_
      refine t 42 (.slice an114 kn114 dn114) ?_
      refine t 43 (.slice an116 kn116 dn116) ?_
      refine tc 44 64 #[.slice an114 kn114 dn114, .slice an116 kn116 dn116] (tpOf (B := 320) Nn114.a Nn116.a (by omega) (by omega) (by omega) (by decide)) ?_
      rintro _ v119 ⟨aq118, kq118, dq118, bq118, lq118, eq118, rfl, Qq118, B⟩
      refine ⟨_, rfl, ?_⟩
      replace E := E.keep B
      replace X := X.keep B
      replace BB := joinB BB B
      replace Xg2 := Xg2.keep B
      replace Xg4 := Xg4.keep B
      replace Xg96 := Xg96.keep B
      replace Nn97 := Nn97.keep B
      replace Nn99 := Nn99.keep B
      replace Qq101 := Qq101.keep B
      replace Nn106 := Nn106.keep B
      replace Nn108 := Nn108.keep B
      replace Nn110 := Nn110.keep B
      replace Nn112 := Nn112.keep B
      replace Nn114 := Nn114.keep B
      replace Nn116 := Nn116.keep B
      clear B
      refine t 41 (.tuple #[.agg #[.slice aq118 kq118 dq118, .slice bq118 lq118 eq118], .int .i64 0]) ?_
      refine t 45 (.agg #[.slice aq118 kq118 dq118, .slice bq118 lq118 eq118]) ?_
      refine t 46 (.int .i64 0) ?_
      have lXg2 := Xg2.lt
      have lXg4 := Xg4.lt
      have lXg96 := Xg96.lt
      refine ta 15 [.slice none 0 0, .slice none 0 0] 40 (pg) ?_
      intro v120 g121 Xg121 hg121 B
      replace E := E.keep B
      replace X := X.keep B
      replace BB := joinB BB B
      replace Xg2 := Xg2.keep B
      replace Xg4 := Xg4.keep B
      replace Xg96 := Xg96.keep B
      replace Nn97 := Nn97.keep B
      replace Nn99 := Nn99.keep B
      replace Qq101 := Qq101.keep B
      replace Nn106 := Nn106.keep B
      replace Nn108 := Nn108.keep B
      replace Nn110 := Nn110.keep B
      replace Nn112 := Nn112.keep B
      replace Nn114 := Nn114.keep B
      replace Nn116 := Nn116.keep B
      replace Qq118 := Qq118.keep B
      clear B
      refine ts Xg121 0 (.agg #[.slice aq118 kq118 dq118, .slice bq118 lq118 eq118]) [.slice aq118 kq118 dq118, .slice bq118 lq118 eq118] [.slice aq118 kq118 dq118, .slice bq118 lq118 eq118] ?_
      intro v122 Y C
      replace E := E.cg Xg121 C (by rfl)
      replace X := NatA.cg X Xg121 C (by rfl)
      replace BB := belowC BB C (by omega)
      replace Xg2 := Xg2.chg C (show g2 ≠ g121 by omega)
      replace Xg4 := Xg4.chg C (show g4 ≠ g121 by omega)
      replace Xg96 := Xg96.chg C (show g96 ≠ g121 by omega)
      replace Nn97 := NatO.cg Nn97 Xg121 C (by rfl)
      replace Nn99 := NatO.cg Nn99 Xg121 C (by rfl)
      replace Qq101 := Qq101.cg Xg121 C (by rfl)
      replace Nn106 := NatO.cg Nn106 Xg121 C (by rfl)
      replace Nn108 := NatO.cg Nn108 Xg121 C (by rfl)
      replace Nn110 := NatO.cg Nn110 Xg121 C (by rfl)
      replace Nn112 := NatO.cg Nn112 Xg121 C (by rfl)
      replace Nn114 := NatO.cg Nn114 Xg121 C (by rfl)
      replace Nn116 := NatO.cg Nn116 Xg121 C (by rfl)
      replace Qq118 := Qq118.cg Xg121 C (by rfl)
      clear C Xg121
      have Xg121 := Y
      clear Y
      refine t 16 (.int .i64 0) ?_
      refine gl_nil ?_
      refine ge_then ?_
      refine gc_fr [(5, pg g2), (10, .bool false), (11, pg g96), (15, pg g121)] (by kernel_rfl) ?_
      refine gc_seq ?_
      replace E := E.drew
      replace X := X.keep (Below.refl _ _).drew
      replace BB := BB.drew
      replace Xg2 := Xg2.drew
      replace Xg4 := Xg4.drew
      replace Xg96 := Xg96.drew
      replace Nn97 := Nn97.keep (Below.refl _ _).drew
      replace Nn99 := Nn99.keep (Below.refl _ _).drew
      replace Qq101 := Qq101.drew
      replace Nn106 := Nn106.keep (Below.refl _ _).drew
      replace Nn108 := Nn108.keep (Below.refl _ _).drew
      replace Nn110 := Nn110.keep (Below.refl _ _).drew
      replace Nn112 := Nn112.keep (Below.refl _ _).drew
      replace Nn114 := Nn114.keep (Below.refl _ _).drew
      replace Nn116 := Nn116.keep (Below.refl _ _).drew
      replace Qq118 := Qq118.drew
      replace Xg121 := Xg121.drew
      refine gc_draw (fun w' => Blk w' g2 [.slice a0 n0 c0, .slice b0 m0 d0] 40 ∧ Blk w' g96 [.slice aq101 kq101 dq101, .slice bq101 lq101 eq101] 40 ∧ Blk w' g121 [.slice aq118 kq118 dq118, .slice bq118 lq118 eq118] 40) (fun _ => false) ⟨Xg2, Xg96, Xg121⟩ ?_
      refine zlr 0 47 [.slice a0 n0 c0, .slice b0 m0 d0] (fun _ h => h.1) 0 ?_
      refine zlr 1 48 [.slice aq101 kq101 dq101, .slice bq101 lq101 eq101] (fun _ h => h.2.1) 0 ?_
      refine zlr 2 49 [.slice aq118 kq118 dq118, .slice bq118 lq118 eq118] (fun _ h => h.2.2) 0 ?_
      refine zc 3 50 53 #[.agg #[.slice aq101 kq101 dq101, .slice bq101 lq101 eq101], .agg #[.slice aq118 kq118 dq118, .slice bq118 lq118 eq118]] (tpAdd (B := 320) (Qq101.v (ft_up fp (by decide))) (Qq118.v (ft_up fr (by decide))) (by omega)) ?_
      rintro _ v124 ⟨aq123, kq123, dq123, bq123, lq123, eq123, rfl, Qq123, B⟩
      replace E := E.keep B
      replace X := X.keep B
      replace BB := joinB BB B
      replace Xg2 := Xg2.keep B
      replace Xg4 := Xg4.keep B
      replace Xg96 := Xg96.keep B
      replace Nn97 := Nn97.keep B
      replace Nn99 := Nn99.keep B
      replace Qq101 := Qq101.keep B
      replace Nn106 := Nn106.keep B
      replace Nn108 := Nn108.keep B
      replace Nn110 := Nn110.keep B
      replace Nn112 := Nn112.keep B
      replace Nn114 := Nn114.keep B
      replace Nn116 := Nn116.keep B
      replace Qq118 := Qq118.keep B
      replace Xg121 := Xg121.keep B
      clear B
      refine ⟨_, rfl, ⟨Xg2, Xg96, Xg121⟩, ?_⟩
      refine zc 4 51 74 #[.agg #[.slice a0 n0 c0, .slice b0 m0 d0], .agg #[.slice aq123 kq123 dq123, .slice bq123 lq123 eq123]] (tpCmp (B := 320) E (Qq123.v (ft_up (ft_add fp fr hp0 hr0) (by decide))) (by omega)) ?_
      rintro _ v125 ⟨rfl, B⟩
      replace E := E.keep B
      replace X := X.keep B
      replace BB := joinB BB B
      replace Xg2 := Xg2.keep B
      replace Xg4 := Xg4.keep B
      replace Xg96 := Xg96.keep B
      replace Nn97 := Nn97.keep B
      replace Nn99 := Nn99.keep B
      replace Qq101 := Qq101.keep B
      replace Nn106 := Nn106.keep B
      replace Nn108 := Nn108.keep B
      replace Nn110 := Nn110.keep B
      replace Nn112 := Nn112.keep B
      replace Nn114 := Nn114.keep B
      replace Nn116 := Nn116.keep B
      replace Qq118 := Qq118.keep B
      replace Xg121 := Xg121.keep B
      replace Qq123 := Qq123.keep B
      clear B
      refine ⟨_, rfl, ⟨Xg2, Xg96, Xg121⟩, ?_⟩
      by_cases c126 : (sgr (r) ((paid u x) + (room p k)) : Int) ≤ 0
      · refine zq 5 52 (.bool (decide ((sgr (r) ((paid u x) + (room p k)) : Int) ≤ 0))) (.bool true) (congrArg Value.bool (decide_eq_true c126)) ?_
        refine z 6 10 (.bool true) ?_
        refine gz_done ?_
        refine ge_then ?_
        refine gc_ret ?_
        refine ge_ret (.bool true) (rs1 10 (by kernel_rfl) (by kernel_rfl)) ?_
        exact ⟨congrArg (fun b => Ending.returned (.bool b)) (fit_y c105 c126).symm, BB⟩
      · refine zq 5 52 (.bool (decide ((sgr (r) ((paid u x) + (room p k)) : Int) ≤ 0))) (.bool false) (congrArg Value.bool (decide_eq_false c126)) ?_
        refine z 6 10 (.bool false) ?_
        refine gz_done ?_
        refine ge_then ?_
        refine gc_ret ?_
        refine ge_ret (.bool false) (rs1 10 (by kernel_rfl) (by kernel_rfl)) ?_
        exact ⟨congrArg (fun b => Ending.returned (.bool b)) (fit_z c126).symm, BB⟩
  exact ga_nil
end Lg
end Go.Proofs.YtlbndpkdkdgggaaGreatDoor
