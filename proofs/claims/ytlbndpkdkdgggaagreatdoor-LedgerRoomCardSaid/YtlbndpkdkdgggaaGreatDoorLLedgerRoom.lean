/- gleanlaw24.LedgerRoom returns true for every payment. (tools/gen_lgl.py) -/
import Derived.Test.YtlbndpkdkdgggaaGreatDoorJrj
import Derived.Test.YtlbndpkdkdgggaaGreatDoorJrr
namespace Go.Proofs.YtlbndpkdkdgggaaGreatDoor
namespace ledgerRoom
open Go.RowKit Go.Lib Lim Pg Gl Lg
set_option linter.unusedVariables false
theorem vqr {w : World} {a b : Option Addr} {n c m d B : Nat} {r s : Rat} (e : r = s) (h : VQ w a n c b m d r B) : VQ w a n c b m d s B := e ▸ h
set_option maxHeartbeats 1000000 in
set_option maxRecDepth 100000 in
theorem place (k : Int) (w : World) :
    Calls Tryz.prog 43 #[.int .i64 k, .int .i64 1099511627776] w fun e w' => ∃ m : Int, e = .returned (.int .i64 m) ∧ 0 ≤ m ∧ m < 1099511627776 ∧ Below w.heap.size w w' := by
  have b1 := Int.lt_tmod_of_pos k (show (0 : Int) < 1099511627776 by omega)
  have b2 := Int.tmod_lt_of_pos k (show (0 : Int) < 1099511627776 by omega)
  obtain ⟨r, hr⟩ : ∃ r, Int.tmod k 1099511627776 = r := ⟨_, rfl⟩
  rw [hr] at b1 b2
  have b3 : -1099511627776 ≤ r ∧ r ≤ 1099511627776 := by omega
  by_cases hneg : r < 0
  · go_enter Tryz.func43, Tryz.ntmps43
    go_wp2
    go_ret
    exact ⟨r + 1099511627776, rfl, by omega, by omega, Below.refl _ _⟩
  · go_enter Tryz.func43, Tryz.ntmps43
    go_wp2
    go_ret
    exact ⟨r, rfl, by omega, by omega, Below.refl _ _⟩
theorem pFitsL {w : World} {a0 b0 aq : Option Addr} {n0 c0 m0 d0 nq cq : Nat} {r : Rat} {u x p k : Int} {t : Bool} (ht : fitV r u x p k = t) (E : VQ w a0 n0 c0 b0 m0 d0 r 320) (hu : 0 ≤ u ∧ u < 18446744073709551616) (X : NatA w aq nq cq x) (hq : nq ≤ 60) (hp : p ≤ 9223372036854775807) (hk : k ≤ 9223372036854775807) :
    Calls Tryz.prog 31 #[.agg #[.slice a0 n0 c0, .slice b0 m0 d0], .int .u64 u, .agg #[.slice aq nq cq], .int .i64 p, .int .i64 k] w fun e w' => e = .returned (.bool t) ∧ Below w.heap.size w w' := by
  have := pFits E hu X hq hp hk
  rw [ht] at this
  exact this
theorem pFitsE {w : World} {a0 b0 aq : Option Addr} {n0 c0 m0 d0 nq cq : Nat} {r : Rat} {u x p k : Int} (E : VQ w a0 n0 c0 b0 m0 d0 r 320) (hu : 0 ≤ u ∧ u < 18446744073709551616) (X : NatA w aq nq cq x) (hq : nq ≤ 60) (hp : p ≤ 9223372036854775807) (hk : k ≤ 9223372036854775807) :
    Calls Tryz.prog 31 #[.agg #[.slice a0 n0 c0, .slice b0 m0 d0], .int .u64 u, .agg #[.slice aq nq cq], .int .i64 p, .int .i64 k] w fun e w' => ∃ t, e = .returned (.bool t) ∧ fitV r u x p k = t ∧ Below w.heap.size w w' :=
  (pFits E hu X hq hp hk).mono fun e w' h => ⟨_, h.1, rfl, h.2⟩
theorem room_le {p k p' k' : Int} (hp : pos p ≤ pos p') (hk : pos k ≤ pos k') (h0 : 0 ≤ pos p) (h1 : 0 ≤ pos k) : room p k ≤ room p' k' := by
  rw [le_fr (by decide) (by decide)]
  refine Int.mul_le_mul_of_nonneg_right ?_ (by decide)
  exact Int.le_trans (Int.mul_le_mul_of_nonneg_right hp (by omega)) (Int.mul_le_mul_of_nonneg_left (by omega) (by omega))
theorem fit_more {r : Rat} {u x p k p' k' : Int} (h : fitV r u x p k = true) (hp : 0 ≤ p ∧ p ≤ p') (hk : 0 ≤ k ∧ k ≤ k') : fitV r u x p' k' = true := by
  unfold fitV at h ⊢
  simp only [Bool.and_eq_true, decide_eq_true_eq] at h ⊢
  have e := room_le (p := p) (k := k) (p' := p') (k' := k') (by unfold pos; split <;> split <;> omega) (by unfold pos; split <;> split <;> omega) (by unfold pos; split <;> omega) (by unfold pos; split <;> omega)
  exact ⟨h.1, Rat.le_trans h.2 (by have := Rat.add_le_add_left (c := paid u x) |>.2 e; exact this)⟩
theorem fit_self {u x p k : Int} (h : 0 ≤ room p k) : fitV (paid u x) u x p k = true := by
  unfold fitV
  simp only [Bool.and_eq_true, decide_eq_true_eq]
  exact ⟨Rat.le_refl, by have := Rat.add_le_add_left (c := paid u x) |>.2 h; rw [Rat.add_zero] at this; exact this⟩
theorem fit_not {r : Rat} {u x p k : Int} (h : fitV r u x p k = true) (c : (0 : Int) < sgr (paid u x) r) : False := by
  rw [fit_n c] at h; cases h
set_option maxHeartbeats 4000000 in
set_option maxRecDepth 100000 in
theorem walk (a0 : Option Addr) (len0 cap0 : Nat) (z0 : List Int) (b0 : Option Addr) (ken0 dap0 : Nat) (y0 : List Int) (x1 : Int) (a2 : Option Addr) (len2 cap2 : Nat) (z2 : List Int) (x3 x4 : Int) (w : World) (w0 : IsRow w a0 len0 cap0 z0) (x0 : IsRow w b0 ken0 dap0 y0) (wx1 : (Lit.int .u64 x1).wf = true) (w2 : IsRow w a2 len2 cap2 z2) (wx3 : (Lit.int .i64 x3).wf = true) (wx4 : (Lit.int .i64 x4).wf = true) : Calls Tryz.prog 8 #[.agg #[.slice a0 len0 cap0, .slice b0 ken0 dap0], .int .u64 x1, .agg #[.slice a2 len2 cap2], .int .i64 x3, .int .i64 x4] w fun e w' => e = .returned (.bool true) ∧ Below w.heap.size w w' := by
  obtain ⟨g0, o0, l0, hl0, hc0, hm0, W0, h0⟩ := w0.open
  have N0 : NatA w a0 len0 cap0 (val l0) := ⟨g0, o0, l0, hl0, hc0, W0, h0, rfl⟩
  obtain ⟨g1, o1, k0, hk0, hd0, hn0, V0, i0⟩ := x0.open
  have M0 : NatA w b0 ken0 dap0 (val k0) := ⟨g1, o1, k0, hk0, hd0, V0, i0, rfl⟩
  obtain ⟨g2, o2, l2, hl2, hc2, hm2, W2, h2⟩ := w2.open
  have N2 : NatA w a2 len2 cap2 (val l2) := ⟨g2, o2, l2, hl2, hc2, W2, h2, rfl⟩
  have hu' := bounds_u64 wx1
  have hu : 0 ≤ x1 ∧ x1 < 18446744073709551616 := by omega
  have hp := (bounds_i64 wx3).2
  have hk := (bounds_i64 wx4).2
  clear h0 i0 h2 W0 V0 W2 hl0 hk0 hl2 w0 x0 w2 wx1 wx3 wx4 hu'
  generalize hr : ((cn (val l0) (val k0) : Rat) / (cd (val k0) : Rat)) = r
  obtain ⟨x2, hx2⟩ : ∃ x2, val l2 = x2 := ⟨_, rfl⟩
  rw [hx2] at N2
  obtain ⟨y1, hy1⟩ : ∃ y1, val l0 = y1 := ⟨_, rfl⟩
  obtain ⟨y2, hy2⟩ : ∃ y2, val k0 = y2 := ⟨_, rfl⟩
  rw [hy1] at N0 hr
  rw [hy2] at M0 hr
  clear hx2 hy1 hy2
  have BB := Below.refl w.heap.size w
  refine gc_enter (n := 86) Tryz.func8 rfl (by kernel_rfl) (by kernel_rfl) ?_
  refine gc_seq ?_
  refine gc_reg ?_
  refine ta 5 [.slice a0 len0 cap0, .slice b0 ken0 dap0] 40 (pg) ?_
  intro v1 g2 Xg2 hg2 B
  replace N0 := N0.keep B
  replace M0 := M0.keep B
  replace N2 := N2.keep B
  replace BB := joinB BB B
  clear B
  have lXg2 := Xg2.lt
  refine ta 7 [.slice a2 len2 cap2] 35 (pg) ?_
  intro v3 g4 Xg4 hg4 B
  replace N0 := N0.keep B
  replace M0 := M0.keep B
  replace N2 := N2.keep B
  replace BB := joinB BB B
  replace Xg2 := Xg2.keep B
  clear B
  refine t 10 (.bool false) ?_
  refine gl_nil ?_
  refine ge_then ?_
  refine gc_seq ?_
  refine gc_seq ?_
  refine gc_reg ?_
  refine tc 13 9 #[] (known24) ?_
  rintro _ v5 ⟨rfl, B⟩
  refine ⟨_, rfl, ?_⟩
  replace N0 := N0.keep B
  replace M0 := M0.keep B
  replace N2 := N2.keep B
  replace BB := joinB BB B
  replace Xg2 := Xg2.keep B
  replace Xg4 := Xg4.keep B
  clear B
  refine t 14 (.bool false) ?_
  refine gl_nil ?_
  refine ge_then ?_
  refine gc_no ?_
  refine gc_skip ?_
  refine ge_then ?_
  refine gc_seq ?_
  refine gc_seq ?_
  refine gc_reg ?_
  refine t 15 (pg g2) ?_
  refine tl 16 (.slice a0 len0 cap0) Xg2 0 ?_
  refine t 17 (.int .i64 ((len0 : Nat) : Int)) ?_
  by_cases c6 : (20 : Int) < ((len0 : Nat) : Int)
  · refine tq 18 (.bool (decide ((20 : Int) < ((len0 : Nat) : Int)))) (.bool true) (congrArg Value.bool (decide_eq_true c6)) ?_
    refine t 19 (.bool true) ?_
    refine tn 20 ?_
    refine tn 21 ?_
    refine tn 22 ?_
    refine tn 23 ?_
    refine t 24 (.bool true) ?_
    refine t 25 (.bool true) ?_
    refine tn 26 ?_
    refine tn 27 ?_
    refine tn 28 ?_
    refine tn 29 ?_
    refine t 30 (.bool true) ?_
    refine gl_nil ?_
    refine ge_then ?_
    refine gc_fr [(1, .int .u64 x1), (3, .int .i64 x3), (4, .int .i64 x4), (5, pg g2), (7, pg g4), (10, .bool false), (30, .bool true)] (by kernel_rfl) ?_
    refine gc_yes ?_
    refine gc_seq ?_
    refine gc_reg ?_
    refine t 10 (.bool true) ?_
    refine gl_nil ?_
    refine ge_then ?_
    refine gc_ret ?_
    refine ge_tr ?_
    refine ge_ret (.bool true) (rs1 10 (by kernel_rfl) (by kernel_rfl)) ?_
    exact ⟨rfl, BB⟩
  · refine tq 18 (.bool (decide ((20 : Int) < ((len0 : Nat) : Int)))) (.bool false) (congrArg Value.bool (decide_eq_false c6)) ?_
    refine t 19 (.bool false) ?_
    refine t 20 (pq g2 1) ?_
    refine tl 21 (.slice b0 ken0 dap0) Xg2 1 ?_
    refine t 22 (.int .i64 ((ken0 : Nat) : Int)) ?_
    by_cases c7 : (20 : Int) < ((ken0 : Nat) : Int)
    · refine tq 23 (.bool (decide ((20 : Int) < ((ken0 : Nat) : Int)))) (.bool true) (congrArg Value.bool (decide_eq_true c7)) ?_
      refine t 24 (.bool true) ?_
      refine t 25 (.bool true) ?_
      refine tn 26 ?_
      refine tn 27 ?_
      refine tn 28 ?_
      refine tn 29 ?_
      refine t 30 (.bool true) ?_
      refine gl_nil ?_
      refine ge_then ?_
      refine gc_fr [(1, .int .u64 x1), (3, .int .i64 x3), (4, .int .i64 x4), (5, pg g2), (7, pg g4), (10, .bool false), (30, .bool true)] (by kernel_rfl) ?_
      refine gc_yes ?_
      refine gc_seq ?_
      refine gc_reg ?_
      refine t 10 (.bool true) ?_
      refine gl_nil ?_
      refine ge_then ?_
      refine gc_ret ?_
      refine ge_tr ?_
      refine ge_ret (.bool true) (rs1 10 (by kernel_rfl) (by kernel_rfl)) ?_
      exact ⟨rfl, BB⟩
    · refine tq 23 (.bool (decide ((20 : Int) < ((ken0 : Nat) : Int)))) (.bool false) (congrArg Value.bool (decide_eq_false c7)) ?_
      refine t 24 (.bool false) ?_
      refine t 25 (.bool false) ?_
      refine t 26 (pg g4) ?_
      refine tl 27 (.slice a2 len2 cap2) Xg4 0 ?_
      refine t 28 (.int .i64 ((len2 : Nat) : Int)) ?_
      by_cases c8 : (20 : Int) < ((len2 : Nat) : Int)
      · refine tq 29 (.bool (decide ((20 : Int) < ((len2 : Nat) : Int)))) (.bool true) (congrArg Value.bool (decide_eq_true c8)) ?_
        refine t 30 (.bool true) ?_
        refine gl_nil ?_
        refine ge_then ?_
        refine gc_fr [(1, .int .u64 x1), (3, .int .i64 x3), (4, .int .i64 x4), (5, pg g2), (7, pg g4), (10, .bool false), (30, .bool true)] (by kernel_rfl) ?_
        refine gc_yes ?_
        refine gc_seq ?_
        refine gc_reg ?_
        refine t 10 (.bool true) ?_
        refine gl_nil ?_
        refine ge_then ?_
        refine gc_ret ?_
        refine ge_tr ?_
        refine ge_ret (.bool true) (rs1 10 (by kernel_rfl) (by kernel_rfl)) ?_
        exact ⟨rfl, BB⟩
      · refine tq 29 (.bool (decide ((20 : Int) < ((len2 : Nat) : Int)))) (.bool false) (congrArg Value.bool (decide_eq_false c8)) ?_
        refine t 30 (.bool false) ?_
        refine gl_nil ?_
        refine ge_then ?_
        refine gc_fr [(1, .int .u64 x1), (3, .int .i64 x3), (4, .int .i64 x4), (5, pg g2), (7, pg g4), (10, .bool false), (30, .bool false)] (by kernel_rfl) ?_
        refine gc_no ?_
        refine gc_skip ?_
        refine ge_then ?_
        refine gc_seq ?_
        refine gc_reg ?_
        refine t 31 (.int .i64 x3) ?_
        refine tc 32 43 #[.int .i64 x3, .int .i64 1099511627776] (place _ _) ?_
        rintro _ v10 ⟨m9, rfl, hlm9, hum9, B⟩
        refine ⟨_, rfl, ?_⟩
        replace N0 := N0.keep B
        replace M0 := M0.keep B
        replace N2 := N2.keep B
        replace BB := joinB BB B
        replace Xg2 := Xg2.keep B
        replace Xg4 := Xg4.keep B
        clear B
        refine t 33 (.int .i64 x4) ?_
        refine tc 34 43 #[.int .i64 x4, .int .i64 1099511627776] (place _ _) ?_
        rintro _ v12 ⟨m11, rfl, hlm11, hum11, B⟩
        refine ⟨_, rfl, ?_⟩
        replace N0 := N0.keep B
        replace M0 := M0.keep B
        replace N2 := N2.keep B
        replace BB := joinB BB B
        replace Xg2 := Xg2.keep B
        replace Xg4 := Xg4.keep B
        clear B
        refine t 3 (.int .i64 m9) ?_
        refine t 4 (.int .i64 m11) ?_
        refine gl_nil ?_
        refine ge_then ?_
        refine gc_seq ?_
        refine gc_reg ?_
        refine tlr 35 [.slice a0 len0 cap0, .slice b0 ken0 dap0] Xg2 0 ?_
        refine t 36 (.int .u64 x1) ?_
        refine tlr 37 [.slice a2 len2 cap2] Xg4 0 ?_
        refine t 38 (.int .i64 m9) ?_
        refine t 39 (.int .i64 m11) ?_
        refine tc 40 31 #[.agg #[.slice a0 len0 cap0, .slice b0 ken0 dap0], .int .u64 x1, .agg #[.slice a2 len2 cap2], .int .i64 m9, .int .i64 m11] (pFitsE (vqr hr (vq_in N0 M0 (B := 320) (by omega) (by omega))) hu N2 (by omega) (by omega) (by omega)) ?_
        rintro _ v13 ⟨fb, rfl, hfb, B⟩
        refine ⟨_, rfl, ?_⟩
        replace N0 := N0.keep B
        replace M0 := M0.keep B
        replace N2 := N2.keep B
        replace BB := joinB BB B
        replace Xg2 := Xg2.keep B
        replace Xg4 := Xg4.keep B
        clear B
        cases fb
        · skip
          refine t 11 (.bool false) ?_
          refine gl_nil ?_
          refine ge_then ?_
          refine gc_fr [(1, .int .u64 x1), (3, .int .i64 m9), (4, .int .i64 m11), (5, pg g2), (7, pg g4), (10, .bool false), (11, .bool false)] (by kernel_rfl) ?_
          refine gc_seq ?_
          refine gc_seq ?_
          refine gc_reg ?_
          refine t 41 (.bool false) ?_
          refine t 42 (.bool false) ?_
          refine tn 43 ?_
          refine tn 44 ?_
          refine tn 45 ?_
          refine tn 46 ?_
          refine tn 47 ?_
          refine tn 48 ?_
          refine tn 49 ?_
          refine tn 50 ?_
          refine tn 51 ?_
          refine tn 52 ?_
          refine tn 53 ?_
          refine tn 54 ?_
          refine tn 55 ?_
          refine tn 56 ?_
          refine tn 57 ?_
          refine tn 58 ?_
          refine tn 59 ?_
          refine tn 60 ?_
          refine t 61 (.bool false) ?_
          refine gl_nil ?_
          refine ge_then ?_
          refine gc_fr [(1, .int .u64 x1), (3, .int .i64 m9), (4, .int .i64 m11), (5, pg g2), (7, pg g4), (10, .bool false), (11, .bool false), (61, .bool false)] (by kernel_rfl) ?_
          refine gc_no ?_
          refine gc_skip ?_
          refine ge_then ?_
          refine gc_seq ?_
          replace N0 := N0.keep (Below.refl _ _).drew
          replace M0 := M0.keep (Below.refl _ _).drew
          replace N2 := N2.keep (Below.refl _ _).drew
          replace BB := BB.drew
          replace Xg2 := Xg2.drew
          replace Xg4 := Xg4.drew
          refine gc_draw (fun w' => Blk w' g4 [.slice a2 len2 cap2] 35) (fun _ => false) Xg4 ?_
          refine z 0 62 (.int .u64 x1) ?_
          refine zlr 2 64 [.slice a2 len2 cap2] (fun _ h => h) 0 ?_
          refine gz_ready [1, 5] ?_
          refine ga_call 1 (some 63) 46 #[.int .u64 x1] (dOf (x := x1) (hu).1 (hu).2) ?_ ?_
          · rintro _ v15 ⟨an14, kn14, dn14, rfl, Nn14, ln14, B⟩
            replace N0 := N0.keep B
            replace M0 := M0.keep B
            replace N2 := N2.keep B
            replace BB := joinB BB B
            replace Xg2 := Xg2.keep B
            replace Xg4 := Xg4.keep B
            clear B
            refine ⟨_, rfl, Xg4, ?_⟩
            refine gz_ready [3, 5] ?_
            refine ga_call 3 (some 65) 45 #[.agg #[.slice an14 kn14 dn14], .agg #[.slice a2 len2 cap2]] (dAdd Nn14.a N2 (by omega) (by omega)) ?_ ?_
            · rintro _ v17 ⟨an16, kn16, dn16, rfl, Nn16, ln16, B⟩
              replace N0 := N0.keep B
              replace M0 := M0.keep B
              replace N2 := N2.keep B
              replace BB := joinB BB B
              replace Xg2 := Xg2.keep B
              replace Xg4 := Xg4.keep B
              replace Nn14 := Nn14.keep B
              clear B
              refine ⟨_, rfl, Xg4, ?_⟩
              refine gz_ready [4, 5] ?_
              refine ga_call 4 (some 66) 36 #[.agg #[.slice an16 kn16 dn16]] (pOfDec (B := 320) Nn16.a (by omega) (by omega) (by omega)) ?_ ?_
              · rintro _ v19 ⟨aq18, kq18, dq18, bq18, lq18, eq18, rfl, Qq18, B⟩
                replace N0 := N0.keep B
                replace M0 := M0.keep B
                replace N2 := N2.keep B
                replace BB := joinB BB B
                replace Xg2 := Xg2.keep B
                replace Xg4 := Xg4.keep B
                replace Nn14 := Nn14.keep B
                replace Nn16 := Nn16.keep B
                clear B
                refine ⟨_, rfl, Xg4, ?_⟩
                have lXg2 := Xg2.lt
                have lXg4 := Xg4.lt
                refine za 5 12 [.slice none 0 0, .slice none 0 0] 40 (pg) ?_
                intro v20 g21 Xg21 hg21 B
                replace N0 := N0.keep B
                replace M0 := M0.keep B
                replace N2 := N2.keep B
                replace BB := joinB BB B
                replace Xg2 := Xg2.keep B
                replace Xg4 := Xg4.keep B
                replace Nn14 := Nn14.keep B
                replace Nn16 := Nn16.keep B
                replace Qq18 := Qq18.keep B
                clear B
                refine ⟨Xg4, ?_⟩
                refine zs 6 Xg21 0 (.agg #[.slice aq18 kq18 dq18, .slice bq18 lq18 eq18]) [.slice aq18 kq18 dq18, .slice bq18 lq18 eq18] [.slice aq18 kq18 dq18, .slice bq18 lq18 eq18] ?_
                intro v22 Y C
                replace N0 := NatA.cg N0 Xg21 C (by rfl)
                replace M0 := NatA.cg M0 Xg21 C (by rfl)
                replace N2 := NatA.cg N2 Xg21 C (by rfl)
                replace BB := belowC BB C (by omega)
                replace Xg2 := Xg2.chg C (show g2 ≠ g21 by omega)
                replace Xg4 := Xg4.chg C (show g4 ≠ g21 by omega)
                replace Nn14 := NatO.cg Nn14 Xg21 C (by rfl)
                replace Nn16 := NatO.cg Nn16 Xg21 C (by rfl)
                replace Qq18 := Qq18.cg Xg21 C (by rfl)
                clear C Xg21
                have Xg21 := Y
                clear Y
                refine ⟨Xg4, ?_⟩
                refine gz_done ?_
                refine ge_then ?_
                refine gc_seq ?_
                refine gc_seq ?_
                refine gc_reg ?_
                refine tlr 67 [.slice aq18 kq18 dq18, .slice bq18 lq18 eq18] Xg21 0 ?_
                refine tlr 68 [.slice a0 len0 cap0, .slice b0 ken0 dap0] Xg2 0 ?_
                refine tc 69 47 #[.agg #[.slice aq18 kq18 dq18, .slice bq18 lq18 eq18], .agg #[.slice a0 len0 cap0, .slice b0 ken0 dap0]] (pCmp (B := 320) (Qq18.v (ft_up (ft_paid hu.1 hu.2 N2.nonneg (nat_lt N2 (m := 60) (by omega))) (by decide))) (vqr hr (vq_in N0 M0 (B := 320) (by omega) (by omega))) (by omega)) ?_
                rintro _ v23 ⟨rfl, B⟩
                refine ⟨_, rfl, ?_⟩
                replace N0 := N0.keep B
                replace M0 := M0.keep B
                replace N2 := N2.keep B
                replace BB := joinB BB B
                replace Xg2 := Xg2.keep B
                replace Xg4 := Xg4.keep B
                replace Nn14 := Nn14.keep B
                replace Nn16 := Nn16.keep B
                replace Qq18 := Qq18.keep B
                replace Xg21 := Xg21.keep B
                clear B
                by_cases c24 : (0 : Int) < sgr (paid x1 x2) (r)
                · refine tq 70 (.bool (decide ((0 : Int) < sgr (paid x1 x2) (r)))) (.bool true) (congrArg Value.bool (decide_eq_true c24)) ?_
                  refine t 71 (.bool true) ?_
                  refine t 72 (.bool false) ?_
                  refine t 73 (.bool false) ?_
                  refine gl_nil ?_
                  refine ge_then ?_
                  refine gc_fr [(1, .int .u64 x1), (3, .int .i64 m9), (4, .int .i64 m11), (7, pg g4), (10, .bool false), (12, pg g21), (73, .bool false)] (by kernel_rfl) ?_
                  refine gc_no ?_
                  refine gc_skip ?_
                  refine ge_then ?_
                  refine gc_seq ?_
                  refine gc_reg ?_
                  refine tlr 74 [.slice aq18 kq18 dq18, .slice bq18 lq18 eq18] Xg21 0 ?_
                  refine t 75 (.int .u64 x1) ?_
                  refine tlr 76 [.slice a2 len2 cap2] Xg4 0 ?_
                  refine t 77 (.int .i64 m9) ?_
                  refine t 78 (.int .i64 m11) ?_
                  refine tc 79 31 #[.agg #[.slice aq18 kq18 dq18, .slice bq18 lq18 eq18], .int .u64 x1, .agg #[.slice a2 len2 cap2], .int .i64 m9, .int .i64 m11] (pFitsL (fit_self (room_nn (by omega) (by omega))) (Qq18.v (ft_up (ft_paid hu.1 hu.2 N2.nonneg (nat_lt N2 (m := 60) (by omega))) (by decide))) hu N2 (by omega) (by omega) (by omega)) ?_
                  rintro _ v25 ⟨rfl, B⟩
                  refine ⟨_, rfl, ?_⟩
                  replace N0 := N0.keep B
                  replace M0 := M0.keep B
                  replace N2 := N2.keep B
                  replace BB := joinB BB B
                  replace Xg2 := Xg2.keep B
                  replace Xg4 := Xg4.keep B
                  replace Nn14 := Nn14.keep B
                  replace Nn16 := Nn16.keep B
                  replace Qq18 := Qq18.keep B
                  replace Xg21 := Xg21.keep B
                  clear B
                  refine t 80 (.bool true) ?_
                  refine tlr 81 [.slice aq18 kq18 dq18, .slice bq18 lq18 eq18] Xg21 0 ?_
                  refine t 82 (.int .u64 x1) ?_
                  refine tlr 83 [.slice a2 len2 cap2] Xg4 0 ?_
                  refine tc 84 31 #[.agg #[.slice aq18 kq18 dq18, .slice bq18 lq18 eq18], .int .u64 x1, .agg #[.slice a2 len2 cap2], .int .i64 0, .int .i64 0] (pFitsL (fit_self (room_nn (by omega) (by omega))) (Qq18.v (ft_up (ft_paid hu.1 hu.2 N2.nonneg (nat_lt N2 (m := 60) (by omega))) (by decide))) hu N2 (by omega) (by omega) (by omega)) ?_
                  rintro _ v26 ⟨rfl, B⟩
                  refine ⟨_, rfl, ?_⟩
                  replace N0 := N0.keep B
                  replace M0 := M0.keep B
                  replace N2 := N2.keep B
                  replace BB := joinB BB B
                  replace Xg2 := Xg2.keep B
                  replace Xg4 := Xg4.keep B
                  replace Nn14 := Nn14.keep B
                  replace Nn16 := Nn16.keep B
                  replace Qq18 := Qq18.keep B
                  replace Xg21 := Xg21.keep B
                  clear B
                  refine t 85 (.bool true) ?_
                  refine t 10 (.bool true) ?_
                  refine gl_nil ?_
                  refine ge_then ?_
                  refine gc_fr [(10, .bool true)] (by kernel_rfl) ?_
                  refine gc_ret ?_
                  refine ge_ret (.bool true) (rs1 10 (by kernel_rfl) (by kernel_rfl)) ?_
                  exact ⟨rfl, BB⟩
                · refine tq 70 (.bool (decide ((0 : Int) < sgr (paid x1 x2) (r)))) (.bool false) (congrArg Value.bool (decide_eq_false c24)) ?_
                  refine t 71 (.bool false) ?_
                  refine tn 72 ?_
                  refine t 73 (.bool false) ?_
                  refine gl_nil ?_
                  refine ge_then ?_
                  refine gc_fr [(1, .int .u64 x1), (3, .int .i64 m9), (4, .int .i64 m11), (7, pg g4), (10, .bool false), (12, pg g21), (73, .bool false)] (by kernel_rfl) ?_
                  refine gc_no ?_
                  refine gc_skip ?_
                  refine ge_then ?_
                  refine gc_seq ?_
                  refine gc_reg ?_
                  refine tlr 74 [.slice aq18 kq18 dq18, .slice bq18 lq18 eq18] Xg21 0 ?_
                  refine t 75 (.int .u64 x1) ?_
                  refine tlr 76 [.slice a2 len2 cap2] Xg4 0 ?_
                  refine t 77 (.int .i64 m9) ?_
                  refine t 78 (.int .i64 m11) ?_
                  refine tc 79 31 #[.agg #[.slice aq18 kq18 dq18, .slice bq18 lq18 eq18], .int .u64 x1, .agg #[.slice a2 len2 cap2], .int .i64 m9, .int .i64 m11] (pFitsL (fit_self (room_nn (by omega) (by omega))) (Qq18.v (ft_up (ft_paid hu.1 hu.2 N2.nonneg (nat_lt N2 (m := 60) (by omega))) (by decide))) hu N2 (by omega) (by omega) (by omega)) ?_
                  rintro _ v27 ⟨rfl, B⟩
                  refine ⟨_, rfl, ?_⟩
                  replace N0 := N0.keep B
                  replace M0 := M0.keep B
                  replace N2 := N2.keep B
                  replace BB := joinB BB B
                  replace Xg2 := Xg2.keep B
                  replace Xg4 := Xg4.keep B
                  replace Nn14 := Nn14.keep B
                  replace Nn16 := Nn16.keep B
                  replace Qq18 := Qq18.keep B
                  replace Xg21 := Xg21.keep B
                  clear B
                  refine t 80 (.bool true) ?_
                  refine tlr 81 [.slice aq18 kq18 dq18, .slice bq18 lq18 eq18] Xg21 0 ?_
                  refine t 82 (.int .u64 x1) ?_
                  refine tlr 83 [.slice a2 len2 cap2] Xg4 0 ?_
                  refine tc 84 31 #[.agg #[.slice aq18 kq18 dq18, .slice bq18 lq18 eq18], .int .u64 x1, .agg #[.slice a2 len2 cap2], .int .i64 0, .int .i64 0] (pFitsL (fit_self (room_nn (by omega) (by omega))) (Qq18.v (ft_up (ft_paid hu.1 hu.2 N2.nonneg (nat_lt N2 (m := 60) (by omega))) (by decide))) hu N2 (by omega) (by omega) (by omega)) ?_
                  rintro _ v28 ⟨rfl, B⟩
                  refine ⟨_, rfl, ?_⟩
                  replace N0 := N0.keep B
                  replace M0 := M0.keep B
                  replace N2 := N2.keep B
                  replace BB := joinB BB B
                  replace Xg2 := Xg2.keep B
                  replace Xg4 := Xg4.keep B
                  replace Nn14 := Nn14.keep B
                  replace Nn16 := Nn16.keep B
                  replace Qq18 := Qq18.keep B
                  replace Xg21 := Xg21.keep B
                  clear B
                  refine t 85 (.bool true) ?_
                  refine t 10 (.bool true) ?_
                  refine gl_nil ?_
                  refine ge_then ?_
                  refine gc_fr [(10, .bool true)] (by kernel_rfl) ?_
                  refine gc_ret ?_
                  refine ge_ret (.bool true) (rs1 10 (by kernel_rfl) (by kernel_rfl)) ?_
                  exact ⟨rfl, BB⟩
              have lXg2 := Xg2.lt
              have lXg4 := Xg4.lt
              refine zaa 5 12 [.slice none 0 0, .slice none 0 0] 40 (pg) ?_ ?_
              · intro v29 g30 Xg30 hg30 B
                replace N0 := N0.keep B
                replace M0 := M0.keep B
                replace N2 := N2.keep B
                replace BB := joinB BB B
                replace Xg2 := Xg2.keep B
                replace Xg4 := Xg4.keep B
                replace Nn14 := Nn14.keep B
                replace Nn16 := Nn16.keep B
                clear B
                refine ⟨Xg4, ?_⟩
                refine zc 4 66 36 #[.agg #[.slice an16 kn16 dn16]] (pOfDec (B := 320) Nn16.a (by omega) (by omega) (by omega)) ?_
                rintro _ v32 ⟨aq31, kq31, dq31, bq31, lq31, eq31, rfl, Qq31, B⟩
                replace N0 := N0.keep B
                replace M0 := M0.keep B
                replace N2 := N2.keep B
                replace BB := joinB BB B
                replace Xg2 := Xg2.keep B
                replace Xg4 := Xg4.keep B
                replace Nn14 := Nn14.keep B
                replace Nn16 := Nn16.keep B
                replace Xg30 := Xg30.keep B
                clear B
                refine ⟨_, rfl, Xg4, ?_⟩
                refine zs 6 Xg30 0 (.agg #[.slice aq31 kq31 dq31, .slice bq31 lq31 eq31]) [.slice aq31 kq31 dq31, .slice bq31 lq31 eq31] [.slice aq31 kq31 dq31, .slice bq31 lq31 eq31] ?_
                intro v33 Y C
                replace N0 := NatA.cg N0 Xg30 C (by rfl)
                replace M0 := NatA.cg M0 Xg30 C (by rfl)
                replace N2 := NatA.cg N2 Xg30 C (by rfl)
                replace BB := belowC BB C (by omega)
                replace Xg2 := Xg2.chg C (show g2 ≠ g30 by omega)
                replace Xg4 := Xg4.chg C (show g4 ≠ g30 by omega)
                replace Nn14 := NatO.cg Nn14 Xg30 C (by rfl)
                replace Nn16 := NatO.cg Nn16 Xg30 C (by rfl)
                replace Qq31 := Qq31.cg Xg30 C (by rfl)
                clear C Xg30
                have Xg30 := Y
                clear Y
                refine ⟨Xg4, ?_⟩
                refine gz_done ?_
                refine ge_then ?_
                refine gc_seq ?_
                refine gc_seq ?_
                refine gc_reg ?_
                refine tlr 67 [.slice aq31 kq31 dq31, .slice bq31 lq31 eq31] Xg30 0 ?_
                refine tlr 68 [.slice a0 len0 cap0, .slice b0 ken0 dap0] Xg2 0 ?_
                refine tc 69 47 #[.agg #[.slice aq31 kq31 dq31, .slice bq31 lq31 eq31], .agg #[.slice a0 len0 cap0, .slice b0 ken0 dap0]] (pCmp (B := 320) (Qq31.v (ft_up (ft_paid hu.1 hu.2 N2.nonneg (nat_lt N2 (m := 60) (by omega))) (by decide))) (vqr hr (vq_in N0 M0 (B := 320) (by omega) (by omega))) (by omega)) ?_
                rintro _ v34 ⟨rfl, B⟩
                refine ⟨_, rfl, ?_⟩
                replace N0 := N0.keep B
                replace M0 := M0.keep B
                replace N2 := N2.keep B
                replace BB := joinB BB B
                replace Xg2 := Xg2.keep B
                replace Xg4 := Xg4.keep B
                replace Nn14 := Nn14.keep B
                replace Nn16 := Nn16.keep B
                replace Xg30 := Xg30.keep B
                replace Qq31 := Qq31.keep B
                clear B
                by_cases c35 : (0 : Int) < sgr (paid x1 x2) (r)
                · refine tq 70 (.bool (decide ((0 : Int) < sgr (paid x1 x2) (r)))) (.bool true) (congrArg Value.bool (decide_eq_true c35)) ?_
                  refine t 71 (.bool true) ?_
                  refine t 72 (.bool false) ?_
                  refine t 73 (.bool false) ?_
                  refine gl_nil ?_
                  refine ge_then ?_
                  refine gc_fr [(1, .int .u64 x1), (3, .int .i64 m9), (4, .int .i64 m11), (7, pg g4), (10, .bool false), (12, pg g30), (73, .bool false)] (by kernel_rfl) ?_
                  refine gc_no ?_
                  refine gc_skip ?_
                  refine ge_then ?_
                  refine gc_seq ?_
                  refine gc_reg ?_
                  refine tlr 74 [.slice aq31 kq31 dq31, .slice bq31 lq31 eq31] Xg30 0 ?_
                  refine t 75 (.int .u64 x1) ?_
                  refine tlr 76 [.slice a2 len2 cap2] Xg4 0 ?_
                  refine t 77 (.int .i64 m9) ?_
                  refine t 78 (.int .i64 m11) ?_
                  refine tc 79 31 #[.agg #[.slice aq31 kq31 dq31, .slice bq31 lq31 eq31], .int .u64 x1, .agg #[.slice a2 len2 cap2], .int .i64 m9, .int .i64 m11] (pFitsL (fit_self (room_nn (by omega) (by omega))) (Qq31.v (ft_up (ft_paid hu.1 hu.2 N2.nonneg (nat_lt N2 (m := 60) (by omega))) (by decide))) hu N2 (by omega) (by omega) (by omega)) ?_
                  rintro _ v36 ⟨rfl, B⟩
                  refine ⟨_, rfl, ?_⟩
                  replace N0 := N0.keep B
                  replace M0 := M0.keep B
                  replace N2 := N2.keep B
                  replace BB := joinB BB B
                  replace Xg2 := Xg2.keep B
                  replace Xg4 := Xg4.keep B
                  replace Nn14 := Nn14.keep B
                  replace Nn16 := Nn16.keep B
                  replace Xg30 := Xg30.keep B
                  replace Qq31 := Qq31.keep B
                  clear B
                  refine t 80 (.bool true) ?_
                  refine tlr 81 [.slice aq31 kq31 dq31, .slice bq31 lq31 eq31] Xg30 0 ?_
                  refine t 82 (.int .u64 x1) ?_
                  refine tlr 83 [.slice a2 len2 cap2] Xg4 0 ?_
                  refine tc 84 31 #[.agg #[.slice aq31 kq31 dq31, .slice bq31 lq31 eq31], .int .u64 x1, .agg #[.slice a2 len2 cap2], .int .i64 0, .int .i64 0] (pFitsL (fit_self (room_nn (by omega) (by omega))) (Qq31.v (ft_up (ft_paid hu.1 hu.2 N2.nonneg (nat_lt N2 (m := 60) (by omega))) (by decide))) hu N2 (by omega) (by omega) (by omega)) ?_
                  rintro _ v37 ⟨rfl, B⟩
                  refine ⟨_, rfl, ?_⟩
                  replace N0 := N0.keep B
                  replace M0 := M0.keep B
                  replace N2 := N2.keep B
                  replace BB := joinB BB B
                  replace Xg2 := Xg2.keep B
                  replace Xg4 := Xg4.keep B
                  replace Nn14 := Nn14.keep B
                  replace Nn16 := Nn16.keep B
                  replace Xg30 := Xg30.keep B
                  replace Qq31 := Qq31.keep B
                  clear B
                  refine t 85 (.bool true) ?_
                  refine t 10 (.bool true) ?_
                  refine gl_nil ?_
                  refine ge_then ?_
                  refine gc_fr [(10, .bool true)] (by kernel_rfl) ?_
                  refine gc_ret ?_
                  refine ge_ret (.bool true) (rs1 10 (by kernel_rfl) (by kernel_rfl)) ?_
                  exact ⟨rfl, BB⟩
                · refine tq 70 (.bool (decide ((0 : Int) < sgr (paid x1 x2) (r)))) (.bool false) (congrArg Value.bool (decide_eq_false c35)) ?_
                  refine t 71 (.bool false) ?_
                  refine tn 72 ?_
                  refine t 73 (.bool false) ?_
                  refine gl_nil ?_
                  refine ge_then ?_
                  refine gc_fr [(1, .int .u64 x1), (3, .int .i64 m9), (4, .int .i64 m11), (7, pg g4), (10, .bool false), (12, pg g30), (73, .bool false)] (by kernel_rfl) ?_
                  refine gc_no ?_
                  refine gc_skip ?_
                  refine ge_then ?_
                  refine gc_seq ?_
                  refine gc_reg ?_
                  refine tlr 74 [.slice aq31 kq31 dq31, .slice bq31 lq31 eq31] Xg30 0 ?_
                  refine t 75 (.int .u64 x1) ?_
                  refine tlr 76 [.slice a2 len2 cap2] Xg4 0 ?_
                  refine t 77 (.int .i64 m9) ?_
                  refine t 78 (.int .i64 m11) ?_
                  refine tc 79 31 #[.agg #[.slice aq31 kq31 dq31, .slice bq31 lq31 eq31], .int .u64 x1, .agg #[.slice a2 len2 cap2], .int .i64 m9, .int .i64 m11] (pFitsL (fit_self (room_nn (by omega) (by omega))) (Qq31.v (ft_up (ft_paid hu.1 hu.2 N2.nonneg (nat_lt N2 (m := 60) (by omega))) (by decide))) hu N2 (by omega) (by omega) (by omega)) ?_
                  rintro _ v38 ⟨rfl, B⟩
                  refine ⟨_, rfl, ?_⟩
                  replace N0 := N0.keep B
                  replace M0 := M0.keep B
                  replace N2 := N2.keep B
                  replace BB := joinB BB B
                  replace Xg2 := Xg2.keep B
                  replace Xg4 := Xg4.keep B
                  replace Nn14 := Nn14.keep B
                  replace Nn16 := Nn16.keep B
                  replace Xg30 := Xg30.keep B
                  replace Qq31 := Qq31.keep B
                  clear B
                  refine t 80 (.bool true) ?_
                  refine tlr 81 [.slice aq31 kq31 dq31, .slice bq31 lq31 eq31] Xg30 0 ?_
                  refine t 82 (.int .u64 x1) ?_
                  refine tlr 83 [.slice a2 len2 cap2] Xg4 0 ?_
                  refine tc 84 31 #[.agg #[.slice aq31 kq31 dq31, .slice bq31 lq31 eq31], .int .u64 x1, .agg #[.slice a2 len2 cap2], .int .i64 0, .int .i64 0] (pFitsL (fit_self (room_nn (by omega) (by omega))) (Qq31.v (ft_up (ft_paid hu.1 hu.2 N2.nonneg (nat_lt N2 (m := 60) (by omega))) (by decide))) hu N2 (by omega) (by omega) (by omega)) ?_
                  rintro _ v39 ⟨rfl, B⟩
                  refine ⟨_, rfl, ?_⟩
                  replace N0 := N0.keep B
                  replace M0 := M0.keep B
                  replace N2 := N2.keep B
                  replace BB := joinB BB B
                  replace Xg2 := Xg2.keep B
                  replace Xg4 := Xg4.keep B
                  replace Nn14 := Nn14.keep B
                  replace Nn16 := Nn16.keep B
                  replace Xg30 := Xg30.keep B
                  replace Qq31 := Qq31.keep B
                  clear B
                  refine t 85 (.bool true) ?_
                  refine t 10 (.bool true) ?_
                  refine gl_nil ?_
                  refine ge_then ?_
                  refine gc_fr [(10, .bool true)] (by kernel_rfl) ?_
                  refine gc_ret ?_
                  refine ge_ret (.bool true) (rs1 10 (by kernel_rfl) (by kernel_rfl)) ?_
                  exact ⟨rfl, BB⟩
              exact ga_nil
            have lXg2 := Xg2.lt
            have lXg4 := Xg4.lt
            refine zaa 5 12 [.slice none 0 0, .slice none 0 0] 40 (pg) ?_ ?_
            · intro v40 g41 Xg41 hg41 B
              replace N0 := N0.keep B
              replace M0 := M0.keep B
              replace N2 := N2.keep B
              replace BB := joinB BB B
              replace Xg2 := Xg2.keep B
              replace Xg4 := Xg4.keep B
              replace Nn14 := Nn14.keep B
              clear B
              refine ⟨Xg4, ?_⟩
              refine zc 3 65 45 #[.agg #[.slice an14 kn14 dn14], .agg #[.slice a2 len2 cap2]] (dAdd Nn14.a N2 (by omega) (by omega)) ?_
              rintro _ v43 ⟨an42, kn42, dn42, rfl, Nn42, ln42, B⟩
              replace N0 := N0.keep B
              replace M0 := M0.keep B
              replace N2 := N2.keep B
              replace BB := joinB BB B
              replace Xg2 := Xg2.keep B
              replace Xg4 := Xg4.keep B
              replace Nn14 := Nn14.keep B
              replace Xg41 := Xg41.keep B
              clear B
              refine ⟨_, rfl, Xg4, ?_⟩
              refine zc 4 66 36 #[.agg #[.slice an42 kn42 dn42]] (pOfDec (B := 320) Nn42.a (by omega) (by omega) (by omega)) ?_
              rintro _ v45 ⟨aq44, kq44, dq44, bq44, lq44, eq44, rfl, Qq44, B⟩
              replace N0 := N0.keep B
              replace M0 := M0.keep B
              replace N2 := N2.keep B
              replace BB := joinB BB B
              replace Xg2 := Xg2.keep B
              replace Xg4 := Xg4.keep B
              replace Nn14 := Nn14.keep B
              replace Xg41 := Xg41.keep B
              replace Nn42 := Nn42.keep B
              clear B
              refine ⟨_, rfl, Xg4, ?_⟩
              refine zs 6 Xg41 0 (.agg #[.slice aq44 kq44 dq44, .slice bq44 lq44 eq44]) [.slice aq44 kq44 dq44, .slice bq44 lq44 eq44] [.slice aq44 kq44 dq44, .slice bq44 lq44 eq44] ?_
              intro v46 Y C
              replace N0 := NatA.cg N0 Xg41 C (by rfl)
              replace M0 := NatA.cg M0 Xg41 C (by rfl)
              replace N2 := NatA.cg N2 Xg41 C (by rfl)
              replace BB := belowC BB C (by omega)
              replace Xg2 := Xg2.chg C (show g2 ≠ g41 by omega)
              replace Xg4 := Xg4.chg C (show g4 ≠ g41 by omega)
              replace Nn14 := NatO.cg Nn14 Xg41 C (by rfl)
              replace Nn42 := NatO.cg Nn42 Xg41 C (by rfl)
              replace Qq44 := Qq44.cg Xg41 C (by rfl)
              clear C Xg41
              have Xg41 := Y
              clear Y
              refine ⟨Xg4, ?_⟩
              refine gz_done ?_
              refine ge_then ?_
              refine gc_seq ?_
              refine gc_seq ?_
              refine gc_reg ?_
              refine tlr 67 [.slice aq44 kq44 dq44, .slice bq44 lq44 eq44] Xg41 0 ?_
              refine tlr 68 [.slice a0 len0 cap0, .slice b0 ken0 dap0] Xg2 0 ?_
              refine tc 69 47 #[.agg #[.slice aq44 kq44 dq44, .slice bq44 lq44 eq44], .agg #[.slice a0 len0 cap0, .slice b0 ken0 dap0]] (pCmp (B := 320) (Qq44.v (ft_up (ft_paid hu.1 hu.2 N2.nonneg (nat_lt N2 (m := 60) (by omega))) (by decide))) (vqr hr (vq_in N0 M0 (B := 320) (by omega) (by omega))) (by omega)) ?_
              rintro _ v47 ⟨rfl, B⟩
              refine ⟨_, rfl, ?_⟩
              replace N0 := N0.keep B
              replace M0 := M0.keep B
              replace N2 := N2.keep B
              replace BB := joinB BB B
              replace Xg2 := Xg2.keep B
              replace Xg4 := Xg4.keep B
              replace Nn14 := Nn14.keep B
              replace Xg41 := Xg41.keep B
              replace Nn42 := Nn42.keep B
              replace Qq44 := Qq44.keep B
              clear B
              by_cases c48 : (0 : Int) < sgr (paid x1 x2) (r)
              · refine tq 70 (.bool (decide ((0 : Int) < sgr (paid x1 x2) (r)))) (.bool true) (congrArg Value.bool (decide_eq_true c48)) ?_
                refine t 71 (.bool true) ?_
                refine t 72 (.bool false) ?_
                refine t 73 (.bool false) ?_
                refine gl_nil ?_
                refine ge_then ?_
                refine gc_fr [(1, .int .u64 x1), (3, .int .i64 m9), (4, .int .i64 m11), (7, pg g4), (10, .bool false), (12, pg g41), (73, .bool false)] (by kernel_rfl) ?_
                refine gc_no ?_
                refine gc_skip ?_
                refine ge_then ?_
                refine gc_seq ?_
                refine gc_reg ?_
                refine tlr 74 [.slice aq44 kq44 dq44, .slice bq44 lq44 eq44] Xg41 0 ?_
                refine t 75 (.int .u64 x1) ?_
                refine tlr 76 [.slice a2 len2 cap2] Xg4 0 ?_
                refine t 77 (.int .i64 m9) ?_
                refine t 78 (.int .i64 m11) ?_
                refine tc 79 31 #[.agg #[.slice aq44 kq44 dq44, .slice bq44 lq44 eq44], .int .u64 x1, .agg #[.slice a2 len2 cap2], .int .i64 m9, .int .i64 m11] (pFitsL (fit_self (room_nn (by omega) (by omega))) (Qq44.v (ft_up (ft_paid hu.1 hu.2 N2.nonneg (nat_lt N2 (m := 60) (by omega))) (by decide))) hu N2 (by omega) (by omega) (by omega)) ?_
                rintro _ v49 ⟨rfl, B⟩
                refine ⟨_, rfl, ?_⟩
                replace N0 := N0.keep B
                replace M0 := M0.keep B
                replace N2 := N2.keep B
                replace BB := joinB BB B
                replace Xg2 := Xg2.keep B
                replace Xg4 := Xg4.keep B
                replace Nn14 := Nn14.keep B
                replace Xg41 := Xg41.keep B
                replace Nn42 := Nn42.keep B
                replace Qq44 := Qq44.keep B
                clear B
                refine t 80 (.bool true) ?_
                refine tlr 81 [.slice aq44 kq44 dq44, .slice bq44 lq44 eq44] Xg41 0 ?_
                refine t 82 (.int .u64 x1) ?_
                refine tlr 83 [.slice a2 len2 cap2] Xg4 0 ?_
                refine tc 84 31 #[.agg #[.slice aq44 kq44 dq44, .slice bq44 lq44 eq44], .int .u64 x1, .agg #[.slice a2 len2 cap2], .int .i64 0, .int .i64 0] (pFitsL (fit_self (room_nn (by omega) (by omega))) (Qq44.v (ft_up (ft_paid hu.1 hu.2 N2.nonneg (nat_lt N2 (m := 60) (by omega))) (by decide))) hu N2 (by omega) (by omega) (by omega)) ?_
                rintro _ v50 ⟨rfl, B⟩
                refine ⟨_, rfl, ?_⟩
                replace N0 := N0.keep B
                replace M0 := M0.keep B
                replace N2 := N2.keep B
                replace BB := joinB BB B
                replace Xg2 := Xg2.keep B
                replace Xg4 := Xg4.keep B
                replace Nn14 := Nn14.keep B
                replace Xg41 := Xg41.keep B
                replace Nn42 := Nn42.keep B
                replace Qq44 := Qq44.keep B
                clear B
                refine t 85 (.bool true) ?_
                refine t 10 (.bool true) ?_
                refine gl_nil ?_
                refine ge_then ?_
                refine gc_fr [(10, .bool true)] (by kernel_rfl) ?_
                refine gc_ret ?_
                refine ge_ret (.bool true) (rs1 10 (by kernel_rfl) (by kernel_rfl)) ?_
                exact ⟨rfl, BB⟩
              · refine tq 70 (.bool (decide ((0 : Int) < sgr (paid x1 x2) (r)))) (.bool false) (congrArg Value.bool (decide_eq_false c48)) ?_
                refine t 71 (.bool false) ?_
                refine tn 72 ?_
                refine t 73 (.bool false) ?_
                refine gl_nil ?_
                refine ge_then ?_
                refine gc_fr [(1, .int .u64 x1), (3, .int .i64 m9), (4, .int .i64 m11), (7, pg g4), (10, .bool false), (12, pg g41), (73, .bool false)] (by kernel_rfl) ?_
                refine gc_no ?_
                refine gc_skip ?_
                refine ge_then ?_
                refine gc_seq ?_
                refine gc_reg ?_
                refine tlr 74 [.slice aq44 kq44 dq44, .slice bq44 lq44 eq44] Xg41 0 ?_
                refine t 75 (.int .u64 x1) ?_
                refine tlr 76 [.slice a2 len2 cap2] Xg4 0 ?_
                refine t 77 (.int .i64 m9) ?_
                refine t 78 (.int .i64 m11) ?_
                refine tc 79 31 #[.agg #[.slice aq44 kq44 dq44, .slice bq44 lq44 eq44], .int .u64 x1, .agg #[.slice a2 len2 cap2], .int .i64 m9, .int .i64 m11] (pFitsL (fit_self (room_nn (by omega) (by omega))) (Qq44.v (ft_up (ft_paid hu.1 hu.2 N2.nonneg (nat_lt N2 (m := 60) (by omega))) (by decide))) hu N2 (by omega) (by omega) (by omega)) ?_
                rintro _ v51 ⟨rfl, B⟩
                refine ⟨_, rfl, ?_⟩
                replace N0 := N0.keep B
                replace M0 := M0.keep B
                replace N2 := N2.keep B
                replace BB := joinB BB B
                replace Xg2 := Xg2.keep B
                replace Xg4 := Xg4.keep B
                replace Nn14 := Nn14.keep B
                replace Xg41 := Xg41.keep B
                replace Nn42 := Nn42.keep B
                replace Qq44 := Qq44.keep B
                clear B
                refine t 80 (.bool true) ?_
                refine tlr 81 [.slice aq44 kq44 dq44, .slice bq44 lq44 eq44] Xg41 0 ?_
                refine t 82 (.int .u64 x1) ?_
                refine tlr 83 [.slice a2 len2 cap2] Xg4 0 ?_
                refine tc 84 31 #[.agg #[.slice aq44 kq44 dq44, .slice bq44 lq44 eq44], .int .u64 x1, .agg #[.slice a2 len2 cap2], .int .i64 0, .int .i64 0] (pFitsL (fit_self (room_nn (by omega) (by omega))) (Qq44.v (ft_up (ft_paid hu.1 hu.2 N2.nonneg (nat_lt N2 (m := 60) (by omega))) (by decide))) hu N2 (by omega) (by omega) (by omega)) ?_
                rintro _ v52 ⟨rfl, B⟩
                refine ⟨_, rfl, ?_⟩
                replace N0 := N0.keep B
                replace M0 := M0.keep B
                replace N2 := N2.keep B
                replace BB := joinB BB B
                replace Xg2 := Xg2.keep B
                replace Xg4 := Xg4.keep B
                replace Nn14 := Nn14.keep B
                replace Xg41 := Xg41.keep B
                replace Nn42 := Nn42.keep B
                replace Qq44 := Qq44.keep B
                clear B
                refine t 85 (.bool true) ?_
                refine t 10 (.bool true) ?_
                refine gl_nil ?_
                refine ge_then ?_
                refine gc_fr [(10, .bool true)] (by kernel_rfl) ?_
                refine gc_ret ?_
                refine ge_ret (.bool true) (rs1 10 (by kernel_rfl) (by kernel_rfl)) ?_
                exact ⟨rfl, BB⟩
            exact ga_nil
          have lXg2 := Xg2.lt
          have lXg4 := Xg4.lt
          refine zaa 5 12 [.slice none 0 0, .slice none 0 0] 40 (pg) ?_ ?_
          · intro v53 g54 Xg54 hg54 B
            replace N0 := N0.keep B
            replace M0 := M0.keep B
            replace N2 := N2.keep B
            replace BB := joinB BB B
            replace Xg2 := Xg2.keep B
            replace Xg4 := Xg4.keep B
            clear B
            refine ⟨Xg4, ?_⟩
            refine zc 1 63 46 #[.int .u64 x1] (dOf (x := x1) (hu).1 (hu).2) ?_
            rintro _ v56 ⟨an55, kn55, dn55, rfl, Nn55, ln55, B⟩
            replace N0 := N0.keep B
            replace M0 := M0.keep B
            replace N2 := N2.keep B
            replace BB := joinB BB B
            replace Xg2 := Xg2.keep B
            replace Xg4 := Xg4.keep B
            replace Xg54 := Xg54.keep B
            clear B
            refine ⟨_, rfl, Xg4, ?_⟩
            refine zc 3 65 45 #[.agg #[.slice an55 kn55 dn55], .agg #[.slice a2 len2 cap2]] (dAdd Nn55.a N2 (by omega) (by omega)) ?_
            rintro _ v58 ⟨an57, kn57, dn57, rfl, Nn57, ln57, B⟩
            replace N0 := N0.keep B
            replace M0 := M0.keep B
            replace N2 := N2.keep B
            replace BB := joinB BB B
            replace Xg2 := Xg2.keep B
            replace Xg4 := Xg4.keep B
            replace Xg54 := Xg54.keep B
            replace Nn55 := Nn55.keep B
            clear B
            refine ⟨_, rfl, Xg4, ?_⟩
            refine zc 4 66 36 #[.agg #[.slice an57 kn57 dn57]] (pOfDec (B := 320) Nn57.a (by omega) (by omega) (by omega)) ?_
            rintro _ v60 ⟨aq59, kq59, dq59, bq59, lq59, eq59, rfl, Qq59, B⟩
            replace N0 := N0.keep B
            replace M0 := M0.keep B
            replace N2 := N2.keep B
            replace BB := joinB BB B
            replace Xg2 := Xg2.keep B
            replace Xg4 := Xg4.keep B
            replace Xg54 := Xg54.keep B
            replace Nn55 := Nn55.keep B
            replace Nn57 := Nn57.keep B
            clear B
            refine ⟨_, rfl, Xg4, ?_⟩
            refine zs 6 Xg54 0 (.agg #[.slice aq59 kq59 dq59, .slice bq59 lq59 eq59]) [.slice aq59 kq59 dq59, .slice bq59 lq59 eq59] [.slice aq59 kq59 dq59, .slice bq59 lq59 eq59] ?_
            intro v61 Y C
            replace N0 := NatA.cg N0 Xg54 C (by rfl)
            replace M0 := NatA.cg M0 Xg54 C (by rfl)
            replace N2 := NatA.cg N2 Xg54 C (by rfl)
            replace BB := belowC BB C (by omega)
            replace Xg2 := Xg2.chg C (show g2 ≠ g54 by omega)
            replace Xg4 := Xg4.chg C (show g4 ≠ g54 by omega)
            replace Nn55 := NatO.cg Nn55 Xg54 C (by rfl)
            replace Nn57 := NatO.cg Nn57 Xg54 C (by rfl)
            replace Qq59 := Qq59.cg Xg54 C (by rfl)
            clear C Xg54
            have Xg54 := Y
            clear Y
            refine ⟨Xg4, ?_⟩
            refine gz_done ?_
            refine ge_then ?_
            refine gc_seq ?_
            refine gc_seq ?_
            refine gc_reg ?_
            refine tlr 67 [.slice aq59 kq59 dq59, .slice bq59 lq59 eq59] Xg54 0 ?_
            refine tlr 68 [.slice a0 len0 cap0, .slice b0 ken0 dap0] Xg2 0 ?_
            refine tc 69 47 #[.agg #[.slice aq59 kq59 dq59, .slice bq59 lq59 eq59], .agg #[.slice a0 len0 cap0, .slice b0 ken0 dap0]] (pCmp (B := 320) (Qq59.v (ft_up (ft_paid hu.1 hu.2 N2.nonneg (nat_lt N2 (m := 60) (by omega))) (by decide))) (vqr hr (vq_in N0 M0 (B := 320) (by omega) (by omega))) (by omega)) ?_
            rintro _ v62 ⟨rfl, B⟩
            refine ⟨_, rfl, ?_⟩
            replace N0 := N0.keep B
            replace M0 := M0.keep B
            replace N2 := N2.keep B
            replace BB := joinB BB B
            replace Xg2 := Xg2.keep B
            replace Xg4 := Xg4.keep B
            replace Xg54 := Xg54.keep B
            replace Nn55 := Nn55.keep B
            replace Nn57 := Nn57.keep B
            replace Qq59 := Qq59.keep B
            clear B
            by_cases c63 : (0 : Int) < sgr (paid x1 x2) (r)
            · refine tq 70 (.bool (decide ((0 : Int) < sgr (paid x1 x2) (r)))) (.bool true) (congrArg Value.bool (decide_eq_true c63)) ?_
              refine t 71 (.bool true) ?_
              refine t 72 (.bool false) ?_
              refine t 73 (.bool false) ?_
              refine gl_nil ?_
              refine ge_then ?_
              refine gc_fr [(1, .int .u64 x1), (3, .int .i64 m9), (4, .int .i64 m11), (7, pg g4), (10, .bool false), (12, pg g54), (73, .bool false)] (by kernel_rfl) ?_
              refine gc_no ?_
              refine gc_skip ?_
              refine ge_then ?_
              refine gc_seq ?_
              refine gc_reg ?_
              refine tlr 74 [.slice aq59 kq59 dq59, .slice bq59 lq59 eq59] Xg54 0 ?_
              refine t 75 (.int .u64 x1) ?_
              refine tlr 76 [.slice a2 len2 cap2] Xg4 0 ?_
              refine t 77 (.int .i64 m9) ?_
              refine t 78 (.int .i64 m11) ?_
              refine tc 79 31 #[.agg #[.slice aq59 kq59 dq59, .slice bq59 lq59 eq59], .int .u64 x1, .agg #[.slice a2 len2 cap2], .int .i64 m9, .int .i64 m11] (pFitsL (fit_self (room_nn (by omega) (by omega))) (Qq59.v (ft_up (ft_paid hu.1 hu.2 N2.nonneg (nat_lt N2 (m := 60) (by omega))) (by decide))) hu N2 (by omega) (by omega) (by omega)) ?_
              rintro _ v64 ⟨rfl, B⟩
              refine ⟨_, rfl, ?_⟩
              replace N0 := N0.keep B
              replace M0 := M0.keep B
              replace N2 := N2.keep B
              replace BB := joinB BB B
              replace Xg2 := Xg2.keep B
              replace Xg4 := Xg4.keep B
              replace Xg54 := Xg54.keep B
              replace Nn55 := Nn55.keep B
              replace Nn57 := Nn57.keep B
              replace Qq59 := Qq59.keep B
              clear B
              refine t 80 (.bool true) ?_
              refine tlr 81 [.slice aq59 kq59 dq59, .slice bq59 lq59 eq59] Xg54 0 ?_
              refine t 82 (.int .u64 x1) ?_
              refine tlr 83 [.slice a2 len2 cap2] Xg4 0 ?_
              refine tc 84 31 #[.agg #[.slice aq59 kq59 dq59, .slice bq59 lq59 eq59], .int .u64 x1, .agg #[.slice a2 len2 cap2], .int .i64 0, .int .i64 0] (pFitsL (fit_self (room_nn (by omega) (by omega))) (Qq59.v (ft_up (ft_paid hu.1 hu.2 N2.nonneg (nat_lt N2 (m := 60) (by omega))) (by decide))) hu N2 (by omega) (by omega) (by omega)) ?_
              rintro _ v65 ⟨rfl, B⟩
              refine ⟨_, rfl, ?_⟩
              replace N0 := N0.keep B
              replace M0 := M0.keep B
              replace N2 := N2.keep B
              replace BB := joinB BB B
              replace Xg2 := Xg2.keep B
              replace Xg4 := Xg4.keep B
              replace Xg54 := Xg54.keep B
              replace Nn55 := Nn55.keep B
              replace Nn57 := Nn57.keep B
              replace Qq59 := Qq59.keep B
              clear B
              refine t 85 (.bool true) ?_
              refine t 10 (.bool true) ?_
              refine gl_nil ?_
              refine ge_then ?_
              refine gc_fr [(10, .bool true)] (by kernel_rfl) ?_
              refine gc_ret ?_
              refine ge_ret (.bool true) (rs1 10 (by kernel_rfl) (by kernel_rfl)) ?_
              exact ⟨rfl, BB⟩
            · refine tq 70 (.bool (decide ((0 : Int) < sgr (paid x1 x2) (r)))) (.bool false) (congrArg Value.bool (decide_eq_false c63)) ?_
              refine t 71 (.bool false) ?_
              refine tn 72 ?_
              refine t 73 (.bool false) ?_
              refine gl_nil ?_
              refine ge_then ?_
              refine gc_fr [(1, .int .u64 x1), (3, .int .i64 m9), (4, .int .i64 m11), (7, pg g4), (10, .bool false), (12, pg g54), (73, .bool false)] (by kernel_rfl) ?_
              refine gc_no ?_
              refine gc_skip ?_
              refine ge_then ?_
              refine gc_seq ?_
              refine gc_reg ?_
              refine tlr 74 [.slice aq59 kq59 dq59, .slice bq59 lq59 eq59] Xg54 0 ?_
              refine t 75 (.int .u64 x1) ?_
              refine tlr 76 [.slice a2 len2 cap2] Xg4 0 ?_
              refine t 77 (.int .i64 m9) ?_
              refine t 78 (.int .i64 m11) ?_
              refine tc 79 31 #[.agg #[.slice aq59 kq59 dq59, .slice bq59 lq59 eq59], .int .u64 x1, .agg #[.slice a2 len2 cap2], .int .i64 m9, .int .i64 m11] (pFitsL (fit_self (room_nn (by omega) (by omega))) (Qq59.v (ft_up (ft_paid hu.1 hu.2 N2.nonneg (nat_lt N2 (m := 60) (by omega))) (by decide))) hu N2 (by omega) (by omega) (by omega)) ?_
              rintro _ v66 ⟨rfl, B⟩
              refine ⟨_, rfl, ?_⟩
              replace N0 := N0.keep B
              replace M0 := M0.keep B
              replace N2 := N2.keep B
              replace BB := joinB BB B
              replace Xg2 := Xg2.keep B
              replace Xg4 := Xg4.keep B
              replace Xg54 := Xg54.keep B
              replace Nn55 := Nn55.keep B
              replace Nn57 := Nn57.keep B
              replace Qq59 := Qq59.keep B
              clear B
              refine t 80 (.bool true) ?_
              refine tlr 81 [.slice aq59 kq59 dq59, .slice bq59 lq59 eq59] Xg54 0 ?_
              refine t 82 (.int .u64 x1) ?_
              refine tlr 83 [.slice a2 len2 cap2] Xg4 0 ?_
              refine tc 84 31 #[.agg #[.slice aq59 kq59 dq59, .slice bq59 lq59 eq59], .int .u64 x1, .agg #[.slice a2 len2 cap2], .int .i64 0, .int .i64 0] (pFitsL (fit_self (room_nn (by omega) (by omega))) (Qq59.v (ft_up (ft_paid hu.1 hu.2 N2.nonneg (nat_lt N2 (m := 60) (by omega))) (by decide))) hu N2 (by omega) (by omega) (by omega)) ?_
              rintro _ v67 ⟨rfl, B⟩
              refine ⟨_, rfl, ?_⟩
              replace N0 := N0.keep B
              replace M0 := M0.keep B
              replace N2 := N2.keep B
              replace BB := joinB BB B
              replace Xg2 := Xg2.keep B
              replace Xg4 := Xg4.keep B
              replace Xg54 := Xg54.keep B
              replace Nn55 := Nn55.keep B
              replace Nn57 := Nn57.keep B
              replace Qq59 := Qq59.keep B
              clear B
              refine t 85 (.bool true) ?_
              refine t 10 (.bool true) ?_
              refine gl_nil ?_
              refine ge_then ?_
              refine gc_fr [(10, .bool true)] (by kernel_rfl) ?_
              refine gc_ret ?_
              refine ge_ret (.bool true) (rs1 10 (by kernel_rfl) (by kernel_rfl)) ?_
              exact ⟨rfl, BB⟩
          exact ga_nil
        · skip
          refine t 11 (.bool true) ?_
          refine gl_nil ?_
          refine ge_then ?_
          refine gc_fr [(1, .int .u64 x1), (3, .int .i64 m9), (4, .int .i64 m11), (5, pg g2), (7, pg g4), (10, .bool false), (11, .bool true)] (by kernel_rfl) ?_
          refine gc_seq ?_
          refine gc_seq ?_
          refine gc_reg ?_
          refine t 41 (.bool true) ?_
          refine t 42 (.bool true) ?_
          refine tlr 43 [.slice a0 len0 cap0, .slice b0 ken0 dap0] Xg2 0 ?_
          refine t 44 (.int .u64 x1) ?_
          refine tlr 45 [.slice a2 len2 cap2] Xg4 0 ?_
          refine t 46 (.int .i64 m9) ?_
          refine tq 47 (.int .i64 (IntKind.i64.wrap (m9 + 1))) (.int .i64 (m9 + 1)) (wi (by omega)) ?_
          refine t 48 (.int .i64 m11) ?_
          refine tc 49 31 #[.agg #[.slice a0 len0 cap0, .slice b0 ken0 dap0], .int .u64 x1, .agg #[.slice a2 len2 cap2], .int .i64 (m9 + 1), .int .i64 m11] (pFitsL (fit_more hfb (by omega) (by omega)) (vqr hr (vq_in N0 M0 (B := 320) (by omega) (by omega))) hu N2 (by omega) (by omega) (by omega)) ?_
          rintro _ v68 ⟨rfl, B⟩
          refine ⟨_, rfl, ?_⟩
          replace N0 := N0.keep B
          replace M0 := M0.keep B
          replace N2 := N2.keep B
          replace BB := joinB BB B
          replace Xg2 := Xg2.keep B
          replace Xg4 := Xg4.keep B
          clear B
          refine t 50 (.bool false) ?_
          refine t 51 (.bool false) ?_
          refine tlr 52 [.slice a0 len0 cap0, .slice b0 ken0 dap0] Xg2 0 ?_
          refine t 53 (.int .u64 x1) ?_
          refine tlr 54 [.slice a2 len2 cap2] Xg4 0 ?_
          refine t 55 (.int .i64 m9) ?_
          refine t 56 (.int .i64 m11) ?_
          refine tq 57 (.int .i64 (IntKind.i64.wrap (m11 + 1))) (.int .i64 (m11 + 1)) (wi (by omega)) ?_
          refine tc 58 31 #[.agg #[.slice a0 len0 cap0, .slice b0 ken0 dap0], .int .u64 x1, .agg #[.slice a2 len2 cap2], .int .i64 m9, .int .i64 (m11 + 1)] (pFitsL (fit_more hfb (by omega) (by omega)) (vqr hr (vq_in N0 M0 (B := 320) (by omega) (by omega))) hu N2 (by omega) (by omega) (by omega)) ?_
          rintro _ v69 ⟨rfl, B⟩
          refine ⟨_, rfl, ?_⟩
          replace N0 := N0.keep B
          replace M0 := M0.keep B
          replace N2 := N2.keep B
          replace BB := joinB BB B
          replace Xg2 := Xg2.keep B
          replace Xg4 := Xg4.keep B
          clear B
          refine t 59 (.bool false) ?_
          refine t 60 (.bool false) ?_
          refine t 61 (.bool false) ?_
          refine gl_nil ?_
          refine ge_then ?_
          refine gc_fr [(1, .int .u64 x1), (3, .int .i64 m9), (4, .int .i64 m11), (5, pg g2), (7, pg g4), (10, .bool false), (11, .bool true), (61, .bool false)] (by kernel_rfl) ?_
          refine gc_no ?_
          refine gc_skip ?_
          refine ge_then ?_
          refine gc_seq ?_
          replace N0 := N0.keep (Below.refl _ _).drew
          replace M0 := M0.keep (Below.refl _ _).drew
          replace N2 := N2.keep (Below.refl _ _).drew
          replace BB := BB.drew
          replace Xg2 := Xg2.drew
          replace Xg4 := Xg4.drew
          refine gc_draw (fun w' => Blk w' g4 [.slice a2 len2 cap2] 35) (fun _ => false) Xg4 ?_
          refine z 0 62 (.int .u64 x1) ?_
          refine zlr 2 64 [.slice a2 len2 cap2] (fun _ h => h) 0 ?_
          refine gz_ready [1, 5] ?_
          refine ga_call 1 (some 63) 46 #[.int .u64 x1] (dOf (x := x1) (hu).1 (hu).2) ?_ ?_
          · rintro _ v71 ⟨an70, kn70, dn70, rfl, Nn70, ln70, B⟩
            replace N0 := N0.keep B
            replace M0 := M0.keep B
            replace N2 := N2.keep B
            replace BB := joinB BB B
            replace Xg2 := Xg2.keep B
            replace Xg4 := Xg4.keep B
            clear B
            refine ⟨_, rfl, Xg4, ?_⟩
            refine gz_ready [3, 5] ?_
            refine ga_call 3 (some 65) 45 #[.agg #[.slice an70 kn70 dn70], .agg #[.slice a2 len2 cap2]] (dAdd Nn70.a N2 (by omega) (by omega)) ?_ ?_
            · rintro _ v73 ⟨an72, kn72, dn72, rfl, Nn72, ln72, B⟩
              replace N0 := N0.keep B
              replace M0 := M0.keep B
              replace N2 := N2.keep B
              replace BB := joinB BB B
              replace Xg2 := Xg2.keep B
              replace Xg4 := Xg4.keep B
              replace Nn70 := Nn70.keep B
              clear B
              refine ⟨_, rfl, Xg4, ?_⟩
              refine gz_ready [4, 5] ?_
              refine ga_call 4 (some 66) 36 #[.agg #[.slice an72 kn72 dn72]] (pOfDec (B := 320) Nn72.a (by omega) (by omega) (by omega)) ?_ ?_
              · rintro _ v75 ⟨aq74, kq74, dq74, bq74, lq74, eq74, rfl, Qq74, B⟩
                replace N0 := N0.keep B
                replace M0 := M0.keep B
                replace N2 := N2.keep B
                replace BB := joinB BB B
                replace Xg2 := Xg2.keep B
                replace Xg4 := Xg4.keep B
                replace Nn70 := Nn70.keep B
                replace Nn72 := Nn72.keep B
                clear B
                refine ⟨_, rfl, Xg4, ?_⟩
                have lXg2 := Xg2.lt
                have lXg4 := Xg4.lt
                refine za 5 12 [.slice none 0 0, .slice none 0 0] 40 (pg) ?_
                intro v76 g77 Xg77 hg77 B
                replace N0 := N0.keep B
                replace M0 := M0.keep B
                replace N2 := N2.keep B
                replace BB := joinB BB B
                replace Xg2 := Xg2.keep B
                replace Xg4 := Xg4.keep B
                replace Nn70 := Nn70.keep B
                replace Nn72 := Nn72.keep B
                replace Qq74 := Qq74.keep B
                clear B
                refine ⟨Xg4, ?_⟩
                refine zs 6 Xg77 0 (.agg #[.slice aq74 kq74 dq74, .slice bq74 lq74 eq74]) [.slice aq74 kq74 dq74, .slice bq74 lq74 eq74] [.slice aq74 kq74 dq74, .slice bq74 lq74 eq74] ?_
                intro v78 Y C
                replace N0 := NatA.cg N0 Xg77 C (by rfl)
                replace M0 := NatA.cg M0 Xg77 C (by rfl)
                replace N2 := NatA.cg N2 Xg77 C (by rfl)
                replace BB := belowC BB C (by omega)
                replace Xg2 := Xg2.chg C (show g2 ≠ g77 by omega)
                replace Xg4 := Xg4.chg C (show g4 ≠ g77 by omega)
                replace Nn70 := NatO.cg Nn70 Xg77 C (by rfl)
                replace Nn72 := NatO.cg Nn72 Xg77 C (by rfl)
                replace Qq74 := Qq74.cg Xg77 C (by rfl)
                clear C Xg77
                have Xg77 := Y
                clear Y
                refine ⟨Xg4, ?_⟩
                refine gz_done ?_
                refine ge_then ?_
                refine gc_seq ?_
                refine gc_seq ?_
                refine gc_reg ?_
                refine tlr 67 [.slice aq74 kq74 dq74, .slice bq74 lq74 eq74] Xg77 0 ?_
                refine tlr 68 [.slice a0 len0 cap0, .slice b0 ken0 dap0] Xg2 0 ?_
                refine tc 69 47 #[.agg #[.slice aq74 kq74 dq74, .slice bq74 lq74 eq74], .agg #[.slice a0 len0 cap0, .slice b0 ken0 dap0]] (pCmp (B := 320) (Qq74.v (ft_up (ft_paid hu.1 hu.2 N2.nonneg (nat_lt N2 (m := 60) (by omega))) (by decide))) (vqr hr (vq_in N0 M0 (B := 320) (by omega) (by omega))) (by omega)) ?_
                rintro _ v79 ⟨rfl, B⟩
                refine ⟨_, rfl, ?_⟩
                replace N0 := N0.keep B
                replace M0 := M0.keep B
                replace N2 := N2.keep B
                replace BB := joinB BB B
                replace Xg2 := Xg2.keep B
                replace Xg4 := Xg4.keep B
                replace Nn70 := Nn70.keep B
                replace Nn72 := Nn72.keep B
                replace Qq74 := Qq74.keep B
                replace Xg77 := Xg77.keep B
                clear B
                by_cases c80 : (0 : Int) < sgr (paid x1 x2) (r)
                · refine tq 70 (.bool (decide ((0 : Int) < sgr (paid x1 x2) (r)))) (.bool true) (congrArg Value.bool (decide_eq_true c80)) ?_
                  refine t 71 (.bool true) ?_
                  refine t 72 (.bool true) ?_
                  refine t 73 (.bool true) ?_
                  refine gl_nil ?_
                  refine ge_then ?_
                  refine gc_fr [(1, .int .u64 x1), (3, .int .i64 m9), (4, .int .i64 m11), (7, pg g4), (10, .bool false), (12, pg g77), (73, .bool true)] (by kernel_rfl) ?_
                  refine gc_yes ?_
                  refine gc_seq ?_
                  refine gc_reg ?_
                  refine t 10 (.bool false) ?_
                  refine gl_nil ?_
                  refine ge_then ?_
                  refine gc_ret ?_
                  refine ge_tr ?_
                  refine ge_ret (.bool false) (rs1 10 (by kernel_rfl) (by kernel_rfl)) ?_
                  exact (fit_not hfb c80).elim
                · refine tq 70 (.bool (decide ((0 : Int) < sgr (paid x1 x2) (r)))) (.bool false) (congrArg Value.bool (decide_eq_false c80)) ?_
                  refine t 71 (.bool false) ?_
                  refine tn 72 ?_
                  refine t 73 (.bool false) ?_
                  refine gl_nil ?_
                  refine ge_then ?_
                  refine gc_fr [(1, .int .u64 x1), (3, .int .i64 m9), (4, .int .i64 m11), (7, pg g4), (10, .bool false), (12, pg g77), (73, .bool false)] (by kernel_rfl) ?_
                  refine gc_no ?_
                  refine gc_skip ?_
                  refine ge_then ?_
                  refine gc_seq ?_
                  refine gc_reg ?_
                  refine tlr 74 [.slice aq74 kq74 dq74, .slice bq74 lq74 eq74] Xg77 0 ?_
                  refine t 75 (.int .u64 x1) ?_
                  refine tlr 76 [.slice a2 len2 cap2] Xg4 0 ?_
                  refine t 77 (.int .i64 m9) ?_
                  refine t 78 (.int .i64 m11) ?_
                  refine tc 79 31 #[.agg #[.slice aq74 kq74 dq74, .slice bq74 lq74 eq74], .int .u64 x1, .agg #[.slice a2 len2 cap2], .int .i64 m9, .int .i64 m11] (pFitsL (fit_self (room_nn (by omega) (by omega))) (Qq74.v (ft_up (ft_paid hu.1 hu.2 N2.nonneg (nat_lt N2 (m := 60) (by omega))) (by decide))) hu N2 (by omega) (by omega) (by omega)) ?_
                  rintro _ v81 ⟨rfl, B⟩
                  refine ⟨_, rfl, ?_⟩
                  replace N0 := N0.keep B
                  replace M0 := M0.keep B
                  replace N2 := N2.keep B
                  replace BB := joinB BB B
                  replace Xg2 := Xg2.keep B
                  replace Xg4 := Xg4.keep B
                  replace Nn70 := Nn70.keep B
                  replace Nn72 := Nn72.keep B
                  replace Qq74 := Qq74.keep B
                  replace Xg77 := Xg77.keep B
                  clear B
                  refine t 80 (.bool true) ?_
                  refine tlr 81 [.slice aq74 kq74 dq74, .slice bq74 lq74 eq74] Xg77 0 ?_
                  refine t 82 (.int .u64 x1) ?_
                  refine tlr 83 [.slice a2 len2 cap2] Xg4 0 ?_
                  refine tc 84 31 #[.agg #[.slice aq74 kq74 dq74, .slice bq74 lq74 eq74], .int .u64 x1, .agg #[.slice a2 len2 cap2], .int .i64 0, .int .i64 0] (pFitsL (fit_self (room_nn (by omega) (by omega))) (Qq74.v (ft_up (ft_paid hu.1 hu.2 N2.nonneg (nat_lt N2 (m := 60) (by omega))) (by decide))) hu N2 (by omega) (by omega) (by omega)) ?_
                  rintro _ v82 ⟨rfl, B⟩
                  refine ⟨_, rfl, ?_⟩
                  replace N0 := N0.keep B
                  replace M0 := M0.keep B
                  replace N2 := N2.keep B
                  replace BB := joinB BB B
                  replace Xg2 := Xg2.keep B
                  replace Xg4 := Xg4.keep B
                  replace Nn70 := Nn70.keep B
                  replace Nn72 := Nn72.keep B
                  replace Qq74 := Qq74.keep B
                  replace Xg77 := Xg77.keep B
                  clear B
                  refine t 85 (.bool true) ?_
                  refine t 10 (.bool true) ?_
                  refine gl_nil ?_
                  refine ge_then ?_
                  refine gc_fr [(10, .bool true)] (by kernel_rfl) ?_
                  refine gc_ret ?_
                  refine ge_ret (.bool true) (rs1 10 (by kernel_rfl) (by kernel_rfl)) ?_
                  exact ⟨rfl, BB⟩
              have lXg2 := Xg2.lt
              have lXg4 := Xg4.lt
              refine zaa 5 12 [.slice none 0 0, .slice none 0 0] 40 (pg) ?_ ?_
              · intro v83 g84 Xg84 hg84 B
                replace N0 := N0.keep B
                replace M0 := M0.keep B
                replace N2 := N2.keep B
                replace BB := joinB BB B
                replace Xg2 := Xg2.keep B
                replace Xg4 := Xg4.keep B
                replace Nn70 := Nn70.keep B
                replace Nn72 := Nn72.keep B
                clear B
                refine ⟨Xg4, ?_⟩
                refine zc 4 66 36 #[.agg #[.slice an72 kn72 dn72]] (pOfDec (B := 320) Nn72.a (by omega) (by omega) (by omega)) ?_
                rintro _ v86 ⟨aq85, kq85, dq85, bq85, lq85, eq85, rfl, Qq85, B⟩
                replace N0 := N0.keep B
                replace M0 := M0.keep B
                replace N2 := N2.keep B
                replace BB := joinB BB B
                replace Xg2 := Xg2.keep B
                replace Xg4 := Xg4.keep B
                replace Nn70 := Nn70.keep B
                replace Nn72 := Nn72.keep B
                replace Xg84 := Xg84.keep B
                clear B
                refine ⟨_, rfl, Xg4, ?_⟩
                refine zs 6 Xg84 0 (.agg #[.slice aq85 kq85 dq85, .slice bq85 lq85 eq85]) [.slice aq85 kq85 dq85, .slice bq85 lq85 eq85] [.slice aq85 kq85 dq85, .slice bq85 lq85 eq85] ?_
                intro v87 Y C
                replace N0 := NatA.cg N0 Xg84 C (by rfl)
                replace M0 := NatA.cg M0 Xg84 C (by rfl)
                replace N2 := NatA.cg N2 Xg84 C (by rfl)
                replace BB := belowC BB C (by omega)
                replace Xg2 := Xg2.chg C (show g2 ≠ g84 by omega)
                replace Xg4 := Xg4.chg C (show g4 ≠ g84 by omega)
                replace Nn70 := NatO.cg Nn70 Xg84 C (by rfl)
                replace Nn72 := NatO.cg Nn72 Xg84 C (by rfl)
                replace Qq85 := Qq85.cg Xg84 C (by rfl)
                clear C Xg84
                have Xg84 := Y
                clear Y
                refine ⟨Xg4, ?_⟩
                refine gz_done ?_
                refine ge_then ?_
                refine gc_seq ?_
                refine gc_seq ?_
                refine gc_reg ?_
                refine tlr 67 [.slice aq85 kq85 dq85, .slice bq85 lq85 eq85] Xg84 0 ?_
                refine tlr 68 [.slice a0 len0 cap0, .slice b0 ken0 dap0] Xg2 0 ?_
                refine tc 69 47 #[.agg #[.slice aq85 kq85 dq85, .slice bq85 lq85 eq85], .agg #[.slice a0 len0 cap0, .slice b0 ken0 dap0]] (pCmp (B := 320) (Qq85.v (ft_up (ft_paid hu.1 hu.2 N2.nonneg (nat_lt N2 (m := 60) (by omega))) (by decide))) (vqr hr (vq_in N0 M0 (B := 320) (by omega) (by omega))) (by omega)) ?_
                rintro _ v88 ⟨rfl, B⟩
                refine ⟨_, rfl, ?_⟩
                replace N0 := N0.keep B
                replace M0 := M0.keep B
                replace N2 := N2.keep B
                replace BB := joinB BB B
                replace Xg2 := Xg2.keep B
                replace Xg4 := Xg4.keep B
                replace Nn70 := Nn70.keep B
                replace Nn72 := Nn72.keep B
                replace Xg84 := Xg84.keep B
                replace Qq85 := Qq85.keep B
                clear B
                by_cases c89 : (0 : Int) < sgr (paid x1 x2) (r)
                · refine tq 70 (.bool (decide ((0 : Int) < sgr (paid x1 x2) (r)))) (.bool true) (congrArg Value.bool (decide_eq_true c89)) ?_
                  refine t 71 (.bool true) ?_
                  refine t 72 (.bool true) ?_
                  refine t 73 (.bool true) ?_
                  refine gl_nil ?_
                  refine ge_then ?_
                  refine gc_fr [(1, .int .u64 x1), (3, .int .i64 m9), (4, .int .i64 m11), (7, pg g4), (10, .bool false), (12, pg g84), (73, .bool true)] (by kernel_rfl) ?_
                  refine gc_yes ?_
                  refine gc_seq ?_
                  refine gc_reg ?_
                  refine t 10 (.bool false) ?_
                  refine gl_nil ?_
                  refine ge_then ?_
                  refine gc_ret ?_
                  refine ge_tr ?_
                  refine ge_ret (.bool false) (rs1 10 (by kernel_rfl) (by kernel_rfl)) ?_
                  exact (fit_not hfb c89).elim
                · refine tq 70 (.bool (decide ((0 : Int) < sgr (paid x1 x2) (r)))) (.bool false) (congrArg Value.bool (decide_eq_false c89)) ?_
                  refine t 71 (.bool false) ?_
                  refine tn 72 ?_
                  refine t 73 (.bool false) ?_
                  refine gl_nil ?_
                  refine ge_then ?_
                  refine gc_fr [(1, .int .u64 x1), (3, .int .i64 m9), (4, .int .i64 m11), (7, pg g4), (10, .bool false), (12, pg g84), (73, .bool false)] (by kernel_rfl) ?_
                  refine gc_no ?_
                  refine gc_skip ?_
                  refine ge_then ?_
                  refine gc_seq ?_
                  refine gc_reg ?_
                  refine tlr 74 [.slice aq85 kq85 dq85, .slice bq85 lq85 eq85] Xg84 0 ?_
                  refine t 75 (.int .u64 x1) ?_
                  refine tlr 76 [.slice a2 len2 cap2] Xg4 0 ?_
                  refine t 77 (.int .i64 m9) ?_
                  refine t 78 (.int .i64 m11) ?_
                  refine tc 79 31 #[.agg #[.slice aq85 kq85 dq85, .slice bq85 lq85 eq85], .int .u64 x1, .agg #[.slice a2 len2 cap2], .int .i64 m9, .int .i64 m11] (pFitsL (fit_self (room_nn (by omega) (by omega))) (Qq85.v (ft_up (ft_paid hu.1 hu.2 N2.nonneg (nat_lt N2 (m := 60) (by omega))) (by decide))) hu N2 (by omega) (by omega) (by omega)) ?_
                  rintro _ v90 ⟨rfl, B⟩
                  refine ⟨_, rfl, ?_⟩
                  replace N0 := N0.keep B
                  replace M0 := M0.keep B
                  replace N2 := N2.keep B
                  replace BB := joinB BB B
                  replace Xg2 := Xg2.keep B
                  replace Xg4 := Xg4.keep B
                  replace Nn70 := Nn70.keep B
                  replace Nn72 := Nn72.keep B
                  replace Xg84 := Xg84.keep B
                  replace Qq85 := Qq85.keep B
                  clear B
                  refine t 80 (.bool true) ?_
                  refine tlr 81 [.slice aq85 kq85 dq85, .slice bq85 lq85 eq85] Xg84 0 ?_
                  refine t 82 (.int .u64 x1) ?_
                  refine tlr 83 [.slice a2 len2 cap2] Xg4 0 ?_
                  refine tc 84 31 #[.agg #[.slice aq85 kq85 dq85, .slice bq85 lq85 eq85], .int .u64 x1, .agg #[.slice a2 len2 cap2], .int .i64 0, .int .i64 0] (pFitsL (fit_self (room_nn (by omega) (by omega))) (Qq85.v (ft_up (ft_paid hu.1 hu.2 N2.nonneg (nat_lt N2 (m := 60) (by omega))) (by decide))) hu N2 (by omega) (by omega) (by omega)) ?_
                  rintro _ v91 ⟨rfl, B⟩
                  refine ⟨_, rfl, ?_⟩
                  replace N0 := N0.keep B
                  replace M0 := M0.keep B
                  replace N2 := N2.keep B
                  replace BB := joinB BB B
                  replace Xg2 := Xg2.keep B
                  replace Xg4 := Xg4.keep B
                  replace Nn70 := Nn70.keep B
                  replace Nn72 := Nn72.keep B
                  replace Xg84 := Xg84.keep B
                  replace Qq85 := Qq85.keep B
                  clear B
                  refine t 85 (.bool true) ?_
                  refine t 10 (.bool true) ?_
                  refine gl_nil ?_
                  refine ge_then ?_
                  refine gc_fr [(10, .bool true)] (by kernel_rfl) ?_
                  refine gc_ret ?_
                  refine ge_ret (.bool true) (rs1 10 (by kernel_rfl) (by kernel_rfl)) ?_
                  exact ⟨rfl, BB⟩
              exact ga_nil
            have lXg2 := Xg2.lt
            have lXg4 := Xg4.lt
            refine zaa 5 12 [.slice none 0 0, .slice none 0 0] 40 (pg) ?_ ?_
            · intro v92 g93 Xg93 hg93 B
              replace N0 := N0.keep B
              replace M0 := M0.keep B
              replace N2 := N2.keep B
              replace BB := joinB BB B
              replace Xg2 := Xg2.keep B
              replace Xg4 := Xg4.keep B
              replace Nn70 := Nn70.keep B
              clear B
              refine ⟨Xg4, ?_⟩
              refine zc 3 65 45 #[.agg #[.slice an70 kn70 dn70], .agg #[.slice a2 len2 cap2]] (dAdd Nn70.a N2 (by omega) (by omega)) ?_
              rintro _ v95 ⟨an94, kn94, dn94, rfl, Nn94, ln94, B⟩
              replace N0 := N0.keep B
              replace M0 := M0.keep B
              replace N2 := N2.keep B
              replace BB := joinB BB B
              replace Xg2 := Xg2.keep B
              replace Xg4 := Xg4.keep B
              replace Nn70 := Nn70.keep B
              replace Xg93 := Xg93.keep B
              clear B
              refine ⟨_, rfl, Xg4, ?_⟩
              refine zc 4 66 36 #[.agg #[.slice an94 kn94 dn94]] (pOfDec (B := 320) Nn94.a (by omega) (by omega) (by omega)) ?_
              rintro _ v97 ⟨aq96, kq96, dq96, bq96, lq96, eq96, rfl, Qq96, B⟩
              replace N0 := N0.keep B
              replace M0 := M0.keep B
              replace N2 := N2.keep B
              replace BB := joinB BB B
              replace Xg2 := Xg2.keep B
              replace Xg4 := Xg4.keep B
              replace Nn70 := Nn70.keep B
              replace Xg93 := Xg93.keep B
              replace Nn94 := Nn94.keep B
              clear B
              refine ⟨_, rfl, Xg4, ?_⟩
              refine zs 6 Xg93 0 (.agg #[.slice aq96 kq96 dq96, .slice bq96 lq96 eq96]) [.slice aq96 kq96 dq96, .slice bq96 lq96 eq96] [.slice aq96 kq96 dq96, .slice bq96 lq96 eq96] ?_
              intro v98 Y C
              replace N0 := NatA.cg N0 Xg93 C (by rfl)
              replace M0 := NatA.cg M0 Xg93 C (by rfl)
              replace N2 := NatA.cg N2 Xg93 C (by rfl)
              replace BB := belowC BB C (by omega)
              replace Xg2 := Xg2.chg C (show g2 ≠ g93 by omega)
              replace Xg4 := Xg4.chg C (show g4 ≠ g93 by omega)
              replace Nn70 := NatO.cg Nn70 Xg93 C (by rfl)
              replace Nn94 := NatO.cg Nn94 Xg93 C (by rfl)
              replace Qq96 := Qq96.cg Xg93 C (by rfl)
              clear C Xg93
              have Xg93 := Y
              clear Y
              refine ⟨Xg4, ?_⟩
              refine gz_done ?_
              refine ge_then ?_
              refine gc_seq ?_
              refine gc_seq ?_
              refine gc_reg ?_
              refine tlr 67 [.slice aq96 kq96 dq96, .slice bq96 lq96 eq96] Xg93 0 ?_
              refine tlr 68 [.slice a0 len0 cap0, .slice b0 ken0 dap0] Xg2 0 ?_
              refine tc 69 47 #[.agg #[.slice aq96 kq96 dq96, .slice bq96 lq96 eq96], .agg #[.slice a0 len0 cap0, .slice b0 ken0 dap0]] (pCmp (B := 320) (Qq96.v (ft_up (ft_paid hu.1 hu.2 N2.nonneg (nat_lt N2 (m := 60) (by omega))) (by decide))) (vqr hr (vq_in N0 M0 (B := 320) (by omega) (by omega))) (by omega)) ?_
              rintro _ v99 ⟨rfl, B⟩
              refine ⟨_, rfl, ?_⟩
              replace N0 := N0.keep B
              replace M0 := M0.keep B
              replace N2 := N2.keep B
              replace BB := joinB BB B
              replace Xg2 := Xg2.keep B
              replace Xg4 := Xg4.keep B
              replace Nn70 := Nn70.keep B
              replace Xg93 := Xg93.keep B
              replace Nn94 := Nn94.keep B
              replace Qq96 := Qq96.keep B
              clear B
              by_cases c100 : (0 : Int) < sgr (paid x1 x2) (r)
              · refine tq 70 (.bool (decide ((0 : Int) < sgr (paid x1 x2) (r)))) (.bool true) (congrArg Value.bool (decide_eq_true c100)) ?_
                refine t 71 (.bool true) ?_
                refine t 72 (.bool true) ?_
                refine t 73 (.bool true) ?_
                refine gl_nil ?_
                refine ge_then ?_
                refine gc_fr [(1, .int .u64 x1), (3, .int .i64 m9), (4, .int .i64 m11), (7, pg g4), (10, .bool false), (12, pg g93), (73, .bool true)] (by kernel_rfl) ?_
                refine gc_yes ?_
                refine gc_seq ?_
                refine gc_reg ?_
                refine t 10 (.bool false) ?_
                refine gl_nil ?_
                refine ge_then ?_
                refine gc_ret ?_
                refine ge_tr ?_
                refine ge_ret (.bool false) (rs1 10 (by kernel_rfl) (by kernel_rfl)) ?_
                exact (fit_not hfb c100).elim
              · refine tq 70 (.bool (decide ((0 : Int) < sgr (paid x1 x2) (r)))) (.bool false) (congrArg Value.bool (decide_eq_false c100)) ?_
                refine t 71 (.bool false) ?_
                refine tn 72 ?_
                refine t 73 (.bool false) ?_
                refine gl_nil ?_
                refine ge_then ?_
                refine gc_fr [(1, .int .u64 x1), (3, .int .i64 m9), (4, .int .i64 m11), (7, pg g4), (10, .bool false), (12, pg g93), (73, .bool false)] (by kernel_rfl) ?_
                refine gc_no ?_
                refine gc_skip ?_
                refine ge_then ?_
                refine gc_seq ?_
                refine gc_reg ?_
                refine tlr 74 [.slice aq96 kq96 dq96, .slice bq96 lq96 eq96] Xg93 0 ?_
                refine t 75 (.int .u64 x1) ?_
                refine tlr 76 [.slice a2 len2 cap2] Xg4 0 ?_
                refine t 77 (.int .i64 m9) ?_
                refine t 78 (.int .i64 m11) ?_
                refine tc 79 31 #[.agg #[.slice aq96 kq96 dq96, .slice bq96 lq96 eq96], .int .u64 x1, .agg #[.slice a2 len2 cap2], .int .i64 m9, .int .i64 m11] (pFitsL (fit_self (room_nn (by omega) (by omega))) (Qq96.v (ft_up (ft_paid hu.1 hu.2 N2.nonneg (nat_lt N2 (m := 60) (by omega))) (by decide))) hu N2 (by omega) (by omega) (by omega)) ?_
                rintro _ v101 ⟨rfl, B⟩
                refine ⟨_, rfl, ?_⟩
                replace N0 := N0.keep B
                replace M0 := M0.keep B
                replace N2 := N2.keep B
                replace BB := joinB BB B
                replace Xg2 := Xg2.keep B
                replace Xg4 := Xg4.keep B
                replace Nn70 := Nn70.keep B
                replace Xg93 := Xg93.keep B
                replace Nn94 := Nn94.keep B
                replace Qq96 := Qq96.keep B
                clear B
                refine t 80 (.bool true) ?_
                refine tlr 81 [.slice aq96 kq96 dq96, .slice bq96 lq96 eq96] Xg93 0 ?_
                refine t 82 (.int .u64 x1) ?_
                refine tlr 83 [.slice a2 len2 cap2] Xg4 0 ?_
                refine tc 84 31 #[.agg #[.slice aq96 kq96 dq96, .slice bq96 lq96 eq96], .int .u64 x1, .agg #[.slice a2 len2 cap2], .int .i64 0, .int .i64 0] (pFitsL (fit_self (room_nn (by omega) (by omega))) (Qq96.v (ft_up (ft_paid hu.1 hu.2 N2.nonneg (nat_lt N2 (m := 60) (by omega))) (by decide))) hu N2 (by omega) (by omega) (by omega)) ?_
                rintro _ v102 ⟨rfl, B⟩
                refine ⟨_, rfl, ?_⟩
                replace N0 := N0.keep B
                replace M0 := M0.keep B
                replace N2 := N2.keep B
                replace BB := joinB BB B
                replace Xg2 := Xg2.keep B
                replace Xg4 := Xg4.keep B
                replace Nn70 := Nn70.keep B
                replace Xg93 := Xg93.keep B
                replace Nn94 := Nn94.keep B
                replace Qq96 := Qq96.keep B
                clear B
                refine t 85 (.bool true) ?_
                refine t 10 (.bool true) ?_
                refine gl_nil ?_
                refine ge_then ?_
                refine gc_fr [(10, .bool true)] (by kernel_rfl) ?_
                refine gc_ret ?_
                refine ge_ret (.bool true) (rs1 10 (by kernel_rfl) (by kernel_rfl)) ?_
                exact ⟨rfl, BB⟩
            exact ga_nil
          have lXg2 := Xg2.lt
          have lXg4 := Xg4.lt
          refine zaa 5 12 [.slice none 0 0, .slice none 0 0] 40 (pg) ?_ ?_
          · intro v103 g104 Xg104 hg104 B
            replace N0 := N0.keep B
            replace M0 := M0.keep B
            replace N2 := N2.keep B
            replace BB := joinB BB B
            replace Xg2 := Xg2.keep B
            replace Xg4 := Xg4.keep B
            clear B
            refine ⟨Xg4, ?_⟩
            refine zc 1 63 46 #[.int .u64 x1] (dOf (x := x1) (hu).1 (hu).2) ?_
            rintro _ v106 ⟨an105, kn105, dn105, rfl, Nn105, ln105, B⟩
            replace N0 := N0.keep B
            replace M0 := M0.keep B
            replace N2 := N2.keep B
            replace BB := joinB BB B
            replace Xg2 := Xg2.keep B
            replace Xg4 := Xg4.keep B
            replace Xg104 := Xg104.keep B
            clear B
            refine ⟨_, rfl, Xg4, ?_⟩
            refine zc 3 65 45 #[.agg #[.slice an105 kn105 dn105], .agg #[.slice a2 len2 cap2]] (dAdd Nn105.a N2 (by omega) (by omega)) ?_
            rintro _ v108 ⟨an107, kn107, dn107, rfl, Nn107, ln107, B⟩
            replace N0 := N0.keep B
            replace M0 := M0.keep B
            replace N2 := N2.keep B
            replace BB := joinB BB B
            replace Xg2 := Xg2.keep B
            replace Xg4 := Xg4.keep B
            replace Xg104 := Xg104.keep B
            replace Nn105 := Nn105.keep B
            clear B
            refine ⟨_, rfl, Xg4, ?_⟩
            refine zc 4 66 36 #[.agg #[.slice an107 kn107 dn107]] (pOfDec (B := 320) Nn107.a (by omega) (by omega) (by omega)) ?_
            rintro _ v110 ⟨aq109, kq109, dq109, bq109, lq109, eq109, rfl, Qq109, B⟩
            replace N0 := N0.keep B
            replace M0 := M0.keep B
            replace N2 := N2.keep B
            replace BB := joinB BB B
            replace Xg2 := Xg2.keep B
            replace Xg4 := Xg4.keep B
            replace Xg104 := Xg104.keep B
            replace Nn105 := Nn105.keep B
            replace Nn107 := Nn107.keep B
            clear B
            refine ⟨_, rfl, Xg4, ?_⟩
            refine zs 6 Xg104 0 (.agg #[.slice aq109 kq109 dq109, .slice bq109 lq109 eq109]) [.slice aq109 kq109 dq109, .slice bq109 lq109 eq109] [.slice aq109 kq109 dq109, .slice bq109 lq109 eq109] ?_
            intro v111 Y C
            replace N0 := NatA.cg N0 Xg104 C (by rfl)
            replace M0 := NatA.cg M0 Xg104 C (by rfl)
            replace N2 := NatA.cg N2 Xg104 C (by rfl)
            replace BB := belowC BB C (by omega)
            replace Xg2 := Xg2.chg C (show g2 ≠ g104 by omega)
            replace Xg4 := Xg4.chg C (show g4 ≠ g104 by omega)
            replace Nn105 := NatO.cg Nn105 Xg104 C (by rfl)
            replace Nn107 := NatO.cg Nn107 Xg104 C (by rfl)
            replace Qq109 := Qq109.cg Xg104 C (by rfl)
            clear C Xg104
            have Xg104 := Y
            clear Y
            refine ⟨Xg4, ?_⟩
            refine gz_done ?_
            refine ge_then ?_
            refine gc_seq ?_
            refine gc_seq ?_
            refine gc_reg ?_
            refine tlr 67 [.slice aq109 kq109 dq109, .slice bq109 lq109 eq109] Xg104 0 ?_
            refine tlr 68 [.slice a0 len0 cap0, .slice b0 ken0 dap0] Xg2 0 ?_
            refine tc 69 47 #[.agg #[.slice aq109 kq109 dq109, .slice bq109 lq109 eq109], .agg #[.slice a0 len0 cap0, .slice b0 ken0 dap0]] (pCmp (B := 320) (Qq109.v (ft_up (ft_paid hu.1 hu.2 N2.nonneg (nat_lt N2 (m := 60) (by omega))) (by decide))) (vqr hr (vq_in N0 M0 (B := 320) (by omega) (by omega))) (by omega)) ?_
            rintro _ v112 ⟨rfl, B⟩
            refine ⟨_, rfl, ?_⟩
            replace N0 := N0.keep B
            replace M0 := M0.keep B
            replace N2 := N2.keep B
            replace BB := joinB BB B
            replace Xg2 := Xg2.keep B
            replace Xg4 := Xg4.keep B
            replace Xg104 := Xg104.keep B
            replace Nn105 := Nn105.keep B
            replace Nn107 := Nn107.keep B
            replace Qq109 := Qq109.keep B
            clear B
            by_cases c113 : (0 : Int) < sgr (paid x1 x2) (r)
            · refine tq 70 (.bool (decide ((0 : Int) < sgr (paid x1 x2) (r)))) (.bool true) (congrArg Value.bool (decide_eq_true c113)) ?_
              refine t 71 (.bool true) ?_
              refine t 72 (.bool true) ?_
              refine t 73 (.bool true) ?_
              refine gl_nil ?_
              refine ge_then ?_
              refine gc_fr [(1, .int .u64 x1), (3, .int .i64 m9), (4, .int .i64 m11), (7, pg g4), (10, .bool false), (12, pg g104), (73, .bool true)] (by kernel_rfl) ?_
              refine gc_yes ?_
              refine gc_seq ?_
              refine gc_reg ?_
              refine t 10 (.bool false) ?_
              refine gl_nil ?_
              refine ge_then ?_
              refine gc_ret ?_
              refine ge_tr ?_
              refine ge_ret (.bool false) (rs1 10 (by kernel_rfl) (by kernel_rfl)) ?_
              exact (fit_not hfb c113).elim
            · refine tq 70 (.bool (decide ((0 : Int) < sgr (paid x1 x2) (r)))) (.bool false) (congrArg Value.bool (decide_eq_false c113)) ?_
              refine t 71 (.bool false) ?_
              refine tn 72 ?_
              refine t 73 (.bool false) ?_
              refine gl_nil ?_
              refine ge_then ?_
              refine gc_fr [(1, .int .u64 x1), (3, .int .i64 m9), (4, .int .i64 m11), (7, pg g4), (10, .bool false), (12, pg g104), (73, .bool false)] (by kernel_rfl) ?_
              refine gc_no ?_
              refine gc_skip ?_
              refine ge_then ?_
              refine gc_seq ?_
              refine gc_reg ?_
              refine tlr 74 [.slice aq109 kq109 dq109, .slice bq109 lq109 eq109] Xg104 0 ?_
              refine t 75 (.int .u64 x1) ?_
              refine tlr 76 [.slice a2 len2 cap2] Xg4 0 ?_
              refine t 77 (.int .i64 m9) ?_
              refine t 78 (.int .i64 m11) ?_
              refine tc 79 31 #[.agg #[.slice aq109 kq109 dq109, .slice bq109 lq109 eq109], .int .u64 x1, .agg #[.slice a2 len2 cap2], .int .i64 m9, .int .i64 m11] (pFitsL (fit_self (room_nn (by omega) (by omega))) (Qq109.v (ft_up (ft_paid hu.1 hu.2 N2.nonneg (nat_lt N2 (m := 60) (by omega))) (by decide))) hu N2 (by omega) (by omega) (by omega)) ?_
              rintro _ v114 ⟨rfl, B⟩
              refine ⟨_, rfl, ?_⟩
              replace N0 := N0.keep B
              replace M0 := M0.keep B
              replace N2 := N2.keep B
              replace BB := joinB BB B
              replace Xg2 := Xg2.keep B
              replace Xg4 := Xg4.keep B
              replace Xg104 := Xg104.keep B
              replace Nn105 := Nn105.keep B
              replace Nn107 := Nn107.keep B
              replace Qq109 := Qq109.keep B
              clear B
              refine t 80 (.bool true) ?_
              refine tlr 81 [.slice aq109 kq109 dq109, .slice bq109 lq109 eq109] Xg104 0 ?_
              refine t 82 (.int .u64 x1) ?_
              refine tlr 83 [.slice a2 len2 cap2] Xg4 0 ?_
              refine tc 84 31 #[.agg #[.slice aq109 kq109 dq109, .slice bq109 lq109 eq109], .int .u64 x1, .agg #[.slice a2 len2 cap2], .int .i64 0, .int .i64 0] (pFitsL (fit_self (room_nn (by omega) (by omega))) (Qq109.v (ft_up (ft_paid hu.1 hu.2 N2.nonneg (nat_lt N2 (m := 60) (by omega))) (by decide))) hu N2 (by omega) (by omega) (by omega)) ?_
              rintro _ v115 ⟨rfl, B⟩
              refine ⟨_, rfl, ?_⟩
              replace N0 := N0.keep B
              replace M0 := M0.keep B
              replace N2 := N2.keep B
              replace BB := joinB BB B
              replace Xg2 := Xg2.keep B
              replace Xg4 := Xg4.keep B
              replace Xg104 := Xg104.keep B
              replace Nn105 := Nn105.keep B
              replace Nn107 := Nn107.keep B
              replace Qq109 := Qq109.keep B
              clear B
              refine t 85 (.bool true) ?_
              refine t 10 (.bool true) ?_
              refine gl_nil ?_
              refine ge_then ?_
              refine gc_fr [(10, .bool true)] (by kernel_rfl) ?_
              refine gc_ret ?_
              refine ge_ret (.bool true) (rs1 10 (by kernel_rfl) (by kernel_rfl)) ?_
              exact ⟨rfl, BB⟩
          exact ga_nil
end ledgerRoom
end Go.Proofs.YtlbndpkdkdgggaaGreatDoor
