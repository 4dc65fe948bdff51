/- gleanlaw24.LedgerFits returns true for every payment. (tools/gen_lgl.py) -/
import Derived.Test.YtlbndpkdkdgggaaGreatDoorJrj
import Derived.Test.YtlbndpkdkdgggaaGreatDoorJro
import Derived.Test.YtlbndpkdkdgggaaGreatDoorJrr
namespace Go.Proofs.YtlbndpkdkdgggaaGreatDoor
namespace ledgerFits
open Go.RowKit Go.Lib Lim Pg Gl Lg
set_option linter.unusedVariables false
theorem vqr {w : World} {a b : Option Addr} {n c m d B : Nat} {r s : Rat} (e : r = s) (h : VQ w a n c b m d r B) : VQ w a n c b m d s B := e ▸ h
set_option maxHeartbeats 4000000 in
set_option maxRecDepth 100000 in
theorem walk (a0 : Option Addr) (len0 cap0 : Nat) (z0 : List Int) (b0 : Option Addr) (ken0 dap0 : Nat) (y0 : List Int) (x1 : Int) (a2 : Option Addr) (len2 cap2 : Nat) (z2 : List Int) (x3 x4 : Int) (w : World) (w0 : IsRow w a0 len0 cap0 z0) (x0 : IsRow w b0 ken0 dap0 y0) (wx1 : (Lit.int .u64 x1).wf = true) (w2 : IsRow w a2 len2 cap2 z2) (wx3 : (Lit.int .i64 x3).wf = true) (wx4 : (Lit.int .i64 x4).wf = true) : Calls Tryz.prog 4 #[.agg #[.slice a0 len0 cap0, .slice b0 ken0 dap0], .int .u64 x1, .agg #[.slice a2 len2 cap2], .int .i64 x3, .int .i64 x4] w fun e w' => e = .returned (.bool true) ∧ Below w.heap.size w w' := by
  obtain ⟨g0, o0, l0, hl0, hc0, hm0, W0, h0⟩ := w0.open
  have N0 : NatA w a0 len0 cap0 (val l0) := ⟨g0, o0, l0, hl0, hc0, W0, h0, rfl⟩
  obtain ⟨g1, o1, k0, hk0, hd0, hn0, V0, i0⟩ := x0.open
  have M0 : NatA w b0 ken0 dap0 (val k0) := ⟨g1, o1, k0, hk0, hd0, V0, i0, rfl⟩
  obtain ⟨g2, o2, l2, hl2, hc2, hm2, W2, h2⟩ := w2.open
  have N2 : NatA w a2 len2 cap2 (val l2) := ⟨g2, o2, l2, hl2, hc2, W2, h2, rfl⟩
  have hu' := bounds_u64 wx1
  have hu : 0 ≤ x1 ∧ x1 < 18446744073709551616 := by omega
  have hp := (bounds_i64 wx3).2
  have hk := (bounds_i64 wx4).2
  clear h0 i0 h2 W0 V0 W2 hl0 hk0 hl2 w0 x0 w2 wx1 wx3 wx4 hu'
  generalize hr : ((cn (val l0) (val k0) : Rat) / (cd (val k0) : Rat)) = r
  obtain ⟨x2, hx2⟩ : ∃ x2, val l2 = x2 := ⟨_, rfl⟩
  rw [hx2] at N2
  obtain ⟨y1, hy1⟩ : ∃ y1, val l0 = y1 := ⟨_, rfl⟩
  obtain ⟨y2, hy2⟩ : ∃ y2, val k0 = y2 := ⟨_, rfl⟩
  rw [hy1] at N0 hr
  rw [hy2] at M0 hr
  clear hx2 hy1 hy2
  have BB := Below.refl w.heap.size w
  refine gc_enter (n := 42) Tryz.func4 rfl (by kernel_rfl) (by kernel_rfl) ?_
  refine gc_seq ?_
  refine gc_reg ?_
  refine ta 5 [.slice a0 len0 cap0, .slice b0 ken0 dap0] 40 (pg) ?_
  intro v1 g2 Xg2 hg2 B
  replace N0 := N0.keep B
  replace M0 := M0.keep B
  replace N2 := N2.keep B
  replace BB := joinB BB B
  clear B
  have lXg2 := Xg2.lt
  refine ta 7 [.slice a2 len2 cap2] 35 (pg) ?_
  intro v3 g4 Xg4 hg4 B
  replace N0 := N0.keep B
  replace M0 := M0.keep B
  replace N2 := N2.keep B
  replace BB := joinB BB B
  replace Xg2 := Xg2.keep B
  clear B
  refine t 10 (.bool false) ?_
  refine gl_nil ?_
  refine ge_then ?_
  refine gc_seq ?_
  refine gc_seq ?_
  refine gc_reg ?_
  refine tc 11 9 #[] (known24) ?_
  rintro _ v5 ⟨rfl, B⟩
  refine ⟨_, rfl, ?_⟩
  replace N0 := N0.keep B
  replace M0 := M0.keep B
  replace N2 := N2.keep B
  replace BB := joinB BB B
  replace Xg2 := Xg2.keep B
  replace Xg4 := Xg4.keep B
  clear B
  refine t 12 (.bool false) ?_
  refine gl_nil ?_
  refine ge_then ?_
  refine gc_no ?_
  refine gc_skip ?_
  refine ge_then ?_
  refine gc_seq ?_
  refine gc_seq ?_
  refine gc_reg ?_
  refine t 13 (pg g2) ?_
  refine tl 14 (.slice a0 len0 cap0) Xg2 0 ?_
  refine t 15 (.int .i64 ((len0 : Nat) : Int)) ?_
  by_cases c6 : (20 : Int) < ((len0 : Nat) : Int)
  · refine tq 16 (.bool (decide ((20 : Int) < ((len0 : Nat) : Int)))) (.bool true) (congrArg Value.bool (decide_eq_true c6)) ?_
    refine t 17 (.bool true) ?_
    refine tn 18 ?_
    refine tn 19 ?_
    refine tn 20 ?_
    refine tn 21 ?_
    refine t 22 (.bool true) ?_
    refine t 23 (.bool true) ?_
    refine tn 24 ?_
    refine tn 25 ?_
    refine tn 26 ?_
    refine tn 27 ?_
    refine t 28 (.bool true) ?_
    refine gl_nil ?_
    refine ge_then ?_
    refine gc_fr [(1, .int .u64 x1), (3, .int .i64 x3), (4, .int .i64 x4), (5, pg g2), (7, pg g4), (10, .bool false), (28, .bool true)] (by kernel_rfl) ?_
    refine gc_yes ?_
    refine gc_seq ?_
    refine gc_reg ?_
    refine t 10 (.bool true) ?_
    refine gl_nil ?_
    refine ge_then ?_
    refine gc_ret ?_
    refine ge_tr ?_
    refine ge_ret (.bool true) (rs1 10 (by kernel_rfl) (by kernel_rfl)) ?_
    exact ⟨rfl, BB⟩
  · refine tq 16 (.bool (decide ((20 : Int) < ((len0 : Nat) : Int)))) (.bool false) (congrArg Value.bool (decide_eq_false c6)) ?_
    refine t 17 (.bool false) ?_
    refine t 18 (pq g2 1) ?_
    refine tl 19 (.slice b0 ken0 dap0) Xg2 1 ?_
    refine t 20 (.int .i64 ((ken0 : Nat) : Int)) ?_
    by_cases c7 : (20 : Int) < ((ken0 : Nat) : Int)
    · refine tq 21 (.bool (decide ((20 : Int) < ((ken0 : Nat) : Int)))) (.bool true) (congrArg Value.bool (decide_eq_true c7)) ?_
      refine t 22 (.bool true) ?_
      refine t 23 (.bool true) ?_
      refine tn 24 ?_
      refine tn 25 ?_
      refine tn 26 ?_
      refine tn 27 ?_
      refine t 28 (.bool true) ?_
      refine gl_nil ?_
      refine ge_then ?_
      refine gc_fr [(1, .int .u64 x1), (3, .int .i64 x3), (4, .int .i64 x4), (5, pg g2), (7, pg g4), (10, .bool false), (28, .bool true)] (by kernel_rfl) ?_
      refine gc_yes ?_
      refine gc_seq ?_
      refine gc_reg ?_
      refine t 10 (.bool true) ?_
      refine gl_nil ?_
      refine ge_then ?_
      refine gc_ret ?_
      refine ge_tr ?_
      refine ge_ret (.bool true) (rs1 10 (by kernel_rfl) (by kernel_rfl)) ?_
      exact ⟨rfl, BB⟩
    · refine tq 21 (.bool (decide ((20 : Int) < ((ken0 : Nat) : Int)))) (.bool false) (congrArg Value.bool (decide_eq_false c7)) ?_
      refine t 22 (.bool false) ?_
      refine t 23 (.bool false) ?_
      refine t 24 (pg g4) ?_
      refine tl 25 (.slice a2 len2 cap2) Xg4 0 ?_
      refine t 26 (.int .i64 ((len2 : Nat) : Int)) ?_
      by_cases c8 : (20 : Int) < ((len2 : Nat) : Int)
      · refine tq 27 (.bool (decide ((20 : Int) < ((len2 : Nat) : Int)))) (.bool true) (congrArg Value.bool (decide_eq_true c8)) ?_
        refine t 28 (.bool true) ?_
        refine gl_nil ?_
        refine ge_then ?_
        refine gc_fr [(1, .int .u64 x1), (3, .int .i64 x3), (4, .int .i64 x4), (5, pg g2), (7, pg g4), (10, .bool false), (28, .bool true)] (by kernel_rfl) ?_
        refine gc_yes ?_
        refine gc_seq ?_
        refine gc_reg ?_
        refine t 10 (.bool true) ?_
        refine gl_nil ?_
        refine ge_then ?_
        refine gc_ret ?_
        refine ge_tr ?_
        refine ge_ret (.bool true) (rs1 10 (by kernel_rfl) (by kernel_rfl)) ?_
        exact ⟨rfl, BB⟩
      · refine tq 27 (.bool (decide ((20 : Int) < ((len2 : Nat) : Int)))) (.bool false) (congrArg Value.bool (decide_eq_false c8)) ?_
        refine t 28 (.bool false) ?_
        refine gl_nil ?_
        refine ge_then ?_
        refine gc_fr [(1, .int .u64 x1), (3, .int .i64 x3), (4, .int .i64 x4), (5, pg g2), (7, pg g4), (10, .bool false), (28, .bool false)] (by kernel_rfl) ?_
        refine gc_no ?_
        refine gc_skip ?_
        refine ge_then ?_
        refine gc_seq ?_
        replace N0 := N0.keep (Below.refl _ _).drew
        replace M0 := M0.keep (Below.refl _ _).drew
        replace N2 := N2.keep (Below.refl _ _).drew
        replace BB := BB.drew
        replace Xg2 := Xg2.drew
        replace Xg4 := Xg4.drew
        refine gc_draw (fun w' => Blk w' g2 [.slice a0 len0 cap0, .slice b0 ken0 dap0] 40 ∧ Blk w' g4 [.slice a2 len2 cap2] 35) (fun _ => false) ⟨Xg2, Xg4⟩ ?_
        refine zlr 0 29 [.slice a0 len0 cap0, .slice b0 ken0 dap0] (fun _ h => h.1) 0 ?_
        refine z 1 30 (.int .u64 x1) ?_
        refine zlr 2 31 [.slice a2 len2 cap2] (fun _ h => h.2) 0 ?_
        refine z 3 32 (.int .i64 x3) ?_
        refine z 4 33 (.int .i64 x4) ?_
        refine zlr 6 35 [.slice a0 len0 cap0, .slice b0 ken0 dap0] (fun _ h => h.1) 0 ?_
        refine z 7 36 (.int .u64 x1) ?_
        refine zlr 8 37 [.slice a2 len2 cap2] (fun _ h => h.2) 0 ?_
        refine z 9 38 (.int .i64 x3) ?_
        refine z 10 39 (.int .i64 x4) ?_
        refine zc 5 34 31 #[.agg #[.slice a0 len0 cap0, .slice b0 ken0 dap0], .int .u64 x1, .agg #[.slice a2 len2 cap2], .int .i64 x3, .int .i64 x4] (pFits (vqr hr (vq_in N0 M0 (B := 320) (by omega) (by omega))) hu N2 (by omega) hp hk) ?_
        rintro _ v9 ⟨rfl, B⟩
        replace N0 := N0.keep B
        replace M0 := M0.keep B
        replace N2 := N2.keep B
        replace BB := joinB BB B
        replace Xg2 := Xg2.keep B
        replace Xg4 := Xg4.keep B
        clear B
        refine ⟨_, rfl, ⟨Xg2, Xg4⟩, ?_⟩
        refine zc 11 40 32 #[.agg #[.slice a0 len0 cap0, .slice b0 ken0 dap0], .int .u64 x1, .agg #[.slice a2 len2 cap2], .int .i64 x3, .int .i64 x4] (tFits (vqr hr (vq_in N0 M0 (B := 320) (by omega) (by omega))) hu N2 (by omega) hp hk) ?_
        rintro _ v10 ⟨rfl, B⟩
        replace N0 := N0.keep B
        replace M0 := M0.keep B
        replace N2 := N2.keep B
        replace BB := joinB BB B
        replace Xg2 := Xg2.keep B
        replace Xg4 := Xg4.keep B
        clear B
        refine ⟨_, rfl, ⟨Xg2, Xg4⟩, ?_⟩
        refine zq 12 41 (.bool ((fitV r x1 x2 x3 x4) == (fitV r x1 x2 x3 x4))) (.bool true) (congrArg Value.bool (beq_self_eq_true _)) ?_
        refine z 13 10 (.bool true) ?_
        refine gz_done ?_
        refine ge_then ?_
        refine gc_fr [(10, .bool true)] (by kernel_rfl) ?_
        refine gc_ret ?_
        refine ge_ret (.bool true) (rs1 10 (by kernel_rfl) (by kernel_rfl)) ?_
        exact ⟨rfl, BB⟩
end ledgerFits
end Go.Proofs.YtlbndpkdkdgggaaGreatDoor
