/- Several texts, joined: ShD. -/
import Derived.Test.YtdgdfhefnlaalaaGreatDoorJsb
import Derived.Test.YtdgdfhefnlaalaaGreatDoorJne
import Derived.Test.YtdgdfhefnlaalaaGreatDoorJda
namespace Go.Proofs.YtdgdfhefnlaalaaGreatDoor
namespace Sh
open Go.RowKit Go.Lib Pg Lim
attribute [local go_sem] Oper.semAt_some
theorem natO_zero {w : World} {a : Option Addr} {n c : Nat} {x : Int} (h : NatO w a n c x) : (n : Int) = 0 ↔ x = 0 := by
  obtain ⟨b, o, l, h1, h2, h3, h4⟩ := h.ex
  constructor
  · intro e
    have : l = [] := List.eq_nil_of_length_eq_zero (by omega)
    subst this
    exact h3.2.2.symm
  · intro e
    subst e
    have := isN_unique h3 isN_nil
    subst this
    simp at h1
    omega
theorem zeroE {w : World} {ao : Option Addr} {n c : Nat} {x : Int} (h : NatA w ao n c x) (hn : n ≤ 137438953472) (r : Bool) (hr : decide (x = 0) = r) :
    Calls Tryz.prog 25 #[.agg #[.slice ao n c]] w fun e w' => e = .returned (.bool r) ∧ Below w.heap.size w w' := hr ▸ eZero h hn
theorem cmpE {w : World} {ao ao' : Option Addr} {n c n' c' : Nat} {x y : Int} (h : NatA w ao n c x) (h' : NatA w ao' n' c' y) (hn : n ≤ 137438953472) (hn' : n' ≤ 137438953472) (r : Int) (hr : sgn x y = r) :
    Calls Tryz.prog 34 #[.agg #[.slice ao n c], .agg #[.slice ao' n' c']] w fun e w' => e = .returned (.int .i64 r) ∧ Below w.heap.size w w' := hr ▸ eCmp h h' hn hn'
theorem cmpR {w : World} {ao ao' : Option Addr} {n c n' c' : Nat} {x y : Int} (h : NatA w ao n c x) (h' : NatA w ao' n' c' y) (hn : n ≤ 274877906944) (hn' : n' ≤ 274877906944) (r : Int) (hr : sgn x y = r) :
    Calls Tryz.prog 30 #[.slice ao n c, .slice ao' n' c'] w fun e w' => e = .returned (.int .i64 r) ∧ Below w.heap.size w w' := hr ▸ rCmp h h' hn hn'
theorem pow90 {w : World} : Calls Tryz.prog 29 #[.int .i64 90] w fun e w' => ∃ a k d, e = .returned (.tuple #[.slice a k d, .int .i64 0]) ∧ NatO w' a k d (10 ^ 90) ∧ k ≤ 8192 ∧ Below w.heap.size w w' := by
  have t := rPowV (w := w) 90
  rw [show powE 90 = 0 from rfl, show powV 90 = 10 ^ 90 from rfl] at t
  exact t
theorem smV_lt {x : Int} (h : x < 18446744073709551616) : smV x = x := by rw [smV, if_pos h]
theorem re_small {T S x : Int} (hT : 0 ≤ T ∧ T < 18446744073709551616) (hx : 0 ≤ x) (h : x < S) : reV T S x = smV (x * T / S) := by
  have h1 := re_le hT.1 hx h
  rw [smV_lt (by omega), reV, if_neg (by omega), if_neg (by omega)]
theorem cut_small {n p : Int} (hn : 0 ≤ n ∧ n < 18446744073709551616) : n * min p 10000 / 10000 = smV (n * min p 10000 / 10000) := by
  have h1 := cut_n (q := p) hn.1
  rw [smV_lt (by omega)]
set_option maxHeartbeats 2000000 in
set_option maxRecDepth 100000 in
theorem tIssue {w : World} {T t : Int} {a0 : Option Addr} {n0 c0 : Nat} {x0 : Int} (hT : 0 ≤ T ∧ T < 18446744073709551616) (h0 : NatA w a0 n0 c0 x0) (k0 : n0 ≤ 100000) (ht : 0 ≤ t ∧ t < 18446744073709551616) :
    Calls Tryz.prog 7 #[.int .u64 T, .agg #[.slice a0 n0 c0], .int .u64 t] w fun e w' => ∃ a k d, e = .returned (.tuple #[.agg #[.slice a k d], .int .i64 (isE T x0 t)]) ∧ NatO w' a k d (isV T x0 t) ∧ k ≤ 1000000 ∧ Below w.heap.size w w' := by
  have BB := Below.refl w.heap.size w
  go_enter Tryz.func7, Tryz.ntmps7
  refine wp_seq ?_
  refine wl_start ?_
  have bs0 := BB.size
  refine wl_box 4 1 26 [.slice a0 n0 c0] rfl rfl rfl (by kernel_rfl) boxx26 ?_
  intro v1w g1v X4 hg1v B
  replace h0 := h0.keep B
  replace BB := joinB BB B
  clear B
  have lX4 := X4.lt
  have bs1 := BB.size
  refine wl_alloc 6 26 [.slice none 0 0] rfl rfl rfl allocx26 ?_
  intro v2w g2v X6 hg2v B
  replace h0 := h0.keep B
  replace X4 := X4.keep B
  replace BB := joinB BB B
  clear B
  refine wl_take (some 7) (.int .i64 0) rfl rfl (by kernel_rfl) ?_
  refine wl_nil ?_
  refine wp_then ?_
  refine wp_frame (a' := ⟨#[(.int .u64 T), (.agg #[.slice a0 n0 c0]), (.int .u64 t), ud, (.pointer (some ⟨g1v, 0, none⟩)), ud, (.pointer (some ⟨g2v, 0, none⟩)), (.int .i64 0), ud, ud, ud, ud, ud, ud, ud, ud, ud, ud, ud, ud, ud, ud, ud, ud, ud, ud, ud, ud, ud, ud, ud, ud, ud, ud, ud, ud, ud, ud, ud, ud, ud, ud, ud, ud, ud, ud, ud, ud, ud, ud, ud, ud], []⟩) (by kernel_rfl) ?_
  refine wp_seq ?_
  refine wp_seq ?_
  refine wl_start ?_
  refine wl_take (some 13) (.int .u64 t) rfl rfl (by kernel_rfl) ?_
  by_cases cc1 : t = 0
  · skip
    refine wl_eq (some 14) (.bool ((t : Int) == 0)) (.bool true) (congrArg Value.bool (beq_iff_eq.2 cc1)) rfl rfl (by kernel_rfl) ?_
    refine wl_nil ?_
    refine wp_then ?_
    refine wp_frame (a' := ⟨#[(.int .u64 T), (.agg #[.slice a0 n0 c0]), (.int .u64 t), ud, (.pointer (some ⟨g1v, 0, none⟩)), ud, (.pointer (some ⟨g2v, 0, none⟩)), (.int .i64 0), ud, ud, ud, ud, ud, (.int .u64 t), (.bool true), ud, ud, ud, ud, ud, ud, ud, ud, ud, ud, ud, ud, ud, ud, ud, ud, ud, ud, ud, ud, ud, ud, ud, ud, ud, ud, ud, ud, ud, ud, ud, ud, ud, ud, ud, ud, ud], []⟩) (by kernel_rfl) ?_
    refine wp_cond_true (by kernel_rfl) ?_
    refine wp_seq ?_
    refine wl_start ?_
    refine wl_take (some 15) (.agg #[.slice none 0 0]) rfl rfl (by kernel_rfl) ?_
    refine wl_set' 6 15 26 (i := 0) (.slice none 0 0) (.slice none 0 0) X6 rfl rfl rfl rfl (by kernel_rfl) (by kernel_rfl) storex26 ?_
    intro v3w hv3w
    replace BB := BB.setCell (p := ⟨g2v, 0, none⟩) (show w.heap.size ≤ g2v by omega) (.slice none 0 0)
    replace h0 := h0.put (show Slot _ _ _ _ from ⟨X6.blk⟩) not_int (.slice none 0 0)
    replace X4 := X4.off (g' := g2v) (by omega) (i := 0) (.slice none 0 0)
    replace X6 := X6.setCell (i := 0) (.slice none 0 0)
    rw [hv3w] at BB h0 X4 X6
    clear hv3w
    refine wl_take (some 7) (.int .i64 101) rfl rfl (by kernel_rfl) ?_
    refine wl_nil ?_
    refine wp_then ?_
    refine wp_frame (a' := ⟨#[(.int .u64 T), (.agg #[.slice a0 n0 c0]), (.int .u64 t), ud, (.pointer (some ⟨g1v, 0, none⟩)), ud, (.pointer (some ⟨g2v, 0, none⟩)), (.int .i64 101), ud, ud, ud, ud, ud, (.int .u64 t), (.bool true), (.agg #[.slice none 0 0]), ud, ud, ud, ud, ud, ud, ud, ud, ud, ud, ud, ud, ud, ud, ud, ud, ud, ud, ud, ud, ud, ud, ud, ud, ud, ud, ud, ud, ud, ud, ud, ud, ud, ud, ud, ud], []⟩) (by kernel_rfl) ?_
    refine wp_ret ?_
    repeat (first | refine ret_then ?_ | refine ret_block ?_)
    refine bodyPost_ret (ret_dec_tmp rfl rfl rfl (show Slot _ _ _ _ from ⟨X6.blk⟩)) rfl ?_
    have hh := natO_nil v3w
    refine ⟨none, 0, 0, ?_, ?_, by omega, BB⟩
    · refine Eq.trans (b := .returned (.tuple #[.agg #[.slice none 0 0], .int .i64 101])) (by kernel_rfl) ?_
      rw [show isE T x0 t = 101 by simp only [isE]; (repeat' split) <;> first | rfl | (exfalso; omega)]
    · rw [show isV T x0 t = 0 by simp only [isV]; (repeat' split) <;> first | rfl | omega | (exfalso; omega)]
      exact hh
  · skip
    refine wl_eq (some 14) (.bool ((t : Int) == 0)) (.bool false) (congrArg Value.bool (beq_eq_false_iff_ne.2 cc1)) rfl rfl (by kernel_rfl) ?_
    refine wl_nil ?_
    refine wp_then ?_
    refine wp_frame (a' := ⟨#[(.int .u64 T), (.agg #[.slice a0 n0 c0]), (.int .u64 t), ud, (.pointer (some ⟨g1v, 0, none⟩)), ud, (.pointer (some ⟨g2v, 0, none⟩)), (.int .i64 0), ud, ud, ud, ud, ud, (.int .u64 t), (.bool false), ud, ud, ud, ud, ud, ud, ud, ud, ud, ud, ud, ud, ud, ud, ud, ud, ud, ud, ud, ud, ud, ud, ud, ud, ud, ud, ud, ud, ud, ud, ud, ud, ud, ud, ud, ud, ud], []⟩) (by kernel_rfl) ?_
    refine wp_cond_false (by kernel_rfl) ?_
    refine wp_skip_then ?_
    refine wp_seq ?_
    refine wp_seq ?_
    refine wl_start ?_
    refine wl_take (some 16) (.agg #[.slice a0 n0 c0]) rfl rfl (run_lp 4 (by kernel_rfl) (by kernel_rfl) (ldx26 (X4.cell (i := 0) rfl))) ?_
    by_cases cc2 : x0 = 0
    · skip
      refine wl_call (some 17) 25 #[.agg #[.slice a0 n0 c0]] rfl rfl (by kernel_rfl) (zeroE h0 (by omega) true (decide_eq_true cc2)) ?_
      rintro e1 v4w ⟨rfl, B⟩
      refine ⟨_, rfl, ?_⟩
      replace h0 := h0.keep B
      replace X4 := X4.keep B
      replace X6 := X6.keep B
      replace BB := joinB BB B
      clear B
      refine wl_nil ?_
      refine wp_then ?_
      refine wp_frame (a' := ⟨#[(.int .u64 T), (.agg #[.slice a0 n0 c0]), (.int .u64 t), ud, (.pointer (some ⟨g1v, 0, none⟩)), ud, (.pointer (some ⟨g2v, 0, none⟩)), (.int .i64 0), ud, ud, ud, ud, ud, (.int .u64 t), (.bool false), ud, (.agg #[.slice a0 n0 c0]), (.bool true), ud, ud, ud, ud, ud, ud, ud, ud, ud, ud, ud, ud, ud, ud, ud, ud, ud, ud, ud, ud, ud, ud, ud, ud, ud, ud, ud, ud, ud, ud, ud, ud, ud, ud], []⟩) (by kernel_rfl) ?_
      refine wp_cond_true (by kernel_rfl) ?_
      refine wp_seq ?_
      refine wl_start ?_
      refine wl_take (some 18) (.int .u64 t) rfl rfl (by kernel_rfl) ?_
      refine wl_call (some 19) 26 #[.int .u64 t] rfl rfl (by kernel_rfl) (eOf (x := t) ht.1 ht.2) ?_
      rintro e1 v5w ⟨Az3, Nz3, Cz3, rfl, Oz3, Kz3, B⟩
      refine ⟨_, rfl, ?_⟩
      replace h0 := h0.keep B
      replace X4 := X4.keep B
      replace X6 := X6.keep B
      replace BB := joinB BB B
      clear B
      refine wl_set' 6 19 26 (i := 0) (.slice none 0 0) (.slice Az3 Nz3 Cz3) X6 rfl rfl rfl rfl (by kernel_rfl) (by kernel_rfl) storex26 ?_
      intro v6w hv6w
      replace BB := BB.setCell (p := ⟨g2v, 0, none⟩) (show w.heap.size ≤ g2v by omega) (.slice Az3 Nz3 Cz3)
      replace h0 := h0.put (show Slot _ _ _ _ from ⟨X6.blk⟩) not_int (.slice Az3 Nz3 Cz3)
      replace X4 := X4.off (g' := g2v) (by omega) (i := 0) (.slice Az3 Nz3 Cz3)
      replace Oz3 := Oz3.put (show Slot _ _ _ _ from ⟨X6.blk⟩) not_int (.slice Az3 Nz3 Cz3)
      replace X6 := X6.setCell (i := 0) (.slice Az3 Nz3 Cz3)
      rw [hv6w] at BB h0 X4 X6 Oz3
      clear hv6w
      refine wl_take (some 7) (.int .i64 0) rfl rfl (by kernel_rfl) ?_
      refine wl_nil ?_
      refine wp_then ?_
      refine wp_frame (a' := ⟨#[(.int .u64 T), (.agg #[.slice a0 n0 c0]), (.int .u64 t), ud, (.pointer (some ⟨g1v, 0, none⟩)), ud, (.pointer (some ⟨g2v, 0, none⟩)), (.int .i64 0), ud, ud, ud, ud, ud, (.int .u64 t), (.bool false), ud, (.agg #[.slice a0 n0 c0]), (.bool true), (.int .u64 t), (.agg #[.slice Az3 Nz3 Cz3]), ud, ud, ud, ud, ud, ud, ud, ud, ud, ud, ud, ud, ud, ud, ud, ud, ud, ud, ud, ud, ud, ud, ud, ud, ud, ud, ud, ud, ud, ud, ud, ud], []⟩) (by kernel_rfl) ?_
      refine wp_ret ?_
      repeat (first | refine ret_then ?_ | refine ret_block ?_)
      refine bodyPost_ret (ret_dec_tmp rfl rfl rfl (show Slot _ _ _ _ from ⟨X6.blk⟩)) rfl ?_
      have hh := Oz3
      refine ⟨Az3, Nz3, Cz3, ?_, ?_, by omega, BB⟩
      · refine Eq.trans (b := .returned (.tuple #[.agg #[.slice Az3 Nz3 Cz3], .int .i64 0])) (by kernel_rfl) ?_
        rw [show isE T x0 t = 0 by simp only [isE]; (repeat' split) <;> first | rfl | (exfalso; omega)]
      · rw [show isV T x0 t = (t * U36) by simp only [isV]; (repeat' split) <;> first | rfl | omega | (exfalso; omega)]
        exact hh
    · skip
      refine wl_call (some 17) 25 #[.agg #[.slice a0 n0 c0]] rfl rfl (by kernel_rfl) (zeroE h0 (by omega) false (decide_eq_false cc2)) ?_
      rintro e1 v7w ⟨rfl, B⟩
      refine ⟨_, rfl, ?_⟩
      replace h0 := h0.keep B
      replace X4 := X4.keep B
      replace X6 := X6.keep B
      replace BB := joinB BB B
      clear B
      refine wl_nil ?_
      refine wp_then ?_
      refine wp_frame (a' := ⟨#[(.int .u64 T), (.agg #[.slice a0 n0 c0]), (.int .u64 t), ud, (.pointer (some ⟨g1v, 0, none⟩)), ud, (.pointer (some ⟨g2v, 0, none⟩)), (.int .i64 0), ud, ud, ud, ud, ud, (.int .u64 t), (.bool false), ud, (.agg #[.slice a0 n0 c0]), (.bool false), ud, ud, ud, ud, ud, ud, ud, ud, ud, ud, ud, ud, ud, ud, ud, ud, ud, ud, ud, ud, ud, ud, ud, ud, ud, ud, ud, ud, ud, ud, ud, ud, ud, ud], []⟩) (by kernel_rfl) ?_
      refine wp_cond_false (by kernel_rfl) ?_
      refine wp_skip_then ?_
      refine wp_seq ?_
      refine wp_seq ?_
      refine wl_start ?_
      refine wl_take (some 20) (.int .u64 T) rfl rfl (by kernel_rfl) ?_
      by_cases cc4 : T = 0
      · skip
        refine wl_eq (some 21) (.bool ((T : Int) == 0)) (.bool true) (congrArg Value.bool (beq_iff_eq.2 cc4)) rfl rfl (by kernel_rfl) ?_
        refine wl_nil ?_
        refine wp_then ?_
        refine wp_frame (a' := ⟨#[(.int .u64 T), (.agg #[.slice a0 n0 c0]), (.int .u64 t), ud, (.pointer (some ⟨g1v, 0, none⟩)), ud, (.pointer (some ⟨g2v, 0, none⟩)), (.int .i64 0), ud, ud, ud, ud, ud, (.int .u64 t), (.bool false), ud, (.agg #[.slice a0 n0 c0]), (.bool false), ud, ud, (.int .u64 T), (.bool true), ud, ud, ud, ud, ud, ud, ud, ud, ud, ud, ud, ud, ud, ud, ud, ud, ud, ud, ud, ud, ud, ud, ud, ud, ud, ud, ud, ud, ud, ud], []⟩) (by kernel_rfl) ?_
        refine wp_cond_true (by kernel_rfl) ?_
        refine wp_seq ?_
        refine wl_start ?_
        refine wl_take (some 22) (.agg #[.slice none 0 0]) rfl rfl (by kernel_rfl) ?_
        refine wl_set' 6 22 26 (i := 0) (.slice none 0 0) (.slice none 0 0) X6 rfl rfl rfl rfl (by kernel_rfl) (by kernel_rfl) storex26 ?_
        intro v8w hv8w
        replace BB := BB.setCell (p := ⟨g2v, 0, none⟩) (show w.heap.size ≤ g2v by omega) (.slice none 0 0)
        replace h0 := h0.put (show Slot _ _ _ _ from ⟨X6.blk⟩) not_int (.slice none 0 0)
        replace X4 := X4.off (g' := g2v) (by omega) (i := 0) (.slice none 0 0)
        replace X6 := X6.setCell (i := 0) (.slice none 0 0)
        rw [hv8w] at BB h0 X4 X6
        clear hv8w
        refine wl_take (some 7) (.int .i64 100) rfl rfl (by kernel_rfl) ?_
        refine wl_nil ?_
        refine wp_then ?_
        refine wp_frame (a' := ⟨#[(.int .u64 T), (.agg #[.slice a0 n0 c0]), (.int .u64 t), ud, (.pointer (some ⟨g1v, 0, none⟩)), ud, (.pointer (some ⟨g2v, 0, none⟩)), (.int .i64 100), ud, ud, ud, ud, ud, (.int .u64 t), (.bool false), ud, (.agg #[.slice a0 n0 c0]), (.bool false), ud, ud, (.int .u64 T), (.bool true), (.agg #[.slice none 0 0]), ud, ud, ud, ud, ud, ud, ud, ud, ud, ud, ud, ud, ud, ud, ud, ud, ud, ud, ud, ud, ud, ud, ud, ud, ud, ud, ud, ud, ud], []⟩) (by kernel_rfl) ?_
        refine wp_ret ?_
        repeat (first | refine ret_then ?_ | refine ret_block ?_)
        refine bodyPost_ret (ret_dec_tmp rfl rfl rfl (show Slot _ _ _ _ from ⟨X6.blk⟩)) rfl ?_
        have hh := natO_nil v8w
        refine ⟨none, 0, 0, ?_, ?_, by omega, BB⟩
        · refine Eq.trans (b := .returned (.tuple #[.agg #[.slice none 0 0], .int .i64 100])) (by kernel_rfl) ?_
          rw [show isE T x0 t = 100 by simp only [isE]; (repeat' split) <;> first | rfl | (exfalso; omega)]
        · rw [show isV T x0 t = 0 by simp only [isV]; (repeat' split) <;> first | rfl | omega | (exfalso; omega)]
          exact hh
      · skip
        refine wl_eq (some 21) (.bool ((T : Int) == 0)) (.bool false) (congrArg Value.bool (beq_eq_false_iff_ne.2 cc4)) rfl rfl (by kernel_rfl) ?_
        refine wl_nil ?_
        refine wp_then ?_
        refine wp_frame (a' := ⟨#[(.int .u64 T), (.agg #[.slice a0 n0 c0]), (.int .u64 t), ud, (.pointer (some ⟨g1v, 0, none⟩)), ud, (.pointer (some ⟨g2v, 0, none⟩)), (.int .i64 0), ud, ud, ud, ud, ud, (.int .u64 t), (.bool false), ud, (.agg #[.slice a0 n0 c0]), (.bool false), ud, ud, (.int .u64 T), (.bool false), ud, ud, ud, ud, ud, ud, ud, ud, ud, ud, ud, ud, ud, ud, ud, ud, ud, ud, ud, ud, ud, ud, ud, ud, ud, ud, ud, ud, ud, ud], []⟩) (by kernel_rfl) ?_
        refine wp_cond_false (by kernel_rfl) ?_
        refine wp_skip_then ?_
        refine wp_seq ?_
        refine rg_start (S := fun w' => Below v7w.drew.heap.size v7w.drew w') (by kernel_rfl) (Below.refl _ _) ?_
        replace h0 := h0.drew
        replace X4 := X4.drew
        replace X6 := X6.drew
        replace BB := BB.drew
        have hS := Below.refl v7w.drew.heap.size v7w.drew
        have UX4 := X4
        have UX6 := X6
        refine rg_take 0 (some 24) (.pointer (some ⟨g1v, 0, none⟩)) (by kernel_rfl) (fun _ _ => by kernel_rfl) (fun _ _ _ h => h) hS ?_
        refine rg_load 1 (some 25) (.slice a0 n0 c0) 24 24 (g1v) 0 (by kernel_rfl) (by kernel_rfl) (by kernel_rfl) (fun _ hb => ldx24 ((UX4.keep hb).cell (i := 0) rfl)) (fun _ _ _ h => h) hS ?_
        refine rg_take 2 (some 26) (.int .u64 t) (by kernel_rfl) (fun _ _ => by kernel_rfl) (fun _ _ _ h => h) hS ?_
        refine rg_take 4 (some 28) (.int .u64 T) (by kernel_rfl) (fun _ _ => by kernel_rfl) (fun _ _ _ h => h) hS ?_
        refine rg_call 3 (some 27) 28 #[.int .u64 t] (by kernel_rfl) (by kernel_rfl) (rOf (x := t) ht.1 ht.2) ?_
        rintro e1 v9w ⟨Az5, Nz5, Cz5, rfl, Oz5, Kz5, B⟩
        refine ⟨_, rfl, joinB hS B, ?_⟩
        replace hS := joinB hS B
        replace h0 := h0.keep B
        replace X4 := X4.keep B
        replace X6 := X6.keep B
        replace BB := joinB BB B
        clear B
        refine rg_call 5 (some 29) 28 #[.int .u64 T] (by kernel_rfl) (by kernel_rfl) (rOf (x := T) hT.1 hT.2) ?_
        rintro e1 v10w ⟨Az6, Nz6, Cz6, rfl, Oz6, Kz6, B⟩
        refine ⟨_, rfl, joinB hS B, ?_⟩
        replace hS := joinB hS B
        replace h0 := h0.keep B
        replace X4 := X4.keep B
        replace X6 := X6.keep B
        replace Oz5 := Oz5.keep B
        replace BB := joinB BB B
        clear B
        refine rg_call 6 (some 30) 27 #[.slice a0 n0 c0, .slice Az5 Nz5 Cz5, .slice Az6 Nz6 Cz6] (by kernel_rfl) (by kernel_rfl) (rMulDivV h0 Oz5.a Oz6.a (by omega) (by omega) (by omega)) ?_
        rintro e1 v11w ⟨Az7, Nz7, Cz7, Az8, Nz8, Cz8, rfl, Oz7, Oz8, Kz7, Kz8, B⟩
        refine ⟨_, rfl, joinB hS B, ?_⟩
        replace hS := joinB hS B
        replace h0 := h0.keep B
        replace X4 := X4.keep B
        replace X6 := X6.keep B
        replace Oz5 := Oz5.keep B
        replace Oz6 := Oz6.keep B
        replace BB := joinB BB B
        clear B
        have lnz7 := natO_zero Oz7
        have lnz8 := natO_zero Oz8
        refine rg_take 7 (some 23) (.tuple #[.slice Az7 Nz7 Cz7, .slice Az8 Nz8 Cz8, .int .i64 (divE T)]) (by kernel_rfl) (fun _ _ => by kernel_rfl) (fun _ _ _ h => h) hS ?_
        refine rg_take 8 (some 31) (.slice Az7 Nz7 Cz7) (by kernel_rfl) (fun _ _ => by kernel_rfl) (fun _ _ _ h => h) hS ?_
        refine rg_take 9 (some 32) (.slice Az8 Nz8 Cz8) (by kernel_rfl) (fun _ _ => by kernel_rfl) (fun _ _ _ h => h) hS ?_
        refine rg_take 10 (some 33) (.int .i64 (divE T)) (by kernel_rfl) (fun _ _ => by kernel_rfl) (fun _ _ _ h => h) hS ?_
        refine rg_take 11 (some 8) (.slice Az7 Nz7 Cz7) (by kernel_rfl) (fun _ _ => by kernel_rfl) (fun _ _ _ h => h) hS ?_
        refine rg_take 12 (some 9) (.slice Az8 Nz8 Cz8) (by kernel_rfl) (fun _ _ => by kernel_rfl) (fun _ _ _ h => h) hS ?_
        refine rg_take 13 (some 10) (.int .i64 (divE T)) (by kernel_rfl) (fun _ _ => by kernel_rfl) (fun _ _ _ h => h) hS ?_
        refine rg_done (by kernel_rfl) ?_
        clear hS UX4 UX6
        refine wp_then ?_
        refine wp_frame (a' := ⟨#[(.int .u64 T), (.agg #[.slice a0 n0 c0]), (.int .u64 t), ud, (.pointer (some ⟨g1v, 0, none⟩)), ud, (.pointer (some ⟨g2v, 0, none⟩)), (.int .i64 0), (.slice Az7 Nz7 Cz7), (.slice Az8 Nz8 Cz8), (.int .i64 (divE T)), ud, ud, (.int .u64 t), (.bool false), ud, (.agg #[.slice a0 n0 c0]), (.bool false), ud, ud, (.int .u64 T), (.bool false), ud, (.tuple #[.slice Az7 Nz7 Cz7, .slice Az8 Nz8 Cz8, .int .i64 (divE T)]), (.pointer (some ⟨g1v, 0, none⟩)), (.slice a0 n0 c0), (.int .u64 t), (.slice Az5 Nz5 Cz5), (.int .u64 T), (.slice Az6 Nz6 Cz6), (.tuple #[.slice Az7 Nz7 Cz7, .slice Az8 Nz8 Cz8, .int .i64 (divE T)]), (.slice Az7 Nz7 Cz7), (.slice Az8 Nz8 Cz8), (.int .i64 (divE T)), ud, ud, ud, ud, ud, ud, ud, ud, ud, ud, ud, ud, ud, ud, ud, ud, ud, ud], []⟩) (by kernel_rfl) ?_
        refine wp_seq ?_
        refine wp_seq ?_
        refine wl_start ?_
        refine wl_take (some 34) (.slice Az7 Nz7 Cz7) rfl rfl (by kernel_rfl) ?_
        refine wl_take (some 35) (.int .i64 Nz7) rfl rfl (by kernel_rfl) ?_
        by_cases cc9 : (Nz7 : Int) = 0
        · skip
          refine wl_eq (some 36) (.bool (((Nz7 : Int) : Int) == 0)) (.bool true) (congrArg Value.bool (beq_iff_eq.2 cc9)) rfl rfl (by kernel_rfl) ?_
          refine wl_nil ?_
          refine wp_then ?_
          refine wp_frame (a' := ⟨#[(.int .u64 T), (.agg #[.slice a0 n0 c0]), (.int .u64 t), ud, (.pointer (some ⟨g1v, 0, none⟩)), ud, (.pointer (some ⟨g2v, 0, none⟩)), (.int .i64 0), (.slice Az7 Nz7 Cz7), (.slice Az8 Nz8 Cz8), (.int .i64 (divE T)), ud, ud, (.int .u64 t), (.bool false), ud, (.agg #[.slice a0 n0 c0]), (.bool false), ud, ud, (.int .u64 T), (.bool false), ud, (.tuple #[.slice Az7 Nz7 Cz7, .slice Az8 Nz8 Cz8, .int .i64 (divE T)]), (.pointer (some ⟨g1v, 0, none⟩)), (.slice a0 n0 c0), (.int .u64 t), (.slice Az5 Nz5 Cz5), (.int .u64 T), (.slice Az6 Nz6 Cz6), (.tuple #[.slice Az7 Nz7 Cz7, .slice Az8 Nz8 Cz8, .int .i64 (divE T)]), (.slice Az7 Nz7 Cz7), (.slice Az8 Nz8 Cz8), (.int .i64 (divE T)), (.slice Az7 Nz7 Cz7), (.int .i64 Nz7), (.bool true), ud, ud, ud, ud, ud, ud, ud, ud, ud, ud, ud, ud, ud, ud, ud], []⟩) (by kernel_rfl) ?_
          refine wp_cond_true (by kernel_rfl) ?_
          refine wp_seq ?_
          refine wl_start ?_
          refine wl_take (some 37) (.agg #[.slice none 0 0]) rfl rfl (by kernel_rfl) ?_
          refine wl_set' 6 37 26 (i := 0) (.slice none 0 0) (.slice none 0 0) X6 rfl rfl rfl rfl (by kernel_rfl) (by kernel_rfl) storex26 ?_
          intro v12w hv12w
          replace BB := BB.setCell (p := ⟨g2v, 0, none⟩) (show w.heap.size ≤ g2v by omega) (.slice none 0 0)
          replace h0 := h0.put (show Slot _ _ _ _ from ⟨X6.blk⟩) not_int (.slice none 0 0)
          replace X4 := X4.off (g' := g2v) (by omega) (i := 0) (.slice none 0 0)
          replace Oz5 := Oz5.put (show Slot _ _ _ _ from ⟨X6.blk⟩) not_int (.slice none 0 0)
          replace Oz6 := Oz6.put (show Slot _ _ _ _ from ⟨X6.blk⟩) not_int (.slice none 0 0)
          replace Oz7 := Oz7.put (show Slot _ _ _ _ from ⟨X6.blk⟩) not_int (.slice none 0 0)
          replace Oz8 := Oz8.put (show Slot _ _ _ _ from ⟨X6.blk⟩) not_int (.slice none 0 0)
          replace X6 := X6.setCell (i := 0) (.slice none 0 0)
          rw [hv12w] at BB h0 X4 X6 Oz5 Oz6 Oz7 Oz8
          clear hv12w
          refine wl_take (some 7) (.int .i64 101) rfl rfl (by kernel_rfl) ?_
          refine wl_nil ?_
          refine wp_then ?_
          refine wp_frame (a' := ⟨#[(.int .u64 T), (.agg #[.slice a0 n0 c0]), (.int .u64 t), ud, (.pointer (some ⟨g1v, 0, none⟩)), ud, (.pointer (some ⟨g2v, 0, none⟩)), (.int .i64 101), (.slice Az7 Nz7 Cz7), (.slice Az8 Nz8 Cz8), (.int .i64 (divE T)), ud, ud, (.int .u64 t), (.bool false), ud, (.agg #[.slice a0 n0 c0]), (.bool false), ud, ud, (.int .u64 T), (.bool false), ud, (.tuple #[.slice Az7 Nz7 Cz7, .slice Az8 Nz8 Cz8, .int .i64 (divE T)]), (.pointer (some ⟨g1v, 0, none⟩)), (.slice a0 n0 c0), (.int .u64 t), (.slice Az5 Nz5 Cz5), (.int .u64 T), (.slice Az6 Nz6 Cz6), (.tuple #[.slice Az7 Nz7 Cz7, .slice Az8 Nz8 Cz8, .int .i64 (divE T)]), (.slice Az7 Nz7 Cz7), (.slice Az8 Nz8 Cz8), (.int .i64 (divE T)), (.slice Az7 Nz7 Cz7), (.int .i64 Nz7), (.bool true), (.agg #[.slice none 0 0]), ud, ud, ud, ud, ud, ud, ud, ud, ud, ud, ud, ud, ud, ud], []⟩) (by kernel_rfl) ?_
          refine wp_ret ?_
          repeat (first | refine ret_then ?_ | refine ret_block ?_)
          refine bodyPost_ret (ret_dec_tmp rfl rfl rfl (show Slot _ _ _ _ from ⟨X6.blk⟩)) rfl ?_
          have hh := natO_nil v12w
          refine ⟨none, 0, 0, ?_, ?_, by omega, BB⟩
          · refine Eq.trans (b := .returned (.tuple #[.agg #[.slice none 0 0], .int .i64 101])) (by kernel_rfl) ?_
            rw [show isE T x0 t = 101 by simp only [isE]; (repeat' split) <;> first | rfl | (exfalso; omega)]
          · rw [show isV T x0 t = 0 by simp only [isV]; (repeat' split) <;> first | rfl | omega | (exfalso; omega)]
            exact hh
        · skip
          refine wl_eq (some 36) (.bool (((Nz7 : Int) : Int) == 0)) (.bool false) (congrArg Value.bool (beq_eq_false_iff_ne.2 cc9)) rfl rfl (by kernel_rfl) ?_
          refine wl_nil ?_
          refine wp_then ?_
          refine wp_frame (a' := ⟨#[(.int .u64 T), (.agg #[.slice a0 n0 c0]), (.int .u64 t), ud, (.pointer (some ⟨g1v, 0, none⟩)), ud, (.pointer (some ⟨g2v, 0, none⟩)), (.int .i64 0), (.slice Az7 Nz7 Cz7), (.slice Az8 Nz8 Cz8), (.int .i64 (divE T)), ud, ud, (.int .u64 t), (.bool false), ud, (.agg #[.slice a0 n0 c0]), (.bool false), ud, ud, (.int .u64 T), (.bool false), ud, (.tuple #[.slice Az7 Nz7 Cz7, .slice Az8 Nz8 Cz8, .int .i64 (divE T)]), (.pointer (some ⟨g1v, 0, none⟩)), (.slice a0 n0 c0), (.int .u64 t), (.slice Az5 Nz5 Cz5), (.int .u64 T), (.slice Az6 Nz6 Cz6), (.tuple #[.slice Az7 Nz7 Cz7, .slice Az8 Nz8 Cz8, .int .i64 (divE T)]), (.slice Az7 Nz7 Cz7), (.slice Az8 Nz8 Cz8), (.int .i64 (divE T)), (.slice Az7 Nz7 Cz7), (.int .i64 Nz7), (.bool false), ud, ud, ud, ud, ud, ud, ud, ud, ud, ud, ud, ud, ud, ud, ud], []⟩) (by kernel_rfl) ?_
          refine wp_cond_false (by kernel_rfl) ?_
          refine wp_skip_then ?_
          refine wp_seq ?_
          refine wl_start ?_
          refine wl_call (some 39) 29 #[.int .i64 90] rfl rfl (by kernel_rfl) (pow90) ?_
          rintro e1 v13w ⟨Az10, Nz10, Cz10, rfl, Oz10, Kz10, B⟩
          refine ⟨_, rfl, ?_⟩
          replace h0 := h0.keep B
          replace X4 := X4.keep B
          replace X6 := X6.keep B
          replace Oz5 := Oz5.keep B
          replace Oz6 := Oz6.keep B
          replace Oz7 := Oz7.keep B
          replace Oz8 := Oz8.keep B
          replace BB := joinB BB B
          clear B
          refine wl_take (some 38) (.tuple #[.slice Az10 Nz10 Cz10, .int .i64 0]) rfl rfl (by kernel_rfl) ?_
          refine wl_take (some 40) (.slice Az10 Nz10 Cz10) rfl rfl (by kernel_rfl) ?_
          refine wl_take (some 41) (.int .i64 0) rfl rfl (by kernel_rfl) ?_
          refine wl_take (some 11) (.slice Az10 Nz10 Cz10) rfl rfl (by kernel_rfl) ?_
          refine wl_take (some 12) (.int .i64 0) rfl rfl (by kernel_rfl) ?_
          refine wl_nil ?_
          refine wp_then ?_
          refine wp_frame (a' := ⟨#[(.int .u64 T), (.agg #[.slice a0 n0 c0]), (.int .u64 t), ud, (.pointer (some ⟨g1v, 0, none⟩)), ud, (.pointer (some ⟨g2v, 0, none⟩)), (.int .i64 0), (.slice Az7 Nz7 Cz7), (.slice Az8 Nz8 Cz8), (.int .i64 (divE T)), (.slice Az10 Nz10 Cz10), (.int .i64 0), (.int .u64 t), (.bool false), ud, (.agg #[.slice a0 n0 c0]), (.bool false), ud, ud, (.int .u64 T), (.bool false), ud, (.tuple #[.slice Az7 Nz7 Cz7, .slice Az8 Nz8 Cz8, .int .i64 (divE T)]), (.pointer (some ⟨g1v, 0, none⟩)), (.slice a0 n0 c0), (.int .u64 t), (.slice Az5 Nz5 Cz5), (.int .u64 T), (.slice Az6 Nz6 Cz6), (.tuple #[.slice Az7 Nz7 Cz7, .slice Az8 Nz8 Cz8, .int .i64 (divE T)]), (.slice Az7 Nz7 Cz7), (.slice Az8 Nz8 Cz8), (.int .i64 (divE T)), (.slice Az7 Nz7 Cz7), (.int .i64 Nz7), (.bool false), ud, (.tuple #[.slice Az10 Nz10 Cz10, .int .i64 0]), (.tuple #[.slice Az10 Nz10 Cz10, .int .i64 0]), (.slice Az10 Nz10 Cz10), (.int .i64 0), ud, ud, ud, ud, ud, ud, ud, ud, ud, ud], []⟩) (by kernel_rfl) ?_
          refine wp_seq ?_
          refine wp_seq ?_
          refine wl_start ?_
          refine wl_take (some 42) (.pointer (some ⟨g1v, 0, none⟩)) rfl rfl (by kernel_rfl) ?_
          refine wl_take (some 43) (.slice a0 n0 c0) rfl rfl (run_lp 42 (by kernel_rfl) (by kernel_rfl) (ldx24 (X4.cell (i := 0) rfl))) ?_
          refine wl_take (some 44) (.slice Az7 Nz7 Cz7) rfl rfl (by kernel_rfl) ?_
          refine wl_call (some 45) 31 #[.slice a0 n0 c0, .slice Az7 Nz7 Cz7] rfl rfl (by kernel_rfl) (rAdd h0 Oz7.a (by omega) (by omega)) ?_
          rintro e1 v14w ⟨Az11, Nz11, Cz11, rfl, Oz11, Kz11, B⟩
          refine ⟨_, rfl, ?_⟩
          replace h0 := h0.keep B
          replace X4 := X4.keep B
          replace X6 := X6.keep B
          replace Oz5 := Oz5.keep B
          replace Oz6 := Oz6.keep B
          replace Oz7 := Oz7.keep B
          replace Oz8 := Oz8.keep B
          replace Oz10 := Oz10.keep B
          replace BB := joinB BB B
          clear B
          refine wl_take (some 46) (.slice Az10 Nz10 Cz10) rfl rfl (by kernel_rfl) ?_
          by_cases cc12 : (x0 + (x0 * t / T)) < (10 ^ 90)
          · skip
            refine wl_call (some 47) 30 #[.slice Az11 Nz11 Cz11, .slice Az10 Nz10 Cz10] rfl rfl (by kernel_rfl) (cmpR Oz11.a Oz10.a (by omega) (by omega) (-1) (sgn_lt cc12)) ?_
            rintro e1 v15w ⟨rfl, B⟩
            refine ⟨_, rfl, ?_⟩
            replace h0 := h0.keep B
            replace X4 := X4.keep B
            replace X6 := X6.keep B
            replace Oz5 := Oz5.keep B
            replace Oz6 := Oz6.keep B
            replace Oz7 := Oz7.keep B
            replace Oz8 := Oz8.keep B
            replace Oz10 := Oz10.keep B
            replace Oz11 := Oz11.keep B
            replace BB := joinB BB B
            clear B
            refine wl_take (some 48) (.bool false) rfl rfl (by kernel_rfl) ?_
            refine wl_nil ?_
            refine wp_then ?_
            refine wp_frame (a' := ⟨#[(.int .u64 T), (.agg #[.slice a0 n0 c0]), (.int .u64 t), ud, (.pointer (some ⟨g1v, 0, none⟩)), ud, (.pointer (some ⟨g2v, 0, none⟩)), (.int .i64 0), (.slice Az7 Nz7 Cz7), (.slice Az8 Nz8 Cz8), (.int .i64 (divE T)), (.slice Az10 Nz10 Cz10), (.int .i64 0), (.int .u64 t), (.bool false), ud, (.agg #[.slice a0 n0 c0]), (.bool false), ud, ud, (.int .u64 T), (.bool false), ud, (.tuple #[.slice Az7 Nz7 Cz7, .slice Az8 Nz8 Cz8, .int .i64 (divE T)]), (.pointer (some ⟨g1v, 0, none⟩)), (.slice a0 n0 c0), (.int .u64 t), (.slice Az5 Nz5 Cz5), (.int .u64 T), (.slice Az6 Nz6 Cz6), (.tuple #[.slice Az7 Nz7 Cz7, .slice Az8 Nz8 Cz8, .int .i64 (divE T)]), (.slice Az7 Nz7 Cz7), (.slice Az8 Nz8 Cz8), (.int .i64 (divE T)), (.slice Az7 Nz7 Cz7), (.int .i64 Nz7), (.bool false), ud, (.tuple #[.slice Az10 Nz10 Cz10, .int .i64 0]), (.tuple #[.slice Az10 Nz10 Cz10, .int .i64 0]), (.slice Az10 Nz10 Cz10), (.int .i64 0), (.pointer (some ⟨g1v, 0, none⟩)), (.slice a0 n0 c0), (.slice Az7 Nz7 Cz7), (.slice Az11 Nz11 Cz11), (.slice Az10 Nz10 Cz10), (.int .i64 (-1)), (.bool false), ud, ud, ud], []⟩) (by kernel_rfl) ?_
            refine wp_cond_false (by kernel_rfl) ?_
            refine wp_skip_then ?_
            refine wp_seq ?_
            refine wl_start ?_
            refine wl_take (some 50) (.slice Az7 Nz7 Cz7) rfl rfl (by kernel_rfl) ?_
            refine wl_take (some 51) (.agg #[.slice Az7 Nz7 Cz7]) rfl rfl (by kernel_rfl) ?_
            refine wl_set' 6 51 26 (i := 0) (.slice none 0 0) (.slice Az7 Nz7 Cz7) X6 rfl rfl rfl rfl (by kernel_rfl) (by kernel_rfl) storex26 ?_
            intro v16w hv16w
            replace BB := BB.setCell (p := ⟨g2v, 0, none⟩) (show w.heap.size ≤ g2v by omega) (.slice Az7 Nz7 Cz7)
            replace h0 := h0.put (show Slot _ _ _ _ from ⟨X6.blk⟩) not_int (.slice Az7 Nz7 Cz7)
            replace X4 := X4.off (g' := g2v) (by omega) (i := 0) (.slice Az7 Nz7 Cz7)
            replace Oz5 := Oz5.put (show Slot _ _ _ _ from ⟨X6.blk⟩) not_int (.slice Az7 Nz7 Cz7)
            replace Oz6 := Oz6.put (show Slot _ _ _ _ from ⟨X6.blk⟩) not_int (.slice Az7 Nz7 Cz7)
            replace Oz7 := Oz7.put (show Slot _ _ _ _ from ⟨X6.blk⟩) not_int (.slice Az7 Nz7 Cz7)
            replace Oz8 := Oz8.put (show Slot _ _ _ _ from ⟨X6.blk⟩) not_int (.slice Az7 Nz7 Cz7)
            replace Oz10 := Oz10.put (show Slot _ _ _ _ from ⟨X6.blk⟩) not_int (.slice Az7 Nz7 Cz7)
            replace Oz11 := Oz11.put (show Slot _ _ _ _ from ⟨X6.blk⟩) not_int (.slice Az7 Nz7 Cz7)
            replace X6 := X6.setCell (i := 0) (.slice Az7 Nz7 Cz7)
            rw [hv16w] at BB h0 X4 X6 Oz5 Oz6 Oz7 Oz8 Oz10 Oz11
            clear hv16w
            refine wl_take (some 7) (.int .i64 0) rfl rfl (by kernel_rfl) ?_
            refine wl_nil ?_
            refine wp_then ?_
            refine wp_frame (a' := ⟨#[(.int .u64 T), (.agg #[.slice a0 n0 c0]), (.int .u64 t), ud, (.pointer (some ⟨g1v, 0, none⟩)), ud, (.pointer (some ⟨g2v, 0, none⟩)), (.int .i64 0), (.slice Az7 Nz7 Cz7), (.slice Az8 Nz8 Cz8), (.int .i64 (divE T)), (.slice Az10 Nz10 Cz10), (.int .i64 0), (.int .u64 t), (.bool false), ud, (.agg #[.slice a0 n0 c0]), (.bool false), ud, ud, (.int .u64 T), (.bool false), ud, (.tuple #[.slice Az7 Nz7 Cz7, .slice Az8 Nz8 Cz8, .int .i64 (divE T)]), (.pointer (some ⟨g1v, 0, none⟩)), (.slice a0 n0 c0), (.int .u64 t), (.slice Az5 Nz5 Cz5), (.int .u64 T), (.slice Az6 Nz6 Cz6), (.tuple #[.slice Az7 Nz7 Cz7, .slice Az8 Nz8 Cz8, .int .i64 (divE T)]), (.slice Az7 Nz7 Cz7), (.slice Az8 Nz8 Cz8), (.int .i64 (divE T)), (.slice Az7 Nz7 Cz7), (.int .i64 Nz7), (.bool false), ud, (.tuple #[.slice Az10 Nz10 Cz10, .int .i64 0]), (.tuple #[.slice Az10 Nz10 Cz10, .int .i64 0]), (.slice Az10 Nz10 Cz10), (.int .i64 0), (.pointer (some ⟨g1v, 0, none⟩)), (.slice a0 n0 c0), (.slice Az7 Nz7 Cz7), (.slice Az11 Nz11 Cz11), (.slice Az10 Nz10 Cz10), (.int .i64 (-1)), (.bool false), ud, (.slice Az7 Nz7 Cz7), (.agg #[.slice Az7 Nz7 Cz7])], []⟩) (by kernel_rfl) ?_
            refine wp_ret ?_
            repeat (first | refine ret_then ?_ | refine ret_block ?_)
            refine bodyPost_ret (ret_dec_tmp rfl rfl rfl (show Slot _ _ _ _ from ⟨X6.blk⟩)) rfl ?_
            have hh := Oz7
            refine ⟨Az7, Nz7, Cz7, ?_, ?_, by omega, BB⟩
            · refine Eq.trans (b := .returned (.tuple #[.agg #[.slice Az7 Nz7 Cz7], .int .i64 0])) (by kernel_rfl) ?_
              rw [show isE T x0 t = 0 by simp only [isE]; (repeat' split) <;> first | rfl | (exfalso; omega)]
            · rw [show isV T x0 t = (x0 * t / T) by simp only [isV]; (repeat' split) <;> first | rfl | omega | (exfalso; omega)]
              exact hh
          · skip
            by_cases cc13 : (x0 + (x0 * t / T)) = (10 ^ 90)
            · skip
              refine wl_call (some 47) 30 #[.slice Az11 Nz11 Cz11, .slice Az10 Nz10 Cz10] rfl rfl (by kernel_rfl) (cmpR Oz11.a Oz10.a (by omega) (by omega) 0 (sgn_eq cc13)) ?_
              rintro e1 v17w ⟨rfl, B⟩
              refine ⟨_, rfl, ?_⟩
              replace h0 := h0.keep B
              replace X4 := X4.keep B
              replace X6 := X6.keep B
              replace Oz5 := Oz5.keep B
              replace Oz6 := Oz6.keep B
              replace Oz7 := Oz7.keep B
              replace Oz8 := Oz8.keep B
              replace Oz10 := Oz10.keep B
              replace Oz11 := Oz11.keep B
              replace BB := joinB BB B
              clear B
              refine wl_take (some 48) (.bool false) rfl rfl (by kernel_rfl) ?_
              refine wl_nil ?_
              refine wp_then ?_
              refine wp_frame (a' := ⟨#[(.int .u64 T), (.agg #[.slice a0 n0 c0]), (.int .u64 t), ud, (.pointer (some ⟨g1v, 0, none⟩)), ud, (.pointer (some ⟨g2v, 0, none⟩)), (.int .i64 0), (.slice Az7 Nz7 Cz7), (.slice Az8 Nz8 Cz8), (.int .i64 (divE T)), (.slice Az10 Nz10 Cz10), (.int .i64 0), (.int .u64 t), (.bool false), ud, (.agg #[.slice a0 n0 c0]), (.bool false), ud, ud, (.int .u64 T), (.bool false), ud, (.tuple #[.slice Az7 Nz7 Cz7, .slice Az8 Nz8 Cz8, .int .i64 (divE T)]), (.pointer (some ⟨g1v, 0, none⟩)), (.slice a0 n0 c0), (.int .u64 t), (.slice Az5 Nz5 Cz5), (.int .u64 T), (.slice Az6 Nz6 Cz6), (.tuple #[.slice Az7 Nz7 Cz7, .slice Az8 Nz8 Cz8, .int .i64 (divE T)]), (.slice Az7 Nz7 Cz7), (.slice Az8 Nz8 Cz8), (.int .i64 (divE T)), (.slice Az7 Nz7 Cz7), (.int .i64 Nz7), (.bool false), ud, (.tuple #[.slice Az10 Nz10 Cz10, .int .i64 0]), (.tuple #[.slice Az10 Nz10 Cz10, .int .i64 0]), (.slice Az10 Nz10 Cz10), (.int .i64 0), (.pointer (some ⟨g1v, 0, none⟩)), (.slice a0 n0 c0), (.slice Az7 Nz7 Cz7), (.slice Az11 Nz11 Cz11), (.slice Az10 Nz10 Cz10), (.int .i64 0), (.bool false), ud, ud, ud], []⟩) (by kernel_rfl) ?_
              refine wp_cond_false (by kernel_rfl) ?_
              refine wp_skip_then ?_
              refine wp_seq ?_
              refine wl_start ?_
              refine wl_take (some 50) (.slice Az7 Nz7 Cz7) rfl rfl (by kernel_rfl) ?_
              refine wl_take (some 51) (.agg #[.slice Az7 Nz7 Cz7]) rfl rfl (by kernel_rfl) ?_
              refine wl_set' 6 51 26 (i := 0) (.slice none 0 0) (.slice Az7 Nz7 Cz7) X6 rfl rfl rfl rfl (by kernel_rfl) (by kernel_rfl) storex26 ?_
              intro v18w hv18w
              replace BB := BB.setCell (p := ⟨g2v, 0, none⟩) (show w.heap.size ≤ g2v by omega) (.slice Az7 Nz7 Cz7)
              replace h0 := h0.put (show Slot _ _ _ _ from ⟨X6.blk⟩) not_int (.slice Az7 Nz7 Cz7)
              replace X4 := X4.off (g' := g2v) (by omega) (i := 0) (.slice Az7 Nz7 Cz7)
              replace Oz5 := Oz5.put (show Slot _ _ _ _ from ⟨X6.blk⟩) not_int (.slice Az7 Nz7 Cz7)
              replace Oz6 := Oz6.put (show Slot _ _ _ _ from ⟨X6.blk⟩) not_int (.slice Az7 Nz7 Cz7)
              replace Oz7 := Oz7.put (show Slot _ _ _ _ from ⟨X6.blk⟩) not_int (.slice Az7 Nz7 Cz7)
              replace Oz8 := Oz8.put (show Slot _ _ _ _ from ⟨X6.blk⟩) not_int (.slice Az7 Nz7 Cz7)
              replace Oz10 := Oz10.put (show Slot _ _ _ _ from ⟨X6.blk⟩) not_int (.slice Az7 Nz7 Cz7)
              replace Oz11 := Oz11.put (show Slot _ _ _ _ from ⟨X6.blk⟩) not_int (.slice Az7 Nz7 Cz7)
              replace X6 := X6.setCell (i := 0) (.slice Az7 Nz7 Cz7)
              rw [hv18w] at BB h0 X4 X6 Oz5 Oz6 Oz7 Oz8 Oz10 Oz11
              clear hv18w
              refine wl_take (some 7) (.int .i64 0) rfl rfl (by kernel_rfl) ?_
              refine wl_nil ?_
              refine wp_then ?_
              refine wp_frame (a' := ⟨#[(.int .u64 T), (.agg #[.slice a0 n0 c0]), (.int .u64 t), ud, (.pointer (some ⟨g1v, 0, none⟩)), ud, (.pointer (some ⟨g2v, 0, none⟩)), (.int .i64 0), (.slice Az7 Nz7 Cz7), (.slice Az8 Nz8 Cz8), (.int .i64 (divE T)), (.slice Az10 Nz10 Cz10), (.int .i64 0), (.int .u64 t), (.bool false), ud, (.agg #[.slice a0 n0 c0]), (.bool false), ud, ud, (.int .u64 T), (.bool false), ud, (.tuple #[.slice Az7 Nz7 Cz7, .slice Az8 Nz8 Cz8, .int .i64 (divE T)]), (.pointer (some ⟨g1v, 0, none⟩)), (.slice a0 n0 c0), (.int .u64 t), (.slice Az5 Nz5 Cz5), (.int .u64 T), (.slice Az6 Nz6 Cz6), (.tuple #[.slice Az7 Nz7 Cz7, .slice Az8 Nz8 Cz8, .int .i64 (divE T)]), (.slice Az7 Nz7 Cz7), (.slice Az8 Nz8 Cz8), (.int .i64 (divE T)), (.slice Az7 Nz7 Cz7), (.int .i64 Nz7), (.bool false), ud, (.tuple #[.slice Az10 Nz10 Cz10, .int .i64 0]), (.tuple #[.slice Az10 Nz10 Cz10, .int .i64 0]), (.slice Az10 Nz10 Cz10), (.int .i64 0), (.pointer (some ⟨g1v, 0, none⟩)), (.slice a0 n0 c0), (.slice Az7 Nz7 Cz7), (.slice Az11 Nz11 Cz11), (.slice Az10 Nz10 Cz10), (.int .i64 0), (.bool false), ud, (.slice Az7 Nz7 Cz7), (.agg #[.slice Az7 Nz7 Cz7])], []⟩) (by kernel_rfl) ?_
              refine wp_ret ?_
              repeat (first | refine ret_then ?_ | refine ret_block ?_)
              refine bodyPost_ret (ret_dec_tmp rfl rfl rfl (show Slot _ _ _ _ from ⟨X6.blk⟩)) rfl ?_
              have hh := Oz7
              refine ⟨Az7, Nz7, Cz7, ?_, ?_, by omega, BB⟩
              · refine Eq.trans (b := .returned (.tuple #[.agg #[.slice Az7 Nz7 Cz7], .int .i64 0])) (by kernel_rfl) ?_
                rw [show isE T x0 t = 0 by simp only [isE]; (repeat' split) <;> first | rfl | (exfalso; omega)]
              · rw [show isV T x0 t = (x0 * t / T) by simp only [isV]; (repeat' split) <;> first | rfl | omega | (exfalso; omega)]
                exact hh
            · skip
              refine wl_call (some 47) 30 #[.slice Az11 Nz11 Cz11, .slice Az10 Nz10 Cz10] rfl rfl (by kernel_rfl) (cmpR Oz11.a Oz10.a (by omega) (by omega) 1 (sgn_gt (lt_of cc12 (fun e => cc13 e.symm)))) ?_
              rintro e1 v19w ⟨rfl, B⟩
              refine ⟨_, rfl, ?_⟩
              replace h0 := h0.keep B
              replace X4 := X4.keep B
              replace X6 := X6.keep B
              replace Oz5 := Oz5.keep B
              replace Oz6 := Oz6.keep B
              replace Oz7 := Oz7.keep B
              replace Oz8 := Oz8.keep B
              replace Oz10 := Oz10.keep B
              replace Oz11 := Oz11.keep B
              replace BB := joinB BB B
              clear B
              refine wl_take (some 48) (.bool true) rfl rfl (by kernel_rfl) ?_
              refine wl_nil ?_
              refine wp_then ?_
              refine wp_frame (a' := ⟨#[(.int .u64 T), (.agg #[.slice a0 n0 c0]), (.int .u64 t), ud, (.pointer (some ⟨g1v, 0, none⟩)), ud, (.pointer (some ⟨g2v, 0, none⟩)), (.int .i64 0), (.slice Az7 Nz7 Cz7), (.slice Az8 Nz8 Cz8), (.int .i64 (divE T)), (.slice Az10 Nz10 Cz10), (.int .i64 0), (.int .u64 t), (.bool false), ud, (.agg #[.slice a0 n0 c0]), (.bool false), ud, ud, (.int .u64 T), (.bool false), ud, (.tuple #[.slice Az7 Nz7 Cz7, .slice Az8 Nz8 Cz8, .int .i64 (divE T)]), (.pointer (some ⟨g1v, 0, none⟩)), (.slice a0 n0 c0), (.int .u64 t), (.slice Az5 Nz5 Cz5), (.int .u64 T), (.slice Az6 Nz6 Cz6), (.tuple #[.slice Az7 Nz7 Cz7, .slice Az8 Nz8 Cz8, .int .i64 (divE T)]), (.slice Az7 Nz7 Cz7), (.slice Az8 Nz8 Cz8), (.int .i64 (divE T)), (.slice Az7 Nz7 Cz7), (.int .i64 Nz7), (.bool false), ud, (.tuple #[.slice Az10 Nz10 Cz10, .int .i64 0]), (.tuple #[.slice Az10 Nz10 Cz10, .int .i64 0]), (.slice Az10 Nz10 Cz10), (.int .i64 0), (.pointer (some ⟨g1v, 0, none⟩)), (.slice a0 n0 c0), (.slice Az7 Nz7 Cz7), (.slice Az11 Nz11 Cz11), (.slice Az10 Nz10 Cz10), (.int .i64 1), (.bool true), ud, ud, ud], []⟩) (by kernel_rfl) ?_
              refine wp_cond_true (by kernel_rfl) ?_
              refine wp_seq ?_
              refine wl_start ?_
              refine wl_take (some 49) (.agg #[.slice none 0 0]) rfl rfl (by kernel_rfl) ?_
              refine wl_set' 6 49 26 (i := 0) (.slice none 0 0) (.slice none 0 0) X6 rfl rfl rfl rfl (by kernel_rfl) (by kernel_rfl) storex26 ?_
              intro v20w hv20w
              replace BB := BB.setCell (p := ⟨g2v, 0, none⟩) (show w.heap.size ≤ g2v by omega) (.slice none 0 0)
              replace h0 := h0.put (show Slot _ _ _ _ from ⟨X6.blk⟩) not_int (.slice none 0 0)
              replace X4 := X4.off (g' := g2v) (by omega) (i := 0) (.slice none 0 0)
              replace Oz5 := Oz5.put (show Slot _ _ _ _ from ⟨X6.blk⟩) not_int (.slice none 0 0)
              replace Oz6 := Oz6.put (show Slot _ _ _ _ from ⟨X6.blk⟩) not_int (.slice none 0 0)
              replace Oz7 := Oz7.put (show Slot _ _ _ _ from ⟨X6.blk⟩) not_int (.slice none 0 0)
              replace Oz8 := Oz8.put (show Slot _ _ _ _ from ⟨X6.blk⟩) not_int (.slice none 0 0)
              replace Oz10 := Oz10.put (show Slot _ _ _ _ from ⟨X6.blk⟩) not_int (.slice none 0 0)
              replace Oz11 := Oz11.put (show Slot _ _ _ _ from ⟨X6.blk⟩) not_int (.slice none 0 0)
              replace X6 := X6.setCell (i := 0) (.slice none 0 0)
              rw [hv20w] at BB h0 X4 X6 Oz5 Oz6 Oz7 Oz8 Oz10 Oz11
              clear hv20w
              refine wl_take (some 7) (.int .i64 103) rfl rfl (by kernel_rfl) ?_
              refine wl_nil ?_
              refine wp_then ?_
              refine wp_frame (a' := ⟨#[(.int .u64 T), (.agg #[.slice a0 n0 c0]), (.int .u64 t), ud, (.pointer (some ⟨g1v, 0, none⟩)), ud, (.pointer (some ⟨g2v, 0, none⟩)), (.int .i64 103), (.slice Az7 Nz7 Cz7), (.slice Az8 Nz8 Cz8), (.int .i64 (divE T)), (.slice Az10 Nz10 Cz10), (.int .i64 0), (.int .u64 t), (.bool false), ud, (.agg #[.slice a0 n0 c0]), (.bool false), ud, ud, (.int .u64 T), (.bool false), ud, (.tuple #[.slice Az7 Nz7 Cz7, .slice Az8 Nz8 Cz8, .int .i64 (divE T)]), (.pointer (some ⟨g1v, 0, none⟩)), (.slice a0 n0 c0), (.int .u64 t), (.slice Az5 Nz5 Cz5), (.int .u64 T), (.slice Az6 Nz6 Cz6), (.tuple #[.slice Az7 Nz7 Cz7, .slice Az8 Nz8 Cz8, .int .i64 (divE T)]), (.slice Az7 Nz7 Cz7), (.slice Az8 Nz8 Cz8), (.int .i64 (divE T)), (.slice Az7 Nz7 Cz7), (.int .i64 Nz7), (.bool false), ud, (.tuple #[.slice Az10 Nz10 Cz10, .int .i64 0]), (.tuple #[.slice Az10 Nz10 Cz10, .int .i64 0]), (.slice Az10 Nz10 Cz10), (.int .i64 0), (.pointer (some ⟨g1v, 0, none⟩)), (.slice a0 n0 c0), (.slice Az7 Nz7 Cz7), (.slice Az11 Nz11 Cz11), (.slice Az10 Nz10 Cz10), (.int .i64 1), (.bool true), (.agg #[.slice none 0 0]), ud, ud], []⟩) (by kernel_rfl) ?_
              refine wp_ret ?_
              repeat (first | refine ret_then ?_ | refine ret_block ?_)
              refine bodyPost_ret (ret_dec_tmp rfl rfl rfl (show Slot _ _ _ _ from ⟨X6.blk⟩)) rfl ?_
              have hh := natO_nil v20w
              refine ⟨none, 0, 0, ?_, ?_, by omega, BB⟩
              · refine Eq.trans (b := .returned (.tuple #[.agg #[.slice none 0 0], .int .i64 103])) (by kernel_rfl) ?_
                rw [show isE T x0 t = 103 by simp only [isE]; (repeat' split) <;> first | rfl | (exfalso; omega)]
              · rw [show isV T x0 t = 0 by simp only [isV]; (repeat' split) <;> first | rfl | omega | (exfalso; omega)]
                exact hh
set_option maxHeartbeats 2000000 in
set_option maxRecDepth 100000 in
theorem tRedeem {w : World} {T : Int} {a0 a1 : Option Addr} {n0 c0 n1 c1 : Nat} {x0 x1 : Int} (hT : 0 ≤ T ∧ T < 18446744073709551616) (h0 : NatA w a0 n0 c0 x0) (k0 : n0 ≤ 100000) (h1 : NatA w a1 n1 c1 x1) (k1 : n1 ≤ 100000) :
    Calls Tryz.prog 9 #[.int .u64 T, .agg #[.slice a0 n0 c0], .agg #[.slice a1 n1 c1]] w fun e w' => e = .returned (.tuple #[.int .u64 (reV T x0 x1), .int .i64 (reE x0 x1)]) ∧ Below w.heap.size w w' := by
  have BB := Below.refl w.heap.size w
  go_enter Tryz.func9, Tryz.ntmps9
  refine wp_seq ?_
  refine wl_start ?_
  have bs0 := BB.size
  refine wl_box 4 1 26 [.slice a0 n0 c0] rfl rfl rfl (by kernel_rfl) boxx26 ?_
  intro v1w g1v X4 hg1v B
  replace h0 := h0.keep B
  replace h1 := h1.keep B
  replace BB := joinB BB B
  clear B
  have bs1 := BB.size
  refine wl_box 5 2 26 [.slice a1 n1 c1] rfl rfl rfl (by kernel_rfl) boxx26 ?_
  intro v2w g2v X5 hg2v B
  replace h0 := h0.keep B
  replace h1 := h1.keep B
  replace X4 := X4.keep B
  replace BB := joinB BB B
  clear B
  refine wl_take (some 6) (.int .u64 0) rfl rfl (by kernel_rfl) ?_
  refine wl_take (some 7) (.int .i64 0) rfl rfl (by kernel_rfl) ?_
  refine wl_nil ?_
  refine wp_then ?_
  refine wp_frame (a' := ⟨#[(.int .u64 T), (.agg #[.slice a0 n0 c0]), (.agg #[.slice a1 n1 c1]), ud, (.pointer (some ⟨g1v, 0, none⟩)), (.pointer (some ⟨g2v, 0, none⟩)), (.int .u64 0), (.int .i64 0), ud, ud, ud, ud, ud, ud, ud, ud, ud, ud, ud, ud, ud, ud, ud, ud, ud, ud, ud, ud, ud, ud, ud, ud, ud, ud, ud, ud, ud, ud, ud], []⟩) (by kernel_rfl) ?_
  refine wp_seq ?_
  refine wl_start ?_
  refine wl_take (some 14) (.agg #[.slice a1 n1 c1]) rfl rfl (run_lp 5 (by kernel_rfl) (by kernel_rfl) (ldx26 (X5.cell (i := 0) rfl))) ?_
  refine wl_take (some 15) (.agg #[.slice a0 n0 c0]) rfl rfl (run_lp 4 (by kernel_rfl) (by kernel_rfl) (ldx26 (X4.cell (i := 0) rfl))) ?_
  by_cases cc1 : x1 < x0
  · skip
    refine wl_call (some 16) 34 #[.agg #[.slice a1 n1 c1], .agg #[.slice a0 n0 c0]] rfl rfl (by kernel_rfl) (cmpE h1 h0 (by omega) (by omega) (-1) (sgn_lt cc1)) ?_
    rintro e1 v3w ⟨rfl, B⟩
    refine ⟨_, rfl, ?_⟩
    replace h0 := h0.keep B
    replace h1 := h1.keep B
    replace X4 := X4.keep B
    replace X5 := X5.keep B
    replace BB := joinB BB B
    clear B
    refine wl_take (some 8) (.int .i64 (-1)) rfl rfl (by kernel_rfl) ?_
    refine wl_nil ?_
    refine wp_then ?_
    refine wp_frame (a' := ⟨#[(.int .u64 T), (.agg #[.slice a0 n0 c0]), (.agg #[.slice a1 n1 c1]), ud, (.pointer (some ⟨g1v, 0, none⟩)), (.pointer (some ⟨g2v, 0, none⟩)), (.int .u64 0), (.int .i64 0), (.int .i64 (-1)), ud, ud, ud, ud, ud, (.agg #[.slice a1 n1 c1]), (.agg #[.slice a0 n0 c0]), (.int .i64 (-1)), ud, ud, ud, ud, ud, ud, ud, ud, ud, ud, ud, ud, ud, ud, ud, ud, ud, ud, ud, ud, ud, ud], []⟩) (by kernel_rfl) ?_
    refine wp_seq ?_
    refine wp_seq ?_
    refine wl_start ?_
    refine wl_take (some 17) (.int .i64 (-1)) rfl rfl (by kernel_rfl) ?_
    refine wl_take (some 18) (.bool false) rfl rfl (by kernel_rfl) ?_
    refine wl_nil ?_
    refine wp_then ?_
    refine wp_frame (a' := ⟨#[(.int .u64 T), (.agg #[.slice a0 n0 c0]), (.agg #[.slice a1 n1 c1]), ud, (.pointer (some ⟨g1v, 0, none⟩)), (.pointer (some ⟨g2v, 0, none⟩)), (.int .u64 0), (.int .i64 0), (.int .i64 (-1)), ud, ud, ud, ud, ud, (.agg #[.slice a1 n1 c1]), (.agg #[.slice a0 n0 c0]), (.int .i64 (-1)), (.int .i64 (-1)), (.bool false), ud, ud, ud, ud, ud, ud, ud, ud, ud, ud, ud, ud, ud, ud, ud, ud, ud, ud, ud, ud], []⟩) (by kernel_rfl) ?_
    refine wp_cond_false (by kernel_rfl) ?_
    refine wp_skip_then ?_
    refine wp_seq ?_
    refine wp_seq ?_
    refine wl_start ?_
    refine wl_take (some 19) (.int .i64 (-1)) rfl rfl (by kernel_rfl) ?_
    refine wl_take (some 20) (.bool false) rfl rfl (by kernel_rfl) ?_
    refine wl_nil ?_
    refine wp_then ?_
    refine wp_frame (a' := ⟨#[(.int .u64 T), (.agg #[.slice a0 n0 c0]), (.agg #[.slice a1 n1 c1]), ud, (.pointer (some ⟨g1v, 0, none⟩)), (.pointer (some ⟨g2v, 0, none⟩)), (.int .u64 0), (.int .i64 0), (.int .i64 (-1)), ud, ud, ud, ud, ud, (.agg #[.slice a1 n1 c1]), (.agg #[.slice a0 n0 c0]), (.int .i64 (-1)), (.int .i64 (-1)), (.bool false), (.int .i64 (-1)), (.bool false), ud, ud, ud, ud, ud, ud, ud, ud, ud, ud, ud, ud, ud, ud, ud, ud, ud, ud], []⟩) (by kernel_rfl) ?_
    refine wp_cond_false (by kernel_rfl) ?_
    refine wp_skip_then ?_
    refine wp_seq ?_
    refine rg_start (S := fun w' => Below v3w.drew.heap.size v3w.drew w') (by kernel_rfl) (Below.refl _ _) ?_
    replace h0 := h0.drew
    replace h1 := h1.drew
    replace X4 := X4.drew
    replace X5 := X5.drew
    replace BB := BB.drew
    have hS := Below.refl v3w.drew.heap.size v3w.drew
    have UX4 := X4
    have UX5 := X5
    refine rg_take 0 (some 23) (.pointer (some ⟨g2v, 0, none⟩)) (by kernel_rfl) (fun _ _ => by kernel_rfl) (fun _ _ _ h => h) hS ?_
    refine rg_load 1 (some 24) (.slice a1 n1 c1) 24 23 (g2v) 0 (by kernel_rfl) (by kernel_rfl) (by kernel_rfl) (fun _ hb => ldx24 ((UX5.keep hb).cell (i := 0) rfl)) (fun _ _ _ h => h) hS ?_
    refine rg_take 2 (some 25) (.int .u64 T) (by kernel_rfl) (fun _ _ => by kernel_rfl) (fun _ _ _ h => h) hS ?_
    refine rg_take 4 (some 27) (.pointer (some ⟨g1v, 0, none⟩)) (by kernel_rfl) (fun _ _ => by kernel_rfl) (fun _ _ _ h => h) hS ?_
    refine rg_load 5 (some 28) (.slice a0 n0 c0) 24 27 (g1v) 0 (by kernel_rfl) (by kernel_rfl) (by kernel_rfl) (fun _ hb => ldx24 ((UX4.keep hb).cell (i := 0) rfl)) (fun _ _ _ h => h) hS ?_
    refine rg_call 3 (some 26) 28 #[.int .u64 T] (by kernel_rfl) (by kernel_rfl) (rOf (x := T) hT.1 hT.2) ?_
    rintro e1 v4w ⟨Az2, Nz2, Cz2, rfl, Oz2, Kz2, B⟩
    refine ⟨_, rfl, joinB hS B, ?_⟩
    replace hS := joinB hS B
    replace h0 := h0.keep B
    replace h1 := h1.keep B
    replace X4 := X4.keep B
    replace X5 := X5.keep B
    replace BB := joinB BB B
    clear B
    refine rg_call 6 (some 29) 27 #[.slice a1 n1 c1, .slice Az2 Nz2 Cz2, .slice a0 n0 c0] (by kernel_rfl) (by kernel_rfl) (rMulDivV h1 Oz2.a h0 (by omega) (by omega) (by omega)) ?_
    rintro e1 v5w ⟨Az3, Nz3, Cz3, Az4, Nz4, Cz4, rfl, Oz3, Oz4, Kz3, Kz4, B⟩
    refine ⟨_, rfl, joinB hS B, ?_⟩
    replace hS := joinB hS B
    replace h0 := h0.keep B
    replace h1 := h1.keep B
    replace X4 := X4.keep B
    replace X5 := X5.keep B
    replace Oz2 := Oz2.keep B
    replace BB := joinB BB B
    clear B
    have lnz3 := natO_zero Oz3
    have lnz4 := natO_zero Oz4
    refine rg_take 7 (some 22) (.tuple #[.slice Az3 Nz3 Cz3, .slice Az4 Nz4 Cz4, .int .i64 (divE x0)]) (by kernel_rfl) (fun _ _ => by kernel_rfl) (fun _ _ _ h => h) hS ?_
    refine rg_take 8 (some 30) (.slice Az3 Nz3 Cz3) (by kernel_rfl) (fun _ _ => by kernel_rfl) (fun _ _ _ h => h) hS ?_
    refine rg_take 9 (some 31) (.slice Az4 Nz4 Cz4) (by kernel_rfl) (fun _ _ => by kernel_rfl) (fun _ _ _ h => h) hS ?_
    refine rg_take 10 (some 32) (.int .i64 (divE x0)) (by kernel_rfl) (fun _ _ => by kernel_rfl) (fun _ _ _ h => h) hS ?_
    refine rg_take 11 (some 9) (.slice Az3 Nz3 Cz3) (by kernel_rfl) (fun _ _ => by kernel_rfl) (fun _ _ _ h => h) hS ?_
    refine rg_take 12 (some 10) (.slice Az4 Nz4 Cz4) (by kernel_rfl) (fun _ _ => by kernel_rfl) (fun _ _ _ h => h) hS ?_
    refine rg_take 13 (some 11) (.int .i64 (divE x0)) (by kernel_rfl) (fun _ _ => by kernel_rfl) (fun _ _ _ h => h) hS ?_
    refine rg_done (by kernel_rfl) ?_
    clear hS UX4 UX5
    refine wp_then ?_
    refine wp_frame (a' := ⟨#[(.int .u64 T), (.agg #[.slice a0 n0 c0]), (.agg #[.slice a1 n1 c1]), ud, (.pointer (some ⟨g1v, 0, none⟩)), (.pointer (some ⟨g2v, 0, none⟩)), (.int .u64 0), (.int .i64 0), (.int .i64 (-1)), (.slice Az3 Nz3 Cz3), (.slice Az4 Nz4 Cz4), (.int .i64 (divE x0)), ud, ud, (.agg #[.slice a1 n1 c1]), (.agg #[.slice a0 n0 c0]), (.int .i64 (-1)), (.int .i64 (-1)), (.bool false), (.int .i64 (-1)), (.bool false), ud, (.tuple #[.slice Az3 Nz3 Cz3, .slice Az4 Nz4 Cz4, .int .i64 (divE x0)]), (.pointer (some ⟨g2v, 0, none⟩)), (.slice a1 n1 c1), (.int .u64 T), (.slice Az2 Nz2 Cz2), (.pointer (some ⟨g1v, 0, none⟩)), (.slice a0 n0 c0), (.tuple #[.slice Az3 Nz3 Cz3, .slice Az4 Nz4 Cz4, .int .i64 (divE x0)]), (.slice Az3 Nz3 Cz3), (.slice Az4 Nz4 Cz4), (.int .i64 (divE x0)), ud, ud, ud, ud, ud, ud], []⟩) (by kernel_rfl) ?_
    refine wp_seq ?_
    refine wl_start ?_
    refine wl_take (some 34) (.slice Az3 Nz3 Cz3) rfl rfl (by kernel_rfl) ?_
    refine wl_call (some 35) 35 #[.slice Az3 Nz3 Cz3] rfl rfl (by kernel_rfl) (rSmallV Oz3.a (by omega)) ?_
    rintro e1 v6w ⟨rfl, B⟩
    refine ⟨_, rfl, ?_⟩
    replace h0 := h0.keep B
    replace h1 := h1.keep B
    replace X4 := X4.keep B
    replace X5 := X5.keep B
    replace Oz2 := Oz2.keep B
    replace Oz3 := Oz3.keep B
    replace Oz4 := Oz4.keep B
    replace BB := joinB BB B
    clear B
    refine wl_take (some 33) (.tuple #[.int .u64 (smV (x1 * T / x0)), .bool (smB (x1 * T / x0))]) rfl rfl (by kernel_rfl) ?_
    refine wl_take (some 36) (.int .u64 (smV (x1 * T / x0))) rfl rfl (by kernel_rfl) ?_
    refine wl_take (some 37) (.bool (smB (x1 * T / x0))) rfl rfl (by kernel_rfl) ?_
    refine wl_take (some 12) (.int .u64 (smV (x1 * T / x0))) rfl rfl (by kernel_rfl) ?_
    refine wl_take (some 13) (.bool (smB (x1 * T / x0))) rfl rfl (by kernel_rfl) ?_
    refine wl_nil ?_
    refine wp_then ?_
    refine wp_frame (a' := ⟨#[(.int .u64 T), (.agg #[.slice a0 n0 c0]), (.agg #[.slice a1 n1 c1]), ud, (.pointer (some ⟨g1v, 0, none⟩)), (.pointer (some ⟨g2v, 0, none⟩)), (.int .u64 0), (.int .i64 0), (.int .i64 (-1)), (.slice Az3 Nz3 Cz3), (.slice Az4 Nz4 Cz4), (.int .i64 (divE x0)), (.int .u64 (smV (x1 * T / x0))), (.bool (smB (x1 * T / x0))), (.agg #[.slice a1 n1 c1]), (.agg #[.slice a0 n0 c0]), (.int .i64 (-1)), (.int .i64 (-1)), (.bool false), (.int .i64 (-1)), (.bool false), ud, (.tuple #[.slice Az3 Nz3 Cz3, .slice Az4 Nz4 Cz4, .int .i64 (divE x0)]), (.pointer (some ⟨g2v, 0, none⟩)), (.slice a1 n1 c1), (.int .u64 T), (.slice Az2 Nz2 Cz2), (.pointer (some ⟨g1v, 0, none⟩)), (.slice a0 n0 c0), (.tuple #[.slice Az3 Nz3 Cz3, .slice Az4 Nz4 Cz4, .int .i64 (divE x0)]), (.slice Az3 Nz3 Cz3), (.slice Az4 Nz4 Cz4), (.int .i64 (divE x0)), (.tuple #[.int .u64 (smV (x1 * T / x0)), .bool (smB (x1 * T / x0))]), (.slice Az3 Nz3 Cz3), (.tuple #[.int .u64 (smV (x1 * T / x0)), .bool (smB (x1 * T / x0))]), (.int .u64 (smV (x1 * T / x0))), (.bool (smB (x1 * T / x0))), ud], []⟩) (by kernel_rfl) ?_
    refine wp_seq ?_
    refine wl_start ?_
    refine wl_take (some 38) (.int .u64 (smV (x1 * T / x0))) rfl rfl (by kernel_rfl) ?_
    refine wl_take (some 6) (.int .u64 (smV (x1 * T / x0))) rfl rfl (by kernel_rfl) ?_
    refine wl_take (some 7) (.int .i64 0) rfl rfl (by kernel_rfl) ?_
    refine wl_nil ?_
    refine wp_then ?_
    refine wp_frame (a' := ⟨#[(.int .u64 T), (.agg #[.slice a0 n0 c0]), (.agg #[.slice a1 n1 c1]), ud, (.pointer (some ⟨g1v, 0, none⟩)), (.pointer (some ⟨g2v, 0, none⟩)), (.int .u64 (smV (x1 * T / x0))), (.int .i64 0), (.int .i64 (-1)), (.slice Az3 Nz3 Cz3), (.slice Az4 Nz4 Cz4), (.int .i64 (divE x0)), (.int .u64 (smV (x1 * T / x0))), (.bool (smB (x1 * T / x0))), (.agg #[.slice a1 n1 c1]), (.agg #[.slice a0 n0 c0]), (.int .i64 (-1)), (.int .i64 (-1)), (.bool false), (.int .i64 (-1)), (.bool false), ud, (.tuple #[.slice Az3 Nz3 Cz3, .slice Az4 Nz4 Cz4, .int .i64 (divE x0)]), (.pointer (some ⟨g2v, 0, none⟩)), (.slice a1 n1 c1), (.int .u64 T), (.slice Az2 Nz2 Cz2), (.pointer (some ⟨g1v, 0, none⟩)), (.slice a0 n0 c0), (.tuple #[.slice Az3 Nz3 Cz3, .slice Az4 Nz4 Cz4, .int .i64 (divE x0)]), (.slice Az3 Nz3 Cz3), (.slice Az4 Nz4 Cz4), (.int .i64 (divE x0)), (.tuple #[.int .u64 (smV (x1 * T / x0)), .bool (smB (x1 * T / x0))]), (.slice Az3 Nz3 Cz3), (.tuple #[.int .u64 (smV (x1 * T / x0)), .bool (smB (x1 * T / x0))]), (.int .u64 (smV (x1 * T / x0))), (.bool (smB (x1 * T / x0))), (.int .u64 (smV (x1 * T / x0)))], []⟩) (by kernel_rfl) ?_
    refine wp_ret ?_
    repeat (first | refine ret_then ?_ | refine ret_block ?_)
    refine bodyPost_ret (results_tmp2 rfl _ _ _) rfl ?_
    have hx1 := h1.nonneg
    refine ⟨?_, BB⟩
    refine Eq.trans (b := .returned (.tuple #[.int .u64 (smV (x1 * T / x0)), .int .i64 0])) (by kernel_rfl) ?_
    rw [show reE x0 x1 = 0 by simp only [reE]; split <;> first | rfl | (exfalso; omega)]
    rw [show reV T x0 x1 = (smV (x1 * T / x0)) from re_small hT hx1 (by omega)]
  · skip
    by_cases cc5 : x1 = x0
    · skip
      refine wl_call (some 16) 34 #[.agg #[.slice a1 n1 c1], .agg #[.slice a0 n0 c0]] rfl rfl (by kernel_rfl) (cmpE h1 h0 (by omega) (by omega) 0 (sgn_eq cc5)) ?_
      rintro e1 v7w ⟨rfl, B⟩
      refine ⟨_, rfl, ?_⟩
      replace h0 := h0.keep B
      replace h1 := h1.keep B
      replace X4 := X4.keep B
      replace X5 := X5.keep B
      replace BB := joinB BB B
      clear B
      refine wl_take (some 8) (.int .i64 0) rfl rfl (by kernel_rfl) ?_
      refine wl_nil ?_
      refine wp_then ?_
      refine wp_frame (a' := ⟨#[(.int .u64 T), (.agg #[.slice a0 n0 c0]), (.agg #[.slice a1 n1 c1]), ud, (.pointer (some ⟨g1v, 0, none⟩)), (.pointer (some ⟨g2v, 0, none⟩)), (.int .u64 0), (.int .i64 0), (.int .i64 0), ud, ud, ud, ud, ud, (.agg #[.slice a1 n1 c1]), (.agg #[.slice a0 n0 c0]), (.int .i64 0), ud, ud, ud, ud, ud, ud, ud, ud, ud, ud, ud, ud, ud, ud, ud, ud, ud, ud, ud, ud, ud, ud], []⟩) (by kernel_rfl) ?_
      refine wp_seq ?_
      refine wp_seq ?_
      refine wl_start ?_
      refine wl_take (some 17) (.int .i64 0) rfl rfl (by kernel_rfl) ?_
      refine wl_take (some 18) (.bool false) rfl rfl (by kernel_rfl) ?_
      refine wl_nil ?_
      refine wp_then ?_
      refine wp_frame (a' := ⟨#[(.int .u64 T), (.agg #[.slice a0 n0 c0]), (.agg #[.slice a1 n1 c1]), ud, (.pointer (some ⟨g1v, 0, none⟩)), (.pointer (some ⟨g2v, 0, none⟩)), (.int .u64 0), (.int .i64 0), (.int .i64 0), ud, ud, ud, ud, ud, (.agg #[.slice a1 n1 c1]), (.agg #[.slice a0 n0 c0]), (.int .i64 0), (.int .i64 0), (.bool false), ud, ud, ud, ud, ud, ud, ud, ud, ud, ud, ud, ud, ud, ud, ud, ud, ud, ud, ud, ud], []⟩) (by kernel_rfl) ?_
      refine wp_cond_false (by kernel_rfl) ?_
      refine wp_skip_then ?_
      refine wp_seq ?_
      refine wp_seq ?_
      refine wl_start ?_
      refine wl_take (some 19) (.int .i64 0) rfl rfl (by kernel_rfl) ?_
      refine wl_take (some 20) (.bool true) rfl rfl (by kernel_rfl) ?_
      refine wl_nil ?_
      refine wp_then ?_
      refine wp_frame (a' := ⟨#[(.int .u64 T), (.agg #[.slice a0 n0 c0]), (.agg #[.slice a1 n1 c1]), ud, (.pointer (some ⟨g1v, 0, none⟩)), (.pointer (some ⟨g2v, 0, none⟩)), (.int .u64 0), (.int .i64 0), (.int .i64 0), ud, ud, ud, ud, ud, (.agg #[.slice a1 n1 c1]), (.agg #[.slice a0 n0 c0]), (.int .i64 0), (.int .i64 0), (.bool false), (.int .i64 0), (.bool true), ud, ud, ud, ud, ud, ud, ud, ud, ud, ud, ud, ud, ud, ud, ud, ud, ud, ud], []⟩) (by kernel_rfl) ?_
      refine wp_cond_true (by kernel_rfl) ?_
      refine wp_seq ?_
      refine wl_start ?_
      refine wl_take (some 21) (.int .u64 T) rfl rfl (by kernel_rfl) ?_
      refine wl_take (some 6) (.int .u64 T) rfl rfl (by kernel_rfl) ?_
      refine wl_take (some 7) (.int .i64 0) rfl rfl (by kernel_rfl) ?_
      refine wl_nil ?_
      refine wp_then ?_
      refine wp_frame (a' := ⟨#[(.int .u64 T), (.agg #[.slice a0 n0 c0]), (.agg #[.slice a1 n1 c1]), ud, (.pointer (some ⟨g1v, 0, none⟩)), (.pointer (some ⟨g2v, 0, none⟩)), (.int .u64 T), (.int .i64 0), (.int .i64 0), ud, ud, ud, ud, ud, (.agg #[.slice a1 n1 c1]), (.agg #[.slice a0 n0 c0]), (.int .i64 0), (.int .i64 0), (.bool false), (.int .i64 0), (.bool true), (.int .u64 T), ud, ud, ud, ud, ud, ud, ud, ud, ud, ud, ud, ud, ud, ud, ud, ud, ud], []⟩) (by kernel_rfl) ?_
      refine wp_ret ?_
      repeat (first | refine ret_then ?_ | refine ret_block ?_)
      refine bodyPost_ret (results_tmp2 rfl _ _ _) rfl ?_
      have hx1 := h1.nonneg
      refine ⟨?_, BB⟩
      refine Eq.trans (b := .returned (.tuple #[.int .u64 T, .int .i64 0])) (by kernel_rfl) ?_
      rw [show reE x0 x1 = 0 by simp only [reE]; split <;> first | rfl | (exfalso; omega)]
      rw [show reV T x0 x1 = T by simp only [reV]; (repeat' split) <;> first | rfl | omega | (exfalso; omega)]
    · skip
      refine wl_call (some 16) 34 #[.agg #[.slice a1 n1 c1], .agg #[.slice a0 n0 c0]] rfl rfl (by kernel_rfl) (cmpE h1 h0 (by omega) (by omega) 1 (sgn_gt (lt_of cc1 (fun e => cc5 e.symm)))) ?_
      rintro e1 v8w ⟨rfl, B⟩
      refine ⟨_, rfl, ?_⟩
      replace h0 := h0.keep B
      replace h1 := h1.keep B
      replace X4 := X4.keep B
      replace X5 := X5.keep B
      replace BB := joinB BB B
      clear B
      refine wl_take (some 8) (.int .i64 1) rfl rfl (by kernel_rfl) ?_
      refine wl_nil ?_
      refine wp_then ?_
      refine wp_frame (a' := ⟨#[(.int .u64 T), (.agg #[.slice a0 n0 c0]), (.agg #[.slice a1 n1 c1]), ud, (.pointer (some ⟨g1v, 0, none⟩)), (.pointer (some ⟨g2v, 0, none⟩)), (.int .u64 0), (.int .i64 0), (.int .i64 1), ud, ud, ud, ud, ud, (.agg #[.slice a1 n1 c1]), (.agg #[.slice a0 n0 c0]), (.int .i64 1), ud, ud, ud, ud, ud, ud, ud, ud, ud, ud, ud, ud, ud, ud, ud, ud, ud, ud, ud, ud, ud, ud], []⟩) (by kernel_rfl) ?_
      refine wp_seq ?_
      refine wp_seq ?_
      refine wl_start ?_
      refine wl_take (some 17) (.int .i64 1) rfl rfl (by kernel_rfl) ?_
      refine wl_take (some 18) (.bool true) rfl rfl (by kernel_rfl) ?_
      refine wl_nil ?_
      refine wp_then ?_
      refine wp_frame (a' := ⟨#[(.int .u64 T), (.agg #[.slice a0 n0 c0]), (.agg #[.slice a1 n1 c1]), ud, (.pointer (some ⟨g1v, 0, none⟩)), (.pointer (some ⟨g2v, 0, none⟩)), (.int .u64 0), (.int .i64 0), (.int .i64 1), ud, ud, ud, ud, ud, (.agg #[.slice a1 n1 c1]), (.agg #[.slice a0 n0 c0]), (.int .i64 1), (.int .i64 1), (.bool true), ud, ud, ud, ud, ud, ud, ud, ud, ud, ud, ud, ud, ud, ud, ud, ud, ud, ud, ud, ud], []⟩) (by kernel_rfl) ?_
      refine wp_cond_true (by kernel_rfl) ?_
      refine wp_seq ?_
      refine wl_start ?_
      refine wl_take (some 6) (.int .u64 0) rfl rfl (by kernel_rfl) ?_
      refine wl_take (some 7) (.int .i64 102) rfl rfl (by kernel_rfl) ?_
      refine wl_nil ?_
      refine wp_then ?_
      refine wp_frame (a' := ⟨#[(.int .u64 T), (.agg #[.slice a0 n0 c0]), (.agg #[.slice a1 n1 c1]), ud, (.pointer (some ⟨g1v, 0, none⟩)), (.pointer (some ⟨g2v, 0, none⟩)), (.int .u64 0), (.int .i64 102), (.int .i64 1), ud, ud, ud, ud, ud, (.agg #[.slice a1 n1 c1]), (.agg #[.slice a0 n0 c0]), (.int .i64 1), (.int .i64 1), (.bool true), ud, ud, ud, ud, ud, ud, ud, ud, ud, ud, ud, ud, ud, ud, ud, ud, ud, ud, ud, ud], []⟩) (by kernel_rfl) ?_
      refine wp_ret ?_
      repeat (first | refine ret_then ?_ | refine ret_block ?_)
      refine bodyPost_ret (results_tmp2 rfl _ _ _) rfl ?_
      have hx1 := h1.nonneg
      refine ⟨?_, BB⟩
      refine Eq.trans (b := .returned (.tuple #[.int .u64 0, .int .i64 102])) (by kernel_rfl) ?_
      rw [show reE x0 x1 = 102 by simp only [reE]; split <;> first | rfl | (exfalso; omega)]
      rw [show reV T x0 x1 = 0 by simp only [reV]; (repeat' split) <;> first | rfl | omega | (exfalso; omega)]
set_option maxHeartbeats 2000000 in
set_option maxRecDepth 100000 in
theorem tNeed {w : World} {T t : Int} {a0 : Option Addr} {n0 c0 : Nat} {x0 : Int} (hT : 0 ≤ T ∧ T < 18446744073709551616) (h0 : NatA w a0 n0 c0 x0) (k0 : n0 ≤ 100000) (ht : 0 ≤ t ∧ t < 18446744073709551616) :
    Calls Tryz.prog 11 #[.int .u64 T, .agg #[.slice a0 n0 c0], .int .u64 t] w fun e w' => ∃ a k d, e = .returned (.tuple #[.agg #[.slice a k d], .int .i64 (neE T t)]) ∧ NatO w' a k d (neV T x0 t) ∧ k ≤ 2000000 ∧ Below w.heap.size w w' := by
  have BB := Below.refl w.heap.size w
  go_enter Tryz.func11, Tryz.ntmps11
  refine wp_seq ?_
  refine wl_start ?_
  have bs0 := BB.size
  refine wl_box 4 1 26 [.slice a0 n0 c0] rfl rfl rfl (by kernel_rfl) boxx26 ?_
  intro v1w g1v X4 hg1v B
  replace h0 := h0.keep B
  replace BB := joinB BB B
  clear B
  have lX4 := X4.lt
  have bs1 := BB.size
  refine wl_alloc 6 26 [.slice none 0 0] rfl rfl rfl allocx26 ?_
  intro v2w g2v X6 hg2v B
  replace h0 := h0.keep B
  replace X4 := X4.keep B
  replace BB := joinB BB B
  clear B
  refine wl_take (some 7) (.int .i64 0) rfl rfl (by kernel_rfl) ?_
  refine wl_nil ?_
  refine wp_then ?_
  refine wp_frame (a' := ⟨#[(.int .u64 T), (.agg #[.slice a0 n0 c0]), (.int .u64 t), ud, (.pointer (some ⟨g1v, 0, none⟩)), ud, (.pointer (some ⟨g2v, 0, none⟩)), (.int .i64 0), ud, ud, ud, ud, ud, ud, ud, ud, ud, ud, ud, ud, ud, ud, ud, ud, ud, ud, ud, ud, ud, ud, ud, ud, ud, ud, ud, ud, ud], []⟩) (by kernel_rfl) ?_
  refine wp_seq ?_
  refine wp_seq ?_
  refine wl_start ?_
  refine wl_take (some 11) (.int .u64 t) rfl rfl (by kernel_rfl) ?_
  refine wl_take (some 12) (.int .u64 T) rfl rfl (by kernel_rfl) ?_
  by_cases cc1 : T < t
  · skip
    refine wl_eq (some 13) (.bool (decide ((T : Int) < t))) (.bool true) (congrArg Value.bool (decide_eq_true cc1)) rfl rfl (by kernel_rfl) ?_
    refine wl_nil ?_
    refine wp_then ?_
    refine wp_frame (a' := ⟨#[(.int .u64 T), (.agg #[.slice a0 n0 c0]), (.int .u64 t), ud, (.pointer (some ⟨g1v, 0, none⟩)), ud, (.pointer (some ⟨g2v, 0, none⟩)), (.int .i64 0), ud, ud, ud, (.int .u64 t), (.int .u64 T), (.bool true), ud, ud, ud, ud, ud, ud, ud, ud, ud, ud, ud, ud, ud, ud, ud, ud, ud, ud, ud, ud, ud, ud, ud], []⟩) (by kernel_rfl) ?_
    refine wp_cond_true (by kernel_rfl) ?_
    refine wp_seq ?_
    refine wl_start ?_
    refine wl_take (some 14) (.agg #[.slice none 0 0]) rfl rfl (by kernel_rfl) ?_
    refine wl_set' 6 14 26 (i := 0) (.slice none 0 0) (.slice none 0 0) X6 rfl rfl rfl rfl (by kernel_rfl) (by kernel_rfl) storex26 ?_
    intro v3w hv3w
    replace BB := BB.setCell (p := ⟨g2v, 0, none⟩) (show w.heap.size ≤ g2v by omega) (.slice none 0 0)
    replace h0 := h0.put (show Slot _ _ _ _ from ⟨X6.blk⟩) not_int (.slice none 0 0)
    replace X4 := X4.off (g' := g2v) (by omega) (i := 0) (.slice none 0 0)
    replace X6 := X6.setCell (i := 0) (.slice none 0 0)
    rw [hv3w] at BB h0 X4 X6
    clear hv3w
    refine wl_take (some 7) (.int .i64 102) rfl rfl (by kernel_rfl) ?_
    refine wl_nil ?_
    refine wp_then ?_
    refine wp_frame (a' := ⟨#[(.int .u64 T), (.agg #[.slice a0 n0 c0]), (.int .u64 t), ud, (.pointer (some ⟨g1v, 0, none⟩)), ud, (.pointer (some ⟨g2v, 0, none⟩)), (.int .i64 102), ud, ud, ud, (.int .u64 t), (.int .u64 T), (.bool true), (.agg #[.slice none 0 0]), ud, ud, ud, ud, ud, ud, ud, ud, ud, ud, ud, ud, ud, ud, ud, ud, ud, ud, ud, ud, ud, ud], []⟩) (by kernel_rfl) ?_
    refine wp_ret ?_
    repeat (first | refine ret_then ?_ | refine ret_block ?_)
    refine bodyPost_ret (ret_dec_tmp rfl rfl rfl (show Slot _ _ _ _ from ⟨X6.blk⟩)) rfl ?_
    have hh := natO_nil v3w
    refine ⟨none, 0, 0, ?_, ?_, by omega, BB⟩
    · refine Eq.trans (b := .returned (.tuple #[.agg #[.slice none 0 0], .int .i64 102])) (by kernel_rfl) ?_
      rw [show neE T t = 102 by simp only [neE]; (repeat' split) <;> first | rfl | (exfalso; omega)]
    · rw [show neV T x0 t = 0 by simp only [neV, rnd] at *; (repeat' split) <;> first | rfl | omega | (exfalso; omega) | (exfalso; simp_all; done) | (simp_all; done)]
      exact hh
  · skip
    refine wl_eq (some 13) (.bool (decide ((T : Int) < t))) (.bool false) (congrArg Value.bool (decide_eq_false cc1)) rfl rfl (by kernel_rfl) ?_
    refine wl_nil ?_
    refine wp_then ?_
    refine wp_frame (a' := ⟨#[(.int .u64 T), (.agg #[.slice a0 n0 c0]), (.int .u64 t), ud, (.pointer (some ⟨g1v, 0, none⟩)), ud, (.pointer (some ⟨g2v, 0, none⟩)), (.int .i64 0), ud, ud, ud, (.int .u64 t), (.int .u64 T), (.bool false), ud, ud, ud, ud, ud, ud, ud, ud, ud, ud, ud, ud, ud, ud, ud, ud, ud, ud, ud, ud, ud, ud, ud], []⟩) (by kernel_rfl) ?_
    refine wp_cond_false (by kernel_rfl) ?_
    refine wp_skip_then ?_
    refine wp_seq ?_
    refine wp_seq ?_
    refine wl_start ?_
    refine wl_take (some 15) (.int .u64 T) rfl rfl (by kernel_rfl) ?_
    by_cases cc2 : T = 0
    · skip
      refine wl_eq (some 16) (.bool ((T : Int) == 0)) (.bool true) (congrArg Value.bool (beq_iff_eq.2 cc2)) rfl rfl (by kernel_rfl) ?_
      refine wl_nil ?_
      refine wp_then ?_
      refine wp_frame (a' := ⟨#[(.int .u64 T), (.agg #[.slice a0 n0 c0]), (.int .u64 t), ud, (.pointer (some ⟨g1v, 0, none⟩)), ud, (.pointer (some ⟨g2v, 0, none⟩)), (.int .i64 0), ud, ud, ud, (.int .u64 t), (.int .u64 T), (.bool false), ud, (.int .u64 T), (.bool true), ud, ud, ud, ud, ud, ud, ud, ud, ud, ud, ud, ud, ud, ud, ud, ud, ud, ud, ud, ud], []⟩) (by kernel_rfl) ?_
      refine wp_cond_true (by kernel_rfl) ?_
      refine wp_seq ?_
      refine wl_start ?_
      refine wl_take (some 17) (.agg #[.slice none 0 0]) rfl rfl (by kernel_rfl) ?_
      refine wl_set' 6 17 26 (i := 0) (.slice none 0 0) (.slice none 0 0) X6 rfl rfl rfl rfl (by kernel_rfl) (by kernel_rfl) storex26 ?_
      intro v4w hv4w
      replace BB := BB.setCell (p := ⟨g2v, 0, none⟩) (show w.heap.size ≤ g2v by omega) (.slice none 0 0)
      replace h0 := h0.put (show Slot _ _ _ _ from ⟨X6.blk⟩) not_int (.slice none 0 0)
      replace X4 := X4.off (g' := g2v) (by omega) (i := 0) (.slice none 0 0)
      replace X6 := X6.setCell (i := 0) (.slice none 0 0)
      rw [hv4w] at BB h0 X4 X6
      clear hv4w
      refine wl_take (some 7) (.int .i64 100) rfl rfl (by kernel_rfl) ?_
      refine wl_nil ?_
      refine wp_then ?_
      refine wp_frame (a' := ⟨#[(.int .u64 T), (.agg #[.slice a0 n0 c0]), (.int .u64 t), ud, (.pointer (some ⟨g1v, 0, none⟩)), ud, (.pointer (some ⟨g2v, 0, none⟩)), (.int .i64 100), ud, ud, ud, (.int .u64 t), (.int .u64 T), (.bool false), ud, (.int .u64 T), (.bool true), (.agg #[.slice none 0 0]), ud, ud, ud, ud, ud, ud, ud, ud, ud, ud, ud, ud, ud, ud, ud, ud, ud, ud, ud], []⟩) (by kernel_rfl) ?_
      refine wp_ret ?_
      repeat (first | refine ret_then ?_ | refine ret_block ?_)
      refine bodyPost_ret (ret_dec_tmp rfl rfl rfl (show Slot _ _ _ _ from ⟨X6.blk⟩)) rfl ?_
      have hh := natO_nil v4w
      refine ⟨none, 0, 0, ?_, ?_, by omega, BB⟩
      · refine Eq.trans (b := .returned (.tuple #[.agg #[.slice none 0 0], .int .i64 100])) (by kernel_rfl) ?_
        rw [show neE T t = 100 by simp only [neE]; (repeat' split) <;> first | rfl | (exfalso; omega)]
      · rw [show neV T x0 t = 0 by simp only [neV, rnd] at *; (repeat' split) <;> first | rfl | omega | (exfalso; omega) | (exfalso; simp_all; done) | (simp_all; done)]
        exact hh
    · skip
      refine wl_eq (some 16) (.bool ((T : Int) == 0)) (.bool false) (congrArg Value.bool (beq_eq_false_iff_ne.2 cc2)) rfl rfl (by kernel_rfl) ?_
      refine wl_nil ?_
      refine wp_then ?_
      refine wp_frame (a' := ⟨#[(.int .u64 T), (.agg #[.slice a0 n0 c0]), (.int .u64 t), ud, (.pointer (some ⟨g1v, 0, none⟩)), ud, (.pointer (some ⟨g2v, 0, none⟩)), (.int .i64 0), ud, ud, ud, (.int .u64 t), (.int .u64 T), (.bool false), ud, (.int .u64 T), (.bool false), ud, ud, ud, ud, ud, ud, ud, ud, ud, ud, ud, ud, ud, ud, ud, ud, ud, ud, ud, ud], []⟩) (by kernel_rfl) ?_
      refine wp_cond_false (by kernel_rfl) ?_
      refine wp_skip_then ?_
      refine wp_seq ?_
      refine rg_start (S := fun w' => Below v2w.drew.heap.size v2w.drew w') (by kernel_rfl) (Below.refl _ _) ?_
      replace h0 := h0.drew
      replace X4 := X4.drew
      replace X6 := X6.drew
      replace BB := BB.drew
      have hS := Below.refl v2w.drew.heap.size v2w.drew
      have UX4 := X4
      have UX6 := X6
      refine rg_take 0 (some 19) (.pointer (some ⟨g1v, 0, none⟩)) (by kernel_rfl) (fun _ _ => by kernel_rfl) (fun _ _ _ h => h) hS ?_
      refine rg_load 1 (some 20) (.slice a0 n0 c0) 24 19 (g1v) 0 (by kernel_rfl) (by kernel_rfl) (by kernel_rfl) (fun _ hb => ldx24 ((UX4.keep hb).cell (i := 0) rfl)) (fun _ _ _ h => h) hS ?_
      refine rg_take 2 (some 21) (.int .u64 t) (by kernel_rfl) (fun _ _ => by kernel_rfl) (fun _ _ _ h => h) hS ?_
      refine rg_take 4 (some 23) (.int .u64 T) (by kernel_rfl) (fun _ _ => by kernel_rfl) (fun _ _ _ h => h) hS ?_
      refine rg_call 3 (some 22) 28 #[.int .u64 t] (by kernel_rfl) (by kernel_rfl) (rOf (x := t) ht.1 ht.2) ?_
      rintro e1 v5w ⟨Az3, Nz3, Cz3, rfl, Oz3, Kz3, B⟩
      refine ⟨_, rfl, joinB hS B, ?_⟩
      replace hS := joinB hS B
      replace h0 := h0.keep B
      replace X4 := X4.keep B
      replace X6 := X6.keep B
      replace BB := joinB BB B
      clear B
      refine rg_call 5 (some 24) 28 #[.int .u64 T] (by kernel_rfl) (by kernel_rfl) (rOf (x := T) hT.1 hT.2) ?_
      rintro e1 v6w ⟨Az4, Nz4, Cz4, rfl, Oz4, Kz4, B⟩
      refine ⟨_, rfl, joinB hS B, ?_⟩
      replace hS := joinB hS B
      replace h0 := h0.keep B
      replace X4 := X4.keep B
      replace X6 := X6.keep B
      replace Oz3 := Oz3.keep B
      replace BB := joinB BB B
      clear B
      refine rg_call 6 (some 25) 27 #[.slice a0 n0 c0, .slice Az3 Nz3 Cz3, .slice Az4 Nz4 Cz4] (by kernel_rfl) (by kernel_rfl) (rMulDivV h0 Oz3.a Oz4.a (by omega) (by omega) (by omega)) ?_
      rintro e1 v7w ⟨Az5, Nz5, Cz5, Az6, Nz6, Cz6, rfl, Oz5, Oz6, Kz5, Kz6, B⟩
      refine ⟨_, rfl, joinB hS B, ?_⟩
      replace hS := joinB hS B
      replace h0 := h0.keep B
      replace X4 := X4.keep B
      replace X6 := X6.keep B
      replace Oz3 := Oz3.keep B
      replace Oz4 := Oz4.keep B
      replace BB := joinB BB B
      clear B
      have lnz5 := natO_zero Oz5
      have lnz6 := natO_zero Oz6
      refine rg_take 7 (some 18) (.tuple #[.slice Az5 Nz5 Cz5, .slice Az6 Nz6 Cz6, .int .i64 (divE T)]) (by kernel_rfl) (fun _ _ => by kernel_rfl) (fun _ _ _ h => h) hS ?_
      refine rg_take 8 (some 26) (.slice Az5 Nz5 Cz5) (by kernel_rfl) (fun _ _ => by kernel_rfl) (fun _ _ _ h => h) hS ?_
      refine rg_take 9 (some 27) (.slice Az6 Nz6 Cz6) (by kernel_rfl) (fun _ _ => by kernel_rfl) (fun _ _ _ h => h) hS ?_
      refine rg_take 10 (some 28) (.int .i64 (divE T)) (by kernel_rfl) (fun _ _ => by kernel_rfl) (fun _ _ _ h => h) hS ?_
      refine rg_take 11 (some 8) (.slice Az5 Nz5 Cz5) (by kernel_rfl) (fun _ _ => by kernel_rfl) (fun _ _ _ h => h) hS ?_
      refine rg_take 12 (some 9) (.slice Az6 Nz6 Cz6) (by kernel_rfl) (fun _ _ => by kernel_rfl) (fun _ _ _ h => h) hS ?_
      refine rg_take 13 (some 10) (.int .i64 (divE T)) (by kernel_rfl) (fun _ _ => by kernel_rfl) (fun _ _ _ h => h) hS ?_
      refine rg_done (by kernel_rfl) ?_
      clear hS UX4 UX6
      refine wp_then ?_
      refine wp_frame (a' := ⟨#[(.int .u64 T), (.agg #[.slice a0 n0 c0]), (.int .u64 t), ud, (.pointer (some ⟨g1v, 0, none⟩)), ud, (.pointer (some ⟨g2v, 0, none⟩)), (.int .i64 0), (.slice Az5 Nz5 Cz5), (.slice Az6 Nz6 Cz6), (.int .i64 (divE T)), (.int .u64 t), (.int .u64 T), (.bool false), ud, (.int .u64 T), (.bool false), ud, (.tuple #[.slice Az5 Nz5 Cz5, .slice Az6 Nz6 Cz6, .int .i64 (divE T)]), (.pointer (some ⟨g1v, 0, none⟩)), (.slice a0 n0 c0), (.int .u64 t), (.slice Az3 Nz3 Cz3), (.int .u64 T), (.slice Az4 Nz4 Cz4), (.tuple #[.slice Az5 Nz5 Cz5, .slice Az6 Nz6 Cz6, .int .i64 (divE T)]), (.slice Az5 Nz5 Cz5), (.slice Az6 Nz6 Cz6), (.int .i64 (divE T)), ud, ud, ud, ud, ud, ud, ud, ud], []⟩) (by kernel_rfl) ?_
      refine wp_seq ?_
      refine wp_seq ?_
      refine wl_start ?_
      refine wl_take (some 29) (.slice Az6 Nz6 Cz6) rfl rfl (by kernel_rfl) ?_
      refine wl_take (some 30) (.int .i64 Nz6) rfl rfl (by kernel_rfl) ?_
      by_cases cc7 : 0 < (Nz6 : Int)
      · skip
        refine wl_eq (some 31) (.bool (decide ((0 : Int) < (Nz6 : Int)))) (.bool true) (congrArg Value.bool (decide_eq_true cc7)) rfl rfl (by kernel_rfl) ?_
        refine wl_nil ?_
        refine wp_then ?_
        refine wp_frame (a' := ⟨#[(.int .u64 T), (.agg #[.slice a0 n0 c0]), (.int .u64 t), ud, (.pointer (some ⟨g1v, 0, none⟩)), ud, (.pointer (some ⟨g2v, 0, none⟩)), (.int .i64 0), (.slice Az5 Nz5 Cz5), (.slice Az6 Nz6 Cz6), (.int .i64 (divE T)), (.int .u64 t), (.int .u64 T), (.bool false), ud, (.int .u64 T), (.bool false), ud, (.tuple #[.slice Az5 Nz5 Cz5, .slice Az6 Nz6 Cz6, .int .i64 (divE T)]), (.pointer (some ⟨g1v, 0, none⟩)), (.slice a0 n0 c0), (.int .u64 t), (.slice Az3 Nz3 Cz3), (.int .u64 T), (.slice Az4 Nz4 Cz4), (.tuple #[.slice Az5 Nz5 Cz5, .slice Az6 Nz6 Cz6, .int .i64 (divE T)]), (.slice Az5 Nz5 Cz5), (.slice Az6 Nz6 Cz6), (.int .i64 (divE T)), (.slice Az6 Nz6 Cz6), (.int .i64 Nz6), (.bool true), ud, ud, ud, ud, ud], []⟩) (by kernel_rfl) ?_
        refine wp_cond_true (by kernel_rfl) ?_
        refine wl_start ?_
        refine wl_take (some 32) (.slice Az5 Nz5 Cz5) rfl rfl (by kernel_rfl) ?_
        refine wl_call (some 33) 28 #[.int .u64 1] rfl rfl (by kernel_rfl) (rOf (x := 1) (⟨by decide, by decide⟩ : (0 : Int) ≤ 1 ∧ (1 : Int) < 18446744073709551616).1 (⟨by decide, by decide⟩ : (0 : Int) ≤ 1 ∧ (1 : Int) < 18446744073709551616).2) ?_
        rintro e1 v8w ⟨Az8, Nz8, Cz8, rfl, Oz8, Kz8, B⟩
        refine ⟨_, rfl, ?_⟩
        replace h0 := h0.keep B
        replace X4 := X4.keep B
        replace X6 := X6.keep B
        replace Oz3 := Oz3.keep B
        replace Oz4 := Oz4.keep B
        replace Oz5 := Oz5.keep B
        replace Oz6 := Oz6.keep B
        replace BB := joinB BB B
        clear B
        refine wl_call (some 34) 31 #[.slice Az5 Nz5 Cz5, .slice Az8 Nz8 Cz8] rfl rfl (by kernel_rfl) (rAdd Oz5.a Oz8.a (by omega) (by omega)) ?_
        rintro e1 v9w ⟨Az9, Nz9, Cz9, rfl, Oz9, Kz9, B⟩
        refine ⟨_, rfl, ?_⟩
        replace h0 := h0.keep B
        replace X4 := X4.keep B
        replace X6 := X6.keep B
        replace Oz3 := Oz3.keep B
        replace Oz4 := Oz4.keep B
        replace Oz5 := Oz5.keep B
        replace Oz6 := Oz6.keep B
        replace Oz8 := Oz8.keep B
        replace BB := joinB BB B
        clear B
        refine wl_take (some 8) (.slice Az9 Nz9 Cz9) rfl rfl (by kernel_rfl) ?_
        refine wl_nil ?_
        refine wp_then ?_
        refine wp_frame (a' := ⟨#[(.int .u64 T), (.agg #[.slice a0 n0 c0]), (.int .u64 t), ud, (.pointer (some ⟨g1v, 0, none⟩)), ud, (.pointer (some ⟨g2v, 0, none⟩)), (.int .i64 0), (.slice Az9 Nz9 Cz9), (.slice Az6 Nz6 Cz6), (.int .i64 (divE T)), (.int .u64 t), (.int .u64 T), (.bool false), ud, (.int .u64 T), (.bool false), ud, (.tuple #[.slice Az5 Nz5 Cz5, .slice Az6 Nz6 Cz6, .int .i64 (divE T)]), (.pointer (some ⟨g1v, 0, none⟩)), (.slice a0 n0 c0), (.int .u64 t), (.slice Az3 Nz3 Cz3), (.int .u64 T), (.slice Az4 Nz4 Cz4), (.tuple #[.slice Az5 Nz5 Cz5, .slice Az6 Nz6 Cz6, .int .i64 (divE T)]), (.slice Az5 Nz5 Cz5), (.slice Az6 Nz6 Cz6), (.int .i64 (divE T)), (.slice Az6 Nz6 Cz6), (.int .i64 Nz6), (.bool true), (.slice Az5 Nz5 Cz5), (.slice Az8 Nz8 Cz8), (.slice Az9 Nz9 Cz9), ud, ud], []⟩) (by kernel_rfl) ?_
        refine wp_seq ?_
        refine wl_start ?_
        refine wl_take (some 35) (.slice Az9 Nz9 Cz9) rfl rfl (by kernel_rfl) ?_
        refine wl_take (some 36) (.agg #[.slice Az9 Nz9 Cz9]) rfl rfl (by kernel_rfl) ?_
        refine wl_set' 6 36 26 (i := 0) (.slice none 0 0) (.slice Az9 Nz9 Cz9) X6 rfl rfl rfl rfl (by kernel_rfl) (by kernel_rfl) storex26 ?_
        intro v10w hv10w
        replace BB := BB.setCell (p := ⟨g2v, 0, none⟩) (show w.heap.size ≤ g2v by omega) (.slice Az9 Nz9 Cz9)
        replace h0 := h0.put (show Slot _ _ _ _ from ⟨X6.blk⟩) not_int (.slice Az9 Nz9 Cz9)
        replace X4 := X4.off (g' := g2v) (by omega) (i := 0) (.slice Az9 Nz9 Cz9)
        replace Oz3 := Oz3.put (show Slot _ _ _ _ from ⟨X6.blk⟩) not_int (.slice Az9 Nz9 Cz9)
        replace Oz4 := Oz4.put (show Slot _ _ _ _ from ⟨X6.blk⟩) not_int (.slice Az9 Nz9 Cz9)
        replace Oz5 := Oz5.put (show Slot _ _ _ _ from ⟨X6.blk⟩) not_int (.slice Az9 Nz9 Cz9)
        replace Oz6 := Oz6.put (show Slot _ _ _ _ from ⟨X6.blk⟩) not_int (.slice Az9 Nz9 Cz9)
        replace Oz8 := Oz8.put (show Slot _ _ _ _ from ⟨X6.blk⟩) not_int (.slice Az9 Nz9 Cz9)
        replace Oz9 := Oz9.put (show Slot _ _ _ _ from ⟨X6.blk⟩) not_int (.slice Az9 Nz9 Cz9)
        replace X6 := X6.setCell (i := 0) (.slice Az9 Nz9 Cz9)
        rw [hv10w] at BB h0 X4 X6 Oz3 Oz4 Oz5 Oz6 Oz8 Oz9
        clear hv10w
        refine wl_take (some 7) (.int .i64 0) rfl rfl (by kernel_rfl) ?_
        refine wl_nil ?_
        refine wp_then ?_
        refine wp_frame (a' := ⟨#[(.int .u64 T), (.agg #[.slice a0 n0 c0]), (.int .u64 t), ud, (.pointer (some ⟨g1v, 0, none⟩)), ud, (.pointer (some ⟨g2v, 0, none⟩)), (.int .i64 0), (.slice Az9 Nz9 Cz9), (.slice Az6 Nz6 Cz6), (.int .i64 (divE T)), (.int .u64 t), (.int .u64 T), (.bool false), ud, (.int .u64 T), (.bool false), ud, (.tuple #[.slice Az5 Nz5 Cz5, .slice Az6 Nz6 Cz6, .int .i64 (divE T)]), (.pointer (some ⟨g1v, 0, none⟩)), (.slice a0 n0 c0), (.int .u64 t), (.slice Az3 Nz3 Cz3), (.int .u64 T), (.slice Az4 Nz4 Cz4), (.tuple #[.slice Az5 Nz5 Cz5, .slice Az6 Nz6 Cz6, .int .i64 (divE T)]), (.slice Az5 Nz5 Cz5), (.slice Az6 Nz6 Cz6), (.int .i64 (divE T)), (.slice Az6 Nz6 Cz6), (.int .i64 Nz6), (.bool true), (.slice Az5 Nz5 Cz5), (.slice Az8 Nz8 Cz8), (.slice Az9 Nz9 Cz9), (.slice Az9 Nz9 Cz9), (.agg #[.slice Az9 Nz9 Cz9])], []⟩) (by kernel_rfl) ?_
        refine wp_ret ?_
        repeat (first | refine ret_then ?_ | refine ret_block ?_)
        refine bodyPost_ret (ret_dec_tmp rfl rfl rfl (show Slot _ _ _ _ from ⟨X6.blk⟩)) rfl ?_
        have hh := Oz9
        refine ⟨Az9, Nz9, Cz9, ?_, ?_, by omega, BB⟩
        · refine Eq.trans (b := .returned (.tuple #[.agg #[.slice Az9 Nz9 Cz9], .int .i64 0])) (by kernel_rfl) ?_
          rw [show neE T t = 0 by simp only [neE]; (repeat' split) <;> first | rfl | (exfalso; omega)]
        · rw [show neV T x0 t = ((x0 * t / T) + 1) by simp only [neV, rnd, remV] at *; (repeat' split) <;> first | rfl | omega | (exfalso; omega) | (exfalso; simp_all; done) | (simp_all; done)]
          exact hh
      · skip
        refine wl_eq (some 31) (.bool (decide ((0 : Int) < (Nz6 : Int)))) (.bool false) (congrArg Value.bool (decide_eq_false cc7)) rfl rfl (by kernel_rfl) ?_
        refine wl_nil ?_
        refine wp_then ?_
        refine wp_frame (a' := ⟨#[(.int .u64 T), (.agg #[.slice a0 n0 c0]), (.int .u64 t), ud, (.pointer (some ⟨g1v, 0, none⟩)), ud, (.pointer (some ⟨g2v, 0, none⟩)), (.int .i64 0), (.slice Az5 Nz5 Cz5), (.slice Az6 Nz6 Cz6), (.int .i64 (divE T)), (.int .u64 t), (.int .u64 T), (.bool false), ud, (.int .u64 T), (.bool false), ud, (.tuple #[.slice Az5 Nz5 Cz5, .slice Az6 Nz6 Cz6, .int .i64 (divE T)]), (.pointer (some ⟨g1v, 0, none⟩)), (.slice a0 n0 c0), (.int .u64 t), (.slice Az3 Nz3 Cz3), (.int .u64 T), (.slice Az4 Nz4 Cz4), (.tuple #[.slice Az5 Nz5 Cz5, .slice Az6 Nz6 Cz6, .int .i64 (divE T)]), (.slice Az5 Nz5 Cz5), (.slice Az6 Nz6 Cz6), (.int .i64 (divE T)), (.slice Az6 Nz6 Cz6), (.int .i64 Nz6), (.bool false), ud, ud, ud, ud, ud], []⟩) (by kernel_rfl) ?_
        refine wp_cond_false (by kernel_rfl) ?_
        refine wp_skip_then ?_
        refine wp_seq ?_
        refine wl_start ?_
        refine wl_take (some 35) (.slice Az5 Nz5 Cz5) rfl rfl (by kernel_rfl) ?_
        refine wl_take (some 36) (.agg #[.slice Az5 Nz5 Cz5]) rfl rfl (by kernel_rfl) ?_
        refine wl_set' 6 36 26 (i := 0) (.slice none 0 0) (.slice Az5 Nz5 Cz5) X6 rfl rfl rfl rfl (by kernel_rfl) (by kernel_rfl) storex26 ?_
        intro v11w hv11w
        replace BB := BB.setCell (p := ⟨g2v, 0, none⟩) (show w.heap.size ≤ g2v by omega) (.slice Az5 Nz5 Cz5)
        replace h0 := h0.put (show Slot _ _ _ _ from ⟨X6.blk⟩) not_int (.slice Az5 Nz5 Cz5)
        replace X4 := X4.off (g' := g2v) (by omega) (i := 0) (.slice Az5 Nz5 Cz5)
        replace Oz3 := Oz3.put (show Slot _ _ _ _ from ⟨X6.blk⟩) not_int (.slice Az5 Nz5 Cz5)
        replace Oz4 := Oz4.put (show Slot _ _ _ _ from ⟨X6.blk⟩) not_int (.slice Az5 Nz5 Cz5)
        replace Oz5 := Oz5.put (show Slot _ _ _ _ from ⟨X6.blk⟩) not_int (.slice Az5 Nz5 Cz5)
        replace Oz6 := Oz6.put (show Slot _ _ _ _ from ⟨X6.blk⟩) not_int (.slice Az5 Nz5 Cz5)
        replace X6 := X6.setCell (i := 0) (.slice Az5 Nz5 Cz5)
        rw [hv11w] at BB h0 X4 X6 Oz3 Oz4 Oz5 Oz6
        clear hv11w
        refine wl_take (some 7) (.int .i64 0) rfl rfl (by kernel_rfl) ?_
        refine wl_nil ?_
        refine wp_then ?_
        refine wp_frame (a' := ⟨#[(.int .u64 T), (.agg #[.slice a0 n0 c0]), (.int .u64 t), ud, (.pointer (some ⟨g1v, 0, none⟩)), ud, (.pointer (some ⟨g2v, 0, none⟩)), (.int .i64 0), (.slice Az5 Nz5 Cz5), (.slice Az6 Nz6 Cz6), (.int .i64 (divE T)), (.int .u64 t), (.int .u64 T), (.bool false), ud, (.int .u64 T), (.bool false), ud, (.tuple #[.slice Az5 Nz5 Cz5, .slice Az6 Nz6 Cz6, .int .i64 (divE T)]), (.pointer (some ⟨g1v, 0, none⟩)), (.slice a0 n0 c0), (.int .u64 t), (.slice Az3 Nz3 Cz3), (.int .u64 T), (.slice Az4 Nz4 Cz4), (.tuple #[.slice Az5 Nz5 Cz5, .slice Az6 Nz6 Cz6, .int .i64 (divE T)]), (.slice Az5 Nz5 Cz5), (.slice Az6 Nz6 Cz6), (.int .i64 (divE T)), (.slice Az6 Nz6 Cz6), (.int .i64 Nz6), (.bool false), ud, ud, ud, (.slice Az5 Nz5 Cz5), (.agg #[.slice Az5 Nz5 Cz5])], []⟩) (by kernel_rfl) ?_
        refine wp_ret ?_
        repeat (first | refine ret_then ?_ | refine ret_block ?_)
        refine bodyPost_ret (ret_dec_tmp rfl rfl rfl (show Slot _ _ _ _ from ⟨X6.blk⟩)) rfl ?_
        have hh := Oz5
        refine ⟨Az5, Nz5, Cz5, ?_, ?_, by omega, BB⟩
        · refine Eq.trans (b := .returned (.tuple #[.agg #[.slice Az5 Nz5 Cz5], .int .i64 0])) (by kernel_rfl) ?_
          rw [show neE T t = 0 by simp only [neE]; (repeat' split) <;> first | rfl | (exfalso; omega)]
        · rw [show neV T x0 t = (x0 * t / T) by simp only [neV, rnd, remV] at *; (repeat' split) <;> first | rfl | omega | (exfalso; omega) | (exfalso; simp_all; done) | (simp_all; done)]
          exact hh
set_option maxHeartbeats 2000000 in
set_option maxRecDepth 100000 in
theorem tWorth {w : World} {T : Int} {a0 a1 : Option Addr} {n0 c0 n1 c1 : Nat} {x0 x1 : Int} (hT : 0 ≤ T ∧ T < 18446744073709551616) (h0 : NatA w a0 n0 c0 x0) (k0 : n0 ≤ 100000) (h1 : NatA w a1 n1 c1 x1) (k1 : n1 ≤ 100000) :
    Calls Tryz.prog 14 #[.int .u64 T, .agg #[.slice a0 n0 c0], .agg #[.slice a1 n1 c1]] w fun e w' => ∃ a k d, e = .returned (.agg #[.slice a k d]) ∧ NatO w' a k d (woV T x0 x1) ∧ k ≤ 2000000 ∧ Below w.heap.size w w' := by
  have BB := Below.refl w.heap.size w
  go_enter Tryz.func14, Tryz.ntmps14
  refine wp_seq ?_
  refine wl_start ?_
  have bs0 := BB.size
  refine wl_box 4 1 26 [.slice a0 n0 c0] rfl rfl rfl (by kernel_rfl) boxx26 ?_
  intro v1w g1v X4 hg1v B
  replace h0 := h0.keep B
  replace h1 := h1.keep B
  replace BB := joinB BB B
  clear B
  have lX4 := X4.lt
  have bs1 := BB.size
  refine wl_box 5 2 26 [.slice a1 n1 c1] rfl rfl rfl (by kernel_rfl) boxx26 ?_
  intro v2w g2v X5 hg2v B
  replace h0 := h0.keep B
  replace h1 := h1.keep B
  replace X4 := X4.keep B
  replace BB := joinB BB B
  clear B
  have lX4 := X4.lt
  have lX5 := X5.lt
  have bs2 := BB.size
  refine wl_alloc 6 26 [.slice none 0 0] rfl rfl rfl allocx26 ?_
  intro v3w g3v X6 hg3v B
  replace h0 := h0.keep B
  replace h1 := h1.keep B
  replace X4 := X4.keep B
  replace X5 := X5.keep B
  replace BB := joinB BB B
  clear B
  refine wl_nil ?_
  refine wp_then ?_
  refine wp_frame (a' := ⟨#[(.int .u64 T), (.agg #[.slice a0 n0 c0]), (.agg #[.slice a1 n1 c1]), ud, (.pointer (some ⟨g1v, 0, none⟩)), (.pointer (some ⟨g2v, 0, none⟩)), (.pointer (some ⟨g3v, 0, none⟩)), ud, ud, ud, ud, ud, ud, ud, ud, ud, ud, ud, ud, ud, ud, ud, ud, ud, ud, ud, ud, ud], []⟩) (by kernel_rfl) ?_
  refine wp_seq ?_
  refine wp_seq ?_
  refine wl_start ?_
  refine wl_take (some 10) (.agg #[.slice a0 n0 c0]) rfl rfl (run_lp 4 (by kernel_rfl) (by kernel_rfl) (ldx26 (X4.cell (i := 0) rfl))) ?_
  by_cases cc1 : x0 = 0
  · skip
    refine wl_call (some 11) 25 #[.agg #[.slice a0 n0 c0]] rfl rfl (by kernel_rfl) (zeroE h0 (by omega) true (decide_eq_true cc1)) ?_
    rintro e1 v4w ⟨rfl, B⟩
    refine ⟨_, rfl, ?_⟩
    replace h0 := h0.keep B
    replace h1 := h1.keep B
    replace X4 := X4.keep B
    replace X5 := X5.keep B
    replace X6 := X6.keep B
    replace BB := joinB BB B
    clear B
    refine wl_nil ?_
    refine wp_then ?_
    refine wp_frame (a' := ⟨#[(.int .u64 T), (.agg #[.slice a0 n0 c0]), (.agg #[.slice a1 n1 c1]), ud, (.pointer (some ⟨g1v, 0, none⟩)), (.pointer (some ⟨g2v, 0, none⟩)), (.pointer (some ⟨g3v, 0, none⟩)), ud, ud, ud, (.agg #[.slice a0 n0 c0]), (.bool true), ud, ud, ud, ud, ud, ud, ud, ud, ud, ud, ud, ud, ud, ud, ud, ud], []⟩) (by kernel_rfl) ?_
    refine wp_cond_true (by kernel_rfl) ?_
    refine wp_seq ?_
    refine wl_start ?_
    refine wl_take (some 12) (.agg #[.slice none 0 0]) rfl rfl (by kernel_rfl) ?_
    refine wl_set' 6 12 26 (i := 0) (.slice none 0 0) (.slice none 0 0) X6 rfl rfl rfl rfl (by kernel_rfl) (by kernel_rfl) storex26 ?_
    intro v5w hv5w
    replace BB := BB.setCell (p := ⟨g3v, 0, none⟩) (show w.heap.size ≤ g3v by omega) (.slice none 0 0)
    replace h0 := h0.put (show Slot _ _ _ _ from ⟨X6.blk⟩) not_int (.slice none 0 0)
    replace h1 := h1.put (show Slot _ _ _ _ from ⟨X6.blk⟩) not_int (.slice none 0 0)
    replace X4 := X4.off (g' := g3v) (by omega) (i := 0) (.slice none 0 0)
    replace X5 := X5.off (g' := g3v) (by omega) (i := 0) (.slice none 0 0)
    replace X6 := X6.setCell (i := 0) (.slice none 0 0)
    rw [hv5w] at BB h0 h1 X4 X5 X6
    clear hv5w
    refine wl_nil ?_
    refine wp_then ?_
    refine wp_frame (a' := ⟨#[(.int .u64 T), (.agg #[.slice a0 n0 c0]), (.agg #[.slice a1 n1 c1]), ud, (.pointer (some ⟨g1v, 0, none⟩)), (.pointer (some ⟨g2v, 0, none⟩)), (.pointer (some ⟨g3v, 0, none⟩)), ud, ud, ud, (.agg #[.slice a0 n0 c0]), (.bool true), (.agg #[.slice none 0 0]), ud, ud, ud, ud, ud, ud, ud, ud, ud, ud, ud, ud, ud, ud, ud], []⟩) (by kernel_rfl) ?_
    refine wp_ret ?_
    repeat (first | refine ret_then ?_ | refine ret_block ?_)
    refine bodyPost_ret (ret_dec rfl rfl (show Slot _ _ _ _ from ⟨X6.blk⟩)) rfl ?_
    have hh := natO_nil v5w
    refine ⟨none, 0, 0, rfl, ?_, by omega, BB⟩
    rw [show woV T x0 x1 = 0 by simp only [woV]; split <;> first | rfl | (rw [Int.mul_assoc]; done) | (exfalso; omega)]
    exact hh
  · skip
    refine wl_call (some 11) 25 #[.agg #[.slice a0 n0 c0]] rfl rfl (by kernel_rfl) (zeroE h0 (by omega) false (decide_eq_false cc1)) ?_
    rintro e1 v6w ⟨rfl, B⟩
    refine ⟨_, rfl, ?_⟩
    replace h0 := h0.keep B
    replace h1 := h1.keep B
    replace X4 := X4.keep B
    replace X5 := X5.keep B
    replace X6 := X6.keep B
    replace BB := joinB BB B
    clear B
    refine wl_nil ?_
    refine wp_then ?_
    refine wp_frame (a' := ⟨#[(.int .u64 T), (.agg #[.slice a0 n0 c0]), (.agg #[.slice a1 n1 c1]), ud, (.pointer (some ⟨g1v, 0, none⟩)), (.pointer (some ⟨g2v, 0, none⟩)), (.pointer (some ⟨g3v, 0, none⟩)), ud, ud, ud, (.agg #[.slice a0 n0 c0]), (.bool false), ud, ud, ud, ud, ud, ud, ud, ud, ud, ud, ud, ud, ud, ud, ud, ud], []⟩) (by kernel_rfl) ?_
    refine wp_cond_false (by kernel_rfl) ?_
    refine wp_skip_then ?_
    refine wp_seq ?_
    refine rg_start (S := fun w' => Below v6w.drew.heap.size v6w.drew w') (by kernel_rfl) (Below.refl _ _) ?_
    replace h0 := h0.drew
    replace h1 := h1.drew
    replace X4 := X4.drew
    replace X5 := X5.drew
    replace X6 := X6.drew
    replace BB := BB.drew
    have hS := Below.refl v6w.drew.heap.size v6w.drew
    have UX4 := X4
    have UX5 := X5
    have UX6 := X6
    refine rg_take 0 (some 14) (.pointer (some ⟨g2v, 0, none⟩)) (by kernel_rfl) (fun _ _ => by kernel_rfl) (fun _ _ _ h => h) hS ?_
    refine rg_load 1 (some 15) (.slice a1 n1 c1) 24 14 (g2v) 0 (by kernel_rfl) (by kernel_rfl) (by kernel_rfl) (fun _ hb => ldx24 ((UX5.keep hb).cell (i := 0) rfl)) (fun _ _ _ h => h) hS ?_
    refine rg_take 2 (some 16) (.int .u64 T) (by kernel_rfl) (fun _ _ => by kernel_rfl) (fun _ _ _ h => h) hS ?_
    refine rg_take 6 (some 20) (.pointer (some ⟨g1v, 0, none⟩)) (by kernel_rfl) (fun _ _ => by kernel_rfl) (fun _ _ _ h => h) hS ?_
    refine rg_load 7 (some 21) (.slice a0 n0 c0) 24 20 (g1v) 0 (by kernel_rfl) (by kernel_rfl) (by kernel_rfl) (fun _ hb => ldx24 ((UX4.keep hb).cell (i := 0) rfl)) (fun _ _ _ h => h) hS ?_
    refine rg_call 3 (some 17) 28 #[.int .u64 T] (by kernel_rfl) (by kernel_rfl) (rOf (x := T) hT.1 hT.2) ?_
    rintro e1 v7w ⟨Az2, Nz2, Cz2, rfl, Oz2, Kz2, B⟩
    refine ⟨_, rfl, joinB hS B, ?_⟩
    replace hS := joinB hS B
    replace h0 := h0.keep B
    replace h1 := h1.keep B
    replace X4 := X4.keep B
    replace X5 := X5.keep B
    replace X6 := X6.keep B
    replace BB := joinB BB B
    clear B
    refine rg_call 4 (some 18) 37 #[.slice a1 n1 c1, .slice Az2 Nz2 Cz2] (by kernel_rfl) (by kernel_rfl) (rMul h1 Oz2.a (by omega) (by omega)) ?_
    rintro e1 v8w ⟨Az3, Nz3, Cz3, rfl, Oz3, Kz3, B⟩
    refine ⟨_, rfl, joinB hS B, ?_⟩
    replace hS := joinB hS B
    replace h0 := h0.keep B
    replace h1 := h1.keep B
    replace X4 := X4.keep B
    replace X5 := X5.keep B
    replace X6 := X6.keep B
    replace Oz2 := Oz2.keep B
    replace BB := joinB BB B
    clear B
    refine rg_call 5 (some 19) 38 #[] (by kernel_rfl) (by kernel_rfl) (eOne) ?_
    rintro e1 v9w ⟨Az4, Nz4, Cz4, rfl, Oz4, Kz4, B⟩
    refine ⟨_, rfl, joinB hS B, ?_⟩
    replace hS := joinB hS B
    replace h0 := h0.keep B
    replace h1 := h1.keep B
    replace X4 := X4.keep B
    replace X5 := X5.keep B
    replace X6 := X6.keep B
    replace Oz2 := Oz2.keep B
    replace Oz3 := Oz3.keep B
    replace BB := joinB BB B
    clear B
    refine rg_call 8 (some 22) 27 #[.slice Az3 Nz3 Cz3, .slice Az4 Nz4 Cz4, .slice a0 n0 c0] (by kernel_rfl) (by kernel_rfl) (rMulDivV Oz3.a Oz4.a h0 (by omega) (by omega) (by omega)) ?_
    rintro e1 v10w ⟨Az5, Nz5, Cz5, Az6, Nz6, Cz6, rfl, Oz5, Oz6, Kz5, Kz6, B⟩
    refine ⟨_, rfl, joinB hS B, ?_⟩
    replace hS := joinB hS B
    replace h0 := h0.keep B
    replace h1 := h1.keep B
    replace X4 := X4.keep B
    replace X5 := X5.keep B
    replace X6 := X6.keep B
    replace Oz2 := Oz2.keep B
    replace Oz3 := Oz3.keep B
    replace Oz4 := Oz4.keep B
    replace BB := joinB BB B
    clear B
    have lnz5 := natO_zero Oz5
    have lnz6 := natO_zero Oz6
    refine rg_take 9 (some 13) (.tuple #[.slice Az5 Nz5 Cz5, .slice Az6 Nz6 Cz6, .int .i64 (divE x0)]) (by kernel_rfl) (fun _ _ => by kernel_rfl) (fun _ _ _ h => h) hS ?_
    refine rg_take 10 (some 23) (.slice Az5 Nz5 Cz5) (by kernel_rfl) (fun _ _ => by kernel_rfl) (fun _ _ _ h => h) hS ?_
    refine rg_take 11 (some 24) (.slice Az6 Nz6 Cz6) (by kernel_rfl) (fun _ _ => by kernel_rfl) (fun _ _ _ h => h) hS ?_
    refine rg_take 12 (some 25) (.int .i64 (divE x0)) (by kernel_rfl) (fun _ _ => by kernel_rfl) (fun _ _ _ h => h) hS ?_
    refine rg_take 13 (some 7) (.slice Az5 Nz5 Cz5) (by kernel_rfl) (fun _ _ => by kernel_rfl) (fun _ _ _ h => h) hS ?_
    refine rg_take 14 (some 8) (.slice Az6 Nz6 Cz6) (by kernel_rfl) (fun _ _ => by kernel_rfl) (fun _ _ _ h => h) hS ?_
    refine rg_take 15 (some 9) (.int .i64 (divE x0)) (by kernel_rfl) (fun _ _ => by kernel_rfl) (fun _ _ _ h => h) hS ?_
    refine rg_done (by kernel_rfl) ?_
    clear hS UX4 UX5 UX6
    refine wp_then ?_
    refine wp_frame (a' := ⟨#[(.int .u64 T), (.agg #[.slice a0 n0 c0]), (.agg #[.slice a1 n1 c1]), ud, (.pointer (some ⟨g1v, 0, none⟩)), (.pointer (some ⟨g2v, 0, none⟩)), (.pointer (some ⟨g3v, 0, none⟩)), (.slice Az5 Nz5 Cz5), (.slice Az6 Nz6 Cz6), (.int .i64 (divE x0)), (.agg #[.slice a0 n0 c0]), (.bool false), ud, (.tuple #[.slice Az5 Nz5 Cz5, .slice Az6 Nz6 Cz6, .int .i64 (divE x0)]), (.pointer (some ⟨g2v, 0, none⟩)), (.slice a1 n1 c1), (.int .u64 T), (.slice Az2 Nz2 Cz2), (.slice Az3 Nz3 Cz3), (.slice Az4 Nz4 Cz4), (.pointer (some ⟨g1v, 0, none⟩)), (.slice a0 n0 c0), (.tuple #[.slice Az5 Nz5 Cz5, .slice Az6 Nz6 Cz6, .int .i64 (divE x0)]), (.slice Az5 Nz5 Cz5), (.slice Az6 Nz6 Cz6), (.int .i64 (divE x0)), ud, ud], []⟩) (by kernel_rfl) ?_
    refine wp_seq ?_
    refine wl_start ?_
    refine wl_take (some 26) (.slice Az5 Nz5 Cz5) rfl rfl (by kernel_rfl) ?_
    refine wl_take (some 27) (.agg #[.slice Az5 Nz5 Cz5]) rfl rfl (by kernel_rfl) ?_
    refine wl_set' 6 27 26 (i := 0) (.slice none 0 0) (.slice Az5 Nz5 Cz5) X6 rfl rfl rfl rfl (by kernel_rfl) (by kernel_rfl) storex26 ?_
    intro v11w hv11w
    replace BB := BB.setCell (p := ⟨g3v, 0, none⟩) (show w.heap.size ≤ g3v by omega) (.slice Az5 Nz5 Cz5)
    replace h0 := h0.put (show Slot _ _ _ _ from ⟨X6.blk⟩) not_int (.slice Az5 Nz5 Cz5)
    replace h1 := h1.put (show Slot _ _ _ _ from ⟨X6.blk⟩) not_int (.slice Az5 Nz5 Cz5)
    replace X4 := X4.off (g' := g3v) (by omega) (i := 0) (.slice Az5 Nz5 Cz5)
    replace X5 := X5.off (g' := g3v) (by omega) (i := 0) (.slice Az5 Nz5 Cz5)
    replace Oz2 := Oz2.put (show Slot _ _ _ _ from ⟨X6.blk⟩) not_int (.slice Az5 Nz5 Cz5)
    replace Oz3 := Oz3.put (show Slot _ _ _ _ from ⟨X6.blk⟩) not_int (.slice Az5 Nz5 Cz5)
    replace Oz4 := Oz4.put (show Slot _ _ _ _ from ⟨X6.blk⟩) not_int (.slice Az5 Nz5 Cz5)
    replace Oz5 := Oz5.put (show Slot _ _ _ _ from ⟨X6.blk⟩) not_int (.slice Az5 Nz5 Cz5)
    replace Oz6 := Oz6.put (show Slot _ _ _ _ from ⟨X6.blk⟩) not_int (.slice Az5 Nz5 Cz5)
    replace X6 := X6.setCell (i := 0) (.slice Az5 Nz5 Cz5)
    rw [hv11w] at BB h0 h1 X4 X5 X6 Oz2 Oz3 Oz4 Oz5 Oz6
    clear hv11w
    refine wl_nil ?_
    refine wp_then ?_
    refine wp_frame (a' := ⟨#[(.int .u64 T), (.agg #[.slice a0 n0 c0]), (.agg #[.slice a1 n1 c1]), ud, (.pointer (some ⟨g1v, 0, none⟩)), (.pointer (some ⟨g2v, 0, none⟩)), (.pointer (some ⟨g3v, 0, none⟩)), (.slice Az5 Nz5 Cz5), (.slice Az6 Nz6 Cz6), (.int .i64 (divE x0)), (.agg #[.slice a0 n0 c0]), (.bool false), ud, (.tuple #[.slice Az5 Nz5 Cz5, .slice Az6 Nz6 Cz6, .int .i64 (divE x0)]), (.pointer (some ⟨g2v, 0, none⟩)), (.slice a1 n1 c1), (.int .u64 T), (.slice Az2 Nz2 Cz2), (.slice Az3 Nz3 Cz3), (.slice Az4 Nz4 Cz4), (.pointer (some ⟨g1v, 0, none⟩)), (.slice a0 n0 c0), (.tuple #[.slice Az5 Nz5 Cz5, .slice Az6 Nz6 Cz6, .int .i64 (divE x0)]), (.slice Az5 Nz5 Cz5), (.slice Az6 Nz6 Cz6), (.int .i64 (divE x0)), (.slice Az5 Nz5 Cz5), (.agg #[.slice Az5 Nz5 Cz5])], []⟩) (by kernel_rfl) ?_
    refine wp_ret ?_
    repeat (first | refine ret_then ?_ | refine ret_block ?_)
    refine bodyPost_ret (ret_dec rfl rfl (show Slot _ _ _ _ from ⟨X6.blk⟩)) rfl ?_
    have hh := Oz5
    refine ⟨Az5, Nz5, Cz5, rfl, ?_, by omega, BB⟩
    rw [show woV T x0 x1 = ((x1 * T) * U36 / x0) by simp only [woV]; split <;> first | rfl | (rw [Int.mul_assoc]; done) | (exfalso; omega)]
    exact hh
set_option maxHeartbeats 2000000 in
set_option maxRecDepth 100000 in
theorem tCut {w : World} {n p : Int} (hn : 0 ≤ n ∧ n < 18446744073709551616) (hp : 0 ≤ p ∧ p < 18446744073709551616) :
    Calls Tryz.prog 16 #[.int .u64 n, .int .u64 p] w fun e w' => e = .returned (.int .u64 (n * min p 10000 / 10000)) ∧ Below w.heap.size w w' := by
  have hmin : 0 ≤ min p 10000 ∧ min p 10000 < 18446744073709551616 := by omega
  have BB := Below.refl w.heap.size w
  go_enter Tryz.func16, Tryz.ntmps16
  refine wp_seq ?_
  refine wl_start ?_
  refine wl_take (some 4) (.int .u64 0) rfl rfl (by kernel_rfl) ?_
  refine wl_nil ?_
  refine wp_then ?_
  refine wp_frame (a' := ⟨#[(.int .u64 n), (.int .u64 p), ud, ud, (.int .u64 0), ud, ud, ud, ud, ud, ud, ud, ud, ud, ud, ud, ud, ud, ud, ud, ud, ud, ud, ud, ud, ud, ud], []⟩) (by kernel_rfl) ?_
  refine wp_seq ?_
  refine wl_start ?_
  refine wl_take (some 11) (.int .u64 n) rfl rfl (by kernel_rfl) ?_
  refine wl_call (some 12) 28 #[.int .u64 n] rfl rfl (by kernel_rfl) (rOf (x := n) hn.1 hn.2) ?_
  rintro e1 v1w ⟨Az1, Nz1, Cz1, rfl, Oz1, Kz1, B⟩
  refine ⟨_, rfl, ?_⟩
  replace BB := joinB BB B
  clear B
  refine wl_take (some 13) (.int .u64 p) rfl rfl (by kernel_rfl) ?_
  refine wl_take (some 14) (.int .u64 (min p 10000)) rfl rfl (run_min (x := 13) (T := #[22, 22]) (by kernel_rfl) (by kernel_rfl)) ?_
  refine wl_call (some 15) 28 #[.int .u64 (min p 10000)] rfl rfl (by kernel_rfl) (rOf (x := min p 10000) hmin.1 hmin.2) ?_
  rintro e1 v2w ⟨Az2, Nz2, Cz2, rfl, Oz2, Kz2, B⟩
  refine ⟨_, rfl, ?_⟩
  replace Oz1 := Oz1.keep B
  replace BB := joinB BB B
  clear B
  refine wl_call (some 16) 28 #[.int .u64 10000] rfl rfl (by kernel_rfl) (rOf (x := 10000) (⟨by decide, by decide⟩ : (0 : Int) ≤ 10000 ∧ (10000 : Int) < 18446744073709551616).1 (⟨by decide, by decide⟩ : (0 : Int) ≤ 10000 ∧ (10000 : Int) < 18446744073709551616).2) ?_
  rintro e1 v3w ⟨Az3, Nz3, Cz3, rfl, Oz3, Kz3, B⟩
  refine ⟨_, rfl, ?_⟩
  replace Oz1 := Oz1.keep B
  replace Oz2 := Oz2.keep B
  replace BB := joinB BB B
  clear B
  refine wl_call (some 17) 27 #[.slice Az1 Nz1 Cz1, .slice Az2 Nz2 Cz2, .slice Az3 Nz3 Cz3] rfl rfl (by kernel_rfl) (rMulDivV Oz1.a Oz2.a Oz3.a (by omega) (by omega) (by omega)) ?_
  rintro e1 v4w ⟨Az4, Nz4, Cz4, Az5, Nz5, Cz5, rfl, Oz4, Oz5, Kz4, Kz5, B⟩
  refine ⟨_, rfl, ?_⟩
  replace Oz1 := Oz1.keep B
  replace Oz2 := Oz2.keep B
  replace Oz3 := Oz3.keep B
  replace BB := joinB BB B
  clear B
  have lnz4 := natO_zero Oz4
  have lnz5 := natO_zero Oz5
  refine wl_take (some 10) (.tuple #[.slice Az4 Nz4 Cz4, .slice Az5 Nz5 Cz5, .int .i64 (divE 10000)]) rfl rfl (by kernel_rfl) ?_
  refine wl_take (some 18) (.slice Az4 Nz4 Cz4) rfl rfl (by kernel_rfl) ?_
  refine wl_take (some 19) (.slice Az5 Nz5 Cz5) rfl rfl (by kernel_rfl) ?_
  refine wl_take (some 20) (.int .i64 (divE 10000)) rfl rfl (by kernel_rfl) ?_
  refine wl_take (some 5) (.slice Az4 Nz4 Cz4) rfl rfl (by kernel_rfl) ?_
  refine wl_take (some 6) (.slice Az5 Nz5 Cz5) rfl rfl (by kernel_rfl) ?_
  refine wl_take (some 7) (.int .i64 (divE 10000)) rfl rfl (by kernel_rfl) ?_
  refine wl_nil ?_
  refine wp_then ?_
  refine wp_frame (a' := ⟨#[(.int .u64 n), (.int .u64 p), ud, ud, (.int .u64 0), (.slice Az4 Nz4 Cz4), (.slice Az5 Nz5 Cz5), (.int .i64 (divE 10000)), ud, ud, (.tuple #[.slice Az4 Nz4 Cz4, .slice Az5 Nz5 Cz5, .int .i64 (divE 10000)]), (.int .u64 n), (.slice Az1 Nz1 Cz1), (.int .u64 p), (.int .u64 (min p 10000)), (.slice Az2 Nz2 Cz2), (.slice Az3 Nz3 Cz3), (.tuple #[.slice Az4 Nz4 Cz4, .slice Az5 Nz5 Cz5, .int .i64 (divE 10000)]), (.slice Az4 Nz4 Cz4), (.slice Az5 Nz5 Cz5), (.int .i64 (divE 10000)), ud, ud, ud, ud, ud, ud], []⟩) (by kernel_rfl) ?_
  refine wp_seq ?_
  refine wl_start ?_
  refine wl_take (some 22) (.slice Az4 Nz4 Cz4) rfl rfl (by kernel_rfl) ?_
  refine wl_call (some 23) 35 #[.slice Az4 Nz4 Cz4] rfl rfl (by kernel_rfl) (rSmallV Oz4.a (by omega)) ?_
  rintro e1 v5w ⟨rfl, B⟩
  refine ⟨_, rfl, ?_⟩
  replace Oz1 := Oz1.keep B
  replace Oz2 := Oz2.keep B
  replace Oz3 := Oz3.keep B
  replace Oz4 := Oz4.keep B
  replace Oz5 := Oz5.keep B
  replace BB := joinB BB B
  clear B
  refine wl_take (some 21) (.tuple #[.int .u64 (smV (n * min p 10000 / 10000)), .bool (smB (n * min p 10000 / 10000))]) rfl rfl (by kernel_rfl) ?_
  refine wl_take (some 24) (.int .u64 (smV (n * min p 10000 / 10000))) rfl rfl (by kernel_rfl) ?_
  refine wl_take (some 25) (.bool (smB (n * min p 10000 / 10000))) rfl rfl (by kernel_rfl) ?_
  refine wl_take (some 8) (.int .u64 (smV (n * min p 10000 / 10000))) rfl rfl (by kernel_rfl) ?_
  refine wl_take (some 9) (.bool (smB (n * min p 10000 / 10000))) rfl rfl (by kernel_rfl) ?_
  refine wl_nil ?_
  refine wp_then ?_
  refine wp_frame (a' := ⟨#[(.int .u64 n), (.int .u64 p), ud, ud, (.int .u64 0), (.slice Az4 Nz4 Cz4), (.slice Az5 Nz5 Cz5), (.int .i64 (divE 10000)), (.int .u64 (smV (n * min p 10000 / 10000))), (.bool (smB (n * min p 10000 / 10000))), (.tuple #[.slice Az4 Nz4 Cz4, .slice Az5 Nz5 Cz5, .int .i64 (divE 10000)]), (.int .u64 n), (.slice Az1 Nz1 Cz1), (.int .u64 p), (.int .u64 (min p 10000)), (.slice Az2 Nz2 Cz2), (.slice Az3 Nz3 Cz3), (.tuple #[.slice Az4 Nz4 Cz4, .slice Az5 Nz5 Cz5, .int .i64 (divE 10000)]), (.slice Az4 Nz4 Cz4), (.slice Az5 Nz5 Cz5), (.int .i64 (divE 10000)), (.tuple #[.int .u64 (smV (n * min p 10000 / 10000)), .bool (smB (n * min p 10000 / 10000))]), (.slice Az4 Nz4 Cz4), (.tuple #[.int .u64 (smV (n * min p 10000 / 10000)), .bool (smB (n * min p 10000 / 10000))]), (.int .u64 (smV (n * min p 10000 / 10000))), (.bool (smB (n * min p 10000 / 10000))), ud], []⟩) (by kernel_rfl) ?_
  refine wp_seq ?_
  refine wl_start ?_
  refine wl_take (some 26) (.int .u64 (smV (n * min p 10000 / 10000))) rfl rfl (by kernel_rfl) ?_
  refine wl_take (some 4) (.int .u64 (smV (n * min p 10000 / 10000))) rfl rfl (by kernel_rfl) ?_
  refine wl_nil ?_
  refine wp_then ?_
  refine wp_frame (a' := ⟨#[(.int .u64 n), (.int .u64 p), ud, ud, (.int .u64 (smV (n * min p 10000 / 10000))), (.slice Az4 Nz4 Cz4), (.slice Az5 Nz5 Cz5), (.int .i64 (divE 10000)), (.int .u64 (smV (n * min p 10000 / 10000))), (.bool (smB (n * min p 10000 / 10000))), (.tuple #[.slice Az4 Nz4 Cz4, .slice Az5 Nz5 Cz5, .int .i64 (divE 10000)]), (.int .u64 n), (.slice Az1 Nz1 Cz1), (.int .u64 p), (.int .u64 (min p 10000)), (.slice Az2 Nz2 Cz2), (.slice Az3 Nz3 Cz3), (.tuple #[.slice Az4 Nz4 Cz4, .slice Az5 Nz5 Cz5, .int .i64 (divE 10000)]), (.slice Az4 Nz4 Cz4), (.slice Az5 Nz5 Cz5), (.int .i64 (divE 10000)), (.tuple #[.int .u64 (smV (n * min p 10000 / 10000)), .bool (smB (n * min p 10000 / 10000))]), (.slice Az4 Nz4 Cz4), (.tuple #[.int .u64 (smV (n * min p 10000 / 10000)), .bool (smB (n * min p 10000 / 10000))]), (.int .u64 (smV (n * min p 10000 / 10000))), (.bool (smB (n * min p 10000 / 10000))), (.int .u64 (smV (n * min p 10000 / 10000)))], []⟩) (by kernel_rfl) ?_
  refine wp_ret ?_
  repeat (first | refine ret_then ?_ | refine ret_block ?_)
  refine bodyPost_ret (results_tmp rfl _ _ _) rfl ?_
  refine ⟨Eq.trans (b := .returned (.int .u64 (smV (n * min p 10000 / 10000)))) (by kernel_rfl) (by rw [← cut_small hn]), BB⟩
end Sh
end Go.Proofs.YtdgdfhefnlaalaaGreatDoor
