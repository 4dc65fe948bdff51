/- keys.Of, keys.Under, keys.Val; forms in bytes. -/
import Derived.Test.YtfljmcfipnmkgaaKyJ
import Derived.Laws.BitsLemmas
namespace Go.Proofs.Ytfljmcfipnmkgaa
namespace Ky
open Go.RowKit Go.Lib Pg
attribute [local go_sem] Oper.semAt_some eq50
theorem ob_new (w : World) (x : Int) (hx : 0 ≤ x ∧ x < 256) : OB (w.alloc (.cells #[.int .u8 x] 5)) (w.heap.size ≤ ·) (.slice (some ⟨w.heap.size, 0, none⟩) 1 1) [x] :=
  ⟨fun y hy => by simp at hy; subst hy; exact hx, .inr ⟨_, 1, rfl, Nat.le_refl _, blk_rw (n := 1) (blk_new w [.int .u8 x] 5) rfl (by decide)⟩⟩
theorem ob_nil (w : World) (D : Nat → Prop) : OB w D (.slice none 0 0) [] := ⟨fun _ h => by simp at h, .inl ⟨rfl, rfl⟩⟩
set_option maxHeartbeats 4000000 in
set_option maxRecDepth 100000 in
theorem of_any {w : World} {k : Int} : Calls Try.prog 22 #[.int .i64 k] w fun e w' => ∃ v, e = .returned (.tuple #[v, .int .i64 (if (frm k).1 = 0 then 70 else 0)]) ∧ OB w' (w.heap.size ≤ ·) v (if (frm k).1 = 0 then [] else [(frm k).2.1]) ∧ Below w.heap.size w w' := by
  obtain ⟨n, m0, m1, hf, hn, hm0, hm1, hz⟩ := frm_shape k
  have u1 := fun w => formOf_any (w := w) (k := k)
  rw [hf] at u1
  simp only [fv] at u1
  rw [hf]
  have HM0 := hid2 hm0
  by_cases hn0 : n = 0
  · subst hn0
    obtain ⟨z0, z1⟩ := hz rfl
    subst z0 z1
    simp only [show ((0 : Nat) : Int) = 0 from rfl] at u1 ⊢
    clear hf hm0 hm1
    go_enter Try.func22, Try.ntmps22
    go_wp2_with (go_at_call 28; refine (u1 _).mono ?_; rintro e w1 ⟨rfl, b1⟩)
    go_ret2
    exact ⟨_, rfl, ob_nil _ _, joinB b1 (below_alloc _ _)⟩
  · have nz0 : ¬ ((n : Int) = 0) := by omega
    have HZ := hid2 nz0
    simp only
    rw [if_neg nz0, if_neg nz0]
    clear hf hm0 hm1 hz hn0
    go_enter Try.func22, Try.ntmps22
    go_wp2_with (go_at_call 28; refine (u1 _).mono ?_; rintro e w1 ⟨rfl, b1⟩)
    go_ret2
    have al := below_alloc w1 (.cells #[.int .i64 (n : Int), .int .u8 m0, .int .u8 m1] 52)
    have O9 := ob_new (w1.alloc (.cells #[.int .i64 (n : Int), .int .u8 m0, .int .u8 m1] 52)) m0 HM0.out
    rw [show (w1.alloc (.cells #[.int .i64 (n : Int), .int .u8 m0, .int .u8 m1] 52)).heap.size = w1.heap.size + 1 by simp] at O9
    refine ⟨_, rfl, O9.mono (fun b _ h => ?_), joinB b1 (joinB al (below_alloc _ _))⟩
    have := b1.size
    omega
set_option maxHeartbeats 4000000 in
set_option maxRecDepth 100000 in
theorem val_any {w : World} {x : Int} : Calls Try.prog 10 #[.int .u64 x] w fun e w' => ∃ v, e = .returned v ∧ OB w' (w.heap.size ≤ ·) v ([118] ++ be 8 x) ∧ Below w.heap.size w w' := by
  have u1 := fun w => formOf_any (w := w) (k := 5)
  rw [show frm 5 = (10, 118, 48) from rfl] at u1
  simp only [fv] at u1
  have f1 : ∀ w, (Instr.field 52 (.agg #[.int .i64 10, .int .u8 118, .int .u8 48]) 1).run Try.prog w = .ok (.agg #[.int .u8 118, .int .u8 48]) w := fun w => by kernel_rfl
  have f2 : ∀ w, (Instr.index 50 (.agg #[.int .u8 118, .int .u8 48]) (.int .i64 0)).run Try.prog w = .ok (.int .u8 118) w := fun w => by kernel_rfl
  go_enter Try.func10, Try.ntmps10
  go_wp2_with first
    | (go_at_call 28; refine (u1 _).mono ?_; rintro e w1 ⟨rfl, b1⟩; have O1 := ob_new w1 118 (by decide); have al := below_alloc w1 (.cells #[.int .u8 118] 5))
    | (go_at_call 27; refine (appendNumber_any (B := w.heap.size) (x := x) (O1.mono (fun b _ h => Nat.le_trans b1.size h)) (Nat.le_trans b1.size al.size) (by simp)).mono ?_; rintro e w2 ⟨v2, rfl, O2, b2⟩; obtain ⟨a2, c2, rfl⟩ := OB.sh O2)
  go_ret
  exact ⟨_, rfl, O2, (joinB b1 al).trans b2⟩
set_option maxHeartbeats 4000000 in
set_option maxRecDepth 100000 in
theorem under_any {w : World} {k a : Int} (h0 : 0 ≤ a) (h1 : a < 18446744073709551616) : Calls Try.prog 21 #[.int .i64 k, .int .u64 a] w fun e w' => ∃ v, e = .returned (.tuple #[v, .int .i64 (if 16 < (frm k).1 then 0 else 70)]) ∧ OB w' (w.heap.size ≤ ·) v (if 16 < (frm k).1 then mkb (frm k) (tn k a) else []) ∧ Below w.heap.size w w' := by
  obtain ⟨n, m0, m1, hf, hn, hm0, hm1, hz⟩ := frm_shape k
  have u1 := fun w => formOf_any (w := w) (k := k)
  rw [hf] at u1
  simp only [fv] at u1
  rw [hf]
  simp only
  have HA := hid2 (And.intro h0 h1)
  have HM0 := hid2 hm0
  have HM1 := hid2 hm1
  have HN := hid2 hn
  have uB := fun w => usesB_any (w := w) (n := n) (x := m0) (y := m1)
  clear hf hm0 hm1 hz h0 h1
  by_cases h16 : 16 < (n : Int)
  · rw [decide_eq_true h16] at uB
    rw [if_pos h16, if_pos h16]
    go_enter Try.func21, Try.ntmps21
    go_wp2_with first
      | (go_at_call 28; refine (u1 _).mono ?_; rintro e w1 ⟨rfl, b1⟩)
      | (go_at_call 35; refine (uB _).mono ?_; rintro e w2 ⟨rfl, b2⟩)
    have kr := (blk_new w1 [.int .i64 (n : Int), .int .u8 m0, .int .u8 m1] 52).keep b2
    have BL := joinB b1 (joinB (below_alloc w1 (.cells #[.int .i64 (n : Int), .int .u8 m0, .int .u8 m1] 52)) b2)
    have hS := kr.drew
    refine rg_start (S := fun w' => Blk w' w1.heap.size [.int .i64 (n : Int), .int .u8 m0, .int .u8 m1] 52) (by kernel_rfl) hS ?_
    refine rg_load 0 (some 12) (.agg #[.int .i64 (n : Int), .int .u8 m0, .int .u8 m1]) 52 6 w1.heap.size 0 (by kernel_rfl) (by kernel_rfl) (by kernel_rfl) (fun w' h => ld_f h) (fun _ _ _ h => h) hS ?_
    refine rg_take 1 (some 13) (.int .i64 k) (by kernel_rfl) (fun _ _ => by kernel_rfl) (fun _ _ _ h => h) hS ?_
    refine rg_take 2 (some 14) (.int .u64 a) (by kernel_rfl) (fun _ _ => by kernel_rfl) (fun _ _ _ h => h) hS ?_
    refine rg_call 3 (some 15) 33 #[.int .i64 k, .int .u64 a] (by kernel_rfl) (by kernel_rfl) (turned_any HA.out.1 HA.out.2) ?_
    rintro e' w4 ⟨rfl, rfl⟩
    refine ⟨.int .u64 (tn k a), rfl, hS, ?_⟩
    refine rg_call 4 (some 16) 40 #[.agg #[.int .i64 (n : Int), .int .u8 m0, .int .u8 m1], .int .u64 (tn k a)] (by kernel_rfl) (by kernel_rfl) (begin_any (n := n) (a := tn k a) (Nat.le_trans HN.out (by decide)) HM0.out HM1.out) ?_
    rintro e' w5 ⟨v5, rfl, O5, b5⟩
    obtain ⟨a5, c5, rfl⟩ := OB.sh O5
    have hS5 := hS.keep b5
    refine ⟨_, rfl, hS5, ?_⟩
    refine rg_take 5 (some 4) (.slice a5 (mkb ((n : Int), m0, m1) (tn k a)).length c5) (by kernel_rfl) (fun _ _ => by kernel_rfl) (fun _ _ _ h => h) hS5 ?_
    refine rg_take 6 (some 5) (.int .i64 0) (by kernel_rfl) (fun _ _ => by kernel_rfl) (fun _ _ _ h => h) hS5 ?_
    refine rg_done (by kernel_rfl) ?_
    simp only [Act.put, List.setIfInBounds_toArray, List.set_cons_zero, List.set_cons_succ]
    go_wp2
    go_ret2
    exact ⟨_, rfl, O5.mono (fun b _ h => Nat.le_trans BL.size h), joinB BL (joinB (belowD _) b5)⟩
  · rw [decide_eq_false h16] at uB
    rw [if_neg h16, if_neg h16]
    go_enter Try.func21, Try.ntmps21
    go_wp2_with first
      | (go_at_call 28; refine (u1 _).mono ?_; rintro e w1 ⟨rfl, b1⟩)
      | (go_at_call 35; refine (uB _).mono ?_; rintro e w2 ⟨rfl, b2⟩)
    go_ret2
    exact ⟨_, rfl, ob_nil _ _, joinB b1 (joinB (below_alloc _ _) b2)⟩
end Ky
end Go.Proofs.Ytfljmcfipnmkgaa
