/- Package rat: divided. -/
import Derived.Test.YtjihgkanbhccpaaGreatDoorRat4
namespace Go.Proofs.YtjihgkanbhccpaaGreatDoor
open Go.RowKit Lim

set_option maxHeartbeats 4000000 in
set_option maxRecDepth 100000 in
theorem qQuoZ {w : World} {v : Value} {u1 u2 : Value} {a1 b1 : Option Addr} {n1 c1 m1 d1 : Nat} {x1 y1 : Int} (hv : v = .agg #[u1, u2]) (h1 : NatA w a1 n1 c1 x1) (e1 : NatA w b1 m1 d1 y1) (hn1 : n1 ≤ 34359738368) (hm1 : m1 ≤ 34359738368) (hz : x1 = 0 ∨ y1 = 0) :
    Calls Tryz.prog 28 #[v, .agg #[.slice a1 n1 c1, .slice b1 m1 d1]] w fun e w' => e = .returned (.tuple #[.agg #[.slice none 0 0, .slice none 0 0], .int .i64 30]) ∧ Below w.heap.size w w' := by
  subst hv
  have HB := below3 w (.cells #[u1, u2] 30) (.cells #[.slice a1 n1 c1, .slice b1 m1 d1] 30) (.cells #[.slice none 0 0, .slice none 0 0] 30)
  have P1 := (box_new (w.alloc (.cells #[u1, u2] 30)) [.slice a1 n1 c1, .slice b1 m1 d1] 30).keep (below_alloc _ (.cells #[.slice none 0 0, .slice none 0 0] 30))
  have X4 := box_new ((w.alloc (.cells #[u1, u2] 30)).alloc (.cells #[.slice a1 n1 c1, .slice b1 m1 d1] 30)) [.slice none 0 0, .slice none 0 0] 30
  rw [show (w.alloc (.cells #[u1, u2] 30)).heap.size = w.heap.size + 1 by simp] at P1
  rw [show ((w.alloc (.cells #[u1, u2] 30)).alloc (.cells #[.slice a1 n1 c1, .slice b1 m1 d1] 30)).heap.size = w.heap.size + 1 + 1 by simp] at X4
  replace h1 := h1.keep HB
  replace e1 := e1.keep HB
  have t := qZero h1 e1 (by omega) (by omega)
  rw [decide_eq_true hz] at t
  clear hz
  have hld := load_rat P1
  go_enter Tryz.func28, Tryz.ntmps28
  go_wp2_with fail
  refine t.mono ?_
  rintro e w1 ⟨rfl, hB⟩
  replace X4 := X4.keep hB
  replace HB := joinB HB hB
  obtain ⟨k1, k2, k3, k4⟩ := X4.cells2
  have S2 := X4.put2 (.slice none 0 0) (.slice none 0 0)
  have HB2 := below_put2 HB (g := w.heap.size + 1 + 1) (by omega) (.slice none 0 0) (.slice none 0 0)
  clear hB t h1 e1 P1 X4 HB hld
  go_wp2
  refine bodyPost_ret (ret_rat_tmp rfl rfl rfl S2) rfl ?_
  exact ⟨rfl, HB2⟩
set_option maxHeartbeats 4000000 in
set_option maxRecDepth 100000 in
theorem qQuo {w : World} {a0 b0 : Option Addr} {n0 c0 m0 d0 : Nat} {x0 y0 : Int} {a1 b1 : Option Addr} {n1 c1 m1 d1 : Nat} {x1 y1 : Int} (h0 : NatA w a0 n0 c0 x0) (e0 : NatA w b0 m0 d0 y0) (hn0 : n0 ≤ 34359738368) (hm0 : m0 ≤ 34359738368) (h1 : NatA w a1 n1 c1 x1) (e1 : NatA w b1 m1 d1 y1) (hn1 : n1 ≤ 34359738368) (hm1 : m1 ≤ 34359738368) (hx : x1 ≠ 0) (hy : y1 ≠ 0) :
    Calls Tryz.prog 28 #[.agg #[.slice a0 n0 c0, .slice b0 m0 d0], .agg #[.slice a1 n1 c1, .slice b1 m1 d1]] w fun e w' => ∃ a k d a' k' d', e = .returned (.tuple #[.agg #[.slice a k d, .slice a' k' d'], .int .i64 0]) ∧ NatO w' a k d (rn (cn x0 y0 * cn y1 x1) (cd y0 * cd x1)) ∧ NatO w' a' k' d' (rd (cn x0 y0 * cn y1 x1) (cd y0 * cd x1)) ∧ k ≤ n0 + m1 ∧ k' ≤ m0 + n1 + 2 ∧ Below w.heap.size w w' := by
  have HB := below3 w (.cells #[.slice a0 n0 c0, .slice b0 m0 d0] 30) (.cells #[.slice a1 n1 c1, .slice b1 m1 d1] 30) (.cells #[.slice none 0 0, .slice none 0 0] 30)
  have P0 := ((box_new w [.slice a0 n0 c0, .slice b0 m0 d0] 30).keep (below_alloc _ (.cells #[.slice a1 n1 c1, .slice b1 m1 d1] 30))).keep (below_alloc _ (.cells #[.slice none 0 0, .slice none 0 0] 30))
  have P1 := (box_new (w.alloc (.cells #[.slice a0 n0 c0, .slice b0 m0 d0] 30)) [.slice a1 n1 c1, .slice b1 m1 d1] 30).keep (below_alloc _ (.cells #[.slice none 0 0, .slice none 0 0] 30))
  have X4 := box_new ((w.alloc (.cells #[.slice a0 n0 c0, .slice b0 m0 d0] 30)).alloc (.cells #[.slice a1 n1 c1, .slice b1 m1 d1] 30)) [.slice none 0 0, .slice none 0 0] 30
  rw [show (w.alloc (.cells #[.slice a0 n0 c0, .slice b0 m0 d0] 30)).heap.size = w.heap.size + 1 by simp] at P1
  rw [show ((w.alloc (.cells #[.slice a0 n0 c0, .slice b0 m0 d0] 30)).alloc (.cells #[.slice a1 n1 c1, .slice b1 m1 d1] 30)).heap.size = w.heap.size + 1 + 1 by simp] at X4
  replace h0 := h0.keep HB
  replace e0 := e0.keep HB
  replace h1 := h1.keep HB
  replace e1 := e1.keep HB
  have t := qZero h1 e1 (by omega) (by omega)
  rw [decide_eq_false (fun h => h.elim hx hy)] at t
  clear hx hy
  have hld := load_rat P1
  go_enter Tryz.func28, Tryz.ntmps28
  go_wp2_with fail
  refine t.mono ?_
  rintro e w1 ⟨rfl, hB⟩
  replace h0 := h0.keep hB
  replace e0 := e0.keep hB
  replace h1 := h1.keep hB
  replace e1 := e1.keep hB
  replace P0 := P0.keep hB
  replace P1 := P1.keep hB
  replace X4 := X4.keep hB
  replace HB := joinB HB hB
  clear hB t hld
  obtain ⟨k1, k2, k3, k4⟩ := P1.cells2
  obtain ⟨j1, j2, j3, j4⟩ := P0.cells2
  go_wp2_with fail
  refine (qMul h0 e0 (by omega) (by omega) e1 h1 (by omega) (by omega)).mono ?_
  rintro e w2 ⟨a, k, d, a', k', d', rfl, O1, O2, hk, hk', hB⟩
  clear k1 k2 k3 k4 j1 j2 j3 j4 P0 P1 h0 e0 h1 e1
  replace X4 := X4.keep hB
  replace HB := joinB HB hB
  obtain ⟨k1, k2, k3, k4⟩ := X4.cells2
  have S2 := X4.put2 (.slice a k d) (.slice a' k' d')
  have Q1 := O1.put2 X4 (.slice a k d) (.slice a' k' d')
  have Q2 := O2.put2 X4 (.slice a k d) (.slice a' k' d')
  have HB2 := below_put2 HB (g := w.heap.size + 1 + 1) (by omega) (.slice a k d) (.slice a' k' d')
  clear hB O1 O2 X4 HB
  go_wp2
  refine bodyPost_ret (ret_rat_tmp rfl rfl rfl S2) rfl ?_
  exact ⟨a, k, d, a', k', d', rfl, Q1, Q2, by omega, by omega, HB2⟩
end Go.Proofs.YtjihgkanbhccpaaGreatDoor
