/- Over fractions: the same limbs; a fraction of two words. -/
import Derived.Test.YtjihgkanbhccpaaGreatDoorRat8
namespace Go.Proofs.YtjihgkanbhccpaaGreatDoor
open Go.RowKit Lim

set_option maxHeartbeats 4000000 in
set_option maxRecDepth 100000 in
theorem qSame {w : World} {a0 b0 : Option Addr} {n0 c0 m0 d0 : Nat} {x0 y0 : Int} {a1 b1 : Option Addr} {n1 c1 m1 d1 : Nat} {x1 y1 : Int} (h0 : NatO w a0 n0 c0 x0) (e0 : NatO w b0 m0 d0 y0) (hn0 : n0 ≤ 4398046511104) (hm0 : m0 ≤ 4398046511104) (h1 : NatO w a1 n1 c1 x1) (e1 : NatO w b1 m1 d1 y1) (hn1 : n1 ≤ 4398046511104) (hm1 : m1 ≤ 4398046511104) :
    Calls Tryz.prog 16 #[.agg #[.slice a0 n0 c0, .slice b0 m0 d0], .agg #[.slice a1 n1 c1, .slice b1 m1 d1]] w fun e w' => e = .returned (.bool (decide (x0 = x1 ∧ y0 = y1))) ∧ Below w.heap.size w w' := by
  have HB := below2 w (.cells #[.slice a0 n0 c0, .slice b0 m0 d0] 30) (.cells #[.slice a1 n1 c1, .slice b1 m1 d1] 30)
  have P0 := (box_new w [.slice a0 n0 c0, .slice b0 m0 d0] 30).keep (below_alloc _ (.cells #[.slice a1 n1 c1, .slice b1 m1 d1] 30))
  have P1 := box_new (w.alloc (.cells #[.slice a0 n0 c0, .slice b0 m0 d0] 30)) [.slice a1 n1 c1, .slice b1 m1 d1] 30
  rw [show (w.alloc (.cells #[.slice a0 n0 c0, .slice b0 m0 d0] 30)).heap.size = w.heap.size + 1 by simp] at P1
  replace h0 := h0.keep HB
  replace e0 := e0.keep HB
  replace h1 := h1.keep HB
  replace e1 := e1.keep HB
  obtain ⟨j1, j2, j3, j4⟩ := P0.cells2
  obtain ⟨i1, i2, i3, i4⟩ := P1.cells2
  have t := nSame h0 h1 hn0 hn1
  by_cases hx : x0 = x1
  · rw [decide_eq_true hx] at t
    rw [show decide (x0 = x1 ∧ y0 = y1) = decide (y0 = y1) from decide_eq_decide.2 ⟨fun h => h.2, fun h => ⟨hx, h⟩⟩]
    clear hx
    go_enter Tryz.func16, Tryz.ntmps16
    go_wp2_with fail
    refine t.mono ?_
    rintro e w1 ⟨rfl, hB⟩
    replace e0 := e0.keep hB
    replace e1 := e1.keep hB
    replace P0 := P0.keep hB
    replace P1 := P1.keep hB
    replace HB := joinB HB hB
    clear hB t j1 j2 j3 j4 i1 i2 i3 i4 h0 h1
    obtain ⟨j1, j2, j3, j4⟩ := P0.cells2
    obtain ⟨i1, i2, i3, i4⟩ := P1.cells2
    go_wp2_with fail
    refine (nSame e0 e1 hm0 hm1).mono ?_
    rintro e w2 ⟨rfl, hB⟩
    go_wp2
    go_ret
    exact ⟨rfl, joinB HB hB⟩
  · rw [decide_eq_false hx] at t
    rw [decide_eq_false (fun h => hx h.1)]
    clear hx
    go_enter Tryz.func16, Tryz.ntmps16
    go_wp2_with fail
    refine t.mono ?_
    rintro e w1 ⟨rfl, hB⟩
    clear t
    go_wp2
    go_ret
    exact ⟨rfl, joinB HB hB⟩
set_option maxHeartbeats 4000000 in
set_option maxRecDepth 100000 in
theorem qFrac {w : World} {x y : Int} (h0 : 0 ≤ x) (h1 : x < 18446744073709551616) (k0 : 0 < y) (k1 : y < 18446744073709551616) :
    Calls Tryz.prog 74 #[.int .u64 x, .int .u64 y] w fun e w' => ∃ a k d a' k' d', e = .returned (.agg #[.slice a k d, .slice a' k' d']) ∧ NatO w' a k d (rn x y) ∧ NatO w' a' k' d' (rd x y) ∧ k ≤ 1 ∧ k' ≤ 1 ∧ Below w.heap.size w w' := by
  have HB := below_alloc w (.cells #[.slice none 0 0, .slice none 0 0] 30)
  have X4 := box_new w [.slice none 0 0, .slice none 0 0] 30
  have HK := (show Hid (y ≠ 0) from by show y ≠ 0; omega)
  have t0 := fun (w : World) => nOf (w := w) h0 h1
  have t1 := fun (w : World) => nOf (w := w) (Int.le_of_lt k0) k1
  have HT0 := (show Hid _ from t0)
  have HT1 := (show Hid _ from t1)
  clear t0 t1 h0 h1 k0 k1
  go_enter Tryz.func74, Tryz.ntmps74
  go_wp2_with fail
  refine (HT0.out _).mono ?_
  rintro e w1 ⟨A, K, D, rfl, O1, hk, hB⟩
  replace X4 := X4.keep hB
  replace HB := joinB HB hB
  clear hB
  go_wp2_with fail
  refine (HT1.out _).mono ?_
  rintro e w2 ⟨A', K', D', rfl, O2, hk', hB⟩
  replace X4 := X4.keep hB
  replace O1 := O1.keep hB
  replace HB := joinB HB hB
  clear hB
  go_wp2_with fail
  refine (qOf O1.a O2.a (by omega) (by omega) HK.out).mono ?_
  rintro e w3 ⟨a, k, d, a', k', d', rfl, R1, R2, hk2, hk2', hB⟩
  replace X4 := X4.keep hB
  replace HB := joinB HB hB
  have BA := below_alloc w3 (.cells #[.slice a k d, .slice a' k' d'] 30)
  have X5 := box_new w3 [.slice a k d, .slice a' k' d'] 30
  replace X4 := X4.keep BA
  replace R1 := R1.keep BA
  replace R2 := R2.keep BA
  replace HB := joinB HB BA
  clear hB BA O1 O2
  obtain ⟨j1, j2, j3, j4⟩ := X5.cells2
  obtain ⟨i1, i2, i3, i4⟩ := X4.cells2
  have S2 := X4.put2 (.slice a k d) (.slice a' k' d')
  have Q1 := R1.put2 X4 (.slice a k d) (.slice a' k' d')
  have Q2 := R2.put2 X4 (.slice a k d) (.slice a' k' d')
  have HB2 := below_put2 HB (g := w.heap.size) (Nat.le_refl _) (.slice a k d) (.slice a' k' d')
  clear X4 X5 HB R1 R2
  go_wp2
  refine bodyPost_ret (ret_rat rfl rfl S2) rfl ?_
  exact ⟨a, k, d, a', k', d', rfl, Q1, Q2, by omega, by omega, HB2⟩
end Go.Proofs.YtjihgkanbhccpaaGreatDoor
