/- Package rat: two reduced fractions brought together. -/
import Derived.Test.YtjihgkanbhccpaaGreatDoorRat2
namespace Go.Proofs.YtjihgkanbhccpaaGreatDoor
open Go.RowKit Lim

set_option maxHeartbeats 8000000 in
set_option maxRecDepth 100000 in
theorem qTogP {w : World} {a0 b0 : Option Addr} {n0 c0 m0 d0 : Nat} {x0 y0 : Int} {a1 b1 : Option Addr} {n1 c1 m1 d1 : Nat} {x1 y1 : Int} (h0 : NatA w a0 n0 c0 x0) (e0 : NatA w b0 m0 d0 y0) (hn0 : n0 ≤ 17179869184) (hm0 : m0 ≤ 17179869184) (hy0 : y0 ≠ 0) (h1 : NatA w a1 n1 c1 x1) (e1 : NatA w b1 m1 d1 y1) (hn1 : n1 ≤ 17179869184) (hm1 : m1 ≤ 17179869184) (hy1 : y1 ≠ 0) :
    Calls Tryz.prog 77 #[.agg #[.slice a0 n0 c0, .slice b0 m0 d0], .agg #[.slice a1 n1 c1, .slice b1 m1 d1], .func (.func 79) #[] #[]] w fun e w' => ∃ a k d a' k' d', e = .returned (.tuple #[.agg #[.slice a k d, .slice a' k' d'], .int .i64 0]) ∧ NatO w' a k d ((x0 * (y1 / (Int.gcd y0 y1 : Nat)) + x1 * (y0 / (Int.gcd y0 y1 : Nat))) / (Int.gcd (x0 * (y1 / (Int.gcd y0 y1 : Nat)) + x1 * (y0 / (Int.gcd y0 y1 : Nat))) (Int.gcd y0 y1 : Nat) : Nat)) ∧ NatO w' a' k' d' (y0 / (Int.gcd y0 y1 : Nat) * (y1 / (Int.gcd (x0 * (y1 / (Int.gcd y0 y1 : Nat)) + x1 * (y0 / (Int.gcd y0 y1 : Nat))) (Int.gcd y0 y1 : Nat) : Nat))) ∧ k ≤ n0 + n1 + m0 + m1 + 1 ∧ k' ≤ m0 + m1 ∧ Below w.heap.size w w' := by
  have hg : ((Int.gcd y0 y1 : Nat) : Int) ≠ 0 := fun e => hy0 (Int.gcd_eq_zero_iff (a := y0) (b := y1) |>.1 (by omega)).1
  have HG := (show Hid _ from hg)
  have HY0 := (show Hid _ from hy0)
  have HY1 := (show Hid _ from hy1)
  clear hg hy0 hy1
  have HB := below3 w (.cells #[.slice a0 n0 c0, .slice b0 m0 d0] 30) (.cells #[.slice a1 n1 c1, .slice b1 m1 d1] 30) (.cells #[.slice none 0 0, .slice none 0 0] 30)
  have P0 := ((box_new w [.slice a0 n0 c0, .slice b0 m0 d0] 30).keep (below_alloc _ (.cells #[.slice a1 n1 c1, .slice b1 m1 d1] 30))).keep (below_alloc _ (.cells #[.slice none 0 0, .slice none 0 0] 30))
  have P1 := (box_new (w.alloc (.cells #[.slice a0 n0 c0, .slice b0 m0 d0] 30)) [.slice a1 n1 c1, .slice b1 m1 d1] 30).keep (below_alloc _ (.cells #[.slice none 0 0, .slice none 0 0] 30))
  have X6 := box_new ((w.alloc (.cells #[.slice a0 n0 c0, .slice b0 m0 d0] 30)).alloc (.cells #[.slice a1 n1 c1, .slice b1 m1 d1] 30)) [.slice none 0 0, .slice none 0 0] 30
  rw [show (w.alloc (.cells #[.slice a0 n0 c0, .slice b0 m0 d0] 30)).heap.size = w.heap.size + 1 by simp] at P1
  rw [show ((w.alloc (.cells #[.slice a0 n0 c0, .slice b0 m0 d0] 30)).alloc (.cells #[.slice a1 n1 c1, .slice b1 m1 d1] 30)).heap.size = w.heap.size + 1 + 1 by simp] at X6
  replace h0 := h0.keep HB
  replace e0 := e0.keep HB
  replace h1 := h1.keep HB
  replace e1 := e1.keep HB
  obtain ⟨p1, p2, p3, p4⟩ := P0.cells2
  obtain ⟨q1, q2, q3, q4⟩ := P1.cells2
  go_enter Tryz.func77, Tryz.ntmps77
  go_wp2_with fail
  generalize ((w.alloc (.cells #[.slice a0 n0 c0, .slice b0 m0 d0] 30)).alloc (.cells #[.slice a1 n1 c1, .slice b1 m1 d1] 30)).alloc (.cells #[.slice none 0 0, .slice none 0 0] 30) = u0 at *
  refine (nGcd e0 e1 (by omega) (by omega)).mono ?_
  rintro e u1 ⟨Ag, Kg, Dg, rfl, OG, hkg, hB⟩
  clear p1 p2 p3 p4 q1 q2 q3 q4
  replace h0 := h0.keep hB
  replace e0 := e0.keep hB
  replace h1 := h1.keep hB
  replace e1 := e1.keep hB
  replace P0 := P0.keep hB
  replace P1 := P1.keep hB
  replace X6 := X6.keep hB
  replace HB := joinB HB hB
  clear hB
  go_wp2_with fail
  refine rg_start (S := fun w' => Box w' w.heap.size [.slice a0 n0 c0, .slice b0 m0 d0] 30 ∧ Box w' (w.heap.size + 1) [.slice a1 n1 c1, .slice b1 m1 d1] 30) (by kernel_rfl) ⟨P0.drew, P1.drew⟩ ?_
  replace h0 := h0.drew
  replace e0 := e0.drew
  replace h1 := h1.drew
  replace e1 := e1.drew
  replace P0 := P0.drew
  replace P1 := P1.drew
  replace X6 := X6.drew
  replace OG := OG.drew
  replace HB := HB.drew
  have hS := (show _ ∧ _ from ⟨P0, P1⟩)
  refine rg_take 0 (some 19) (.pointer (some ⟨w.heap.size, 1, none⟩)) (by kernel_rfl) (fun _ _ => by kernel_rfl) (fun _ _ _ h => h) hS ?_
  refine rg_load 1 (some 20) (.slice b0 m0 d0) 28 19 (w.heap.size) 1 (by kernel_rfl) (by kernel_rfl) (by kernel_rfl) (fun _ hs => load_at (hs.1.cells2.2.1)) (fun _ _ _ h => h) hS ?_
  refine rg_take 2 (some 21) (.slice Ag Kg Dg) (by kernel_rfl) (fun _ _ => by kernel_rfl) (fun _ _ _ h => h) hS ?_
  refine rg_take 4 (some 23) (.pointer (some ⟨w.heap.size + 1, 1, none⟩)) (by kernel_rfl) (fun _ _ => by kernel_rfl) (fun _ _ _ h => h) hS ?_
  refine rg_load 5 (some 24) (.slice b1 m1 d1) 28 23 (w.heap.size + 1) 1 (by kernel_rfl) (by kernel_rfl) (by kernel_rfl) (fun _ hs => load_at (hs.2.cells2.2.1)) (fun _ _ _ h => h) hS ?_
  refine rg_take 6 (some 25) (.slice Ag Kg Dg) (by kernel_rfl) (fun _ _ => by kernel_rfl) (fun _ _ _ h => h) hS ?_
  refine rg_call 3 (some 22) 83 #[.slice b0 m0 d0, .slice Ag Kg Dg] (by kernel_rfl) (by kernel_rfl) (qQuot e0 OG.a (by omega) (by omega) HG.out) ?_
  rintro e r2x1 ⟨Al, Kl, Dl, rfl, OL, hkl, hB⟩
  refine ⟨_, rfl, ⟨hS.1.keep hB, hS.2.keep hB⟩, ?_⟩
  replace hS := (show _ ∧ _ from ⟨hS.1.keep hB, hS.2.keep hB⟩)
  replace h0 := h0.keep hB
  replace e0 := e0.keep hB
  replace h1 := h1.keep hB
  replace e1 := e1.keep hB
  replace P0 := P0.keep hB
  replace P1 := P1.keep hB
  replace X6 := X6.keep hB
  replace OG := OG.keep hB
  replace HB := joinB HB hB
  clear hB
  refine rg_call 7 (some 26) 83 #[.slice b1 m1 d1, .slice Ag Kg Dg] (by kernel_rfl) (by kernel_rfl) (qQuot e1 OG.a (by omega) (by omega) HG.out) ?_
  rintro e r2x2 ⟨Ar, Kr, Dr, rfl, OR, hkr, hB⟩
  refine ⟨_, rfl, ⟨hS.1.keep hB, hS.2.keep hB⟩, ?_⟩
  replace hS := (show _ ∧ _ from ⟨hS.1.keep hB, hS.2.keep hB⟩)
  replace h0 := h0.keep hB
  replace e0 := e0.keep hB
  replace h1 := h1.keep hB
  replace e1 := e1.keep hB
  replace P0 := P0.keep hB
  replace P1 := P1.keep hB
  replace X6 := X6.keep hB
  replace OG := OG.keep hB
  replace OL := OL.keep hB
  replace HB := joinB HB hB
  clear hB
  refine rg_take 8 (some 9) (.slice Al Kl Dl) (by kernel_rfl) (fun _ _ => by kernel_rfl) (fun _ _ _ h => h) hS ?_
  refine rg_take 9 (some 10) (.slice Ar Kr Dr) (by kernel_rfl) (fun _ _ => by kernel_rfl) (fun _ _ _ h => h) hS ?_
  refine rg_done (by kernel_rfl) ?_
  clear hS
  try simp only [Act.put, List.setIfInBounds_toArray, List.set_cons_zero, List.set_cons_succ]
  go_wp2_with fail
  refine rg_start (S := fun w' => Box w' w.heap.size [.slice a0 n0 c0, .slice b0 m0 d0] 30 ∧ Box w' (w.heap.size + 1) [.slice a1 n1 c1, .slice b1 m1 d1] 30) (by kernel_rfl) ⟨P0.drew, P1.drew⟩ ?_
  replace h0 := h0.drew
  replace e0 := e0.drew
  replace h1 := h1.drew
  replace e1 := e1.drew
  replace P0 := P0.drew
  replace P1 := P1.drew
  replace X6 := X6.drew
  replace OG := OG.drew
  replace OL := OL.drew
  replace OR := OR.drew
  replace HB := HB.drew
  have hS := (show _ ∧ _ from ⟨P0, P1⟩)
  refine rg_take 0 (some 28) (.func (.func 79) #[] #[]) (by kernel_rfl) (fun _ _ => by kernel_rfl) (fun _ _ _ h => h) hS ?_
  refine rg_take 1 (some 29) (.pointer (some ⟨w.heap.size, 0, none⟩)) (by kernel_rfl) (fun _ _ => by kernel_rfl) (fun _ _ _ h => h) hS ?_
  refine rg_load 2 (some 30) (.slice a0 n0 c0) 28 29 (w.heap.size) 0 (by kernel_rfl) (by kernel_rfl) (by kernel_rfl) (fun _ hs => load_at (hs.1.cells2.1)) (fun _ _ _ h => h) hS ?_
  refine rg_take 3 (some 31) (.slice Ar Kr Dr) (by kernel_rfl) (fun _ _ => by kernel_rfl) (fun _ _ _ h => h) hS ?_
  refine rg_take 5 (some 33) (.pointer (some ⟨w.heap.size + 1, 0, none⟩)) (by kernel_rfl) (fun _ _ => by kernel_rfl) (fun _ _ _ h => h) hS ?_
  refine rg_load 6 (some 34) (.slice a1 n1 c1) 28 33 (w.heap.size + 1) 0 (by kernel_rfl) (by kernel_rfl) (by kernel_rfl) (fun _ hs => load_at (hs.2.cells2.1)) (fun _ _ _ h => h) hS ?_
  refine rg_take 7 (some 35) (.slice Al Kl Dl) (by kernel_rfl) (fun _ _ => by kernel_rfl) (fun _ _ _ h => h) hS ?_
  refine rg_call 4 (some 32) 82 #[.slice a0 n0 c0, .slice Ar Kr Dr] (by kernel_rfl) (by kernel_rfl) (nMul h0 OR.a (by omega) (by omega)) ?_
  rintro e r3x1 ⟨Ap, Kp, Dp, rfl, Op1, hkp, hB⟩
  refine ⟨_, rfl, ⟨hS.1.keep hB, hS.2.keep hB⟩, ?_⟩
  replace hS := (show _ ∧ _ from ⟨hS.1.keep hB, hS.2.keep hB⟩)
  replace h0 := h0.keep hB
  replace e0 := e0.keep hB
  replace h1 := h1.keep hB
  replace e1 := e1.keep hB
  replace P0 := P0.keep hB
  replace P1 := P1.keep hB
  replace X6 := X6.keep hB
  replace OG := OG.keep hB
  replace OL := OL.keep hB
  replace OR := OR.keep hB
  replace HB := joinB HB hB
  clear hB
  refine rg_call 8 (some 36) 82 #[.slice a1 n1 c1, .slice Al Kl Dl] (by kernel_rfl) (by kernel_rfl) (nMul h1 OL.a (by omega) (by omega)) ?_
  rintro e r3x2 ⟨Aq, Kq, Dq, rfl, Op2, hkq, hB⟩
  refine ⟨_, rfl, ⟨hS.1.keep hB, hS.2.keep hB⟩, ?_⟩
  replace hS := (show _ ∧ _ from ⟨hS.1.keep hB, hS.2.keep hB⟩)
  replace h0 := h0.keep hB
  replace e0 := e0.keep hB
  replace h1 := h1.keep hB
  replace e1 := e1.keep hB
  replace P0 := P0.keep hB
  replace P1 := P1.keep hB
  replace X6 := X6.keep hB
  replace OG := OG.keep hB
  replace OL := OL.keep hB
  replace OR := OR.keep hB
  replace Op1 := Op1.keep hB
  replace HB := joinB HB hB
  clear hB
  refine rg_call 9 (some 37) 79 #[.slice Ap Kp Dp, .slice Aq Kq Dq] (by kernel_rfl) (by kernel_rfl) (qPlus Op1.a Op2.a (by omega) (by omega)) ?_
  rintro e r3x3 ⟨An, Kn, Dn, rfl, ON, hkn, hB⟩
  refine ⟨_, rfl, ⟨hS.1.keep hB, hS.2.keep hB⟩, ?_⟩
  replace hS := (show _ ∧ _ from ⟨hS.1.keep hB, hS.2.keep hB⟩)
  replace h0 := h0.keep hB
  replace e0 := e0.keep hB
  replace h1 := h1.keep hB
  replace e1 := e1.keep hB
  replace P0 := P0.keep hB
  replace P1 := P1.keep hB
  replace X6 := X6.keep hB
  replace OG := OG.keep hB
  replace OL := OL.keep hB
  replace OR := OR.keep hB
  replace Op1 := Op1.keep hB
  replace Op2 := Op2.keep hB
  replace HB := joinB HB hB
  clear hB
  refine rg_take 10 (some 27) (.tuple #[.slice An Kn Dn, .int .i64 0]) (by kernel_rfl) (fun _ _ => by kernel_rfl) (fun _ _ _ h => h) hS ?_
  refine rg_take 11 (some 38) (.slice An Kn Dn) (by kernel_rfl) (fun _ _ => by kernel_rfl) (fun _ _ _ h => h) hS ?_
  refine rg_take 12 (some 39) (.int .i64 0) (by kernel_rfl) (fun _ _ => by kernel_rfl) (fun _ _ _ h => h) hS ?_
  refine rg_take 13 (some 11) (.slice An Kn Dn) (by kernel_rfl) (fun _ _ => by kernel_rfl) (fun _ _ _ h => h) hS ?_
  refine rg_take 14 (some 12) (.int .i64 0) (by kernel_rfl) (fun _ _ => by kernel_rfl) (fun _ _ _ h => h) hS ?_
  refine rg_done (by kernel_rfl) ?_
  clear hS
  try simp only [Act.put, List.setIfInBounds_toArray, List.set_cons_zero, List.set_cons_succ]
  go_wp2_with fail
  refine (nGcd ON.a OG.a (by omega) (by omega)).mono ?_
  rintro e u4 ⟨At, Kt, Dt, rfl, OT, hkt, hB⟩
  replace h0 := h0.keep hB
  replace e0 := e0.keep hB
  replace h1 := h1.keep hB
  replace e1 := e1.keep hB
  replace P0 := P0.keep hB
  replace P1 := P1.keep hB
  replace X6 := X6.keep hB
  replace OG := OG.keep hB
  replace OL := OL.keep hB
  replace OR := OR.keep hB
  replace Op1 := Op1.keep hB
  replace Op2 := Op2.keep hB
  replace ON := ON.keep hB
  replace HB := joinB HB hB
  clear hB
  have hgt : ((Int.gcd (x0 * (y1 / (Int.gcd y0 y1 : Nat)) + x1 * (y0 / (Int.gcd y0 y1 : Nat))) (Int.gcd y0 y1 : Nat) : Nat) : Int) ≠ 0 := fun e => HG.out (Int.gcd_eq_zero_iff (a := (x0 * (y1 / (Int.gcd y0 y1 : Nat)) + x1 * (y0 / (Int.gcd y0 y1 : Nat)))) (b := (Int.gcd y0 y1 : Nat)) |>.1 (by omega)).2
  have HGT := (show Hid _ from hgt)
  clear hgt
  go_wp2_with fail
  refine rg_start (S := fun w' => Box w' w.heap.size [.slice a0 n0 c0, .slice b0 m0 d0] 30 ∧ Box w' (w.heap.size + 1) [.slice a1 n1 c1, .slice b1 m1 d1] 30) (by kernel_rfl) ⟨P0.drew, P1.drew⟩ ?_
  replace h0 := h0.drew
  replace e0 := e0.drew
  replace h1 := h1.drew
  replace e1 := e1.drew
  replace P0 := P0.drew
  replace P1 := P1.drew
  replace X6 := X6.drew
  replace OG := OG.drew
  replace OL := OL.drew
  replace OR := OR.drew
  replace Op1 := Op1.drew
  replace Op2 := Op2.drew
  replace ON := ON.drew
  replace OT := OT.drew
  replace HB := HB.drew
  have hS := (show _ ∧ _ from ⟨P0, P1⟩)
  refine rg_take 0 (some 47) (.slice An Kn Dn) (by kernel_rfl) (fun _ _ => by kernel_rfl) (fun _ _ _ h => h) hS ?_
  refine rg_take 1 (some 48) (.slice At Kt Dt) (by kernel_rfl) (fun _ _ => by kernel_rfl) (fun _ _ _ h => h) hS ?_
  refine rg_take 3 (some 50) (.slice Al Kl Dl) (by kernel_rfl) (fun _ _ => by kernel_rfl) (fun _ _ _ h => h) hS ?_
  refine rg_take 4 (some 51) (.pointer (some ⟨w.heap.size + 1, 1, none⟩)) (by kernel_rfl) (fun _ _ => by kernel_rfl) (fun _ _ _ h => h) hS ?_
  refine rg_load 5 (some 52) (.slice b1 m1 d1) 28 51 (w.heap.size + 1) 1 (by kernel_rfl) (by kernel_rfl) (by kernel_rfl) (fun _ hs => load_at (hs.2.cells2.2.1)) (fun _ _ _ h => h) hS ?_
  refine rg_take 6 (some 53) (.slice At Kt Dt) (by kernel_rfl) (fun _ _ => by kernel_rfl) (fun _ _ _ h => h) hS ?_
  refine rg_call 2 (some 49) 83 #[.slice An Kn Dn, .slice At Kt Dt] (by kernel_rfl) (by kernel_rfl) (qQuot ON.a OT.a (by omega) (by omega) HGT.out) ?_
  rintro e r7x1 ⟨Au, Ku, Du, rfl, OU, hku, hB⟩
  refine ⟨_, rfl, ⟨hS.1.keep hB, hS.2.keep hB⟩, ?_⟩
  replace hS := (show _ ∧ _ from ⟨hS.1.keep hB, hS.2.keep hB⟩)
  replace h0 := h0.keep hB
  replace e0 := e0.keep hB
  replace h1 := h1.keep hB
  replace e1 := e1.keep hB
  replace P0 := P0.keep hB
  replace P1 := P1.keep hB
  replace X6 := X6.keep hB
  replace OG := OG.keep hB
  replace OL := OL.keep hB
  replace OR := OR.keep hB
  replace Op1 := Op1.keep hB
  replace Op2 := Op2.keep hB
  replace ON := ON.keep hB
  replace OT := OT.keep hB
  replace HB := joinB HB hB
  clear hB
  refine rg_call 7 (some 54) 83 #[.slice b1 m1 d1, .slice At Kt Dt] (by kernel_rfl) (by kernel_rfl) (qQuot e1 OT.a (by omega) (by omega) HGT.out) ?_
  rintro e r7x2 ⟨Av, Kv, Dv, rfl, OV, hkv, hB⟩
  refine ⟨_, rfl, ⟨hS.1.keep hB, hS.2.keep hB⟩, ?_⟩
  replace hS := (show _ ∧ _ from ⟨hS.1.keep hB, hS.2.keep hB⟩)
  replace h0 := h0.keep hB
  replace e0 := e0.keep hB
  replace h1 := h1.keep hB
  replace e1 := e1.keep hB
  replace P0 := P0.keep hB
  replace P1 := P1.keep hB
  replace X6 := X6.keep hB
  replace OG := OG.keep hB
  replace OL := OL.keep hB
  replace OR := OR.keep hB
  replace Op1 := Op1.keep hB
  replace Op2 := Op2.keep hB
  replace ON := ON.keep hB
  replace OT := OT.keep hB
  replace OU := OU.keep hB
  replace HB := joinB HB hB
  clear hB
  refine rg_call 8 (some 55) 82 #[.slice Al Kl Dl, .slice Av Kv Dv] (by kernel_rfl) (by kernel_rfl) (nMul OL.a OV.a (by omega) (by omega)) ?_
  rintro e r7x3 ⟨Aw, Kw, Dw, rfl, OW, hkw, hB⟩
  refine ⟨_, rfl, ⟨hS.1.keep hB, hS.2.keep hB⟩, ?_⟩
  replace hS := (show _ ∧ _ from ⟨hS.1.keep hB, hS.2.keep hB⟩)
  replace h0 := h0.keep hB
  replace e0 := e0.keep hB
  replace h1 := h1.keep hB
  replace e1 := e1.keep hB
  replace P0 := P0.keep hB
  replace P1 := P1.keep hB
  replace X6 := X6.keep hB
  replace OG := OG.keep hB
  replace OL := OL.keep hB
  replace OR := OR.keep hB
  replace Op1 := Op1.keep hB
  replace Op2 := Op2.keep hB
  replace ON := ON.keep hB
  replace OT := OT.keep hB
  replace OU := OU.keep hB
  replace OV := OV.keep hB
  replace HB := joinB HB hB
  clear hB
  refine rg_take 9 (some 56) (.agg #[.slice Au Ku Du, .slice Aw Kw Dw]) (by kernel_rfl) (fun _ _ => by kernel_rfl) (fun _ _ _ h => h) hS ?_
  refine rg_ready [10] (by kernel_rfl) (by simp) ?_
  refine ar_store 10 30 30 6 56 (w.heap.size + 1 + 1) [.slice none 0 0, .slice none 0 0] [.slice Au Ku Du, .slice Aw Kw Dw] (by kernel_rfl) (by kernel_rfl) (by kernel_rfl) (by kernel_rfl) X6 (by kernel_rfl) rfl (by kernel_rfl) ?_ ar_nil
  intro r7x4 Y hw hB
  refine ⟨⟨hS.1.off (by omega) hw, hS.2.off (by omega) hw⟩, ?_⟩
  replace hS := (show _ ∧ _ from ⟨hS.1.off (by omega) hw, hS.2.off (by omega) hw⟩)
  replace HB := HB.trans (hB.mono (by omega))
  replace h0 := h0.blk X6 (no_ints2 _ _ _ _ _ _) hw
  replace e0 := e0.blk X6 (no_ints2 _ _ _ _ _ _) hw
  replace h1 := h1.blk X6 (no_ints2 _ _ _ _ _ _) hw
  replace e1 := e1.blk X6 (no_ints2 _ _ _ _ _ _) hw
  replace P0 := P0.off (by omega) hw
  replace P1 := P1.off (by omega) hw
  skip
  replace OG := OG.blk X6 (no_ints2 _ _ _ _ _ _) hw
  replace OL := OL.blk X6 (no_ints2 _ _ _ _ _ _) hw
  replace OR := OR.blk X6 (no_ints2 _ _ _ _ _ _) hw
  replace Op1 := Op1.blk X6 (no_ints2 _ _ _ _ _ _) hw
  replace Op2 := Op2.blk X6 (no_ints2 _ _ _ _ _ _) hw
  replace ON := ON.blk X6 (no_ints2 _ _ _ _ _ _) hw
  replace OT := OT.blk X6 (no_ints2 _ _ _ _ _ _) hw
  replace OU := OU.blk X6 (no_ints2 _ _ _ _ _ _) hw
  replace OV := OV.blk X6 (no_ints2 _ _ _ _ _ _) hw
  replace OW := OW.blk X6 (no_ints2 _ _ _ _ _ _) hw
  replace X6 := Y
  clear hB hw
  refine rg_take 11 (some 7) (.int .i64 0) (by kernel_rfl) (fun _ _ => by kernel_rfl) (fun _ _ _ h => h) hS ?_
  refine rg_done (by kernel_rfl) ?_
  clear hS
  try simp only [Act.put, List.setIfInBounds_toArray, List.set_cons_zero, List.set_cons_succ]
  go_wp2
  refine bodyPost_ret (ret_rat_tmp rfl rfl rfl X6) rfl ?_
  exact ⟨_, _, _, _, _, _, rfl, OU, OW, by omega, by omega, HB⟩
set_option maxHeartbeats 8000000 in
set_option maxRecDepth 100000 in
theorem qTogS {w : World} {a0 b0 : Option Addr} {n0 c0 m0 d0 : Nat} {x0 y0 : Int} {a1 b1 : Option Addr} {n1 c1 m1 d1 : Nat} {x1 y1 : Int} (h0 : NatA w a0 n0 c0 x0) (e0 : NatA w b0 m0 d0 y0) (hn0 : n0 ≤ 17179869184) (hm0 : m0 ≤ 17179869184) (hy0 : y0 ≠ 0) (h1 : NatA w a1 n1 c1 x1) (e1 : NatA w b1 m1 d1 y1) (hn1 : n1 ≤ 17179869184) (hm1 : m1 ≤ 17179869184) (hy1 : y1 ≠ 0) (hh : x1 * (y0 / (Int.gcd y0 y1 : Nat)) ≤ x0 * (y1 / (Int.gcd y0 y1 : Nat))) :
    Calls Tryz.prog 77 #[.agg #[.slice a0 n0 c0, .slice b0 m0 d0], .agg #[.slice a1 n1 c1, .slice b1 m1 d1], .func (.func 90) #[] #[]] w fun e w' => ∃ a k d a' k' d', e = .returned (.tuple #[.agg #[.slice a k d, .slice a' k' d'], .int .i64 0]) ∧ NatO w' a k d ((x0 * (y1 / (Int.gcd y0 y1 : Nat)) - x1 * (y0 / (Int.gcd y0 y1 : Nat))) / (Int.gcd (x0 * (y1 / (Int.gcd y0 y1 : Nat)) - x1 * (y0 / (Int.gcd y0 y1 : Nat))) (Int.gcd y0 y1 : Nat) : Nat)) ∧ NatO w' a' k' d' (y0 / (Int.gcd y0 y1 : Nat) * (y1 / (Int.gcd (x0 * (y1 / (Int.gcd y0 y1 : Nat)) - x1 * (y0 / (Int.gcd y0 y1 : Nat))) (Int.gcd y0 y1 : Nat) : Nat))) ∧ k ≤ n0 + n1 + m0 + m1 + 1 ∧ k' ≤ m0 + m1 ∧ Below w.heap.size w w' := by
  have hg : ((Int.gcd y0 y1 : Nat) : Int) ≠ 0 := fun e => hy0 (Int.gcd_eq_zero_iff (a := y0) (b := y1) |>.1 (by omega)).1
  have HG := (show Hid _ from hg)
  have HY0 := (show Hid _ from hy0)
  have HY1 := (show Hid _ from hy1)
  clear hg hy0 hy1
  have HH := (show Hid _ from hh)
  clear hh
  have HB := below3 w (.cells #[.slice a0 n0 c0, .slice b0 m0 d0] 30) (.cells #[.slice a1 n1 c1, .slice b1 m1 d1] 30) (.cells #[.slice none 0 0, .slice none 0 0] 30)
  have P0 := ((box_new w [.slice a0 n0 c0, .slice b0 m0 d0] 30).keep (below_alloc _ (.cells #[.slice a1 n1 c1, .slice b1 m1 d1] 30))).keep (below_alloc _ (.cells #[.slice none 0 0, .slice none 0 0] 30))
  have P1 := (box_new (w.alloc (.cells #[.slice a0 n0 c0, .slice b0 m0 d0] 30)) [.slice a1 n1 c1, .slice b1 m1 d1] 30).keep (below_alloc _ (.cells #[.slice none 0 0, .slice none 0 0] 30))
  have X6 := box_new ((w.alloc (.cells #[.slice a0 n0 c0, .slice b0 m0 d0] 30)).alloc (.cells #[.slice a1 n1 c1, .slice b1 m1 d1] 30)) [.slice none 0 0, .slice none 0 0] 30
  rw [show (w.alloc (.cells #[.slice a0 n0 c0, .slice b0 m0 d0] 30)).heap.size = w.heap.size + 1 by simp] at P1
  rw [show ((w.alloc (.cells #[.slice a0 n0 c0, .slice b0 m0 d0] 30)).alloc (.cells #[.slice a1 n1 c1, .slice b1 m1 d1] 30)).heap.size = w.heap.size + 1 + 1 by simp] at X6
  replace h0 := h0.keep HB
  replace e0 := e0.keep HB
  replace h1 := h1.keep HB
  replace e1 := e1.keep HB
  obtain ⟨p1, p2, p3, p4⟩ := P0.cells2
  obtain ⟨q1, q2, q3, q4⟩ := P1.cells2
  go_enter Tryz.func77, Tryz.ntmps77
  go_wp2_with fail
  generalize ((w.alloc (.cells #[.slice a0 n0 c0, .slice b0 m0 d0] 30)).alloc (.cells #[.slice a1 n1 c1, .slice b1 m1 d1] 30)).alloc (.cells #[.slice none 0 0, .slice none 0 0] 30) = u0 at *
  refine (nGcd e0 e1 (by omega) (by omega)).mono ?_
  rintro e u1 ⟨Ag, Kg, Dg, rfl, OG, hkg, hB⟩
  clear p1 p2 p3 p4 q1 q2 q3 q4
  replace h0 := h0.keep hB
  replace e0 := e0.keep hB
  replace h1 := h1.keep hB
  replace e1 := e1.keep hB
  replace P0 := P0.keep hB
  replace P1 := P1.keep hB
  replace X6 := X6.keep hB
  replace HB := joinB HB hB
  clear hB
  go_wp2_with fail
  refine rg_start (S := fun w' => Box w' w.heap.size [.slice a0 n0 c0, .slice b0 m0 d0] 30 ∧ Box w' (w.heap.size + 1) [.slice a1 n1 c1, .slice b1 m1 d1] 30) (by kernel_rfl) ⟨P0.drew, P1.drew⟩ ?_
  replace h0 := h0.drew
  replace e0 := e0.drew
  replace h1 := h1.drew
  replace e1 := e1.drew
  replace P0 := P0.drew
  replace P1 := P1.drew
  replace X6 := X6.drew
  replace OG := OG.drew
  replace HB := HB.drew
  have hS := (show _ ∧ _ from ⟨P0, P1⟩)
  refine rg_take 0 (some 19) (.pointer (some ⟨w.heap.size, 1, none⟩)) (by kernel_rfl) (fun _ _ => by kernel_rfl) (fun _ _ _ h => h) hS ?_
  refine rg_load 1 (some 20) (.slice b0 m0 d0) 28 19 (w.heap.size) 1 (by kernel_rfl) (by kernel_rfl) (by kernel_rfl) (fun _ hs => load_at (hs.1.cells2.2.1)) (fun _ _ _ h => h) hS ?_
  refine rg_take 2 (some 21) (.slice Ag Kg Dg) (by kernel_rfl) (fun _ _ => by kernel_rfl) (fun _ _ _ h => h) hS ?_
  refine rg_take 4 (some 23) (.pointer (some ⟨w.heap.size + 1, 1, none⟩)) (by kernel_rfl) (fun _ _ => by kernel_rfl) (fun _ _ _ h => h) hS ?_
  refine rg_load 5 (some 24) (.slice b1 m1 d1) 28 23 (w.heap.size + 1) 1 (by kernel_rfl) (by kernel_rfl) (by kernel_rfl) (fun _ hs => load_at (hs.2.cells2.2.1)) (fun _ _ _ h => h) hS ?_
  refine rg_take 6 (some 25) (.slice Ag Kg Dg) (by kernel_rfl) (fun _ _ => by kernel_rfl) (fun _ _ _ h => h) hS ?_
  refine rg_call 3 (some 22) 83 #[.slice b0 m0 d0, .slice Ag Kg Dg] (by kernel_rfl) (by kernel_rfl) (qQuot e0 OG.a (by omega) (by omega) HG.out) ?_
  rintro e r2x1 ⟨Al, Kl, Dl, rfl, OL, hkl, hB⟩
  refine ⟨_, rfl, ⟨hS.1.keep hB, hS.2.keep hB⟩, ?_⟩
  replace hS := (show _ ∧ _ from ⟨hS.1.keep hB, hS.2.keep hB⟩)
  replace h0 := h0.keep hB
  replace e0 := e0.keep hB
  replace h1 := h1.keep hB
  replace e1 := e1.keep hB
  replace P0 := P0.keep hB
  replace P1 := P1.keep hB
  replace X6 := X6.keep hB
  replace OG := OG.keep hB
  replace HB := joinB HB hB
  clear hB
  refine rg_call 7 (some 26) 83 #[.slice b1 m1 d1, .slice Ag Kg Dg] (by kernel_rfl) (by kernel_rfl) (qQuot e1 OG.a (by omega) (by omega) HG.out) ?_
  rintro e r2x2 ⟨Ar, Kr, Dr, rfl, OR, hkr, hB⟩
  refine ⟨_, rfl, ⟨hS.1.keep hB, hS.2.keep hB⟩, ?_⟩
  replace hS := (show _ ∧ _ from ⟨hS.1.keep hB, hS.2.keep hB⟩)
  replace h0 := h0.keep hB
  replace e0 := e0.keep hB
  replace h1 := h1.keep hB
  replace e1 := e1.keep hB
  replace P0 := P0.keep hB
  replace P1 := P1.keep hB
  replace X6 := X6.keep hB
  replace OG := OG.keep hB
  replace OL := OL.keep hB
  replace HB := joinB HB hB
  clear hB
  refine rg_take 8 (some 9) (.slice Al Kl Dl) (by kernel_rfl) (fun _ _ => by kernel_rfl) (fun _ _ _ h => h) hS ?_
  refine rg_take 9 (some 10) (.slice Ar Kr Dr) (by kernel_rfl) (fun _ _ => by kernel_rfl) (fun _ _ _ h => h) hS ?_
  refine rg_done (by kernel_rfl) ?_
  clear hS
  try simp only [Act.put, List.setIfInBounds_toArray, List.set_cons_zero, List.set_cons_succ]
  go_wp2_with fail
  refine rg_start (S := fun w' => Box w' w.heap.size [.slice a0 n0 c0, .slice b0 m0 d0] 30 ∧ Box w' (w.heap.size + 1) [.slice a1 n1 c1, .slice b1 m1 d1] 30) (by kernel_rfl) ⟨P0.drew, P1.drew⟩ ?_
  replace h0 := h0.drew
  replace e0 := e0.drew
  replace h1 := h1.drew
  replace e1 := e1.drew
  replace P0 := P0.drew
  replace P1 := P1.drew
  replace X6 := X6.drew
  replace OG := OG.drew
  replace OL := OL.drew
  replace OR := OR.drew
  replace HB := HB.drew
  have hS := (show _ ∧ _ from ⟨P0, P1⟩)
  refine rg_take 0 (some 28) (.func (.func 90) #[] #[]) (by kernel_rfl) (fun _ _ => by kernel_rfl) (fun _ _ _ h => h) hS ?_
  refine rg_take 1 (some 29) (.pointer (some ⟨w.heap.size, 0, none⟩)) (by kernel_rfl) (fun _ _ => by kernel_rfl) (fun _ _ _ h => h) hS ?_
  refine rg_load 2 (some 30) (.slice a0 n0 c0) 28 29 (w.heap.size) 0 (by kernel_rfl) (by kernel_rfl) (by kernel_rfl) (fun _ hs => load_at (hs.1.cells2.1)) (fun _ _ _ h => h) hS ?_
  refine rg_take 3 (some 31) (.slice Ar Kr Dr) (by kernel_rfl) (fun _ _ => by kernel_rfl) (fun _ _ _ h => h) hS ?_
  refine rg_take 5 (some 33) (.pointer (some ⟨w.heap.size + 1, 0, none⟩)) (by kernel_rfl) (fun _ _ => by kernel_rfl) (fun _ _ _ h => h) hS ?_
  refine rg_load 6 (some 34) (.slice a1 n1 c1) 28 33 (w.heap.size + 1) 0 (by kernel_rfl) (by kernel_rfl) (by kernel_rfl) (fun _ hs => load_at (hs.2.cells2.1)) (fun _ _ _ h => h) hS ?_
  refine rg_take 7 (some 35) (.slice Al Kl Dl) (by kernel_rfl) (fun _ _ => by kernel_rfl) (fun _ _ _ h => h) hS ?_
  refine rg_call 4 (some 32) 82 #[.slice a0 n0 c0, .slice Ar Kr Dr] (by kernel_rfl) (by kernel_rfl) (nMul h0 OR.a (by omega) (by omega)) ?_
  rintro e r3x1 ⟨Ap, Kp, Dp, rfl, Op1, hkp, hB⟩
  refine ⟨_, rfl, ⟨hS.1.keep hB, hS.2.keep hB⟩, ?_⟩
  replace hS := (show _ ∧ _ from ⟨hS.1.keep hB, hS.2.keep hB⟩)
  replace h0 := h0.keep hB
  replace e0 := e0.keep hB
  replace h1 := h1.keep hB
  replace e1 := e1.keep hB
  replace P0 := P0.keep hB
  replace P1 := P1.keep hB
  replace X6 := X6.keep hB
  replace OG := OG.keep hB
  replace OL := OL.keep hB
  replace OR := OR.keep hB
  replace HB := joinB HB hB
  clear hB
  refine rg_call 8 (some 36) 82 #[.slice a1 n1 c1, .slice Al Kl Dl] (by kernel_rfl) (by kernel_rfl) (nMul h1 OL.a (by omega) (by omega)) ?_
  rintro e r3x2 ⟨Aq, Kq, Dq, rfl, Op2, hkq, hB⟩
  refine ⟨_, rfl, ⟨hS.1.keep hB, hS.2.keep hB⟩, ?_⟩
  replace hS := (show _ ∧ _ from ⟨hS.1.keep hB, hS.2.keep hB⟩)
  replace h0 := h0.keep hB
  replace e0 := e0.keep hB
  replace h1 := h1.keep hB
  replace e1 := e1.keep hB
  replace P0 := P0.keep hB
  replace P1 := P1.keep hB
  replace X6 := X6.keep hB
  replace OG := OG.keep hB
  replace OL := OL.keep hB
  replace OR := OR.keep hB
  replace Op1 := Op1.keep hB
  replace HB := joinB HB hB
  clear hB
  refine rg_call 9 (some 37) 90 #[.slice Ap Kp Dp, .slice Aq Kq Dq] (by kernel_rfl) (by kernel_rfl) (nSub Op1.a Op2.a (by omega) (by omega) HH.out) ?_
  rintro e r3x3 ⟨An, Kn, Dn, rfl, ON, hkn, hB⟩
  refine ⟨_, rfl, ⟨hS.1.keep hB, hS.2.keep hB⟩, ?_⟩
  replace hS := (show _ ∧ _ from ⟨hS.1.keep hB, hS.2.keep hB⟩)
  replace h0 := h0.keep hB
  replace e0 := e0.keep hB
  replace h1 := h1.keep hB
  replace e1 := e1.keep hB
  replace P0 := P0.keep hB
  replace P1 := P1.keep hB
  replace X6 := X6.keep hB
  replace OG := OG.keep hB
  replace OL := OL.keep hB
  replace OR := OR.keep hB
  replace Op1 := Op1.keep hB
  replace Op2 := Op2.keep hB
  replace HB := joinB HB hB
  clear hB
  refine rg_take 10 (some 27) (.tuple #[.slice An Kn Dn, .int .i64 0]) (by kernel_rfl) (fun _ _ => by kernel_rfl) (fun _ _ _ h => h) hS ?_
  refine rg_take 11 (some 38) (.slice An Kn Dn) (by kernel_rfl) (fun _ _ => by kernel_rfl) (fun _ _ _ h => h) hS ?_
  refine rg_take 12 (some 39) (.int .i64 0) (by kernel_rfl) (fun _ _ => by kernel_rfl) (fun _ _ _ h => h) hS ?_
  refine rg_take 13 (some 11) (.slice An Kn Dn) (by kernel_rfl) (fun _ _ => by kernel_rfl) (fun _ _ _ h => h) hS ?_
  refine rg_take 14 (some 12) (.int .i64 0) (by kernel_rfl) (fun _ _ => by kernel_rfl) (fun _ _ _ h => h) hS ?_
  refine rg_done (by kernel_rfl) ?_
  clear hS
  try simp only [Act.put, List.setIfInBounds_toArray, List.set_cons_zero, List.set_cons_succ]
  go_wp2_with fail
  refine (nGcd ON.a OG.a (by omega) (by omega)).mono ?_
  rintro e u4 ⟨At, Kt, Dt, rfl, OT, hkt, hB⟩
  replace h0 := h0.keep hB
  replace e0 := e0.keep hB
  replace h1 := h1.keep hB
  replace e1 := e1.keep hB
  replace P0 := P0.keep hB
  replace P1 := P1.keep hB
  replace X6 := X6.keep hB
  replace OG := OG.keep hB
  replace OL := OL.keep hB
  replace OR := OR.keep hB
  replace Op1 := Op1.keep hB
  replace Op2 := Op2.keep hB
  replace ON := ON.keep hB
  replace HB := joinB HB hB
  clear hB
  have hgt : ((Int.gcd (x0 * (y1 / (Int.gcd y0 y1 : Nat)) - x1 * (y0 / (Int.gcd y0 y1 : Nat))) (Int.gcd y0 y1 : Nat) : Nat) : Int) ≠ 0 := fun e => HG.out (Int.gcd_eq_zero_iff (a := (x0 * (y1 / (Int.gcd y0 y1 : Nat)) - x1 * (y0 / (Int.gcd y0 y1 : Nat)))) (b := (Int.gcd y0 y1 : Nat)) |>.1 (by omega)).2
  have HGT := (show Hid _ from hgt)
  clear hgt
  go_wp2_with fail
  refine rg_start (S := fun w' => Box w' w.heap.size [.slice a0 n0 c0, .slice b0 m0 d0] 30 ∧ Box w' (w.heap.size + 1) [.slice a1 n1 c1, .slice b1 m1 d1] 30) (by kernel_rfl) ⟨P0.drew, P1.drew⟩ ?_
  replace h0 := h0.drew
  replace e0 := e0.drew
  replace h1 := h1.drew
  replace e1 := e1.drew
  replace P0 := P0.drew
  replace P1 := P1.drew
  replace X6 := X6.drew
  replace OG := OG.drew
  replace OL := OL.drew
  replace OR := OR.drew
  replace Op1 := Op1.drew
  replace Op2 := Op2.drew
  replace ON := ON.drew
  replace OT := OT.drew
  replace HB := HB.drew
  have hS := (show _ ∧ _ from ⟨P0, P1⟩)
  refine rg_take 0 (some 47) (.slice An Kn Dn) (by kernel_rfl) (fun _ _ => by kernel_rfl) (fun _ _ _ h => h) hS ?_
  refine rg_take 1 (some 48) (.slice At Kt Dt) (by kernel_rfl) (fun _ _ => by kernel_rfl) (fun _ _ _ h => h) hS ?_
  refine rg_take 3 (some 50) (.slice Al Kl Dl) (by kernel_rfl) (fun _ _ => by kernel_rfl) (fun _ _ _ h => h) hS ?_
  refine rg_take 4 (some 51) (.pointer (some ⟨w.heap.size + 1, 1, none⟩)) (by kernel_rfl) (fun _ _ => by kernel_rfl) (fun _ _ _ h => h) hS ?_
  refine rg_load 5 (some 52) (.slice b1 m1 d1) 28 51 (w.heap.size + 1) 1 (by kernel_rfl) (by kernel_rfl) (by kernel_rfl) (fun _ hs => load_at (hs.2.cells2.2.1)) (fun _ _ _ h => h) hS ?_
  refine rg_take 6 (some 53) (.slice At Kt Dt) (by kernel_rfl) (fun _ _ => by kernel_rfl) (fun _ _ _ h => h) hS ?_
  refine rg_call 2 (some 49) 83 #[.slice An Kn Dn, .slice At Kt Dt] (by kernel_rfl) (by kernel_rfl) (qQuot ON.a OT.a (by omega) (by omega) HGT.out) ?_
  rintro e r7x1 ⟨Au, Ku, Du, rfl, OU, hku, hB⟩
  refine ⟨_, rfl, ⟨hS.1.keep hB, hS.2.keep hB⟩, ?_⟩
  replace hS := (show _ ∧ _ from ⟨hS.1.keep hB, hS.2.keep hB⟩)
  replace h0 := h0.keep hB
  replace e0 := e0.keep hB
  replace h1 := h1.keep hB
  replace e1 := e1.keep hB
  replace P0 := P0.keep hB
  replace P1 := P1.keep hB
  replace X6 := X6.keep hB
  replace OG := OG.keep hB
  replace OL := OL.keep hB
  replace OR := OR.keep hB
  replace Op1 := Op1.keep hB
  replace Op2 := Op2.keep hB
  replace ON := ON.keep hB
  replace OT := OT.keep hB
  replace HB := joinB HB hB
  clear hB
  refine rg_call 7 (some 54) 83 #[.slice b1 m1 d1, .slice At Kt Dt] (by kernel_rfl) (by kernel_rfl) (qQuot e1 OT.a (by omega) (by omega) HGT.out) ?_
  rintro e r7x2 ⟨Av, Kv, Dv, rfl, OV, hkv, hB⟩
  refine ⟨_, rfl, ⟨hS.1.keep hB, hS.2.keep hB⟩, ?_⟩
  replace hS := (show _ ∧ _ from ⟨hS.1.keep hB, hS.2.keep hB⟩)
  replace h0 := h0.keep hB
  replace e0 := e0.keep hB
  replace h1 := h1.keep hB
  replace e1 := e1.keep hB
  replace P0 := P0.keep hB
  replace P1 := P1.keep hB
  replace X6 := X6.keep hB
  replace OG := OG.keep hB
  replace OL := OL.keep hB
  replace OR := OR.keep hB
  replace Op1 := Op1.keep hB
  replace Op2 := Op2.keep hB
  replace ON := ON.keep hB
  replace OT := OT.keep hB
  replace OU := OU.keep hB
  replace HB := joinB HB hB
  clear hB
  refine rg_call 8 (some 55) 82 #[.slice Al Kl Dl, .slice Av Kv Dv] (by kernel_rfl) (by kernel_rfl) (nMul OL.a OV.a (by omega) (by omega)) ?_
  rintro e r7x3 ⟨Aw, Kw, Dw, rfl, OW, hkw, hB⟩
  refine ⟨_, rfl, ⟨hS.1.keep hB, hS.2.keep hB⟩, ?_⟩
  replace hS := (show _ ∧ _ from ⟨hS.1.keep hB, hS.2.keep hB⟩)
  replace h0 := h0.keep hB
  replace e0 := e0.keep hB
  replace h1 := h1.keep hB
  replace e1 := e1.keep hB
  replace P0 := P0.keep hB
  replace P1 := P1.keep hB
  replace X6 := X6.keep hB
  replace OG := OG.keep hB
  replace OL := OL.keep hB
  replace OR := OR.keep hB
  replace Op1 := Op1.keep hB
  replace Op2 := Op2.keep hB
  replace ON := ON.keep hB
  replace OT := OT.keep hB
  replace OU := OU.keep hB
  replace OV := OV.keep hB
  replace HB := joinB HB hB
  clear hB
  refine rg_take 9 (some 56) (.agg #[.slice Au Ku Du, .slice Aw Kw Dw]) (by kernel_rfl) (fun _ _ => by kernel_rfl) (fun _ _ _ h => h) hS ?_
  refine rg_ready [10] (by kernel_rfl) (by simp) ?_
  refine ar_store 10 30 30 6 56 (w.heap.size + 1 + 1) [.slice none 0 0, .slice none 0 0] [.slice Au Ku Du, .slice Aw Kw Dw] (by kernel_rfl) (by kernel_rfl) (by kernel_rfl) (by kernel_rfl) X6 (by kernel_rfl) rfl (by kernel_rfl) ?_ ar_nil
  intro r7x4 Y hw hB
  refine ⟨⟨hS.1.off (by omega) hw, hS.2.off (by omega) hw⟩, ?_⟩
  replace hS := (show _ ∧ _ from ⟨hS.1.off (by omega) hw, hS.2.off (by omega) hw⟩)
  replace HB := HB.trans (hB.mono (by omega))
  replace h0 := h0.blk X6 (no_ints2 _ _ _ _ _ _) hw
  replace e0 := e0.blk X6 (no_ints2 _ _ _ _ _ _) hw
  replace h1 := h1.blk X6 (no_ints2 _ _ _ _ _ _) hw
  replace e1 := e1.blk X6 (no_ints2 _ _ _ _ _ _) hw
  replace P0 := P0.off (by omega) hw
  replace P1 := P1.off (by omega) hw
  skip
  replace OG := OG.blk X6 (no_ints2 _ _ _ _ _ _) hw
  replace OL := OL.blk X6 (no_ints2 _ _ _ _ _ _) hw
  replace OR := OR.blk X6 (no_ints2 _ _ _ _ _ _) hw
  replace Op1 := Op1.blk X6 (no_ints2 _ _ _ _ _ _) hw
  replace Op2 := Op2.blk X6 (no_ints2 _ _ _ _ _ _) hw
  replace ON := ON.blk X6 (no_ints2 _ _ _ _ _ _) hw
  replace OT := OT.blk X6 (no_ints2 _ _ _ _ _ _) hw
  replace OU := OU.blk X6 (no_ints2 _ _ _ _ _ _) hw
  replace OV := OV.blk X6 (no_ints2 _ _ _ _ _ _) hw
  replace OW := OW.blk X6 (no_ints2 _ _ _ _ _ _) hw
  replace X6 := Y
  clear hB hw
  refine rg_take 11 (some 7) (.int .i64 0) (by kernel_rfl) (fun _ _ => by kernel_rfl) (fun _ _ _ h => h) hS ?_
  refine rg_done (by kernel_rfl) ?_
  clear hS
  try simp only [Act.put, List.setIfInBounds_toArray, List.set_cons_zero, List.set_cons_succ]
  go_wp2
  refine bodyPost_ret (ret_rat_tmp rfl rfl rfl X6) rfl ?_
  exact ⟨_, _, _, _, _, _, rfl, OU, OW, by omega, by omega, HB⟩
set_option maxHeartbeats 8000000 in
set_option maxRecDepth 100000 in
theorem qTogLt {w : World} {a0 b0 : Option Addr} {n0 c0 m0 d0 : Nat} {x0 y0 : Int} {a1 b1 : Option Addr} {n1 c1 m1 d1 : Nat} {x1 y1 : Int} (h0 : NatA w a0 n0 c0 x0) (e0 : NatA w b0 m0 d0 y0) (hn0 : n0 ≤ 17179869184) (hm0 : m0 ≤ 17179869184) (hy0 : y0 ≠ 0) (h1 : NatA w a1 n1 c1 x1) (e1 : NatA w b1 m1 d1 y1) (hn1 : n1 ≤ 17179869184) (hm1 : m1 ≤ 17179869184) (hy1 : y1 ≠ 0) (hh : x0 * (y1 / (Int.gcd y0 y1 : Nat)) < x1 * (y0 / (Int.gcd y0 y1 : Nat))) :
    Calls Tryz.prog 77 #[.agg #[.slice a0 n0 c0, .slice b0 m0 d0], .agg #[.slice a1 n1 c1, .slice b1 m1 d1], .func (.func 90) #[] #[]] w fun e w' => e = .returned (.tuple #[.agg #[.slice none 0 0, .slice none 0 0], .int .i64 10]) ∧ Below w.heap.size w w' := by
  have hg : ((Int.gcd y0 y1 : Nat) : Int) ≠ 0 := fun e => hy0 (Int.gcd_eq_zero_iff (a := y0) (b := y1) |>.1 (by omega)).1
  have HG := (show Hid _ from hg)
  have HY0 := (show Hid _ from hy0)
  have HY1 := (show Hid _ from hy1)
  clear hg hy0 hy1
  have HH := (show Hid _ from hh)
  clear hh
  have HB := below3 w (.cells #[.slice a0 n0 c0, .slice b0 m0 d0] 30) (.cells #[.slice a1 n1 c1, .slice b1 m1 d1] 30) (.cells #[.slice none 0 0, .slice none 0 0] 30)
  have P0 := ((box_new w [.slice a0 n0 c0, .slice b0 m0 d0] 30).keep (below_alloc _ (.cells #[.slice a1 n1 c1, .slice b1 m1 d1] 30))).keep (below_alloc _ (.cells #[.slice none 0 0, .slice none 0 0] 30))
  have P1 := (box_new (w.alloc (.cells #[.slice a0 n0 c0, .slice b0 m0 d0] 30)) [.slice a1 n1 c1, .slice b1 m1 d1] 30).keep (below_alloc _ (.cells #[.slice none 0 0, .slice none 0 0] 30))
  have X6 := box_new ((w.alloc (.cells #[.slice a0 n0 c0, .slice b0 m0 d0] 30)).alloc (.cells #[.slice a1 n1 c1, .slice b1 m1 d1] 30)) [.slice none 0 0, .slice none 0 0] 30
  rw [show (w.alloc (.cells #[.slice a0 n0 c0, .slice b0 m0 d0] 30)).heap.size = w.heap.size + 1 by simp] at P1
  rw [show ((w.alloc (.cells #[.slice a0 n0 c0, .slice b0 m0 d0] 30)).alloc (.cells #[.slice a1 n1 c1, .slice b1 m1 d1] 30)).heap.size = w.heap.size + 1 + 1 by simp] at X6
  replace h0 := h0.keep HB
  replace e0 := e0.keep HB
  replace h1 := h1.keep HB
  replace e1 := e1.keep HB
  obtain ⟨p1, p2, p3, p4⟩ := P0.cells2
  obtain ⟨q1, q2, q3, q4⟩ := P1.cells2
  go_enter Tryz.func77, Tryz.ntmps77
  go_wp2_with fail
  generalize ((w.alloc (.cells #[.slice a0 n0 c0, .slice b0 m0 d0] 30)).alloc (.cells #[.slice a1 n1 c1, .slice b1 m1 d1] 30)).alloc (.cells #[.slice none 0 0, .slice none 0 0] 30) = u0 at *
  refine (nGcd e0 e1 (by omega) (by omega)).mono ?_
  rintro e u1 ⟨Ag, Kg, Dg, rfl, OG, hkg, hB⟩
  clear p1 p2 p3 p4 q1 q2 q3 q4
  replace h0 := h0.keep hB
  replace e0 := e0.keep hB
  replace h1 := h1.keep hB
  replace e1 := e1.keep hB
  replace P0 := P0.keep hB
  replace P1 := P1.keep hB
  replace X6 := X6.keep hB
  replace HB := joinB HB hB
  clear hB
  go_wp2_with fail
  refine rg_start (S := fun w' => Box w' w.heap.size [.slice a0 n0 c0, .slice b0 m0 d0] 30 ∧ Box w' (w.heap.size + 1) [.slice a1 n1 c1, .slice b1 m1 d1] 30) (by kernel_rfl) ⟨P0.drew, P1.drew⟩ ?_
  replace h0 := h0.drew
  replace e0 := e0.drew
  replace h1 := h1.drew
  replace e1 := e1.drew
  replace P0 := P0.drew
  replace P1 := P1.drew
  replace X6 := X6.drew
  replace OG := OG.drew
  replace HB := HB.drew
  have hS := (show _ ∧ _ from ⟨P0, P1⟩)
  refine rg_take 0 (some 19) (.pointer (some ⟨w.heap.size, 1, none⟩)) (by kernel_rfl) (fun _ _ => by kernel_rfl) (fun _ _ _ h => h) hS ?_
  refine rg_load 1 (some 20) (.slice b0 m0 d0) 28 19 (w.heap.size) 1 (by kernel_rfl) (by kernel_rfl) (by kernel_rfl) (fun _ hs => load_at (hs.1.cells2.2.1)) (fun _ _ _ h => h) hS ?_
  refine rg_take 2 (some 21) (.slice Ag Kg Dg) (by kernel_rfl) (fun _ _ => by kernel_rfl) (fun _ _ _ h => h) hS ?_
  refine rg_take 4 (some 23) (.pointer (some ⟨w.heap.size + 1, 1, none⟩)) (by kernel_rfl) (fun _ _ => by kernel_rfl) (fun _ _ _ h => h) hS ?_
  refine rg_load 5 (some 24) (.slice b1 m1 d1) 28 23 (w.heap.size + 1) 1 (by kernel_rfl) (by kernel_rfl) (by kernel_rfl) (fun _ hs => load_at (hs.2.cells2.2.1)) (fun _ _ _ h => h) hS ?_
  refine rg_take 6 (some 25) (.slice Ag Kg Dg) (by kernel_rfl) (fun _ _ => by kernel_rfl) (fun _ _ _ h => h) hS ?_
  refine rg_call 3 (some 22) 83 #[.slice b0 m0 d0, .slice Ag Kg Dg] (by kernel_rfl) (by kernel_rfl) (qQuot e0 OG.a (by omega) (by omega) HG.out) ?_
  rintro e r2x1 ⟨Al, Kl, Dl, rfl, OL, hkl, hB⟩
  refine ⟨_, rfl, ⟨hS.1.keep hB, hS.2.keep hB⟩, ?_⟩
  replace hS := (show _ ∧ _ from ⟨hS.1.keep hB, hS.2.keep hB⟩)
  replace h0 := h0.keep hB
  replace e0 := e0.keep hB
  replace h1 := h1.keep hB
  replace e1 := e1.keep hB
  replace P0 := P0.keep hB
  replace P1 := P1.keep hB
  replace X6 := X6.keep hB
  replace OG := OG.keep hB
  replace HB := joinB HB hB
  clear hB
  refine rg_call 7 (some 26) 83 #[.slice b1 m1 d1, .slice Ag Kg Dg] (by kernel_rfl) (by kernel_rfl) (qQuot e1 OG.a (by omega) (by omega) HG.out) ?_
  rintro e r2x2 ⟨Ar, Kr, Dr, rfl, OR, hkr, hB⟩
  refine ⟨_, rfl, ⟨hS.1.keep hB, hS.2.keep hB⟩, ?_⟩
  replace hS := (show _ ∧ _ from ⟨hS.1.keep hB, hS.2.keep hB⟩)
  replace h0 := h0.keep hB
  replace e0 := e0.keep hB
  replace h1 := h1.keep hB
  replace e1 := e1.keep hB
  replace P0 := P0.keep hB
  replace P1 := P1.keep hB
  replace X6 := X6.keep hB
  replace OG := OG.keep hB
  replace OL := OL.keep hB
  replace HB := joinB HB hB
  clear hB
  refine rg_take 8 (some 9) (.slice Al Kl Dl) (by kernel_rfl) (fun _ _ => by kernel_rfl) (fun _ _ _ h => h) hS ?_
  refine rg_take 9 (some 10) (.slice Ar Kr Dr) (by kernel_rfl) (fun _ _ => by kernel_rfl) (fun _ _ _ h => h) hS ?_
  refine rg_done (by kernel_rfl) ?_
  clear hS
  try simp only [Act.put, List.setIfInBounds_toArray, List.set_cons_zero, List.set_cons_succ]
  go_wp2_with fail
  refine rg_start (S := fun w' => Box w' w.heap.size [.slice a0 n0 c0, .slice b0 m0 d0] 30 ∧ Box w' (w.heap.size + 1) [.slice a1 n1 c1, .slice b1 m1 d1] 30) (by kernel_rfl) ⟨P0.drew, P1.drew⟩ ?_
  replace h0 := h0.drew
  replace e0 := e0.drew
  replace h1 := h1.drew
  replace e1 := e1.drew
  replace P0 := P0.drew
  replace P1 := P1.drew
  replace X6 := X6.drew
  replace OG := OG.drew
  replace OL := OL.drew
  replace OR := OR.drew
  replace HB := HB.drew
  have hS := (show _ ∧ _ from ⟨P0, P1⟩)
  refine rg_take 0 (some 28) (.func (.func 90) #[] #[]) (by kernel_rfl) (fun _ _ => by kernel_rfl) (fun _ _ _ h => h) hS ?_
  refine rg_take 1 (some 29) (.pointer (some ⟨w.heap.size, 0, none⟩)) (by kernel_rfl) (fun _ _ => by kernel_rfl) (fun _ _ _ h => h) hS ?_
  refine rg_load 2 (some 30) (.slice a0 n0 c0) 28 29 (w.heap.size) 0 (by kernel_rfl) (by kernel_rfl) (by kernel_rfl) (fun _ hs => load_at (hs.1.cells2.1)) (fun _ _ _ h => h) hS ?_
  refine rg_take 3 (some 31) (.slice Ar Kr Dr) (by kernel_rfl) (fun _ _ => by kernel_rfl) (fun _ _ _ h => h) hS ?_
  refine rg_take 5 (some 33) (.pointer (some ⟨w.heap.size + 1, 0, none⟩)) (by kernel_rfl) (fun _ _ => by kernel_rfl) (fun _ _ _ h => h) hS ?_
  refine rg_load 6 (some 34) (.slice a1 n1 c1) 28 33 (w.heap.size + 1) 0 (by kernel_rfl) (by kernel_rfl) (by kernel_rfl) (fun _ hs => load_at (hs.2.cells2.1)) (fun _ _ _ h => h) hS ?_
  refine rg_take 7 (some 35) (.slice Al Kl Dl) (by kernel_rfl) (fun _ _ => by kernel_rfl) (fun _ _ _ h => h) hS ?_
  refine rg_call 4 (some 32) 82 #[.slice a0 n0 c0, .slice Ar Kr Dr] (by kernel_rfl) (by kernel_rfl) (nMul h0 OR.a (by omega) (by omega)) ?_
  rintro e r3x1 ⟨Ap, Kp, Dp, rfl, Op1, hkp, hB⟩
  refine ⟨_, rfl, ⟨hS.1.keep hB, hS.2.keep hB⟩, ?_⟩
  replace hS := (show _ ∧ _ from ⟨hS.1.keep hB, hS.2.keep hB⟩)
  replace h0 := h0.keep hB
  replace e0 := e0.keep hB
  replace h1 := h1.keep hB
  replace e1 := e1.keep hB
  replace P0 := P0.keep hB
  replace P1 := P1.keep hB
  replace X6 := X6.keep hB
  replace OG := OG.keep hB
  replace OL := OL.keep hB
  replace OR := OR.keep hB
  replace HB := joinB HB hB
  clear hB
  refine rg_call 8 (some 36) 82 #[.slice a1 n1 c1, .slice Al Kl Dl] (by kernel_rfl) (by kernel_rfl) (nMul h1 OL.a (by omega) (by omega)) ?_
  rintro e r3x2 ⟨Aq, Kq, Dq, rfl, Op2, hkq, hB⟩
  refine ⟨_, rfl, ⟨hS.1.keep hB, hS.2.keep hB⟩, ?_⟩
  replace hS := (show _ ∧ _ from ⟨hS.1.keep hB, hS.2.keep hB⟩)
  replace h0 := h0.keep hB
  replace e0 := e0.keep hB
  replace h1 := h1.keep hB
  replace e1 := e1.keep hB
  replace P0 := P0.keep hB
  replace P1 := P1.keep hB
  replace X6 := X6.keep hB
  replace OG := OG.keep hB
  replace OL := OL.keep hB
  replace OR := OR.keep hB
  replace Op1 := Op1.keep hB
  replace HB := joinB HB hB
  clear hB
  refine rg_call 9 (some 37) 90 #[.slice Ap Kp Dp, .slice Aq Kq Dq] (by kernel_rfl) (by kernel_rfl) (nSubLt Op1.a Op2.a (by omega) (by omega) HH.out) ?_
  rintro e r3x3 ⟨rfl, hB⟩
  refine ⟨_, rfl, ⟨hS.1.keep hB, hS.2.keep hB⟩, ?_⟩
  replace hS := (show _ ∧ _ from ⟨hS.1.keep hB, hS.2.keep hB⟩)
  replace h0 := h0.keep hB
  replace e0 := e0.keep hB
  replace h1 := h1.keep hB
  replace e1 := e1.keep hB
  replace P0 := P0.keep hB
  replace P1 := P1.keep hB
  replace X6 := X6.keep hB
  replace OG := OG.keep hB
  replace OL := OL.keep hB
  replace OR := OR.keep hB
  replace Op1 := Op1.keep hB
  replace Op2 := Op2.keep hB
  replace HB := joinB HB hB
  clear hB
  refine rg_take 10 (some 27) (.tuple #[.slice none 0 0, .int .i64 10]) (by kernel_rfl) (fun _ _ => by kernel_rfl) (fun _ _ _ h => h) hS ?_
  refine rg_take 11 (some 38) (.slice none 0 0) (by kernel_rfl) (fun _ _ => by kernel_rfl) (fun _ _ _ h => h) hS ?_
  refine rg_take 12 (some 39) (.int .i64 10) (by kernel_rfl) (fun _ _ => by kernel_rfl) (fun _ _ _ h => h) hS ?_
  refine rg_take 13 (some 11) (.slice none 0 0) (by kernel_rfl) (fun _ _ => by kernel_rfl) (fun _ _ _ h => h) hS ?_
  refine rg_take 14 (some 12) (.int .i64 10) (by kernel_rfl) (fun _ _ => by kernel_rfl) (fun _ _ _ h => h) hS ?_
  refine rg_done (by kernel_rfl) ?_
  clear hS
  try simp only [Act.put, List.setIfInBounds_toArray, List.set_cons_zero, List.set_cons_succ]
  obtain ⟨k1, k2, k3, k4⟩ := X6.cells2
  have S2 := X6.put2 (.slice none 0 0) (.slice none 0 0)
  have HB2 := below_put2 HB (g := w.heap.size + 1 + 1) (by omega) (.slice none 0 0) (.slice none 0 0)
  clear h0 e0 h1 e1 P0 P1 OG OL OR Op1 Op2 X6 HB
  go_wp2
  refine bodyPost_ret (ret_rat_tmp rfl rfl rfl S2) rfl ?_
  exact ⟨rfl, HB2⟩
end Go.Proofs.YtjihgkanbhccpaaGreatDoor
