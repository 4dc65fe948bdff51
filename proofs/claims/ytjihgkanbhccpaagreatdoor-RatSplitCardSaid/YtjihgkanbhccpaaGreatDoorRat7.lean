/- Package rat: taken away; a step of the sum. -/
import Derived.Test.YtjihgkanbhccpaaGreatDoorRat3
namespace Go.Proofs.YtjihgkanbhccpaaGreatDoor
open Go.RowKit Lim

theorem rd_ne (x y : Int) (h : y ≠ 0) : rd x y ≠ 0 := fun e => by
  unfold rd at e
  have h1 := Int.ediv_mul_cancel (Int.gcd_dvd_right x y)
  rw [e, Int.zero_mul] at h1
  exact h h1.symm
set_option maxHeartbeats 8000000 in
set_option maxRecDepth 100000 in
theorem qSub {w : World} {a0 b0 : Option Addr} {n0 c0 m0 d0 : Nat} {x0 y0 : Int} {a1 b1 : Option Addr} {n1 c1 m1 d1 : Nat} {x1 y1 : Int} (h0 : NatA w a0 n0 c0 x0) (e0 : NatA w b0 m0 d0 y0) (hn0 : n0 ≤ 8589934592) (hm0 : m0 ≤ 8589934592) (h1 : NatA w a1 n1 c1 x1) (e1 : NatA w b1 m1 d1 y1) (hn1 : n1 ≤ 8589934592) (hm1 : m1 ≤ 8589934592) (hh : (rn (cn x1 y1) (cd y1)) * ((rd (cn x0 y0) (cd y0)) / (Int.gcd (rd (cn x0 y0) (cd y0)) (rd (cn x1 y1) (cd y1)) : Nat)) ≤ (rn (cn x0 y0) (cd y0)) * ((rd (cn x1 y1) (cd y1)) / (Int.gcd (rd (cn x0 y0) (cd y0)) (rd (cn x1 y1) (cd y1)) : Nat))) :
    Calls Tryz.prog 27 #[.agg #[.slice a0 n0 c0, .slice b0 m0 d0], .agg #[.slice a1 n1 c1, .slice b1 m1 d1]] w fun e w' => ∃ a k d a' k' d', e = .returned (.tuple #[.agg #[.slice a k d, .slice a' k' d'], .int .i64 0]) ∧ NatO w' a k d (((rn (cn x0 y0) (cd y0)) * ((rd (cn x1 y1) (cd y1)) / (Int.gcd (rd (cn x0 y0) (cd y0)) (rd (cn x1 y1) (cd y1)) : Nat)) - (rn (cn x1 y1) (cd y1)) * ((rd (cn x0 y0) (cd y0)) / (Int.gcd (rd (cn x0 y0) (cd y0)) (rd (cn x1 y1) (cd y1)) : Nat))) / (Int.gcd ((rn (cn x0 y0) (cd y0)) * ((rd (cn x1 y1) (cd y1)) / (Int.gcd (rd (cn x0 y0) (cd y0)) (rd (cn x1 y1) (cd y1)) : Nat)) - (rn (cn x1 y1) (cd y1)) * ((rd (cn x0 y0) (cd y0)) / (Int.gcd (rd (cn x0 y0) (cd y0)) (rd (cn x1 y1) (cd y1)) : Nat))) (Int.gcd (rd (cn x0 y0) (cd y0)) (rd (cn x1 y1) (cd y1)) : Nat) : Nat)) ∧ NatO w' a' k' d' ((rd (cn x0 y0) (cd y0)) / (Int.gcd (rd (cn x0 y0) (cd y0)) (rd (cn x1 y1) (cd y1)) : Nat) * ((rd (cn x1 y1) (cd y1)) / (Int.gcd ((rn (cn x0 y0) (cd y0)) * ((rd (cn x1 y1) (cd y1)) / (Int.gcd (rd (cn x0 y0) (cd y0)) (rd (cn x1 y1) (cd y1)) : Nat)) - (rn (cn x1 y1) (cd y1)) * ((rd (cn x0 y0) (cd y0)) / (Int.gcd (rd (cn x0 y0) (cd y0)) (rd (cn x1 y1) (cd y1)) : Nat))) (Int.gcd (rd (cn x0 y0) (cd y0)) (rd (cn x1 y1) (cd y1)) : Nat) : Nat))) ∧ k ≤ n0 + n1 + m0 + m1 + 3 ∧ k' ≤ m0 + m1 + 2 ∧ Below w.heap.size w w' := by
  have HH := (show Hid _ from hh)
  clear hh
  have HB := below3 w (.cells #[.slice a0 n0 c0, .slice b0 m0 d0] 30) (.cells #[.slice a1 n1 c1, .slice b1 m1 d1] 30) (.cells #[.slice none 0 0, .slice none 0 0] 30)
  have P0 := ((box_new w [.slice a0 n0 c0, .slice b0 m0 d0] 30).keep (below_alloc _ (.cells #[.slice a1 n1 c1, .slice b1 m1 d1] 30))).keep (below_alloc _ (.cells #[.slice none 0 0, .slice none 0 0] 30))
  have P1 := (box_new (w.alloc (.cells #[.slice a0 n0 c0, .slice b0 m0 d0] 30)) [.slice a1 n1 c1, .slice b1 m1 d1] 30).keep (below_alloc _ (.cells #[.slice none 0 0, .slice none 0 0] 30))
  have X4 := box_new ((w.alloc (.cells #[.slice a0 n0 c0, .slice b0 m0 d0] 30)).alloc (.cells #[.slice a1 n1 c1, .slice b1 m1 d1] 30)) [.slice none 0 0, .slice none 0 0] 30
  rw [show (w.alloc (.cells #[.slice a0 n0 c0, .slice b0 m0 d0] 30)).heap.size = w.heap.size + 1 by simp] at P1
  rw [show ((w.alloc (.cells #[.slice a0 n0 c0, .slice b0 m0 d0] 30)).alloc (.cells #[.slice a1 n1 c1, .slice b1 m1 d1] 30)).heap.size = w.heap.size + 1 + 1 by simp] at X4
  replace h0 := h0.keep HB
  replace e0 := e0.keep HB
  replace h1 := h1.keep HB
  replace e1 := e1.keep HB
  go_enter Tryz.func27, Tryz.ntmps27
  go_wp2_with fail
  generalize ((w.alloc (.cells #[.slice a0 n0 c0, .slice b0 m0 d0] 30)).alloc (.cells #[.slice a1 n1 c1, .slice b1 m1 d1] 30)).alloc (.cells #[.slice none 0 0, .slice none 0 0] 30) = u0 at *
  refine rg_start (S := fun w' => Below u0.drew.heap.size u0.drew w') (by kernel_rfl) (Below.refl _ _) ?_
  replace HB := HB.drew
  have UP0 := P0.drew
  have UP1 := P1.drew
  replace h0 := h0.drew
  replace e0 := e0.drew
  replace h1 := h1.drew
  replace e1 := e1.drew
  replace X4 := X4.drew
  have hX4u := X4.lt
  have hBu := HB.size
  have hS := Below.refl u0.drew.heap.size u0.drew
  clear P0 P1
  refine rg_load 0 (some 9) (.agg #[.slice a0 n0 c0, .slice b0 m0 d0]) 30 2 (w.heap.size) 0 (by kernel_rfl) (by kernel_rfl) (by kernel_rfl) (fun _ hb => load_rat (UP0.keep hb)) (fun _ _ _ h => h) hS ?_
  refine rg_load 2 (some 11) (.agg #[.slice a1 n1 c1, .slice b1 m1 d1]) 30 3 (w.heap.size + 1) 0 (by kernel_rfl) (by kernel_rfl) (by kernel_rfl) (fun _ hb => load_rat (UP1.keep hb)) (fun _ _ _ h => h) hS ?_
  refine rg_ready [1, 8] (by kernel_rfl) (by simp) ?_
  refine ar_call 1 (some 10) 78 #[.agg #[.slice a0 n0 c0, .slice b0 m0 d0]] (by kernel_rfl) (by kernel_rfl) (qLowest h0 e0 (by omega) (by omega)) ?_ ?_
  · rintro e v1 ⟨A0, K0, D0, B0, L0, M0, rfl, C0, E0, hK0, hL0, hB⟩
    refine ⟨_, rfl, joinB hS hB, ?_⟩
    replace hS := joinB hS hB
    replace HB := joinB HB hB
    replace h0 := h0.keep hB
    replace e0 := e0.keep hB
    replace h1 := h1.keep hB
    replace e1 := e1.keep hB
    replace X4 := X4.keep hB
    clear hB
    refine rg_ready [3, 8] (by kernel_rfl) (by simp) ?_
    refine ar_call 3 (some 12) 78 #[.agg #[.slice a1 n1 c1, .slice b1 m1 d1]] (by kernel_rfl) (by kernel_rfl) (qLowest h1 e1 (by omega) (by omega)) ?_ ?_
    · rintro e v2 ⟨A1, K1, D1, B1, L1, M1, rfl, C1, E1, hK1, hL1, hB⟩
      refine ⟨_, rfl, joinB hS hB, ?_⟩
      replace hS := joinB hS hB
      replace HB := joinB HB hB
      replace h0 := h0.keep hB
      replace e0 := e0.keep hB
      replace h1 := h1.keep hB
      replace e1 := e1.keep hB
      replace C0 := C0.keep hB
      replace E0 := E0.keep hB
      replace X4 := X4.keep hB
      clear hB
      refine rg_ready [4, 8] (by kernel_rfl) (by simp) ?_
      refine ar_call 4 (some 13) 77 #[.agg #[.slice A0 K0 D0, .slice B0 L0 M0], .agg #[.slice A1 K1 D1, .slice B1 L1 M1], .func (.func 90) #[] #[]] (by kernel_rfl) (by kernel_rfl) (qTogS C0.a E0.a (by omega) (by omega) (rd_ne _ _ (cd_ne _)) C1.a E1.a (by omega) (by omega) (rd_ne _ _ (cd_ne _)) HH.out) ?_ ?_
      · rintro e v3 ⟨Ar, Kr, Dr, As', Ks, Ds, rfl, Or1, Or2, hkr, hks, hB⟩
        refine ⟨_, rfl, joinB hS hB, ?_⟩
        replace hS := joinB hS hB
        replace HB := joinB HB hB
        replace h0 := h0.keep hB
        replace e0 := e0.keep hB
        replace h1 := h1.keep hB
        replace e1 := e1.keep hB
        replace C0 := C0.keep hB
        replace E0 := E0.keep hB
        replace C1 := C1.keep hB
        replace E1 := E1.keep hB
        replace X4 := X4.keep hB
        clear hB
        refine rg_take 5 (some 8) (.tuple #[.agg #[.slice Ar Kr Dr, .slice As' Ks Ds], .int .i64 0]) (by kernel_rfl) (fun _ _ => by kernel_rfl) (fun _ _ _ h => h) hS ?_
        refine rg_take 6 (some 14) (.agg #[.slice Ar Kr Dr, .slice As' Ks Ds]) (by kernel_rfl) (fun _ _ => by kernel_rfl) (fun _ _ _ h => h) hS ?_
        refine rg_take 7 (some 15) (.int .i64 0) (by kernel_rfl) (fun _ _ => by kernel_rfl) (fun _ _ _ h => h) hS ?_
        refine rg_ready [8] (by kernel_rfl) (by simp) ?_
        refine ar_alloc 8 (some 6) 30 [.slice none 0 0, .slice none 0 0] (by kernel_rfl) (by kernel_rfl) ?_ ?_
        · intro v4 X6 hB
          refine ⟨joinB hS hB, ?_⟩
          have hX6 := hS.size
          replace hS := joinB hS hB
          replace HB := joinB HB hB
          replace h0 := h0.keep hB
          replace e0 := e0.keep hB
          replace h1 := h1.keep hB
          replace e1 := e1.keep hB
          replace C0 := C0.keep hB
          replace E0 := E0.keep hB
          replace C1 := C1.keep hB
          replace E1 := E1.keep hB
          replace Or1 := Or1.keep hB
          replace Or2 := Or2.keep hB
          replace X4 := X4.keep hB
          clear hB
          refine rg_ready [9] (by kernel_rfl) (by simp) ?_
          refine ar_store 9 30 30 6 14 (v3.heap.size) [.slice none 0 0, .slice none 0 0] [.slice Ar Kr Dr, .slice As' Ks Ds] (by kernel_rfl) (by kernel_rfl) (by kernel_rfl) (by kernel_rfl) X6 (by kernel_rfl) rfl (by kernel_rfl) ?_ ?_
          · intro v5 Y hw hB
            refine ⟨hS.trans (hB.mono hX6), ?_⟩
            replace HB := HB.trans (hB.mono (Nat.le_trans hBu hX6))
            replace hS := hS.trans (hB.mono hX6)
            replace h0 := h0.blk X6 (no_ints2 _ _ _ _ _ _) hw
            replace e0 := e0.blk X6 (no_ints2 _ _ _ _ _ _) hw
            replace h1 := h1.blk X6 (no_ints2 _ _ _ _ _ _) hw
            replace e1 := e1.blk X6 (no_ints2 _ _ _ _ _ _) hw
            replace C0 := C0.blk X6 (no_ints2 _ _ _ _ _ _) hw
            replace E0 := E0.blk X6 (no_ints2 _ _ _ _ _ _) hw
            replace C1 := C1.blk X6 (no_ints2 _ _ _ _ _ _) hw
            replace E1 := E1.blk X6 (no_ints2 _ _ _ _ _ _) hw
            replace Or1 := Or1.blk X6 (no_ints2 _ _ _ _ _ _) hw
            replace Or2 := Or2.blk X6 (no_ints2 _ _ _ _ _ _) hw
            replace X4 := X4.off (by omega) hw
            replace X6 := Y
            clear hB hw
            refine rg_take 10 (some 7) (.int .i64 0) (by kernel_rfl) (fun _ _ => by kernel_rfl) (fun _ _ _ h => h) hS ?_
            refine rg_done (by kernel_rfl) ?_
            try simp only [Act.put, List.setIfInBounds_toArray, List.set_cons_zero, List.set_cons_succ]
            obtain ⟨j1, j2, j3, j4⟩ := X6.cells2
            obtain ⟨k1, k2, k3, k4⟩ := X4.cells2
            have S2 := X4.put2 (.slice Ar Kr Dr) (.slice As' Ks Ds)
            have Q1 := Or1.put2 X4 (.slice Ar Kr Dr) (.slice As' Ks Ds)
            have Q2 := Or2.put2 X4 (.slice Ar Kr Dr) (.slice As' Ks Ds)
            have HB2 := below_put2 HB (g := w.heap.size + 1 + 1) (by omega) (.slice Ar Kr Dr) (.slice As' Ks Ds)
            clear h0 e0 h1 e1 X6 X4 HB hS C0 E0 C1 E1 Or1 Or2
            go_wp2
            refine bodyPost_ret (ret_rat_tmp rfl rfl rfl S2) rfl ?_
            exact ⟨_, _, _, _, _, _, rfl, Q1, Q2, by omega, by omega, HB2⟩
          exact ar_nil
        exact ar_nil
      refine ar_alloc 8 (some 6) 30 [.slice none 0 0, .slice none 0 0] (by kernel_rfl) (by kernel_rfl) ?_ ?_
      · intro v6 X6 hB
        refine ⟨joinB hS hB, ?_⟩
        have hX6 := hS.size
        replace hS := joinB hS hB
        replace HB := joinB HB hB
        replace h0 := h0.keep hB
        replace e0 := e0.keep hB
        replace h1 := h1.keep hB
        replace e1 := e1.keep hB
        replace C0 := C0.keep hB
        replace E0 := E0.keep hB
        replace C1 := C1.keep hB
        replace E1 := E1.keep hB
        replace X4 := X4.keep hB
        clear hB
        refine rg_ready [4] (by kernel_rfl) (by simp) ?_
        refine ar_call 4 (some 13) 77 #[.agg #[.slice A0 K0 D0, .slice B0 L0 M0], .agg #[.slice A1 K1 D1, .slice B1 L1 M1], .func (.func 90) #[] #[]] (by kernel_rfl) (by kernel_rfl) (qTogS C0.a E0.a (by omega) (by omega) (rd_ne _ _ (cd_ne _)) C1.a E1.a (by omega) (by omega) (rd_ne _ _ (cd_ne _)) HH.out) ?_ ?_
        · rintro e v7 ⟨Ar, Kr, Dr, As', Ks, Ds, rfl, Or1, Or2, hkr, hks, hB⟩
          refine ⟨_, rfl, joinB hS hB, ?_⟩
          replace hS := joinB hS hB
          replace HB := joinB HB hB
          replace h0 := h0.keep hB
          replace e0 := e0.keep hB
          replace h1 := h1.keep hB
          replace e1 := e1.keep hB
          replace C0 := C0.keep hB
          replace E0 := E0.keep hB
          replace C1 := C1.keep hB
          replace E1 := E1.keep hB
          replace X4 := X4.keep hB
          replace X6 := X6.keep hB
          clear hB
          refine rg_take 5 (some 8) (.tuple #[.agg #[.slice Ar Kr Dr, .slice As' Ks Ds], .int .i64 0]) (by kernel_rfl) (fun _ _ => by kernel_rfl) (fun _ _ _ h => h) hS ?_
          refine rg_take 6 (some 14) (.agg #[.slice Ar Kr Dr, .slice As' Ks Ds]) (by kernel_rfl) (fun _ _ => by kernel_rfl) (fun _ _ _ h => h) hS ?_
          refine rg_take 7 (some 15) (.int .i64 0) (by kernel_rfl) (fun _ _ => by kernel_rfl) (fun _ _ _ h => h) hS ?_
          refine rg_ready [9] (by kernel_rfl) (by simp) ?_
          refine ar_store 9 30 30 6 14 (v2.heap.size) [.slice none 0 0, .slice none 0 0] [.slice Ar Kr Dr, .slice As' Ks Ds] (by kernel_rfl) (by kernel_rfl) (by kernel_rfl) (by kernel_rfl) X6 (by kernel_rfl) rfl (by kernel_rfl) ?_ ?_
          · intro v8 Y hw hB
            refine ⟨hS.trans (hB.mono hX6), ?_⟩
            replace HB := HB.trans (hB.mono (Nat.le_trans hBu hX6))
            replace hS := hS.trans (hB.mono hX6)
            replace h0 := h0.blk X6 (no_ints2 _ _ _ _ _ _) hw
            replace e0 := e0.blk X6 (no_ints2 _ _ _ _ _ _) hw
            replace h1 := h1.blk X6 (no_ints2 _ _ _ _ _ _) hw
            replace e1 := e1.blk X6 (no_ints2 _ _ _ _ _ _) hw
            replace C0 := C0.blk X6 (no_ints2 _ _ _ _ _ _) hw
            replace E0 := E0.blk X6 (no_ints2 _ _ _ _ _ _) hw
            replace C1 := C1.blk X6 (no_ints2 _ _ _ _ _ _) hw
            replace E1 := E1.blk X6 (no_ints2 _ _ _ _ _ _) hw
            replace Or1 := Or1.blk X6 (no_ints2 _ _ _ _ _ _) hw
            replace Or2 := Or2.blk X6 (no_ints2 _ _ _ _ _ _) hw
            replace X4 := X4.off (by omega) hw
            replace X6 := Y
            clear hB hw
            refine rg_take 10 (some 7) (.int .i64 0) (by kernel_rfl) (fun _ _ => by kernel_rfl) (fun _ _ _ h => h) hS ?_
            refine rg_done (by kernel_rfl) ?_
            try simp only [Act.put, List.setIfInBounds_toArray, List.set_cons_zero, List.set_cons_succ]
            obtain ⟨j1, j2, j3, j4⟩ := X6.cells2
            obtain ⟨k1, k2, k3, k4⟩ := X4.cells2
            have S2 := X4.put2 (.slice Ar Kr Dr) (.slice As' Ks Ds)
            have Q1 := Or1.put2 X4 (.slice Ar Kr Dr) (.slice As' Ks Ds)
            have Q2 := Or2.put2 X4 (.slice Ar Kr Dr) (.slice As' Ks Ds)
            have HB2 := below_put2 HB (g := w.heap.size + 1 + 1) (by omega) (.slice Ar Kr Dr) (.slice As' Ks Ds)
            clear h0 e0 h1 e1 X6 X4 HB hS C0 E0 C1 E1 Or1 Or2
            go_wp2
            refine bodyPost_ret (ret_rat_tmp rfl rfl rfl S2) rfl ?_
            exact ⟨_, _, _, _, _, _, rfl, Q1, Q2, by omega, by omega, HB2⟩
          exact ar_nil
        exact ar_nil
      exact ar_nil
    refine ar_alloc 8 (some 6) 30 [.slice none 0 0, .slice none 0 0] (by kernel_rfl) (by kernel_rfl) ?_ ?_
    · intro v9 X6 hB
      refine ⟨joinB hS hB, ?_⟩
      have hX6 := hS.size
      replace hS := joinB hS hB
      replace HB := joinB HB hB
      replace h0 := h0.keep hB
      replace e0 := e0.keep hB
      replace h1 := h1.keep hB
      replace e1 := e1.keep hB
      replace C0 := C0.keep hB
      replace E0 := E0.keep hB
      replace X4 := X4.keep hB
      clear hB
      refine rg_ready [3] (by kernel_rfl) (by simp) ?_
      refine ar_call 3 (some 12) 78 #[.agg #[.slice a1 n1 c1, .slice b1 m1 d1]] (by kernel_rfl) (by kernel_rfl) (qLowest h1 e1 (by omega) (by omega)) ?_ ?_
      · rintro e v10 ⟨A1, K1, D1, B1, L1, M1, rfl, C1, E1, hK1, hL1, hB⟩
        refine ⟨_, rfl, joinB hS hB, ?_⟩
        replace hS := joinB hS hB
        replace HB := joinB HB hB
        replace h0 := h0.keep hB
        replace e0 := e0.keep hB
        replace h1 := h1.keep hB
        replace e1 := e1.keep hB
        replace C0 := C0.keep hB
        replace E0 := E0.keep hB
        replace X4 := X4.keep hB
        replace X6 := X6.keep hB
        clear hB
        refine rg_ready [4] (by kernel_rfl) (by simp) ?_
        refine ar_call 4 (some 13) 77 #[.agg #[.slice A0 K0 D0, .slice B0 L0 M0], .agg #[.slice A1 K1 D1, .slice B1 L1 M1], .func (.func 90) #[] #[]] (by kernel_rfl) (by kernel_rfl) (qTogS C0.a E0.a (by omega) (by omega) (rd_ne _ _ (cd_ne _)) C1.a E1.a (by omega) (by omega) (rd_ne _ _ (cd_ne _)) HH.out) ?_ ?_
        · rintro e v11 ⟨Ar, Kr, Dr, As', Ks, Ds, rfl, Or1, Or2, hkr, hks, hB⟩
          refine ⟨_, rfl, joinB hS hB, ?_⟩
          replace hS := joinB hS hB
          replace HB := joinB HB hB
          replace h0 := h0.keep hB
          replace e0 := e0.keep hB
          replace h1 := h1.keep hB
          replace e1 := e1.keep hB
          replace C0 := C0.keep hB
          replace E0 := E0.keep hB
          replace C1 := C1.keep hB
          replace E1 := E1.keep hB
          replace X4 := X4.keep hB
          replace X6 := X6.keep hB
          clear hB
          refine rg_take 5 (some 8) (.tuple #[.agg #[.slice Ar Kr Dr, .slice As' Ks Ds], .int .i64 0]) (by kernel_rfl) (fun _ _ => by kernel_rfl) (fun _ _ _ h => h) hS ?_
          refine rg_take 6 (some 14) (.agg #[.slice Ar Kr Dr, .slice As' Ks Ds]) (by kernel_rfl) (fun _ _ => by kernel_rfl) (fun _ _ _ h => h) hS ?_
          refine rg_take 7 (some 15) (.int .i64 0) (by kernel_rfl) (fun _ _ => by kernel_rfl) (fun _ _ _ h => h) hS ?_
          refine rg_ready [9] (by kernel_rfl) (by simp) ?_
          refine ar_store 9 30 30 6 14 (v1.heap.size) [.slice none 0 0, .slice none 0 0] [.slice Ar Kr Dr, .slice As' Ks Ds] (by kernel_rfl) (by kernel_rfl) (by kernel_rfl) (by kernel_rfl) X6 (by kernel_rfl) rfl (by kernel_rfl) ?_ ?_
          · intro v12 Y hw hB
            refine ⟨hS.trans (hB.mono hX6), ?_⟩
            replace HB := HB.trans (hB.mono (Nat.le_trans hBu hX6))
            replace hS := hS.trans (hB.mono hX6)
            replace h0 := h0.blk X6 (no_ints2 _ _ _ _ _ _) hw
            replace e0 := e0.blk X6 (no_ints2 _ _ _ _ _ _) hw
            replace h1 := h1.blk X6 (no_ints2 _ _ _ _ _ _) hw
            replace e1 := e1.blk X6 (no_ints2 _ _ _ _ _ _) hw
            replace C0 := C0.blk X6 (no_ints2 _ _ _ _ _ _) hw
            replace E0 := E0.blk X6 (no_ints2 _ _ _ _ _ _) hw
            replace C1 := C1.blk X6 (no_ints2 _ _ _ _ _ _) hw
            replace E1 := E1.blk X6 (no_ints2 _ _ _ _ _ _) hw
            replace Or1 := Or1.blk X6 (no_ints2 _ _ _ _ _ _) hw
            replace Or2 := Or2.blk X6 (no_ints2 _ _ _ _ _ _) hw
            replace X4 := X4.off (by omega) hw
            replace X6 := Y
            clear hB hw
            refine rg_take 10 (some 7) (.int .i64 0) (by kernel_rfl) (fun _ _ => by kernel_rfl) (fun _ _ _ h => h) hS ?_
            refine rg_done (by kernel_rfl) ?_
            try simp only [Act.put, List.setIfInBounds_toArray, List.set_cons_zero, List.set_cons_succ]
            obtain ⟨j1, j2, j3, j4⟩ := X6.cells2
            obtain ⟨k1, k2, k3, k4⟩ := X4.cells2
            have S2 := X4.put2 (.slice Ar Kr Dr) (.slice As' Ks Ds)
            have Q1 := Or1.put2 X4 (.slice Ar Kr Dr) (.slice As' Ks Ds)
            have Q2 := Or2.put2 X4 (.slice Ar Kr Dr) (.slice As' Ks Ds)
            have HB2 := below_put2 HB (g := w.heap.size + 1 + 1) (by omega) (.slice Ar Kr Dr) (.slice As' Ks Ds)
            clear h0 e0 h1 e1 X6 X4 HB hS C0 E0 C1 E1 Or1 Or2
            go_wp2
            refine bodyPost_ret (ret_rat_tmp rfl rfl rfl S2) rfl ?_
            exact ⟨_, _, _, _, _, _, rfl, Q1, Q2, by omega, by omega, HB2⟩
          exact ar_nil
        exact ar_nil
      exact ar_nil
    exact ar_nil
  refine ar_alloc 8 (some 6) 30 [.slice none 0 0, .slice none 0 0] (by kernel_rfl) (by kernel_rfl) ?_ ?_
  · intro v13 X6 hB
    refine ⟨joinB hS hB, ?_⟩
    have hX6 := hS.size
    replace hS := joinB hS hB
    replace HB := joinB HB hB
    replace h0 := h0.keep hB
    replace e0 := e0.keep hB
    replace h1 := h1.keep hB
    replace e1 := e1.keep hB
    replace X4 := X4.keep hB
    clear hB
    refine rg_ready [1] (by kernel_rfl) (by simp) ?_
    refine ar_call 1 (some 10) 78 #[.agg #[.slice a0 n0 c0, .slice b0 m0 d0]] (by kernel_rfl) (by kernel_rfl) (qLowest h0 e0 (by omega) (by omega)) ?_ ?_
    · rintro e v14 ⟨A0, K0, D0, B0, L0, M0, rfl, C0, E0, hK0, hL0, hB⟩
      refine ⟨_, rfl, joinB hS hB, ?_⟩
      replace hS := joinB hS hB
      replace HB := joinB HB hB
      replace h0 := h0.keep hB
      replace e0 := e0.keep hB
      replace h1 := h1.keep hB
      replace e1 := e1.keep hB
      replace X4 := X4.keep hB
      replace X6 := X6.keep hB
      clear hB
      refine rg_ready [3] (by kernel_rfl) (by simp) ?_
      refine ar_call 3 (some 12) 78 #[.agg #[.slice a1 n1 c1, .slice b1 m1 d1]] (by kernel_rfl) (by kernel_rfl) (qLowest h1 e1 (by omega) (by omega)) ?_ ?_
      · rintro e v15 ⟨A1, K1, D1, B1, L1, M1, rfl, C1, E1, hK1, hL1, hB⟩
        refine ⟨_, rfl, joinB hS hB, ?_⟩
        replace hS := joinB hS hB
        replace HB := joinB HB hB
        replace h0 := h0.keep hB
        replace e0 := e0.keep hB
        replace h1 := h1.keep hB
        replace e1 := e1.keep hB
        replace C0 := C0.keep hB
        replace E0 := E0.keep hB
        replace X4 := X4.keep hB
        replace X6 := X6.keep hB
        clear hB
        refine rg_ready [4] (by kernel_rfl) (by simp) ?_
        refine ar_call 4 (some 13) 77 #[.agg #[.slice A0 K0 D0, .slice B0 L0 M0], .agg #[.slice A1 K1 D1, .slice B1 L1 M1], .func (.func 90) #[] #[]] (by kernel_rfl) (by kernel_rfl) (qTogS C0.a E0.a (by omega) (by omega) (rd_ne _ _ (cd_ne _)) C1.a E1.a (by omega) (by omega) (rd_ne _ _ (cd_ne _)) HH.out) ?_ ?_
        · rintro e v16 ⟨Ar, Kr, Dr, As', Ks, Ds, rfl, Or1, Or2, hkr, hks, hB⟩
          refine ⟨_, rfl, joinB hS hB, ?_⟩
          replace hS := joinB hS hB
          replace HB := joinB HB hB
          replace h0 := h0.keep hB
          replace e0 := e0.keep hB
          replace h1 := h1.keep hB
          replace e1 := e1.keep hB
          replace C0 := C0.keep hB
          replace E0 := E0.keep hB
          replace C1 := C1.keep hB
          replace E1 := E1.keep hB
          replace X4 := X4.keep hB
          replace X6 := X6.keep hB
          clear hB
          refine rg_take 5 (some 8) (.tuple #[.agg #[.slice Ar Kr Dr, .slice As' Ks Ds], .int .i64 0]) (by kernel_rfl) (fun _ _ => by kernel_rfl) (fun _ _ _ h => h) hS ?_
          refine rg_take 6 (some 14) (.agg #[.slice Ar Kr Dr, .slice As' Ks Ds]) (by kernel_rfl) (fun _ _ => by kernel_rfl) (fun _ _ _ h => h) hS ?_
          refine rg_take 7 (some 15) (.int .i64 0) (by kernel_rfl) (fun _ _ => by kernel_rfl) (fun _ _ _ h => h) hS ?_
          refine rg_ready [9] (by kernel_rfl) (by simp) ?_
          refine ar_store 9 30 30 6 14 (u0.drew.heap.size) [.slice none 0 0, .slice none 0 0] [.slice Ar Kr Dr, .slice As' Ks Ds] (by kernel_rfl) (by kernel_rfl) (by kernel_rfl) (by kernel_rfl) X6 (by kernel_rfl) rfl (by kernel_rfl) ?_ ?_
          · intro v17 Y hw hB
            refine ⟨hS.trans (hB.mono hX6), ?_⟩
            replace HB := HB.trans (hB.mono (Nat.le_trans hBu hX6))
            replace hS := hS.trans (hB.mono hX6)
            replace h0 := h0.blk X6 (no_ints2 _ _ _ _ _ _) hw
            replace e0 := e0.blk X6 (no_ints2 _ _ _ _ _ _) hw
            replace h1 := h1.blk X6 (no_ints2 _ _ _ _ _ _) hw
            replace e1 := e1.blk X6 (no_ints2 _ _ _ _ _ _) hw
            replace C0 := C0.blk X6 (no_ints2 _ _ _ _ _ _) hw
            replace E0 := E0.blk X6 (no_ints2 _ _ _ _ _ _) hw
            replace C1 := C1.blk X6 (no_ints2 _ _ _ _ _ _) hw
            replace E1 := E1.blk X6 (no_ints2 _ _ _ _ _ _) hw
            replace Or1 := Or1.blk X6 (no_ints2 _ _ _ _ _ _) hw
            replace Or2 := Or2.blk X6 (no_ints2 _ _ _ _ _ _) hw
            replace X4 := X4.off (by omega) hw
            replace X6 := Y
            clear hB hw
            refine rg_take 10 (some 7) (.int .i64 0) (by kernel_rfl) (fun _ _ => by kernel_rfl) (fun _ _ _ h => h) hS ?_
            refine rg_done (by kernel_rfl) ?_
            generalize u0.drew.heap.size = gg at *
            try simp only [Act.put, List.setIfInBounds_toArray, List.set_cons_zero, List.set_cons_succ]
            obtain ⟨j1, j2, j3, j4⟩ := X6.cells2
            obtain ⟨k1, k2, k3, k4⟩ := X4.cells2
            have S2 := X4.put2 (.slice Ar Kr Dr) (.slice As' Ks Ds)
            have Q1 := Or1.put2 X4 (.slice Ar Kr Dr) (.slice As' Ks Ds)
            have Q2 := Or2.put2 X4 (.slice Ar Kr Dr) (.slice As' Ks Ds)
            have HB2 := below_put2 HB (g := w.heap.size + 1 + 1) (by omega) (.slice Ar Kr Dr) (.slice As' Ks Ds)
            clear h0 e0 h1 e1 X6 X4 HB hS C0 E0 C1 E1 Or1 Or2
            go_wp2
            refine bodyPost_ret (ret_rat_tmp rfl rfl rfl S2) rfl ?_
            exact ⟨_, _, _, _, _, _, rfl, Q1, Q2, by omega, by omega, HB2⟩
          exact ar_nil
        exact ar_nil
      exact ar_nil
    exact ar_nil
  exact ar_nil
set_option maxHeartbeats 8000000 in
set_option maxRecDepth 100000 in
theorem qSubLt {w : World} {a0 b0 : Option Addr} {n0 c0 m0 d0 : Nat} {x0 y0 : Int} {a1 b1 : Option Addr} {n1 c1 m1 d1 : Nat} {x1 y1 : Int} (h0 : NatA w a0 n0 c0 x0) (e0 : NatA w b0 m0 d0 y0) (hn0 : n0 ≤ 8589934592) (hm0 : m0 ≤ 8589934592) (h1 : NatA w a1 n1 c1 x1) (e1 : NatA w b1 m1 d1 y1) (hn1 : n1 ≤ 8589934592) (hm1 : m1 ≤ 8589934592) (hh : (rn (cn x0 y0) (cd y0)) * ((rd (cn x1 y1) (cd y1)) / (Int.gcd (rd (cn x0 y0) (cd y0)) (rd (cn x1 y1) (cd y1)) : Nat)) < (rn (cn x1 y1) (cd y1)) * ((rd (cn x0 y0) (cd y0)) / (Int.gcd (rd (cn x0 y0) (cd y0)) (rd (cn x1 y1) (cd y1)) : Nat))) :
    Calls Tryz.prog 27 #[.agg #[.slice a0 n0 c0, .slice b0 m0 d0], .agg #[.slice a1 n1 c1, .slice b1 m1 d1]] w fun e w' => e = .returned (.tuple #[.agg #[.slice none 0 0, .slice none 0 0], .int .i64 31]) ∧ Below w.heap.size w w' := by
  have HH := (show Hid _ from hh)
  clear hh
  have HB := below3 w (.cells #[.slice a0 n0 c0, .slice b0 m0 d0] 30) (.cells #[.slice a1 n1 c1, .slice b1 m1 d1] 30) (.cells #[.slice none 0 0, .slice none 0 0] 30)
  have P0 := ((box_new w [.slice a0 n0 c0, .slice b0 m0 d0] 30).keep (below_alloc _ (.cells #[.slice a1 n1 c1, .slice b1 m1 d1] 30))).keep (below_alloc _ (.cells #[.slice none 0 0, .slice none 0 0] 30))
  have P1 := (box_new (w.alloc (.cells #[.slice a0 n0 c0, .slice b0 m0 d0] 30)) [.slice a1 n1 c1, .slice b1 m1 d1] 30).keep (below_alloc _ (.cells #[.slice none 0 0, .slice none 0 0] 30))
  have X4 := box_new ((w.alloc (.cells #[.slice a0 n0 c0, .slice b0 m0 d0] 30)).alloc (.cells #[.slice a1 n1 c1, .slice b1 m1 d1] 30)) [.slice none 0 0, .slice none 0 0] 30
  rw [show (w.alloc (.cells #[.slice a0 n0 c0, .slice b0 m0 d0] 30)).heap.size = w.heap.size + 1 by simp] at P1
  rw [show ((w.alloc (.cells #[.slice a0 n0 c0, .slice b0 m0 d0] 30)).alloc (.cells #[.slice a1 n1 c1, .slice b1 m1 d1] 30)).heap.size = w.heap.size + 1 + 1 by simp] at X4
  replace h0 := h0.keep HB
  replace e0 := e0.keep HB
  replace h1 := h1.keep HB
  replace e1 := e1.keep HB
  go_enter Tryz.func27, Tryz.ntmps27
  go_wp2_with fail
  generalize ((w.alloc (.cells #[.slice a0 n0 c0, .slice b0 m0 d0] 30)).alloc (.cells #[.slice a1 n1 c1, .slice b1 m1 d1] 30)).alloc (.cells #[.slice none 0 0, .slice none 0 0] 30) = u0 at *
  refine rg_start (S := fun w' => Below u0.drew.heap.size u0.drew w') (by kernel_rfl) (Below.refl _ _) ?_
  replace HB := HB.drew
  have UP0 := P0.drew
  have UP1 := P1.drew
  replace h0 := h0.drew
  replace e0 := e0.drew
  replace h1 := h1.drew
  replace e1 := e1.drew
  replace X4 := X4.drew
  have hX4u := X4.lt
  have hBu := HB.size
  have hS := Below.refl u0.drew.heap.size u0.drew
  clear P0 P1
  refine rg_load 0 (some 9) (.agg #[.slice a0 n0 c0, .slice b0 m0 d0]) 30 2 (w.heap.size) 0 (by kernel_rfl) (by kernel_rfl) (by kernel_rfl) (fun _ hb => load_rat (UP0.keep hb)) (fun _ _ _ h => h) hS ?_
  refine rg_load 2 (some 11) (.agg #[.slice a1 n1 c1, .slice b1 m1 d1]) 30 3 (w.heap.size + 1) 0 (by kernel_rfl) (by kernel_rfl) (by kernel_rfl) (fun _ hb => load_rat (UP1.keep hb)) (fun _ _ _ h => h) hS ?_
  refine rg_ready [1, 8] (by kernel_rfl) (by simp) ?_
  refine ar_call 1 (some 10) 78 #[.agg #[.slice a0 n0 c0, .slice b0 m0 d0]] (by kernel_rfl) (by kernel_rfl) (qLowest h0 e0 (by omega) (by omega)) ?_ ?_
  · rintro e v18 ⟨A0, K0, D0, B0, L0, M0, rfl, C0, E0, hK0, hL0, hB⟩
    refine ⟨_, rfl, joinB hS hB, ?_⟩
    replace hS := joinB hS hB
    replace HB := joinB HB hB
    replace h0 := h0.keep hB
    replace e0 := e0.keep hB
    replace h1 := h1.keep hB
    replace e1 := e1.keep hB
    replace X4 := X4.keep hB
    clear hB
    refine rg_ready [3, 8] (by kernel_rfl) (by simp) ?_
    refine ar_call 3 (some 12) 78 #[.agg #[.slice a1 n1 c1, .slice b1 m1 d1]] (by kernel_rfl) (by kernel_rfl) (qLowest h1 e1 (by omega) (by omega)) ?_ ?_
    · rintro e v19 ⟨A1, K1, D1, B1, L1, M1, rfl, C1, E1, hK1, hL1, hB⟩
      refine ⟨_, rfl, joinB hS hB, ?_⟩
      replace hS := joinB hS hB
      replace HB := joinB HB hB
      replace h0 := h0.keep hB
      replace e0 := e0.keep hB
      replace h1 := h1.keep hB
      replace e1 := e1.keep hB
      replace C0 := C0.keep hB
      replace E0 := E0.keep hB
      replace X4 := X4.keep hB
      clear hB
      refine rg_ready [4, 8] (by kernel_rfl) (by simp) ?_
      refine ar_call 4 (some 13) 77 #[.agg #[.slice A0 K0 D0, .slice B0 L0 M0], .agg #[.slice A1 K1 D1, .slice B1 L1 M1], .func (.func 90) #[] #[]] (by kernel_rfl) (by kernel_rfl) (qTogLt C0.a E0.a (by omega) (by omega) (rd_ne _ _ (cd_ne _)) C1.a E1.a (by omega) (by omega) (rd_ne _ _ (cd_ne _)) HH.out) ?_ ?_
      · rintro e v20 ⟨rfl, hB⟩
        refine ⟨_, rfl, joinB hS hB, ?_⟩
        replace hS := joinB hS hB
        replace HB := joinB HB hB
        replace h0 := h0.keep hB
        replace e0 := e0.keep hB
        replace h1 := h1.keep hB
        replace e1 := e1.keep hB
        replace C0 := C0.keep hB
        replace E0 := E0.keep hB
        replace C1 := C1.keep hB
        replace E1 := E1.keep hB
        replace X4 := X4.keep hB
        clear hB
        refine rg_take 5 (some 8) (.tuple #[.agg #[.slice none 0 0, .slice none 0 0], .int .i64 10]) (by kernel_rfl) (fun _ _ => by kernel_rfl) (fun _ _ _ h => h) hS ?_
        refine rg_take 6 (some 14) (.agg #[.slice none 0 0, .slice none 0 0]) (by kernel_rfl) (fun _ _ => by kernel_rfl) (fun _ _ _ h => h) hS ?_
        refine rg_take 7 (some 15) (.int .i64 10) (by kernel_rfl) (fun _ _ => by kernel_rfl) (fun _ _ _ h => h) hS ?_
        refine rg_ready [8] (by kernel_rfl) (by simp) ?_
        refine ar_alloc 8 (some 6) 30 [.slice none 0 0, .slice none 0 0] (by kernel_rfl) (by kernel_rfl) ?_ ?_
        · intro v21 X6 hB
          refine ⟨joinB hS hB, ?_⟩
          have hX6 := hS.size
          replace hS := joinB hS hB
          replace HB := joinB HB hB
          replace h0 := h0.keep hB
          replace e0 := e0.keep hB
          replace h1 := h1.keep hB
          replace e1 := e1.keep hB
          replace C0 := C0.keep hB
          replace E0 := E0.keep hB
          replace C1 := C1.keep hB
          replace E1 := E1.keep hB
          replace X4 := X4.keep hB
          clear hB
          refine rg_ready [9] (by kernel_rfl) (by simp) ?_
          refine ar_store 9 30 30 6 14 (v20.heap.size) [.slice none 0 0, .slice none 0 0] [.slice none 0 0, .slice none 0 0] (by kernel_rfl) (by kernel_rfl) (by kernel_rfl) (by kernel_rfl) X6 (by kernel_rfl) rfl (by kernel_rfl) ?_ ?_
          · intro v22 Y hw hB
            refine ⟨hS.trans (hB.mono hX6), ?_⟩
            replace HB := HB.trans (hB.mono (Nat.le_trans hBu hX6))
            replace hS := hS.trans (hB.mono hX6)
            replace h0 := h0.blk X6 (no_ints2 _ _ _ _ _ _) hw
            replace e0 := e0.blk X6 (no_ints2 _ _ _ _ _ _) hw
            replace h1 := h1.blk X6 (no_ints2 _ _ _ _ _ _) hw
            replace e1 := e1.blk X6 (no_ints2 _ _ _ _ _ _) hw
            replace C0 := C0.blk X6 (no_ints2 _ _ _ _ _ _) hw
            replace E0 := E0.blk X6 (no_ints2 _ _ _ _ _ _) hw
            replace C1 := C1.blk X6 (no_ints2 _ _ _ _ _ _) hw
            replace E1 := E1.blk X6 (no_ints2 _ _ _ _ _ _) hw
            replace X4 := X4.off (by omega) hw
            replace X6 := Y
            clear hB hw
            refine rg_take 10 (some 7) (.int .i64 10) (by kernel_rfl) (fun _ _ => by kernel_rfl) (fun _ _ _ h => h) hS ?_
            refine rg_done (by kernel_rfl) ?_
            try simp only [Act.put, List.setIfInBounds_toArray, List.set_cons_zero, List.set_cons_succ]
            obtain ⟨j1, j2, j3, j4⟩ := X6.cells2
            obtain ⟨k1, k2, k3, k4⟩ := X4.cells2
            have S2 := X4.put2 (.slice none 0 0) (.slice none 0 0)
            have HB2 := below_put2 HB (g := w.heap.size + 1 + 1) (by omega) (.slice none 0 0) (.slice none 0 0)
            clear h0 e0 h1 e1 X6 X4 HB hS C0 E0 C1 E1
            go_wp2
            refine bodyPost_ret (ret_rat_tmp rfl rfl rfl S2) rfl ?_
            exact ⟨rfl, HB2⟩
          exact ar_nil
        exact ar_nil
      refine ar_alloc 8 (some 6) 30 [.slice none 0 0, .slice none 0 0] (by kernel_rfl) (by kernel_rfl) ?_ ?_
      · intro v23 X6 hB
        refine ⟨joinB hS hB, ?_⟩
        have hX6 := hS.size
        replace hS := joinB hS hB
        replace HB := joinB HB hB
        replace h0 := h0.keep hB
        replace e0 := e0.keep hB
        replace h1 := h1.keep hB
        replace e1 := e1.keep hB
        replace C0 := C0.keep hB
        replace E0 := E0.keep hB
        replace C1 := C1.keep hB
        replace E1 := E1.keep hB
        replace X4 := X4.keep hB
        clear hB
        refine rg_ready [4] (by kernel_rfl) (by simp) ?_
        refine ar_call 4 (some 13) 77 #[.agg #[.slice A0 K0 D0, .slice B0 L0 M0], .agg #[.slice A1 K1 D1, .slice B1 L1 M1], .func (.func 90) #[] #[]] (by kernel_rfl) (by kernel_rfl) (qTogLt C0.a E0.a (by omega) (by omega) (rd_ne _ _ (cd_ne _)) C1.a E1.a (by omega) (by omega) (rd_ne _ _ (cd_ne _)) HH.out) ?_ ?_
        · rintro e v24 ⟨rfl, hB⟩
          refine ⟨_, rfl, joinB hS hB, ?_⟩
          replace hS := joinB hS hB
          replace HB := joinB HB hB
          replace h0 := h0.keep hB
          replace e0 := e0.keep hB
          replace h1 := h1.keep hB
          replace e1 := e1.keep hB
          replace C0 := C0.keep hB
          replace E0 := E0.keep hB
          replace C1 := C1.keep hB
          replace E1 := E1.keep hB
          replace X4 := X4.keep hB
          replace X6 := X6.keep hB
          clear hB
          refine rg_take 5 (some 8) (.tuple #[.agg #[.slice none 0 0, .slice none 0 0], .int .i64 10]) (by kernel_rfl) (fun _ _ => by kernel_rfl) (fun _ _ _ h => h) hS ?_
          refine rg_take 6 (some 14) (.agg #[.slice none 0 0, .slice none 0 0]) (by kernel_rfl) (fun _ _ => by kernel_rfl) (fun _ _ _ h => h) hS ?_
          refine rg_take 7 (some 15) (.int .i64 10) (by kernel_rfl) (fun _ _ => by kernel_rfl) (fun _ _ _ h => h) hS ?_
          refine rg_ready [9] (by kernel_rfl) (by simp) ?_
          refine ar_store 9 30 30 6 14 (v19.heap.size) [.slice none 0 0, .slice none 0 0] [.slice none 0 0, .slice none 0 0] (by kernel_rfl) (by kernel_rfl) (by kernel_rfl) (by kernel_rfl) X6 (by kernel_rfl) rfl (by kernel_rfl) ?_ ?_
          · intro v25 Y hw hB
            refine ⟨hS.trans (hB.mono hX6), ?_⟩
            replace HB := HB.trans (hB.mono (Nat.le_trans hBu hX6))
            replace hS := hS.trans (hB.mono hX6)
            replace h0 := h0.blk X6 (no_ints2 _ _ _ _ _ _) hw
            replace e0 := e0.blk X6 (no_ints2 _ _ _ _ _ _) hw
            replace h1 := h1.blk X6 (no_ints2 _ _ _ _ _ _) hw
            replace e1 := e1.blk X6 (no_ints2 _ _ _ _ _ _) hw
            replace C0 := C0.blk X6 (no_ints2 _ _ _ _ _ _) hw
            replace E0 := E0.blk X6 (no_ints2 _ _ _ _ _ _) hw
            replace C1 := C1.blk X6 (no_ints2 _ _ _ _ _ _) hw
            replace E1 := E1.blk X6 (no_ints2 _ _ _ _ _ _) hw
            replace X4 := X4.off (by omega) hw
            replace X6 := Y
            clear hB hw
            refine rg_take 10 (some 7) (.int .i64 10) (by kernel_rfl) (fun _ _ => by kernel_rfl) (fun _ _ _ h => h) hS ?_
            refine rg_done (by kernel_rfl) ?_
            try simp only [Act.put, List.setIfInBounds_toArray, List.set_cons_zero, List.set_cons_succ]
            obtain ⟨j1, j2, j3, j4⟩ := X6.cells2
            obtain ⟨k1, k2, k3, k4⟩ := X4.cells2
            have S2 := X4.put2 (.slice none 0 0) (.slice none 0 0)
            have HB2 := below_put2 HB (g := w.heap.size + 1 + 1) (by omega) (.slice none 0 0) (.slice none 0 0)
            clear h0 e0 h1 e1 X6 X4 HB hS C0 E0 C1 E1
            go_wp2
            refine bodyPost_ret (ret_rat_tmp rfl rfl rfl S2) rfl ?_
            exact ⟨rfl, HB2⟩
          exact ar_nil
        exact ar_nil
      exact ar_nil
    refine ar_alloc 8 (some 6) 30 [.slice none 0 0, .slice none 0 0] (by kernel_rfl) (by kernel_rfl) ?_ ?_
    · intro v26 X6 hB
      refine ⟨joinB hS hB, ?_⟩
      have hX6 := hS.size
      replace hS := joinB hS hB
      replace HB := joinB HB hB
      replace h0 := h0.keep hB
      replace e0 := e0.keep hB
      replace h1 := h1.keep hB
      replace e1 := e1.keep hB
      replace C0 := C0.keep hB
      replace E0 := E0.keep hB
      replace X4 := X4.keep hB
      clear hB
      refine rg_ready [3] (by kernel_rfl) (by simp) ?_
      refine ar_call 3 (some 12) 78 #[.agg #[.slice a1 n1 c1, .slice b1 m1 d1]] (by kernel_rfl) (by kernel_rfl) (qLowest h1 e1 (by omega) (by omega)) ?_ ?_
      · rintro e v27 ⟨A1, K1, D1, B1, L1, M1, rfl, C1, E1, hK1, hL1, hB⟩
        refine ⟨_, rfl, joinB hS hB, ?_⟩
        replace hS := joinB hS hB
        replace HB := joinB HB hB
        replace h0 := h0.keep hB
        replace e0 := e0.keep hB
        replace h1 := h1.keep hB
        replace e1 := e1.keep hB
        replace C0 := C0.keep hB
        replace E0 := E0.keep hB
        replace X4 := X4.keep hB
        replace X6 := X6.keep hB
        clear hB
        refine rg_ready [4] (by kernel_rfl) (by simp) ?_
        refine ar_call 4 (some 13) 77 #[.agg #[.slice A0 K0 D0, .slice B0 L0 M0], .agg #[.slice A1 K1 D1, .slice B1 L1 M1], .func (.func 90) #[] #[]] (by kernel_rfl) (by kernel_rfl) (qTogLt C0.a E0.a (by omega) (by omega) (rd_ne _ _ (cd_ne _)) C1.a E1.a (by omega) (by omega) (rd_ne _ _ (cd_ne _)) HH.out) ?_ ?_
        · rintro e v28 ⟨rfl, hB⟩
          refine ⟨_, rfl, joinB hS hB, ?_⟩
          replace hS := joinB hS hB
          replace HB := joinB HB hB
          replace h0 := h0.keep hB
          replace e0 := e0.keep hB
          replace h1 := h1.keep hB
          replace e1 := e1.keep hB
          replace C0 := C0.keep hB
          replace E0 := E0.keep hB
          replace C1 := C1.keep hB
          replace E1 := E1.keep hB
          replace X4 := X4.keep hB
          replace X6 := X6.keep hB
          clear hB
          refine rg_take 5 (some 8) (.tuple #[.agg #[.slice none 0 0, .slice none 0 0], .int .i64 10]) (by kernel_rfl) (fun _ _ => by kernel_rfl) (fun _ _ _ h => h) hS ?_
          refine rg_take 6 (some 14) (.agg #[.slice none 0 0, .slice none 0 0]) (by kernel_rfl) (fun _ _ => by kernel_rfl) (fun _ _ _ h => h) hS ?_
          refine rg_take 7 (some 15) (.int .i64 10) (by kernel_rfl) (fun _ _ => by kernel_rfl) (fun _ _ _ h => h) hS ?_
          refine rg_ready [9] (by kernel_rfl) (by simp) ?_
          refine ar_store 9 30 30 6 14 (v18.heap.size) [.slice none 0 0, .slice none 0 0] [.slice none 0 0, .slice none 0 0] (by kernel_rfl) (by kernel_rfl) (by kernel_rfl) (by kernel_rfl) X6 (by kernel_rfl) rfl (by kernel_rfl) ?_ ?_
          · intro v29 Y hw hB
            refine ⟨hS.trans (hB.mono hX6), ?_⟩
            replace HB := HB.trans (hB.mono (Nat.le_trans hBu hX6))
            replace hS := hS.trans (hB.mono hX6)
            replace h0 := h0.blk X6 (no_ints2 _ _ _ _ _ _) hw
            replace e0 := e0.blk X6 (no_ints2 _ _ _ _ _ _) hw
            replace h1 := h1.blk X6 (no_ints2 _ _ _ _ _ _) hw
            replace e1 := e1.blk X6 (no_ints2 _ _ _ _ _ _) hw
            replace C0 := C0.blk X6 (no_ints2 _ _ _ _ _ _) hw
            replace E0 := E0.blk X6 (no_ints2 _ _ _ _ _ _) hw
            replace C1 := C1.blk X6 (no_ints2 _ _ _ _ _ _) hw
            replace E1 := E1.blk X6 (no_ints2 _ _ _ _ _ _) hw
            replace X4 := X4.off (by omega) hw
            replace X6 := Y
            clear hB hw
            refine rg_take 10 (some 7) (.int .i64 10) (by kernel_rfl) (fun _ _ => by kernel_rfl) (fun _ _ _ h => h) hS ?_
            refine rg_done (by kernel_rfl) ?_
            try simp only [Act.put, List.setIfInBounds_toArray, List.set_cons_zero, List.set_cons_succ]
            obtain ⟨j1, j2, j3, j4⟩ := X6.cells2
            obtain ⟨k1, k2, k3, k4⟩ := X4.cells2
            have S2 := X4.put2 (.slice none 0 0) (.slice none 0 0)
            have HB2 := below_put2 HB (g := w.heap.size + 1 + 1) (by omega) (.slice none 0 0) (.slice none 0 0)
            clear h0 e0 h1 e1 X6 X4 HB hS C0 E0 C1 E1
            go_wp2
            refine bodyPost_ret (ret_rat_tmp rfl rfl rfl S2) rfl ?_
            exact ⟨rfl, HB2⟩
          exact ar_nil
        exact ar_nil
      exact ar_nil
    exact ar_nil
  refine ar_alloc 8 (some 6) 30 [.slice none 0 0, .slice none 0 0] (by kernel_rfl) (by kernel_rfl) ?_ ?_
  · intro v30 X6 hB
    refine ⟨joinB hS hB, ?_⟩
    have hX6 := hS.size
    replace hS := joinB hS hB
    replace HB := joinB HB hB
    replace h0 := h0.keep hB
    replace e0 := e0.keep hB
    replace h1 := h1.keep hB
    replace e1 := e1.keep hB
    replace X4 := X4.keep hB
    clear hB
    refine rg_ready [1] (by kernel_rfl) (by simp) ?_
    refine ar_call 1 (some 10) 78 #[.agg #[.slice a0 n0 c0, .slice b0 m0 d0]] (by kernel_rfl) (by kernel_rfl) (qLowest h0 e0 (by omega) (by omega)) ?_ ?_
    · rintro e v31 ⟨A0, K0, D0, B0, L0, M0, rfl, C0, E0, hK0, hL0, hB⟩
      refine ⟨_, rfl, joinB hS hB, ?_⟩
      replace hS := joinB hS hB
      replace HB := joinB HB hB
      replace h0 := h0.keep hB
      replace e0 := e0.keep hB
      replace h1 := h1.keep hB
      replace e1 := e1.keep hB
      replace X4 := X4.keep hB
      replace X6 := X6.keep hB
      clear hB
      refine rg_ready [3] (by kernel_rfl) (by simp) ?_
      refine ar_call 3 (some 12) 78 #[.agg #[.slice a1 n1 c1, .slice b1 m1 d1]] (by kernel_rfl) (by kernel_rfl) (qLowest h1 e1 (by omega) (by omega)) ?_ ?_
      · rintro e v32 ⟨A1, K1, D1, B1, L1, M1, rfl, C1, E1, hK1, hL1, hB⟩
        refine ⟨_, rfl, joinB hS hB, ?_⟩
        replace hS := joinB hS hB
        replace HB := joinB HB hB
        replace h0 := h0.keep hB
        replace e0 := e0.keep hB
        replace h1 := h1.keep hB
        replace e1 := e1.keep hB
        replace C0 := C0.keep hB
        replace E0 := E0.keep hB
        replace X4 := X4.keep hB
        replace X6 := X6.keep hB
        clear hB
        refine rg_ready [4] (by kernel_rfl) (by simp) ?_
        refine ar_call 4 (some 13) 77 #[.agg #[.slice A0 K0 D0, .slice B0 L0 M0], .agg #[.slice A1 K1 D1, .slice B1 L1 M1], .func (.func 90) #[] #[]] (by kernel_rfl) (by kernel_rfl) (qTogLt C0.a E0.a (by omega) (by omega) (rd_ne _ _ (cd_ne _)) C1.a E1.a (by omega) (by omega) (rd_ne _ _ (cd_ne _)) HH.out) ?_ ?_
        · rintro e v33 ⟨rfl, hB⟩
          refine ⟨_, rfl, joinB hS hB, ?_⟩
          replace hS := joinB hS hB
          replace HB := joinB HB hB
          replace h0 := h0.keep hB
          replace e0 := e0.keep hB
          replace h1 := h1.keep hB
          replace e1 := e1.keep hB
          replace C0 := C0.keep hB
          replace E0 := E0.keep hB
          replace C1 := C1.keep hB
          replace E1 := E1.keep hB
          replace X4 := X4.keep hB
          replace X6 := X6.keep hB
          clear hB
          refine rg_take 5 (some 8) (.tuple #[.agg #[.slice none 0 0, .slice none 0 0], .int .i64 10]) (by kernel_rfl) (fun _ _ => by kernel_rfl) (fun _ _ _ h => h) hS ?_
          refine rg_take 6 (some 14) (.agg #[.slice none 0 0, .slice none 0 0]) (by kernel_rfl) (fun _ _ => by kernel_rfl) (fun _ _ _ h => h) hS ?_
          refine rg_take 7 (some 15) (.int .i64 10) (by kernel_rfl) (fun _ _ => by kernel_rfl) (fun _ _ _ h => h) hS ?_
          refine rg_ready [9] (by kernel_rfl) (by simp) ?_
          refine ar_store 9 30 30 6 14 (u0.drew.heap.size) [.slice none 0 0, .slice none 0 0] [.slice none 0 0, .slice none 0 0] (by kernel_rfl) (by kernel_rfl) (by kernel_rfl) (by kernel_rfl) X6 (by kernel_rfl) rfl (by kernel_rfl) ?_ ?_
          · intro v34 Y hw hB
            refine ⟨hS.trans (hB.mono hX6), ?_⟩
            replace HB := HB.trans (hB.mono (Nat.le_trans hBu hX6))
            replace hS := hS.trans (hB.mono hX6)
            replace h0 := h0.blk X6 (no_ints2 _ _ _ _ _ _) hw
            replace e0 := e0.blk X6 (no_ints2 _ _ _ _ _ _) hw
            replace h1 := h1.blk X6 (no_ints2 _ _ _ _ _ _) hw
            replace e1 := e1.blk X6 (no_ints2 _ _ _ _ _ _) hw
            replace C0 := C0.blk X6 (no_ints2 _ _ _ _ _ _) hw
            replace E0 := E0.blk X6 (no_ints2 _ _ _ _ _ _) hw
            replace C1 := C1.blk X6 (no_ints2 _ _ _ _ _ _) hw
            replace E1 := E1.blk X6 (no_ints2 _ _ _ _ _ _) hw
            replace X4 := X4.off (by omega) hw
            replace X6 := Y
            clear hB hw
            refine rg_take 10 (some 7) (.int .i64 10) (by kernel_rfl) (fun _ _ => by kernel_rfl) (fun _ _ _ h => h) hS ?_
            refine rg_done (by kernel_rfl) ?_
            generalize u0.drew.heap.size = gg at *
            try simp only [Act.put, List.setIfInBounds_toArray, List.set_cons_zero, List.set_cons_succ]
            obtain ⟨j1, j2, j3, j4⟩ := X6.cells2
            obtain ⟨k1, k2, k3, k4⟩ := X4.cells2
            have S2 := X4.put2 (.slice none 0 0) (.slice none 0 0)
            have HB2 := below_put2 HB (g := w.heap.size + 1 + 1) (by omega) (.slice none 0 0) (.slice none 0 0)
            clear h0 e0 h1 e1 X6 X4 HB hS C0 E0 C1 E1
            go_wp2
            refine bodyPost_ret (ret_rat_tmp rfl rfl rfl S2) rfl ?_
            exact ⟨rfl, HB2⟩
          exact ar_nil
        exact ar_nil
      exact ar_nil
    exact ar_nil
  exact ar_nil
set_option maxHeartbeats 8000000 in
set_option maxRecDepth 100000 in
theorem qStep {w : World} {a0 b0 : Option Addr} {n0 c0 m0 d0 : Nat} {x0 y0 : Int} {a1 b1 : Option Addr} {n1 c1 m1 d1 : Nat} {x1 y1 : Int} (h0 : NatA w a0 n0 c0 x0) (e0 : NatA w b0 m0 d0 y0) (hn0 : n0 ≤ 8589934592) (hm0 : m0 ≤ 8589934592) (h1 : NatA w a1 n1 c1 x1) (e1 : NatA w b1 m1 d1 y1) (hn1 : n1 ≤ 8589934592) (hm1 : m1 ≤ 8589934592) (hy0 : y0 ≠ 0) :
    Calls Tryz.prog 76 #[.agg #[.slice a0 n0 c0, .slice b0 m0 d0], .agg #[.slice a1 n1 c1, .slice b1 m1 d1]] w fun e w' => ∃ a k d a' k' d', e = .returned (.agg #[.slice a k d, .slice a' k' d']) ∧ NatO w' a k d (((x0) * ((rd (cn x1 y1) (cd y1)) / (Int.gcd (y0) (rd (cn x1 y1) (cd y1)) : Nat)) + (rn (cn x1 y1) (cd y1)) * ((y0) / (Int.gcd (y0) (rd (cn x1 y1) (cd y1)) : Nat))) / (Int.gcd ((x0) * ((rd (cn x1 y1) (cd y1)) / (Int.gcd (y0) (rd (cn x1 y1) (cd y1)) : Nat)) + (rn (cn x1 y1) (cd y1)) * ((y0) / (Int.gcd (y0) (rd (cn x1 y1) (cd y1)) : Nat))) (Int.gcd (y0) (rd (cn x1 y1) (cd y1)) : Nat) : Nat)) ∧ NatO w' a' k' d' ((y0) / (Int.gcd (y0) (rd (cn x1 y1) (cd y1)) : Nat) * ((rd (cn x1 y1) (cd y1)) / (Int.gcd ((x0) * ((rd (cn x1 y1) (cd y1)) / (Int.gcd (y0) (rd (cn x1 y1) (cd y1)) : Nat)) + (rn (cn x1 y1) (cd y1)) * ((y0) / (Int.gcd (y0) (rd (cn x1 y1) (cd y1)) : Nat))) (Int.gcd (y0) (rd (cn x1 y1) (cd y1)) : Nat) : Nat))) ∧ k ≤ n0 + n1 + m0 + m1 + 3 ∧ k' ≤ m0 + m1 + 2 ∧ Below w.heap.size w w' := by
  have HY0 := (show Hid _ from hy0)
  clear hy0
  have HB := below3 w (.cells #[.slice a0 n0 c0, .slice b0 m0 d0] 30) (.cells #[.slice a1 n1 c1, .slice b1 m1 d1] 30) (.cells #[.slice none 0 0, .slice none 0 0] 30)
  have P0 := ((box_new w [.slice a0 n0 c0, .slice b0 m0 d0] 30).keep (below_alloc _ (.cells #[.slice a1 n1 c1, .slice b1 m1 d1] 30))).keep (below_alloc _ (.cells #[.slice none 0 0, .slice none 0 0] 30))
  have P1 := (box_new (w.alloc (.cells #[.slice a0 n0 c0, .slice b0 m0 d0] 30)) [.slice a1 n1 c1, .slice b1 m1 d1] 30).keep (below_alloc _ (.cells #[.slice none 0 0, .slice none 0 0] 30))
  have X4 := box_new ((w.alloc (.cells #[.slice a0 n0 c0, .slice b0 m0 d0] 30)).alloc (.cells #[.slice a1 n1 c1, .slice b1 m1 d1] 30)) [.slice none 0 0, .slice none 0 0] 30
  rw [show (w.alloc (.cells #[.slice a0 n0 c0, .slice b0 m0 d0] 30)).heap.size = w.heap.size + 1 by simp] at P1
  rw [show ((w.alloc (.cells #[.slice a0 n0 c0, .slice b0 m0 d0] 30)).alloc (.cells #[.slice a1 n1 c1, .slice b1 m1 d1] 30)).heap.size = w.heap.size + 1 + 1 by simp] at X4
  replace h0 := h0.keep HB
  replace e0 := e0.keep HB
  replace h1 := h1.keep HB
  replace e1 := e1.keep HB
  go_enter Tryz.func76, Tryz.ntmps76
  go_wp2_with fail
  generalize ((w.alloc (.cells #[.slice a0 n0 c0, .slice b0 m0 d0] 30)).alloc (.cells #[.slice a1 n1 c1, .slice b1 m1 d1] 30)).alloc (.cells #[.slice none 0 0, .slice none 0 0] 30) = u0 at *
  refine rg_start (S := fun w' => Below u0.drew.heap.size u0.drew w') (by kernel_rfl) (Below.refl _ _) ?_
  replace HB := HB.drew
  have UP0 := P0.drew
  have UP1 := P1.drew
  replace h0 := h0.drew
  replace e0 := e0.drew
  replace h1 := h1.drew
  replace e1 := e1.drew
  replace X4 := X4.drew
  have hX4u := X4.lt
  have hBu := HB.size
  have hS := Below.refl u0.drew.heap.size u0.drew
  clear P0 P1
  refine rg_load 0 (some 8) (.agg #[.slice a0 n0 c0, .slice b0 m0 d0]) 30 2 (w.heap.size) 0 (by kernel_rfl) (by kernel_rfl) (by kernel_rfl) (fun _ hb => load_rat (UP0.keep hb)) (fun _ _ _ h => h) hS ?_
  refine rg_load 1 (some 9) (.agg #[.slice a1 n1 c1, .slice b1 m1 d1]) 30 3 (w.heap.size + 1) 0 (by kernel_rfl) (by kernel_rfl) (by kernel_rfl) (fun _ hb => load_rat (UP1.keep hb)) (fun _ _ _ h => h) hS ?_
  refine rg_ready [2, 7] (by kernel_rfl) (by simp) ?_
  refine ar_call 2 (some 10) 78 #[.agg #[.slice a1 n1 c1, .slice b1 m1 d1]] (by kernel_rfl) (by kernel_rfl) (qLowest h1 e1 (by omega) (by omega)) ?_ ?_
  · rintro e v35 ⟨A1, K1, D1, B1, L1, M1, rfl, C1, E1, hK1, hL1, hB⟩
    refine ⟨_, rfl, joinB hS hB, ?_⟩
    replace hS := joinB hS hB
    replace HB := joinB HB hB
    replace h0 := h0.keep hB
    replace e0 := e0.keep hB
    replace h1 := h1.keep hB
    replace e1 := e1.keep hB
    replace X4 := X4.keep hB
    clear hB
    refine rg_ready [3, 7] (by kernel_rfl) (by simp) ?_
    refine ar_call 3 (some 11) 77 #[.agg #[.slice a0 n0 c0, .slice b0 m0 d0], .agg #[.slice A1 K1 D1, .slice B1 L1 M1], .func (.func 79) #[] #[]] (by kernel_rfl) (by kernel_rfl) (qTogP h0 e0 (by omega) (by omega) HY0.out C1.a E1.a (by omega) (by omega) (rd_ne _ _ (cd_ne _))) ?_ ?_
    · rintro e v36 ⟨Ar, Kr, Dr, As', Ks, Ds, rfl, Or1, Or2, hkr, hks, hB⟩
      refine ⟨_, rfl, joinB hS hB, ?_⟩
      replace hS := joinB hS hB
      replace HB := joinB HB hB
      replace h0 := h0.keep hB
      replace e0 := e0.keep hB
      replace h1 := h1.keep hB
      replace e1 := e1.keep hB
      replace C1 := C1.keep hB
      replace E1 := E1.keep hB
      replace X4 := X4.keep hB
      clear hB
      refine rg_take 4 (some 7) (.tuple #[.agg #[.slice Ar Kr Dr, .slice As' Ks Ds], .int .i64 0]) (by kernel_rfl) (fun _ _ => by kernel_rfl) (fun _ _ _ h => h) hS ?_
      refine rg_take 5 (some 12) (.agg #[.slice Ar Kr Dr, .slice As' Ks Ds]) (by kernel_rfl) (fun _ _ => by kernel_rfl) (fun _ _ _ h => h) hS ?_
      refine rg_take 6 (some 13) (.int .i64 0) (by kernel_rfl) (fun _ _ => by kernel_rfl) (fun _ _ _ h => h) hS ?_
      refine rg_ready [7] (by kernel_rfl) (by simp) ?_
      refine ar_alloc 7 (some 5) 30 [.slice none 0 0, .slice none 0 0] (by kernel_rfl) (by kernel_rfl) ?_ ?_
      · intro v37 X5 hB
        refine ⟨joinB hS hB, ?_⟩
        have hX5 := hS.size
        replace hS := joinB hS hB
        replace HB := joinB HB hB
        replace h0 := h0.keep hB
        replace e0 := e0.keep hB
        replace h1 := h1.keep hB
        replace e1 := e1.keep hB
        replace C1 := C1.keep hB
        replace E1 := E1.keep hB
        replace Or1 := Or1.keep hB
        replace Or2 := Or2.keep hB
        replace X4 := X4.keep hB
        clear hB
        refine rg_ready [8] (by kernel_rfl) (by simp) ?_
        refine ar_store 8 30 30 5 12 (v36.heap.size) [.slice none 0 0, .slice none 0 0] [.slice Ar Kr Dr, .slice As' Ks Ds] (by kernel_rfl) (by kernel_rfl) (by kernel_rfl) (by kernel_rfl) X5 (by kernel_rfl) rfl (by kernel_rfl) ?_ ?_
        · intro v38 Y hw hB
          refine ⟨hS.trans (hB.mono hX5), ?_⟩
          replace HB := HB.trans (hB.mono (Nat.le_trans hBu hX5))
          replace hS := hS.trans (hB.mono hX5)
          replace h0 := h0.blk X5 (no_ints2 _ _ _ _ _ _) hw
          replace e0 := e0.blk X5 (no_ints2 _ _ _ _ _ _) hw
          replace h1 := h1.blk X5 (no_ints2 _ _ _ _ _ _) hw
          replace e1 := e1.blk X5 (no_ints2 _ _ _ _ _ _) hw
          replace C1 := C1.blk X5 (no_ints2 _ _ _ _ _ _) hw
          replace E1 := E1.blk X5 (no_ints2 _ _ _ _ _ _) hw
          replace Or1 := Or1.blk X5 (no_ints2 _ _ _ _ _ _) hw
          replace Or2 := Or2.blk X5 (no_ints2 _ _ _ _ _ _) hw
          replace X4 := X4.off (by omega) hw
          replace X5 := Y
          clear hB hw
          refine rg_take 9 (some 6) (.int .i64 0) (by kernel_rfl) (fun _ _ => by kernel_rfl) (fun _ _ _ h => h) hS ?_
          refine rg_done (by kernel_rfl) ?_
          try simp only [Act.put, List.setIfInBounds_toArray, List.set_cons_zero, List.set_cons_succ]
          obtain ⟨j1, j2, j3, j4⟩ := X5.cells2
          obtain ⟨k1, k2, k3, k4⟩ := X4.cells2
          have S2 := X4.put2 (.slice Ar Kr Dr) (.slice As' Ks Ds)
          have Q1 := Or1.put2 X4 (.slice Ar Kr Dr) (.slice As' Ks Ds)
          have Q2 := Or2.put2 X4 (.slice Ar Kr Dr) (.slice As' Ks Ds)
          have HB2 := below_put2 HB (g := w.heap.size + 1 + 1) (by omega) (.slice Ar Kr Dr) (.slice As' Ks Ds)
          clear h0 e0 h1 e1 X5 X4 HB hS C1 E1 Or1 Or2
          go_wp2
          refine bodyPost_ret (ret_rat rfl rfl S2) rfl ?_
          exact ⟨_, _, _, _, _, _, rfl, Q1, Q2, by omega, by omega, HB2⟩
        exact ar_nil
      exact ar_nil
    refine ar_alloc 7 (some 5) 30 [.slice none 0 0, .slice none 0 0] (by kernel_rfl) (by kernel_rfl) ?_ ?_
    · intro v39 X5 hB
      refine ⟨joinB hS hB, ?_⟩
      have hX5 := hS.size
      replace hS := joinB hS hB
      replace HB := joinB HB hB
      replace h0 := h0.keep hB
      replace e0 := e0.keep hB
      replace h1 := h1.keep hB
      replace e1 := e1.keep hB
      replace C1 := C1.keep hB
      replace E1 := E1.keep hB
      replace X4 := X4.keep hB
      clear hB
      refine rg_ready [3] (by kernel_rfl) (by simp) ?_
      refine ar_call 3 (some 11) 77 #[.agg #[.slice a0 n0 c0, .slice b0 m0 d0], .agg #[.slice A1 K1 D1, .slice B1 L1 M1], .func (.func 79) #[] #[]] (by kernel_rfl) (by kernel_rfl) (qTogP h0 e0 (by omega) (by omega) HY0.out C1.a E1.a (by omega) (by omega) (rd_ne _ _ (cd_ne _))) ?_ ?_
      · rintro e v40 ⟨Ar, Kr, Dr, As', Ks, Ds, rfl, Or1, Or2, hkr, hks, hB⟩
        refine ⟨_, rfl, joinB hS hB, ?_⟩
        replace hS := joinB hS hB
        replace HB := joinB HB hB
        replace h0 := h0.keep hB
        replace e0 := e0.keep hB
        replace h1 := h1.keep hB
        replace e1 := e1.keep hB
        replace C1 := C1.keep hB
        replace E1 := E1.keep hB
        replace X4 := X4.keep hB
        replace X5 := X5.keep hB
        clear hB
        refine rg_take 4 (some 7) (.tuple #[.agg #[.slice Ar Kr Dr, .slice As' Ks Ds], .int .i64 0]) (by kernel_rfl) (fun _ _ => by kernel_rfl) (fun _ _ _ h => h) hS ?_
        refine rg_take 5 (some 12) (.agg #[.slice Ar Kr Dr, .slice As' Ks Ds]) (by kernel_rfl) (fun _ _ => by kernel_rfl) (fun _ _ _ h => h) hS ?_
        refine rg_take 6 (some 13) (.int .i64 0) (by kernel_rfl) (fun _ _ => by kernel_rfl) (fun _ _ _ h => h) hS ?_
        refine rg_ready [8] (by kernel_rfl) (by simp) ?_
        refine ar_store 8 30 30 5 12 (v35.heap.size) [.slice none 0 0, .slice none 0 0] [.slice Ar Kr Dr, .slice As' Ks Ds] (by kernel_rfl) (by kernel_rfl) (by kernel_rfl) (by kernel_rfl) X5 (by kernel_rfl) rfl (by kernel_rfl) ?_ ?_
        · intro v41 Y hw hB
          refine ⟨hS.trans (hB.mono hX5), ?_⟩
          replace HB := HB.trans (hB.mono (Nat.le_trans hBu hX5))
          replace hS := hS.trans (hB.mono hX5)
          replace h0 := h0.blk X5 (no_ints2 _ _ _ _ _ _) hw
          replace e0 := e0.blk X5 (no_ints2 _ _ _ _ _ _) hw
          replace h1 := h1.blk X5 (no_ints2 _ _ _ _ _ _) hw
          replace e1 := e1.blk X5 (no_ints2 _ _ _ _ _ _) hw
          replace C1 := C1.blk X5 (no_ints2 _ _ _ _ _ _) hw
          replace E1 := E1.blk X5 (no_ints2 _ _ _ _ _ _) hw
          replace Or1 := Or1.blk X5 (no_ints2 _ _ _ _ _ _) hw
          replace Or2 := Or2.blk X5 (no_ints2 _ _ _ _ _ _) hw
          replace X4 := X4.off (by omega) hw
          replace X5 := Y
          clear hB hw
          refine rg_take 9 (some 6) (.int .i64 0) (by kernel_rfl) (fun _ _ => by kernel_rfl) (fun _ _ _ h => h) hS ?_
          refine rg_done (by kernel_rfl) ?_
          try simp only [Act.put, List.setIfInBounds_toArray, List.set_cons_zero, List.set_cons_succ]
          obtain ⟨j1, j2, j3, j4⟩ := X5.cells2
          obtain ⟨k1, k2, k3, k4⟩ := X4.cells2
          have S2 := X4.put2 (.slice Ar Kr Dr) (.slice As' Ks Ds)
          have Q1 := Or1.put2 X4 (.slice Ar Kr Dr) (.slice As' Ks Ds)
          have Q2 := Or2.put2 X4 (.slice Ar Kr Dr) (.slice As' Ks Ds)
          have HB2 := below_put2 HB (g := w.heap.size + 1 + 1) (by omega) (.slice Ar Kr Dr) (.slice As' Ks Ds)
          clear h0 e0 h1 e1 X5 X4 HB hS C1 E1 Or1 Or2
          go_wp2
          refine bodyPost_ret (ret_rat rfl rfl S2) rfl ?_
          exact ⟨_, _, _, _, _, _, rfl, Q1, Q2, by omega, by omega, HB2⟩
        exact ar_nil
      exact ar_nil
    exact ar_nil
  refine ar_alloc 7 (some 5) 30 [.slice none 0 0, .slice none 0 0] (by kernel_rfl) (by kernel_rfl) ?_ ?_
  · intro v42 X5 hB
    refine ⟨joinB hS hB, ?_⟩
    have hX5 := hS.size
    replace hS := joinB hS hB
    replace HB := joinB HB hB
    replace h0 := h0.keep hB
    replace e0 := e0.keep hB
    replace h1 := h1.keep hB
    replace e1 := e1.keep hB
    replace X4 := X4.keep hB
    clear hB
    refine rg_ready [2] (by kernel_rfl) (by simp) ?_
    refine ar_call 2 (some 10) 78 #[.agg #[.slice a1 n1 c1, .slice b1 m1 d1]] (by kernel_rfl) (by kernel_rfl) (qLowest h1 e1 (by omega) (by omega)) ?_ ?_
    · rintro e v43 ⟨A1, K1, D1, B1, L1, M1, rfl, C1, E1, hK1, hL1, hB⟩
      refine ⟨_, rfl, joinB hS hB, ?_⟩
      replace hS := joinB hS hB
      replace HB := joinB HB hB
      replace h0 := h0.keep hB
      replace e0 := e0.keep hB
      replace h1 := h1.keep hB
      replace e1 := e1.keep hB
      replace X4 := X4.keep hB
      replace X5 := X5.keep hB
      clear hB
      refine rg_ready [3] (by kernel_rfl) (by simp) ?_
      refine ar_call 3 (some 11) 77 #[.agg #[.slice a0 n0 c0, .slice b0 m0 d0], .agg #[.slice A1 K1 D1, .slice B1 L1 M1], .func (.func 79) #[] #[]] (by kernel_rfl) (by kernel_rfl) (qTogP h0 e0 (by omega) (by omega) HY0.out C1.a E1.a (by omega) (by omega) (rd_ne _ _ (cd_ne _))) ?_ ?_
      · rintro e v44 ⟨Ar, Kr, Dr, As', Ks, Ds, rfl, Or1, Or2, hkr, hks, hB⟩
        refine ⟨_, rfl, joinB hS hB, ?_⟩
        replace hS := joinB hS hB
        replace HB := joinB HB hB
        replace h0 := h0.keep hB
        replace e0 := e0.keep hB
        replace h1 := h1.keep hB
        replace e1 := e1.keep hB
        replace C1 := C1.keep hB
        replace E1 := E1.keep hB
        replace X4 := X4.keep hB
        replace X5 := X5.keep hB
        clear hB
        refine rg_take 4 (some 7) (.tuple #[.agg #[.slice Ar Kr Dr, .slice As' Ks Ds], .int .i64 0]) (by kernel_rfl) (fun _ _ => by kernel_rfl) (fun _ _ _ h => h) hS ?_
        refine rg_take 5 (some 12) (.agg #[.slice Ar Kr Dr, .slice As' Ks Ds]) (by kernel_rfl) (fun _ _ => by kernel_rfl) (fun _ _ _ h => h) hS ?_
        refine rg_take 6 (some 13) (.int .i64 0) (by kernel_rfl) (fun _ _ => by kernel_rfl) (fun _ _ _ h => h) hS ?_
        refine rg_ready [8] (by kernel_rfl) (by simp) ?_
        refine ar_store 8 30 30 5 12 (u0.drew.heap.size) [.slice none 0 0, .slice none 0 0] [.slice Ar Kr Dr, .slice As' Ks Ds] (by kernel_rfl) (by kernel_rfl) (by kernel_rfl) (by kernel_rfl) X5 (by kernel_rfl) rfl (by kernel_rfl) ?_ ?_
        · intro v45 Y hw hB
          refine ⟨hS.trans (hB.mono hX5), ?_⟩
          replace HB := HB.trans (hB.mono (Nat.le_trans hBu hX5))
          replace hS := hS.trans (hB.mono hX5)
          replace h0 := h0.blk X5 (no_ints2 _ _ _ _ _ _) hw
          replace e0 := e0.blk X5 (no_ints2 _ _ _ _ _ _) hw
          replace h1 := h1.blk X5 (no_ints2 _ _ _ _ _ _) hw
          replace e1 := e1.blk X5 (no_ints2 _ _ _ _ _ _) hw
          replace C1 := C1.blk X5 (no_ints2 _ _ _ _ _ _) hw
          replace E1 := E1.blk X5 (no_ints2 _ _ _ _ _ _) hw
          replace Or1 := Or1.blk X5 (no_ints2 _ _ _ _ _ _) hw
          replace Or2 := Or2.blk X5 (no_ints2 _ _ _ _ _ _) hw
          replace X4 := X4.off (by omega) hw
          replace X5 := Y
          clear hB hw
          refine rg_take 9 (some 6) (.int .i64 0) (by kernel_rfl) (fun _ _ => by kernel_rfl) (fun _ _ _ h => h) hS ?_
          refine rg_done (by kernel_rfl) ?_
          generalize u0.drew.heap.size = gg at *
          try simp only [Act.put, List.setIfInBounds_toArray, List.set_cons_zero, List.set_cons_succ]
          obtain ⟨j1, j2, j3, j4⟩ := X5.cells2
          obtain ⟨k1, k2, k3, k4⟩ := X4.cells2
          have S2 := X4.put2 (.slice Ar Kr Dr) (.slice As' Ks Ds)
          have Q1 := Or1.put2 X4 (.slice Ar Kr Dr) (.slice As' Ks Ds)
          have Q2 := Or2.put2 X4 (.slice Ar Kr Dr) (.slice As' Ks Ds)
          have HB2 := below_put2 HB (g := w.heap.size + 1 + 1) (by omega) (.slice Ar Kr Dr) (.slice As' Ks Ds)
          clear h0 e0 h1 e1 X5 X4 HB hS C1 E1 Or1 Or2
          go_wp2
          refine bodyPost_ret (ret_rat rfl rfl S2) rfl ?_
          exact ⟨_, _, _, _, _, _, rfl, Q1, Q2, by omega, by omega, HB2⟩
        exact ar_nil
      exact ar_nil
    exact ar_nil
  exact ar_nil
end Go.Proofs.YtjihgkanbhccpaaGreatDoor
