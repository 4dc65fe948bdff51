/- gleanlaw2.DecSums returns true for all decimals and all numbers. -/
import Derived.Test.YtjihgkanbhccpaaGreatDoorJea
import Derived.Test.YtjihgkanbhccpaaGreatDoorJda
namespace Go.Proofs.YtjihgkanbhccpaaGreatDoor
namespace decSums
open Go.RowKit Lim

theorem basis_is (x : Int) : U36 / 10000 * x = x * 10 ^ 32 := by
  rw [show U36 / 10000 = 10 ^ 32 by decide, Int.mul_comm]
theorem cmpD {w : World} {ao ao' : Option Addr} {n c n' c' : Nat} {x y : Int} (h : NatA w ao n c x) (h' : NatA w ao' n' c' y) (hn : n ≤ 1099511627776) (hn' : n' ≤ 1099511627776) (r : Int) (hr : sgn x y = r) :
    Calls Tryz.prog 32 #[.agg #[.slice ao n c], .agg #[.slice ao' n' c']] w fun e w' => e = .returned (.int .i64 r) ∧ Below w.heap.size w w' := by
  have t := dCmp h h' hn hn'
  rw [hr] at t
  exact t
theorem cmpE {w : World} {ao ao' : Option Addr} {n c n' c' : Nat} {x y : Int} (h : NatA w ao n c x) (h' : NatA w ao' n' c' y) (hn : n ≤ 137438953472) (hn' : n' ≤ 137438953472) (r : Int) (hr : sgn x y = r) :
    Calls Tryz.prog 67 #[.agg #[.slice ao n c], .agg #[.slice ao' n' c']] w fun e w' => e = .returned (.int .i64 r) ∧ Below w.heap.size w w' := by
  have t := eCmp h h' hn hn'
  rw [hr] at t
  exact t
theorem zeroD {w : World} {ao : Option Addr} {n c : Nat} {x : Int} (h : NatA w ao n c x) (hn : n ≤ 1099511627776) (r : Bool) (hr : decide (x = 0) = r) :
    Calls Tryz.prog 33 #[.agg #[.slice ao n c]] w fun e w' => e = .returned (.bool r) ∧ Below w.heap.size w w' := by
  have t := dZero h hn
  rw [hr] at t
  exact t
theorem zeroE {w : World} {ao : Option Addr} {n c : Nat} {x : Int} (h : NatA w ao n c x) (hn : n ≤ 137438953472) (r : Bool) (hr : decide (x = 0) = r) :
    Calls Tryz.prog 66 #[.agg #[.slice ao n c]] w fun e w' => e = .returned (.bool r) ∧ Below w.heap.size w w' := by
  have t := eZero h hn
  rw [hr] at t
  exact t
set_option maxHeartbeats 16000000 in
set_option maxRecDepth 100000 in
theorem walk (a0 : Option Addr) (len0 cap0 : Nat) (z0 : List Int) (a1 : Option Addr) (len1 cap1 : Nat) (z1 : List Int) (y2 : Int) (w : World) (w0 : IsRow w a0 len0 cap0 z0) (w1 : IsRow w a1 len1 cap1 z1) (wy2 : (Lit.int .u64 y2).wf = true) :
    Calls Tryz.prog 10 #[.agg #[.slice a0 len0 cap0], .agg #[.slice a1 len1 cap1], .int .u64 y2] w fun e w' => e = .returned (.bool true) ∧ Below w.heap.size w w' := by
  have hnil0 := (show Hid _ from isRow_nil w0)
  obtain ⟨g0, o0, l0, hl0, hc0, hm0, W0, h0⟩ := w0.open
  have N0 : LimA w a0 len0 cap0 l0 := ⟨g0, o0, hl0, hc0, W0, h0⟩
  clear h0 w0 W0 hl0
  have hnil1 := (show Hid _ from isRow_nil w1)
  obtain ⟨g1, o1, l1, hl1, hc1, hm1, W1, h1⟩ := w1.open
  have N1 : LimA w a1 len1 cap1 l1 := ⟨g1, o1, hl1, hc1, W1, h1⟩
  clear h1 w1 W1 hl1
  have by2 := bounds_u64 wy2
  clear wy2
  have HB := Below.refl w.heap.size w
  have P0 := box_new (w) [.slice a0 len0 cap0] 46
  have BA := below_alloc (w) (.cells #[.slice a0 len0 cap0] 46)
  replace N0 := N0.keep BA
  replace N1 := N1.keep BA
  replace HB := joinB HB BA
  clear BA
  have P1 := box_new ((w).alloc (.cells #[.slice a0 len0 cap0] 46)) [.slice a1 len1 cap1] 46
  rw [show ((w).alloc (.cells #[.slice a0 len0 cap0] 46)).heap.size = w.heap.size + 1 by simp] at P1
  have BA := below_alloc ((w).alloc (.cells #[.slice a0 len0 cap0] 46)) (.cells #[.slice a1 len1 cap1] 46)
  replace N0 := N0.keep BA
  replace N1 := N1.keep BA
  replace P0 := P0.keep BA
  replace HB := joinB HB BA
  clear BA
  go_enter Tryz.func10, Tryz.ntmps10
  go_wp2_with fail
  generalize (w.alloc (.cells #[.slice a0 len0 cap0] 46)).alloc (.cells #[.slice a1 len1 cap1] 46) = u0 at *
  refine (knownD u0).mono ?_
  rintro e u1 ⟨rfl, hB⟩
  replace N0 := N0.keep hB
  replace N1 := N1.keep hB
  replace P0 := P0.keep hB
  replace P1 := P1.keep hB
  replace HB := joinB HB hB
  clear hB
  have bS := below_alloc u1 (.cells #[.slice a0 len0 cap0, .slice a1 len1 cap1] 46)
  have tS := smallD_any [(a0, len0, cap0), (a1, len1, cap1)] u1.heap.size 2 2 (u1.alloc (.cells #[.slice a0 len0 cap0, .slice a1 len1 cap1] 46)) rfl (by decide)
    (fun i => by
      match i with
      | 0 => exact hm0
      | 1 => exact hm1
      | _ + 2 => exact Nat.zero_le _)
    (fun i hi => by
      rw [cell_new]
      match i, hi with
      | 0, _ => rfl
      | 1, _ => rfl)
  have c1P0 := P0.slot.cell
  have c1P1 := P1.slot.cell
  go_wp2_with fail
  refine tS.mono ?_
  rintro e u2 ⟨rfl, rfl⟩
  clear tS
  clear c1P0 c1P1
  replace N0 := N0.keep bS
  replace N1 := N1.keep bS
  replace P0 := P0.keep bS
  replace P1 := P1.keep bS
  replace HB := joinB HB bS
  clear bS
  generalize u1.alloc (.cells #[.slice a0 len0 cap0, .slice a1 len1 cap1] 46) = u2 at *
  generalize u1.heap.size = gs at *
  by_cases hsm : smallD [(a0, len0, cap0), (a1, len1, cap1)] = true
  rotate_left
  · have hsf : smallD [(a0, len0, cap0), (a1, len1, cap1)] = false := by rw [Bool.not_eq_true] at hsm; exact hsm
    rw [hsf]
    have c1P0 := P0.slot.cell
    have c1P1 := P1.slot.cell
    go_wp2
    go_ret
    exact ⟨rfl, HB⟩
  rw [hsm]
  simp only [smallD, List.all_cons, List.all_nil, Bool.and_true, Bool.and_eq_true, decide_eq_true_eq] at hsm
  obtain ⟨hs0, hs1⟩ := hsm
  have c1P0 := P0.slot.cell
  have c1P1 := P1.slot.cell
  go_wp2_with fail
  clear c1P0 c1P1
  refine rg_mid (X := Nat × Nat × Option Addr × Nat × Option Addr × Nat) (fun ⟨g7, g8, ax, dx, ay, dy⟩ => [(some 23, .pointer (some ⟨w.heap.size, 0, none⟩)), (some 24, .slice a0 len0 cap0), (some 25, .slice ax len0 dx), (some 26, .agg #[.slice ax len0 dx]), (some 27, .pointer (some ⟨w.heap.size + 1, 0, none⟩)), (some 28, .slice a1 len1 cap1), (some 29, .slice ay len1 dy), (some 30, .agg #[.slice ay len1 dy]), (some 7, .pointer (some ⟨g7, 0, none⟩)), (some 8, .pointer (some ⟨g8, 0, none⟩))]) (fun ⟨g7, g8, ax, dx, ay, dy⟩ w' => Box w' g7 [.slice ax len0 dx] 46 ∧ Box w' g8 [.slice ay len1 dy] 46 ∧ u2.heap.size ≤ g7 ∧ u2.heap.size ≤ g8 ∧ LimA w' ax len0 dx l0 ∧ LimA w' ay len1 dy l1 ∧ LimA w' a0 len0 cap0 l0 ∧ LimA w' a1 len1 cap1 l1 ∧ Box w' (w.heap.size) [.slice a0 len0 cap0] 46 ∧ Box w' (w.heap.size + 1) [.slice a1 len1 cap1] 46 ∧ Below w.heap.size w w') (fun w' => Below u2.drew.heap.size u2.drew w') (by kernel_rfl) (Below.refl _ _) ?_ ?_
  · replace N0 := N0.drew
    replace N1 := N1.drew
    replace P0 := P0.drew
    replace P1 := P1.drew
    replace HB := HB.drew
    have hBu := HB.size
    have UP0 := P0
    have hP0u := P0.lt
    have UP1 := P1
    have hP1u := P1.lt
    have hS := Below.refl u2.drew.heap.size u2.drew
    refine rg_take 0 (some 23) (.pointer (some ⟨w.heap.size, 0, none⟩)) (by kernel_rfl) (fun _ _ => by kernel_rfl) (fun _ _ _ h => h) hS ?_
    refine rg_load 1 (some 24) (.slice a0 len0 cap0) 28 23 (w.heap.size) 0 (by kernel_rfl) (by kernel_rfl) (by kernel_rfl) (fun _ hb => load_raw ((UP0.keep hb).slot)) (fun _ _ _ h => h) hS ?_
    refine rg_take 4 (some 27) (.pointer (some ⟨w.heap.size + 1, 0, none⟩)) (by kernel_rfl) (fun _ _ => by kernel_rfl) (fun _ _ _ h => h) hS ?_
    refine rg_load 5 (some 28) (.slice a1 len1 cap1) 28 27 (w.heap.size + 1) 0 (by kernel_rfl) (by kernel_rfl) (by kernel_rfl) (fun _ hb => load_raw ((UP1.keep hb).slot)) (fun _ _ _ h => h) hS ?_
    refine rg_ready [2, 8, 9] (by kernel_rfl) (by simp) ?_
    refine ar_call 2 (some 25) 37 #[.slice a0 len0 cap0] (by kernel_rfl) (by kernel_rfl) (lCopy N0 (by omega) hnil0.out) ?_ ?_
    · rintro e v5x59 ⟨ax, dx, rfl, X0, hB⟩
      refine ⟨_, rfl, joinB hS hB, ?_⟩
      replace hS := joinB hS hB
      replace HB := joinB HB hB
      replace N0 := N0.keep hB
      replace N1 := N1.keep hB
      replace P0 := P0.keep hB
      replace P1 := P1.keep hB
      clear hB
      refine rg_take 3 (some 26) (.agg #[.slice ax len0 dx]) (by kernel_rfl) (fun _ _ => by kernel_rfl) (fun _ _ _ h => h) hS ?_
      refine rg_ready [6, 8, 9] (by kernel_rfl) (by simp) ?_
      refine ar_call 6 (some 29) 37 #[.slice a1 len1 cap1] (by kernel_rfl) (by kernel_rfl) (lCopy N1 (by omega) hnil1.out) ?_ ?_
      · rintro e v5x60 ⟨ay, dy, rfl, X1, hB⟩
        refine ⟨_, rfl, joinB hS hB, ?_⟩
        replace hS := joinB hS hB
        replace HB := joinB HB hB
        replace N0 := N0.keep hB
        replace N1 := N1.keep hB
        replace X0 := X0.keep hB
        replace P0 := P0.keep hB
        replace P1 := P1.keep hB
        clear hB
        refine rg_take 7 (some 30) (.agg #[.slice ay len1 dy]) (by kernel_rfl) (fun _ _ => by kernel_rfl) (fun _ _ _ h => h) hS ?_
        refine rg_ready [8, 9] (by kernel_rfl) (by simp) ?_
        refine ar_alloc 8 (some 7) 46 [.slice none 0 0] (by kernel_rfl) (by kernel_rfl) ?_ ?_
        · intro v5x61 X7 hB
          refine ⟨joinB hS hB, ?_⟩
          have hX7 := hS.size
          replace hS := joinB hS hB
          replace HB := joinB HB hB
          replace N0 := N0.keep hB
          replace N1 := N1.keep hB
          replace X0 := X0.keep hB
          replace X1 := X1.keep hB
          replace P0 := P0.keep hB
          replace P1 := P1.keep hB
          clear hB
          refine rg_ready [9] (by kernel_rfl) (by simp) ?_
          refine ar_alloc 9 (some 8) 46 [.slice none 0 0] (by kernel_rfl) (by kernel_rfl) ?_ ?_
          · intro v5x62 X8 hB
            refine ⟨joinB hS hB, ?_⟩
            have hX8 := hS.size
            replace hS := joinB hS hB
            replace HB := joinB HB hB
            have nX7X8 := Nat.ne_of_lt X7.lt
            replace N0 := N0.keep hB
            replace N1 := N1.keep hB
            replace X0 := X0.keep hB
            replace X1 := X1.keep hB
            replace P0 := P0.keep hB
            replace P1 := P1.keep hB
            replace X7 := X7.keep hB
            clear hB
            refine rg_ready [10] (by kernel_rfl) (by simp) ?_
            refine ar_store 10 46 46 7 26 (v5x60.heap.size) [.slice none 0 0] [.slice ax len0 dx] (by kernel_rfl) (by kernel_rfl) (by kernel_rfl) (by kernel_rfl) X7 (by kernel_rfl) rfl (by kernel_rfl) ?_ ?_
            · intro v5x63 Y hw hB
              refine ⟨hS.trans (hB.mono hX7), ?_⟩
              replace HB := HB.trans (hB.mono (Nat.le_trans hBu hX7))
              replace hS := hS.trans (hB.mono hX7)
              replace N0 := N0.blk X7 (no_ints1 _ _ _) hw
              replace N1 := N1.blk X7 (no_ints1 _ _ _) hw
              replace X0 := X0.blk X7 (no_ints1 _ _ _) hw
              replace X1 := X1.blk X7 (no_ints1 _ _ _) hw
              replace P0 := P0.off (by omega) hw
              replace P1 := P1.off (by omega) hw
              replace X8 := X8.off (Ne.symm nX7X8) hw
              replace X7 := Y
              clear hB hw
              refine rg_ready [11] (by kernel_rfl) (by simp) ?_
              refine ar_store 11 46 46 8 30 (v5x61.heap.size) [.slice none 0 0] [.slice ay len1 dy] (by kernel_rfl) (by kernel_rfl) (by kernel_rfl) (by kernel_rfl) X8 (by kernel_rfl) rfl (by kernel_rfl) ?_ ?_
              · intro v5x64 Y hw hB
                refine ⟨hS.trans (hB.mono hX8), ?_⟩
                replace HB := HB.trans (hB.mono (Nat.le_trans hBu hX8))
                replace hS := hS.trans (hB.mono hX8)
                replace N0 := N0.blk X8 (no_ints1 _ _ _) hw
                replace N1 := N1.blk X8 (no_ints1 _ _ _) hw
                replace X0 := X0.blk X8 (no_ints1 _ _ _) hw
                replace X1 := X1.blk X8 (no_ints1 _ _ _) hw
                replace P0 := P0.off (by omega) hw
                replace P1 := P1.off (by omega) hw
                replace X7 := X7.off nX7X8 hw
                replace X8 := Y
                clear hB hw
                refine rg_done (by kernel_rfl) ?_
                exact ⟨(v5x60.heap.size, v5x61.heap.size, ax, dx, ay, dy), by kernel_rfl, X7, X8, hX7, hX8, X0, X1, N0, N1, P0, P1, HB⟩
              exact ar_nil
            exact ar_nil
          exact ar_nil
        refine ar_alloc 9 (some 8) 46 [.slice none 0 0] (by kernel_rfl) (by kernel_rfl) ?_ ?_
        · intro v5x65 X8 hB
          refine ⟨joinB hS hB, ?_⟩
          have hX8 := hS.size
          replace hS := joinB hS hB
          replace HB := joinB HB hB
          replace N0 := N0.keep hB
          replace N1 := N1.keep hB
          replace X0 := X0.keep hB
          replace X1 := X1.keep hB
          replace P0 := P0.keep hB
          replace P1 := P1.keep hB
          clear hB
          refine rg_ready [8] (by kernel_rfl) (by simp) ?_
          refine ar_alloc 8 (some 7) 46 [.slice none 0 0] (by kernel_rfl) (by kernel_rfl) ?_ ?_
          · intro v5x66 X7 hB
            refine ⟨joinB hS hB, ?_⟩
            have hX7 := hS.size
            replace hS := joinB hS hB
            replace HB := joinB HB hB
            have nX8X7 := Nat.ne_of_lt X8.lt
            replace N0 := N0.keep hB
            replace N1 := N1.keep hB
            replace X0 := X0.keep hB
            replace X1 := X1.keep hB
            replace P0 := P0.keep hB
            replace P1 := P1.keep hB
            replace X8 := X8.keep hB
            clear hB
            refine rg_ready [10] (by kernel_rfl) (by simp) ?_
            refine ar_store 10 46 46 7 26 (v5x65.heap.size) [.slice none 0 0] [.slice ax len0 dx] (by kernel_rfl) (by kernel_rfl) (by kernel_rfl) (by kernel_rfl) X7 (by kernel_rfl) rfl (by kernel_rfl) ?_ ?_
            · intro v5x67 Y hw hB
              refine ⟨hS.trans (hB.mono hX7), ?_⟩
              replace HB := HB.trans (hB.mono (Nat.le_trans hBu hX7))
              replace hS := hS.trans (hB.mono hX7)
              replace N0 := N0.blk X7 (no_ints1 _ _ _) hw
              replace N1 := N1.blk X7 (no_ints1 _ _ _) hw
              replace X0 := X0.blk X7 (no_ints1 _ _ _) hw
              replace X1 := X1.blk X7 (no_ints1 _ _ _) hw
              replace P0 := P0.off (by omega) hw
              replace P1 := P1.off (by omega) hw
              replace X8 := X8.off nX8X7 hw
              replace X7 := Y
              clear hB hw
              refine rg_ready [11] (by kernel_rfl) (by simp) ?_
              refine ar_store 11 46 46 8 30 (v5x60.heap.size) [.slice none 0 0] [.slice ay len1 dy] (by kernel_rfl) (by kernel_rfl) (by kernel_rfl) (by kernel_rfl) X8 (by kernel_rfl) rfl (by kernel_rfl) ?_ ?_
              · intro v5x68 Y hw hB
                refine ⟨hS.trans (hB.mono hX8), ?_⟩
                replace HB := HB.trans (hB.mono (Nat.le_trans hBu hX8))
                replace hS := hS.trans (hB.mono hX8)
                replace N0 := N0.blk X8 (no_ints1 _ _ _) hw
                replace N1 := N1.blk X8 (no_ints1 _ _ _) hw
                replace X0 := X0.blk X8 (no_ints1 _ _ _) hw
                replace X1 := X1.blk X8 (no_ints1 _ _ _) hw
                replace P0 := P0.off (by omega) hw
                replace P1 := P1.off (by omega) hw
                replace X7 := X7.off (Ne.symm nX8X7) hw
                replace X8 := Y
                clear hB hw
                refine rg_done (by kernel_rfl) ?_
                exact ⟨(v5x65.heap.size, v5x60.heap.size, ax, dx, ay, dy), by kernel_rfl, X7, X8, hX7, hX8, X0, X1, N0, N1, P0, P1, HB⟩
              exact ar_nil
            exact ar_nil
          exact ar_nil
        exact ar_nil
      refine ar_alloc 8 (some 7) 46 [.slice none 0 0] (by kernel_rfl) (by kernel_rfl) ?_ ?_
      · intro v5x69 X7 hB
        refine ⟨joinB hS hB, ?_⟩
        have hX7 := hS.size
        replace hS := joinB hS hB
        replace HB := joinB HB hB
        replace N0 := N0.keep hB
        replace N1 := N1.keep hB
        replace X0 := X0.keep hB
        replace P0 := P0.keep hB
        replace P1 := P1.keep hB
        clear hB
        refine rg_ready [6, 9] (by kernel_rfl) (by simp) ?_
        refine ar_call 6 (some 29) 37 #[.slice a1 len1 cap1] (by kernel_rfl) (by kernel_rfl) (lCopy N1 (by omega) hnil1.out) ?_ ?_
        · rintro e v5x70 ⟨ay, dy, rfl, X1, hB⟩
          refine ⟨_, rfl, joinB hS hB, ?_⟩
          replace hS := joinB hS hB
          replace HB := joinB HB hB
          replace N0 := N0.keep hB
          replace N1 := N1.keep hB
          replace X0 := X0.keep hB
          replace P0 := P0.keep hB
          replace P1 := P1.keep hB
          replace X7 := X7.keep hB
          clear hB
          refine rg_take 7 (some 30) (.agg #[.slice ay len1 dy]) (by kernel_rfl) (fun _ _ => by kernel_rfl) (fun _ _ _ h => h) hS ?_
          refine rg_ready [9] (by kernel_rfl) (by simp) ?_
          refine ar_alloc 9 (some 8) 46 [.slice none 0 0] (by kernel_rfl) (by kernel_rfl) ?_ ?_
          · intro v5x71 X8 hB
            refine ⟨joinB hS hB, ?_⟩
            have hX8 := hS.size
            replace hS := joinB hS hB
            replace HB := joinB HB hB
            have nX7X8 := Nat.ne_of_lt X7.lt
            replace N0 := N0.keep hB
            replace N1 := N1.keep hB
            replace X0 := X0.keep hB
            replace X1 := X1.keep hB
            replace P0 := P0.keep hB
            replace P1 := P1.keep hB
            replace X7 := X7.keep hB
            clear hB
            refine rg_ready [10] (by kernel_rfl) (by simp) ?_
            refine ar_store 10 46 46 7 26 (v5x59.heap.size) [.slice none 0 0] [.slice ax len0 dx] (by kernel_rfl) (by kernel_rfl) (by kernel_rfl) (by kernel_rfl) X7 (by kernel_rfl) rfl (by kernel_rfl) ?_ ?_
            · intro v5x72 Y hw hB
              refine ⟨hS.trans (hB.mono hX7), ?_⟩
              replace HB := HB.trans (hB.mono (Nat.le_trans hBu hX7))
              replace hS := hS.trans (hB.mono hX7)
              replace N0 := N0.blk X7 (no_ints1 _ _ _) hw
              replace N1 := N1.blk X7 (no_ints1 _ _ _) hw
              replace X0 := X0.blk X7 (no_ints1 _ _ _) hw
              replace X1 := X1.blk X7 (no_ints1 _ _ _) hw
              replace P0 := P0.off (by omega) hw
              replace P1 := P1.off (by omega) hw
              replace X8 := X8.off (Ne.symm nX7X8) hw
              replace X7 := Y
              clear hB hw
              refine rg_ready [11] (by kernel_rfl) (by simp) ?_
              refine ar_store 11 46 46 8 30 (v5x70.heap.size) [.slice none 0 0] [.slice ay len1 dy] (by kernel_rfl) (by kernel_rfl) (by kernel_rfl) (by kernel_rfl) X8 (by kernel_rfl) rfl (by kernel_rfl) ?_ ?_
              · intro v5x73 Y hw hB
                refine ⟨hS.trans (hB.mono hX8), ?_⟩
                replace HB := HB.trans (hB.mono (Nat.le_trans hBu hX8))
                replace hS := hS.trans (hB.mono hX8)
                replace N0 := N0.blk X8 (no_ints1 _ _ _) hw
                replace N1 := N1.blk X8 (no_ints1 _ _ _) hw
                replace X0 := X0.blk X8 (no_ints1 _ _ _) hw
                replace X1 := X1.blk X8 (no_ints1 _ _ _) hw
                replace P0 := P0.off (by omega) hw
                replace P1 := P1.off (by omega) hw
                replace X7 := X7.off nX7X8 hw
                replace X8 := Y
                clear hB hw
                refine rg_done (by kernel_rfl) ?_
                exact ⟨(v5x59.heap.size, v5x70.heap.size, ax, dx, ay, dy), by kernel_rfl, X7, X8, hX7, hX8, X0, X1, N0, N1, P0, P1, HB⟩
              exact ar_nil
            exact ar_nil
          exact ar_nil
        refine ar_alloc 9 (some 8) 46 [.slice none 0 0] (by kernel_rfl) (by kernel_rfl) ?_ ?_
        · intro v5x74 X8 hB
          refine ⟨joinB hS hB, ?_⟩
          have hX8 := hS.size
          replace hS := joinB hS hB
          replace HB := joinB HB hB
          have nX7X8 := Nat.ne_of_lt X7.lt
          replace N0 := N0.keep hB
          replace N1 := N1.keep hB
          replace X0 := X0.keep hB
          replace P0 := P0.keep hB
          replace P1 := P1.keep hB
          replace X7 := X7.keep hB
          clear hB
          refine rg_ready [6] (by kernel_rfl) (by simp) ?_
          refine ar_call 6 (some 29) 37 #[.slice a1 len1 cap1] (by kernel_rfl) (by kernel_rfl) (lCopy N1 (by omega) hnil1.out) ?_ ?_
          · rintro e v5x75 ⟨ay, dy, rfl, X1, hB⟩
            refine ⟨_, rfl, joinB hS hB, ?_⟩
            replace hS := joinB hS hB
            replace HB := joinB HB hB
            replace N0 := N0.keep hB
            replace N1 := N1.keep hB
            replace X0 := X0.keep hB
            replace P0 := P0.keep hB
            replace P1 := P1.keep hB
            replace X7 := X7.keep hB
            replace X8 := X8.keep hB
            clear hB
            refine rg_take 7 (some 30) (.agg #[.slice ay len1 dy]) (by kernel_rfl) (fun _ _ => by kernel_rfl) (fun _ _ _ h => h) hS ?_
            refine rg_ready [10] (by kernel_rfl) (by simp) ?_
            refine ar_store 10 46 46 7 26 (v5x59.heap.size) [.slice none 0 0] [.slice ax len0 dx] (by kernel_rfl) (by kernel_rfl) (by kernel_rfl) (by kernel_rfl) X7 (by kernel_rfl) rfl (by kernel_rfl) ?_ ?_
            · intro v5x76 Y hw hB
              refine ⟨hS.trans (hB.mono hX7), ?_⟩
              replace HB := HB.trans (hB.mono (Nat.le_trans hBu hX7))
              replace hS := hS.trans (hB.mono hX7)
              replace N0 := N0.blk X7 (no_ints1 _ _ _) hw
              replace N1 := N1.blk X7 (no_ints1 _ _ _) hw
              replace X0 := X0.blk X7 (no_ints1 _ _ _) hw
              replace X1 := X1.blk X7 (no_ints1 _ _ _) hw
              replace P0 := P0.off (by omega) hw
              replace P1 := P1.off (by omega) hw
              replace X8 := X8.off (Ne.symm nX7X8) hw
              replace X7 := Y
              clear hB hw
              refine rg_ready [11] (by kernel_rfl) (by simp) ?_
              refine ar_store 11 46 46 8 30 (v5x69.heap.size) [.slice none 0 0] [.slice ay len1 dy] (by kernel_rfl) (by kernel_rfl) (by kernel_rfl) (by kernel_rfl) X8 (by kernel_rfl) rfl (by kernel_rfl) ?_ ?_
              · intro v5x77 Y hw hB
                refine ⟨hS.trans (hB.mono hX8), ?_⟩
                replace HB := HB.trans (hB.mono (Nat.le_trans hBu hX8))
                replace hS := hS.trans (hB.mono hX8)
                replace N0 := N0.blk X8 (no_ints1 _ _ _) hw
                replace N1 := N1.blk X8 (no_ints1 _ _ _) hw
                replace X0 := X0.blk X8 (no_ints1 _ _ _) hw
                replace X1 := X1.blk X8 (no_ints1 _ _ _) hw
                replace P0 := P0.off (by omega) hw
                replace P1 := P1.off (by omega) hw
                replace X7 := X7.off nX7X8 hw
                replace X8 := Y
                clear hB hw
                refine rg_done (by kernel_rfl) ?_
                exact ⟨(v5x59.heap.size, v5x69.heap.size, ax, dx, ay, dy), by kernel_rfl, X7, X8, hX7, hX8, X0, X1, N0, N1, P0, P1, HB⟩
              exact ar_nil
            exact ar_nil
          exact ar_nil
        exact ar_nil
      refine ar_alloc 9 (some 8) 46 [.slice none 0 0] (by kernel_rfl) (by kernel_rfl) ?_ ?_
      · intro v5x78 X8 hB
        refine ⟨joinB hS hB, ?_⟩
        have hX8 := hS.size
        replace hS := joinB hS hB
        replace HB := joinB HB hB
        replace N0 := N0.keep hB
        replace N1 := N1.keep hB
        replace X0 := X0.keep hB
        replace P0 := P0.keep hB
        replace P1 := P1.keep hB
        clear hB
        refine rg_ready [6, 8] (by kernel_rfl) (by simp) ?_
        refine ar_call 6 (some 29) 37 #[.slice a1 len1 cap1] (by kernel_rfl) (by kernel_rfl) (lCopy N1 (by omega) hnil1.out) ?_ ?_
        · rintro e v5x79 ⟨ay, dy, rfl, X1, hB⟩
          refine ⟨_, rfl, joinB hS hB, ?_⟩
          replace hS := joinB hS hB
          replace HB := joinB HB hB
          replace N0 := N0.keep hB
          replace N1 := N1.keep hB
          replace X0 := X0.keep hB
          replace P0 := P0.keep hB
          replace P1 := P1.keep hB
          replace X8 := X8.keep hB
          clear hB
          refine rg_take 7 (some 30) (.agg #[.slice ay len1 dy]) (by kernel_rfl) (fun _ _ => by kernel_rfl) (fun _ _ _ h => h) hS ?_
          refine rg_ready [8] (by kernel_rfl) (by simp) ?_
          refine ar_alloc 8 (some 7) 46 [.slice none 0 0] (by kernel_rfl) (by kernel_rfl) ?_ ?_
          · intro v5x80 X7 hB
            refine ⟨joinB hS hB, ?_⟩
            have hX7 := hS.size
            replace hS := joinB hS hB
            replace HB := joinB HB hB
            have nX8X7 := Nat.ne_of_lt X8.lt
            replace N0 := N0.keep hB
            replace N1 := N1.keep hB
            replace X0 := X0.keep hB
            replace X1 := X1.keep hB
            replace P0 := P0.keep hB
            replace P1 := P1.keep hB
            replace X8 := X8.keep hB
            clear hB
            refine rg_ready [10] (by kernel_rfl) (by simp) ?_
            refine ar_store 10 46 46 7 26 (v5x79.heap.size) [.slice none 0 0] [.slice ax len0 dx] (by kernel_rfl) (by kernel_rfl) (by kernel_rfl) (by kernel_rfl) X7 (by kernel_rfl) rfl (by kernel_rfl) ?_ ?_
            · intro v5x81 Y hw hB
              refine ⟨hS.trans (hB.mono hX7), ?_⟩
              replace HB := HB.trans (hB.mono (Nat.le_trans hBu hX7))
              replace hS := hS.trans (hB.mono hX7)
              replace N0 := N0.blk X7 (no_ints1 _ _ _) hw
              replace N1 := N1.blk X7 (no_ints1 _ _ _) hw
              replace X0 := X0.blk X7 (no_ints1 _ _ _) hw
              replace X1 := X1.blk X7 (no_ints1 _ _ _) hw
              replace P0 := P0.off (by omega) hw
              replace P1 := P1.off (by omega) hw
              replace X8 := X8.off nX8X7 hw
              replace X7 := Y
              clear hB hw
              refine rg_ready [11] (by kernel_rfl) (by simp) ?_
              refine ar_store 11 46 46 8 30 (v5x59.heap.size) [.slice none 0 0] [.slice ay len1 dy] (by kernel_rfl) (by kernel_rfl) (by kernel_rfl) (by kernel_rfl) X8 (by kernel_rfl) rfl (by kernel_rfl) ?_ ?_
              · intro v5x82 Y hw hB
                refine ⟨hS.trans (hB.mono hX8), ?_⟩
                replace HB := HB.trans (hB.mono (Nat.le_trans hBu hX8))
                replace hS := hS.trans (hB.mono hX8)
                replace N0 := N0.blk X8 (no_ints1 _ _ _) hw
                replace N1 := N1.blk X8 (no_ints1 _ _ _) hw
                replace X0 := X0.blk X8 (no_ints1 _ _ _) hw
                replace X1 := X1.blk X8 (no_ints1 _ _ _) hw
                replace P0 := P0.off (by omega) hw
                replace P1 := P1.off (by omega) hw
                replace X7 := X7.off (Ne.symm nX8X7) hw
                replace X8 := Y
                clear hB hw
                refine rg_done (by kernel_rfl) ?_
                exact ⟨(v5x79.heap.size, v5x59.heap.size, ax, dx, ay, dy), by kernel_rfl, X7, X8, hX7, hX8, X0, X1, N0, N1, P0, P1, HB⟩
              exact ar_nil
            exact ar_nil
          exact ar_nil
        refine ar_alloc 8 (some 7) 46 [.slice none 0 0] (by kernel_rfl) (by kernel_rfl) ?_ ?_
        · intro v5x83 X7 hB
          refine ⟨joinB hS hB, ?_⟩
          have hX7 := hS.size
          replace hS := joinB hS hB
          replace HB := joinB HB hB
          have nX8X7 := Nat.ne_of_lt X8.lt
          replace N0 := N0.keep hB
          replace N1 := N1.keep hB
          replace X0 := X0.keep hB
          replace P0 := P0.keep hB
          replace P1 := P1.keep hB
          replace X8 := X8.keep hB
          clear hB
          refine rg_ready [6] (by kernel_rfl) (by simp) ?_
          refine ar_call 6 (some 29) 37 #[.slice a1 len1 cap1] (by kernel_rfl) (by kernel_rfl) (lCopy N1 (by omega) hnil1.out) ?_ ?_
          · rintro e v5x84 ⟨ay, dy, rfl, X1, hB⟩
            refine ⟨_, rfl, joinB hS hB, ?_⟩
            replace hS := joinB hS hB
            replace HB := joinB HB hB
            replace N0 := N0.keep hB
            replace N1 := N1.keep hB
            replace X0 := X0.keep hB
            replace P0 := P0.keep hB
            replace P1 := P1.keep hB
            replace X8 := X8.keep hB
            replace X7 := X7.keep hB
            clear hB
            refine rg_take 7 (some 30) (.agg #[.slice ay len1 dy]) (by kernel_rfl) (fun _ _ => by kernel_rfl) (fun _ _ _ h => h) hS ?_
            refine rg_ready [10] (by kernel_rfl) (by simp) ?_
            refine ar_store 10 46 46 7 26 (v5x78.heap.size) [.slice none 0 0] [.slice ax len0 dx] (by kernel_rfl) (by kernel_rfl) (by kernel_rfl) (by kernel_rfl) X7 (by kernel_rfl) rfl (by kernel_rfl) ?_ ?_
            · intro v5x85 Y hw hB
              refine ⟨hS.trans (hB.mono hX7), ?_⟩
              replace HB := HB.trans (hB.mono (Nat.le_trans hBu hX7))
              replace hS := hS.trans (hB.mono hX7)
              replace N0 := N0.blk X7 (no_ints1 _ _ _) hw
              replace N1 := N1.blk X7 (no_ints1 _ _ _) hw
              replace X0 := X0.blk X7 (no_ints1 _ _ _) hw
              replace X1 := X1.blk X7 (no_ints1 _ _ _) hw
              replace P0 := P0.off (by omega) hw
              replace P1 := P1.off (by omega) hw
              replace X8 := X8.off nX8X7 hw
              replace X7 := Y
              clear hB hw
              refine rg_ready [11] (by kernel_rfl) (by simp) ?_
              refine ar_store 11 46 46 8 30 (v5x59.heap.size) [.slice none 0 0] [.slice ay len1 dy] (by kernel_rfl) (by kernel_rfl) (by kernel_rfl) (by kernel_rfl) X8 (by kernel_rfl) rfl (by kernel_rfl) ?_ ?_
              · intro v5x86 Y hw hB
                refine ⟨hS.trans (hB.mono hX8), ?_⟩
                replace HB := HB.trans (hB.mono (Nat.le_trans hBu hX8))
                replace hS := hS.trans (hB.mono hX8)
                replace N0 := N0.blk X8 (no_ints1 _ _ _) hw
                replace N1 := N1.blk X8 (no_ints1 _ _ _) hw
                replace X0 := X0.blk X8 (no_ints1 _ _ _) hw
                replace X1 := X1.blk X8 (no_ints1 _ _ _) hw
                replace P0 := P0.off (by omega) hw
                replace P1 := P1.off (by omega) hw
                replace X7 := X7.off (Ne.symm nX8X7) hw
                replace X8 := Y
                clear hB hw
                refine rg_done (by kernel_rfl) ?_
                exact ⟨(v5x78.heap.size, v5x59.heap.size, ax, dx, ay, dy), by kernel_rfl, X7, X8, hX7, hX8, X0, X1, N0, N1, P0, P1, HB⟩
              exact ar_nil
            exact ar_nil
          exact ar_nil
        exact ar_nil
      exact ar_nil
    refine ar_alloc 8 (some 7) 46 [.slice none 0 0] (by kernel_rfl) (by kernel_rfl) ?_ ?_
    · intro v5x87 X7 hB
      refine ⟨joinB hS hB, ?_⟩
      have hX7 := hS.size
      replace hS := joinB hS hB
      replace HB := joinB HB hB
      replace N0 := N0.keep hB
      replace N1 := N1.keep hB
      replace P0 := P0.keep hB
      replace P1 := P1.keep hB
      clear hB
      refine rg_ready [2, 9] (by kernel_rfl) (by simp) ?_
      refine ar_call 2 (some 25) 37 #[.slice a0 len0 cap0] (by kernel_rfl) (by kernel_rfl) (lCopy N0 (by omega) hnil0.out) ?_ ?_
      · rintro e v5x88 ⟨ax, dx, rfl, X0, hB⟩
        refine ⟨_, rfl, joinB hS hB, ?_⟩
        replace hS := joinB hS hB
        replace HB := joinB HB hB
        replace N0 := N0.keep hB
        replace N1 := N1.keep hB
        replace P0 := P0.keep hB
        replace P1 := P1.keep hB
        replace X7 := X7.keep hB
        clear hB
        refine rg_take 3 (some 26) (.agg #[.slice ax len0 dx]) (by kernel_rfl) (fun _ _ => by kernel_rfl) (fun _ _ _ h => h) hS ?_
        refine rg_ready [6, 9] (by kernel_rfl) (by simp) ?_
        refine ar_call 6 (some 29) 37 #[.slice a1 len1 cap1] (by kernel_rfl) (by kernel_rfl) (lCopy N1 (by omega) hnil1.out) ?_ ?_
        · rintro e v5x89 ⟨ay, dy, rfl, X1, hB⟩
          refine ⟨_, rfl, joinB hS hB, ?_⟩
          replace hS := joinB hS hB
          replace HB := joinB HB hB
          replace N0 := N0.keep hB
          replace N1 := N1.keep hB
          replace X0 := X0.keep hB
          replace P0 := P0.keep hB
          replace P1 := P1.keep hB
          replace X7 := X7.keep hB
          clear hB
          refine rg_take 7 (some 30) (.agg #[.slice ay len1 dy]) (by kernel_rfl) (fun _ _ => by kernel_rfl) (fun _ _ _ h => h) hS ?_
          refine rg_ready [9] (by kernel_rfl) (by simp) ?_
          refine ar_alloc 9 (some 8) 46 [.slice none 0 0] (by kernel_rfl) (by kernel_rfl) ?_ ?_
          · intro v5x90 X8 hB
            refine ⟨joinB hS hB, ?_⟩
            have hX8 := hS.size
            replace hS := joinB hS hB
            replace HB := joinB HB hB
            have nX7X8 := Nat.ne_of_lt X7.lt
            replace N0 := N0.keep hB
            replace N1 := N1.keep hB
            replace X0 := X0.keep hB
            replace X1 := X1.keep hB
            replace P0 := P0.keep hB
            replace P1 := P1.keep hB
            replace X7 := X7.keep hB
            clear hB
            refine rg_ready [10] (by kernel_rfl) (by simp) ?_
            refine ar_store 10 46 46 7 26 (u2.drew.heap.size) [.slice none 0 0] [.slice ax len0 dx] (by kernel_rfl) (by kernel_rfl) (by kernel_rfl) (by kernel_rfl) X7 (by kernel_rfl) rfl (by kernel_rfl) ?_ ?_
            · intro v5x91 Y hw hB
              refine ⟨hS.trans (hB.mono hX7), ?_⟩
              replace HB := HB.trans (hB.mono (Nat.le_trans hBu hX7))
              replace hS := hS.trans (hB.mono hX7)
              replace N0 := N0.blk X7 (no_ints1 _ _ _) hw
              replace N1 := N1.blk X7 (no_ints1 _ _ _) hw
              replace X0 := X0.blk X7 (no_ints1 _ _ _) hw
              replace X1 := X1.blk X7 (no_ints1 _ _ _) hw
              replace P0 := P0.off (by omega) hw
              replace P1 := P1.off (by omega) hw
              replace X8 := X8.off (Ne.symm nX7X8) hw
              replace X7 := Y
              clear hB hw
              refine rg_ready [11] (by kernel_rfl) (by simp) ?_
              refine ar_store 11 46 46 8 30 (v5x89.heap.size) [.slice none 0 0] [.slice ay len1 dy] (by kernel_rfl) (by kernel_rfl) (by kernel_rfl) (by kernel_rfl) X8 (by kernel_rfl) rfl (by kernel_rfl) ?_ ?_
              · intro v5x92 Y hw hB
                refine ⟨hS.trans (hB.mono hX8), ?_⟩
                replace HB := HB.trans (hB.mono (Nat.le_trans hBu hX8))
                replace hS := hS.trans (hB.mono hX8)
                replace N0 := N0.blk X8 (no_ints1 _ _ _) hw
                replace N1 := N1.blk X8 (no_ints1 _ _ _) hw
                replace X0 := X0.blk X8 (no_ints1 _ _ _) hw
                replace X1 := X1.blk X8 (no_ints1 _ _ _) hw
                replace P0 := P0.off (by omega) hw
                replace P1 := P1.off (by omega) hw
                replace X7 := X7.off nX7X8 hw
                replace X8 := Y
                clear hB hw
                refine rg_done (by kernel_rfl) ?_
                exact ⟨(u2.drew.heap.size, v5x89.heap.size, ax, dx, ay, dy), by kernel_rfl, X7, X8, hX7, hX8, X0, X1, N0, N1, P0, P1, HB⟩
              exact ar_nil
            exact ar_nil
          exact ar_nil
        refine ar_alloc 9 (some 8) 46 [.slice none 0 0] (by kernel_rfl) (by kernel_rfl) ?_ ?_
        · intro v5x93 X8 hB
          refine ⟨joinB hS hB, ?_⟩
          have hX8 := hS.size
          replace hS := joinB hS hB
          replace HB := joinB HB hB
          have nX7X8 := Nat.ne_of_lt X7.lt
          replace N0 := N0.keep hB
          replace N1 := N1.keep hB
          replace X0 := X0.keep hB
          replace P0 := P0.keep hB
          replace P1 := P1.keep hB
          replace X7 := X7.keep hB
          clear hB
          refine rg_ready [6] (by kernel_rfl) (by simp) ?_
          refine ar_call 6 (some 29) 37 #[.slice a1 len1 cap1] (by kernel_rfl) (by kernel_rfl) (lCopy N1 (by omega) hnil1.out) ?_ ?_
          · rintro e v5x94 ⟨ay, dy, rfl, X1, hB⟩
            refine ⟨_, rfl, joinB hS hB, ?_⟩
            replace hS := joinB hS hB
            replace HB := joinB HB hB
            replace N0 := N0.keep hB
            replace N1 := N1.keep hB
            replace X0 := X0.keep hB
            replace P0 := P0.keep hB
            replace P1 := P1.keep hB
            replace X7 := X7.keep hB
            replace X8 := X8.keep hB
            clear hB
            refine rg_take 7 (some 30) (.agg #[.slice ay len1 dy]) (by kernel_rfl) (fun _ _ => by kernel_rfl) (fun _ _ _ h => h) hS ?_
            refine rg_ready [10] (by kernel_rfl) (by simp) ?_
            refine ar_store 10 46 46 7 26 (u2.drew.heap.size) [.slice none 0 0] [.slice ax len0 dx] (by kernel_rfl) (by kernel_rfl) (by kernel_rfl) (by kernel_rfl) X7 (by kernel_rfl) rfl (by kernel_rfl) ?_ ?_
            · intro v5x95 Y hw hB
              refine ⟨hS.trans (hB.mono hX7), ?_⟩
              replace HB := HB.trans (hB.mono (Nat.le_trans hBu hX7))
              replace hS := hS.trans (hB.mono hX7)
              replace N0 := N0.blk X7 (no_ints1 _ _ _) hw
              replace N1 := N1.blk X7 (no_ints1 _ _ _) hw
              replace X0 := X0.blk X7 (no_ints1 _ _ _) hw
              replace X1 := X1.blk X7 (no_ints1 _ _ _) hw
              replace P0 := P0.off (by omega) hw
              replace P1 := P1.off (by omega) hw
              replace X8 := X8.off (Ne.symm nX7X8) hw
              replace X7 := Y
              clear hB hw
              refine rg_ready [11] (by kernel_rfl) (by simp) ?_
              refine ar_store 11 46 46 8 30 (v5x88.heap.size) [.slice none 0 0] [.slice ay len1 dy] (by kernel_rfl) (by kernel_rfl) (by kernel_rfl) (by kernel_rfl) X8 (by kernel_rfl) rfl (by kernel_rfl) ?_ ?_
              · intro v5x96 Y hw hB
                refine ⟨hS.trans (hB.mono hX8), ?_⟩
                replace HB := HB.trans (hB.mono (Nat.le_trans hBu hX8))
                replace hS := hS.trans (hB.mono hX8)
                replace N0 := N0.blk X8 (no_ints1 _ _ _) hw
                replace N1 := N1.blk X8 (no_ints1 _ _ _) hw
                replace X0 := X0.blk X8 (no_ints1 _ _ _) hw
                replace X1 := X1.blk X8 (no_ints1 _ _ _) hw
                replace P0 := P0.off (by omega) hw
                replace P1 := P1.off (by omega) hw
                replace X7 := X7.off nX7X8 hw
                replace X8 := Y
                clear hB hw
                refine rg_done (by kernel_rfl) ?_
                exact ⟨(u2.drew.heap.size, v5x88.heap.size, ax, dx, ay, dy), by kernel_rfl, X7, X8, hX7, hX8, X0, X1, N0, N1, P0, P1, HB⟩
              exact ar_nil
            exact ar_nil
          exact ar_nil
        exact ar_nil
      refine ar_alloc 9 (some 8) 46 [.slice none 0 0] (by kernel_rfl) (by kernel_rfl) ?_ ?_
      · intro v5x97 X8 hB
        refine ⟨joinB hS hB, ?_⟩
        have hX8 := hS.size
        replace hS := joinB hS hB
        replace HB := joinB HB hB
        have nX7X8 := Nat.ne_of_lt X7.lt
        replace N0 := N0.keep hB
        replace N1 := N1.keep hB
        replace P0 := P0.keep hB
        replace P1 := P1.keep hB
        replace X7 := X7.keep hB
        clear hB
        refine rg_ready [2] (by kernel_rfl) (by simp) ?_
        refine ar_call 2 (some 25) 37 #[.slice a0 len0 cap0] (by kernel_rfl) (by kernel_rfl) (lCopy N0 (by omega) hnil0.out) ?_ ?_
        · rintro e v5x98 ⟨ax, dx, rfl, X0, hB⟩
          refine ⟨_, rfl, joinB hS hB, ?_⟩
          replace hS := joinB hS hB
          replace HB := joinB HB hB
          replace N0 := N0.keep hB
          replace N1 := N1.keep hB
          replace P0 := P0.keep hB
          replace P1 := P1.keep hB
          replace X7 := X7.keep hB
          replace X8 := X8.keep hB
          clear hB
          refine rg_take 3 (some 26) (.agg #[.slice ax len0 dx]) (by kernel_rfl) (fun _ _ => by kernel_rfl) (fun _ _ _ h => h) hS ?_
          refine rg_ready [6] (by kernel_rfl) (by simp) ?_
          refine ar_call 6 (some 29) 37 #[.slice a1 len1 cap1] (by kernel_rfl) (by kernel_rfl) (lCopy N1 (by omega) hnil1.out) ?_ ?_
          · rintro e v5x99 ⟨ay, dy, rfl, X1, hB⟩
            refine ⟨_, rfl, joinB hS hB, ?_⟩
            replace hS := joinB hS hB
            replace HB := joinB HB hB
            replace N0 := N0.keep hB
            replace N1 := N1.keep hB
            replace X0 := X0.keep hB
            replace P0 := P0.keep hB
            replace P1 := P1.keep hB
            replace X7 := X7.keep hB
            replace X8 := X8.keep hB
            clear hB
            refine rg_take 7 (some 30) (.agg #[.slice ay len1 dy]) (by kernel_rfl) (fun _ _ => by kernel_rfl) (fun _ _ _ h => h) hS ?_
            refine rg_ready [10] (by kernel_rfl) (by simp) ?_
            refine ar_store 10 46 46 7 26 (u2.drew.heap.size) [.slice none 0 0] [.slice ax len0 dx] (by kernel_rfl) (by kernel_rfl) (by kernel_rfl) (by kernel_rfl) X7 (by kernel_rfl) rfl (by kernel_rfl) ?_ ?_
            · intro v5x100 Y hw hB
              refine ⟨hS.trans (hB.mono hX7), ?_⟩
              replace HB := HB.trans (hB.mono (Nat.le_trans hBu hX7))
              replace hS := hS.trans (hB.mono hX7)
              replace N0 := N0.blk X7 (no_ints1 _ _ _) hw
              replace N1 := N1.blk X7 (no_ints1 _ _ _) hw
              replace X0 := X0.blk X7 (no_ints1 _ _ _) hw
              replace X1 := X1.blk X7 (no_ints1 _ _ _) hw
              replace P0 := P0.off (by omega) hw
              replace P1 := P1.off (by omega) hw
              replace X8 := X8.off (Ne.symm nX7X8) hw
              replace X7 := Y
              clear hB hw
              refine rg_ready [11] (by kernel_rfl) (by simp) ?_
              refine ar_store 11 46 46 8 30 (v5x87.heap.size) [.slice none 0 0] [.slice ay len1 dy] (by kernel_rfl) (by kernel_rfl) (by kernel_rfl) (by kernel_rfl) X8 (by kernel_rfl) rfl (by kernel_rfl) ?_ ?_
              · intro v5x101 Y hw hB
                refine ⟨hS.trans (hB.mono hX8), ?_⟩
                replace HB := HB.trans (hB.mono (Nat.le_trans hBu hX8))
                replace hS := hS.trans (hB.mono hX8)
                replace N0 := N0.blk X8 (no_ints1 _ _ _) hw
                replace N1 := N1.blk X8 (no_ints1 _ _ _) hw
                replace X0 := X0.blk X8 (no_ints1 _ _ _) hw
                replace X1 := X1.blk X8 (no_ints1 _ _ _) hw
                replace P0 := P0.off (by omega) hw
                replace P1 := P1.off (by omega) hw
                replace X7 := X7.off nX7X8 hw
                replace X8 := Y
                clear hB hw
                refine rg_done (by kernel_rfl) ?_
                exact ⟨(u2.drew.heap.size, v5x87.heap.size, ax, dx, ay, dy), by kernel_rfl, X7, X8, hX7, hX8, X0, X1, N0, N1, P0, P1, HB⟩
              exact ar_nil
            exact ar_nil
          exact ar_nil
        exact ar_nil
      exact ar_nil
    refine ar_alloc 9 (some 8) 46 [.slice none 0 0] (by kernel_rfl) (by kernel_rfl) ?_ ?_
    · intro v5x102 X8 hB
      refine ⟨joinB hS hB, ?_⟩
      have hX8 := hS.size
      replace hS := joinB hS hB
      replace HB := joinB HB hB
      replace N0 := N0.keep hB
      replace N1 := N1.keep hB
      replace P0 := P0.keep hB
      replace P1 := P1.keep hB
      clear hB
      refine rg_ready [2, 8] (by kernel_rfl) (by simp) ?_
      refine ar_call 2 (some 25) 37 #[.slice a0 len0 cap0] (by kernel_rfl) (by kernel_rfl) (lCopy N0 (by omega) hnil0.out) ?_ ?_
      · rintro e v5x103 ⟨ax, dx, rfl, X0, hB⟩
        refine ⟨_, rfl, joinB hS hB, ?_⟩
        replace hS := joinB hS hB
        replace HB := joinB HB hB
        replace N0 := N0.keep hB
        replace N1 := N1.keep hB
        replace P0 := P0.keep hB
        replace P1 := P1.keep hB
        replace X8 := X8.keep hB
        clear hB
        refine rg_take 3 (some 26) (.agg #[.slice ax len0 dx]) (by kernel_rfl) (fun _ _ => by kernel_rfl) (fun _ _ _ h => h) hS ?_
        refine rg_ready [6, 8] (by kernel_rfl) (by simp) ?_
        refine ar_call 6 (some 29) 37 #[.slice a1 len1 cap1] (by kernel_rfl) (by kernel_rfl) (lCopy N1 (by omega) hnil1.out) ?_ ?_
        · rintro e v5x104 ⟨ay, dy, rfl, X1, hB⟩
          refine ⟨_, rfl, joinB hS hB, ?_⟩
          replace hS := joinB hS hB
          replace HB := joinB HB hB
          replace N0 := N0.keep hB
          replace N1 := N1.keep hB
          replace X0 := X0.keep hB
          replace P0 := P0.keep hB
          replace P1 := P1.keep hB
          replace X8 := X8.keep hB
          clear hB
          refine rg_take 7 (some 30) (.agg #[.slice ay len1 dy]) (by kernel_rfl) (fun _ _ => by kernel_rfl) (fun _ _ _ h => h) hS ?_
          refine rg_ready [8] (by kernel_rfl) (by simp) ?_
          refine ar_alloc 8 (some 7) 46 [.slice none 0 0] (by kernel_rfl) (by kernel_rfl) ?_ ?_
          · intro v5x105 X7 hB
            refine ⟨joinB hS hB, ?_⟩
            have hX7 := hS.size
            replace hS := joinB hS hB
            replace HB := joinB HB hB
            have nX8X7 := Nat.ne_of_lt X8.lt
            replace N0 := N0.keep hB
            replace N1 := N1.keep hB
            replace X0 := X0.keep hB
            replace X1 := X1.keep hB
            replace P0 := P0.keep hB
            replace P1 := P1.keep hB
            replace X8 := X8.keep hB
            clear hB
            refine rg_ready [10] (by kernel_rfl) (by simp) ?_
            refine ar_store 10 46 46 7 26 (v5x104.heap.size) [.slice none 0 0] [.slice ax len0 dx] (by kernel_rfl) (by kernel_rfl) (by kernel_rfl) (by kernel_rfl) X7 (by kernel_rfl) rfl (by kernel_rfl) ?_ ?_
            · intro v5x106 Y hw hB
              refine ⟨hS.trans (hB.mono hX7), ?_⟩
              replace HB := HB.trans (hB.mono (Nat.le_trans hBu hX7))
              replace hS := hS.trans (hB.mono hX7)
              replace N0 := N0.blk X7 (no_ints1 _ _ _) hw
              replace N1 := N1.blk X7 (no_ints1 _ _ _) hw
              replace X0 := X0.blk X7 (no_ints1 _ _ _) hw
              replace X1 := X1.blk X7 (no_ints1 _ _ _) hw
              replace P0 := P0.off (by omega) hw
              replace P1 := P1.off (by omega) hw
              replace X8 := X8.off nX8X7 hw
              replace X7 := Y
              clear hB hw
              refine rg_ready [11] (by kernel_rfl) (by simp) ?_
              refine ar_store 11 46 46 8 30 (u2.drew.heap.size) [.slice none 0 0] [.slice ay len1 dy] (by kernel_rfl) (by kernel_rfl) (by kernel_rfl) (by kernel_rfl) X8 (by kernel_rfl) rfl (by kernel_rfl) ?_ ?_
              · intro v5x107 Y hw hB
                refine ⟨hS.trans (hB.mono hX8), ?_⟩
                replace HB := HB.trans (hB.mono (Nat.le_trans hBu hX8))
                replace hS := hS.trans (hB.mono hX8)
                replace N0 := N0.blk X8 (no_ints1 _ _ _) hw
                replace N1 := N1.blk X8 (no_ints1 _ _ _) hw
                replace X0 := X0.blk X8 (no_ints1 _ _ _) hw
                replace X1 := X1.blk X8 (no_ints1 _ _ _) hw
                replace P0 := P0.off (by omega) hw
                replace P1 := P1.off (by omega) hw
                replace X7 := X7.off (Ne.symm nX8X7) hw
                replace X8 := Y
                clear hB hw
                refine rg_done (by kernel_rfl) ?_
                exact ⟨(v5x104.heap.size, u2.drew.heap.size, ax, dx, ay, dy), by kernel_rfl, X7, X8, hX7, hX8, X0, X1, N0, N1, P0, P1, HB⟩
              exact ar_nil
            exact ar_nil
          exact ar_nil
        refine ar_alloc 8 (some 7) 46 [.slice none 0 0] (by kernel_rfl) (by kernel_rfl) ?_ ?_
        · intro v5x108 X7 hB
          refine ⟨joinB hS hB, ?_⟩
          have hX7 := hS.size
          replace hS := joinB hS hB
          replace HB := joinB HB hB
          have nX8X7 := Nat.ne_of_lt X8.lt
          replace N0 := N0.keep hB
          replace N1 := N1.keep hB
          replace X0 := X0.keep hB
          replace P0 := P0.keep hB
          replace P1 := P1.keep hB
          replace X8 := X8.keep hB
          clear hB
          refine rg_ready [6] (by kernel_rfl) (by simp) ?_
          refine ar_call 6 (some 29) 37 #[.slice a1 len1 cap1] (by kernel_rfl) (by kernel_rfl) (lCopy N1 (by omega) hnil1.out) ?_ ?_
          · rintro e v5x109 ⟨ay, dy, rfl, X1, hB⟩
            refine ⟨_, rfl, joinB hS hB, ?_⟩
            replace hS := joinB hS hB
            replace HB := joinB HB hB
            replace N0 := N0.keep hB
            replace N1 := N1.keep hB
            replace X0 := X0.keep hB
            replace P0 := P0.keep hB
            replace P1 := P1.keep hB
            replace X8 := X8.keep hB
            replace X7 := X7.keep hB
            clear hB
            refine rg_take 7 (some 30) (.agg #[.slice ay len1 dy]) (by kernel_rfl) (fun _ _ => by kernel_rfl) (fun _ _ _ h => h) hS ?_
            refine rg_ready [10] (by kernel_rfl) (by simp) ?_
            refine ar_store 10 46 46 7 26 (v5x103.heap.size) [.slice none 0 0] [.slice ax len0 dx] (by kernel_rfl) (by kernel_rfl) (by kernel_rfl) (by kernel_rfl) X7 (by kernel_rfl) rfl (by kernel_rfl) ?_ ?_
            · intro v5x110 Y hw hB
              refine ⟨hS.trans (hB.mono hX7), ?_⟩
              replace HB := HB.trans (hB.mono (Nat.le_trans hBu hX7))
              replace hS := hS.trans (hB.mono hX7)
              replace N0 := N0.blk X7 (no_ints1 _ _ _) hw
              replace N1 := N1.blk X7 (no_ints1 _ _ _) hw
              replace X0 := X0.blk X7 (no_ints1 _ _ _) hw
              replace X1 := X1.blk X7 (no_ints1 _ _ _) hw
              replace P0 := P0.off (by omega) hw
              replace P1 := P1.off (by omega) hw
              replace X8 := X8.off nX8X7 hw
              replace X7 := Y
              clear hB hw
              refine rg_ready [11] (by kernel_rfl) (by simp) ?_
              refine ar_store 11 46 46 8 30 (u2.drew.heap.size) [.slice none 0 0] [.slice ay len1 dy] (by kernel_rfl) (by kernel_rfl) (by kernel_rfl) (by kernel_rfl) X8 (by kernel_rfl) rfl (by kernel_rfl) ?_ ?_
              · intro v5x111 Y hw hB
                refine ⟨hS.trans (hB.mono hX8), ?_⟩
                replace HB := HB.trans (hB.mono (Nat.le_trans hBu hX8))
                replace hS := hS.trans (hB.mono hX8)
                replace N0 := N0.blk X8 (no_ints1 _ _ _) hw
                replace N1 := N1.blk X8 (no_ints1 _ _ _) hw
                replace X0 := X0.blk X8 (no_ints1 _ _ _) hw
                replace X1 := X1.blk X8 (no_ints1 _ _ _) hw
                replace P0 := P0.off (by omega) hw
                replace P1 := P1.off (by omega) hw
                replace X7 := X7.off (Ne.symm nX8X7) hw
                replace X8 := Y
                clear hB hw
                refine rg_done (by kernel_rfl) ?_
                exact ⟨(v5x103.heap.size, u2.drew.heap.size, ax, dx, ay, dy), by kernel_rfl, X7, X8, hX7, hX8, X0, X1, N0, N1, P0, P1, HB⟩
              exact ar_nil
            exact ar_nil
          exact ar_nil
        exact ar_nil
      refine ar_alloc 8 (some 7) 46 [.slice none 0 0] (by kernel_rfl) (by kernel_rfl) ?_ ?_
      · intro v5x112 X7 hB
        refine ⟨joinB hS hB, ?_⟩
        have hX7 := hS.size
        replace hS := joinB hS hB
        replace HB := joinB HB hB
        have nX8X7 := Nat.ne_of_lt X8.lt
        replace N0 := N0.keep hB
        replace N1 := N1.keep hB
        replace P0 := P0.keep hB
        replace P1 := P1.keep hB
        replace X8 := X8.keep hB
        clear hB
        refine rg_ready [2] (by kernel_rfl) (by simp) ?_
        refine ar_call 2 (some 25) 37 #[.slice a0 len0 cap0] (by kernel_rfl) (by kernel_rfl) (lCopy N0 (by omega) hnil0.out) ?_ ?_
        · rintro e v5x113 ⟨ax, dx, rfl, X0, hB⟩
          refine ⟨_, rfl, joinB hS hB, ?_⟩
          replace hS := joinB hS hB
          replace HB := joinB HB hB
          replace N0 := N0.keep hB
          replace N1 := N1.keep hB
          replace P0 := P0.keep hB
          replace P1 := P1.keep hB
          replace X8 := X8.keep hB
          replace X7 := X7.keep hB
          clear hB
          refine rg_take 3 (some 26) (.agg #[.slice ax len0 dx]) (by kernel_rfl) (fun _ _ => by kernel_rfl) (fun _ _ _ h => h) hS ?_
          refine rg_ready [6] (by kernel_rfl) (by simp) ?_
          refine ar_call 6 (some 29) 37 #[.slice a1 len1 cap1] (by kernel_rfl) (by kernel_rfl) (lCopy N1 (by omega) hnil1.out) ?_ ?_
          · rintro e v5x114 ⟨ay, dy, rfl, X1, hB⟩
            refine ⟨_, rfl, joinB hS hB, ?_⟩
            replace hS := joinB hS hB
            replace HB := joinB HB hB
            replace N0 := N0.keep hB
            replace N1 := N1.keep hB
            replace X0 := X0.keep hB
            replace P0 := P0.keep hB
            replace P1 := P1.keep hB
            replace X8 := X8.keep hB
            replace X7 := X7.keep hB
            clear hB
            refine rg_take 7 (some 30) (.agg #[.slice ay len1 dy]) (by kernel_rfl) (fun _ _ => by kernel_rfl) (fun _ _ _ h => h) hS ?_
            refine rg_ready [10] (by kernel_rfl) (by simp) ?_
            refine ar_store 10 46 46 7 26 (v5x102.heap.size) [.slice none 0 0] [.slice ax len0 dx] (by kernel_rfl) (by kernel_rfl) (by kernel_rfl) (by kernel_rfl) X7 (by kernel_rfl) rfl (by kernel_rfl) ?_ ?_
            · intro v5x115 Y hw hB
              refine ⟨hS.trans (hB.mono hX7), ?_⟩
              replace HB := HB.trans (hB.mono (Nat.le_trans hBu hX7))
              replace hS := hS.trans (hB.mono hX7)
              replace N0 := N0.blk X7 (no_ints1 _ _ _) hw
              replace N1 := N1.blk X7 (no_ints1 _ _ _) hw
              replace X0 := X0.blk X7 (no_ints1 _ _ _) hw
              replace X1 := X1.blk X7 (no_ints1 _ _ _) hw
              replace P0 := P0.off (by omega) hw
              replace P1 := P1.off (by omega) hw
              replace X8 := X8.off nX8X7 hw
              replace X7 := Y
              clear hB hw
              refine rg_ready [11] (by kernel_rfl) (by simp) ?_
              refine ar_store 11 46 46 8 30 (u2.drew.heap.size) [.slice none 0 0] [.slice ay len1 dy] (by kernel_rfl) (by kernel_rfl) (by kernel_rfl) (by kernel_rfl) X8 (by kernel_rfl) rfl (by kernel_rfl) ?_ ?_
              · intro v5x116 Y hw hB
                refine ⟨hS.trans (hB.mono hX8), ?_⟩
                replace HB := HB.trans (hB.mono (Nat.le_trans hBu hX8))
                replace hS := hS.trans (hB.mono hX8)
                replace N0 := N0.blk X8 (no_ints1 _ _ _) hw
                replace N1 := N1.blk X8 (no_ints1 _ _ _) hw
                replace X0 := X0.blk X8 (no_ints1 _ _ _) hw
                replace X1 := X1.blk X8 (no_ints1 _ _ _) hw
                replace P0 := P0.off (by omega) hw
                replace P1 := P1.off (by omega) hw
                replace X7 := X7.off (Ne.symm nX8X7) hw
                replace X8 := Y
                clear hB hw
                refine rg_done (by kernel_rfl) ?_
                exact ⟨(v5x102.heap.size, u2.drew.heap.size, ax, dx, ay, dy), by kernel_rfl, X7, X8, hX7, hX8, X0, X1, N0, N1, P0, P1, HB⟩
              exact ar_nil
            exact ar_nil
          exact ar_nil
        exact ar_nil
      exact ar_nil
    exact ar_nil
  · rintro ⟨g7, g8, ax, dx, ay, dy⟩ m1w ⟨XA, XB, hnXA, hnXB, X0, X1, N0', N1', P0', P1', HBn⟩
    replace N0 := N0'
    clear N0'
    replace N1 := N1'
    clear N1'
    replace P0 := P0'
    clear P0'
    replace P1 := P1'
    clear P1'
    replace HB := HBn
    clear HBn
    try simp only [putAll, Act.put, List.setIfInBounds_toArray, List.set_cons_zero, List.set_cons_succ]
    clear hnil0 hnil1
    go_wp2_with fail
    obtain ⟨u, hu⟩ : ∃ u, u = m1w := ⟨_, rfl⟩
    subst hu
    go_loopw [9] (fun tn wr => ∃ k : Nat, k ≤ 2 ∧ tn = .int .i64 k ∧ Below u.heap.size u wr) (fun tn _ => 2 - (intOf tn).toNat)
    case atStart => exact ⟨0, by omega, rfl, Below.refl _ _⟩
    case round =>
      obtain ⟨k, hk, rfl, HU⟩ := hrel
      have N0u := N0
      replace N0 := N0.keep HU
      have N1u := N1
      replace N1 := N1.keep HU
      have P0u := P0
      replace P0 := P0.keep HU
      have P1u := P1
      replace P1 := P1.keep HU
      have XAu := XA
      replace XA := XA.keep HU
      have XBu := XB
      replace XB := XB.keep HU
      have X0u := X0
      replace X0 := X0.keep HU
      have X1u := X1
      replace X1 := X1.keep HU
      have HB0 := (show Hid _ from HB)
      clear HB
      have HB := HU
      clear HU
      have hz0 := HB.size
      by_cases hk2 : k < 2
      rotate_left
      · obtain rfl : k = 2 := by omega
        go_wp2
        go_ret
        exact ⟨rfl, joinB HB0.out HB⟩
      have lP0u := P0u.lt
      have lP1u := P1u.lt
      have lXAu := XAu.lt
      have lXBu := XBu.lt
      have c1P0 := P0.slot.cell
      have c1P1 := P1.slot.cell
      have c1XA := XA.slot.cell
      have c1XB := XB.slot.cell
      go_wp2_with fail
      clear c1P0 c1P1 c1XA c1XB
      refine rg_mid (X := Nat × Nat × Option Addr × Nat × Nat × Option Addr × Nat × Nat) (fun ⟨g10, g11, As, Ns, Cs, At, Nt, Ct⟩ => [(some 35, .agg #[.slice ax len0 dx]), (some 36, .agg #[.slice ay len1 dy]), (some 37, .agg #[.slice As Ns Cs]), (some 38, .agg #[.slice ax len0 dx]), (some 39, .int .u64 y2), (some 40, .agg #[.slice At Nt Ct]), (some 10, .pointer (some ⟨g10, 0, none⟩)), (some 11, .pointer (some ⟨g11, 0, none⟩))]) (fun ⟨g10, g11, As, Ns, Cs, At, Nt, Ct⟩ w' => Box w' g10 [.slice As Ns Cs] 46 ∧ Box w' g11 [.slice At Nt Ct] 46 ∧ wr.heap.size ≤ g10 ∧ wr.heap.size ≤ g11 ∧ (NatO w' As Ns Cs (val l0 + val l1) ∧ WdU w' u.heap.size As Ns Cs ∧ Ns ≤ len0 + len1 + 1) ∧ (NatO w' At Nt Ct (val l0 * y2) ∧ WdU w' u.heap.size At Nt Ct ∧ Nt ≤ len0 + 1) ∧ LimA w' a0 len0 cap0 l0 ∧ LimA w' a1 len1 cap1 l1 ∧ Box w' (w.heap.size) [.slice a0 len0 cap0] 46 ∧ Box w' (w.heap.size + 1) [.slice a1 len1 cap1] 46 ∧ Box w' (g7) [.slice ax len0 dx] 46 ∧ Box w' (g8) [.slice ay len1 dy] 46 ∧ LimA w' ax len0 dx l0 ∧ LimA w' ay len1 dy l1 ∧ Below u.heap.size u w') (fun w' => Below wr.drew.heap.size wr.drew w') (by kernel_rfl) (Below.refl _ _) ?_ ?_
      · replace N0 := N0.drew
        replace N1 := N1.drew
        replace P0 := P0.drew
        replace P1 := P1.drew
        replace XA := XA.drew
        replace XB := XB.drew
        replace X0 := X0.drew
        replace X1 := X1.drew
        replace HB := HB.drew
        have hBu := HB.size
        have UP0 := P0
        have hP0u := P0.lt
        have UP1 := P1
        have hP1u := P1.lt
        have UXA := XA
        have hXAu := XA.lt
        have UXB := XB
        have hXBu := XB.lt
        have hS := Below.refl wr.drew.heap.size wr.drew
        refine rg_load 0 (some 35) (.agg #[.slice ax len0 dx]) 46 7 (g7) 0 (by kernel_rfl) (by kernel_rfl) (by kernel_rfl) (fun _ hb => load_dec ((UXA.keep hb).slot)) (fun _ _ _ h => h) hS ?_
        refine rg_load 1 (some 36) (.agg #[.slice ay len1 dy]) 46 8 (g8) 0 (by kernel_rfl) (by kernel_rfl) (by kernel_rfl) (fun _ hb => load_dec ((UXB.keep hb).slot)) (fun _ _ _ h => h) hS ?_
        refine rg_load 3 (some 38) (.agg #[.slice ax len0 dx]) 46 7 (g7) 0 (by kernel_rfl) (by kernel_rfl) (by kernel_rfl) (fun _ hb => load_dec ((UXA.keep hb).slot)) (fun _ _ _ h => h) hS ?_
        refine rg_take 4 (some 39) (.int .u64 y2) (by kernel_rfl) (fun _ _ => by kernel_rfl) (fun _ _ _ h => h) hS ?_
        refine rg_ready [2, 6, 7] (by kernel_rfl) (by simp) ?_
        refine ar_call 2 (some 37) 31 #[.agg #[.slice ax len0 dx], .agg #[.slice ay len1 dy]] (by kernel_rfl) (by kernel_rfl) (dAddW (U := u.heap.size) HB.size X0.a X1.a (by omega) (by omega)) ?_ ?_
        · rintro e v9x175 ⟨As, Ns, Cs, rfl, Os, Ws, hks, hB⟩
          refine ⟨_, rfl, joinB hS hB, ?_⟩
          replace hS := joinB hS hB
          replace HB := joinB HB hB
          replace N0 := N0.keep hB
          replace N1 := N1.keep hB
          replace X0 := X0.keep hB
          replace X1 := X1.keep hB
          replace P0 := P0.keep hB
          replace P1 := P1.keep hB
          replace XA := XA.keep hB
          replace XB := XB.keep hB
          clear hB
          refine rg_ready [5, 6, 7] (by kernel_rfl) (by simp) ?_
          refine ar_call 5 (some 40) 55 #[.agg #[.slice ax len0 dx], .int .u64 y2] (by kernel_rfl) (by kernel_rfl) (dTimesW (U := u.heap.size) HB.size X0.a (by omega) (by omega) (by omega)) ?_ ?_
          · rintro e v9x176 ⟨At, Nt, Ct, rfl, Ot, Wt, hkt, hB⟩
            refine ⟨_, rfl, joinB hS hB, ?_⟩
            replace hS := joinB hS hB
            replace HB := joinB HB hB
            replace N0 := N0.keep hB
            replace N1 := N1.keep hB
            replace X0 := X0.keep hB
            replace X1 := X1.keep hB
            replace Os := Os.keep hB
            replace Ws := Ws.keep hB
            replace P0 := P0.keep hB
            replace P1 := P1.keep hB
            replace XA := XA.keep hB
            replace XB := XB.keep hB
            clear hB
            refine rg_ready [6, 7] (by kernel_rfl) (by simp) ?_
            refine ar_alloc 6 (some 10) 46 [.slice none 0 0] (by kernel_rfl) (by kernel_rfl) ?_ ?_
            · intro v9x177 X10 hB
              refine ⟨joinB hS hB, ?_⟩
              have hX10 := hS.size
              replace hS := joinB hS hB
              replace HB := joinB HB hB
              replace N0 := N0.keep hB
              replace N1 := N1.keep hB
              replace X0 := X0.keep hB
              replace X1 := X1.keep hB
              replace Os := Os.keep hB
              replace Ws := Ws.keep hB
              replace Ot := Ot.keep hB
              replace Wt := Wt.keep hB
              replace P0 := P0.keep hB
              replace P1 := P1.keep hB
              replace XA := XA.keep hB
              replace XB := XB.keep hB
              clear hB
              refine rg_ready [7] (by kernel_rfl) (by simp) ?_
              refine ar_alloc 7 (some 11) 46 [.slice none 0 0] (by kernel_rfl) (by kernel_rfl) ?_ ?_
              · intro v9x178 X11 hB
                refine ⟨joinB hS hB, ?_⟩
                have hX11 := hS.size
                replace hS := joinB hS hB
                replace HB := joinB HB hB
                have nX10X11 := Nat.ne_of_lt X10.lt
                replace N0 := N0.keep hB
                replace N1 := N1.keep hB
                replace X0 := X0.keep hB
                replace X1 := X1.keep hB
                replace Os := Os.keep hB
                replace Ws := Ws.keep hB
                replace Ot := Ot.keep hB
                replace Wt := Wt.keep hB
                replace P0 := P0.keep hB
                replace P1 := P1.keep hB
                replace XA := XA.keep hB
                replace XB := XB.keep hB
                replace X10 := X10.keep hB
                clear hB
                refine rg_ready [8] (by kernel_rfl) (by simp) ?_
                refine ar_store 8 46 46 10 37 (v9x176.heap.size) [.slice none 0 0] [.slice As Ns Cs] (by kernel_rfl) (by kernel_rfl) (by kernel_rfl) (by kernel_rfl) X10 (by kernel_rfl) rfl (by kernel_rfl) ?_ ?_
                · intro v9x179 Y hw hB
                  refine ⟨hS.trans (hB.mono hX10), ?_⟩
                  replace HB := HB.trans (hB.mono (Nat.le_trans hBu hX10))
                  replace hS := hS.trans (hB.mono hX10)
                  replace N0 := N0.blk X10 (no_ints1 _ _ _) hw
                  replace N1 := N1.blk X10 (no_ints1 _ _ _) hw
                  replace X0 := X0.blk X10 (no_ints1 _ _ _) hw
                  replace X1 := X1.blk X10 (no_ints1 _ _ _) hw
                  replace Os := Os.blk X10 (no_ints1 _ _ _) hw
                  replace Ws := Ws.blk X10 (no_ints1 _ _ _) hw
                  replace Ot := Ot.blk X10 (no_ints1 _ _ _) hw
                  replace Wt := Wt.blk X10 (no_ints1 _ _ _) hw
                  replace P0 := P0.off (by omega) hw
                  replace P1 := P1.off (by omega) hw
                  replace XA := XA.off (by omega) hw
                  replace XB := XB.off (by omega) hw
                  replace X11 := X11.off (Ne.symm nX10X11) hw
                  replace X10 := Y
                  clear hB hw
                  refine rg_ready [9] (by kernel_rfl) (by simp) ?_
                  refine ar_store 9 46 46 11 40 (v9x177.heap.size) [.slice none 0 0] [.slice At Nt Ct] (by kernel_rfl) (by kernel_rfl) (by kernel_rfl) (by kernel_rfl) X11 (by kernel_rfl) rfl (by kernel_rfl) ?_ ?_
                  · intro v9x180 Y hw hB
                    refine ⟨hS.trans (hB.mono hX11), ?_⟩
                    replace HB := HB.trans (hB.mono (Nat.le_trans hBu hX11))
                    replace hS := hS.trans (hB.mono hX11)
                    replace N0 := N0.blk X11 (no_ints1 _ _ _) hw
                    replace N1 := N1.blk X11 (no_ints1 _ _ _) hw
                    replace X0 := X0.blk X11 (no_ints1 _ _ _) hw
                    replace X1 := X1.blk X11 (no_ints1 _ _ _) hw
                    replace Os := Os.blk X11 (no_ints1 _ _ _) hw
                    replace Ws := Ws.blk X11 (no_ints1 _ _ _) hw
                    replace Ot := Ot.blk X11 (no_ints1 _ _ _) hw
                    replace Wt := Wt.blk X11 (no_ints1 _ _ _) hw
                    replace P0 := P0.off (by omega) hw
                    replace P1 := P1.off (by omega) hw
                    replace XA := XA.off (by omega) hw
                    replace XB := XB.off (by omega) hw
                    replace X10 := X10.off nX10X11 hw
                    replace X11 := Y
                    clear hB hw
                    refine rg_done (by kernel_rfl) ?_
                    exact ⟨(v9x176.heap.size, v9x177.heap.size, As, Ns, Cs, At, Nt, Ct), by kernel_rfl, X10, X11, hX10, hX11, ⟨Os, Ws, hks⟩, ⟨Ot, Wt, hkt⟩, N0, N1, P0, P1, XA, XB, X0, X1, HB⟩
                  exact ar_nil
                exact ar_nil
              exact ar_nil
            refine ar_alloc 7 (some 11) 46 [.slice none 0 0] (by kernel_rfl) (by kernel_rfl) ?_ ?_
            · intro v9x181 X11 hB
              refine ⟨joinB hS hB, ?_⟩
              have hX11 := hS.size
              replace hS := joinB hS hB
              replace HB := joinB HB hB
              replace N0 := N0.keep hB
              replace N1 := N1.keep hB
              replace X0 := X0.keep hB
              replace X1 := X1.keep hB
              replace Os := Os.keep hB
              replace Ws := Ws.keep hB
              replace Ot := Ot.keep hB
              replace Wt := Wt.keep hB
              replace P0 := P0.keep hB
              replace P1 := P1.keep hB
              replace XA := XA.keep hB
              replace XB := XB.keep hB
              clear hB
              refine rg_ready [6] (by kernel_rfl) (by simp) ?_
              refine ar_alloc 6 (some 10) 46 [.slice none 0 0] (by kernel_rfl) (by kernel_rfl) ?_ ?_
              · intro v9x182 X10 hB
                refine ⟨joinB hS hB, ?_⟩
                have hX10 := hS.size
                replace hS := joinB hS hB
                replace HB := joinB HB hB
                have nX11X10 := Nat.ne_of_lt X11.lt
                replace N0 := N0.keep hB
                replace N1 := N1.keep hB
                replace X0 := X0.keep hB
                replace X1 := X1.keep hB
                replace Os := Os.keep hB
                replace Ws := Ws.keep hB
                replace Ot := Ot.keep hB
                replace Wt := Wt.keep hB
                replace P0 := P0.keep hB
                replace P1 := P1.keep hB
                replace XA := XA.keep hB
                replace XB := XB.keep hB
                replace X11 := X11.keep hB
                clear hB
                refine rg_ready [8] (by kernel_rfl) (by simp) ?_
                refine ar_store 8 46 46 10 37 (v9x181.heap.size) [.slice none 0 0] [.slice As Ns Cs] (by kernel_rfl) (by kernel_rfl) (by kernel_rfl) (by kernel_rfl) X10 (by kernel_rfl) rfl (by kernel_rfl) ?_ ?_
                · intro v9x183 Y hw hB
                  refine ⟨hS.trans (hB.mono hX10), ?_⟩
                  replace HB := HB.trans (hB.mono (Nat.le_trans hBu hX10))
                  replace hS := hS.trans (hB.mono hX10)
                  replace N0 := N0.blk X10 (no_ints1 _ _ _) hw
                  replace N1 := N1.blk X10 (no_ints1 _ _ _) hw
                  replace X0 := X0.blk X10 (no_ints1 _ _ _) hw
                  replace X1 := X1.blk X10 (no_ints1 _ _ _) hw
                  replace Os := Os.blk X10 (no_ints1 _ _ _) hw
                  replace Ws := Ws.blk X10 (no_ints1 _ _ _) hw
                  replace Ot := Ot.blk X10 (no_ints1 _ _ _) hw
                  replace Wt := Wt.blk X10 (no_ints1 _ _ _) hw
                  replace P0 := P0.off (by omega) hw
                  replace P1 := P1.off (by omega) hw
                  replace XA := XA.off (by omega) hw
                  replace XB := XB.off (by omega) hw
                  replace X11 := X11.off nX11X10 hw
                  replace X10 := Y
                  clear hB hw
                  refine rg_ready [9] (by kernel_rfl) (by simp) ?_
                  refine ar_store 9 46 46 11 40 (v9x176.heap.size) [.slice none 0 0] [.slice At Nt Ct] (by kernel_rfl) (by kernel_rfl) (by kernel_rfl) (by kernel_rfl) X11 (by kernel_rfl) rfl (by kernel_rfl) ?_ ?_
                  · intro v9x184 Y hw hB
                    refine ⟨hS.trans (hB.mono hX11), ?_⟩
                    replace HB := HB.trans (hB.mono (Nat.le_trans hBu hX11))
                    replace hS := hS.trans (hB.mono hX11)
                    replace N0 := N0.blk X11 (no_ints1 _ _ _) hw
                    replace N1 := N1.blk X11 (no_ints1 _ _ _) hw
                    replace X0 := X0.blk X11 (no_ints1 _ _ _) hw
                    replace X1 := X1.blk X11 (no_ints1 _ _ _) hw
                    replace Os := Os.blk X11 (no_ints1 _ _ _) hw
                    replace Ws := Ws.blk X11 (no_ints1 _ _ _) hw
                    replace Ot := Ot.blk X11 (no_ints1 _ _ _) hw
                    replace Wt := Wt.blk X11 (no_ints1 _ _ _) hw
                    replace P0 := P0.off (by omega) hw
                    replace P1 := P1.off (by omega) hw
                    replace XA := XA.off (by omega) hw
                    replace XB := XB.off (by omega) hw
                    replace X10 := X10.off (Ne.symm nX11X10) hw
                    replace X11 := Y
                    clear hB hw
                    refine rg_done (by kernel_rfl) ?_
                    exact ⟨(v9x181.heap.size, v9x176.heap.size, As, Ns, Cs, At, Nt, Ct), by kernel_rfl, X10, X11, hX10, hX11, ⟨Os, Ws, hks⟩, ⟨Ot, Wt, hkt⟩, N0, N1, P0, P1, XA, XB, X0, X1, HB⟩
                  exact ar_nil
                exact ar_nil
              exact ar_nil
            exact ar_nil
          refine ar_alloc 6 (some 10) 46 [.slice none 0 0] (by kernel_rfl) (by kernel_rfl) ?_ ?_
          · intro v9x185 X10 hB
            refine ⟨joinB hS hB, ?_⟩
            have hX10 := hS.size
            replace hS := joinB hS hB
            replace HB := joinB HB hB
            replace N0 := N0.keep hB
            replace N1 := N1.keep hB
            replace X0 := X0.keep hB
            replace X1 := X1.keep hB
            replace Os := Os.keep hB
            replace Ws := Ws.keep hB
            replace P0 := P0.keep hB
            replace P1 := P1.keep hB
            replace XA := XA.keep hB
            replace XB := XB.keep hB
            clear hB
            refine rg_ready [5, 7] (by kernel_rfl) (by simp) ?_
            refine ar_call 5 (some 40) 55 #[.agg #[.slice ax len0 dx], .int .u64 y2] (by kernel_rfl) (by kernel_rfl) (dTimesW (U := u.heap.size) HB.size X0.a (by omega) (by omega) (by omega)) ?_ ?_
            · rintro e v9x186 ⟨At, Nt, Ct, rfl, Ot, Wt, hkt, hB⟩
              refine ⟨_, rfl, joinB hS hB, ?_⟩
              replace hS := joinB hS hB
              replace HB := joinB HB hB
              replace N0 := N0.keep hB
              replace N1 := N1.keep hB
              replace X0 := X0.keep hB
              replace X1 := X1.keep hB
              replace Os := Os.keep hB
              replace Ws := Ws.keep hB
              replace P0 := P0.keep hB
              replace P1 := P1.keep hB
              replace XA := XA.keep hB
              replace XB := XB.keep hB
              replace X10 := X10.keep hB
              clear hB
              refine rg_ready [7] (by kernel_rfl) (by simp) ?_
              refine ar_alloc 7 (some 11) 46 [.slice none 0 0] (by kernel_rfl) (by kernel_rfl) ?_ ?_
              · intro v9x187 X11 hB
                refine ⟨joinB hS hB, ?_⟩
                have hX11 := hS.size
                replace hS := joinB hS hB
                replace HB := joinB HB hB
                have nX10X11 := Nat.ne_of_lt X10.lt
                replace N0 := N0.keep hB
                replace N1 := N1.keep hB
                replace X0 := X0.keep hB
                replace X1 := X1.keep hB
                replace Os := Os.keep hB
                replace Ws := Ws.keep hB
                replace Ot := Ot.keep hB
                replace Wt := Wt.keep hB
                replace P0 := P0.keep hB
                replace P1 := P1.keep hB
                replace XA := XA.keep hB
                replace XB := XB.keep hB
                replace X10 := X10.keep hB
                clear hB
                refine rg_ready [8] (by kernel_rfl) (by simp) ?_
                refine ar_store 8 46 46 10 37 (v9x175.heap.size) [.slice none 0 0] [.slice As Ns Cs] (by kernel_rfl) (by kernel_rfl) (by kernel_rfl) (by kernel_rfl) X10 (by kernel_rfl) rfl (by kernel_rfl) ?_ ?_
                · intro v9x188 Y hw hB
                  refine ⟨hS.trans (hB.mono hX10), ?_⟩
                  replace HB := HB.trans (hB.mono (Nat.le_trans hBu hX10))
                  replace hS := hS.trans (hB.mono hX10)
                  replace N0 := N0.blk X10 (no_ints1 _ _ _) hw
                  replace N1 := N1.blk X10 (no_ints1 _ _ _) hw
                  replace X0 := X0.blk X10 (no_ints1 _ _ _) hw
                  replace X1 := X1.blk X10 (no_ints1 _ _ _) hw
                  replace Os := Os.blk X10 (no_ints1 _ _ _) hw
                  replace Ws := Ws.blk X10 (no_ints1 _ _ _) hw
                  replace Ot := Ot.blk X10 (no_ints1 _ _ _) hw
                  replace Wt := Wt.blk X10 (no_ints1 _ _ _) hw
                  replace P0 := P0.off (by omega) hw
                  replace P1 := P1.off (by omega) hw
                  replace XA := XA.off (by omega) hw
                  replace XB := XB.off (by omega) hw
                  replace X11 := X11.off (Ne.symm nX10X11) hw
                  replace X10 := Y
                  clear hB hw
                  refine rg_ready [9] (by kernel_rfl) (by simp) ?_
                  refine ar_store 9 46 46 11 40 (v9x186.heap.size) [.slice none 0 0] [.slice At Nt Ct] (by kernel_rfl) (by kernel_rfl) (by kernel_rfl) (by kernel_rfl) X11 (by kernel_rfl) rfl (by kernel_rfl) ?_ ?_
                  · intro v9x189 Y hw hB
                    refine ⟨hS.trans (hB.mono hX11), ?_⟩
                    replace HB := HB.trans (hB.mono (Nat.le_trans hBu hX11))
                    replace hS := hS.trans (hB.mono hX11)
                    replace N0 := N0.blk X11 (no_ints1 _ _ _) hw
                    replace N1 := N1.blk X11 (no_ints1 _ _ _) hw
                    replace X0 := X0.blk X11 (no_ints1 _ _ _) hw
                    replace X1 := X1.blk X11 (no_ints1 _ _ _) hw
                    replace Os := Os.blk X11 (no_ints1 _ _ _) hw
                    replace Ws := Ws.blk X11 (no_ints1 _ _ _) hw
                    replace Ot := Ot.blk X11 (no_ints1 _ _ _) hw
                    replace Wt := Wt.blk X11 (no_ints1 _ _ _) hw
                    replace P0 := P0.off (by omega) hw
                    replace P1 := P1.off (by omega) hw
                    replace XA := XA.off (by omega) hw
                    replace XB := XB.off (by omega) hw
                    replace X10 := X10.off nX10X11 hw
                    replace X11 := Y
                    clear hB hw
                    refine rg_done (by kernel_rfl) ?_
                    exact ⟨(v9x175.heap.size, v9x186.heap.size, As, Ns, Cs, At, Nt, Ct), by kernel_rfl, X10, X11, hX10, hX11, ⟨Os, Ws, hks⟩, ⟨Ot, Wt, hkt⟩, N0, N1, P0, P1, XA, XB, X0, X1, HB⟩
                  exact ar_nil
                exact ar_nil
              exact ar_nil
            refine ar_alloc 7 (some 11) 46 [.slice none 0 0] (by kernel_rfl) (by kernel_rfl) ?_ ?_
            · intro v9x190 X11 hB
              refine ⟨joinB hS hB, ?_⟩
              have hX11 := hS.size
              replace hS := joinB hS hB
              replace HB := joinB HB hB
              have nX10X11 := Nat.ne_of_lt X10.lt
              replace N0 := N0.keep hB
              replace N1 := N1.keep hB
              replace X0 := X0.keep hB
              replace X1 := X1.keep hB
              replace Os := Os.keep hB
              replace Ws := Ws.keep hB
              replace P0 := P0.keep hB
              replace P1 := P1.keep hB
              replace XA := XA.keep hB
              replace XB := XB.keep hB
              replace X10 := X10.keep hB
              clear hB
              refine rg_ready [5] (by kernel_rfl) (by simp) ?_
              refine ar_call 5 (some 40) 55 #[.agg #[.slice ax len0 dx], .int .u64 y2] (by kernel_rfl) (by kernel_rfl) (dTimesW (U := u.heap.size) HB.size X0.a (by omega) (by omega) (by omega)) ?_ ?_
              · rintro e v9x191 ⟨At, Nt, Ct, rfl, Ot, Wt, hkt, hB⟩
                refine ⟨_, rfl, joinB hS hB, ?_⟩
                replace hS := joinB hS hB
                replace HB := joinB HB hB
                replace N0 := N0.keep hB
                replace N1 := N1.keep hB
                replace X0 := X0.keep hB
                replace X1 := X1.keep hB
                replace Os := Os.keep hB
                replace Ws := Ws.keep hB
                replace P0 := P0.keep hB
                replace P1 := P1.keep hB
                replace XA := XA.keep hB
                replace XB := XB.keep hB
                replace X10 := X10.keep hB
                replace X11 := X11.keep hB
                clear hB
                refine rg_ready [8] (by kernel_rfl) (by simp) ?_
                refine ar_store 8 46 46 10 37 (v9x175.heap.size) [.slice none 0 0] [.slice As Ns Cs] (by kernel_rfl) (by kernel_rfl) (by kernel_rfl) (by kernel_rfl) X10 (by kernel_rfl) rfl (by kernel_rfl) ?_ ?_
                · intro v9x192 Y hw hB
                  refine ⟨hS.trans (hB.mono hX10), ?_⟩
                  replace HB := HB.trans (hB.mono (Nat.le_trans hBu hX10))
                  replace hS := hS.trans (hB.mono hX10)
                  replace N0 := N0.blk X10 (no_ints1 _ _ _) hw
                  replace N1 := N1.blk X10 (no_ints1 _ _ _) hw
                  replace X0 := X0.blk X10 (no_ints1 _ _ _) hw
                  replace X1 := X1.blk X10 (no_ints1 _ _ _) hw
                  replace Os := Os.blk X10 (no_ints1 _ _ _) hw
                  replace Ws := Ws.blk X10 (no_ints1 _ _ _) hw
                  replace Ot := Ot.blk X10 (no_ints1 _ _ _) hw
                  replace Wt := Wt.blk X10 (no_ints1 _ _ _) hw
                  replace P0 := P0.off (by omega) hw
                  replace P1 := P1.off (by omega) hw
                  replace XA := XA.off (by omega) hw
                  replace XB := XB.off (by omega) hw
                  replace X11 := X11.off (Ne.symm nX10X11) hw
                  replace X10 := Y
                  clear hB hw
                  refine rg_ready [9] (by kernel_rfl) (by simp) ?_
                  refine ar_store 9 46 46 11 40 (v9x185.heap.size) [.slice none 0 0] [.slice At Nt Ct] (by kernel_rfl) (by kernel_rfl) (by kernel_rfl) (by kernel_rfl) X11 (by kernel_rfl) rfl (by kernel_rfl) ?_ ?_
                  · intro v9x193 Y hw hB
                    refine ⟨hS.trans (hB.mono hX11), ?_⟩
                    replace HB := HB.trans (hB.mono (Nat.le_trans hBu hX11))
                    replace hS := hS.trans (hB.mono hX11)
                    replace N0 := N0.blk X11 (no_ints1 _ _ _) hw
                    replace N1 := N1.blk X11 (no_ints1 _ _ _) hw
                    replace X0 := X0.blk X11 (no_ints1 _ _ _) hw
                    replace X1 := X1.blk X11 (no_ints1 _ _ _) hw
                    replace Os := Os.blk X11 (no_ints1 _ _ _) hw
                    replace Ws := Ws.blk X11 (no_ints1 _ _ _) hw
                    replace Ot := Ot.blk X11 (no_ints1 _ _ _) hw
                    replace Wt := Wt.blk X11 (no_ints1 _ _ _) hw
                    replace P0 := P0.off (by omega) hw
                    replace P1 := P1.off (by omega) hw
                    replace XA := XA.off (by omega) hw
                    replace XB := XB.off (by omega) hw
                    replace X10 := X10.off nX10X11 hw
                    replace X11 := Y
                    clear hB hw
                    refine rg_done (by kernel_rfl) ?_
                    exact ⟨(v9x175.heap.size, v9x185.heap.size, As, Ns, Cs, At, Nt, Ct), by kernel_rfl, X10, X11, hX10, hX11, ⟨Os, Ws, hks⟩, ⟨Ot, Wt, hkt⟩, N0, N1, P0, P1, XA, XB, X0, X1, HB⟩
                  exact ar_nil
                exact ar_nil
              exact ar_nil
            exact ar_nil
          refine ar_alloc 7 (some 11) 46 [.slice none 0 0] (by kernel_rfl) (by kernel_rfl) ?_ ?_
          · intro v9x194 X11 hB
            refine ⟨joinB hS hB, ?_⟩
            have hX11 := hS.size
            replace hS := joinB hS hB
            replace HB := joinB HB hB
            replace N0 := N0.keep hB
            replace N1 := N1.keep hB
            replace X0 := X0.keep hB
            replace X1 := X1.keep hB
            replace Os := Os.keep hB
            replace Ws := Ws.keep hB
            replace P0 := P0.keep hB
            replace P1 := P1.keep hB
            replace XA := XA.keep hB
            replace XB := XB.keep hB
            clear hB
            refine rg_ready [5, 6] (by kernel_rfl) (by simp) ?_
            refine ar_call 5 (some 40) 55 #[.agg #[.slice ax len0 dx], .int .u64 y2] (by kernel_rfl) (by kernel_rfl) (dTimesW (U := u.heap.size) HB.size X0.a (by omega) (by omega) (by omega)) ?_ ?_
            · rintro e v9x195 ⟨At, Nt, Ct, rfl, Ot, Wt, hkt, hB⟩
              refine ⟨_, rfl, joinB hS hB, ?_⟩
              replace hS := joinB hS hB
              replace HB := joinB HB hB
              replace N0 := N0.keep hB
              replace N1 := N1.keep hB
              replace X0 := X0.keep hB
              replace X1 := X1.keep hB
              replace Os := Os.keep hB
              replace Ws := Ws.keep hB
              replace P0 := P0.keep hB
              replace P1 := P1.keep hB
              replace XA := XA.keep hB
              replace XB := XB.keep hB
              replace X11 := X11.keep hB
              clear hB
              refine rg_ready [6] (by kernel_rfl) (by simp) ?_
              refine ar_alloc 6 (some 10) 46 [.slice none 0 0] (by kernel_rfl) (by kernel_rfl) ?_ ?_
              · intro v9x196 X10 hB
                refine ⟨joinB hS hB, ?_⟩
                have hX10 := hS.size
                replace hS := joinB hS hB
                replace HB := joinB HB hB
                have nX11X10 := Nat.ne_of_lt X11.lt
                replace N0 := N0.keep hB
                replace N1 := N1.keep hB
                replace X0 := X0.keep hB
                replace X1 := X1.keep hB
                replace Os := Os.keep hB
                replace Ws := Ws.keep hB
                replace Ot := Ot.keep hB
                replace Wt := Wt.keep hB
                replace P0 := P0.keep hB
                replace P1 := P1.keep hB
                replace XA := XA.keep hB
                replace XB := XB.keep hB
                replace X11 := X11.keep hB
                clear hB
                refine rg_ready [8] (by kernel_rfl) (by simp) ?_
                refine ar_store 8 46 46 10 37 (v9x195.heap.size) [.slice none 0 0] [.slice As Ns Cs] (by kernel_rfl) (by kernel_rfl) (by kernel_rfl) (by kernel_rfl) X10 (by kernel_rfl) rfl (by kernel_rfl) ?_ ?_
                · intro v9x197 Y hw hB
                  refine ⟨hS.trans (hB.mono hX10), ?_⟩
                  replace HB := HB.trans (hB.mono (Nat.le_trans hBu hX10))
                  replace hS := hS.trans (hB.mono hX10)
                  replace N0 := N0.blk X10 (no_ints1 _ _ _) hw
                  replace N1 := N1.blk X10 (no_ints1 _ _ _) hw
                  replace X0 := X0.blk X10 (no_ints1 _ _ _) hw
                  replace X1 := X1.blk X10 (no_ints1 _ _ _) hw
                  replace Os := Os.blk X10 (no_ints1 _ _ _) hw
                  replace Ws := Ws.blk X10 (no_ints1 _ _ _) hw
                  replace Ot := Ot.blk X10 (no_ints1 _ _ _) hw
                  replace Wt := Wt.blk X10 (no_ints1 _ _ _) hw
                  replace P0 := P0.off (by omega) hw
                  replace P1 := P1.off (by omega) hw
                  replace XA := XA.off (by omega) hw
                  replace XB := XB.off (by omega) hw
                  replace X11 := X11.off nX11X10 hw
                  replace X10 := Y
                  clear hB hw
                  refine rg_ready [9] (by kernel_rfl) (by simp) ?_
                  refine ar_store 9 46 46 11 40 (v9x175.heap.size) [.slice none 0 0] [.slice At Nt Ct] (by kernel_rfl) (by kernel_rfl) (by kernel_rfl) (by kernel_rfl) X11 (by kernel_rfl) rfl (by kernel_rfl) ?_ ?_
                  · intro v9x198 Y hw hB
                    refine ⟨hS.trans (hB.mono hX11), ?_⟩
                    replace HB := HB.trans (hB.mono (Nat.le_trans hBu hX11))
                    replace hS := hS.trans (hB.mono hX11)
                    replace N0 := N0.blk X11 (no_ints1 _ _ _) hw
                    replace N1 := N1.blk X11 (no_ints1 _ _ _) hw
                    replace X0 := X0.blk X11 (no_ints1 _ _ _) hw
                    replace X1 := X1.blk X11 (no_ints1 _ _ _) hw
                    replace Os := Os.blk X11 (no_ints1 _ _ _) hw
                    replace Ws := Ws.blk X11 (no_ints1 _ _ _) hw
                    replace Ot := Ot.blk X11 (no_ints1 _ _ _) hw
                    replace Wt := Wt.blk X11 (no_ints1 _ _ _) hw
                    replace P0 := P0.off (by omega) hw
                    replace P1 := P1.off (by omega) hw
                    replace XA := XA.off (by omega) hw
                    replace XB := XB.off (by omega) hw
                    replace X10 := X10.off (Ne.symm nX11X10) hw
                    replace X11 := Y
                    clear hB hw
                    refine rg_done (by kernel_rfl) ?_
                    exact ⟨(v9x195.heap.size, v9x175.heap.size, As, Ns, Cs, At, Nt, Ct), by kernel_rfl, X10, X11, hX10, hX11, ⟨Os, Ws, hks⟩, ⟨Ot, Wt, hkt⟩, N0, N1, P0, P1, XA, XB, X0, X1, HB⟩
                  exact ar_nil
                exact ar_nil
              exact ar_nil
            refine ar_alloc 6 (some 10) 46 [.slice none 0 0] (by kernel_rfl) (by kernel_rfl) ?_ ?_
            · intro v9x199 X10 hB
              refine ⟨joinB hS hB, ?_⟩
              have hX10 := hS.size
              replace hS := joinB hS hB
              replace HB := joinB HB hB
              have nX11X10 := Nat.ne_of_lt X11.lt
              replace N0 := N0.keep hB
              replace N1 := N1.keep hB
              replace X0 := X0.keep hB
              replace X1 := X1.keep hB
              replace Os := Os.keep hB
              replace Ws := Ws.keep hB
              replace P0 := P0.keep hB
              replace P1 := P1.keep hB
              replace XA := XA.keep hB
              replace XB := XB.keep hB
              replace X11 := X11.keep hB
              clear hB
              refine rg_ready [5] (by kernel_rfl) (by simp) ?_
              refine ar_call 5 (some 40) 55 #[.agg #[.slice ax len0 dx], .int .u64 y2] (by kernel_rfl) (by kernel_rfl) (dTimesW (U := u.heap.size) HB.size X0.a (by omega) (by omega) (by omega)) ?_ ?_
              · rintro e v9x200 ⟨At, Nt, Ct, rfl, Ot, Wt, hkt, hB⟩
                refine ⟨_, rfl, joinB hS hB, ?_⟩
                replace hS := joinB hS hB
                replace HB := joinB HB hB
                replace N0 := N0.keep hB
                replace N1 := N1.keep hB
                replace X0 := X0.keep hB
                replace X1 := X1.keep hB
                replace Os := Os.keep hB
                replace Ws := Ws.keep hB
                replace P0 := P0.keep hB
                replace P1 := P1.keep hB
                replace XA := XA.keep hB
                replace XB := XB.keep hB
                replace X11 := X11.keep hB
                replace X10 := X10.keep hB
                clear hB
                refine rg_ready [8] (by kernel_rfl) (by simp) ?_
                refine ar_store 8 46 46 10 37 (v9x194.heap.size) [.slice none 0 0] [.slice As Ns Cs] (by kernel_rfl) (by kernel_rfl) (by kernel_rfl) (by kernel_rfl) X10 (by kernel_rfl) rfl (by kernel_rfl) ?_ ?_
                · intro v9x201 Y hw hB
                  refine ⟨hS.trans (hB.mono hX10), ?_⟩
                  replace HB := HB.trans (hB.mono (Nat.le_trans hBu hX10))
                  replace hS := hS.trans (hB.mono hX10)
                  replace N0 := N0.blk X10 (no_ints1 _ _ _) hw
                  replace N1 := N1.blk X10 (no_ints1 _ _ _) hw
                  replace X0 := X0.blk X10 (no_ints1 _ _ _) hw
                  replace X1 := X1.blk X10 (no_ints1 _ _ _) hw
                  replace Os := Os.blk X10 (no_ints1 _ _ _) hw
                  replace Ws := Ws.blk X10 (no_ints1 _ _ _) hw
                  replace Ot := Ot.blk X10 (no_ints1 _ _ _) hw
                  replace Wt := Wt.blk X10 (no_ints1 _ _ _) hw
                  replace P0 := P0.off (by omega) hw
                  replace P1 := P1.off (by omega) hw
                  replace XA := XA.off (by omega) hw
                  replace XB := XB.off (by omega) hw
                  replace X11 := X11.off nX11X10 hw
                  replace X10 := Y
                  clear hB hw
                  refine rg_ready [9] (by kernel_rfl) (by simp) ?_
                  refine ar_store 9 46 46 11 40 (v9x175.heap.size) [.slice none 0 0] [.slice At Nt Ct] (by kernel_rfl) (by kernel_rfl) (by kernel_rfl) (by kernel_rfl) X11 (by kernel_rfl) rfl (by kernel_rfl) ?_ ?_
                  · intro v9x202 Y hw hB
                    refine ⟨hS.trans (hB.mono hX11), ?_⟩
                    replace HB := HB.trans (hB.mono (Nat.le_trans hBu hX11))
                    replace hS := hS.trans (hB.mono hX11)
                    replace N0 := N0.blk X11 (no_ints1 _ _ _) hw
                    replace N1 := N1.blk X11 (no_ints1 _ _ _) hw
                    replace X0 := X0.blk X11 (no_ints1 _ _ _) hw
                    replace X1 := X1.blk X11 (no_ints1 _ _ _) hw
                    replace Os := Os.blk X11 (no_ints1 _ _ _) hw
                    replace Ws := Ws.blk X11 (no_ints1 _ _ _) hw
                    replace Ot := Ot.blk X11 (no_ints1 _ _ _) hw
                    replace Wt := Wt.blk X11 (no_ints1 _ _ _) hw
                    replace P0 := P0.off (by omega) hw
                    replace P1 := P1.off (by omega) hw
                    replace XA := XA.off (by omega) hw
                    replace XB := XB.off (by omega) hw
                    replace X10 := X10.off (Ne.symm nX11X10) hw
                    replace X11 := Y
                    clear hB hw
                    refine rg_done (by kernel_rfl) ?_
                    exact ⟨(v9x194.heap.size, v9x175.heap.size, As, Ns, Cs, At, Nt, Ct), by kernel_rfl, X10, X11, hX10, hX11, ⟨Os, Ws, hks⟩, ⟨Ot, Wt, hkt⟩, N0, N1, P0, P1, XA, XB, X0, X1, HB⟩
                  exact ar_nil
                exact ar_nil
              exact ar_nil
            exact ar_nil
          exact ar_nil
        refine ar_alloc 6 (some 10) 46 [.slice none 0 0] (by kernel_rfl) (by kernel_rfl) ?_ ?_
        · intro v9x203 X10 hB
          refine ⟨joinB hS hB, ?_⟩
          have hX10 := hS.size
          replace hS := joinB hS hB
          replace HB := joinB HB hB
          replace N0 := N0.keep hB
          replace N1 := N1.keep hB
          replace X0 := X0.keep hB
          replace X1 := X1.keep hB
          replace P0 := P0.keep hB
          replace P1 := P1.keep hB
          replace XA := XA.keep hB
          replace XB := XB.keep hB
          clear hB
          refine rg_ready [2, 7] (by kernel_rfl) (by simp) ?_
          refine ar_call 2 (some 37) 31 #[.agg #[.slice ax len0 dx], .agg #[.slice ay len1 dy]] (by kernel_rfl) (by kernel_rfl) (dAddW (U := u.heap.size) HB.size X0.a X1.a (by omega) (by omega)) ?_ ?_
          · rintro e v9x204 ⟨As, Ns, Cs, rfl, Os, Ws, hks, hB⟩
            refine ⟨_, rfl, joinB hS hB, ?_⟩
            replace hS := joinB hS hB
            replace HB := joinB HB hB
            replace N0 := N0.keep hB
            replace N1 := N1.keep hB
            replace X0 := X0.keep hB
            replace X1 := X1.keep hB
            replace P0 := P0.keep hB
            replace P1 := P1.keep hB
            replace XA := XA.keep hB
            replace XB := XB.keep hB
            replace X10 := X10.keep hB
            clear hB
            refine rg_ready [5, 7] (by kernel_rfl) (by simp) ?_
            refine ar_call 5 (some 40) 55 #[.agg #[.slice ax len0 dx], .int .u64 y2] (by kernel_rfl) (by kernel_rfl) (dTimesW (U := u.heap.size) HB.size X0.a (by omega) (by omega) (by omega)) ?_ ?_
            · rintro e v9x205 ⟨At, Nt, Ct, rfl, Ot, Wt, hkt, hB⟩
              refine ⟨_, rfl, joinB hS hB, ?_⟩
              replace hS := joinB hS hB
              replace HB := joinB HB hB
              replace N0 := N0.keep hB
              replace N1 := N1.keep hB
              replace X0 := X0.keep hB
              replace X1 := X1.keep hB
              replace Os := Os.keep hB
              replace Ws := Ws.keep hB
              replace P0 := P0.keep hB
              replace P1 := P1.keep hB
              replace XA := XA.keep hB
              replace XB := XB.keep hB
              replace X10 := X10.keep hB
              clear hB
              refine rg_ready [7] (by kernel_rfl) (by simp) ?_
              refine ar_alloc 7 (some 11) 46 [.slice none 0 0] (by kernel_rfl) (by kernel_rfl) ?_ ?_
              · intro v9x206 X11 hB
                refine ⟨joinB hS hB, ?_⟩
                have hX11 := hS.size
                replace hS := joinB hS hB
                replace HB := joinB HB hB
                have nX10X11 := Nat.ne_of_lt X10.lt
                replace N0 := N0.keep hB
                replace N1 := N1.keep hB
                replace X0 := X0.keep hB
                replace X1 := X1.keep hB
                replace Os := Os.keep hB
                replace Ws := Ws.keep hB
                replace Ot := Ot.keep hB
                replace Wt := Wt.keep hB
                replace P0 := P0.keep hB
                replace P1 := P1.keep hB
                replace XA := XA.keep hB
                replace XB := XB.keep hB
                replace X10 := X10.keep hB
                clear hB
                refine rg_ready [8] (by kernel_rfl) (by simp) ?_
                refine ar_store 8 46 46 10 37 (wr.drew.heap.size) [.slice none 0 0] [.slice As Ns Cs] (by kernel_rfl) (by kernel_rfl) (by kernel_rfl) (by kernel_rfl) X10 (by kernel_rfl) rfl (by kernel_rfl) ?_ ?_
                · intro v9x207 Y hw hB
                  refine ⟨hS.trans (hB.mono hX10), ?_⟩
                  replace HB := HB.trans (hB.mono (Nat.le_trans hBu hX10))
                  replace hS := hS.trans (hB.mono hX10)
                  replace N0 := N0.blk X10 (no_ints1 _ _ _) hw
                  replace N1 := N1.blk X10 (no_ints1 _ _ _) hw
                  replace X0 := X0.blk X10 (no_ints1 _ _ _) hw
                  replace X1 := X1.blk X10 (no_ints1 _ _ _) hw
                  replace Os := Os.blk X10 (no_ints1 _ _ _) hw
                  replace Ws := Ws.blk X10 (no_ints1 _ _ _) hw
                  replace Ot := Ot.blk X10 (no_ints1 _ _ _) hw
                  replace Wt := Wt.blk X10 (no_ints1 _ _ _) hw
                  replace P0 := P0.off (by omega) hw
                  replace P1 := P1.off (by omega) hw
                  replace XA := XA.off (by omega) hw
                  replace XB := XB.off (by omega) hw
                  replace X11 := X11.off (Ne.symm nX10X11) hw
                  replace X10 := Y
                  clear hB hw
                  refine rg_ready [9] (by kernel_rfl) (by simp) ?_
                  refine ar_store 9 46 46 11 40 (v9x205.heap.size) [.slice none 0 0] [.slice At Nt Ct] (by kernel_rfl) (by kernel_rfl) (by kernel_rfl) (by kernel_rfl) X11 (by kernel_rfl) rfl (by kernel_rfl) ?_ ?_
                  · intro v9x208 Y hw hB
                    refine ⟨hS.trans (hB.mono hX11), ?_⟩
                    replace HB := HB.trans (hB.mono (Nat.le_trans hBu hX11))
                    replace hS := hS.trans (hB.mono hX11)
                    replace N0 := N0.blk X11 (no_ints1 _ _ _) hw
                    replace N1 := N1.blk X11 (no_ints1 _ _ _) hw
                    replace X0 := X0.blk X11 (no_ints1 _ _ _) hw
                    replace X1 := X1.blk X11 (no_ints1 _ _ _) hw
                    replace Os := Os.blk X11 (no_ints1 _ _ _) hw
                    replace Ws := Ws.blk X11 (no_ints1 _ _ _) hw
                    replace Ot := Ot.blk X11 (no_ints1 _ _ _) hw
                    replace Wt := Wt.blk X11 (no_ints1 _ _ _) hw
                    replace P0 := P0.off (by omega) hw
                    replace P1 := P1.off (by omega) hw
                    replace XA := XA.off (by omega) hw
                    replace XB := XB.off (by omega) hw
                    replace X10 := X10.off nX10X11 hw
                    replace X11 := Y
                    clear hB hw
                    refine rg_done (by kernel_rfl) ?_
                    exact ⟨(wr.drew.heap.size, v9x205.heap.size, As, Ns, Cs, At, Nt, Ct), by kernel_rfl, X10, X11, hX10, hX11, ⟨Os, Ws, hks⟩, ⟨Ot, Wt, hkt⟩, N0, N1, P0, P1, XA, XB, X0, X1, HB⟩
                  exact ar_nil
                exact ar_nil
              exact ar_nil
            refine ar_alloc 7 (some 11) 46 [.slice none 0 0] (by kernel_rfl) (by kernel_rfl) ?_ ?_
            · intro v9x209 X11 hB
              refine ⟨joinB hS hB, ?_⟩
              have hX11 := hS.size
              replace hS := joinB hS hB
              replace HB := joinB HB hB
              have nX10X11 := Nat.ne_of_lt X10.lt
              replace N0 := N0.keep hB
              replace N1 := N1.keep hB
              replace X0 := X0.keep hB
              replace X1 := X1.keep hB
              replace Os := Os.keep hB
              replace Ws := Ws.keep hB
              replace P0 := P0.keep hB
              replace P1 := P1.keep hB
              replace XA := XA.keep hB
              replace XB := XB.keep hB
              replace X10 := X10.keep hB
              clear hB
              refine rg_ready [5] (by kernel_rfl) (by simp) ?_
              refine ar_call 5 (some 40) 55 #[.agg #[.slice ax len0 dx], .int .u64 y2] (by kernel_rfl) (by kernel_rfl) (dTimesW (U := u.heap.size) HB.size X0.a (by omega) (by omega) (by omega)) ?_ ?_
              · rintro e v9x210 ⟨At, Nt, Ct, rfl, Ot, Wt, hkt, hB⟩
                refine ⟨_, rfl, joinB hS hB, ?_⟩
                replace hS := joinB hS hB
                replace HB := joinB HB hB
                replace N0 := N0.keep hB
                replace N1 := N1.keep hB
                replace X0 := X0.keep hB
                replace X1 := X1.keep hB
                replace Os := Os.keep hB
                replace Ws := Ws.keep hB
                replace P0 := P0.keep hB
                replace P1 := P1.keep hB
                replace XA := XA.keep hB
                replace XB := XB.keep hB
                replace X10 := X10.keep hB
                replace X11 := X11.keep hB
                clear hB
                refine rg_ready [8] (by kernel_rfl) (by simp) ?_
                refine ar_store 8 46 46 10 37 (wr.drew.heap.size) [.slice none 0 0] [.slice As Ns Cs] (by kernel_rfl) (by kernel_rfl) (by kernel_rfl) (by kernel_rfl) X10 (by kernel_rfl) rfl (by kernel_rfl) ?_ ?_
                · intro v9x211 Y hw hB
                  refine ⟨hS.trans (hB.mono hX10), ?_⟩
                  replace HB := HB.trans (hB.mono (Nat.le_trans hBu hX10))
                  replace hS := hS.trans (hB.mono hX10)
                  replace N0 := N0.blk X10 (no_ints1 _ _ _) hw
                  replace N1 := N1.blk X10 (no_ints1 _ _ _) hw
                  replace X0 := X0.blk X10 (no_ints1 _ _ _) hw
                  replace X1 := X1.blk X10 (no_ints1 _ _ _) hw
                  replace Os := Os.blk X10 (no_ints1 _ _ _) hw
                  replace Ws := Ws.blk X10 (no_ints1 _ _ _) hw
                  replace Ot := Ot.blk X10 (no_ints1 _ _ _) hw
                  replace Wt := Wt.blk X10 (no_ints1 _ _ _) hw
                  replace P0 := P0.off (by omega) hw
                  replace P1 := P1.off (by omega) hw
                  replace XA := XA.off (by omega) hw
                  replace XB := XB.off (by omega) hw
                  replace X11 := X11.off (Ne.symm nX10X11) hw
                  replace X10 := Y
                  clear hB hw
                  refine rg_ready [9] (by kernel_rfl) (by simp) ?_
                  refine ar_store 9 46 46 11 40 (v9x204.heap.size) [.slice none 0 0] [.slice At Nt Ct] (by kernel_rfl) (by kernel_rfl) (by kernel_rfl) (by kernel_rfl) X11 (by kernel_rfl) rfl (by kernel_rfl) ?_ ?_
                  · intro v9x212 Y hw hB
                    refine ⟨hS.trans (hB.mono hX11), ?_⟩
                    replace HB := HB.trans (hB.mono (Nat.le_trans hBu hX11))
                    replace hS := hS.trans (hB.mono hX11)
                    replace N0 := N0.blk X11 (no_ints1 _ _ _) hw
                    replace N1 := N1.blk X11 (no_ints1 _ _ _) hw
                    replace X0 := X0.blk X11 (no_ints1 _ _ _) hw
                    replace X1 := X1.blk X11 (no_ints1 _ _ _) hw
                    replace Os := Os.blk X11 (no_ints1 _ _ _) hw
                    replace Ws := Ws.blk X11 (no_ints1 _ _ _) hw
                    replace Ot := Ot.blk X11 (no_ints1 _ _ _) hw
                    replace Wt := Wt.blk X11 (no_ints1 _ _ _) hw
                    replace P0 := P0.off (by omega) hw
                    replace P1 := P1.off (by omega) hw
                    replace XA := XA.off (by omega) hw
                    replace XB := XB.off (by omega) hw
                    replace X10 := X10.off nX10X11 hw
                    replace X11 := Y
                    clear hB hw
                    refine rg_done (by kernel_rfl) ?_
                    exact ⟨(wr.drew.heap.size, v9x204.heap.size, As, Ns, Cs, At, Nt, Ct), by kernel_rfl, X10, X11, hX10, hX11, ⟨Os, Ws, hks⟩, ⟨Ot, Wt, hkt⟩, N0, N1, P0, P1, XA, XB, X0, X1, HB⟩
                  exact ar_nil
                exact ar_nil
              exact ar_nil
            exact ar_nil
          refine ar_alloc 7 (some 11) 46 [.slice none 0 0] (by kernel_rfl) (by kernel_rfl) ?_ ?_
          · intro v9x213 X11 hB
            refine ⟨joinB hS hB, ?_⟩
            have hX11 := hS.size
            replace hS := joinB hS hB
            replace HB := joinB HB hB
            have nX10X11 := Nat.ne_of_lt X10.lt
            replace N0 := N0.keep hB
            replace N1 := N1.keep hB
            replace X0 := X0.keep hB
            replace X1 := X1.keep hB
            replace P0 := P0.keep hB
            replace P1 := P1.keep hB
            replace XA := XA.keep hB
            replace XB := XB.keep hB
            replace X10 := X10.keep hB
            clear hB
            refine rg_ready [2] (by kernel_rfl) (by simp) ?_
            refine ar_call 2 (some 37) 31 #[.agg #[.slice ax len0 dx], .agg #[.slice ay len1 dy]] (by kernel_rfl) (by kernel_rfl) (dAddW (U := u.heap.size) HB.size X0.a X1.a (by omega) (by omega)) ?_ ?_
            · rintro e v9x214 ⟨As, Ns, Cs, rfl, Os, Ws, hks, hB⟩
              refine ⟨_, rfl, joinB hS hB, ?_⟩
              replace hS := joinB hS hB
              replace HB := joinB HB hB
              replace N0 := N0.keep hB
              replace N1 := N1.keep hB
              replace X0 := X0.keep hB
              replace X1 := X1.keep hB
              replace P0 := P0.keep hB
              replace P1 := P1.keep hB
              replace XA := XA.keep hB
              replace XB := XB.keep hB
              replace X10 := X10.keep hB
              replace X11 := X11.keep hB
              clear hB
              refine rg_ready [5] (by kernel_rfl) (by simp) ?_
              refine ar_call 5 (some 40) 55 #[.agg #[.slice ax len0 dx], .int .u64 y2] (by kernel_rfl) (by kernel_rfl) (dTimesW (U := u.heap.size) HB.size X0.a (by omega) (by omega) (by omega)) ?_ ?_
              · rintro e v9x215 ⟨At, Nt, Ct, rfl, Ot, Wt, hkt, hB⟩
                refine ⟨_, rfl, joinB hS hB, ?_⟩
                replace hS := joinB hS hB
                replace HB := joinB HB hB
                replace N0 := N0.keep hB
                replace N1 := N1.keep hB
                replace X0 := X0.keep hB
                replace X1 := X1.keep hB
                replace Os := Os.keep hB
                replace Ws := Ws.keep hB
                replace P0 := P0.keep hB
                replace P1 := P1.keep hB
                replace XA := XA.keep hB
                replace XB := XB.keep hB
                replace X10 := X10.keep hB
                replace X11 := X11.keep hB
                clear hB
                refine rg_ready [8] (by kernel_rfl) (by simp) ?_
                refine ar_store 8 46 46 10 37 (wr.drew.heap.size) [.slice none 0 0] [.slice As Ns Cs] (by kernel_rfl) (by kernel_rfl) (by kernel_rfl) (by kernel_rfl) X10 (by kernel_rfl) rfl (by kernel_rfl) ?_ ?_
                · intro v9x216 Y hw hB
                  refine ⟨hS.trans (hB.mono hX10), ?_⟩
                  replace HB := HB.trans (hB.mono (Nat.le_trans hBu hX10))
                  replace hS := hS.trans (hB.mono hX10)
                  replace N0 := N0.blk X10 (no_ints1 _ _ _) hw
                  replace N1 := N1.blk X10 (no_ints1 _ _ _) hw
                  replace X0 := X0.blk X10 (no_ints1 _ _ _) hw
                  replace X1 := X1.blk X10 (no_ints1 _ _ _) hw
                  replace Os := Os.blk X10 (no_ints1 _ _ _) hw
                  replace Ws := Ws.blk X10 (no_ints1 _ _ _) hw
                  replace Ot := Ot.blk X10 (no_ints1 _ _ _) hw
                  replace Wt := Wt.blk X10 (no_ints1 _ _ _) hw
                  replace P0 := P0.off (by omega) hw
                  replace P1 := P1.off (by omega) hw
                  replace XA := XA.off (by omega) hw
                  replace XB := XB.off (by omega) hw
                  replace X11 := X11.off (Ne.symm nX10X11) hw
                  replace X10 := Y
                  clear hB hw
                  refine rg_ready [9] (by kernel_rfl) (by simp) ?_
                  refine ar_store 9 46 46 11 40 (v9x203.heap.size) [.slice none 0 0] [.slice At Nt Ct] (by kernel_rfl) (by kernel_rfl) (by kernel_rfl) (by kernel_rfl) X11 (by kernel_rfl) rfl (by kernel_rfl) ?_ ?_
                  · intro v9x217 Y hw hB
                    refine ⟨hS.trans (hB.mono hX11), ?_⟩
                    replace HB := HB.trans (hB.mono (Nat.le_trans hBu hX11))
                    replace hS := hS.trans (hB.mono hX11)
                    replace N0 := N0.blk X11 (no_ints1 _ _ _) hw
                    replace N1 := N1.blk X11 (no_ints1 _ _ _) hw
                    replace X0 := X0.blk X11 (no_ints1 _ _ _) hw
                    replace X1 := X1.blk X11 (no_ints1 _ _ _) hw
                    replace Os := Os.blk X11 (no_ints1 _ _ _) hw
                    replace Ws := Ws.blk X11 (no_ints1 _ _ _) hw
                    replace Ot := Ot.blk X11 (no_ints1 _ _ _) hw
                    replace Wt := Wt.blk X11 (no_ints1 _ _ _) hw
                    replace P0 := P0.off (by omega) hw
                    replace P1 := P1.off (by omega) hw
                    replace XA := XA.off (by omega) hw
                    replace XB := XB.off (by omega) hw
                    replace X10 := X10.off nX10X11 hw
                    replace X11 := Y
                    clear hB hw
                    refine rg_done (by kernel_rfl) ?_
                    exact ⟨(wr.drew.heap.size, v9x203.heap.size, As, Ns, Cs, At, Nt, Ct), by kernel_rfl, X10, X11, hX10, hX11, ⟨Os, Ws, hks⟩, ⟨Ot, Wt, hkt⟩, N0, N1, P0, P1, XA, XB, X0, X1, HB⟩
                  exact ar_nil
                exact ar_nil
              exact ar_nil
            exact ar_nil
          exact ar_nil
        refine ar_alloc 7 (some 11) 46 [.slice none 0 0] (by kernel_rfl) (by kernel_rfl) ?_ ?_
        · intro v9x218 X11 hB
          refine ⟨joinB hS hB, ?_⟩
          have hX11 := hS.size
          replace hS := joinB hS hB
          replace HB := joinB HB hB
          replace N0 := N0.keep hB
          replace N1 := N1.keep hB
          replace X0 := X0.keep hB
          replace X1 := X1.keep hB
          replace P0 := P0.keep hB
          replace P1 := P1.keep hB
          replace XA := XA.keep hB
          replace XB := XB.keep hB
          clear hB
          refine rg_ready [2, 6] (by kernel_rfl) (by simp) ?_
          refine ar_call 2 (some 37) 31 #[.agg #[.slice ax len0 dx], .agg #[.slice ay len1 dy]] (by kernel_rfl) (by kernel_rfl) (dAddW (U := u.heap.size) HB.size X0.a X1.a (by omega) (by omega)) ?_ ?_
          · rintro e v9x219 ⟨As, Ns, Cs, rfl, Os, Ws, hks, hB⟩
            refine ⟨_, rfl, joinB hS hB, ?_⟩
            replace hS := joinB hS hB
            replace HB := joinB HB hB
            replace N0 := N0.keep hB
            replace N1 := N1.keep hB
            replace X0 := X0.keep hB
            replace X1 := X1.keep hB
            replace P0 := P0.keep hB
            replace P1 := P1.keep hB
            replace XA := XA.keep hB
            replace XB := XB.keep hB
            replace X11 := X11.keep hB
            clear hB
            refine rg_ready [5, 6] (by kernel_rfl) (by simp) ?_
            refine ar_call 5 (some 40) 55 #[.agg #[.slice ax len0 dx], .int .u64 y2] (by kernel_rfl) (by kernel_rfl) (dTimesW (U := u.heap.size) HB.size X0.a (by omega) (by omega) (by omega)) ?_ ?_
            · rintro e v9x220 ⟨At, Nt, Ct, rfl, Ot, Wt, hkt, hB⟩
              refine ⟨_, rfl, joinB hS hB, ?_⟩
              replace hS := joinB hS hB
              replace HB := joinB HB hB
              replace N0 := N0.keep hB
              replace N1 := N1.keep hB
              replace X0 := X0.keep hB
              replace X1 := X1.keep hB
              replace Os := Os.keep hB
              replace Ws := Ws.keep hB
              replace P0 := P0.keep hB
              replace P1 := P1.keep hB
              replace XA := XA.keep hB
              replace XB := XB.keep hB
              replace X11 := X11.keep hB
              clear hB
              refine rg_ready [6] (by kernel_rfl) (by simp) ?_
              refine ar_alloc 6 (some 10) 46 [.slice none 0 0] (by kernel_rfl) (by kernel_rfl) ?_ ?_
              · intro v9x221 X10 hB
                refine ⟨joinB hS hB, ?_⟩
                have hX10 := hS.size
                replace hS := joinB hS hB
                replace HB := joinB HB hB
                have nX11X10 := Nat.ne_of_lt X11.lt
                replace N0 := N0.keep hB
                replace N1 := N1.keep hB
                replace X0 := X0.keep hB
                replace X1 := X1.keep hB
                replace Os := Os.keep hB
                replace Ws := Ws.keep hB
                replace Ot := Ot.keep hB
                replace Wt := Wt.keep hB
                replace P0 := P0.keep hB
                replace P1 := P1.keep hB
                replace XA := XA.keep hB
                replace XB := XB.keep hB
                replace X11 := X11.keep hB
                clear hB
                refine rg_ready [8] (by kernel_rfl) (by simp) ?_
                refine ar_store 8 46 46 10 37 (v9x220.heap.size) [.slice none 0 0] [.slice As Ns Cs] (by kernel_rfl) (by kernel_rfl) (by kernel_rfl) (by kernel_rfl) X10 (by kernel_rfl) rfl (by kernel_rfl) ?_ ?_
                · intro v9x222 Y hw hB
                  refine ⟨hS.trans (hB.mono hX10), ?_⟩
                  replace HB := HB.trans (hB.mono (Nat.le_trans hBu hX10))
                  replace hS := hS.trans (hB.mono hX10)
                  replace N0 := N0.blk X10 (no_ints1 _ _ _) hw
                  replace N1 := N1.blk X10 (no_ints1 _ _ _) hw
                  replace X0 := X0.blk X10 (no_ints1 _ _ _) hw
                  replace X1 := X1.blk X10 (no_ints1 _ _ _) hw
                  replace Os := Os.blk X10 (no_ints1 _ _ _) hw
                  replace Ws := Ws.blk X10 (no_ints1 _ _ _) hw
                  replace Ot := Ot.blk X10 (no_ints1 _ _ _) hw
                  replace Wt := Wt.blk X10 (no_ints1 _ _ _) hw
                  replace P0 := P0.off (by omega) hw
                  replace P1 := P1.off (by omega) hw
                  replace XA := XA.off (by omega) hw
                  replace XB := XB.off (by omega) hw
                  replace X11 := X11.off nX11X10 hw
                  replace X10 := Y
                  clear hB hw
                  refine rg_ready [9] (by kernel_rfl) (by simp) ?_
                  refine ar_store 9 46 46 11 40 (wr.drew.heap.size) [.slice none 0 0] [.slice At Nt Ct] (by kernel_rfl) (by kernel_rfl) (by kernel_rfl) (by kernel_rfl) X11 (by kernel_rfl) rfl (by kernel_rfl) ?_ ?_
                  · intro v9x223 Y hw hB
                    refine ⟨hS.trans (hB.mono hX11), ?_⟩
                    replace HB := HB.trans (hB.mono (Nat.le_trans hBu hX11))
                    replace hS := hS.trans (hB.mono hX11)
                    replace N0 := N0.blk X11 (no_ints1 _ _ _) hw
                    replace N1 := N1.blk X11 (no_ints1 _ _ _) hw
                    replace X0 := X0.blk X11 (no_ints1 _ _ _) hw
                    replace X1 := X1.blk X11 (no_ints1 _ _ _) hw
                    replace Os := Os.blk X11 (no_ints1 _ _ _) hw
                    replace Ws := Ws.blk X11 (no_ints1 _ _ _) hw
                    replace Ot := Ot.blk X11 (no_ints1 _ _ _) hw
                    replace Wt := Wt.blk X11 (no_ints1 _ _ _) hw
                    replace P0 := P0.off (by omega) hw
                    replace P1 := P1.off (by omega) hw
                    replace XA := XA.off (by omega) hw
                    replace XB := XB.off (by omega) hw
                    replace X10 := X10.off (Ne.symm nX11X10) hw
                    replace X11 := Y
                    clear hB hw
                    refine rg_done (by kernel_rfl) ?_
                    exact ⟨(v9x220.heap.size, wr.drew.heap.size, As, Ns, Cs, At, Nt, Ct), by kernel_rfl, X10, X11, hX10, hX11, ⟨Os, Ws, hks⟩, ⟨Ot, Wt, hkt⟩, N0, N1, P0, P1, XA, XB, X0, X1, HB⟩
                  exact ar_nil
                exact ar_nil
              exact ar_nil
            refine ar_alloc 6 (some 10) 46 [.slice none 0 0] (by kernel_rfl) (by kernel_rfl) ?_ ?_
            · intro v9x224 X10 hB
              refine ⟨joinB hS hB, ?_⟩
              have hX10 := hS.size
              replace hS := joinB hS hB
              replace HB := joinB HB hB
              have nX11X10 := Nat.ne_of_lt X11.lt
              replace N0 := N0.keep hB
              replace N1 := N1.keep hB
              replace X0 := X0.keep hB
              replace X1 := X1.keep hB
              replace Os := Os.keep hB
              replace Ws := Ws.keep hB
              replace P0 := P0.keep hB
              replace P1 := P1.keep hB
              replace XA := XA.keep hB
              replace XB := XB.keep hB
              replace X11 := X11.keep hB
              clear hB
              refine rg_ready [5] (by kernel_rfl) (by simp) ?_
              refine ar_call 5 (some 40) 55 #[.agg #[.slice ax len0 dx], .int .u64 y2] (by kernel_rfl) (by kernel_rfl) (dTimesW (U := u.heap.size) HB.size X0.a (by omega) (by omega) (by omega)) ?_ ?_
              · rintro e v9x225 ⟨At, Nt, Ct, rfl, Ot, Wt, hkt, hB⟩
                refine ⟨_, rfl, joinB hS hB, ?_⟩
                replace hS := joinB hS hB
                replace HB := joinB HB hB
                replace N0 := N0.keep hB
                replace N1 := N1.keep hB
                replace X0 := X0.keep hB
                replace X1 := X1.keep hB
                replace Os := Os.keep hB
                replace Ws := Ws.keep hB
                replace P0 := P0.keep hB
                replace P1 := P1.keep hB
                replace XA := XA.keep hB
                replace XB := XB.keep hB
                replace X11 := X11.keep hB
                replace X10 := X10.keep hB
                clear hB
                refine rg_ready [8] (by kernel_rfl) (by simp) ?_
                refine ar_store 8 46 46 10 37 (v9x219.heap.size) [.slice none 0 0] [.slice As Ns Cs] (by kernel_rfl) (by kernel_rfl) (by kernel_rfl) (by kernel_rfl) X10 (by kernel_rfl) rfl (by kernel_rfl) ?_ ?_
                · intro v9x226 Y hw hB
                  refine ⟨hS.trans (hB.mono hX10), ?_⟩
                  replace HB := HB.trans (hB.mono (Nat.le_trans hBu hX10))
                  replace hS := hS.trans (hB.mono hX10)
                  replace N0 := N0.blk X10 (no_ints1 _ _ _) hw
                  replace N1 := N1.blk X10 (no_ints1 _ _ _) hw
                  replace X0 := X0.blk X10 (no_ints1 _ _ _) hw
                  replace X1 := X1.blk X10 (no_ints1 _ _ _) hw
                  replace Os := Os.blk X10 (no_ints1 _ _ _) hw
                  replace Ws := Ws.blk X10 (no_ints1 _ _ _) hw
                  replace Ot := Ot.blk X10 (no_ints1 _ _ _) hw
                  replace Wt := Wt.blk X10 (no_ints1 _ _ _) hw
                  replace P0 := P0.off (by omega) hw
                  replace P1 := P1.off (by omega) hw
                  replace XA := XA.off (by omega) hw
                  replace XB := XB.off (by omega) hw
                  replace X11 := X11.off nX11X10 hw
                  replace X10 := Y
                  clear hB hw
                  refine rg_ready [9] (by kernel_rfl) (by simp) ?_
                  refine ar_store 9 46 46 11 40 (wr.drew.heap.size) [.slice none 0 0] [.slice At Nt Ct] (by kernel_rfl) (by kernel_rfl) (by kernel_rfl) (by kernel_rfl) X11 (by kernel_rfl) rfl (by kernel_rfl) ?_ ?_
                  · intro v9x227 Y hw hB
                    refine ⟨hS.trans (hB.mono hX11), ?_⟩
                    replace HB := HB.trans (hB.mono (Nat.le_trans hBu hX11))
                    replace hS := hS.trans (hB.mono hX11)
                    replace N0 := N0.blk X11 (no_ints1 _ _ _) hw
                    replace N1 := N1.blk X11 (no_ints1 _ _ _) hw
                    replace X0 := X0.blk X11 (no_ints1 _ _ _) hw
                    replace X1 := X1.blk X11 (no_ints1 _ _ _) hw
                    replace Os := Os.blk X11 (no_ints1 _ _ _) hw
                    replace Ws := Ws.blk X11 (no_ints1 _ _ _) hw
                    replace Ot := Ot.blk X11 (no_ints1 _ _ _) hw
                    replace Wt := Wt.blk X11 (no_ints1 _ _ _) hw
                    replace P0 := P0.off (by omega) hw
                    replace P1 := P1.off (by omega) hw
                    replace XA := XA.off (by omega) hw
                    replace XB := XB.off (by omega) hw
                    replace X10 := X10.off (Ne.symm nX11X10) hw
                    replace X11 := Y
                    clear hB hw
                    refine rg_done (by kernel_rfl) ?_
                    exact ⟨(v9x219.heap.size, wr.drew.heap.size, As, Ns, Cs, At, Nt, Ct), by kernel_rfl, X10, X11, hX10, hX11, ⟨Os, Ws, hks⟩, ⟨Ot, Wt, hkt⟩, N0, N1, P0, P1, XA, XB, X0, X1, HB⟩
                  exact ar_nil
                exact ar_nil
              exact ar_nil
            exact ar_nil
          refine ar_alloc 6 (some 10) 46 [.slice none 0 0] (by kernel_rfl) (by kernel_rfl) ?_ ?_
          · intro v9x228 X10 hB
            refine ⟨joinB hS hB, ?_⟩
            have hX10 := hS.size
            replace hS := joinB hS hB
            replace HB := joinB HB hB
            have nX11X10 := Nat.ne_of_lt X11.lt
            replace N0 := N0.keep hB
            replace N1 := N1.keep hB
            replace X0 := X0.keep hB
            replace X1 := X1.keep hB
            replace P0 := P0.keep hB
            replace P1 := P1.keep hB
            replace XA := XA.keep hB
            replace XB := XB.keep hB
            replace X11 := X11.keep hB
            clear hB
            refine rg_ready [2] (by kernel_rfl) (by simp) ?_
            refine ar_call 2 (some 37) 31 #[.agg #[.slice ax len0 dx], .agg #[.slice ay len1 dy]] (by kernel_rfl) (by kernel_rfl) (dAddW (U := u.heap.size) HB.size X0.a X1.a (by omega) (by omega)) ?_ ?_
            · rintro e v9x229 ⟨As, Ns, Cs, rfl, Os, Ws, hks, hB⟩
              refine ⟨_, rfl, joinB hS hB, ?_⟩
              replace hS := joinB hS hB
              replace HB := joinB HB hB
              replace N0 := N0.keep hB
              replace N1 := N1.keep hB
              replace X0 := X0.keep hB
              replace X1 := X1.keep hB
              replace P0 := P0.keep hB
              replace P1 := P1.keep hB
              replace XA := XA.keep hB
              replace XB := XB.keep hB
              replace X11 := X11.keep hB
              replace X10 := X10.keep hB
              clear hB
              refine rg_ready [5] (by kernel_rfl) (by simp) ?_
              refine ar_call 5 (some 40) 55 #[.agg #[.slice ax len0 dx], .int .u64 y2] (by kernel_rfl) (by kernel_rfl) (dTimesW (U := u.heap.size) HB.size X0.a (by omega) (by omega) (by omega)) ?_ ?_
              · rintro e v9x230 ⟨At, Nt, Ct, rfl, Ot, Wt, hkt, hB⟩
                refine ⟨_, rfl, joinB hS hB, ?_⟩
                replace hS := joinB hS hB
                replace HB := joinB HB hB
                replace N0 := N0.keep hB
                replace N1 := N1.keep hB
                replace X0 := X0.keep hB
                replace X1 := X1.keep hB
                replace Os := Os.keep hB
                replace Ws := Ws.keep hB
                replace P0 := P0.keep hB
                replace P1 := P1.keep hB
                replace XA := XA.keep hB
                replace XB := XB.keep hB
                replace X11 := X11.keep hB
                replace X10 := X10.keep hB
                clear hB
                refine rg_ready [8] (by kernel_rfl) (by simp) ?_
                refine ar_store 8 46 46 10 37 (v9x218.heap.size) [.slice none 0 0] [.slice As Ns Cs] (by kernel_rfl) (by kernel_rfl) (by kernel_rfl) (by kernel_rfl) X10 (by kernel_rfl) rfl (by kernel_rfl) ?_ ?_
                · intro v9x231 Y hw hB
                  refine ⟨hS.trans (hB.mono hX10), ?_⟩
                  replace HB := HB.trans (hB.mono (Nat.le_trans hBu hX10))
                  replace hS := hS.trans (hB.mono hX10)
                  replace N0 := N0.blk X10 (no_ints1 _ _ _) hw
                  replace N1 := N1.blk X10 (no_ints1 _ _ _) hw
                  replace X0 := X0.blk X10 (no_ints1 _ _ _) hw
                  replace X1 := X1.blk X10 (no_ints1 _ _ _) hw
                  replace Os := Os.blk X10 (no_ints1 _ _ _) hw
                  replace Ws := Ws.blk X10 (no_ints1 _ _ _) hw
                  replace Ot := Ot.blk X10 (no_ints1 _ _ _) hw
                  replace Wt := Wt.blk X10 (no_ints1 _ _ _) hw
                  replace P0 := P0.off (by omega) hw
                  replace P1 := P1.off (by omega) hw
                  replace XA := XA.off (by omega) hw
                  replace XB := XB.off (by omega) hw
                  replace X11 := X11.off nX11X10 hw
                  replace X10 := Y
                  clear hB hw
                  refine rg_ready [9] (by kernel_rfl) (by simp) ?_
                  refine ar_store 9 46 46 11 40 (wr.drew.heap.size) [.slice none 0 0] [.slice At Nt Ct] (by kernel_rfl) (by kernel_rfl) (by kernel_rfl) (by kernel_rfl) X11 (by kernel_rfl) rfl (by kernel_rfl) ?_ ?_
                  · intro v9x232 Y hw hB
                    refine ⟨hS.trans (hB.mono hX11), ?_⟩
                    replace HB := HB.trans (hB.mono (Nat.le_trans hBu hX11))
                    replace hS := hS.trans (hB.mono hX11)
                    replace N0 := N0.blk X11 (no_ints1 _ _ _) hw
                    replace N1 := N1.blk X11 (no_ints1 _ _ _) hw
                    replace X0 := X0.blk X11 (no_ints1 _ _ _) hw
                    replace X1 := X1.blk X11 (no_ints1 _ _ _) hw
                    replace Os := Os.blk X11 (no_ints1 _ _ _) hw
                    replace Ws := Ws.blk X11 (no_ints1 _ _ _) hw
                    replace Ot := Ot.blk X11 (no_ints1 _ _ _) hw
                    replace Wt := Wt.blk X11 (no_ints1 _ _ _) hw
                    replace P0 := P0.off (by omega) hw
                    replace P1 := P1.off (by omega) hw
                    replace XA := XA.off (by omega) hw
                    replace XB := XB.off (by omega) hw
                    replace X10 := X10.off (Ne.symm nX11X10) hw
                    replace X11 := Y
                    clear hB hw
                    refine rg_done (by kernel_rfl) ?_
                    exact ⟨(v9x218.heap.size, wr.drew.heap.size, As, Ns, Cs, At, Nt, Ct), by kernel_rfl, X10, X11, hX10, hX11, ⟨Os, Ws, hks⟩, ⟨Ot, Wt, hkt⟩, N0, N1, P0, P1, XA, XB, X0, X1, HB⟩
                  exact ar_nil
                exact ar_nil
              exact ar_nil
            exact ar_nil
          exact ar_nil
        exact ar_nil
      · rintro ⟨g10, g11, As, Ns, Cs, At, Nt, Ct⟩ m2w ⟨Xs, Xt, hnXs, hnXt, Os, Ot, N0', N1', P0', P1', XA', XB', X0', X1', HBn⟩
        replace N0 := N0'
        clear N0'
        replace N1 := N1'
        clear N1'
        replace P0 := P0'
        clear P0'
        replace P1 := P1'
        clear P1'
        replace XA := XA'
        clear XA'
        replace XB := XB'
        clear XB'
        replace X0 := X0'
        clear X0'
        replace X1 := X1'
        clear X1'
        replace HB := HBn
        clear HBn
        try simp only [putAll, Act.put, List.setIfInBounds_toArray, List.set_cons_zero, List.set_cons_succ]
        obtain ⟨Os, Ws, hks⟩ := Os
        obtain ⟨Ot, Wt, hkt⟩ := Ot
        rcases Int.lt_or_le (val l0) (val l1) with hc | hc
        · skip
          have c1P0 := P0.slot.cell
          have c1P1 := P1.slot.cell
          have c1XA := XA.slot.cell
          have c1XB := XB.slot.cell
          have c1Xs := Xs.slot.cell
          have c1Xt := Xt.slot.cell
          go_wp2_with fail
          refine (dSubLt X0.a X1.a (by omega) (by omega) hc).mono ?_
          rintro e x3 ⟨rfl, hB⟩
          clear c1P0 c1P1 c1XA c1XB c1Xs c1Xt
          replace N0 := N0.keep hB
          replace N1 := N1.keep hB
          replace P0 := P0.keep hB
          replace P1 := P1.keep hB
          replace XA := XA.keep hB
          replace XB := XB.keep hB
          replace X0 := X0.keep hB
          replace X1 := X1.keep hB
          replace Xs := Xs.keep hB
          replace Xt := Xt.keep hB
          replace Os := Os.keep hB
          replace Ot := Ot.keep hB
          replace Ws := Ws.keep hB
          replace Wt := Wt.keep hB
          replace HB := joinB HB hB
          clear hB
          have Wd := wdu_nil x3 u.heap.size
          have BA := below_alloc x3 (.cells #[.slice none 0 0] 46)
          have Xd := box_new x3 [.slice none 0 0] 46
          replace N0 := N0.keep BA
          replace N1 := N1.keep BA
          replace P0 := P0.keep BA
          replace P1 := P1.keep BA
          replace XA := XA.keep BA
          replace XB := XB.keep BA
          replace X0 := X0.keep BA
          replace X1 := X1.keep BA
          replace Xs := Xs.keep BA
          replace Xt := Xt.keep BA
          replace Os := Os.keep BA
          replace Ot := Ot.keep BA
          replace Ws := Ws.keep BA
          replace Wt := Wt.keep BA
          replace Wd := Wd.keep BA
          replace HB := joinB HB BA
          clear BA
          have c1P0 := P0.slot.cell
          have c1P1 := P1.slot.cell
          have c1XA := XA.slot.cell
          have c1XB := XB.slot.cell
          have c1Xs := Xs.slot.cell
          have c1Xt := Xt.slot.cell
          have c1Xd := Xd.slot.cell
          go_wp2_with fail
          clear c1P0 c1P1 c1XA c1XB c1Xs c1Xt c1Xd
          generalize x3.alloc (.cells #[.slice none 0 0] 46) = y1 at *
          generalize x3.heap.size = gd at *
          refine (eSubLt N0.a N1.a (by omega) (by omega) hc).mono ?_
          rintro e c4w ⟨rfl, hB⟩
          replace N0 := N0.keep hB
          replace N1 := N1.keep hB
          replace P0 := P0.keep hB
          replace P1 := P1.keep hB
          replace XA := XA.keep hB
          replace XB := XB.keep hB
          replace X0 := X0.keep hB
          replace X1 := X1.keep hB
          replace Xs := Xs.keep hB
          replace Xt := Xt.keep hB
          replace Os := Os.keep hB
          replace Ot := Ot.keep hB
          replace Ws := Ws.keep hB
          replace Wt := Wt.keep hB
          replace Wd := Wd.keep hB
          replace Xd := Xd.keep hB
          replace HB := joinB HB hB
          clear hB
          have BA := below_alloc c4w (.cells #[.slice none 0 0] 46)
          have Xw := box_new c4w [.slice none 0 0] 46
          replace N0 := N0.keep BA
          replace N1 := N1.keep BA
          replace P0 := P0.keep BA
          replace P1 := P1.keep BA
          replace XA := XA.keep BA
          replace XB := XB.keep BA
          replace X0 := X0.keep BA
          replace X1 := X1.keep BA
          replace Xs := Xs.keep BA
          replace Xt := Xt.keep BA
          replace Os := Os.keep BA
          replace Ot := Ot.keep BA
          replace Ws := Ws.keep BA
          replace Wt := Wt.keep BA
          replace Wd := Wd.keep BA
          replace Xd := Xd.keep BA
          replace HB := joinB HB BA
          clear BA
          have c1P0 := P0.slot.cell
          have c1P1 := P1.slot.cell
          have c1XA := XA.slot.cell
          have c1XB := XB.slot.cell
          have c1Xs := Xs.slot.cell
          have c1Xt := Xt.slot.cell
          have c1Xd := Xd.slot.cell
          have c1Xw := Xw.slot.cell
          go_wp2_with fail
          clear c1P0 c1P1 c1XA c1XB c1Xs c1Xt c1Xd c1Xw
          generalize c4w.alloc (.cells #[.slice none 0 0] 46) = y2w at *
          generalize c4w.heap.size = gw at *
          refine rg_start (S := fun w' => Below y2w.drew.heap.size y2w.drew w') (by kernel_rfl) (Below.refl _ _) ?_
          replace N0 := N0.drew
          replace N1 := N1.drew
          replace P0 := P0.drew
          replace P1 := P1.drew
          replace XA := XA.drew
          replace XB := XB.drew
          replace X0 := X0.drew
          replace X1 := X1.drew
          replace Xs := Xs.drew
          replace Xt := Xt.drew
          replace Os := Os.drew
          replace Ot := Ot.drew
          replace Ws := Ws.drew
          replace Wt := Wt.drew
          replace Wd := Wd.drew
          replace Xd := Xd.drew
          replace Xw := Xw.drew
          replace HB := HB.drew
          have UP0 := P0
          have UP1 := P1
          have UXA := XA
          have UXB := XB
          have UXs := Xs
          have UXt := Xt
          have UXd := Xd
          have UXw := Xw
          have hS := Below.refl y2w.drew.heap.size y2w.drew
          refine rg_load 0 (some 53) (.agg #[.slice As Ns Cs]) 46 10 (g10) 0 (by kernel_rfl) (by kernel_rfl) (by kernel_rfl) (fun _ hb => load_dec ((UXs.keep hb).slot)) (fun _ _ _ h => h) hS ?_
          refine rg_load 1 (some 54) (.agg #[.slice a0 len0 cap0]) 46 3 (w.heap.size) 0 (by kernel_rfl) (by kernel_rfl) (by kernel_rfl) (fun _ hb => load_dec ((UP0.keep hb).slot)) (fun _ _ _ h => h) hS ?_
          refine rg_load 2 (some 55) (.agg #[.slice a1 len1 cap1]) 46 4 (w.heap.size + 1) 0 (by kernel_rfl) (by kernel_rfl) (by kernel_rfl) (fun _ hb => load_dec ((UP1.keep hb).slot)) (fun _ _ _ h => h) hS ?_
          refine rg_call 3 (some 56) 58 #[.agg #[.slice a0 len0 cap0], .agg #[.slice a1 len1 cap1]] (by kernel_rfl) (by kernel_rfl) (eAdd N0.a N1.a (by omega) (by omega)) ?_
          rintro e r12x1 ⟨Aa, Na, Ca, rfl, Oa, hka, hB⟩
          refine ⟨_, rfl, joinB hS hB, ?_⟩
          replace hS := joinB hS hB
          replace N0 := N0.keep hB
          replace N1 := N1.keep hB
          replace P0 := P0.keep hB
          replace P1 := P1.keep hB
          replace XA := XA.keep hB
          replace XB := XB.keep hB
          replace X0 := X0.keep hB
          replace X1 := X1.keep hB
          replace Xs := Xs.keep hB
          replace Xt := Xt.keep hB
          replace Os := Os.keep hB
          replace Ot := Ot.keep hB
          replace Ws := Ws.keep hB
          replace Wt := Wt.keep hB
          replace Wd := Wd.keep hB
          replace Xd := Xd.keep hB
          replace Xw := Xw.keep hB
          replace HB := joinB HB hB
          clear hB
          refine rg_call 4 (some 57) 36 #[.agg #[.slice As Ns Cs], .agg #[.slice Aa Na Ca]] (by kernel_rfl) (by kernel_rfl) (hDecT Os Oa (by omega) (by omega)) ?_
          rintro e r12x2 ⟨rfl, hB⟩
          refine ⟨_, rfl, joinB hS hB, ?_⟩
          replace hS := joinB hS hB
          replace N0 := N0.keep hB
          replace N1 := N1.keep hB
          replace P0 := P0.keep hB
          replace P1 := P1.keep hB
          replace XA := XA.keep hB
          replace XB := XB.keep hB
          replace X0 := X0.keep hB
          replace X1 := X1.keep hB
          replace Xs := Xs.keep hB
          replace Xt := Xt.keep hB
          replace Os := Os.keep hB
          replace Ot := Ot.keep hB
          replace Ws := Ws.keep hB
          replace Wt := Wt.keep hB
          replace Wd := Wd.keep hB
          replace Xd := Xd.keep hB
          replace Xw := Xw.keep hB
          replace Oa := Oa.keep hB
          replace HB := joinB HB hB
          clear hB
          refine rg_take 5 (some 58) (.bool false) (by kernel_rfl) (fun _ _ => by kernel_rfl) (fun _ _ _ h => h) hS ?_
          refine rg_take 6 (some 59) (.bool false) (by kernel_rfl) (fun _ _ => by kernel_rfl) (fun _ _ _ h => h) hS ?_
          refine rg_load 7 (some 60) (.agg #[.slice At Nt Ct]) 46 11 (g11) 0 (by kernel_rfl) (by kernel_rfl) (by kernel_rfl) (fun _ hb => load_dec ((UXt.keep hb).slot)) (fun _ _ _ h => h) hS ?_
          refine rg_load 8 (some 61) (.agg #[.slice a0 len0 cap0]) 46 3 (w.heap.size) 0 (by kernel_rfl) (by kernel_rfl) (by kernel_rfl) (fun _ hb => load_dec ((UP0.keep hb).slot)) (fun _ _ _ h => h) hS ?_
          refine rg_take 9 (some 62) (.int .u64 y2) (by kernel_rfl) (fun _ _ => by kernel_rfl) (fun _ _ _ h => h) hS ?_
          refine rg_call 10 (some 63) 59 #[.agg #[.slice a0 len0 cap0], .int .u64 y2] (by kernel_rfl) (by kernel_rfl) (eTimes N0.a (by omega) (by omega) (by omega)) ?_
          rintro e r12x3 ⟨Ab, Nb, Cb, rfl, Ob, hkb, hB⟩
          refine ⟨_, rfl, joinB hS hB, ?_⟩
          replace hS := joinB hS hB
          replace N0 := N0.keep hB
          replace N1 := N1.keep hB
          replace P0 := P0.keep hB
          replace P1 := P1.keep hB
          replace XA := XA.keep hB
          replace XB := XB.keep hB
          replace X0 := X0.keep hB
          replace X1 := X1.keep hB
          replace Xs := Xs.keep hB
          replace Xt := Xt.keep hB
          replace Os := Os.keep hB
          replace Ot := Ot.keep hB
          replace Ws := Ws.keep hB
          replace Wt := Wt.keep hB
          replace Wd := Wd.keep hB
          replace Xd := Xd.keep hB
          replace Xw := Xw.keep hB
          replace Oa := Oa.keep hB
          replace HB := joinB HB hB
          clear hB
          refine rg_call 11 (some 64) 36 #[.agg #[.slice At Nt Ct], .agg #[.slice Ab Nb Cb]] (by kernel_rfl) (by kernel_rfl) (hDecT Ot Ob (by omega) (by omega)) ?_
          rintro e r12x4 ⟨rfl, hB⟩
          refine ⟨_, rfl, joinB hS hB, ?_⟩
          replace hS := joinB hS hB
          replace N0 := N0.keep hB
          replace N1 := N1.keep hB
          replace P0 := P0.keep hB
          replace P1 := P1.keep hB
          replace XA := XA.keep hB
          replace XB := XB.keep hB
          replace X0 := X0.keep hB
          replace X1 := X1.keep hB
          replace Xs := Xs.keep hB
          replace Xt := Xt.keep hB
          replace Os := Os.keep hB
          replace Ot := Ot.keep hB
          replace Ws := Ws.keep hB
          replace Wt := Wt.keep hB
          replace Wd := Wd.keep hB
          replace Xd := Xd.keep hB
          replace Xw := Xw.keep hB
          replace Oa := Oa.keep hB
          replace Ob := Ob.keep hB
          replace HB := joinB HB hB
          clear hB
          refine rg_take 12 (some 65) (.bool false) (by kernel_rfl) (fun _ _ => by kernel_rfl) (fun _ _ _ h => h) hS ?_
          refine rg_take 13 (some 66) (.bool false) (by kernel_rfl) (fun _ _ => by kernel_rfl) (fun _ _ _ h => h) hS ?_
          refine rg_take 14 (some 67) (.bool false) (by kernel_rfl) (fun _ _ => by kernel_rfl) (fun _ _ _ h => h) hS ?_
          refine rg_load 15 (some 68) (.agg #[.slice none 0 0]) 46 12 (gd) 0 (by kernel_rfl) (by kernel_rfl) (by kernel_rfl) (fun _ hb => load_dec ((UXd.keep hb).slot)) (fun _ _ _ h => h) hS ?_
          refine rg_load 16 (some 69) (.agg #[.slice none 0 0]) 46 14 (gw) 0 (by kernel_rfl) (by kernel_rfl) (by kernel_rfl) (fun _ hb => load_dec ((UXw.keep hb).slot)) (fun _ _ _ h => h) hS ?_
          refine rg_call 17 (some 70) 36 #[.agg #[.slice none 0 0], .agg #[.slice none 0 0]] (by kernel_rfl) (by kernel_rfl) (hDecT (natO_nil _) (natO_nil _) (by omega) (by omega)) ?_
          rintro e r12x5 ⟨rfl, hB⟩
          refine ⟨_, rfl, joinB hS hB, ?_⟩
          replace hS := joinB hS hB
          replace N0 := N0.keep hB
          replace N1 := N1.keep hB
          replace P0 := P0.keep hB
          replace P1 := P1.keep hB
          replace XA := XA.keep hB
          replace XB := XB.keep hB
          replace X0 := X0.keep hB
          replace X1 := X1.keep hB
          replace Xs := Xs.keep hB
          replace Xt := Xt.keep hB
          replace Os := Os.keep hB
          replace Ot := Ot.keep hB
          replace Ws := Ws.keep hB
          replace Wt := Wt.keep hB
          replace Wd := Wd.keep hB
          replace Xd := Xd.keep hB
          replace Xw := Xw.keep hB
          replace Oa := Oa.keep hB
          replace Ob := Ob.keep hB
          replace HB := joinB HB hB
          clear hB
          refine rg_take 18 (some 71) (.bool false) (by kernel_rfl) (fun _ _ => by kernel_rfl) (fun _ _ _ h => h) hS ?_
          refine rg_take 19 (some 72) (.bool false) (by kernel_rfl) (fun _ _ => by kernel_rfl) (fun _ _ _ h => h) hS ?_
          refine rg_take 20 (some 73) (.bool false) (by kernel_rfl) (fun _ _ => by kernel_rfl) (fun _ _ _ h => h) hS ?_
          refine rg_take 21 (some 74) (.int .i64 20) (by kernel_rfl) (fun _ _ => by kernel_rfl) (fun _ _ _ h => h) hS ?_
          refine rg_take 22 (some 75) (.int .i64 20) (by kernel_rfl) (fun _ _ => by kernel_rfl) (fun _ _ _ h => h) hS ?_
          refine rg_take 23 (some 76) (.bool false) (by kernel_rfl) (fun _ _ => by kernel_rfl) (fun _ _ _ h => h) hS ?_
          refine rg_take 24 (some 77) (.bool false) (by kernel_rfl) (fun _ _ => by kernel_rfl) (fun _ _ _ h => h) hS ?_
          refine rg_done (by kernel_rfl) ?_
          clear hS UP0 UP1 UXA UXB UXs UXt UXd UXw
          try simp only [Act.put, List.setIfInBounds_toArray, List.set_cons_zero, List.set_cons_succ]
          clear Oa Ob Os Ot Xw
          obtain ⟨sx, hsx⟩ : ∃ s, sgn (val l0) (val l1) = s := ⟨_, rfl⟩
          obtain ⟨bz, hbz⟩ : ∃ b, decide (val l0 = 0) = b := ⟨_, rfl⟩
          cases bz
          · skip
            have c1P0 := P0.slot.cell
            have c1P1 := P1.slot.cell
            have c1XA := XA.slot.cell
            have c1XB := XB.slot.cell
            have c1Xs := Xs.slot.cell
            have c1Xt := Xt.slot.cell
            have c1Xd := Xd.slot.cell
            go_wp2_with fail
            clear c1P0 c1P1 c1XA c1XB c1Xs c1Xt c1Xd
            refine rg_start (S := fun w' => Below r12x5.drew.heap.size r12x5.drew w') (by kernel_rfl) (Below.refl _ _) ?_
            replace N0 := N0.drew
            replace N1 := N1.drew
            replace P0 := P0.drew
            replace P1 := P1.drew
            replace XA := XA.drew
            replace XB := XB.drew
            replace X0 := X0.drew
            replace X1 := X1.drew
            replace Xs := Xs.drew
            replace Xt := Xt.drew
            replace Ws := Ws.drew
            replace Wt := Wt.drew
            replace Wd := Wd.drew
            replace Xd := Xd.drew
            replace HB := HB.drew
            have UP0 := P0
            have UP1 := P1
            have UXA := XA
            have UXB := XB
            have UXs := Xs
            have UXt := Xt
            have UXd := Xd
            have hS := Below.refl r12x5.drew.heap.size r12x5.drew
            refine rg_take 0 (some 78) (.int .u64 y2) (by kernel_rfl) (fun _ _ => by kernel_rfl) (fun _ _ _ h => h) hS ?_
            refine rg_take 2 (some 80) (.int .u64 y2) (by kernel_rfl) (fun _ _ => by kernel_rfl) (fun _ _ _ h => h) hS ?_
            refine rg_call 1 (some 79) 60 #[.int .u64 y2] (by kernel_rfl) (by kernel_rfl) (dOf (by omega) (by omega)) ?_
            rintro e r14x1 ⟨Aa, Na, Ca, rfl, Oa, hka, hB⟩
            refine ⟨_, rfl, joinB hS hB, ?_⟩
            replace hS := joinB hS hB
            replace N0 := N0.keep hB
            replace N1 := N1.keep hB
            replace P0 := P0.keep hB
            replace P1 := P1.keep hB
            replace XA := XA.keep hB
            replace XB := XB.keep hB
            replace X0 := X0.keep hB
            replace X1 := X1.keep hB
            replace Xs := Xs.keep hB
            replace Xt := Xt.keep hB
            replace Ws := Ws.keep hB
            replace Wt := Wt.keep hB
            replace Wd := Wd.keep hB
            replace Xd := Xd.keep hB
            replace HB := joinB HB hB
            clear hB
            refine rg_call 3 (some 81) 61 #[.int .u64 y2] (by kernel_rfl) (by kernel_rfl) (eOf (by omega) (by omega)) ?_
            rintro e r14x2 ⟨Ab, Nb, Cb, rfl, Ob, hkb, hB⟩
            refine ⟨_, rfl, joinB hS hB, ?_⟩
            replace hS := joinB hS hB
            replace N0 := N0.keep hB
            replace N1 := N1.keep hB
            replace P0 := P0.keep hB
            replace P1 := P1.keep hB
            replace XA := XA.keep hB
            replace XB := XB.keep hB
            replace X0 := X0.keep hB
            replace X1 := X1.keep hB
            replace Xs := Xs.keep hB
            replace Xt := Xt.keep hB
            replace Ws := Ws.keep hB
            replace Wt := Wt.keep hB
            replace Wd := Wd.keep hB
            replace Xd := Xd.keep hB
            replace Oa := Oa.keep hB
            replace HB := joinB HB hB
            clear hB
            refine rg_call 4 (some 82) 36 #[.agg #[.slice Aa Na Ca], .agg #[.slice Ab Nb Cb]] (by kernel_rfl) (by kernel_rfl) (hDecT Oa Ob (by omega) (by omega)) ?_
            rintro e r14x3 ⟨rfl, hB⟩
            refine ⟨_, rfl, joinB hS hB, ?_⟩
            replace hS := joinB hS hB
            replace N0 := N0.keep hB
            replace N1 := N1.keep hB
            replace P0 := P0.keep hB
            replace P1 := P1.keep hB
            replace XA := XA.keep hB
            replace XB := XB.keep hB
            replace X0 := X0.keep hB
            replace X1 := X1.keep hB
            replace Xs := Xs.keep hB
            replace Xt := Xt.keep hB
            replace Ws := Ws.keep hB
            replace Wt := Wt.keep hB
            replace Wd := Wd.keep hB
            replace Xd := Xd.keep hB
            replace Oa := Oa.keep hB
            replace Ob := Ob.keep hB
            replace HB := joinB HB hB
            clear hB
            refine rg_take 5 (some 83) (.bool false) (by kernel_rfl) (fun _ _ => by kernel_rfl) (fun _ _ _ h => h) hS ?_
            refine rg_take 6 (some 84) (.bool false) (by kernel_rfl) (fun _ _ => by kernel_rfl) (fun _ _ _ h => h) hS ?_
            refine rg_take 7 (some 85) (.int .u64 y2) (by kernel_rfl) (fun _ _ => by kernel_rfl) (fun _ _ _ h => h) hS ?_
            refine rg_take 9 (some 87) (.int .u64 y2) (by kernel_rfl) (fun _ _ => by kernel_rfl) (fun _ _ _ h => h) hS ?_
            refine rg_call 8 (some 86) 62 #[.int .u64 y2] (by kernel_rfl) (by kernel_rfl) (dBasis (by omega) (by omega)) ?_
            rintro e r14x4 ⟨Ac, Nc, Cc, rfl, Oc, hkc, hB⟩
            refine ⟨_, rfl, joinB hS hB, ?_⟩
            replace hS := joinB hS hB
            replace N0 := N0.keep hB
            replace N1 := N1.keep hB
            replace P0 := P0.keep hB
            replace P1 := P1.keep hB
            replace XA := XA.keep hB
            replace XB := XB.keep hB
            replace X0 := X0.keep hB
            replace X1 := X1.keep hB
            replace Xs := Xs.keep hB
            replace Xt := Xt.keep hB
            replace Ws := Ws.keep hB
            replace Wt := Wt.keep hB
            replace Wd := Wd.keep hB
            replace Xd := Xd.keep hB
            replace Oa := Oa.keep hB
            replace Ob := Ob.keep hB
            replace HB := joinB HB hB
            clear hB
            refine rg_call 10 (some 88) 63 #[.int .u64 y2] (by kernel_rfl) (by kernel_rfl) (eBasis (by omega) (by omega)) ?_
            rintro e r14x5 ⟨Ae, Ne, Ce, rfl, Oe, hke, hB⟩
            refine ⟨_, rfl, joinB hS hB, ?_⟩
            replace hS := joinB hS hB
            replace N0 := N0.keep hB
            replace N1 := N1.keep hB
            replace P0 := P0.keep hB
            replace P1 := P1.keep hB
            replace XA := XA.keep hB
            replace XB := XB.keep hB
            replace X0 := X0.keep hB
            replace X1 := X1.keep hB
            replace Xs := Xs.keep hB
            replace Xt := Xt.keep hB
            replace Ws := Ws.keep hB
            replace Wt := Wt.keep hB
            replace Wd := Wd.keep hB
            replace Xd := Xd.keep hB
            replace Oa := Oa.keep hB
            replace Ob := Ob.keep hB
            replace Oc := Oc.keep hB
            replace HB := joinB HB hB
            clear hB
            refine rg_call 11 (some 89) 36 #[.agg #[.slice Ac Nc Cc], .agg #[.slice Ae Ne Ce]] (by kernel_rfl) (by kernel_rfl) (hDecT (Oc.eqv (basis_is y2)) Oe (by omega) (by omega)) ?_
            rintro e r14x6 ⟨rfl, hB⟩
            refine ⟨_, rfl, joinB hS hB, ?_⟩
            replace hS := joinB hS hB
            replace N0 := N0.keep hB
            replace N1 := N1.keep hB
            replace P0 := P0.keep hB
            replace P1 := P1.keep hB
            replace XA := XA.keep hB
            replace XB := XB.keep hB
            replace X0 := X0.keep hB
            replace X1 := X1.keep hB
            replace Xs := Xs.keep hB
            replace Xt := Xt.keep hB
            replace Ws := Ws.keep hB
            replace Wt := Wt.keep hB
            replace Wd := Wd.keep hB
            replace Xd := Xd.keep hB
            replace Oa := Oa.keep hB
            replace Ob := Ob.keep hB
            replace Oc := Oc.keep hB
            replace Oe := Oe.keep hB
            replace HB := joinB HB hB
            clear hB
            refine rg_take 12 (some 90) (.bool false) (by kernel_rfl) (fun _ _ => by kernel_rfl) (fun _ _ _ h => h) hS ?_
            refine rg_take 13 (some 91) (.bool false) (by kernel_rfl) (fun _ _ => by kernel_rfl) (fun _ _ _ h => h) hS ?_
            refine rg_take 14 (some 92) (.bool false) (by kernel_rfl) (fun _ _ => by kernel_rfl) (fun _ _ _ h => h) hS ?_
            refine rg_take 15 (some 93) (.pointer (some ⟨g7, 0, none⟩)) (by kernel_rfl) (fun _ _ => by kernel_rfl) (fun _ _ _ h => h) hS ?_
            refine rg_load 16 (some 94) (.slice ax len0 dx) 28 93 (g7) 0 (by kernel_rfl) (by kernel_rfl) (by kernel_rfl) (fun _ hb => load_raw ((UXA.keep hb).slot)) (fun _ _ _ h => h) hS ?_
            refine rg_take 18 (some 96) (.pointer (some ⟨w.heap.size, 0, none⟩)) (by kernel_rfl) (fun _ _ => by kernel_rfl) (fun _ _ _ h => h) hS ?_
            refine rg_load 19 (some 97) (.slice a0 len0 cap0) 28 96 (w.heap.size) 0 (by kernel_rfl) (by kernel_rfl) (by kernel_rfl) (fun _ hb => load_raw ((UP0.keep hb).slot)) (fun _ _ _ h => h) hS ?_
            refine rg_call 17 (some 95) 64 #[.slice ax len0 dx] (by kernel_rfl) (by kernel_rfl) (dOfNat X0.a (by omega)) ?_
            rintro e r14x7 ⟨Af, Nf, Cf, rfl, Of, hkf, hB⟩
            refine ⟨_, rfl, joinB hS hB, ?_⟩
            replace hS := joinB hS hB
            replace N0 := N0.keep hB
            replace N1 := N1.keep hB
            replace P0 := P0.keep hB
            replace P1 := P1.keep hB
            replace XA := XA.keep hB
            replace XB := XB.keep hB
            replace X0 := X0.keep hB
            replace X1 := X1.keep hB
            replace Xs := Xs.keep hB
            replace Xt := Xt.keep hB
            replace Ws := Ws.keep hB
            replace Wt := Wt.keep hB
            replace Wd := Wd.keep hB
            replace Xd := Xd.keep hB
            replace Oa := Oa.keep hB
            replace Ob := Ob.keep hB
            replace Oc := Oc.keep hB
            replace Oe := Oe.keep hB
            replace HB := joinB HB hB
            clear hB
            refine rg_call 20 (some 98) 65 #[.slice a0 len0 cap0] (by kernel_rfl) (by kernel_rfl) (eOfNat N0.a (by omega)) ?_
            rintro e r14x8 ⟨Ag, Ng, Cg, rfl, Og, hkg, hB⟩
            refine ⟨_, rfl, joinB hS hB, ?_⟩
            replace hS := joinB hS hB
            replace N0 := N0.keep hB
            replace N1 := N1.keep hB
            replace P0 := P0.keep hB
            replace P1 := P1.keep hB
            replace XA := XA.keep hB
            replace XB := XB.keep hB
            replace X0 := X0.keep hB
            replace X1 := X1.keep hB
            replace Xs := Xs.keep hB
            replace Xt := Xt.keep hB
            replace Ws := Ws.keep hB
            replace Wt := Wt.keep hB
            replace Wd := Wd.keep hB
            replace Xd := Xd.keep hB
            replace Oa := Oa.keep hB
            replace Ob := Ob.keep hB
            replace Oc := Oc.keep hB
            replace Oe := Oe.keep hB
            replace Of := Of.keep hB
            replace HB := joinB HB hB
            clear hB
            refine rg_call 21 (some 99) 36 #[.agg #[.slice Af Nf Cf], .agg #[.slice Ag Ng Cg]] (by kernel_rfl) (by kernel_rfl) (hDecT Of Og (by omega) (by omega)) ?_
            rintro e r14x9 ⟨rfl, hB⟩
            refine ⟨_, rfl, joinB hS hB, ?_⟩
            replace hS := joinB hS hB
            replace N0 := N0.keep hB
            replace N1 := N1.keep hB
            replace P0 := P0.keep hB
            replace P1 := P1.keep hB
            replace XA := XA.keep hB
            replace XB := XB.keep hB
            replace X0 := X0.keep hB
            replace X1 := X1.keep hB
            replace Xs := Xs.keep hB
            replace Xt := Xt.keep hB
            replace Ws := Ws.keep hB
            replace Wt := Wt.keep hB
            replace Wd := Wd.keep hB
            replace Xd := Xd.keep hB
            replace Oa := Oa.keep hB
            replace Ob := Ob.keep hB
            replace Oc := Oc.keep hB
            replace Oe := Oe.keep hB
            replace Of := Of.keep hB
            replace Og := Og.keep hB
            replace HB := joinB HB hB
            clear hB
            refine rg_take 22 (some 100) (.bool false) (by kernel_rfl) (fun _ _ => by kernel_rfl) (fun _ _ _ h => h) hS ?_
            refine rg_take 23 (some 101) (.bool false) (by kernel_rfl) (fun _ _ => by kernel_rfl) (fun _ _ _ h => h) hS ?_
            refine rg_take 24 (some 102) (.bool false) (by kernel_rfl) (fun _ _ => by kernel_rfl) (fun _ _ _ h => h) hS ?_
            refine rg_load 25 (some 103) (.agg #[.slice ax len0 dx]) 46 7 (g7) 0 (by kernel_rfl) (by kernel_rfl) (by kernel_rfl) (fun _ hb => load_dec ((UXA.keep hb).slot)) (fun _ _ _ h => h) hS ?_
            refine rg_load 27 (some 105) (.agg #[.slice a0 len0 cap0]) 46 3 (w.heap.size) 0 (by kernel_rfl) (by kernel_rfl) (by kernel_rfl) (fun _ hb => load_dec ((UP0.keep hb).slot)) (fun _ _ _ h => h) hS ?_
            refine rg_call 26 (some 104) 33 #[.agg #[.slice ax len0 dx]] (by kernel_rfl) (by kernel_rfl) (zeroD X0.a (by omega) false hbz) ?_
            rintro e r14x10 ⟨rfl, hB⟩
            refine ⟨_, rfl, joinB hS hB, ?_⟩
            replace hS := joinB hS hB
            replace N0 := N0.keep hB
            replace N1 := N1.keep hB
            replace P0 := P0.keep hB
            replace P1 := P1.keep hB
            replace XA := XA.keep hB
            replace XB := XB.keep hB
            replace X0 := X0.keep hB
            replace X1 := X1.keep hB
            replace Xs := Xs.keep hB
            replace Xt := Xt.keep hB
            replace Ws := Ws.keep hB
            replace Wt := Wt.keep hB
            replace Wd := Wd.keep hB
            replace Xd := Xd.keep hB
            replace Oa := Oa.keep hB
            replace Ob := Ob.keep hB
            replace Oc := Oc.keep hB
            replace Oe := Oe.keep hB
            replace Of := Of.keep hB
            replace Og := Og.keep hB
            replace HB := joinB HB hB
            clear hB
            refine rg_call 28 (some 106) 66 #[.agg #[.slice a0 len0 cap0]] (by kernel_rfl) (by kernel_rfl) (zeroE N0.a (by omega) false hbz) ?_
            rintro e r14x11 ⟨rfl, hB⟩
            refine ⟨_, rfl, joinB hS hB, ?_⟩
            replace hS := joinB hS hB
            replace N0 := N0.keep hB
            replace N1 := N1.keep hB
            replace P0 := P0.keep hB
            replace P1 := P1.keep hB
            replace XA := XA.keep hB
            replace XB := XB.keep hB
            replace X0 := X0.keep hB
            replace X1 := X1.keep hB
            replace Xs := Xs.keep hB
            replace Xt := Xt.keep hB
            replace Ws := Ws.keep hB
            replace Wt := Wt.keep hB
            replace Wd := Wd.keep hB
            replace Xd := Xd.keep hB
            replace Oa := Oa.keep hB
            replace Ob := Ob.keep hB
            replace Oc := Oc.keep hB
            replace Oe := Oe.keep hB
            replace Of := Of.keep hB
            replace Og := Og.keep hB
            replace HB := joinB HB hB
            clear hB
            refine rg_take 29 (some 107) (.bool false) (by kernel_rfl) (fun _ _ => by kernel_rfl) (fun _ _ _ h => h) hS ?_
            refine rg_take 30 (some 108) (.bool false) (by kernel_rfl) (fun _ _ => by kernel_rfl) (fun _ _ _ h => h) hS ?_
            refine rg_take 31 (some 109) (.bool false) (by kernel_rfl) (fun _ _ => by kernel_rfl) (fun _ _ _ h => h) hS ?_
            refine rg_load 32 (some 110) (.agg #[.slice ax len0 dx]) 46 7 (g7) 0 (by kernel_rfl) (by kernel_rfl) (by kernel_rfl) (fun _ hb => load_dec ((UXA.keep hb).slot)) (fun _ _ _ h => h) hS ?_
            refine rg_load 33 (some 111) (.agg #[.slice ay len1 dy]) 46 8 (g8) 0 (by kernel_rfl) (by kernel_rfl) (by kernel_rfl) (fun _ hb => load_dec ((UXB.keep hb).slot)) (fun _ _ _ h => h) hS ?_
            refine rg_load 35 (some 113) (.agg #[.slice a0 len0 cap0]) 46 3 (w.heap.size) 0 (by kernel_rfl) (by kernel_rfl) (by kernel_rfl) (fun _ hb => load_dec ((UP0.keep hb).slot)) (fun _ _ _ h => h) hS ?_
            refine rg_load 36 (some 114) (.agg #[.slice a1 len1 cap1]) 46 4 (w.heap.size + 1) 0 (by kernel_rfl) (by kernel_rfl) (by kernel_rfl) (fun _ hb => load_dec ((UP1.keep hb).slot)) (fun _ _ _ h => h) hS ?_
            refine rg_call 34 (some 112) 32 #[.agg #[.slice ax len0 dx], .agg #[.slice ay len1 dy]] (by kernel_rfl) (by kernel_rfl) (cmpD X0.a X1.a (by omega) (by omega) sx hsx) ?_
            rintro e r14x12 ⟨rfl, hB⟩
            refine ⟨_, rfl, joinB hS hB, ?_⟩
            replace hS := joinB hS hB
            replace N0 := N0.keep hB
            replace N1 := N1.keep hB
            replace P0 := P0.keep hB
            replace P1 := P1.keep hB
            replace XA := XA.keep hB
            replace XB := XB.keep hB
            replace X0 := X0.keep hB
            replace X1 := X1.keep hB
            replace Xs := Xs.keep hB
            replace Xt := Xt.keep hB
            replace Ws := Ws.keep hB
            replace Wt := Wt.keep hB
            replace Wd := Wd.keep hB
            replace Xd := Xd.keep hB
            replace Oa := Oa.keep hB
            replace Ob := Ob.keep hB
            replace Oc := Oc.keep hB
            replace Oe := Oe.keep hB
            replace Of := Of.keep hB
            replace Og := Og.keep hB
            replace HB := joinB HB hB
            clear hB
            refine rg_call 37 (some 115) 67 #[.agg #[.slice a0 len0 cap0], .agg #[.slice a1 len1 cap1]] (by kernel_rfl) (by kernel_rfl) (cmpE N0.a N1.a (by omega) (by omega) sx hsx) ?_
            rintro e r14x13 ⟨rfl, hB⟩
            refine ⟨_, rfl, joinB hS hB, ?_⟩
            replace hS := joinB hS hB
            replace N0 := N0.keep hB
            replace N1 := N1.keep hB
            replace P0 := P0.keep hB
            replace P1 := P1.keep hB
            replace XA := XA.keep hB
            replace XB := XB.keep hB
            replace X0 := X0.keep hB
            replace X1 := X1.keep hB
            replace Xs := Xs.keep hB
            replace Xt := Xt.keep hB
            replace Ws := Ws.keep hB
            replace Wt := Wt.keep hB
            replace Wd := Wd.keep hB
            replace Xd := Xd.keep hB
            replace Oa := Oa.keep hB
            replace Ob := Ob.keep hB
            replace Oc := Oc.keep hB
            replace Oe := Oe.keep hB
            replace Of := Of.keep hB
            replace Og := Og.keep hB
            replace HB := joinB HB hB
            clear hB
            refine rg_eq 38 (some 116) (.bool ((sx : Int) != sx)) (.bool false) (by rw [bne_self_eq_false]) (by kernel_rfl) (fun _ _ => by kernel_rfl) (fun _ _ _ h => h) hS ?_
            refine rg_take 39 (some 117) (.bool false) (by kernel_rfl) (fun _ _ => by kernel_rfl) (fun _ _ _ h => h) hS ?_
            refine rg_done (by kernel_rfl) ?_
            clear hS UP0 UP1 UXA UXB UXs UXt UXd
            try simp only [Act.put, List.setIfInBounds_toArray, List.set_cons_zero, List.set_cons_succ]
            clear Oa Ob Oc Oe Of Og
            have c1P0 := P0.slot.cell
            have c1P1 := P1.slot.cell
            have c1XA := XA.slot.cell
            have c1XB := XB.slot.cell
            have c1Xs := Xs.slot.cell
            have c1Xt := Xt.slot.cell
            have c1Xd := Xd.slot.cell
            go_wp2_with fail
            refine (uSpoil Ws (by omega)).mono ?_
            rintro e s5w ⟨rfl, ⟨TT, hT⟩, hX, hB⟩
            clear c1P0 c1P1 c1XA c1XB c1Xs c1Xt c1Xd
            replace Xt := hX _ _ _ Xt (no_ints1 _ _ _)
            replace Xd := hX _ _ _ Xd (no_ints1 _ _ _)
            replace Wt := Wt.turn hT
            replace Wd := Wd.turn hT
            replace HB := HB.trans hB
            clear hT hX hB TT
            replace N0 := N0u.keep HB
            replace N1 := N1u.keep HB
            replace P0 := P0u.keep HB
            replace P1 := P1u.keep HB
            replace XA := XAu.keep HB
            replace XB := XBu.keep HB
            replace X0 := X0u.keep HB
            replace X1 := X1u.keep HB
            clear Ws Xs
            have c1P0 := P0.slot.cell
            have c1P1 := P1.slot.cell
            have c1XA := XA.slot.cell
            have c1XB := XB.slot.cell
            have c1Xt := Xt.slot.cell
            have c1Xd := Xd.slot.cell
            go_wp2_with fail
            refine (uSpoil Wt (by omega)).mono ?_
            rintro e s6w ⟨rfl, ⟨TT, hT⟩, hX, hB⟩
            clear c1P0 c1P1 c1XA c1XB c1Xt c1Xd
            replace Xd := hX _ _ _ Xd (no_ints1 _ _ _)
            replace Wd := Wd.turn hT
            replace HB := HB.trans hB
            clear hT hX hB TT
            replace N0 := N0u.keep HB
            replace N1 := N1u.keep HB
            replace P0 := P0u.keep HB
            replace P1 := P1u.keep HB
            replace XA := XAu.keep HB
            replace XB := XBu.keep HB
            replace X0 := X0u.keep HB
            replace X1 := X1u.keep HB
            clear Wt Xt
            have c1P0 := P0.slot.cell
            have c1P1 := P1.slot.cell
            have c1XA := XA.slot.cell
            have c1XB := XB.slot.cell
            have c1Xd := Xd.slot.cell
            go_wp2_with fail
            refine (uSpoil Wd (by omega)).mono ?_
            rintro e s7w ⟨rfl, ⟨TT, hT⟩, hX, hB⟩
            clear c1P0 c1P1 c1XA c1XB c1Xd
            replace HB := HB.trans hB
            clear hT hX hB TT
            replace N0 := N0u.keep HB
            replace N1 := N1u.keep HB
            replace P0 := P0u.keep HB
            replace P1 := P1u.keep HB
            replace XA := XAu.keep HB
            replace XB := XBu.keep HB
            replace X0 := X0u.keep HB
            replace X1 := X1u.keep HB
            clear Wd Xd
            have c1P0 := P0.slot.cell
            have c1P1 := P1.slot.cell
            have c1XA := XA.slot.cell
            have c1XB := XB.slot.cell
            go_wp2_with fail
            refine (lDec X0 N0 (by omega) (by omega)).mono ?_
            rintro e x8 ⟨rfl, hB⟩
            clear c1P0 c1P1 c1XA c1XB
            replace N0 := N0.keep hB
            replace N1 := N1.keep hB
            replace P0 := P0.keep hB
            replace P1 := P1.keep hB
            replace XA := XA.keep hB
            replace XB := XB.keep hB
            replace X0 := X0.keep hB
            replace X1 := X1.keep hB
            replace HB := joinB HB hB
            clear hB
            have c1P0 := P0.slot.cell
            have c1P1 := P1.slot.cell
            have c1XA := XA.slot.cell
            have c1XB := XB.slot.cell
            go_wp2_with fail
            refine (lDec X1 N1 (by omega) (by omega)).mono ?_
            rintro e x9 ⟨rfl, hB⟩
            clear c1P0 c1P1 c1XA c1XB
            replace N0 := N0.keep hB
            replace N1 := N1.keep hB
            replace P0 := P0.keep hB
            replace P1 := P1.keep hB
            replace XA := XA.keep hB
            replace XB := XB.keep hB
            replace X0 := X0.keep hB
            replace X1 := X1.keep hB
            replace HB := joinB HB hB
            clear hB
            go_wp2
            go_roundw
            case rel => exact ⟨k + 1, by omega, by go_num, HB⟩
            case measure => simp [intOf]; omega
          · skip
            have c1P0 := P0.slot.cell
            have c1P1 := P1.slot.cell
            have c1XA := XA.slot.cell
            have c1XB := XB.slot.cell
            have c1Xs := Xs.slot.cell
            have c1Xt := Xt.slot.cell
            have c1Xd := Xd.slot.cell
            go_wp2_with fail
            clear c1P0 c1P1 c1XA c1XB c1Xs c1Xt c1Xd
            refine rg_start (S := fun w' => Below r12x5.drew.heap.size r12x5.drew w') (by kernel_rfl) (Below.refl _ _) ?_
            replace N0 := N0.drew
            replace N1 := N1.drew
            replace P0 := P0.drew
            replace P1 := P1.drew
            replace XA := XA.drew
            replace XB := XB.drew
            replace X0 := X0.drew
            replace X1 := X1.drew
            replace Xs := Xs.drew
            replace Xt := Xt.drew
            replace Ws := Ws.drew
            replace Wt := Wt.drew
            replace Wd := Wd.drew
            replace Xd := Xd.drew
            replace HB := HB.drew
            have UP0 := P0
            have UP1 := P1
            have UXA := XA
            have UXB := XB
            have UXs := Xs
            have UXt := Xt
            have UXd := Xd
            have hS := Below.refl r12x5.drew.heap.size r12x5.drew
            refine rg_take 0 (some 78) (.int .u64 y2) (by kernel_rfl) (fun _ _ => by kernel_rfl) (fun _ _ _ h => h) hS ?_
            refine rg_take 2 (some 80) (.int .u64 y2) (by kernel_rfl) (fun _ _ => by kernel_rfl) (fun _ _ _ h => h) hS ?_
            refine rg_call 1 (some 79) 60 #[.int .u64 y2] (by kernel_rfl) (by kernel_rfl) (dOf (by omega) (by omega)) ?_
            rintro e r14x1 ⟨Aa, Na, Ca, rfl, Oa, hka, hB⟩
            refine ⟨_, rfl, joinB hS hB, ?_⟩
            replace hS := joinB hS hB
            replace N0 := N0.keep hB
            replace N1 := N1.keep hB
            replace P0 := P0.keep hB
            replace P1 := P1.keep hB
            replace XA := XA.keep hB
            replace XB := XB.keep hB
            replace X0 := X0.keep hB
            replace X1 := X1.keep hB
            replace Xs := Xs.keep hB
            replace Xt := Xt.keep hB
            replace Ws := Ws.keep hB
            replace Wt := Wt.keep hB
            replace Wd := Wd.keep hB
            replace Xd := Xd.keep hB
            replace HB := joinB HB hB
            clear hB
            refine rg_call 3 (some 81) 61 #[.int .u64 y2] (by kernel_rfl) (by kernel_rfl) (eOf (by omega) (by omega)) ?_
            rintro e r14x2 ⟨Ab, Nb, Cb, rfl, Ob, hkb, hB⟩
            refine ⟨_, rfl, joinB hS hB, ?_⟩
            replace hS := joinB hS hB
            replace N0 := N0.keep hB
            replace N1 := N1.keep hB
            replace P0 := P0.keep hB
            replace P1 := P1.keep hB
            replace XA := XA.keep hB
            replace XB := XB.keep hB
            replace X0 := X0.keep hB
            replace X1 := X1.keep hB
            replace Xs := Xs.keep hB
            replace Xt := Xt.keep hB
            replace Ws := Ws.keep hB
            replace Wt := Wt.keep hB
            replace Wd := Wd.keep hB
            replace Xd := Xd.keep hB
            replace Oa := Oa.keep hB
            replace HB := joinB HB hB
            clear hB
            refine rg_call 4 (some 82) 36 #[.agg #[.slice Aa Na Ca], .agg #[.slice Ab Nb Cb]] (by kernel_rfl) (by kernel_rfl) (hDecT Oa Ob (by omega) (by omega)) ?_
            rintro e r14x3 ⟨rfl, hB⟩
            refine ⟨_, rfl, joinB hS hB, ?_⟩
            replace hS := joinB hS hB
            replace N0 := N0.keep hB
            replace N1 := N1.keep hB
            replace P0 := P0.keep hB
            replace P1 := P1.keep hB
            replace XA := XA.keep hB
            replace XB := XB.keep hB
            replace X0 := X0.keep hB
            replace X1 := X1.keep hB
            replace Xs := Xs.keep hB
            replace Xt := Xt.keep hB
            replace Ws := Ws.keep hB
            replace Wt := Wt.keep hB
            replace Wd := Wd.keep hB
            replace Xd := Xd.keep hB
            replace Oa := Oa.keep hB
            replace Ob := Ob.keep hB
            replace HB := joinB HB hB
            clear hB
            refine rg_take 5 (some 83) (.bool false) (by kernel_rfl) (fun _ _ => by kernel_rfl) (fun _ _ _ h => h) hS ?_
            refine rg_take 6 (some 84) (.bool false) (by kernel_rfl) (fun _ _ => by kernel_rfl) (fun _ _ _ h => h) hS ?_
            refine rg_take 7 (some 85) (.int .u64 y2) (by kernel_rfl) (fun _ _ => by kernel_rfl) (fun _ _ _ h => h) hS ?_
            refine rg_take 9 (some 87) (.int .u64 y2) (by kernel_rfl) (fun _ _ => by kernel_rfl) (fun _ _ _ h => h) hS ?_
            refine rg_call 8 (some 86) 62 #[.int .u64 y2] (by kernel_rfl) (by kernel_rfl) (dBasis (by omega) (by omega)) ?_
            rintro e r14x4 ⟨Ac, Nc, Cc, rfl, Oc, hkc, hB⟩
            refine ⟨_, rfl, joinB hS hB, ?_⟩
            replace hS := joinB hS hB
            replace N0 := N0.keep hB
            replace N1 := N1.keep hB
            replace P0 := P0.keep hB
            replace P1 := P1.keep hB
            replace XA := XA.keep hB
            replace XB := XB.keep hB
            replace X0 := X0.keep hB
            replace X1 := X1.keep hB
            replace Xs := Xs.keep hB
            replace Xt := Xt.keep hB
            replace Ws := Ws.keep hB
            replace Wt := Wt.keep hB
            replace Wd := Wd.keep hB
            replace Xd := Xd.keep hB
            replace Oa := Oa.keep hB
            replace Ob := Ob.keep hB
            replace HB := joinB HB hB
            clear hB
            refine rg_call 10 (some 88) 63 #[.int .u64 y2] (by kernel_rfl) (by kernel_rfl) (eBasis (by omega) (by omega)) ?_
            rintro e r14x5 ⟨Ae, Ne, Ce, rfl, Oe, hke, hB⟩
            refine ⟨_, rfl, joinB hS hB, ?_⟩
            replace hS := joinB hS hB
            replace N0 := N0.keep hB
            replace N1 := N1.keep hB
            replace P0 := P0.keep hB
            replace P1 := P1.keep hB
            replace XA := XA.keep hB
            replace XB := XB.keep hB
            replace X0 := X0.keep hB
            replace X1 := X1.keep hB
            replace Xs := Xs.keep hB
            replace Xt := Xt.keep hB
            replace Ws := Ws.keep hB
            replace Wt := Wt.keep hB
            replace Wd := Wd.keep hB
            replace Xd := Xd.keep hB
            replace Oa := Oa.keep hB
            replace Ob := Ob.keep hB
            replace Oc := Oc.keep hB
            replace HB := joinB HB hB
            clear hB
            refine rg_call 11 (some 89) 36 #[.agg #[.slice Ac Nc Cc], .agg #[.slice Ae Ne Ce]] (by kernel_rfl) (by kernel_rfl) (hDecT (Oc.eqv (basis_is y2)) Oe (by omega) (by omega)) ?_
            rintro e r14x6 ⟨rfl, hB⟩
            refine ⟨_, rfl, joinB hS hB, ?_⟩
            replace hS := joinB hS hB
            replace N0 := N0.keep hB
            replace N1 := N1.keep hB
            replace P0 := P0.keep hB
            replace P1 := P1.keep hB
            replace XA := XA.keep hB
            replace XB := XB.keep hB
            replace X0 := X0.keep hB
            replace X1 := X1.keep hB
            replace Xs := Xs.keep hB
            replace Xt := Xt.keep hB
            replace Ws := Ws.keep hB
            replace Wt := Wt.keep hB
            replace Wd := Wd.keep hB
            replace Xd := Xd.keep hB
            replace Oa := Oa.keep hB
            replace Ob := Ob.keep hB
            replace Oc := Oc.keep hB
            replace Oe := Oe.keep hB
            replace HB := joinB HB hB
            clear hB
            refine rg_take 12 (some 90) (.bool false) (by kernel_rfl) (fun _ _ => by kernel_rfl) (fun _ _ _ h => h) hS ?_
            refine rg_take 13 (some 91) (.bool false) (by kernel_rfl) (fun _ _ => by kernel_rfl) (fun _ _ _ h => h) hS ?_
            refine rg_take 14 (some 92) (.bool false) (by kernel_rfl) (fun _ _ => by kernel_rfl) (fun _ _ _ h => h) hS ?_
            refine rg_take 15 (some 93) (.pointer (some ⟨g7, 0, none⟩)) (by kernel_rfl) (fun _ _ => by kernel_rfl) (fun _ _ _ h => h) hS ?_
            refine rg_load 16 (some 94) (.slice ax len0 dx) 28 93 (g7) 0 (by kernel_rfl) (by kernel_rfl) (by kernel_rfl) (fun _ hb => load_raw ((UXA.keep hb).slot)) (fun _ _ _ h => h) hS ?_
            refine rg_take 18 (some 96) (.pointer (some ⟨w.heap.size, 0, none⟩)) (by kernel_rfl) (fun _ _ => by kernel_rfl) (fun _ _ _ h => h) hS ?_
            refine rg_load 19 (some 97) (.slice a0 len0 cap0) 28 96 (w.heap.size) 0 (by kernel_rfl) (by kernel_rfl) (by kernel_rfl) (fun _ hb => load_raw ((UP0.keep hb).slot)) (fun _ _ _ h => h) hS ?_
            refine rg_call 17 (some 95) 64 #[.slice ax len0 dx] (by kernel_rfl) (by kernel_rfl) (dOfNat X0.a (by omega)) ?_
            rintro e r14x7 ⟨Af, Nf, Cf, rfl, Of, hkf, hB⟩
            refine ⟨_, rfl, joinB hS hB, ?_⟩
            replace hS := joinB hS hB
            replace N0 := N0.keep hB
            replace N1 := N1.keep hB
            replace P0 := P0.keep hB
            replace P1 := P1.keep hB
            replace XA := XA.keep hB
            replace XB := XB.keep hB
            replace X0 := X0.keep hB
            replace X1 := X1.keep hB
            replace Xs := Xs.keep hB
            replace Xt := Xt.keep hB
            replace Ws := Ws.keep hB
            replace Wt := Wt.keep hB
            replace Wd := Wd.keep hB
            replace Xd := Xd.keep hB
            replace Oa := Oa.keep hB
            replace Ob := Ob.keep hB
            replace Oc := Oc.keep hB
            replace Oe := Oe.keep hB
            replace HB := joinB HB hB
            clear hB
            refine rg_call 20 (some 98) 65 #[.slice a0 len0 cap0] (by kernel_rfl) (by kernel_rfl) (eOfNat N0.a (by omega)) ?_
            rintro e r14x8 ⟨Ag, Ng, Cg, rfl, Og, hkg, hB⟩
            refine ⟨_, rfl, joinB hS hB, ?_⟩
            replace hS := joinB hS hB
            replace N0 := N0.keep hB
            replace N1 := N1.keep hB
            replace P0 := P0.keep hB
            replace P1 := P1.keep hB
            replace XA := XA.keep hB
            replace XB := XB.keep hB
            replace X0 := X0.keep hB
            replace X1 := X1.keep hB
            replace Xs := Xs.keep hB
            replace Xt := Xt.keep hB
            replace Ws := Ws.keep hB
            replace Wt := Wt.keep hB
            replace Wd := Wd.keep hB
            replace Xd := Xd.keep hB
            replace Oa := Oa.keep hB
            replace Ob := Ob.keep hB
            replace Oc := Oc.keep hB
            replace Oe := Oe.keep hB
            replace Of := Of.keep hB
            replace HB := joinB HB hB
            clear hB
            refine rg_call 21 (some 99) 36 #[.agg #[.slice Af Nf Cf], .agg #[.slice Ag Ng Cg]] (by kernel_rfl) (by kernel_rfl) (hDecT Of Og (by omega) (by omega)) ?_
            rintro e r14x9 ⟨rfl, hB⟩
            refine ⟨_, rfl, joinB hS hB, ?_⟩
            replace hS := joinB hS hB
            replace N0 := N0.keep hB
            replace N1 := N1.keep hB
            replace P0 := P0.keep hB
            replace P1 := P1.keep hB
            replace XA := XA.keep hB
            replace XB := XB.keep hB
            replace X0 := X0.keep hB
            replace X1 := X1.keep hB
            replace Xs := Xs.keep hB
            replace Xt := Xt.keep hB
            replace Ws := Ws.keep hB
            replace Wt := Wt.keep hB
            replace Wd := Wd.keep hB
            replace Xd := Xd.keep hB
            replace Oa := Oa.keep hB
            replace Ob := Ob.keep hB
            replace Oc := Oc.keep hB
            replace Oe := Oe.keep hB
            replace Of := Of.keep hB
            replace Og := Og.keep hB
            replace HB := joinB HB hB
            clear hB
            refine rg_take 22 (some 100) (.bool false) (by kernel_rfl) (fun _ _ => by kernel_rfl) (fun _ _ _ h => h) hS ?_
            refine rg_take 23 (some 101) (.bool false) (by kernel_rfl) (fun _ _ => by kernel_rfl) (fun _ _ _ h => h) hS ?_
            refine rg_take 24 (some 102) (.bool false) (by kernel_rfl) (fun _ _ => by kernel_rfl) (fun _ _ _ h => h) hS ?_
            refine rg_load 25 (some 103) (.agg #[.slice ax len0 dx]) 46 7 (g7) 0 (by kernel_rfl) (by kernel_rfl) (by kernel_rfl) (fun _ hb => load_dec ((UXA.keep hb).slot)) (fun _ _ _ h => h) hS ?_
            refine rg_load 27 (some 105) (.agg #[.slice a0 len0 cap0]) 46 3 (w.heap.size) 0 (by kernel_rfl) (by kernel_rfl) (by kernel_rfl) (fun _ hb => load_dec ((UP0.keep hb).slot)) (fun _ _ _ h => h) hS ?_
            refine rg_call 26 (some 104) 33 #[.agg #[.slice ax len0 dx]] (by kernel_rfl) (by kernel_rfl) (zeroD X0.a (by omega) true hbz) ?_
            rintro e r14x10 ⟨rfl, hB⟩
            refine ⟨_, rfl, joinB hS hB, ?_⟩
            replace hS := joinB hS hB
            replace N0 := N0.keep hB
            replace N1 := N1.keep hB
            replace P0 := P0.keep hB
            replace P1 := P1.keep hB
            replace XA := XA.keep hB
            replace XB := XB.keep hB
            replace X0 := X0.keep hB
            replace X1 := X1.keep hB
            replace Xs := Xs.keep hB
            replace Xt := Xt.keep hB
            replace Ws := Ws.keep hB
            replace Wt := Wt.keep hB
            replace Wd := Wd.keep hB
            replace Xd := Xd.keep hB
            replace Oa := Oa.keep hB
            replace Ob := Ob.keep hB
            replace Oc := Oc.keep hB
            replace Oe := Oe.keep hB
            replace Of := Of.keep hB
            replace Og := Og.keep hB
            replace HB := joinB HB hB
            clear hB
            refine rg_call 28 (some 106) 66 #[.agg #[.slice a0 len0 cap0]] (by kernel_rfl) (by kernel_rfl) (zeroE N0.a (by omega) true hbz) ?_
            rintro e r14x11 ⟨rfl, hB⟩
            refine ⟨_, rfl, joinB hS hB, ?_⟩
            replace hS := joinB hS hB
            replace N0 := N0.keep hB
            replace N1 := N1.keep hB
            replace P0 := P0.keep hB
            replace P1 := P1.keep hB
            replace XA := XA.keep hB
            replace XB := XB.keep hB
            replace X0 := X0.keep hB
            replace X1 := X1.keep hB
            replace Xs := Xs.keep hB
            replace Xt := Xt.keep hB
            replace Ws := Ws.keep hB
            replace Wt := Wt.keep hB
            replace Wd := Wd.keep hB
            replace Xd := Xd.keep hB
            replace Oa := Oa.keep hB
            replace Ob := Ob.keep hB
            replace Oc := Oc.keep hB
            replace Oe := Oe.keep hB
            replace Of := Of.keep hB
            replace Og := Og.keep hB
            replace HB := joinB HB hB
            clear hB
            refine rg_take 29 (some 107) (.bool false) (by kernel_rfl) (fun _ _ => by kernel_rfl) (fun _ _ _ h => h) hS ?_
            refine rg_take 30 (some 108) (.bool false) (by kernel_rfl) (fun _ _ => by kernel_rfl) (fun _ _ _ h => h) hS ?_
            refine rg_take 31 (some 109) (.bool false) (by kernel_rfl) (fun _ _ => by kernel_rfl) (fun _ _ _ h => h) hS ?_
            refine rg_load 32 (some 110) (.agg #[.slice ax len0 dx]) 46 7 (g7) 0 (by kernel_rfl) (by kernel_rfl) (by kernel_rfl) (fun _ hb => load_dec ((UXA.keep hb).slot)) (fun _ _ _ h => h) hS ?_
            refine rg_load 33 (some 111) (.agg #[.slice ay len1 dy]) 46 8 (g8) 0 (by kernel_rfl) (by kernel_rfl) (by kernel_rfl) (fun _ hb => load_dec ((UXB.keep hb).slot)) (fun _ _ _ h => h) hS ?_
            refine rg_load 35 (some 113) (.agg #[.slice a0 len0 cap0]) 46 3 (w.heap.size) 0 (by kernel_rfl) (by kernel_rfl) (by kernel_rfl) (fun _ hb => load_dec ((UP0.keep hb).slot)) (fun _ _ _ h => h) hS ?_
            refine rg_load 36 (some 114) (.agg #[.slice a1 len1 cap1]) 46 4 (w.heap.size + 1) 0 (by kernel_rfl) (by kernel_rfl) (by kernel_rfl) (fun _ hb => load_dec ((UP1.keep hb).slot)) (fun _ _ _ h => h) hS ?_
            refine rg_call 34 (some 112) 32 #[.agg #[.slice ax len0 dx], .agg #[.slice ay len1 dy]] (by kernel_rfl) (by kernel_rfl) (cmpD X0.a X1.a (by omega) (by omega) sx hsx) ?_
            rintro e r14x12 ⟨rfl, hB⟩
            refine ⟨_, rfl, joinB hS hB, ?_⟩
            replace hS := joinB hS hB
            replace N0 := N0.keep hB
            replace N1 := N1.keep hB
            replace P0 := P0.keep hB
            replace P1 := P1.keep hB
            replace XA := XA.keep hB
            replace XB := XB.keep hB
            replace X0 := X0.keep hB
            replace X1 := X1.keep hB
            replace Xs := Xs.keep hB
            replace Xt := Xt.keep hB
            replace Ws := Ws.keep hB
            replace Wt := Wt.keep hB
            replace Wd := Wd.keep hB
            replace Xd := Xd.keep hB
            replace Oa := Oa.keep hB
            replace Ob := Ob.keep hB
            replace Oc := Oc.keep hB
            replace Oe := Oe.keep hB
            replace Of := Of.keep hB
            replace Og := Og.keep hB
            replace HB := joinB HB hB
            clear hB
            refine rg_call 37 (some 115) 67 #[.agg #[.slice a0 len0 cap0], .agg #[.slice a1 len1 cap1]] (by kernel_rfl) (by kernel_rfl) (cmpE N0.a N1.a (by omega) (by omega) sx hsx) ?_
            rintro e r14x13 ⟨rfl, hB⟩
            refine ⟨_, rfl, joinB hS hB, ?_⟩
            replace hS := joinB hS hB
            replace N0 := N0.keep hB
            replace N1 := N1.keep hB
            replace P0 := P0.keep hB
            replace P1 := P1.keep hB
            replace XA := XA.keep hB
            replace XB := XB.keep hB
            replace X0 := X0.keep hB
            replace X1 := X1.keep hB
            replace Xs := Xs.keep hB
            replace Xt := Xt.keep hB
            replace Ws := Ws.keep hB
            replace Wt := Wt.keep hB
            replace Wd := Wd.keep hB
            replace Xd := Xd.keep hB
            replace Oa := Oa.keep hB
            replace Ob := Ob.keep hB
            replace Oc := Oc.keep hB
            replace Oe := Oe.keep hB
            replace Of := Of.keep hB
            replace Og := Og.keep hB
            replace HB := joinB HB hB
            clear hB
            refine rg_eq 38 (some 116) (.bool ((sx : Int) != sx)) (.bool false) (by rw [bne_self_eq_false]) (by kernel_rfl) (fun _ _ => by kernel_rfl) (fun _ _ _ h => h) hS ?_
            refine rg_take 39 (some 117) (.bool false) (by kernel_rfl) (fun _ _ => by kernel_rfl) (fun _ _ _ h => h) hS ?_
            refine rg_done (by kernel_rfl) ?_
            clear hS UP0 UP1 UXA UXB UXs UXt UXd
            try simp only [Act.put, List.setIfInBounds_toArray, List.set_cons_zero, List.set_cons_succ]
            clear Oa Ob Oc Oe Of Og
            have c1P0 := P0.slot.cell
            have c1P1 := P1.slot.cell
            have c1XA := XA.slot.cell
            have c1XB := XB.slot.cell
            have c1Xs := Xs.slot.cell
            have c1Xt := Xt.slot.cell
            have c1Xd := Xd.slot.cell
            go_wp2_with fail
            refine (uSpoil Ws (by omega)).mono ?_
            rintro e s5w ⟨rfl, ⟨TT, hT⟩, hX, hB⟩
            clear c1P0 c1P1 c1XA c1XB c1Xs c1Xt c1Xd
            replace Xt := hX _ _ _ Xt (no_ints1 _ _ _)
            replace Xd := hX _ _ _ Xd (no_ints1 _ _ _)
            replace Wt := Wt.turn hT
            replace Wd := Wd.turn hT
            replace HB := HB.trans hB
            clear hT hX hB TT
            replace N0 := N0u.keep HB
            replace N1 := N1u.keep HB
            replace P0 := P0u.keep HB
            replace P1 := P1u.keep HB
            replace XA := XAu.keep HB
            replace XB := XBu.keep HB
            replace X0 := X0u.keep HB
            replace X1 := X1u.keep HB
            clear Ws Xs
            have c1P0 := P0.slot.cell
            have c1P1 := P1.slot.cell
            have c1XA := XA.slot.cell
            have c1XB := XB.slot.cell
            have c1Xt := Xt.slot.cell
            have c1Xd := Xd.slot.cell
            go_wp2_with fail
            refine (uSpoil Wt (by omega)).mono ?_
            rintro e s6w ⟨rfl, ⟨TT, hT⟩, hX, hB⟩
            clear c1P0 c1P1 c1XA c1XB c1Xt c1Xd
            replace Xd := hX _ _ _ Xd (no_ints1 _ _ _)
            replace Wd := Wd.turn hT
            replace HB := HB.trans hB
            clear hT hX hB TT
            replace N0 := N0u.keep HB
            replace N1 := N1u.keep HB
            replace P0 := P0u.keep HB
            replace P1 := P1u.keep HB
            replace XA := XAu.keep HB
            replace XB := XBu.keep HB
            replace X0 := X0u.keep HB
            replace X1 := X1u.keep HB
            clear Wt Xt
            have c1P0 := P0.slot.cell
            have c1P1 := P1.slot.cell
            have c1XA := XA.slot.cell
            have c1XB := XB.slot.cell
            have c1Xd := Xd.slot.cell
            go_wp2_with fail
            refine (uSpoil Wd (by omega)).mono ?_
            rintro e s7w ⟨rfl, ⟨TT, hT⟩, hX, hB⟩
            clear c1P0 c1P1 c1XA c1XB c1Xd
            replace HB := HB.trans hB
            clear hT hX hB TT
            replace N0 := N0u.keep HB
            replace N1 := N1u.keep HB
            replace P0 := P0u.keep HB
            replace P1 := P1u.keep HB
            replace XA := XAu.keep HB
            replace XB := XBu.keep HB
            replace X0 := X0u.keep HB
            replace X1 := X1u.keep HB
            clear Wd Xd
            have c1P0 := P0.slot.cell
            have c1P1 := P1.slot.cell
            have c1XA := XA.slot.cell
            have c1XB := XB.slot.cell
            go_wp2_with fail
            refine (lDec X0 N0 (by omega) (by omega)).mono ?_
            rintro e x8 ⟨rfl, hB⟩
            clear c1P0 c1P1 c1XA c1XB
            replace N0 := N0.keep hB
            replace N1 := N1.keep hB
            replace P0 := P0.keep hB
            replace P1 := P1.keep hB
            replace XA := XA.keep hB
            replace XB := XB.keep hB
            replace X0 := X0.keep hB
            replace X1 := X1.keep hB
            replace HB := joinB HB hB
            clear hB
            have c1P0 := P0.slot.cell
            have c1P1 := P1.slot.cell
            have c1XA := XA.slot.cell
            have c1XB := XB.slot.cell
            go_wp2_with fail
            refine (lDec X1 N1 (by omega) (by omega)).mono ?_
            rintro e x9 ⟨rfl, hB⟩
            clear c1P0 c1P1 c1XA c1XB
            replace N0 := N0.keep hB
            replace N1 := N1.keep hB
            replace P0 := P0.keep hB
            replace P1 := P1.keep hB
            replace XA := XA.keep hB
            replace XB := XB.keep hB
            replace X0 := X0.keep hB
            replace X1 := X1.keep hB
            replace HB := joinB HB hB
            clear hB
            go_wp2
            go_roundw
            case rel => exact ⟨k + 1, by omega, by go_num, HB⟩
            case measure => simp [intOf]; omega
        · skip
          have c1P0 := P0.slot.cell
          have c1P1 := P1.slot.cell
          have c1XA := XA.slot.cell
          have c1XB := XB.slot.cell
          have c1Xs := Xs.slot.cell
          have c1Xt := Xt.slot.cell
          go_wp2_with fail
          refine (dSubW (U := u.heap.size) HB.size X0.a X1.a (by omega) (by omega) hc).mono ?_
          rintro e x3 ⟨Ad, Nd, Cd, rfl, Od, Wd, hkd, hB⟩
          clear c1P0 c1P1 c1XA c1XB c1Xs c1Xt
          replace N0 := N0.keep hB
          replace N1 := N1.keep hB
          replace P0 := P0.keep hB
          replace P1 := P1.keep hB
          replace XA := XA.keep hB
          replace XB := XB.keep hB
          replace X0 := X0.keep hB
          replace X1 := X1.keep hB
          replace Xs := Xs.keep hB
          replace Xt := Xt.keep hB
          replace Os := Os.keep hB
          replace Ot := Ot.keep hB
          replace Ws := Ws.keep hB
          replace Wt := Wt.keep hB
          replace HB := joinB HB hB
          clear hB
          have BA := below_alloc x3 (.cells #[.slice Ad Nd Cd] 46)
          have Xd := box_new x3 [.slice Ad Nd Cd] 46
          replace N0 := N0.keep BA
          replace N1 := N1.keep BA
          replace P0 := P0.keep BA
          replace P1 := P1.keep BA
          replace XA := XA.keep BA
          replace XB := XB.keep BA
          replace X0 := X0.keep BA
          replace X1 := X1.keep BA
          replace Xs := Xs.keep BA
          replace Xt := Xt.keep BA
          replace Os := Os.keep BA
          replace Ot := Ot.keep BA
          replace Ws := Ws.keep BA
          replace Wt := Wt.keep BA
          replace Od := Od.keep BA
          replace Wd := Wd.keep BA
          replace HB := joinB HB BA
          clear BA
          have c1P0 := P0.slot.cell
          have c1P1 := P1.slot.cell
          have c1XA := XA.slot.cell
          have c1XB := XB.slot.cell
          have c1Xs := Xs.slot.cell
          have c1Xt := Xt.slot.cell
          have c1Xd := Xd.slot.cell
          go_wp2_with fail
          clear c1P0 c1P1 c1XA c1XB c1Xs c1Xt c1Xd
          generalize x3.alloc (.cells #[.slice Ad Nd Cd] 46) = y1 at *
          generalize x3.heap.size = gd at *
          refine (eSub N0.a N1.a (by omega) (by omega) hc).mono ?_
          rintro e c4w ⟨Aw, Nw, Cw, rfl, Ow, hkw, hB⟩
          replace N0 := N0.keep hB
          replace N1 := N1.keep hB
          replace P0 := P0.keep hB
          replace P1 := P1.keep hB
          replace XA := XA.keep hB
          replace XB := XB.keep hB
          replace X0 := X0.keep hB
          replace X1 := X1.keep hB
          replace Xs := Xs.keep hB
          replace Xt := Xt.keep hB
          replace Os := Os.keep hB
          replace Ot := Ot.keep hB
          replace Ws := Ws.keep hB
          replace Wt := Wt.keep hB
          replace Od := Od.keep hB
          replace Wd := Wd.keep hB
          replace Xd := Xd.keep hB
          replace HB := joinB HB hB
          clear hB
          have BA := below_alloc c4w (.cells #[.slice Aw Nw Cw] 46)
          have Xw := box_new c4w [.slice Aw Nw Cw] 46
          replace N0 := N0.keep BA
          replace N1 := N1.keep BA
          replace P0 := P0.keep BA
          replace P1 := P1.keep BA
          replace XA := XA.keep BA
          replace XB := XB.keep BA
          replace X0 := X0.keep BA
          replace X1 := X1.keep BA
          replace Xs := Xs.keep BA
          replace Xt := Xt.keep BA
          replace Os := Os.keep BA
          replace Ot := Ot.keep BA
          replace Ws := Ws.keep BA
          replace Wt := Wt.keep BA
          replace Od := Od.keep BA
          replace Wd := Wd.keep BA
          replace Xd := Xd.keep BA
          replace Ow := Ow.keep BA
          replace HB := joinB HB BA
          clear BA
          have c1P0 := P0.slot.cell
          have c1P1 := P1.slot.cell
          have c1XA := XA.slot.cell
          have c1XB := XB.slot.cell
          have c1Xs := Xs.slot.cell
          have c1Xt := Xt.slot.cell
          have c1Xd := Xd.slot.cell
          have c1Xw := Xw.slot.cell
          go_wp2_with fail
          clear c1P0 c1P1 c1XA c1XB c1Xs c1Xt c1Xd c1Xw
          generalize c4w.alloc (.cells #[.slice Aw Nw Cw] 46) = y2w at *
          generalize c4w.heap.size = gw at *
          refine rg_start (S := fun w' => Below y2w.drew.heap.size y2w.drew w') (by kernel_rfl) (Below.refl _ _) ?_
          replace N0 := N0.drew
          replace N1 := N1.drew
          replace P0 := P0.drew
          replace P1 := P1.drew
          replace XA := XA.drew
          replace XB := XB.drew
          replace X0 := X0.drew
          replace X1 := X1.drew
          replace Xs := Xs.drew
          replace Xt := Xt.drew
          replace Os := Os.drew
          replace Ot := Ot.drew
          replace Ws := Ws.drew
          replace Wt := Wt.drew
          replace Od := Od.drew
          replace Wd := Wd.drew
          replace Xd := Xd.drew
          replace Ow := Ow.drew
          replace Xw := Xw.drew
          replace HB := HB.drew
          have UP0 := P0
          have UP1 := P1
          have UXA := XA
          have UXB := XB
          have UXs := Xs
          have UXt := Xt
          have UXd := Xd
          have UXw := Xw
          have hS := Below.refl y2w.drew.heap.size y2w.drew
          refine rg_load 0 (some 53) (.agg #[.slice As Ns Cs]) 46 10 (g10) 0 (by kernel_rfl) (by kernel_rfl) (by kernel_rfl) (fun _ hb => load_dec ((UXs.keep hb).slot)) (fun _ _ _ h => h) hS ?_
          refine rg_load 1 (some 54) (.agg #[.slice a0 len0 cap0]) 46 3 (w.heap.size) 0 (by kernel_rfl) (by kernel_rfl) (by kernel_rfl) (fun _ hb => load_dec ((UP0.keep hb).slot)) (fun _ _ _ h => h) hS ?_
          refine rg_load 2 (some 55) (.agg #[.slice a1 len1 cap1]) 46 4 (w.heap.size + 1) 0 (by kernel_rfl) (by kernel_rfl) (by kernel_rfl) (fun _ hb => load_dec ((UP1.keep hb).slot)) (fun _ _ _ h => h) hS ?_
          refine rg_call 3 (some 56) 58 #[.agg #[.slice a0 len0 cap0], .agg #[.slice a1 len1 cap1]] (by kernel_rfl) (by kernel_rfl) (eAdd N0.a N1.a (by omega) (by omega)) ?_
          rintro e r12x1 ⟨Aa, Na, Ca, rfl, Oa, hka, hB⟩
          refine ⟨_, rfl, joinB hS hB, ?_⟩
          replace hS := joinB hS hB
          replace N0 := N0.keep hB
          replace N1 := N1.keep hB
          replace P0 := P0.keep hB
          replace P1 := P1.keep hB
          replace XA := XA.keep hB
          replace XB := XB.keep hB
          replace X0 := X0.keep hB
          replace X1 := X1.keep hB
          replace Xs := Xs.keep hB
          replace Xt := Xt.keep hB
          replace Os := Os.keep hB
          replace Ot := Ot.keep hB
          replace Ws := Ws.keep hB
          replace Wt := Wt.keep hB
          replace Od := Od.keep hB
          replace Wd := Wd.keep hB
          replace Xd := Xd.keep hB
          replace Ow := Ow.keep hB
          replace Xw := Xw.keep hB
          replace HB := joinB HB hB
          clear hB
          refine rg_call 4 (some 57) 36 #[.agg #[.slice As Ns Cs], .agg #[.slice Aa Na Ca]] (by kernel_rfl) (by kernel_rfl) (hDecT Os Oa (by omega) (by omega)) ?_
          rintro e r12x2 ⟨rfl, hB⟩
          refine ⟨_, rfl, joinB hS hB, ?_⟩
          replace hS := joinB hS hB
          replace N0 := N0.keep hB
          replace N1 := N1.keep hB
          replace P0 := P0.keep hB
          replace P1 := P1.keep hB
          replace XA := XA.keep hB
          replace XB := XB.keep hB
          replace X0 := X0.keep hB
          replace X1 := X1.keep hB
          replace Xs := Xs.keep hB
          replace Xt := Xt.keep hB
          replace Os := Os.keep hB
          replace Ot := Ot.keep hB
          replace Ws := Ws.keep hB
          replace Wt := Wt.keep hB
          replace Od := Od.keep hB
          replace Wd := Wd.keep hB
          replace Xd := Xd.keep hB
          replace Ow := Ow.keep hB
          replace Xw := Xw.keep hB
          replace Oa := Oa.keep hB
          replace HB := joinB HB hB
          clear hB
          refine rg_take 5 (some 58) (.bool false) (by kernel_rfl) (fun _ _ => by kernel_rfl) (fun _ _ _ h => h) hS ?_
          refine rg_take 6 (some 59) (.bool false) (by kernel_rfl) (fun _ _ => by kernel_rfl) (fun _ _ _ h => h) hS ?_
          refine rg_load 7 (some 60) (.agg #[.slice At Nt Ct]) 46 11 (g11) 0 (by kernel_rfl) (by kernel_rfl) (by kernel_rfl) (fun _ hb => load_dec ((UXt.keep hb).slot)) (fun _ _ _ h => h) hS ?_
          refine rg_load 8 (some 61) (.agg #[.slice a0 len0 cap0]) 46 3 (w.heap.size) 0 (by kernel_rfl) (by kernel_rfl) (by kernel_rfl) (fun _ hb => load_dec ((UP0.keep hb).slot)) (fun _ _ _ h => h) hS ?_
          refine rg_take 9 (some 62) (.int .u64 y2) (by kernel_rfl) (fun _ _ => by kernel_rfl) (fun _ _ _ h => h) hS ?_
          refine rg_call 10 (some 63) 59 #[.agg #[.slice a0 len0 cap0], .int .u64 y2] (by kernel_rfl) (by kernel_rfl) (eTimes N0.a (by omega) (by omega) (by omega)) ?_
          rintro e r12x3 ⟨Ab, Nb, Cb, rfl, Ob, hkb, hB⟩
          refine ⟨_, rfl, joinB hS hB, ?_⟩
          replace hS := joinB hS hB
          replace N0 := N0.keep hB
          replace N1 := N1.keep hB
          replace P0 := P0.keep hB
          replace P1 := P1.keep hB
          replace XA := XA.keep hB
          replace XB := XB.keep hB
          replace X0 := X0.keep hB
          replace X1 := X1.keep hB
          replace Xs := Xs.keep hB
          replace Xt := Xt.keep hB
          replace Os := Os.keep hB
          replace Ot := Ot.keep hB
          replace Ws := Ws.keep hB
          replace Wt := Wt.keep hB
          replace Od := Od.keep hB
          replace Wd := Wd.keep hB
          replace Xd := Xd.keep hB
          replace Ow := Ow.keep hB
          replace Xw := Xw.keep hB
          replace Oa := Oa.keep hB
          replace HB := joinB HB hB
          clear hB
          refine rg_call 11 (some 64) 36 #[.agg #[.slice At Nt Ct], .agg #[.slice Ab Nb Cb]] (by kernel_rfl) (by kernel_rfl) (hDecT Ot Ob (by omega) (by omega)) ?_
          rintro e r12x4 ⟨rfl, hB⟩
          refine ⟨_, rfl, joinB hS hB, ?_⟩
          replace hS := joinB hS hB
          replace N0 := N0.keep hB
          replace N1 := N1.keep hB
          replace P0 := P0.keep hB
          replace P1 := P1.keep hB
          replace XA := XA.keep hB
          replace XB := XB.keep hB
          replace X0 := X0.keep hB
          replace X1 := X1.keep hB
          replace Xs := Xs.keep hB
          replace Xt := Xt.keep hB
          replace Os := Os.keep hB
          replace Ot := Ot.keep hB
          replace Ws := Ws.keep hB
          replace Wt := Wt.keep hB
          replace Od := Od.keep hB
          replace Wd := Wd.keep hB
          replace Xd := Xd.keep hB
          replace Ow := Ow.keep hB
          replace Xw := Xw.keep hB
          replace Oa := Oa.keep hB
          replace Ob := Ob.keep hB
          replace HB := joinB HB hB
          clear hB
          refine rg_take 12 (some 65) (.bool false) (by kernel_rfl) (fun _ _ => by kernel_rfl) (fun _ _ _ h => h) hS ?_
          refine rg_take 13 (some 66) (.bool false) (by kernel_rfl) (fun _ _ => by kernel_rfl) (fun _ _ _ h => h) hS ?_
          refine rg_take 14 (some 67) (.bool false) (by kernel_rfl) (fun _ _ => by kernel_rfl) (fun _ _ _ h => h) hS ?_
          refine rg_load 15 (some 68) (.agg #[.slice Ad Nd Cd]) 46 12 (gd) 0 (by kernel_rfl) (by kernel_rfl) (by kernel_rfl) (fun _ hb => load_dec ((UXd.keep hb).slot)) (fun _ _ _ h => h) hS ?_
          refine rg_load 16 (some 69) (.agg #[.slice Aw Nw Cw]) 46 14 (gw) 0 (by kernel_rfl) (by kernel_rfl) (by kernel_rfl) (fun _ hb => load_dec ((UXw.keep hb).slot)) (fun _ _ _ h => h) hS ?_
          refine rg_call 17 (some 70) 36 #[.agg #[.slice Ad Nd Cd], .agg #[.slice Aw Nw Cw]] (by kernel_rfl) (by kernel_rfl) (hDecT Od Ow (by omega) (by omega)) ?_
          rintro e r12x5 ⟨rfl, hB⟩
          refine ⟨_, rfl, joinB hS hB, ?_⟩
          replace hS := joinB hS hB
          replace N0 := N0.keep hB
          replace N1 := N1.keep hB
          replace P0 := P0.keep hB
          replace P1 := P1.keep hB
          replace XA := XA.keep hB
          replace XB := XB.keep hB
          replace X0 := X0.keep hB
          replace X1 := X1.keep hB
          replace Xs := Xs.keep hB
          replace Xt := Xt.keep hB
          replace Os := Os.keep hB
          replace Ot := Ot.keep hB
          replace Ws := Ws.keep hB
          replace Wt := Wt.keep hB
          replace Od := Od.keep hB
          replace Wd := Wd.keep hB
          replace Xd := Xd.keep hB
          replace Ow := Ow.keep hB
          replace Xw := Xw.keep hB
          replace Oa := Oa.keep hB
          replace Ob := Ob.keep hB
          replace HB := joinB HB hB
          clear hB
          refine rg_take 18 (some 71) (.bool false) (by kernel_rfl) (fun _ _ => by kernel_rfl) (fun _ _ _ h => h) hS ?_
          refine rg_take 19 (some 72) (.bool false) (by kernel_rfl) (fun _ _ => by kernel_rfl) (fun _ _ _ h => h) hS ?_
          refine rg_take 20 (some 73) (.bool false) (by kernel_rfl) (fun _ _ => by kernel_rfl) (fun _ _ _ h => h) hS ?_
          refine rg_take 21 (some 74) (.int .i64 0) (by kernel_rfl) (fun _ _ => by kernel_rfl) (fun _ _ _ h => h) hS ?_
          refine rg_take 22 (some 75) (.int .i64 0) (by kernel_rfl) (fun _ _ => by kernel_rfl) (fun _ _ _ h => h) hS ?_
          refine rg_take 23 (some 76) (.bool false) (by kernel_rfl) (fun _ _ => by kernel_rfl) (fun _ _ _ h => h) hS ?_
          refine rg_take 24 (some 77) (.bool false) (by kernel_rfl) (fun _ _ => by kernel_rfl) (fun _ _ _ h => h) hS ?_
          refine rg_done (by kernel_rfl) ?_
          clear hS UP0 UP1 UXA UXB UXs UXt UXd UXw
          try simp only [Act.put, List.setIfInBounds_toArray, List.set_cons_zero, List.set_cons_succ]
          clear Oa Ob Os Ot Od Ow Xw
          obtain ⟨sx, hsx⟩ : ∃ s, sgn (val l0) (val l1) = s := ⟨_, rfl⟩
          obtain ⟨bz, hbz⟩ : ∃ b, decide (val l0 = 0) = b := ⟨_, rfl⟩
          cases bz
          · skip
            have c1P0 := P0.slot.cell
            have c1P1 := P1.slot.cell
            have c1XA := XA.slot.cell
            have c1XB := XB.slot.cell
            have c1Xs := Xs.slot.cell
            have c1Xt := Xt.slot.cell
            have c1Xd := Xd.slot.cell
            go_wp2_with fail
            clear c1P0 c1P1 c1XA c1XB c1Xs c1Xt c1Xd
            refine rg_start (S := fun w' => Below r12x5.drew.heap.size r12x5.drew w') (by kernel_rfl) (Below.refl _ _) ?_
            replace N0 := N0.drew
            replace N1 := N1.drew
            replace P0 := P0.drew
            replace P1 := P1.drew
            replace XA := XA.drew
            replace XB := XB.drew
            replace X0 := X0.drew
            replace X1 := X1.drew
            replace Xs := Xs.drew
            replace Xt := Xt.drew
            replace Ws := Ws.drew
            replace Wt := Wt.drew
            replace Wd := Wd.drew
            replace Xd := Xd.drew
            replace HB := HB.drew
            have UP0 := P0
            have UP1 := P1
            have UXA := XA
            have UXB := XB
            have UXs := Xs
            have UXt := Xt
            have UXd := Xd
            have hS := Below.refl r12x5.drew.heap.size r12x5.drew
            refine rg_take 0 (some 78) (.int .u64 y2) (by kernel_rfl) (fun _ _ => by kernel_rfl) (fun _ _ _ h => h) hS ?_
            refine rg_take 2 (some 80) (.int .u64 y2) (by kernel_rfl) (fun _ _ => by kernel_rfl) (fun _ _ _ h => h) hS ?_
            refine rg_call 1 (some 79) 60 #[.int .u64 y2] (by kernel_rfl) (by kernel_rfl) (dOf (by omega) (by omega)) ?_
            rintro e r14x1 ⟨Aa, Na, Ca, rfl, Oa, hka, hB⟩
            refine ⟨_, rfl, joinB hS hB, ?_⟩
            replace hS := joinB hS hB
            replace N0 := N0.keep hB
            replace N1 := N1.keep hB
            replace P0 := P0.keep hB
            replace P1 := P1.keep hB
            replace XA := XA.keep hB
            replace XB := XB.keep hB
            replace X0 := X0.keep hB
            replace X1 := X1.keep hB
            replace Xs := Xs.keep hB
            replace Xt := Xt.keep hB
            replace Ws := Ws.keep hB
            replace Wt := Wt.keep hB
            replace Wd := Wd.keep hB
            replace Xd := Xd.keep hB
            replace HB := joinB HB hB
            clear hB
            refine rg_call 3 (some 81) 61 #[.int .u64 y2] (by kernel_rfl) (by kernel_rfl) (eOf (by omega) (by omega)) ?_
            rintro e r14x2 ⟨Ab, Nb, Cb, rfl, Ob, hkb, hB⟩
            refine ⟨_, rfl, joinB hS hB, ?_⟩
            replace hS := joinB hS hB
            replace N0 := N0.keep hB
            replace N1 := N1.keep hB
            replace P0 := P0.keep hB
            replace P1 := P1.keep hB
            replace XA := XA.keep hB
            replace XB := XB.keep hB
            replace X0 := X0.keep hB
            replace X1 := X1.keep hB
            replace Xs := Xs.keep hB
            replace Xt := Xt.keep hB
            replace Ws := Ws.keep hB
            replace Wt := Wt.keep hB
            replace Wd := Wd.keep hB
            replace Xd := Xd.keep hB
            replace Oa := Oa.keep hB
            replace HB := joinB HB hB
            clear hB
            refine rg_call 4 (some 82) 36 #[.agg #[.slice Aa Na Ca], .agg #[.slice Ab Nb Cb]] (by kernel_rfl) (by kernel_rfl) (hDecT Oa Ob (by omega) (by omega)) ?_
            rintro e r14x3 ⟨rfl, hB⟩
            refine ⟨_, rfl, joinB hS hB, ?_⟩
            replace hS := joinB hS hB
            replace N0 := N0.keep hB
            replace N1 := N1.keep hB
            replace P0 := P0.keep hB
            replace P1 := P1.keep hB
            replace XA := XA.keep hB
            replace XB := XB.keep hB
            replace X0 := X0.keep hB
            replace X1 := X1.keep hB
            replace Xs := Xs.keep hB
            replace Xt := Xt.keep hB
            replace Ws := Ws.keep hB
            replace Wt := Wt.keep hB
            replace Wd := Wd.keep hB
            replace Xd := Xd.keep hB
            replace Oa := Oa.keep hB
            replace Ob := Ob.keep hB
            replace HB := joinB HB hB
            clear hB
            refine rg_take 5 (some 83) (.bool false) (by kernel_rfl) (fun _ _ => by kernel_rfl) (fun _ _ _ h => h) hS ?_
            refine rg_take 6 (some 84) (.bool false) (by kernel_rfl) (fun _ _ => by kernel_rfl) (fun _ _ _ h => h) hS ?_
            refine rg_take 7 (some 85) (.int .u64 y2) (by kernel_rfl) (fun _ _ => by kernel_rfl) (fun _ _ _ h => h) hS ?_
            refine rg_take 9 (some 87) (.int .u64 y2) (by kernel_rfl) (fun _ _ => by kernel_rfl) (fun _ _ _ h => h) hS ?_
            refine rg_call 8 (some 86) 62 #[.int .u64 y2] (by kernel_rfl) (by kernel_rfl) (dBasis (by omega) (by omega)) ?_
            rintro e r14x4 ⟨Ac, Nc, Cc, rfl, Oc, hkc, hB⟩
            refine ⟨_, rfl, joinB hS hB, ?_⟩
            replace hS := joinB hS hB
            replace N0 := N0.keep hB
            replace N1 := N1.keep hB
            replace P0 := P0.keep hB
            replace P1 := P1.keep hB
            replace XA := XA.keep hB
            replace XB := XB.keep hB
            replace X0 := X0.keep hB
            replace X1 := X1.keep hB
            replace Xs := Xs.keep hB
            replace Xt := Xt.keep hB
            replace Ws := Ws.keep hB
            replace Wt := Wt.keep hB
            replace Wd := Wd.keep hB
            replace Xd := Xd.keep hB
            replace Oa := Oa.keep hB
            replace Ob := Ob.keep hB
            replace HB := joinB HB hB
            clear hB
            refine rg_call 10 (some 88) 63 #[.int .u64 y2] (by kernel_rfl) (by kernel_rfl) (eBasis (by omega) (by omega)) ?_
            rintro e r14x5 ⟨Ae, Ne, Ce, rfl, Oe, hke, hB⟩
            refine ⟨_, rfl, joinB hS hB, ?_⟩
            replace hS := joinB hS hB
            replace N0 := N0.keep hB
            replace N1 := N1.keep hB
            replace P0 := P0.keep hB
            replace P1 := P1.keep hB
            replace XA := XA.keep hB
            replace XB := XB.keep hB
            replace X0 := X0.keep hB
            replace X1 := X1.keep hB
            replace Xs := Xs.keep hB
            replace Xt := Xt.keep hB
            replace Ws := Ws.keep hB
            replace Wt := Wt.keep hB
            replace Wd := Wd.keep hB
            replace Xd := Xd.keep hB
            replace Oa := Oa.keep hB
            replace Ob := Ob.keep hB
            replace Oc := Oc.keep hB
            replace HB := joinB HB hB
            clear hB
            refine rg_call 11 (some 89) 36 #[.agg #[.slice Ac Nc Cc], .agg #[.slice Ae Ne Ce]] (by kernel_rfl) (by kernel_rfl) (hDecT (Oc.eqv (basis_is y2)) Oe (by omega) (by omega)) ?_
            rintro e r14x6 ⟨rfl, hB⟩
            refine ⟨_, rfl, joinB hS hB, ?_⟩
            replace hS := joinB hS hB
            replace N0 := N0.keep hB
            replace N1 := N1.keep hB
            replace P0 := P0.keep hB
            replace P1 := P1.keep hB
            replace XA := XA.keep hB
            replace XB := XB.keep hB
            replace X0 := X0.keep hB
            replace X1 := X1.keep hB
            replace Xs := Xs.keep hB
            replace Xt := Xt.keep hB
            replace Ws := Ws.keep hB
            replace Wt := Wt.keep hB
            replace Wd := Wd.keep hB
            replace Xd := Xd.keep hB
            replace Oa := Oa.keep hB
            replace Ob := Ob.keep hB
            replace Oc := Oc.keep hB
            replace Oe := Oe.keep hB
            replace HB := joinB HB hB
            clear hB
            refine rg_take 12 (some 90) (.bool false) (by kernel_rfl) (fun _ _ => by kernel_rfl) (fun _ _ _ h => h) hS ?_
            refine rg_take 13 (some 91) (.bool false) (by kernel_rfl) (fun _ _ => by kernel_rfl) (fun _ _ _ h => h) hS ?_
            refine rg_take 14 (some 92) (.bool false) (by kernel_rfl) (fun _ _ => by kernel_rfl) (fun _ _ _ h => h) hS ?_
            refine rg_take 15 (some 93) (.pointer (some ⟨g7, 0, none⟩)) (by kernel_rfl) (fun _ _ => by kernel_rfl) (fun _ _ _ h => h) hS ?_
            refine rg_load 16 (some 94) (.slice ax len0 dx) 28 93 (g7) 0 (by kernel_rfl) (by kernel_rfl) (by kernel_rfl) (fun _ hb => load_raw ((UXA.keep hb).slot)) (fun _ _ _ h => h) hS ?_
            refine rg_take 18 (some 96) (.pointer (some ⟨w.heap.size, 0, none⟩)) (by kernel_rfl) (fun _ _ => by kernel_rfl) (fun _ _ _ h => h) hS ?_
            refine rg_load 19 (some 97) (.slice a0 len0 cap0) 28 96 (w.heap.size) 0 (by kernel_rfl) (by kernel_rfl) (by kernel_rfl) (fun _ hb => load_raw ((UP0.keep hb).slot)) (fun _ _ _ h => h) hS ?_
            refine rg_call 17 (some 95) 64 #[.slice ax len0 dx] (by kernel_rfl) (by kernel_rfl) (dOfNat X0.a (by omega)) ?_
            rintro e r14x7 ⟨Af, Nf, Cf, rfl, Of, hkf, hB⟩
            refine ⟨_, rfl, joinB hS hB, ?_⟩
            replace hS := joinB hS hB
            replace N0 := N0.keep hB
            replace N1 := N1.keep hB
            replace P0 := P0.keep hB
            replace P1 := P1.keep hB
            replace XA := XA.keep hB
            replace XB := XB.keep hB
            replace X0 := X0.keep hB
            replace X1 := X1.keep hB
            replace Xs := Xs.keep hB
            replace Xt := Xt.keep hB
            replace Ws := Ws.keep hB
            replace Wt := Wt.keep hB
            replace Wd := Wd.keep hB
            replace Xd := Xd.keep hB
            replace Oa := Oa.keep hB
            replace Ob := Ob.keep hB
            replace Oc := Oc.keep hB
            replace Oe := Oe.keep hB
            replace HB := joinB HB hB
            clear hB
            refine rg_call 20 (some 98) 65 #[.slice a0 len0 cap0] (by kernel_rfl) (by kernel_rfl) (eOfNat N0.a (by omega)) ?_
            rintro e r14x8 ⟨Ag, Ng, Cg, rfl, Og, hkg, hB⟩
            refine ⟨_, rfl, joinB hS hB, ?_⟩
            replace hS := joinB hS hB
            replace N0 := N0.keep hB
            replace N1 := N1.keep hB
            replace P0 := P0.keep hB
            replace P1 := P1.keep hB
            replace XA := XA.keep hB
            replace XB := XB.keep hB
            replace X0 := X0.keep hB
            replace X1 := X1.keep hB
            replace Xs := Xs.keep hB
            replace Xt := Xt.keep hB
            replace Ws := Ws.keep hB
            replace Wt := Wt.keep hB
            replace Wd := Wd.keep hB
            replace Xd := Xd.keep hB
            replace Oa := Oa.keep hB
            replace Ob := Ob.keep hB
            replace Oc := Oc.keep hB
            replace Oe := Oe.keep hB
            replace Of := Of.keep hB
            replace HB := joinB HB hB
            clear hB
            refine rg_call 21 (some 99) 36 #[.agg #[.slice Af Nf Cf], .agg #[.slice Ag Ng Cg]] (by kernel_rfl) (by kernel_rfl) (hDecT Of Og (by omega) (by omega)) ?_
            rintro e r14x9 ⟨rfl, hB⟩
            refine ⟨_, rfl, joinB hS hB, ?_⟩
            replace hS := joinB hS hB
            replace N0 := N0.keep hB
            replace N1 := N1.keep hB
            replace P0 := P0.keep hB
            replace P1 := P1.keep hB
            replace XA := XA.keep hB
            replace XB := XB.keep hB
            replace X0 := X0.keep hB
            replace X1 := X1.keep hB
            replace Xs := Xs.keep hB
            replace Xt := Xt.keep hB
            replace Ws := Ws.keep hB
            replace Wt := Wt.keep hB
            replace Wd := Wd.keep hB
            replace Xd := Xd.keep hB
            replace Oa := Oa.keep hB
            replace Ob := Ob.keep hB
            replace Oc := Oc.keep hB
            replace Oe := Oe.keep hB
            replace Of := Of.keep hB
            replace Og := Og.keep hB
            replace HB := joinB HB hB
            clear hB
            refine rg_take 22 (some 100) (.bool false) (by kernel_rfl) (fun _ _ => by kernel_rfl) (fun _ _ _ h => h) hS ?_
            refine rg_take 23 (some 101) (.bool false) (by kernel_rfl) (fun _ _ => by kernel_rfl) (fun _ _ _ h => h) hS ?_
            refine rg_take 24 (some 102) (.bool false) (by kernel_rfl) (fun _ _ => by kernel_rfl) (fun _ _ _ h => h) hS ?_
            refine rg_load 25 (some 103) (.agg #[.slice ax len0 dx]) 46 7 (g7) 0 (by kernel_rfl) (by kernel_rfl) (by kernel_rfl) (fun _ hb => load_dec ((UXA.keep hb).slot)) (fun _ _ _ h => h) hS ?_
            refine rg_load 27 (some 105) (.agg #[.slice a0 len0 cap0]) 46 3 (w.heap.size) 0 (by kernel_rfl) (by kernel_rfl) (by kernel_rfl) (fun _ hb => load_dec ((UP0.keep hb).slot)) (fun _ _ _ h => h) hS ?_
            refine rg_call 26 (some 104) 33 #[.agg #[.slice ax len0 dx]] (by kernel_rfl) (by kernel_rfl) (zeroD X0.a (by omega) false hbz) ?_
            rintro e r14x10 ⟨rfl, hB⟩
            refine ⟨_, rfl, joinB hS hB, ?_⟩
            replace hS := joinB hS hB
            replace N0 := N0.keep hB
            replace N1 := N1.keep hB
            replace P0 := P0.keep hB
            replace P1 := P1.keep hB
            replace XA := XA.keep hB
            replace XB := XB.keep hB
            replace X0 := X0.keep hB
            replace X1 := X1.keep hB
            replace Xs := Xs.keep hB
            replace Xt := Xt.keep hB
            replace Ws := Ws.keep hB
            replace Wt := Wt.keep hB
            replace Wd := Wd.keep hB
            replace Xd := Xd.keep hB
            replace Oa := Oa.keep hB
            replace Ob := Ob.keep hB
            replace Oc := Oc.keep hB
            replace Oe := Oe.keep hB
            replace Of := Of.keep hB
            replace Og := Og.keep hB
            replace HB := joinB HB hB
            clear hB
            refine rg_call 28 (some 106) 66 #[.agg #[.slice a0 len0 cap0]] (by kernel_rfl) (by kernel_rfl) (zeroE N0.a (by omega) false hbz) ?_
            rintro e r14x11 ⟨rfl, hB⟩
            refine ⟨_, rfl, joinB hS hB, ?_⟩
            replace hS := joinB hS hB
            replace N0 := N0.keep hB
            replace N1 := N1.keep hB
            replace P0 := P0.keep hB
            replace P1 := P1.keep hB
            replace XA := XA.keep hB
            replace XB := XB.keep hB
            replace X0 := X0.keep hB
            replace X1 := X1.keep hB
            replace Xs := Xs.keep hB
            replace Xt := Xt.keep hB
            replace Ws := Ws.keep hB
            replace Wt := Wt.keep hB
            replace Wd := Wd.keep hB
            replace Xd := Xd.keep hB
            replace Oa := Oa.keep hB
            replace Ob := Ob.keep hB
            replace Oc := Oc.keep hB
            replace Oe := Oe.keep hB
            replace Of := Of.keep hB
            replace Og := Og.keep hB
            replace HB := joinB HB hB
            clear hB
            refine rg_take 29 (some 107) (.bool false) (by kernel_rfl) (fun _ _ => by kernel_rfl) (fun _ _ _ h => h) hS ?_
            refine rg_take 30 (some 108) (.bool false) (by kernel_rfl) (fun _ _ => by kernel_rfl) (fun _ _ _ h => h) hS ?_
            refine rg_take 31 (some 109) (.bool false) (by kernel_rfl) (fun _ _ => by kernel_rfl) (fun _ _ _ h => h) hS ?_
            refine rg_load 32 (some 110) (.agg #[.slice ax len0 dx]) 46 7 (g7) 0 (by kernel_rfl) (by kernel_rfl) (by kernel_rfl) (fun _ hb => load_dec ((UXA.keep hb).slot)) (fun _ _ _ h => h) hS ?_
            refine rg_load 33 (some 111) (.agg #[.slice ay len1 dy]) 46 8 (g8) 0 (by kernel_rfl) (by kernel_rfl) (by kernel_rfl) (fun _ hb => load_dec ((UXB.keep hb).slot)) (fun _ _ _ h => h) hS ?_
            refine rg_load 35 (some 113) (.agg #[.slice a0 len0 cap0]) 46 3 (w.heap.size) 0 (by kernel_rfl) (by kernel_rfl) (by kernel_rfl) (fun _ hb => load_dec ((UP0.keep hb).slot)) (fun _ _ _ h => h) hS ?_
            refine rg_load 36 (some 114) (.agg #[.slice a1 len1 cap1]) 46 4 (w.heap.size + 1) 0 (by kernel_rfl) (by kernel_rfl) (by kernel_rfl) (fun _ hb => load_dec ((UP1.keep hb).slot)) (fun _ _ _ h => h) hS ?_
            refine rg_call 34 (some 112) 32 #[.agg #[.slice ax len0 dx], .agg #[.slice ay len1 dy]] (by kernel_rfl) (by kernel_rfl) (cmpD X0.a X1.a (by omega) (by omega) sx hsx) ?_
            rintro e r14x12 ⟨rfl, hB⟩
            refine ⟨_, rfl, joinB hS hB, ?_⟩
            replace hS := joinB hS hB
            replace N0 := N0.keep hB
            replace N1 := N1.keep hB
            replace P0 := P0.keep hB
            replace P1 := P1.keep hB
            replace XA := XA.keep hB
            replace XB := XB.keep hB
            replace X0 := X0.keep hB
            replace X1 := X1.keep hB
            replace Xs := Xs.keep hB
            replace Xt := Xt.keep hB
            replace Ws := Ws.keep hB
            replace Wt := Wt.keep hB
            replace Wd := Wd.keep hB
            replace Xd := Xd.keep hB
            replace Oa := Oa.keep hB
            replace Ob := Ob.keep hB
            replace Oc := Oc.keep hB
            replace Oe := Oe.keep hB
            replace Of := Of.keep hB
            replace Og := Og.keep hB
            replace HB := joinB HB hB
            clear hB
            refine rg_call 37 (some 115) 67 #[.agg #[.slice a0 len0 cap0], .agg #[.slice a1 len1 cap1]] (by kernel_rfl) (by kernel_rfl) (cmpE N0.a N1.a (by omega) (by omega) sx hsx) ?_
            rintro e r14x13 ⟨rfl, hB⟩
            refine ⟨_, rfl, joinB hS hB, ?_⟩
            replace hS := joinB hS hB
            replace N0 := N0.keep hB
            replace N1 := N1.keep hB
            replace P0 := P0.keep hB
            replace P1 := P1.keep hB
            replace XA := XA.keep hB
            replace XB := XB.keep hB
            replace X0 := X0.keep hB
            replace X1 := X1.keep hB
            replace Xs := Xs.keep hB
            replace Xt := Xt.keep hB
            replace Ws := Ws.keep hB
            replace Wt := Wt.keep hB
            replace Wd := Wd.keep hB
            replace Xd := Xd.keep hB
            replace Oa := Oa.keep hB
            replace Ob := Ob.keep hB
            replace Oc := Oc.keep hB
            replace Oe := Oe.keep hB
            replace Of := Of.keep hB
            replace Og := Og.keep hB
            replace HB := joinB HB hB
            clear hB
            refine rg_eq 38 (some 116) (.bool ((sx : Int) != sx)) (.bool false) (by rw [bne_self_eq_false]) (by kernel_rfl) (fun _ _ => by kernel_rfl) (fun _ _ _ h => h) hS ?_
            refine rg_take 39 (some 117) (.bool false) (by kernel_rfl) (fun _ _ => by kernel_rfl) (fun _ _ _ h => h) hS ?_
            refine rg_done (by kernel_rfl) ?_
            clear hS UP0 UP1 UXA UXB UXs UXt UXd
            try simp only [Act.put, List.setIfInBounds_toArray, List.set_cons_zero, List.set_cons_succ]
            clear Oa Ob Oc Oe Of Og
            have c1P0 := P0.slot.cell
            have c1P1 := P1.slot.cell
            have c1XA := XA.slot.cell
            have c1XB := XB.slot.cell
            have c1Xs := Xs.slot.cell
            have c1Xt := Xt.slot.cell
            have c1Xd := Xd.slot.cell
            go_wp2_with fail
            refine (uSpoil Ws (by omega)).mono ?_
            rintro e s5w ⟨rfl, ⟨TT, hT⟩, hX, hB⟩
            clear c1P0 c1P1 c1XA c1XB c1Xs c1Xt c1Xd
            replace Xt := hX _ _ _ Xt (no_ints1 _ _ _)
            replace Xd := hX _ _ _ Xd (no_ints1 _ _ _)
            replace Wt := Wt.turn hT
            replace Wd := Wd.turn hT
            replace HB := HB.trans hB
            clear hT hX hB TT
            replace N0 := N0u.keep HB
            replace N1 := N1u.keep HB
            replace P0 := P0u.keep HB
            replace P1 := P1u.keep HB
            replace XA := XAu.keep HB
            replace XB := XBu.keep HB
            replace X0 := X0u.keep HB
            replace X1 := X1u.keep HB
            clear Ws Xs
            have c1P0 := P0.slot.cell
            have c1P1 := P1.slot.cell
            have c1XA := XA.slot.cell
            have c1XB := XB.slot.cell
            have c1Xt := Xt.slot.cell
            have c1Xd := Xd.slot.cell
            go_wp2_with fail
            refine (uSpoil Wt (by omega)).mono ?_
            rintro e s6w ⟨rfl, ⟨TT, hT⟩, hX, hB⟩
            clear c1P0 c1P1 c1XA c1XB c1Xt c1Xd
            replace Xd := hX _ _ _ Xd (no_ints1 _ _ _)
            replace Wd := Wd.turn hT
            replace HB := HB.trans hB
            clear hT hX hB TT
            replace N0 := N0u.keep HB
            replace N1 := N1u.keep HB
            replace P0 := P0u.keep HB
            replace P1 := P1u.keep HB
            replace XA := XAu.keep HB
            replace XB := XBu.keep HB
            replace X0 := X0u.keep HB
            replace X1 := X1u.keep HB
            clear Wt Xt
            have c1P0 := P0.slot.cell
            have c1P1 := P1.slot.cell
            have c1XA := XA.slot.cell
            have c1XB := XB.slot.cell
            have c1Xd := Xd.slot.cell
            go_wp2_with fail
            refine (uSpoil Wd (by omega)).mono ?_
            rintro e s7w ⟨rfl, ⟨TT, hT⟩, hX, hB⟩
            clear c1P0 c1P1 c1XA c1XB c1Xd
            replace HB := HB.trans hB
            clear hT hX hB TT
            replace N0 := N0u.keep HB
            replace N1 := N1u.keep HB
            replace P0 := P0u.keep HB
            replace P1 := P1u.keep HB
            replace XA := XAu.keep HB
            replace XB := XBu.keep HB
            replace X0 := X0u.keep HB
            replace X1 := X1u.keep HB
            clear Wd Xd
            have c1P0 := P0.slot.cell
            have c1P1 := P1.slot.cell
            have c1XA := XA.slot.cell
            have c1XB := XB.slot.cell
            go_wp2_with fail
            refine (lDec X0 N0 (by omega) (by omega)).mono ?_
            rintro e x8 ⟨rfl, hB⟩
            clear c1P0 c1P1 c1XA c1XB
            replace N0 := N0.keep hB
            replace N1 := N1.keep hB
            replace P0 := P0.keep hB
            replace P1 := P1.keep hB
            replace XA := XA.keep hB
            replace XB := XB.keep hB
            replace X0 := X0.keep hB
            replace X1 := X1.keep hB
            replace HB := joinB HB hB
            clear hB
            have c1P0 := P0.slot.cell
            have c1P1 := P1.slot.cell
            have c1XA := XA.slot.cell
            have c1XB := XB.slot.cell
            go_wp2_with fail
            refine (lDec X1 N1 (by omega) (by omega)).mono ?_
            rintro e x9 ⟨rfl, hB⟩
            clear c1P0 c1P1 c1XA c1XB
            replace N0 := N0.keep hB
            replace N1 := N1.keep hB
            replace P0 := P0.keep hB
            replace P1 := P1.keep hB
            replace XA := XA.keep hB
            replace XB := XB.keep hB
            replace X0 := X0.keep hB
            replace X1 := X1.keep hB
            replace HB := joinB HB hB
            clear hB
            go_wp2
            go_roundw
            case rel => exact ⟨k + 1, by omega, by go_num, HB⟩
            case measure => simp [intOf]; omega
          · skip
            have c1P0 := P0.slot.cell
            have c1P1 := P1.slot.cell
            have c1XA := XA.slot.cell
            have c1XB := XB.slot.cell
            have c1Xs := Xs.slot.cell
            have c1Xt := Xt.slot.cell
            have c1Xd := Xd.slot.cell
            go_wp2_with fail
            clear c1P0 c1P1 c1XA c1XB c1Xs c1Xt c1Xd
            refine rg_start (S := fun w' => Below r12x5.drew.heap.size r12x5.drew w') (by kernel_rfl) (Below.refl _ _) ?_
            replace N0 := N0.drew
            replace N1 := N1.drew
            replace P0 := P0.drew
            replace P1 := P1.drew
            replace XA := XA.drew
            replace XB := XB.drew
            replace X0 := X0.drew
            replace X1 := X1.drew
            replace Xs := Xs.drew
            replace Xt := Xt.drew
            replace Ws := Ws.drew
            replace Wt := Wt.drew
            replace Wd := Wd.drew
            replace Xd := Xd.drew
            replace HB := HB.drew
            have UP0 := P0
            have UP1 := P1
            have UXA := XA
            have UXB := XB
            have UXs := Xs
            have UXt := Xt
            have UXd := Xd
            have hS := Below.refl r12x5.drew.heap.size r12x5.drew
            refine rg_take 0 (some 78) (.int .u64 y2) (by kernel_rfl) (fun _ _ => by kernel_rfl) (fun _ _ _ h => h) hS ?_
            refine rg_take 2 (some 80) (.int .u64 y2) (by kernel_rfl) (fun _ _ => by kernel_rfl) (fun _ _ _ h => h) hS ?_
            refine rg_call 1 (some 79) 60 #[.int .u64 y2] (by kernel_rfl) (by kernel_rfl) (dOf (by omega) (by omega)) ?_
            rintro e r14x1 ⟨Aa, Na, Ca, rfl, Oa, hka, hB⟩
            refine ⟨_, rfl, joinB hS hB, ?_⟩
            replace hS := joinB hS hB
            replace N0 := N0.keep hB
            replace N1 := N1.keep hB
            replace P0 := P0.keep hB
            replace P1 := P1.keep hB
            replace XA := XA.keep hB
            replace XB := XB.keep hB
            replace X0 := X0.keep hB
            replace X1 := X1.keep hB
            replace Xs := Xs.keep hB
            replace Xt := Xt.keep hB
            replace Ws := Ws.keep hB
            replace Wt := Wt.keep hB
            replace Wd := Wd.keep hB
            replace Xd := Xd.keep hB
            replace HB := joinB HB hB
            clear hB
            refine rg_call 3 (some 81) 61 #[.int .u64 y2] (by kernel_rfl) (by kernel_rfl) (eOf (by omega) (by omega)) ?_
            rintro e r14x2 ⟨Ab, Nb, Cb, rfl, Ob, hkb, hB⟩
            refine ⟨_, rfl, joinB hS hB, ?_⟩
            replace hS := joinB hS hB
            replace N0 := N0.keep hB
            replace N1 := N1.keep hB
            replace P0 := P0.keep hB
            replace P1 := P1.keep hB
            replace XA := XA.keep hB
            replace XB := XB.keep hB
            replace X0 := X0.keep hB
            replace X1 := X1.keep hB
            replace Xs := Xs.keep hB
            replace Xt := Xt.keep hB
            replace Ws := Ws.keep hB
            replace Wt := Wt.keep hB
            replace Wd := Wd.keep hB
            replace Xd := Xd.keep hB
            replace Oa := Oa.keep hB
            replace HB := joinB HB hB
            clear hB
            refine rg_call 4 (some 82) 36 #[.agg #[.slice Aa Na Ca], .agg #[.slice Ab Nb Cb]] (by kernel_rfl) (by kernel_rfl) (hDecT Oa Ob (by omega) (by omega)) ?_
            rintro e r14x3 ⟨rfl, hB⟩
            refine ⟨_, rfl, joinB hS hB, ?_⟩
            replace hS := joinB hS hB
            replace N0 := N0.keep hB
            replace N1 := N1.keep hB
            replace P0 := P0.keep hB
            replace P1 := P1.keep hB
            replace XA := XA.keep hB
            replace XB := XB.keep hB
            replace X0 := X0.keep hB
            replace X1 := X1.keep hB
            replace Xs := Xs.keep hB
            replace Xt := Xt.keep hB
            replace Ws := Ws.keep hB
            replace Wt := Wt.keep hB
            replace Wd := Wd.keep hB
            replace Xd := Xd.keep hB
            replace Oa := Oa.keep hB
            replace Ob := Ob.keep hB
            replace HB := joinB HB hB
            clear hB
            refine rg_take 5 (some 83) (.bool false) (by kernel_rfl) (fun _ _ => by kernel_rfl) (fun _ _ _ h => h) hS ?_
            refine rg_take 6 (some 84) (.bool false) (by kernel_rfl) (fun _ _ => by kernel_rfl) (fun _ _ _ h => h) hS ?_
            refine rg_take 7 (some 85) (.int .u64 y2) (by kernel_rfl) (fun _ _ => by kernel_rfl) (fun _ _ _ h => h) hS ?_
            refine rg_take 9 (some 87) (.int .u64 y2) (by kernel_rfl) (fun _ _ => by kernel_rfl) (fun _ _ _ h => h) hS ?_
            refine rg_call 8 (some 86) 62 #[.int .u64 y2] (by kernel_rfl) (by kernel_rfl) (dBasis (by omega) (by omega)) ?_
            rintro e r14x4 ⟨Ac, Nc, Cc, rfl, Oc, hkc, hB⟩
            refine ⟨_, rfl, joinB hS hB, ?_⟩
            replace hS := joinB hS hB
            replace N0 := N0.keep hB
            replace N1 := N1.keep hB
            replace P0 := P0.keep hB
            replace P1 := P1.keep hB
            replace XA := XA.keep hB
            replace XB := XB.keep hB
            replace X0 := X0.keep hB
            replace X1 := X1.keep hB
            replace Xs := Xs.keep hB
            replace Xt := Xt.keep hB
            replace Ws := Ws.keep hB
            replace Wt := Wt.keep hB
            replace Wd := Wd.keep hB
            replace Xd := Xd.keep hB
            replace Oa := Oa.keep hB
            replace Ob := Ob.keep hB
            replace HB := joinB HB hB
            clear hB
            refine rg_call 10 (some 88) 63 #[.int .u64 y2] (by kernel_rfl) (by kernel_rfl) (eBasis (by omega) (by omega)) ?_
            rintro e r14x5 ⟨Ae, Ne, Ce, rfl, Oe, hke, hB⟩
            refine ⟨_, rfl, joinB hS hB, ?_⟩
            replace hS := joinB hS hB
            replace N0 := N0.keep hB
            replace N1 := N1.keep hB
            replace P0 := P0.keep hB
            replace P1 := P1.keep hB
            replace XA := XA.keep hB
            replace XB := XB.keep hB
            replace X0 := X0.keep hB
            replace X1 := X1.keep hB
            replace Xs := Xs.keep hB
            replace Xt := Xt.keep hB
            replace Ws := Ws.keep hB
            replace Wt := Wt.keep hB
            replace Wd := Wd.keep hB
            replace Xd := Xd.keep hB
            replace Oa := Oa.keep hB
            replace Ob := Ob.keep hB
            replace Oc := Oc.keep hB
            replace HB := joinB HB hB
            clear hB
            refine rg_call 11 (some 89) 36 #[.agg #[.slice Ac Nc Cc], .agg #[.slice Ae Ne Ce]] (by kernel_rfl) (by kernel_rfl) (hDecT (Oc.eqv (basis_is y2)) Oe (by omega) (by omega)) ?_
            rintro e r14x6 ⟨rfl, hB⟩
            refine ⟨_, rfl, joinB hS hB, ?_⟩
            replace hS := joinB hS hB
            replace N0 := N0.keep hB
            replace N1 := N1.keep hB
            replace P0 := P0.keep hB
            replace P1 := P1.keep hB
            replace XA := XA.keep hB
            replace XB := XB.keep hB
            replace X0 := X0.keep hB
            replace X1 := X1.keep hB
            replace Xs := Xs.keep hB
            replace Xt := Xt.keep hB
            replace Ws := Ws.keep hB
            replace Wt := Wt.keep hB
            replace Wd := Wd.keep hB
            replace Xd := Xd.keep hB
            replace Oa := Oa.keep hB
            replace Ob := Ob.keep hB
            replace Oc := Oc.keep hB
            replace Oe := Oe.keep hB
            replace HB := joinB HB hB
            clear hB
            refine rg_take 12 (some 90) (.bool false) (by kernel_rfl) (fun _ _ => by kernel_rfl) (fun _ _ _ h => h) hS ?_
            refine rg_take 13 (some 91) (.bool false) (by kernel_rfl) (fun _ _ => by kernel_rfl) (fun _ _ _ h => h) hS ?_
            refine rg_take 14 (some 92) (.bool false) (by kernel_rfl) (fun _ _ => by kernel_rfl) (fun _ _ _ h => h) hS ?_
            refine rg_take 15 (some 93) (.pointer (some ⟨g7, 0, none⟩)) (by kernel_rfl) (fun _ _ => by kernel_rfl) (fun _ _ _ h => h) hS ?_
            refine rg_load 16 (some 94) (.slice ax len0 dx) 28 93 (g7) 0 (by kernel_rfl) (by kernel_rfl) (by kernel_rfl) (fun _ hb => load_raw ((UXA.keep hb).slot)) (fun _ _ _ h => h) hS ?_
            refine rg_take 18 (some 96) (.pointer (some ⟨w.heap.size, 0, none⟩)) (by kernel_rfl) (fun _ _ => by kernel_rfl) (fun _ _ _ h => h) hS ?_
            refine rg_load 19 (some 97) (.slice a0 len0 cap0) 28 96 (w.heap.size) 0 (by kernel_rfl) (by kernel_rfl) (by kernel_rfl) (fun _ hb => load_raw ((UP0.keep hb).slot)) (fun _ _ _ h => h) hS ?_
            refine rg_call 17 (some 95) 64 #[.slice ax len0 dx] (by kernel_rfl) (by kernel_rfl) (dOfNat X0.a (by omega)) ?_
            rintro e r14x7 ⟨Af, Nf, Cf, rfl, Of, hkf, hB⟩
            refine ⟨_, rfl, joinB hS hB, ?_⟩
            replace hS := joinB hS hB
            replace N0 := N0.keep hB
            replace N1 := N1.keep hB
            replace P0 := P0.keep hB
            replace P1 := P1.keep hB
            replace XA := XA.keep hB
            replace XB := XB.keep hB
            replace X0 := X0.keep hB
            replace X1 := X1.keep hB
            replace Xs := Xs.keep hB
            replace Xt := Xt.keep hB
            replace Ws := Ws.keep hB
            replace Wt := Wt.keep hB
            replace Wd := Wd.keep hB
            replace Xd := Xd.keep hB
            replace Oa := Oa.keep hB
            replace Ob := Ob.keep hB
            replace Oc := Oc.keep hB
            replace Oe := Oe.keep hB
            replace HB := joinB HB hB
            clear hB
            refine rg_call 20 (some 98) 65 #[.slice a0 len0 cap0] (by kernel_rfl) (by kernel_rfl) (eOfNat N0.a (by omega)) ?_
            rintro e r14x8 ⟨Ag, Ng, Cg, rfl, Og, hkg, hB⟩
            refine ⟨_, rfl, joinB hS hB, ?_⟩
            replace hS := joinB hS hB
            replace N0 := N0.keep hB
            replace N1 := N1.keep hB
            replace P0 := P0.keep hB
            replace P1 := P1.keep hB
            replace XA := XA.keep hB
            replace XB := XB.keep hB
            replace X0 := X0.keep hB
            replace X1 := X1.keep hB
            replace Xs := Xs.keep hB
            replace Xt := Xt.keep hB
            replace Ws := Ws.keep hB
            replace Wt := Wt.keep hB
            replace Wd := Wd.keep hB
            replace Xd := Xd.keep hB
            replace Oa := Oa.keep hB
            replace Ob := Ob.keep hB
            replace Oc := Oc.keep hB
            replace Oe := Oe.keep hB
            replace Of := Of.keep hB
            replace HB := joinB HB hB
            clear hB
            refine rg_call 21 (some 99) 36 #[.agg #[.slice Af Nf Cf], .agg #[.slice Ag Ng Cg]] (by kernel_rfl) (by kernel_rfl) (hDecT Of Og (by omega) (by omega)) ?_
            rintro e r14x9 ⟨rfl, hB⟩
            refine ⟨_, rfl, joinB hS hB, ?_⟩
            replace hS := joinB hS hB
            replace N0 := N0.keep hB
            replace N1 := N1.keep hB
            replace P0 := P0.keep hB
            replace P1 := P1.keep hB
            replace XA := XA.keep hB
            replace XB := XB.keep hB
            replace X0 := X0.keep hB
            replace X1 := X1.keep hB
            replace Xs := Xs.keep hB
            replace Xt := Xt.keep hB
            replace Ws := Ws.keep hB
            replace Wt := Wt.keep hB
            replace Wd := Wd.keep hB
            replace Xd := Xd.keep hB
            replace Oa := Oa.keep hB
            replace Ob := Ob.keep hB
            replace Oc := Oc.keep hB
            replace Oe := Oe.keep hB
            replace Of := Of.keep hB
            replace Og := Og.keep hB
            replace HB := joinB HB hB
            clear hB
            refine rg_take 22 (some 100) (.bool false) (by kernel_rfl) (fun _ _ => by kernel_rfl) (fun _ _ _ h => h) hS ?_
            refine rg_take 23 (some 101) (.bool false) (by kernel_rfl) (fun _ _ => by kernel_rfl) (fun _ _ _ h => h) hS ?_
            refine rg_take 24 (some 102) (.bool false) (by kernel_rfl) (fun _ _ => by kernel_rfl) (fun _ _ _ h => h) hS ?_
            refine rg_load 25 (some 103) (.agg #[.slice ax len0 dx]) 46 7 (g7) 0 (by kernel_rfl) (by kernel_rfl) (by kernel_rfl) (fun _ hb => load_dec ((UXA.keep hb).slot)) (fun _ _ _ h => h) hS ?_
            refine rg_load 27 (some 105) (.agg #[.slice a0 len0 cap0]) 46 3 (w.heap.size) 0 (by kernel_rfl) (by kernel_rfl) (by kernel_rfl) (fun _ hb => load_dec ((UP0.keep hb).slot)) (fun _ _ _ h => h) hS ?_
            refine rg_call 26 (some 104) 33 #[.agg #[.slice ax len0 dx]] (by kernel_rfl) (by kernel_rfl) (zeroD X0.a (by omega) true hbz) ?_
            rintro e r14x10 ⟨rfl, hB⟩
            refine ⟨_, rfl, joinB hS hB, ?_⟩
            replace hS := joinB hS hB
            replace N0 := N0.keep hB
            replace N1 := N1.keep hB
            replace P0 := P0.keep hB
            replace P1 := P1.keep hB
            replace XA := XA.keep hB
            replace XB := XB.keep hB
            replace X0 := X0.keep hB
            replace X1 := X1.keep hB
            replace Xs := Xs.keep hB
            replace Xt := Xt.keep hB
            replace Ws := Ws.keep hB
            replace Wt := Wt.keep hB
            replace Wd := Wd.keep hB
            replace Xd := Xd.keep hB
            replace Oa := Oa.keep hB
            replace Ob := Ob.keep hB
            replace Oc := Oc.keep hB
            replace Oe := Oe.keep hB
            replace Of := Of.keep hB
            replace Og := Og.keep hB
            replace HB := joinB HB hB
            clear hB
            refine rg_call 28 (some 106) 66 #[.agg #[.slice a0 len0 cap0]] (by kernel_rfl) (by kernel_rfl) (zeroE N0.a (by omega) true hbz) ?_
            rintro e r14x11 ⟨rfl, hB⟩
            refine ⟨_, rfl, joinB hS hB, ?_⟩
            replace hS := joinB hS hB
            replace N0 := N0.keep hB
            replace N1 := N1.keep hB
            replace P0 := P0.keep hB
            replace P1 := P1.keep hB
            replace XA := XA.keep hB
            replace XB := XB.keep hB
            replace X0 := X0.keep hB
            replace X1 := X1.keep hB
            replace Xs := Xs.keep hB
            replace Xt := Xt.keep hB
            replace Ws := Ws.keep hB
            replace Wt := Wt.keep hB
            replace Wd := Wd.keep hB
            replace Xd := Xd.keep hB
            replace Oa := Oa.keep hB
            replace Ob := Ob.keep hB
            replace Oc := Oc.keep hB
            replace Oe := Oe.keep hB
            replace Of := Of.keep hB
            replace Og := Og.keep hB
            replace HB := joinB HB hB
            clear hB
            refine rg_take 29 (some 107) (.bool false) (by kernel_rfl) (fun _ _ => by kernel_rfl) (fun _ _ _ h => h) hS ?_
            refine rg_take 30 (some 108) (.bool false) (by kernel_rfl) (fun _ _ => by kernel_rfl) (fun _ _ _ h => h) hS ?_
            refine rg_take 31 (some 109) (.bool false) (by kernel_rfl) (fun _ _ => by kernel_rfl) (fun _ _ _ h => h) hS ?_
            refine rg_load 32 (some 110) (.agg #[.slice ax len0 dx]) 46 7 (g7) 0 (by kernel_rfl) (by kernel_rfl) (by kernel_rfl) (fun _ hb => load_dec ((UXA.keep hb).slot)) (fun _ _ _ h => h) hS ?_
            refine rg_load 33 (some 111) (.agg #[.slice ay len1 dy]) 46 8 (g8) 0 (by kernel_rfl) (by kernel_rfl) (by kernel_rfl) (fun _ hb => load_dec ((UXB.keep hb).slot)) (fun _ _ _ h => h) hS ?_
            refine rg_load 35 (some 113) (.agg #[.slice a0 len0 cap0]) 46 3 (w.heap.size) 0 (by kernel_rfl) (by kernel_rfl) (by kernel_rfl) (fun _ hb => load_dec ((UP0.keep hb).slot)) (fun _ _ _ h => h) hS ?_
            refine rg_load 36 (some 114) (.agg #[.slice a1 len1 cap1]) 46 4 (w.heap.size + 1) 0 (by kernel_rfl) (by kernel_rfl) (by kernel_rfl) (fun _ hb => load_dec ((UP1.keep hb).slot)) (fun _ _ _ h => h) hS ?_
            refine rg_call 34 (some 112) 32 #[.agg #[.slice ax len0 dx], .agg #[.slice ay len1 dy]] (by kernel_rfl) (by kernel_rfl) (cmpD X0.a X1.a (by omega) (by omega) sx hsx) ?_
            rintro e r14x12 ⟨rfl, hB⟩
            refine ⟨_, rfl, joinB hS hB, ?_⟩
            replace hS := joinB hS hB
            replace N0 := N0.keep hB
            replace N1 := N1.keep hB
            replace P0 := P0.keep hB
            replace P1 := P1.keep hB
            replace XA := XA.keep hB
            replace XB := XB.keep hB
            replace X0 := X0.keep hB
            replace X1 := X1.keep hB
            replace Xs := Xs.keep hB
            replace Xt := Xt.keep hB
            replace Ws := Ws.keep hB
            replace Wt := Wt.keep hB
            replace Wd := Wd.keep hB
            replace Xd := Xd.keep hB
            replace Oa := Oa.keep hB
            replace Ob := Ob.keep hB
            replace Oc := Oc.keep hB
            replace Oe := Oe.keep hB
            replace Of := Of.keep hB
            replace Og := Og.keep hB
            replace HB := joinB HB hB
            clear hB
            refine rg_call 37 (some 115) 67 #[.agg #[.slice a0 len0 cap0], .agg #[.slice a1 len1 cap1]] (by kernel_rfl) (by kernel_rfl) (cmpE N0.a N1.a (by omega) (by omega) sx hsx) ?_
            rintro e r14x13 ⟨rfl, hB⟩
            refine ⟨_, rfl, joinB hS hB, ?_⟩
            replace hS := joinB hS hB
            replace N0 := N0.keep hB
            replace N1 := N1.keep hB
            replace P0 := P0.keep hB
            replace P1 := P1.keep hB
            replace XA := XA.keep hB
            replace XB := XB.keep hB
            replace X0 := X0.keep hB
            replace X1 := X1.keep hB
            replace Xs := Xs.keep hB
            replace Xt := Xt.keep hB
            replace Ws := Ws.keep hB
            replace Wt := Wt.keep hB
            replace Wd := Wd.keep hB
            replace Xd := Xd.keep hB
            replace Oa := Oa.keep hB
            replace Ob := Ob.keep hB
            replace Oc := Oc.keep hB
            replace Oe := Oe.keep hB
            replace Of := Of.keep hB
            replace Og := Og.keep hB
            replace HB := joinB HB hB
            clear hB
            refine rg_eq 38 (some 116) (.bool ((sx : Int) != sx)) (.bool false) (by rw [bne_self_eq_false]) (by kernel_rfl) (fun _ _ => by kernel_rfl) (fun _ _ _ h => h) hS ?_
            refine rg_take 39 (some 117) (.bool false) (by kernel_rfl) (fun _ _ => by kernel_rfl) (fun _ _ _ h => h) hS ?_
            refine rg_done (by kernel_rfl) ?_
            clear hS UP0 UP1 UXA UXB UXs UXt UXd
            try simp only [Act.put, List.setIfInBounds_toArray, List.set_cons_zero, List.set_cons_succ]
            clear Oa Ob Oc Oe Of Og
            have c1P0 := P0.slot.cell
            have c1P1 := P1.slot.cell
            have c1XA := XA.slot.cell
            have c1XB := XB.slot.cell
            have c1Xs := Xs.slot.cell
            have c1Xt := Xt.slot.cell
            have c1Xd := Xd.slot.cell
            go_wp2_with fail
            refine (uSpoil Ws (by omega)).mono ?_
            rintro e s5w ⟨rfl, ⟨TT, hT⟩, hX, hB⟩
            clear c1P0 c1P1 c1XA c1XB c1Xs c1Xt c1Xd
            replace Xt := hX _ _ _ Xt (no_ints1 _ _ _)
            replace Xd := hX _ _ _ Xd (no_ints1 _ _ _)
            replace Wt := Wt.turn hT
            replace Wd := Wd.turn hT
            replace HB := HB.trans hB
            clear hT hX hB TT
            replace N0 := N0u.keep HB
            replace N1 := N1u.keep HB
            replace P0 := P0u.keep HB
            replace P1 := P1u.keep HB
            replace XA := XAu.keep HB
            replace XB := XBu.keep HB
            replace X0 := X0u.keep HB
            replace X1 := X1u.keep HB
            clear Ws Xs
            have c1P0 := P0.slot.cell
            have c1P1 := P1.slot.cell
            have c1XA := XA.slot.cell
            have c1XB := XB.slot.cell
            have c1Xt := Xt.slot.cell
            have c1Xd := Xd.slot.cell
            go_wp2_with fail
            refine (uSpoil Wt (by omega)).mono ?_
            rintro e s6w ⟨rfl, ⟨TT, hT⟩, hX, hB⟩
            clear c1P0 c1P1 c1XA c1XB c1Xt c1Xd
            replace Xd := hX _ _ _ Xd (no_ints1 _ _ _)
            replace Wd := Wd.turn hT
            replace HB := HB.trans hB
            clear hT hX hB TT
            replace N0 := N0u.keep HB
            replace N1 := N1u.keep HB
            replace P0 := P0u.keep HB
            replace P1 := P1u.keep HB
            replace XA := XAu.keep HB
            replace XB := XBu.keep HB
            replace X0 := X0u.keep HB
            replace X1 := X1u.keep HB
            clear Wt Xt
            have c1P0 := P0.slot.cell
            have c1P1 := P1.slot.cell
            have c1XA := XA.slot.cell
            have c1XB := XB.slot.cell
            have c1Xd := Xd.slot.cell
            go_wp2_with fail
            refine (uSpoil Wd (by omega)).mono ?_
            rintro e s7w ⟨rfl, ⟨TT, hT⟩, hX, hB⟩
            clear c1P0 c1P1 c1XA c1XB c1Xd
            replace HB := HB.trans hB
            clear hT hX hB TT
            replace N0 := N0u.keep HB
            replace N1 := N1u.keep HB
            replace P0 := P0u.keep HB
            replace P1 := P1u.keep HB
            replace XA := XAu.keep HB
            replace XB := XBu.keep HB
            replace X0 := X0u.keep HB
            replace X1 := X1u.keep HB
            clear Wd Xd
            have c1P0 := P0.slot.cell
            have c1P1 := P1.slot.cell
            have c1XA := XA.slot.cell
            have c1XB := XB.slot.cell
            go_wp2_with fail
            refine (lDec X0 N0 (by omega) (by omega)).mono ?_
            rintro e x8 ⟨rfl, hB⟩
            clear c1P0 c1P1 c1XA c1XB
            replace N0 := N0.keep hB
            replace N1 := N1.keep hB
            replace P0 := P0.keep hB
            replace P1 := P1.keep hB
            replace XA := XA.keep hB
            replace XB := XB.keep hB
            replace X0 := X0.keep hB
            replace X1 := X1.keep hB
            replace HB := joinB HB hB
            clear hB
            have c1P0 := P0.slot.cell
            have c1P1 := P1.slot.cell
            have c1XA := XA.slot.cell
            have c1XB := XB.slot.cell
            go_wp2_with fail
            refine (lDec X1 N1 (by omega) (by omega)).mono ?_
            rintro e x9 ⟨rfl, hB⟩
            clear c1P0 c1P1 c1XA c1XB
            replace N0 := N0.keep hB
            replace N1 := N1.keep hB
            replace P0 := P0.keep hB
            replace P1 := P1.keep hB
            replace XA := XA.keep hB
            replace XB := XB.keep hB
            replace X0 := X0.keep hB
            replace X1 := X1.keep hB
            replace HB := joinB HB hB
            clear hB
            go_wp2
            go_roundw
            case rel => exact ⟨k + 1, by omega, by go_num, HB⟩
            case measure => simp [intOf]; omega
end decSums
end Go.Proofs.YtjihgkanbhccpaaGreatDoor
