/- gleanlaw2.DecBack returns true for all decimals. -/
import Derived.Test.YtjihgkanbhccpaaGreatDoorJfa
import Derived.Test.YtjihgkanbhccpaaGreatDoorJda
import Derived.Test.YtjihgkanbhccpaaGreatDoorJea
namespace Go.Proofs.YtjihgkanbhccpaaGreatDoor
namespace decBack
open Go.RowKit Lim

theorem cmpD {w : World} {ao ao' : Option Addr} {n c n' c' : Nat} {x y : Int} (h : NatA w ao n c x) (h' : NatA w ao' n' c' y) (hn : n ≤ 1099511627776) (hn' : n' ≤ 1099511627776) (r : Int) (hr : sgn x y = r) :
    Calls Tryz.prog 32 #[.agg #[.slice ao n c], .agg #[.slice ao' n' c']] w fun e w' => e = .returned (.int .i64 r) ∧ Below w.heap.size w w' := by
  have t := dCmp h h' hn hn'
  rw [hr] at t
  exact t
theorem zeroD {w : World} {ao : Option Addr} {n c : Nat} {x : Int} (h : NatA w ao n c x) (hn : n ≤ 1099511627776) (r : Bool) (hr : decide (x = 0) = r) :
    Calls Tryz.prog 33 #[.agg #[.slice ao n c]] w fun e w' => e = .returned (.bool r) ∧ Below w.heap.size w w' := by
  have t := dZero h hn
  rw [hr] at t
  exact t
theorem nSameD {w : World} {a0 a1 : Option Addr} {n0 c0 n1 c1 : Nat} {x : Int} (h0 : NatO w a0 n0 c0 x) (h1 : NatO w a1 n1 c1 x) (hn0 : n0 ≤ 4398046511104) (hn1 : n1 ≤ 4398046511104) :
    Calls Tryz.prog 42 #[.slice a0 n0 c0, .slice a1 n1 c1] w fun e w' => e = .returned (.bool true) ∧ Below w.heap.size w w' := by
  have t := nSame h0 h1 hn0 hn1
  rw [decide_eq_true (show x = x from rfl)] at t
  exact t
theorem appAll_tab {w0 w : World} (htab : Lib.TabIs Tryz.prog w0 "internal/strconv.uint64pow10" .u64 Lib.pow10Tab) (hb0 : Below w0.heap.size w0 w) (x : Int) : AppAll w x :=
  fun g g1 g2 g3 g4 wx hb => app_any htab _ g4 (by have := (g1 _ (nth_mem (Nat.sub_lt (Nat.pos_of_ne_zero (fun e => g3 (List.eq_nil_of_length_eq_zero e))) Nat.one_pos))).2; omega) wx (joinB hb0 hb)
set_option maxHeartbeats 16000000 in
set_option maxRecDepth 100000 in
theorem walk (a0 : Option Addr) (len0 cap0 : Nat) (z0 : List Int) (a1 : Option Addr) (len1 cap1 : Nat) (z1 : List Int) (w : World) (w0 : IsRow w a0 len0 cap0 z0) (w1 : IsRow w a1 len1 cap1 z1) (htab : Lib.TabIs Tryz.prog w "internal/strconv.uint64pow10" .u64 Lib.pow10Tab) :
    Calls Tryz.prog 12 #[.agg #[.slice a0 len0 cap0], .agg #[.slice a1 len1 cap1]] w fun e w' => e = .returned (.bool true) ∧ Below w.heap.size w w' := by
  obtain ⟨g0, o0, l0, hl0, hc0, hm0, W0, h0⟩ := w0.open
  have N0 : NatA w a0 len0 cap0 (val l0) := ⟨g0, o0, l0, hl0, hc0, W0, h0, rfl⟩
  clear h0 w0 W0 hl0
  obtain ⟨g1, o1, l1, hl1, hc1, hm1, W1, h1⟩ := w1.open
  have N1 : NatA w a1 len1 cap1 (val l1) := ⟨g1, o1, l1, hl1, hc1, W1, h1, rfl⟩
  clear h1 w1 W1 hl1
  have HB := Below.refl w.heap.size w
  have P0 := box_new (w) [.slice a0 len0 cap0] 46
  have BA := below_alloc (w) (.cells #[.slice a0 len0 cap0] 46)
  replace N0 := N0.keep BA
  replace N1 := N1.keep BA
  replace HB := joinB HB BA
  clear BA
  have P1 := box_new ((w).alloc (.cells #[.slice a0 len0 cap0] 46)) [.slice a1 len1 cap1] 46
  rw [show ((w).alloc (.cells #[.slice a0 len0 cap0] 46)).heap.size = w.heap.size + 1 by simp] at P1
  have BA := below_alloc ((w).alloc (.cells #[.slice a0 len0 cap0] 46)) (.cells #[.slice a1 len1 cap1] 46)
  replace N0 := N0.keep BA
  replace N1 := N1.keep BA
  replace P0 := P0.keep BA
  replace HB := joinB HB BA
  clear BA
  go_enter Tryz.func12, Tryz.ntmps12
  go_wp2_with fail
  generalize (w.alloc (.cells #[.slice a0 len0 cap0] 46)).alloc (.cells #[.slice a1 len1 cap1] 46) = u0 at *
  refine (knownD u0).mono ?_
  rintro e u1 ⟨rfl, hB⟩
  replace N0 := N0.keep hB
  replace N1 := N1.keep hB
  replace P0 := P0.keep hB
  replace P1 := P1.keep hB
  replace HB := joinB HB hB
  clear hB
  have bS := below_alloc u1 (.cells #[.slice a0 len0 cap0, .slice a1 len1 cap1] 46)
  have tS := smallD_any [(a0, len0, cap0), (a1, len1, cap1)] u1.heap.size 2 2 (u1.alloc (.cells #[.slice a0 len0 cap0, .slice a1 len1 cap1] 46)) rfl (by decide)
    (fun i => by
      match i with
      | 0 => exact hm0
      | 1 => exact hm1
      | _ + 2 => exact Nat.zero_le _)
    (fun i hi => by
      rw [cell_new]
      match i, hi with
      | 0, _ => rfl
      | 1, _ => rfl)
  have c1P0 := P0.slot.cell
  have c1P1 := P1.slot.cell
  go_wp2_with fail
  refine tS.mono ?_
  rintro e u2 ⟨rfl, rfl⟩
  clear tS
  clear c1P0 c1P1
  replace N0 := N0.keep bS
  replace N1 := N1.keep bS
  replace P0 := P0.keep bS
  replace P1 := P1.keep bS
  replace HB := joinB HB bS
  clear bS
  generalize u1.alloc (.cells #[.slice a0 len0 cap0, .slice a1 len1 cap1] 46) = u2 at *
  generalize u1.heap.size = gs at *
  by_cases hsm : smallD [(a0, len0, cap0), (a1, len1, cap1)] = true
  rotate_left
  · have hsf : smallD [(a0, len0, cap0), (a1, len1, cap1)] = false := by rw [Bool.not_eq_true] at hsm; exact hsm
    rw [hsf]
    have c1P0 := P0.slot.cell
    have c1P1 := P1.slot.cell
    go_wp2
    go_ret
    exact ⟨rfl, HB⟩
  rw [hsm]
  simp only [smallD, List.all_cons, List.all_nil, Bool.and_true, Bool.and_eq_true, decide_eq_true_eq] at hsm
  obtain ⟨hs0, hs1⟩ := hsm
  generalize val l0 = xa at *
  generalize val l1 = xb at *
  have hxa := N0.nonneg
  have hxb := N1.nonneg
  have c1P0 := P0.slot.cell
  have c1P1 := P1.slot.cell
  go_wp2_with fail
  refine (dTrunc N0 (by omega)).mono ?_
  rintro e x1 ⟨An, Nn, Cn, Ar, Nr, Cr, rfl, On, Or, hkn, hkr, hB⟩
  clear c1P0 c1P1
  replace N0 := N0.keep hB
  replace N1 := N1.keep hB
  replace P0 := P0.keep hB
  replace P1 := P1.keep hB
  replace HB := joinB HB hB
  clear hB
  have BA := below_alloc x1 (.cells #[.slice Ar Nr Cr] 46)
  have Xr := box_new x1 [.slice Ar Nr Cr] 46
  replace N0 := N0.keep BA
  replace N1 := N1.keep BA
  replace P0 := P0.keep BA
  replace P1 := P1.keep BA
  replace On := On.keep BA
  replace Or := Or.keep BA
  replace HB := joinB HB BA
  clear BA
  have c1P0 := P0.slot.cell
  have c1P1 := P1.slot.cell
  have c1Xr := Xr.slot.cell
  go_wp2_with fail
  clear c1P0 c1P1 c1Xr
  generalize x1.alloc (.cells #[.slice Ar Nr Cr] 46) = y1 at *
  generalize x1.heap.size = gr at *
  refine (dText N0 (by omega) (appAll_tab htab HB (xa / U36))).mono ?_
  rintro e c2w ⟨TS, rfl, hTS, hTz, hB⟩
  replace N0 := N0.keep hB
  replace N1 := N1.keep hB
  replace P0 := P0.keep hB
  replace P1 := P1.keep hB
  replace On := On.keep hB
  replace Or := Or.keep hB
  replace Xr := Xr.keep hB
  replace HB := joinB HB hB
  clear hB
  have HTS := (show Hid _ from hTS)
  clear hTS
  have c1P0 := P0.slot.cell
  have c1P1 := P1.slot.cell
  have c1Xr := Xr.slot.cell
  go_wp2_with fail
  refine (dParse_text HTS.out (by omega) _).mono ?_
  rintro e x3 ⟨At, Nt, Ct, rfl, Ot, hkt, hB⟩
  clear c1P0 c1P1 c1Xr
  replace N0 := N0.keep hB
  replace N1 := N1.keep hB
  replace P0 := P0.keep hB
  replace P1 := P1.keep hB
  replace On := On.keep hB
  replace Or := Or.keep hB
  replace Xr := Xr.keep hB
  replace HB := joinB HB hB
  clear hB
  have BA := below_alloc x3 (.cells #[.slice At Nt Ct] 46)
  have Xt := box_new x3 [.slice At Nt Ct] 46
  replace N0 := N0.keep BA
  replace N1 := N1.keep BA
  replace P0 := P0.keep BA
  replace P1 := P1.keep BA
  replace On := On.keep BA
  replace Or := Or.keep BA
  replace Xr := Xr.keep BA
  replace Ot := Ot.keep BA
  replace HB := joinB HB BA
  clear BA
  have c1P0 := P0.slot.cell
  have c1P1 := P1.slot.cell
  have c1Xr := Xr.slot.cell
  have c1Xt := Xt.slot.cell
  go_wp2_with fail
  clear c1P0 c1P1 c1Xr c1Xt
  generalize x3.alloc (.cells #[.slice At Nt Ct] 46) = y2 at *
  generalize x3.heap.size = gt at *
  refine rg_mid (X := Nat × Option Addr × Nat × Nat × Option Addr × Nat × Nat) (fun ⟨g9, As, Ns, Cs, Ad, Nd, Cd⟩ => [(some 30, .agg #[.slice a0 len0 cap0]), (some 31, .agg #[.slice a1 len1 cap1]), (some 32, .agg #[.slice As Ns Cs]), (some 33, .agg #[.slice a1 len1 cap1]), (some 34, .tuple #[.agg #[.slice Ad Nd Cd], .int .i64 0]), (some 29, .tuple #[.agg #[.slice Ad Nd Cd], .int .i64 0]), (some 35, .agg #[.slice Ad Nd Cd]), (some 36, .int .i64 0), (some 9, .pointer (some ⟨g9, 0, none⟩)), (some 10, .int .i64 0)]) (fun ⟨g9, As, Ns, Cs, Ad, Nd, Cd⟩ w' => Box w' g9 [.slice Ad Nd Cd] 46 ∧ y2.heap.size ≤ g9 ∧ (NatO w' Ad Nd Cd (xa + xb - xb) ∧ Nd ≤ len0 + len1 + 1 + len1) ∧ NatA w' a0 len0 cap0 xa ∧ NatA w' a1 len1 cap1 xb ∧ Box w' (w.heap.size) [.slice a0 len0 cap0] 46 ∧ Box w' (w.heap.size + 1) [.slice a1 len1 cap1] 46 ∧ NatO w' An Nn Cn (xa / U36) ∧ NatO w' Ar Nr Cr (xa % U36) ∧ Box w' (gr) [.slice Ar Nr Cr] 46 ∧ NatO w' At Nt Ct xa ∧ Box w' (gt) [.slice At Nt Ct] 46 ∧ Below w.heap.size w w') (fun w' => Below y2.drew.heap.size y2.drew w') (by kernel_rfl) (Below.refl _ _) ?_ ?_
  · replace N0 := N0.drew
    replace N1 := N1.drew
    replace P0 := P0.drew
    replace P1 := P1.drew
    replace On := On.drew
    replace Or := Or.drew
    replace Xr := Xr.drew
    replace Ot := Ot.drew
    replace Xt := Xt.drew
    replace HB := HB.drew
    have hBu := HB.size
    have UP0 := P0
    have hP0u := P0.lt
    have UP1 := P1
    have hP1u := P1.lt
    have UXr := Xr
    have hXru := Xr.lt
    have UXt := Xt
    have hXtu := Xt.lt
    have hS := Below.refl y2.drew.heap.size y2.drew
    refine rg_load 0 (some 30) (.agg #[.slice a0 len0 cap0]) 46 2 (w.heap.size) 0 (by kernel_rfl) (by kernel_rfl) (by kernel_rfl) (fun _ hb => load_dec ((UP0.keep hb).slot)) (fun _ _ _ h => h) hS ?_
    refine rg_load 1 (some 31) (.agg #[.slice a1 len1 cap1]) 46 3 (w.heap.size + 1) 0 (by kernel_rfl) (by kernel_rfl) (by kernel_rfl) (fun _ hb => load_dec ((UP1.keep hb).slot)) (fun _ _ _ h => h) hS ?_
    refine rg_load 3 (some 33) (.agg #[.slice a1 len1 cap1]) 46 3 (w.heap.size + 1) 0 (by kernel_rfl) (by kernel_rfl) (by kernel_rfl) (fun _ hb => load_dec ((UP1.keep hb).slot)) (fun _ _ _ h => h) hS ?_
    refine rg_ready [2, 8] (by kernel_rfl) (by simp) ?_
    refine ar_call 2 (some 32) 31 #[.agg #[.slice a0 len0 cap0], .agg #[.slice a1 len1 cap1]] (by kernel_rfl) (by kernel_rfl) (dAdd N0 N1 (by omega) (by omega)) ?_ ?_
    · rintro e v7x12 ⟨As, Ns, Cs, rfl, Os, hks, hB⟩
      refine ⟨_, rfl, joinB hS hB, ?_⟩
      replace hS := joinB hS hB
      replace HB := joinB HB hB
      replace N0 := N0.keep hB
      replace N1 := N1.keep hB
      replace On := On.keep hB
      replace Or := Or.keep hB
      replace Ot := Ot.keep hB
      replace P0 := P0.keep hB
      replace P1 := P1.keep hB
      replace Xr := Xr.keep hB
      replace Xt := Xt.keep hB
      clear hB
      refine rg_ready [4, 8] (by kernel_rfl) (by simp) ?_
      refine ar_call 4 (some 34) 56 #[.agg #[.slice As Ns Cs], .agg #[.slice a1 len1 cap1]] (by kernel_rfl) (by kernel_rfl) (dSub Os.a N1 (by omega) (by omega) (by omega)) ?_ ?_
      · rintro e v7x13 ⟨Ad, Nd, Cd, rfl, Od, hkd, hB⟩
        refine ⟨_, rfl, joinB hS hB, ?_⟩
        replace hS := joinB hS hB
        replace HB := joinB HB hB
        replace N0 := N0.keep hB
        replace N1 := N1.keep hB
        replace On := On.keep hB
        replace Or := Or.keep hB
        replace Ot := Ot.keep hB
        replace Os := Os.keep hB
        replace P0 := P0.keep hB
        replace P1 := P1.keep hB
        replace Xr := Xr.keep hB
        replace Xt := Xt.keep hB
        clear hB
        refine rg_take 5 (some 29) (.tuple #[.agg #[.slice Ad Nd Cd], .int .i64 0]) (by kernel_rfl) (fun _ _ => by kernel_rfl) (fun _ _ _ h => h) hS ?_
        refine rg_take 6 (some 35) (.agg #[.slice Ad Nd Cd]) (by kernel_rfl) (fun _ _ => by kernel_rfl) (fun _ _ _ h => h) hS ?_
        refine rg_take 7 (some 36) (.int .i64 0) (by kernel_rfl) (fun _ _ => by kernel_rfl) (fun _ _ _ h => h) hS ?_
        refine rg_ready [8] (by kernel_rfl) (by simp) ?_
        refine ar_alloc 8 (some 9) 46 [.slice none 0 0] (by kernel_rfl) (by kernel_rfl) ?_ ?_
        · intro v7x14 X9 hB
          refine ⟨joinB hS hB, ?_⟩
          have hX9 := hS.size
          replace hS := joinB hS hB
          replace HB := joinB HB hB
          replace N0 := N0.keep hB
          replace N1 := N1.keep hB
          replace On := On.keep hB
          replace Or := Or.keep hB
          replace Ot := Ot.keep hB
          replace Os := Os.keep hB
          replace Od := Od.keep hB
          replace P0 := P0.keep hB
          replace P1 := P1.keep hB
          replace Xr := Xr.keep hB
          replace Xt := Xt.keep hB
          clear hB
          refine rg_ready [9] (by kernel_rfl) (by simp) ?_
          refine ar_store 9 46 46 9 35 (v7x13.heap.size) [.slice none 0 0] [.slice Ad Nd Cd] (by kernel_rfl) (by kernel_rfl) (by kernel_rfl) (by kernel_rfl) X9 (by kernel_rfl) rfl (by kernel_rfl) ?_ ?_
          · intro v7x15 Y hw hB
            refine ⟨hS.trans (hB.mono hX9), ?_⟩
            replace HB := HB.trans (hB.mono (Nat.le_trans hBu hX9))
            replace hS := hS.trans (hB.mono hX9)
            replace N0 := N0.blk X9 (no_ints1 _ _ _) hw
            replace N1 := N1.blk X9 (no_ints1 _ _ _) hw
            replace On := On.blk X9 (no_ints1 _ _ _) hw
            replace Or := Or.blk X9 (no_ints1 _ _ _) hw
            replace Ot := Ot.blk X9 (no_ints1 _ _ _) hw
            replace Os := Os.blk X9 (no_ints1 _ _ _) hw
            replace Od := Od.blk X9 (no_ints1 _ _ _) hw
            replace P0 := P0.off (by omega) hw
            replace P1 := P1.off (by omega) hw
            replace Xr := Xr.off (by omega) hw
            replace Xt := Xt.off (by omega) hw
            replace X9 := Y
            clear hB hw
            refine rg_take 10 (some 10) (.int .i64 0) (by kernel_rfl) (fun _ _ => by kernel_rfl) (fun _ _ _ h => h) hS ?_
            refine rg_done (by kernel_rfl) ?_
            exact ⟨(v7x13.heap.size, As, Ns, Cs, Ad, Nd, Cd), by kernel_rfl, X9, hX9, ⟨Od, by omega⟩, N0, N1, P0, P1, On, Or, Xr, Ot, Xt, HB⟩
          exact ar_nil
        exact ar_nil
      refine ar_alloc 8 (some 9) 46 [.slice none 0 0] (by kernel_rfl) (by kernel_rfl) ?_ ?_
      · intro v7x16 X9 hB
        refine ⟨joinB hS hB, ?_⟩
        have hX9 := hS.size
        replace hS := joinB hS hB
        replace HB := joinB HB hB
        replace N0 := N0.keep hB
        replace N1 := N1.keep hB
        replace On := On.keep hB
        replace Or := Or.keep hB
        replace Ot := Ot.keep hB
        replace Os := Os.keep hB
        replace P0 := P0.keep hB
        replace P1 := P1.keep hB
        replace Xr := Xr.keep hB
        replace Xt := Xt.keep hB
        clear hB
        refine rg_ready [4] (by kernel_rfl) (by simp) ?_
        refine ar_call 4 (some 34) 56 #[.agg #[.slice As Ns Cs], .agg #[.slice a1 len1 cap1]] (by kernel_rfl) (by kernel_rfl) (dSub Os.a N1 (by omega) (by omega) (by omega)) ?_ ?_
        · rintro e v7x17 ⟨Ad, Nd, Cd, rfl, Od, hkd, hB⟩
          refine ⟨_, rfl, joinB hS hB, ?_⟩
          replace hS := joinB hS hB
          replace HB := joinB HB hB
          replace N0 := N0.keep hB
          replace N1 := N1.keep hB
          replace On := On.keep hB
          replace Or := Or.keep hB
          replace Ot := Ot.keep hB
          replace Os := Os.keep hB
          replace P0 := P0.keep hB
          replace P1 := P1.keep hB
          replace Xr := Xr.keep hB
          replace Xt := Xt.keep hB
          replace X9 := X9.keep hB
          clear hB
          refine rg_take 5 (some 29) (.tuple #[.agg #[.slice Ad Nd Cd], .int .i64 0]) (by kernel_rfl) (fun _ _ => by kernel_rfl) (fun _ _ _ h => h) hS ?_
          refine rg_take 6 (some 35) (.agg #[.slice Ad Nd Cd]) (by kernel_rfl) (fun _ _ => by kernel_rfl) (fun _ _ _ h => h) hS ?_
          refine rg_take 7 (some 36) (.int .i64 0) (by kernel_rfl) (fun _ _ => by kernel_rfl) (fun _ _ _ h => h) hS ?_
          refine rg_ready [9] (by kernel_rfl) (by simp) ?_
          refine ar_store 9 46 46 9 35 (v7x12.heap.size) [.slice none 0 0] [.slice Ad Nd Cd] (by kernel_rfl) (by kernel_rfl) (by kernel_rfl) (by kernel_rfl) X9 (by kernel_rfl) rfl (by kernel_rfl) ?_ ?_
          · intro v7x18 Y hw hB
            refine ⟨hS.trans (hB.mono hX9), ?_⟩
            replace HB := HB.trans (hB.mono (Nat.le_trans hBu hX9))
            replace hS := hS.trans (hB.mono hX9)
            replace N0 := N0.blk X9 (no_ints1 _ _ _) hw
            replace N1 := N1.blk X9 (no_ints1 _ _ _) hw
            replace On := On.blk X9 (no_ints1 _ _ _) hw
            replace Or := Or.blk X9 (no_ints1 _ _ _) hw
            replace Ot := Ot.blk X9 (no_ints1 _ _ _) hw
            replace Os := Os.blk X9 (no_ints1 _ _ _) hw
            replace Od := Od.blk X9 (no_ints1 _ _ _) hw
            replace P0 := P0.off (by omega) hw
            replace P1 := P1.off (by omega) hw
            replace Xr := Xr.off (by omega) hw
            replace Xt := Xt.off (by omega) hw
            replace X9 := Y
            clear hB hw
            refine rg_take 10 (some 10) (.int .i64 0) (by kernel_rfl) (fun _ _ => by kernel_rfl) (fun _ _ _ h => h) hS ?_
            refine rg_done (by kernel_rfl) ?_
            exact ⟨(v7x12.heap.size, As, Ns, Cs, Ad, Nd, Cd), by kernel_rfl, X9, hX9, ⟨Od, by omega⟩, N0, N1, P0, P1, On, Or, Xr, Ot, Xt, HB⟩
          exact ar_nil
        exact ar_nil
      exact ar_nil
    refine ar_alloc 8 (some 9) 46 [.slice none 0 0] (by kernel_rfl) (by kernel_rfl) ?_ ?_
    · intro v7x19 X9 hB
      refine ⟨joinB hS hB, ?_⟩
      have hX9 := hS.size
      replace hS := joinB hS hB
      replace HB := joinB HB hB
      replace N0 := N0.keep hB
      replace N1 := N1.keep hB
      replace On := On.keep hB
      replace Or := Or.keep hB
      replace Ot := Ot.keep hB
      replace P0 := P0.keep hB
      replace P1 := P1.keep hB
      replace Xr := Xr.keep hB
      replace Xt := Xt.keep hB
      clear hB
      refine rg_ready [2] (by kernel_rfl) (by simp) ?_
      refine ar_call 2 (some 32) 31 #[.agg #[.slice a0 len0 cap0], .agg #[.slice a1 len1 cap1]] (by kernel_rfl) (by kernel_rfl) (dAdd N0 N1 (by omega) (by omega)) ?_ ?_
      · rintro e v7x20 ⟨As, Ns, Cs, rfl, Os, hks, hB⟩
        refine ⟨_, rfl, joinB hS hB, ?_⟩
        replace hS := joinB hS hB
        replace HB := joinB HB hB
        replace N0 := N0.keep hB
        replace N1 := N1.keep hB
        replace On := On.keep hB
        replace Or := Or.keep hB
        replace Ot := Ot.keep hB
        replace P0 := P0.keep hB
        replace P1 := P1.keep hB
        replace Xr := Xr.keep hB
        replace Xt := Xt.keep hB
        replace X9 := X9.keep hB
        clear hB
        refine rg_ready [4] (by kernel_rfl) (by simp) ?_
        refine ar_call 4 (some 34) 56 #[.agg #[.slice As Ns Cs], .agg #[.slice a1 len1 cap1]] (by kernel_rfl) (by kernel_rfl) (dSub Os.a N1 (by omega) (by omega) (by omega)) ?_ ?_
        · rintro e v7x21 ⟨Ad, Nd, Cd, rfl, Od, hkd, hB⟩
          refine ⟨_, rfl, joinB hS hB, ?_⟩
          replace hS := joinB hS hB
          replace HB := joinB HB hB
          replace N0 := N0.keep hB
          replace N1 := N1.keep hB
          replace On := On.keep hB
          replace Or := Or.keep hB
          replace Ot := Ot.keep hB
          replace Os := Os.keep hB
          replace P0 := P0.keep hB
          replace P1 := P1.keep hB
          replace Xr := Xr.keep hB
          replace Xt := Xt.keep hB
          replace X9 := X9.keep hB
          clear hB
          refine rg_take 5 (some 29) (.tuple #[.agg #[.slice Ad Nd Cd], .int .i64 0]) (by kernel_rfl) (fun _ _ => by kernel_rfl) (fun _ _ _ h => h) hS ?_
          refine rg_take 6 (some 35) (.agg #[.slice Ad Nd Cd]) (by kernel_rfl) (fun _ _ => by kernel_rfl) (fun _ _ _ h => h) hS ?_
          refine rg_take 7 (some 36) (.int .i64 0) (by kernel_rfl) (fun _ _ => by kernel_rfl) (fun _ _ _ h => h) hS ?_
          refine rg_ready [9] (by kernel_rfl) (by simp) ?_
          refine ar_store 9 46 46 9 35 (y2.drew.heap.size) [.slice none 0 0] [.slice Ad Nd Cd] (by kernel_rfl) (by kernel_rfl) (by kernel_rfl) (by kernel_rfl) X9 (by kernel_rfl) rfl (by kernel_rfl) ?_ ?_
          · intro v7x22 Y hw hB
            refine ⟨hS.trans (hB.mono hX9), ?_⟩
            replace HB := HB.trans (hB.mono (Nat.le_trans hBu hX9))
            replace hS := hS.trans (hB.mono hX9)
            replace N0 := N0.blk X9 (no_ints1 _ _ _) hw
            replace N1 := N1.blk X9 (no_ints1 _ _ _) hw
            replace On := On.blk X9 (no_ints1 _ _ _) hw
            replace Or := Or.blk X9 (no_ints1 _ _ _) hw
            replace Ot := Ot.blk X9 (no_ints1 _ _ _) hw
            replace Os := Os.blk X9 (no_ints1 _ _ _) hw
            replace Od := Od.blk X9 (no_ints1 _ _ _) hw
            replace P0 := P0.off (by omega) hw
            replace P1 := P1.off (by omega) hw
            replace Xr := Xr.off (by omega) hw
            replace Xt := Xt.off (by omega) hw
            replace X9 := Y
            clear hB hw
            refine rg_take 10 (some 10) (.int .i64 0) (by kernel_rfl) (fun _ _ => by kernel_rfl) (fun _ _ _ h => h) hS ?_
            refine rg_done (by kernel_rfl) ?_
            exact ⟨(y2.drew.heap.size, As, Ns, Cs, Ad, Nd, Cd), by kernel_rfl, X9, hX9, ⟨Od, by omega⟩, N0, N1, P0, P1, On, Or, Xr, Ot, Xt, HB⟩
          exact ar_nil
        exact ar_nil
      exact ar_nil
    exact ar_nil
  · rintro ⟨g9, As, Ns, Cs, Ad, Nd, Cd⟩ m4w ⟨Xd, hnXd, Od, N0', N1', P0', P1', On', Or', Xr', Ot', Xt', HBn⟩
    replace N0 := N0'
    clear N0'
    replace N1 := N1'
    clear N1'
    replace P0 := P0'
    clear P0'
    replace P1 := P1'
    clear P1'
    replace On := On'
    clear On'
    replace Or := Or'
    clear Or'
    replace Xr := Xr'
    clear Xr'
    replace Ot := Ot'
    clear Ot'
    replace Xt := Xt'
    clear Xt'
    replace HB := HBn
    clear HBn
    try simp only [putAll, Act.put, List.setIfInBounds_toArray, List.set_cons_zero, List.set_cons_succ]
    obtain ⟨Od, hkd⟩ := Od
    replace Od := Od.eqv (show xa + xb - xb = xa by omega)
    have hup := U36_pos
    have hr1 : xa % U36 < U36 := Int.emod_lt_of_pos _ hup
    have hdm : xa / U36 * U36 + xa % U36 = xa := by rw [Int.mul_comm]; exact Int.mul_ediv_add_emod xa U36
    have hlt : sgn (xa % U36) (1 * U36) = -1 := sgn_lt (by omega)
    obtain ⟨bz, hbz⟩ : ∃ b, decide (xa = 0) = b := ⟨_, rfl⟩
    cases bz
    · have h5 : sgn xa 0 = 1 := sgn_gt (by have := of_decide_eq_false hbz; omega)
      have c1P0 := P0.slot.cell
      have c1P1 := P1.slot.cell
      have c1Xr := Xr.slot.cell
      have c1Xt := Xt.slot.cell
      have c1Xd := Xd.slot.cell
      go_wp2_with fail
      clear c1P0 c1P1 c1Xr c1Xt c1Xd
      refine rg_start (S := fun w' => Below m4w.drew.heap.size m4w.drew w') (by kernel_rfl) (Below.refl _ _) ?_
      replace N0 := N0.drew
      replace N1 := N1.drew
      replace P0 := P0.drew
      replace P1 := P1.drew
      replace On := On.drew
      replace Or := Or.drew
      replace Xr := Xr.drew
      replace Ot := Ot.drew
      replace Xt := Xt.drew
      replace Xd := Xd.drew
      replace Od := Od.drew
      replace HB := HB.drew
      have UP0 := P0
      have UP1 := P1
      have UXr := Xr
      have UXt := Xt
      have UXd := Xd
      have hS := Below.refl m4w.drew.heap.size m4w.drew
      clear P0 P1 Xr Xt Xd
      refine rg_take 0 (some 37) (.int .i64 0) (by kernel_rfl) (fun _ _ => by kernel_rfl) (fun _ _ _ h => h) hS ?_
      refine rg_take 1 (some 38) (.int .i64 0) (by kernel_rfl) (fun _ _ => by kernel_rfl) (fun _ _ _ h => h) hS ?_
      refine rg_take 2 (some 39) (.int .i64 0) (by kernel_rfl) (fun _ _ => by kernel_rfl) (fun _ _ _ h => h) hS ?_
      refine rg_take 3 (some 40) (.bool true) (by kernel_rfl) (fun _ _ => by kernel_rfl) (fun _ _ _ h => h) hS ?_
      refine rg_take 4 (some 41) (.bool true) (by kernel_rfl) (fun _ _ => by kernel_rfl) (fun _ _ _ h => h) hS ?_
      refine rg_take 5 (some 42) (.slice An Nn Cn) (by kernel_rfl) (fun _ _ => by kernel_rfl) (fun _ _ _ h => h) hS ?_
      refine rg_load 7 (some 44) (.agg #[.slice Ar Nr Cr]) 46 6 (gr) 0 (by kernel_rfl) (by kernel_rfl) (by kernel_rfl) (fun _ hb => load_dec ((UXr.keep hb).slot)) (fun _ _ _ h => h) hS ?_
      refine rg_load 9 (some 46) (.agg #[.slice a0 len0 cap0]) 46 2 (w.heap.size) 0 (by kernel_rfl) (by kernel_rfl) (by kernel_rfl) (fun _ hb => load_dec ((UP0.keep hb).slot)) (fun _ _ _ h => h) hS ?_
      refine rg_call 6 (some 43) 64 #[.slice An Nn Cn] (by kernel_rfl) (by kernel_rfl) (dOfNat On.a (by omega)) ?_
      rintro e r8x1 ⟨Ao, No, Co, rfl, Oo, hko, hB⟩
      refine ⟨_, rfl, joinB hS hB, ?_⟩
      replace hS := joinB hS hB
      replace N0 := N0.keep hB
      replace N1 := N1.keep hB
      replace On := On.keep hB
      replace Or := Or.keep hB
      replace Ot := Ot.keep hB
      replace Od := Od.keep hB
      replace HB := joinB HB hB
      clear hB
      refine rg_call 8 (some 45) 31 #[.agg #[.slice Ao No Co], .agg #[.slice Ar Nr Cr]] (by kernel_rfl) (by kernel_rfl) (dAdd Oo.a Or.a (by omega) (by omega)) ?_
      rintro e r8x2 ⟨Ap, Np, Cp, rfl, Op, hkp, hB⟩
      refine ⟨_, rfl, joinB hS hB, ?_⟩
      replace hS := joinB hS hB
      replace N0 := N0.keep hB
      replace N1 := N1.keep hB
      replace On := On.keep hB
      replace Or := Or.keep hB
      replace Ot := Ot.keep hB
      replace Od := Od.keep hB
      replace Oo := Oo.keep hB
      replace HB := joinB HB hB
      clear hB
      refine rg_call 10 (some 47) 32 #[.agg #[.slice Ap Np Cp], .agg #[.slice a0 len0 cap0]] (by kernel_rfl) (by kernel_rfl) (cmpD Op.a N0 (by omega) (by omega) 0 (sgn_eq hdm)) ?_
      rintro e r8x3 ⟨rfl, hB⟩
      refine ⟨_, rfl, joinB hS hB, ?_⟩
      replace hS := joinB hS hB
      replace N0 := N0.keep hB
      replace N1 := N1.keep hB
      replace On := On.keep hB
      replace Or := Or.keep hB
      replace Ot := Ot.keep hB
      replace Od := Od.keep hB
      replace Oo := Oo.keep hB
      replace Op := Op.keep hB
      replace HB := joinB HB hB
      clear hB
      refine rg_take 11 (some 48) (.bool true) (by kernel_rfl) (fun _ _ => by kernel_rfl) (fun _ _ _ h => h) hS ?_
      refine rg_take 12 (some 49) (.bool true) (by kernel_rfl) (fun _ _ => by kernel_rfl) (fun _ _ _ h => h) hS ?_
      refine rg_take 13 (some 50) (.bool true) (by kernel_rfl) (fun _ _ => by kernel_rfl) (fun _ _ _ h => h) hS ?_
      refine rg_load 14 (some 51) (.agg #[.slice Ar Nr Cr]) 46 6 (gr) 0 (by kernel_rfl) (by kernel_rfl) (by kernel_rfl) (fun _ hb => load_dec ((UXr.keep hb).slot)) (fun _ _ _ h => h) hS ?_
      refine rg_call 15 (some 52) 60 #[.int .u64 1] (by kernel_rfl) (by kernel_rfl) (dOf (x := 1) (by decide) (by decide)) ?_
      rintro e r8x4 ⟨Aq, Nq, Cq, rfl, Oq, hkq, hB⟩
      refine ⟨_, rfl, joinB hS hB, ?_⟩
      replace hS := joinB hS hB
      replace N0 := N0.keep hB
      replace N1 := N1.keep hB
      replace On := On.keep hB
      replace Or := Or.keep hB
      replace Ot := Ot.keep hB
      replace Od := Od.keep hB
      replace Oo := Oo.keep hB
      replace Op := Op.keep hB
      replace HB := joinB HB hB
      clear hB
      refine rg_call 16 (some 53) 32 #[.agg #[.slice Ar Nr Cr], .agg #[.slice Aq Nq Cq]] (by kernel_rfl) (by kernel_rfl) (cmpD Or.a Oq.a (by omega) (by omega) (-1) hlt) ?_
      rintro e r8x5 ⟨rfl, hB⟩
      refine ⟨_, rfl, joinB hS hB, ?_⟩
      replace hS := joinB hS hB
      replace N0 := N0.keep hB
      replace N1 := N1.keep hB
      replace On := On.keep hB
      replace Or := Or.keep hB
      replace Ot := Ot.keep hB
      replace Od := Od.keep hB
      replace Oo := Oo.keep hB
      replace Op := Op.keep hB
      replace Oq := Oq.keep hB
      replace HB := joinB HB hB
      clear hB
      refine rg_take 17 (some 54) (.bool true) (by kernel_rfl) (fun _ _ => by kernel_rfl) (fun _ _ _ h => h) hS ?_
      refine rg_take 18 (some 55) (.bool true) (by kernel_rfl) (fun _ _ => by kernel_rfl) (fun _ _ _ h => h) hS ?_
      refine rg_take 19 (some 56) (.bool true) (by kernel_rfl) (fun _ _ => by kernel_rfl) (fun _ _ _ h => h) hS ?_
      refine rg_take 20 (some 57) (.pointer (some ⟨gt, 0, none⟩)) (by kernel_rfl) (fun _ _ => by kernel_rfl) (fun _ _ _ h => h) hS ?_
      refine rg_load 21 (some 58) (.slice At Nt Ct) 28 57 (gt) 0 (by kernel_rfl) (by kernel_rfl) (by kernel_rfl) (fun _ hb => load_raw ((UXt.keep hb).slot)) (fun _ _ _ h => h) hS ?_
      refine rg_take 22 (some 59) (.pointer (some ⟨w.heap.size, 0, none⟩)) (by kernel_rfl) (fun _ _ => by kernel_rfl) (fun _ _ _ h => h) hS ?_
      refine rg_load 23 (some 60) (.slice a0 len0 cap0) 28 59 (w.heap.size) 0 (by kernel_rfl) (by kernel_rfl) (by kernel_rfl) (fun _ hb => load_raw ((UP0.keep hb).slot)) (fun _ _ _ h => h) hS ?_
      refine rg_call 24 (some 61) 73 #[.slice a0 len0 cap0] (by kernel_rfl) (by kernel_rfl) (nNorm N0 (by omega)) ?_
      rintro e r8x6 ⟨Ae, Ne, Ce, rfl, Oe, hke, hB⟩
      refine ⟨_, rfl, joinB hS hB, ?_⟩
      replace hS := joinB hS hB
      replace N0 := N0.keep hB
      replace N1 := N1.keep hB
      replace On := On.keep hB
      replace Or := Or.keep hB
      replace Ot := Ot.keep hB
      replace Od := Od.keep hB
      replace Oo := Oo.keep hB
      replace Op := Op.keep hB
      replace Oq := Oq.keep hB
      replace HB := joinB HB hB
      clear hB
      refine rg_call 25 (some 62) 42 #[.slice At Nt Ct, .slice Ae Ne Ce] (by kernel_rfl) (by kernel_rfl) (nSameD Ot Oe (by omega) (by omega)) ?_
      rintro e r8x7 ⟨rfl, hB⟩
      refine ⟨_, rfl, joinB hS hB, ?_⟩
      replace hS := joinB hS hB
      replace N0 := N0.keep hB
      replace N1 := N1.keep hB
      replace On := On.keep hB
      replace Or := Or.keep hB
      replace Ot := Ot.keep hB
      replace Od := Od.keep hB
      replace Oo := Oo.keep hB
      replace Op := Op.keep hB
      replace Oq := Oq.keep hB
      replace Oe := Oe.keep hB
      replace HB := joinB HB hB
      clear hB
      refine rg_take 26 (some 63) (.bool true) (by kernel_rfl) (fun _ _ => by kernel_rfl) (fun _ _ _ h => h) hS ?_
      refine rg_take 27 (some 64) (.bool true) (by kernel_rfl) (fun _ _ => by kernel_rfl) (fun _ _ _ h => h) hS ?_
      refine rg_load 28 (some 65) (.agg #[.slice Ad Nd Cd]) 46 9 (g9) 0 (by kernel_rfl) (by kernel_rfl) (by kernel_rfl) (fun _ hb => load_dec ((UXd.keep hb).slot)) (fun _ _ _ h => h) hS ?_
      refine rg_load 29 (some 66) (.agg #[.slice a0 len0 cap0]) 46 2 (w.heap.size) 0 (by kernel_rfl) (by kernel_rfl) (by kernel_rfl) (fun _ hb => load_dec ((UP0.keep hb).slot)) (fun _ _ _ h => h) hS ?_
      refine rg_call 30 (some 67) 32 #[.agg #[.slice Ad Nd Cd], .agg #[.slice a0 len0 cap0]] (by kernel_rfl) (by kernel_rfl) (cmpD Od.a N0 (by omega) (by omega) 0 (sgn_eq rfl)) ?_
      rintro e r8x8 ⟨rfl, hB⟩
      refine ⟨_, rfl, joinB hS hB, ?_⟩
      replace hS := joinB hS hB
      replace N0 := N0.keep hB
      replace N1 := N1.keep hB
      replace On := On.keep hB
      replace Or := Or.keep hB
      replace Ot := Ot.keep hB
      replace Od := Od.keep hB
      replace Oo := Oo.keep hB
      replace Op := Op.keep hB
      replace Oq := Oq.keep hB
      replace Oe := Oe.keep hB
      replace HB := joinB HB hB
      clear hB
      refine rg_take 31 (some 68) (.bool true) (by kernel_rfl) (fun _ _ => by kernel_rfl) (fun _ _ _ h => h) hS ?_
      refine rg_take 32 (some 69) (.bool true) (by kernel_rfl) (fun _ _ => by kernel_rfl) (fun _ _ _ h => h) hS ?_
      refine rg_take 33 (some 70) (.bool true) (by kernel_rfl) (fun _ _ => by kernel_rfl) (fun _ _ _ h => h) hS ?_
      refine rg_load 34 (some 71) (.agg #[.slice a0 len0 cap0]) 46 2 (w.heap.size) 0 (by kernel_rfl) (by kernel_rfl) (by kernel_rfl) (fun _ hb => load_dec ((UP0.keep hb).slot)) (fun _ _ _ h => h) hS ?_
      refine rg_load 36 (some 73) (.agg #[.slice a0 len0 cap0]) 46 2 (w.heap.size) 0 (by kernel_rfl) (by kernel_rfl) (by kernel_rfl) (fun _ hb => load_dec ((UP0.keep hb).slot)) (fun _ _ _ h => h) hS ?_
      refine rg_take 37 (some 74) (.agg #[.slice none 0 0]) (by kernel_rfl) (fun _ _ => by kernel_rfl) (fun _ _ _ h => h) hS ?_
      refine rg_call 35 (some 72) 33 #[.agg #[.slice a0 len0 cap0]] (by kernel_rfl) (by kernel_rfl) (zeroD N0 (by omega) false hbz) ?_
      rintro e r8x9 ⟨rfl, hB⟩
      refine ⟨_, rfl, joinB hS hB, ?_⟩
      replace hS := joinB hS hB
      replace N0 := N0.keep hB
      replace N1 := N1.keep hB
      replace On := On.keep hB
      replace Or := Or.keep hB
      replace Ot := Ot.keep hB
      replace Od := Od.keep hB
      replace Oo := Oo.keep hB
      replace Op := Op.keep hB
      replace Oq := Oq.keep hB
      replace Oe := Oe.keep hB
      replace HB := joinB HB hB
      clear hB
      refine rg_call 38 (some 75) 32 #[.agg #[.slice a0 len0 cap0], .agg #[.slice none 0 0]] (by kernel_rfl) (by kernel_rfl) (cmpD N0 (natO_nil _).a (by omega) (by omega) 1 h5) ?_
      rintro e r8x10 ⟨rfl, hB⟩
      refine ⟨_, rfl, joinB hS hB, ?_⟩
      replace hS := joinB hS hB
      replace N0 := N0.keep hB
      replace N1 := N1.keep hB
      replace On := On.keep hB
      replace Or := Or.keep hB
      replace Ot := Ot.keep hB
      replace Od := Od.keep hB
      replace Oo := Oo.keep hB
      replace Op := Op.keep hB
      replace Oq := Oq.keep hB
      replace Oe := Oe.keep hB
      replace HB := joinB HB hB
      clear hB
      refine rg_take 39 (some 76) (.bool false) (by kernel_rfl) (fun _ _ => by kernel_rfl) (fun _ _ _ h => h) hS ?_
      refine rg_take 40 (some 77) (.bool true) (by kernel_rfl) (fun _ _ => by kernel_rfl) (fun _ _ _ h => h) hS ?_
      refine rg_take 41 (some 78) (.bool true) (by kernel_rfl) (fun _ _ => by kernel_rfl) (fun _ _ _ h => h) hS ?_
      refine rg_take 42 (some 4) (.bool true) (by kernel_rfl) (fun _ _ => by kernel_rfl) (fun _ _ _ h => h) hS ?_
      refine rg_done (by kernel_rfl) ?_
      clear hS UP0 UP1 UXr UXt UXd
      try simp only [Act.put, List.setIfInBounds_toArray, List.set_cons_zero, List.set_cons_succ]
      go_wp2
      go_ret
      exact ⟨rfl, HB⟩
    · have h5 : sgn xa 0 = 0 := sgn_eq (of_decide_eq_true hbz)
      have c1P0 := P0.slot.cell
      have c1P1 := P1.slot.cell
      have c1Xr := Xr.slot.cell
      have c1Xt := Xt.slot.cell
      have c1Xd := Xd.slot.cell
      go_wp2_with fail
      clear c1P0 c1P1 c1Xr c1Xt c1Xd
      refine rg_start (S := fun w' => Below m4w.drew.heap.size m4w.drew w') (by kernel_rfl) (Below.refl _ _) ?_
      replace N0 := N0.drew
      replace N1 := N1.drew
      replace P0 := P0.drew
      replace P1 := P1.drew
      replace On := On.drew
      replace Or := Or.drew
      replace Xr := Xr.drew
      replace Ot := Ot.drew
      replace Xt := Xt.drew
      replace Xd := Xd.drew
      replace Od := Od.drew
      replace HB := HB.drew
      have UP0 := P0
      have UP1 := P1
      have UXr := Xr
      have UXt := Xt
      have UXd := Xd
      have hS := Below.refl m4w.drew.heap.size m4w.drew
      clear P0 P1 Xr Xt Xd
      refine rg_take 0 (some 37) (.int .i64 0) (by kernel_rfl) (fun _ _ => by kernel_rfl) (fun _ _ _ h => h) hS ?_
      refine rg_take 1 (some 38) (.int .i64 0) (by kernel_rfl) (fun _ _ => by kernel_rfl) (fun _ _ _ h => h) hS ?_
      refine rg_take 2 (some 39) (.int .i64 0) (by kernel_rfl) (fun _ _ => by kernel_rfl) (fun _ _ _ h => h) hS ?_
      refine rg_take 3 (some 40) (.bool true) (by kernel_rfl) (fun _ _ => by kernel_rfl) (fun _ _ _ h => h) hS ?_
      refine rg_take 4 (some 41) (.bool true) (by kernel_rfl) (fun _ _ => by kernel_rfl) (fun _ _ _ h => h) hS ?_
      refine rg_take 5 (some 42) (.slice An Nn Cn) (by kernel_rfl) (fun _ _ => by kernel_rfl) (fun _ _ _ h => h) hS ?_
      refine rg_load 7 (some 44) (.agg #[.slice Ar Nr Cr]) 46 6 (gr) 0 (by kernel_rfl) (by kernel_rfl) (by kernel_rfl) (fun _ hb => load_dec ((UXr.keep hb).slot)) (fun _ _ _ h => h) hS ?_
      refine rg_load 9 (some 46) (.agg #[.slice a0 len0 cap0]) 46 2 (w.heap.size) 0 (by kernel_rfl) (by kernel_rfl) (by kernel_rfl) (fun _ hb => load_dec ((UP0.keep hb).slot)) (fun _ _ _ h => h) hS ?_
      refine rg_call 6 (some 43) 64 #[.slice An Nn Cn] (by kernel_rfl) (by kernel_rfl) (dOfNat On.a (by omega)) ?_
      rintro e r8x1 ⟨Ao, No, Co, rfl, Oo, hko, hB⟩
      refine ⟨_, rfl, joinB hS hB, ?_⟩
      replace hS := joinB hS hB
      replace N0 := N0.keep hB
      replace N1 := N1.keep hB
      replace On := On.keep hB
      replace Or := Or.keep hB
      replace Ot := Ot.keep hB
      replace Od := Od.keep hB
      replace HB := joinB HB hB
      clear hB
      refine rg_call 8 (some 45) 31 #[.agg #[.slice Ao No Co], .agg #[.slice Ar Nr Cr]] (by kernel_rfl) (by kernel_rfl) (dAdd Oo.a Or.a (by omega) (by omega)) ?_
      rintro e r8x2 ⟨Ap, Np, Cp, rfl, Op, hkp, hB⟩
      refine ⟨_, rfl, joinB hS hB, ?_⟩
      replace hS := joinB hS hB
      replace N0 := N0.keep hB
      replace N1 := N1.keep hB
      replace On := On.keep hB
      replace Or := Or.keep hB
      replace Ot := Ot.keep hB
      replace Od := Od.keep hB
      replace Oo := Oo.keep hB
      replace HB := joinB HB hB
      clear hB
      refine rg_call 10 (some 47) 32 #[.agg #[.slice Ap Np Cp], .agg #[.slice a0 len0 cap0]] (by kernel_rfl) (by kernel_rfl) (cmpD Op.a N0 (by omega) (by omega) 0 (sgn_eq hdm)) ?_
      rintro e r8x3 ⟨rfl, hB⟩
      refine ⟨_, rfl, joinB hS hB, ?_⟩
      replace hS := joinB hS hB
      replace N0 := N0.keep hB
      replace N1 := N1.keep hB
      replace On := On.keep hB
      replace Or := Or.keep hB
      replace Ot := Ot.keep hB
      replace Od := Od.keep hB
      replace Oo := Oo.keep hB
      replace Op := Op.keep hB
      replace HB := joinB HB hB
      clear hB
      refine rg_take 11 (some 48) (.bool true) (by kernel_rfl) (fun _ _ => by kernel_rfl) (fun _ _ _ h => h) hS ?_
      refine rg_take 12 (some 49) (.bool true) (by kernel_rfl) (fun _ _ => by kernel_rfl) (fun _ _ _ h => h) hS ?_
      refine rg_take 13 (some 50) (.bool true) (by kernel_rfl) (fun _ _ => by kernel_rfl) (fun _ _ _ h => h) hS ?_
      refine rg_load 14 (some 51) (.agg #[.slice Ar Nr Cr]) 46 6 (gr) 0 (by kernel_rfl) (by kernel_rfl) (by kernel_rfl) (fun _ hb => load_dec ((UXr.keep hb).slot)) (fun _ _ _ h => h) hS ?_
      refine rg_call 15 (some 52) 60 #[.int .u64 1] (by kernel_rfl) (by kernel_rfl) (dOf (x := 1) (by decide) (by decide)) ?_
      rintro e r8x4 ⟨Aq, Nq, Cq, rfl, Oq, hkq, hB⟩
      refine ⟨_, rfl, joinB hS hB, ?_⟩
      replace hS := joinB hS hB
      replace N0 := N0.keep hB
      replace N1 := N1.keep hB
      replace On := On.keep hB
      replace Or := Or.keep hB
      replace Ot := Ot.keep hB
      replace Od := Od.keep hB
      replace Oo := Oo.keep hB
      replace Op := Op.keep hB
      replace HB := joinB HB hB
      clear hB
      refine rg_call 16 (some 53) 32 #[.agg #[.slice Ar Nr Cr], .agg #[.slice Aq Nq Cq]] (by kernel_rfl) (by kernel_rfl) (cmpD Or.a Oq.a (by omega) (by omega) (-1) hlt) ?_
      rintro e r8x5 ⟨rfl, hB⟩
      refine ⟨_, rfl, joinB hS hB, ?_⟩
      replace hS := joinB hS hB
      replace N0 := N0.keep hB
      replace N1 := N1.keep hB
      replace On := On.keep hB
      replace Or := Or.keep hB
      replace Ot := Ot.keep hB
      replace Od := Od.keep hB
      replace Oo := Oo.keep hB
      replace Op := Op.keep hB
      replace Oq := Oq.keep hB
      replace HB := joinB HB hB
      clear hB
      refine rg_take 17 (some 54) (.bool true) (by kernel_rfl) (fun _ _ => by kernel_rfl) (fun _ _ _ h => h) hS ?_
      refine rg_take 18 (some 55) (.bool true) (by kernel_rfl) (fun _ _ => by kernel_rfl) (fun _ _ _ h => h) hS ?_
      refine rg_take 19 (some 56) (.bool true) (by kernel_rfl) (fun _ _ => by kernel_rfl) (fun _ _ _ h => h) hS ?_
      refine rg_take 20 (some 57) (.pointer (some ⟨gt, 0, none⟩)) (by kernel_rfl) (fun _ _ => by kernel_rfl) (fun _ _ _ h => h) hS ?_
      refine rg_load 21 (some 58) (.slice At Nt Ct) 28 57 (gt) 0 (by kernel_rfl) (by kernel_rfl) (by kernel_rfl) (fun _ hb => load_raw ((UXt.keep hb).slot)) (fun _ _ _ h => h) hS ?_
      refine rg_take 22 (some 59) (.pointer (some ⟨w.heap.size, 0, none⟩)) (by kernel_rfl) (fun _ _ => by kernel_rfl) (fun _ _ _ h => h) hS ?_
      refine rg_load 23 (some 60) (.slice a0 len0 cap0) 28 59 (w.heap.size) 0 (by kernel_rfl) (by kernel_rfl) (by kernel_rfl) (fun _ hb => load_raw ((UP0.keep hb).slot)) (fun _ _ _ h => h) hS ?_
      refine rg_call 24 (some 61) 73 #[.slice a0 len0 cap0] (by kernel_rfl) (by kernel_rfl) (nNorm N0 (by omega)) ?_
      rintro e r8x6 ⟨Ae, Ne, Ce, rfl, Oe, hke, hB⟩
      refine ⟨_, rfl, joinB hS hB, ?_⟩
      replace hS := joinB hS hB
      replace N0 := N0.keep hB
      replace N1 := N1.keep hB
      replace On := On.keep hB
      replace Or := Or.keep hB
      replace Ot := Ot.keep hB
      replace Od := Od.keep hB
      replace Oo := Oo.keep hB
      replace Op := Op.keep hB
      replace Oq := Oq.keep hB
      replace HB := joinB HB hB
      clear hB
      refine rg_call 25 (some 62) 42 #[.slice At Nt Ct, .slice Ae Ne Ce] (by kernel_rfl) (by kernel_rfl) (nSameD Ot Oe (by omega) (by omega)) ?_
      rintro e r8x7 ⟨rfl, hB⟩
      refine ⟨_, rfl, joinB hS hB, ?_⟩
      replace hS := joinB hS hB
      replace N0 := N0.keep hB
      replace N1 := N1.keep hB
      replace On := On.keep hB
      replace Or := Or.keep hB
      replace Ot := Ot.keep hB
      replace Od := Od.keep hB
      replace Oo := Oo.keep hB
      replace Op := Op.keep hB
      replace Oq := Oq.keep hB
      replace Oe := Oe.keep hB
      replace HB := joinB HB hB
      clear hB
      refine rg_take 26 (some 63) (.bool true) (by kernel_rfl) (fun _ _ => by kernel_rfl) (fun _ _ _ h => h) hS ?_
      refine rg_take 27 (some 64) (.bool true) (by kernel_rfl) (fun _ _ => by kernel_rfl) (fun _ _ _ h => h) hS ?_
      refine rg_load 28 (some 65) (.agg #[.slice Ad Nd Cd]) 46 9 (g9) 0 (by kernel_rfl) (by kernel_rfl) (by kernel_rfl) (fun _ hb => load_dec ((UXd.keep hb).slot)) (fun _ _ _ h => h) hS ?_
      refine rg_load 29 (some 66) (.agg #[.slice a0 len0 cap0]) 46 2 (w.heap.size) 0 (by kernel_rfl) (by kernel_rfl) (by kernel_rfl) (fun _ hb => load_dec ((UP0.keep hb).slot)) (fun _ _ _ h => h) hS ?_
      refine rg_call 30 (some 67) 32 #[.agg #[.slice Ad Nd Cd], .agg #[.slice a0 len0 cap0]] (by kernel_rfl) (by kernel_rfl) (cmpD Od.a N0 (by omega) (by omega) 0 (sgn_eq rfl)) ?_
      rintro e r8x8 ⟨rfl, hB⟩
      refine ⟨_, rfl, joinB hS hB, ?_⟩
      replace hS := joinB hS hB
      replace N0 := N0.keep hB
      replace N1 := N1.keep hB
      replace On := On.keep hB
      replace Or := Or.keep hB
      replace Ot := Ot.keep hB
      replace Od := Od.keep hB
      replace Oo := Oo.keep hB
      replace Op := Op.keep hB
      replace Oq := Oq.keep hB
      replace Oe := Oe.keep hB
      replace HB := joinB HB hB
      clear hB
      refine rg_take 31 (some 68) (.bool true) (by kernel_rfl) (fun _ _ => by kernel_rfl) (fun _ _ _ h => h) hS ?_
      refine rg_take 32 (some 69) (.bool true) (by kernel_rfl) (fun _ _ => by kernel_rfl) (fun _ _ _ h => h) hS ?_
      refine rg_take 33 (some 70) (.bool true) (by kernel_rfl) (fun _ _ => by kernel_rfl) (fun _ _ _ h => h) hS ?_
      refine rg_load 34 (some 71) (.agg #[.slice a0 len0 cap0]) 46 2 (w.heap.size) 0 (by kernel_rfl) (by kernel_rfl) (by kernel_rfl) (fun _ hb => load_dec ((UP0.keep hb).slot)) (fun _ _ _ h => h) hS ?_
      refine rg_load 36 (some 73) (.agg #[.slice a0 len0 cap0]) 46 2 (w.heap.size) 0 (by kernel_rfl) (by kernel_rfl) (by kernel_rfl) (fun _ hb => load_dec ((UP0.keep hb).slot)) (fun _ _ _ h => h) hS ?_
      refine rg_take 37 (some 74) (.agg #[.slice none 0 0]) (by kernel_rfl) (fun _ _ => by kernel_rfl) (fun _ _ _ h => h) hS ?_
      refine rg_call 35 (some 72) 33 #[.agg #[.slice a0 len0 cap0]] (by kernel_rfl) (by kernel_rfl) (zeroD N0 (by omega) true hbz) ?_
      rintro e r8x9 ⟨rfl, hB⟩
      refine ⟨_, rfl, joinB hS hB, ?_⟩
      replace hS := joinB hS hB
      replace N0 := N0.keep hB
      replace N1 := N1.keep hB
      replace On := On.keep hB
      replace Or := Or.keep hB
      replace Ot := Ot.keep hB
      replace Od := Od.keep hB
      replace Oo := Oo.keep hB
      replace Op := Op.keep hB
      replace Oq := Oq.keep hB
      replace Oe := Oe.keep hB
      replace HB := joinB HB hB
      clear hB
      refine rg_call 38 (some 75) 32 #[.agg #[.slice a0 len0 cap0], .agg #[.slice none 0 0]] (by kernel_rfl) (by kernel_rfl) (cmpD N0 (natO_nil _).a (by omega) (by omega) 0 h5) ?_
      rintro e r8x10 ⟨rfl, hB⟩
      refine ⟨_, rfl, joinB hS hB, ?_⟩
      replace hS := joinB hS hB
      replace N0 := N0.keep hB
      replace N1 := N1.keep hB
      replace On := On.keep hB
      replace Or := Or.keep hB
      replace Ot := Ot.keep hB
      replace Od := Od.keep hB
      replace Oo := Oo.keep hB
      replace Op := Op.keep hB
      replace Oq := Oq.keep hB
      replace Oe := Oe.keep hB
      replace HB := joinB HB hB
      clear hB
      refine rg_take 39 (some 76) (.bool true) (by kernel_rfl) (fun _ _ => by kernel_rfl) (fun _ _ _ h => h) hS ?_
      refine rg_take 40 (some 77) (.bool true) (by kernel_rfl) (fun _ _ => by kernel_rfl) (fun _ _ _ h => h) hS ?_
      refine rg_take 41 (some 78) (.bool true) (by kernel_rfl) (fun _ _ => by kernel_rfl) (fun _ _ _ h => h) hS ?_
      refine rg_take 42 (some 4) (.bool true) (by kernel_rfl) (fun _ _ => by kernel_rfl) (fun _ _ _ h => h) hS ?_
      refine rg_done (by kernel_rfl) ?_
      clear hS UP0 UP1 UXr UXt UXd
      try simp only [Act.put, List.setIfInBounds_toArray, List.set_cons_zero, List.set_cons_succ]
      go_wp2
      go_ret
      exact ⟨rfl, HB⟩
end decBack
end Go.Proofs.YtjihgkanbhccpaaGreatDoor
