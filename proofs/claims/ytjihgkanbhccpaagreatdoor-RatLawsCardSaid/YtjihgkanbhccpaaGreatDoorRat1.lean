/- Package rat: compared. -/
import Derived.Test.YtjihgkanbhccpaaGreatDoorRat0
namespace Go.Proofs.YtjihgkanbhccpaaGreatDoor
open Go.RowKit Lim

theorem load_at {w : World} {g o : Nat} {ao : Option Addr} {n c : Nat} (hc : w.cell? ⟨g, o, none⟩ = some (.slice ao n c)) : (loadVar 28 ⟨g, o, none⟩).run Tryz.prog w = .ok (.slice ao n c) w := by
  go_simp
set_option maxHeartbeats 8000000 in
set_option maxRecDepth 100000 in
theorem qCmp {w : World} {a0 b0 : Option Addr} {n0 c0 m0 d0 : Nat} {x0 y0 : Int} {a1 b1 : Option Addr} {n1 c1 m1 d1 : Nat} {x1 y1 : Int} (h0 : NatA w a0 n0 c0 x0) (e0 : NatA w b0 m0 d0 y0) (hn0 : n0 ≤ 34359738368) (hm0 : m0 ≤ 34359738368) (h1 : NatA w a1 n1 c1 x1) (e1 : NatA w b1 m1 d1 y1) (hn1 : n1 ≤ 34359738368) (hm1 : m1 ≤ 34359738368) :
    Calls Tryz.prog 19 #[.agg #[.slice a0 n0 c0, .slice b0 m0 d0], .agg #[.slice a1 n1 c1, .slice b1 m1 d1]] w fun e w' => e = .returned (.int .i64 (sgn ((cn x0 y0) * (cd y1)) ((cn x1 y1) * (cd y0)))) ∧ Below w.heap.size w w' := by
  have HB := below2 w (.cells #[.slice a0 n0 c0, .slice b0 m0 d0] 30) (.cells #[.slice a1 n1 c1, .slice b1 m1 d1] 30)
  have P0 := (box_new w [.slice a0 n0 c0, .slice b0 m0 d0] 30).keep (below_alloc _ (.cells #[.slice a1 n1 c1, .slice b1 m1 d1] 30))
  have P1 := box_new (w.alloc (.cells #[.slice a0 n0 c0, .slice b0 m0 d0] 30)) [.slice a1 n1 c1, .slice b1 m1 d1] 30
  rw [show (w.alloc (.cells #[.slice a0 n0 c0, .slice b0 m0 d0] 30)).heap.size = w.heap.size + 1 by simp] at P1
  replace h0 := h0.keep HB
  replace e0 := e0.keep HB
  replace h1 := h1.keep HB
  replace e1 := e1.keep HB
  go_enter Tryz.func19, Tryz.ntmps19
  go_wp2_with fail
  generalize (w.alloc (.cells #[.slice a0 n0 c0, .slice b0 m0 d0] 30)).alloc (.cells #[.slice a1 n1 c1, .slice b1 m1 d1] 30) = u0 at *
  refine rg_mid (X := Nat × Nat × Option Addr × Nat × Nat × Option Addr × Nat × Nat × Option Addr × Nat × Nat × Option Addr × Nat × Nat) (fun ⟨g5, g6, A0, K0, D0, B0, L0, M0, A1, K1, D1, B1, L1, M1⟩ => [(some 7, .agg #[.slice a0 n0 c0, .slice b0 m0 d0]), (some 8, .agg #[.slice A0 K0 D0, .slice B0 L0 M0]), (some 9, .agg #[.slice a1 n1 c1, .slice b1 m1 d1]), (some 10, .agg #[.slice A1 K1 D1, .slice B1 L1 M1]), (some 5, .pointer (some ⟨g5, 0, none⟩)), (some 6, .pointer (some ⟨g6, 0, none⟩))]) (fun ⟨g5, g6, A0, K0, D0, B0, L0, M0, A1, K1, D1, B1, L1, M1⟩ w' => Box w' g5 [.slice A0 K0 D0, .slice B0 L0 M0] 30 ∧ Box w' g6 [.slice A1 K1 D1, .slice B1 L1 M1] 30 ∧ NatA w' A0 K0 D0 (cn x0 y0) ∧ NatA w' B0 L0 M0 (cd y0) ∧ NatA w' A1 K1 D1 (cn x1 y1) ∧ NatA w' B1 L1 M1 (cd y1) ∧ K0 ≤ n0 ∧ L0 ≤ m0 + 1 ∧ K1 ≤ n1 ∧ L1 ≤ m1 + 1 ∧ Below w.heap.size w w') (fun w' => Below u0.drew.heap.size u0.drew w') (by kernel_rfl) (Below.refl _ _) ?_ ?_
  · replace HB := HB.drew
    have UP0 := P0.drew
    have UP1 := P1.drew
    replace h0 := h0.drew
    replace e0 := e0.drew
    replace h1 := h1.drew
    replace e1 := e1.drew
    have hBu := HB.size
    have hS := Below.refl u0.drew.heap.size u0.drew
    clear P0 P1
    refine rg_load 0 (some 7) (.agg #[.slice a0 n0 c0, .slice b0 m0 d0]) 30 2 (w.heap.size) 0 (by kernel_rfl) (by kernel_rfl) (by kernel_rfl) (fun _ hb => load_rat (UP0.keep hb)) (fun _ _ _ h => h) hS ?_
    refine rg_load 2 (some 9) (.agg #[.slice a1 n1 c1, .slice b1 m1 d1]) 30 3 (w.heap.size + 1) 0 (by kernel_rfl) (by kernel_rfl) (by kernel_rfl) (fun _ hb => load_rat (UP1.keep hb)) (fun _ _ _ h => h) hS ?_
    refine rg_ready [1, 4, 5] (by kernel_rfl) (by simp) ?_
    refine ar_call 1 (some 8) 80 #[.agg #[.slice a0 n0 c0, .slice b0 m0 d0]] (by kernel_rfl) (by kernel_rfl) (qCounted h0 e0 (by omega) (by omega)) ?_ ?_
    · rintro e v1 ⟨A0, K0, D0, B0, L0, M0, rfl, C0, E0, hK0, hL0, hB⟩
      refine ⟨_, rfl, joinB hS hB, ?_⟩
      replace hS := joinB hS hB
      replace HB := joinB HB hB
      replace h0 := h0.keep hB
      replace e0 := e0.keep hB
      replace h1 := h1.keep hB
      replace e1 := e1.keep hB
      clear hB
      refine rg_ready [3, 4, 5] (by kernel_rfl) (by simp) ?_
      refine ar_call 3 (some 10) 80 #[.agg #[.slice a1 n1 c1, .slice b1 m1 d1]] (by kernel_rfl) (by kernel_rfl) (qCounted h1 e1 (by omega) (by omega)) ?_ ?_
      · rintro e v2 ⟨A1, K1, D1, B1, L1, M1, rfl, C1, E1, hK1, hL1, hB⟩
        refine ⟨_, rfl, joinB hS hB, ?_⟩
        replace hS := joinB hS hB
        replace HB := joinB HB hB
        replace h0 := h0.keep hB
        replace e0 := e0.keep hB
        replace h1 := h1.keep hB
        replace e1 := e1.keep hB
        replace C0 := C0.keep hB
        replace E0 := E0.keep hB
        clear hB
        refine rg_ready [4, 5] (by kernel_rfl) (by simp) ?_
        refine ar_alloc 4 (some 5) 30 [.slice none 0 0, .slice none 0 0] (by kernel_rfl) (by kernel_rfl) ?_ ?_
        · intro v3 X5 hB
          refine ⟨joinB hS hB, ?_⟩
          have hX5 := hS.size
          replace hS := joinB hS hB
          replace HB := joinB HB hB
          replace h0 := h0.keep hB
          replace e0 := e0.keep hB
          replace h1 := h1.keep hB
          replace e1 := e1.keep hB
          replace C0 := C0.keep hB
          replace E0 := E0.keep hB
          replace C1 := C1.keep hB
          replace E1 := E1.keep hB
          clear hB
          refine rg_ready [5] (by kernel_rfl) (by simp) ?_
          refine ar_alloc 5 (some 6) 30 [.slice none 0 0, .slice none 0 0] (by kernel_rfl) (by kernel_rfl) ?_ ?_
          · intro v4 X6 hB
            refine ⟨joinB hS hB, ?_⟩
            have hX6 := hS.size
            replace hS := joinB hS hB
            replace HB := joinB HB hB
            have nX5X6 := Nat.ne_of_lt X5.lt
            replace h0 := h0.keep hB
            replace e0 := e0.keep hB
            replace h1 := h1.keep hB
            replace e1 := e1.keep hB
            replace C0 := C0.keep hB
            replace E0 := E0.keep hB
            replace C1 := C1.keep hB
            replace E1 := E1.keep hB
            replace X5 := X5.keep hB
            clear hB
            refine rg_ready [6] (by kernel_rfl) (by simp) ?_
            refine ar_store 6 30 30 5 8 (v2.heap.size) [.slice none 0 0, .slice none 0 0] [.slice A0 K0 D0, .slice B0 L0 M0] (by kernel_rfl) (by kernel_rfl) (by kernel_rfl) (by kernel_rfl) X5 (by kernel_rfl) rfl (by kernel_rfl) ?_ ?_
            · intro v5 Y hw hB
              refine ⟨hS.trans (hB.mono hX5), ?_⟩
              replace HB := HB.trans (hB.mono (Nat.le_trans hBu hX5))
              replace hS := hS.trans (hB.mono hX5)
              replace h0 := h0.blk X5 (no_ints2 _ _ _ _ _ _) hw
              replace e0 := e0.blk X5 (no_ints2 _ _ _ _ _ _) hw
              replace h1 := h1.blk X5 (no_ints2 _ _ _ _ _ _) hw
              replace e1 := e1.blk X5 (no_ints2 _ _ _ _ _ _) hw
              replace C0 := C0.blk X5 (no_ints2 _ _ _ _ _ _) hw
              replace E0 := E0.blk X5 (no_ints2 _ _ _ _ _ _) hw
              replace C1 := C1.blk X5 (no_ints2 _ _ _ _ _ _) hw
              replace E1 := E1.blk X5 (no_ints2 _ _ _ _ _ _) hw
              replace X6 := X6.off (Ne.symm nX5X6) hw
              replace X5 := Y
              clear hB hw
              refine rg_ready [7] (by kernel_rfl) (by simp) ?_
              refine ar_store 7 30 30 6 10 (v3.heap.size) [.slice none 0 0, .slice none 0 0] [.slice A1 K1 D1, .slice B1 L1 M1] (by kernel_rfl) (by kernel_rfl) (by kernel_rfl) (by kernel_rfl) X6 (by kernel_rfl) rfl (by kernel_rfl) ?_ ?_
              · intro v6 Y hw hB
                refine ⟨hS.trans (hB.mono hX6), ?_⟩
                replace HB := HB.trans (hB.mono (Nat.le_trans hBu hX6))
                replace hS := hS.trans (hB.mono hX6)
                replace h0 := h0.blk X6 (no_ints2 _ _ _ _ _ _) hw
                replace e0 := e0.blk X6 (no_ints2 _ _ _ _ _ _) hw
                replace h1 := h1.blk X6 (no_ints2 _ _ _ _ _ _) hw
                replace e1 := e1.blk X6 (no_ints2 _ _ _ _ _ _) hw
                replace C0 := C0.blk X6 (no_ints2 _ _ _ _ _ _) hw
                replace E0 := E0.blk X6 (no_ints2 _ _ _ _ _ _) hw
                replace C1 := C1.blk X6 (no_ints2 _ _ _ _ _ _) hw
                replace E1 := E1.blk X6 (no_ints2 _ _ _ _ _ _) hw
                replace X5 := X5.off nX5X6 hw
                replace X6 := Y
                clear hB hw
                refine rg_done (by kernel_rfl) ?_
                exact ⟨(v2.heap.size, v3.heap.size, A0, K0, D0, B0, L0, M0, A1, K1, D1, B1, L1, M1), by kernel_rfl, X5, X6, C0, E0, C1, E1, hK0, hL0, hK1, hL1, HB⟩
              exact ar_nil
            exact ar_nil
          exact ar_nil
        refine ar_alloc 5 (some 6) 30 [.slice none 0 0, .slice none 0 0] (by kernel_rfl) (by kernel_rfl) ?_ ?_
        · intro v7 X6 hB
          refine ⟨joinB hS hB, ?_⟩
          have hX6 := hS.size
          replace hS := joinB hS hB
          replace HB := joinB HB hB
          replace h0 := h0.keep hB
          replace e0 := e0.keep hB
          replace h1 := h1.keep hB
          replace e1 := e1.keep hB
          replace C0 := C0.keep hB
          replace E0 := E0.keep hB
          replace C1 := C1.keep hB
          replace E1 := E1.keep hB
          clear hB
          refine rg_ready [4] (by kernel_rfl) (by simp) ?_
          refine ar_alloc 4 (some 5) 30 [.slice none 0 0, .slice none 0 0] (by kernel_rfl) (by kernel_rfl) ?_ ?_
          · intro v8 X5 hB
            refine ⟨joinB hS hB, ?_⟩
            have hX5 := hS.size
            replace hS := joinB hS hB
            replace HB := joinB HB hB
            have nX6X5 := Nat.ne_of_lt X6.lt
            replace h0 := h0.keep hB
            replace e0 := e0.keep hB
            replace h1 := h1.keep hB
            replace e1 := e1.keep hB
            replace C0 := C0.keep hB
            replace E0 := E0.keep hB
            replace C1 := C1.keep hB
            replace E1 := E1.keep hB
            replace X6 := X6.keep hB
            clear hB
            refine rg_ready [6] (by kernel_rfl) (by simp) ?_
            refine ar_store 6 30 30 5 8 (v7.heap.size) [.slice none 0 0, .slice none 0 0] [.slice A0 K0 D0, .slice B0 L0 M0] (by kernel_rfl) (by kernel_rfl) (by kernel_rfl) (by kernel_rfl) X5 (by kernel_rfl) rfl (by kernel_rfl) ?_ ?_
            · intro v9 Y hw hB
              refine ⟨hS.trans (hB.mono hX5), ?_⟩
              replace HB := HB.trans (hB.mono (Nat.le_trans hBu hX5))
              replace hS := hS.trans (hB.mono hX5)
              replace h0 := h0.blk X5 (no_ints2 _ _ _ _ _ _) hw
              replace e0 := e0.blk X5 (no_ints2 _ _ _ _ _ _) hw
              replace h1 := h1.blk X5 (no_ints2 _ _ _ _ _ _) hw
              replace e1 := e1.blk X5 (no_ints2 _ _ _ _ _ _) hw
              replace C0 := C0.blk X5 (no_ints2 _ _ _ _ _ _) hw
              replace E0 := E0.blk X5 (no_ints2 _ _ _ _ _ _) hw
              replace C1 := C1.blk X5 (no_ints2 _ _ _ _ _ _) hw
              replace E1 := E1.blk X5 (no_ints2 _ _ _ _ _ _) hw
              replace X6 := X6.off nX6X5 hw
              replace X5 := Y
              clear hB hw
              refine rg_ready [7] (by kernel_rfl) (by simp) ?_
              refine ar_store 7 30 30 6 10 (v2.heap.size) [.slice none 0 0, .slice none 0 0] [.slice A1 K1 D1, .slice B1 L1 M1] (by kernel_rfl) (by kernel_rfl) (by kernel_rfl) (by kernel_rfl) X6 (by kernel_rfl) rfl (by kernel_rfl) ?_ ?_
              · intro v10 Y hw hB
                refine ⟨hS.trans (hB.mono hX6), ?_⟩
                replace HB := HB.trans (hB.mono (Nat.le_trans hBu hX6))
                replace hS := hS.trans (hB.mono hX6)
                replace h0 := h0.blk X6 (no_ints2 _ _ _ _ _ _) hw
                replace e0 := e0.blk X6 (no_ints2 _ _ _ _ _ _) hw
                replace h1 := h1.blk X6 (no_ints2 _ _ _ _ _ _) hw
                replace e1 := e1.blk X6 (no_ints2 _ _ _ _ _ _) hw
                replace C0 := C0.blk X6 (no_ints2 _ _ _ _ _ _) hw
                replace E0 := E0.blk X6 (no_ints2 _ _ _ _ _ _) hw
                replace C1 := C1.blk X6 (no_ints2 _ _ _ _ _ _) hw
                replace E1 := E1.blk X6 (no_ints2 _ _ _ _ _ _) hw
                replace X5 := X5.off (Ne.symm nX6X5) hw
                replace X6 := Y
                clear hB hw
                refine rg_done (by kernel_rfl) ?_
                exact ⟨(v7.heap.size, v2.heap.size, A0, K0, D0, B0, L0, M0, A1, K1, D1, B1, L1, M1), by kernel_rfl, X5, X6, C0, E0, C1, E1, hK0, hL0, hK1, hL1, HB⟩
              exact ar_nil
            exact ar_nil
          exact ar_nil
        exact ar_nil
      refine ar_alloc 4 (some 5) 30 [.slice none 0 0, .slice none 0 0] (by kernel_rfl) (by kernel_rfl) ?_ ?_
      · intro v11 X5 hB
        refine ⟨joinB hS hB, ?_⟩
        have hX5 := hS.size
        replace hS := joinB hS hB
        replace HB := joinB HB hB
        replace h0 := h0.keep hB
        replace e0 := e0.keep hB
        replace h1 := h1.keep hB
        replace e1 := e1.keep hB
        replace C0 := C0.keep hB
        replace E0 := E0.keep hB
        clear hB
        refine rg_ready [3, 5] (by kernel_rfl) (by simp) ?_
        refine ar_call 3 (some 10) 80 #[.agg #[.slice a1 n1 c1, .slice b1 m1 d1]] (by kernel_rfl) (by kernel_rfl) (qCounted h1 e1 (by omega) (by omega)) ?_ ?_
        · rintro e v12 ⟨A1, K1, D1, B1, L1, M1, rfl, C1, E1, hK1, hL1, hB⟩
          refine ⟨_, rfl, joinB hS hB, ?_⟩
          replace hS := joinB hS hB
          replace HB := joinB HB hB
          replace h0 := h0.keep hB
          replace e0 := e0.keep hB
          replace h1 := h1.keep hB
          replace e1 := e1.keep hB
          replace C0 := C0.keep hB
          replace E0 := E0.keep hB
          replace X5 := X5.keep hB
          clear hB
          refine rg_ready [5] (by kernel_rfl) (by simp) ?_
          refine ar_alloc 5 (some 6) 30 [.slice none 0 0, .slice none 0 0] (by kernel_rfl) (by kernel_rfl) ?_ ?_
          · intro v13 X6 hB
            refine ⟨joinB hS hB, ?_⟩
            have hX6 := hS.size
            replace hS := joinB hS hB
            replace HB := joinB HB hB
            have nX5X6 := Nat.ne_of_lt X5.lt
            replace h0 := h0.keep hB
            replace e0 := e0.keep hB
            replace h1 := h1.keep hB
            replace e1 := e1.keep hB
            replace C0 := C0.keep hB
            replace E0 := E0.keep hB
            replace C1 := C1.keep hB
            replace E1 := E1.keep hB
            replace X5 := X5.keep hB
            clear hB
            refine rg_ready [6] (by kernel_rfl) (by simp) ?_
            refine ar_store 6 30 30 5 8 (v1.heap.size) [.slice none 0 0, .slice none 0 0] [.slice A0 K0 D0, .slice B0 L0 M0] (by kernel_rfl) (by kernel_rfl) (by kernel_rfl) (by kernel_rfl) X5 (by kernel_rfl) rfl (by kernel_rfl) ?_ ?_
            · intro v14 Y hw hB
              refine ⟨hS.trans (hB.mono hX5), ?_⟩
              replace HB := HB.trans (hB.mono (Nat.le_trans hBu hX5))
              replace hS := hS.trans (hB.mono hX5)
              replace h0 := h0.blk X5 (no_ints2 _ _ _ _ _ _) hw
              replace e0 := e0.blk X5 (no_ints2 _ _ _ _ _ _) hw
              replace h1 := h1.blk X5 (no_ints2 _ _ _ _ _ _) hw
              replace e1 := e1.blk X5 (no_ints2 _ _ _ _ _ _) hw
              replace C0 := C0.blk X5 (no_ints2 _ _ _ _ _ _) hw
              replace E0 := E0.blk X5 (no_ints2 _ _ _ _ _ _) hw
              replace C1 := C1.blk X5 (no_ints2 _ _ _ _ _ _) hw
              replace E1 := E1.blk X5 (no_ints2 _ _ _ _ _ _) hw
              replace X6 := X6.off (Ne.symm nX5X6) hw
              replace X5 := Y
              clear hB hw
              refine rg_ready [7] (by kernel_rfl) (by simp) ?_
              refine ar_store 7 30 30 6 10 (v12.heap.size) [.slice none 0 0, .slice none 0 0] [.slice A1 K1 D1, .slice B1 L1 M1] (by kernel_rfl) (by kernel_rfl) (by kernel_rfl) (by kernel_rfl) X6 (by kernel_rfl) rfl (by kernel_rfl) ?_ ?_
              · intro v15 Y hw hB
                refine ⟨hS.trans (hB.mono hX6), ?_⟩
                replace HB := HB.trans (hB.mono (Nat.le_trans hBu hX6))
                replace hS := hS.trans (hB.mono hX6)
                replace h0 := h0.blk X6 (no_ints2 _ _ _ _ _ _) hw
                replace e0 := e0.blk X6 (no_ints2 _ _ _ _ _ _) hw
                replace h1 := h1.blk X6 (no_ints2 _ _ _ _ _ _) hw
                replace e1 := e1.blk X6 (no_ints2 _ _ _ _ _ _) hw
                replace C0 := C0.blk X6 (no_ints2 _ _ _ _ _ _) hw
                replace E0 := E0.blk X6 (no_ints2 _ _ _ _ _ _) hw
                replace C1 := C1.blk X6 (no_ints2 _ _ _ _ _ _) hw
                replace E1 := E1.blk X6 (no_ints2 _ _ _ _ _ _) hw
                replace X5 := X5.off nX5X6 hw
                replace X6 := Y
                clear hB hw
                refine rg_done (by kernel_rfl) ?_
                exact ⟨(v1.heap.size, v12.heap.size, A0, K0, D0, B0, L0, M0, A1, K1, D1, B1, L1, M1), by kernel_rfl, X5, X6, C0, E0, C1, E1, hK0, hL0, hK1, hL1, HB⟩
              exact ar_nil
            exact ar_nil
          exact ar_nil
        refine ar_alloc 5 (some 6) 30 [.slice none 0 0, .slice none 0 0] (by kernel_rfl) (by kernel_rfl) ?_ ?_
        · intro v16 X6 hB
          refine ⟨joinB hS hB, ?_⟩
          have hX6 := hS.size
          replace hS := joinB hS hB
          replace HB := joinB HB hB
          have nX5X6 := Nat.ne_of_lt X5.lt
          replace h0 := h0.keep hB
          replace e0 := e0.keep hB
          replace h1 := h1.keep hB
          replace e1 := e1.keep hB
          replace C0 := C0.keep hB
          replace E0 := E0.keep hB
          replace X5 := X5.keep hB
          clear hB
          refine rg_ready [3] (by kernel_rfl) (by simp) ?_
          refine ar_call 3 (some 10) 80 #[.agg #[.slice a1 n1 c1, .slice b1 m1 d1]] (by kernel_rfl) (by kernel_rfl) (qCounted h1 e1 (by omega) (by omega)) ?_ ?_
          · rintro e v17 ⟨A1, K1, D1, B1, L1, M1, rfl, C1, E1, hK1, hL1, hB⟩
            refine ⟨_, rfl, joinB hS hB, ?_⟩
            replace hS := joinB hS hB
            replace HB := joinB HB hB
            replace h0 := h0.keep hB
            replace e0 := e0.keep hB
            replace h1 := h1.keep hB
            replace e1 := e1.keep hB
            replace C0 := C0.keep hB
            replace E0 := E0.keep hB
            replace X5 := X5.keep hB
            replace X6 := X6.keep hB
            clear hB
            refine rg_ready [6] (by kernel_rfl) (by simp) ?_
            refine ar_store 6 30 30 5 8 (v1.heap.size) [.slice none 0 0, .slice none 0 0] [.slice A0 K0 D0, .slice B0 L0 M0] (by kernel_rfl) (by kernel_rfl) (by kernel_rfl) (by kernel_rfl) X5 (by kernel_rfl) rfl (by kernel_rfl) ?_ ?_
            · intro v18 Y hw hB
              refine ⟨hS.trans (hB.mono hX5), ?_⟩
              replace HB := HB.trans (hB.mono (Nat.le_trans hBu hX5))
              replace hS := hS.trans (hB.mono hX5)
              replace h0 := h0.blk X5 (no_ints2 _ _ _ _ _ _) hw
              replace e0 := e0.blk X5 (no_ints2 _ _ _ _ _ _) hw
              replace h1 := h1.blk X5 (no_ints2 _ _ _ _ _ _) hw
              replace e1 := e1.blk X5 (no_ints2 _ _ _ _ _ _) hw
              replace C0 := C0.blk X5 (no_ints2 _ _ _ _ _ _) hw
              replace E0 := E0.blk X5 (no_ints2 _ _ _ _ _ _) hw
              replace C1 := C1.blk X5 (no_ints2 _ _ _ _ _ _) hw
              replace E1 := E1.blk X5 (no_ints2 _ _ _ _ _ _) hw
              replace X6 := X6.off (Ne.symm nX5X6) hw
              replace X5 := Y
              clear hB hw
              refine rg_ready [7] (by kernel_rfl) (by simp) ?_
              refine ar_store 7 30 30 6 10 (v11.heap.size) [.slice none 0 0, .slice none 0 0] [.slice A1 K1 D1, .slice B1 L1 M1] (by kernel_rfl) (by kernel_rfl) (by kernel_rfl) (by kernel_rfl) X6 (by kernel_rfl) rfl (by kernel_rfl) ?_ ?_
              · intro v19 Y hw hB
                refine ⟨hS.trans (hB.mono hX6), ?_⟩
                replace HB := HB.trans (hB.mono (Nat.le_trans hBu hX6))
                replace hS := hS.trans (hB.mono hX6)
                replace h0 := h0.blk X6 (no_ints2 _ _ _ _ _ _) hw
                replace e0 := e0.blk X6 (no_ints2 _ _ _ _ _ _) hw
                replace h1 := h1.blk X6 (no_ints2 _ _ _ _ _ _) hw
                replace e1 := e1.blk X6 (no_ints2 _ _ _ _ _ _) hw
                replace C0 := C0.blk X6 (no_ints2 _ _ _ _ _ _) hw
                replace E0 := E0.blk X6 (no_ints2 _ _ _ _ _ _) hw
                replace C1 := C1.blk X6 (no_ints2 _ _ _ _ _ _) hw
                replace E1 := E1.blk X6 (no_ints2 _ _ _ _ _ _) hw
                replace X5 := X5.off nX5X6 hw
                replace X6 := Y
                clear hB hw
                refine rg_done (by kernel_rfl) ?_
                exact ⟨(v1.heap.size, v11.heap.size, A0, K0, D0, B0, L0, M0, A1, K1, D1, B1, L1, M1), by kernel_rfl, X5, X6, C0, E0, C1, E1, hK0, hL0, hK1, hL1, HB⟩
              exact ar_nil
            exact ar_nil
          exact ar_nil
        exact ar_nil
      refine ar_alloc 5 (some 6) 30 [.slice none 0 0, .slice none 0 0] (by kernel_rfl) (by kernel_rfl) ?_ ?_
      · intro v20 X6 hB
        refine ⟨joinB hS hB, ?_⟩
        have hX6 := hS.size
        replace hS := joinB hS hB
        replace HB := joinB HB hB
        replace h0 := h0.keep hB
        replace e0 := e0.keep hB
        replace h1 := h1.keep hB
        replace e1 := e1.keep hB
        replace C0 := C0.keep hB
        replace E0 := E0.keep hB
        clear hB
        refine rg_ready [3, 4] (by kernel_rfl) (by simp) ?_
        refine ar_call 3 (some 10) 80 #[.agg #[.slice a1 n1 c1, .slice b1 m1 d1]] (by kernel_rfl) (by kernel_rfl) (qCounted h1 e1 (by omega) (by omega)) ?_ ?_
        · rintro e v21 ⟨A1, K1, D1, B1, L1, M1, rfl, C1, E1, hK1, hL1, hB⟩
          refine ⟨_, rfl, joinB hS hB, ?_⟩
          replace hS := joinB hS hB
          replace HB := joinB HB hB
          replace h0 := h0.keep hB
          replace e0 := e0.keep hB
          replace h1 := h1.keep hB
          replace e1 := e1.keep hB
          replace C0 := C0.keep hB
          replace E0 := E0.keep hB
          replace X6 := X6.keep hB
          clear hB
          refine rg_ready [4] (by kernel_rfl) (by simp) ?_
          refine ar_alloc 4 (some 5) 30 [.slice none 0 0, .slice none 0 0] (by kernel_rfl) (by kernel_rfl) ?_ ?_
          · intro v22 X5 hB
            refine ⟨joinB hS hB, ?_⟩
            have hX5 := hS.size
            replace hS := joinB hS hB
            replace HB := joinB HB hB
            have nX6X5 := Nat.ne_of_lt X6.lt
            replace h0 := h0.keep hB
            replace e0 := e0.keep hB
            replace h1 := h1.keep hB
            replace e1 := e1.keep hB
            replace C0 := C0.keep hB
            replace E0 := E0.keep hB
            replace C1 := C1.keep hB
            replace E1 := E1.keep hB
            replace X6 := X6.keep hB
            clear hB
            refine rg_ready [6] (by kernel_rfl) (by simp) ?_
            refine ar_store 6 30 30 5 8 (v21.heap.size) [.slice none 0 0, .slice none 0 0] [.slice A0 K0 D0, .slice B0 L0 M0] (by kernel_rfl) (by kernel_rfl) (by kernel_rfl) (by kernel_rfl) X5 (by kernel_rfl) rfl (by kernel_rfl) ?_ ?_
            · intro v23 Y hw hB
              refine ⟨hS.trans (hB.mono hX5), ?_⟩
              replace HB := HB.trans (hB.mono (Nat.le_trans hBu hX5))
              replace hS := hS.trans (hB.mono hX5)
              replace h0 := h0.blk X5 (no_ints2 _ _ _ _ _ _) hw
              replace e0 := e0.blk X5 (no_ints2 _ _ _ _ _ _) hw
              replace h1 := h1.blk X5 (no_ints2 _ _ _ _ _ _) hw
              replace e1 := e1.blk X5 (no_ints2 _ _ _ _ _ _) hw
              replace C0 := C0.blk X5 (no_ints2 _ _ _ _ _ _) hw
              replace E0 := E0.blk X5 (no_ints2 _ _ _ _ _ _) hw
              replace C1 := C1.blk X5 (no_ints2 _ _ _ _ _ _) hw
              replace E1 := E1.blk X5 (no_ints2 _ _ _ _ _ _) hw
              replace X6 := X6.off nX6X5 hw
              replace X5 := Y
              clear hB hw
              refine rg_ready [7] (by kernel_rfl) (by simp) ?_
              refine ar_store 7 30 30 6 10 (v1.heap.size) [.slice none 0 0, .slice none 0 0] [.slice A1 K1 D1, .slice B1 L1 M1] (by kernel_rfl) (by kernel_rfl) (by kernel_rfl) (by kernel_rfl) X6 (by kernel_rfl) rfl (by kernel_rfl) ?_ ?_
              · intro v24 Y hw hB
                refine ⟨hS.trans (hB.mono hX6), ?_⟩
                replace HB := HB.trans (hB.mono (Nat.le_trans hBu hX6))
                replace hS := hS.trans (hB.mono hX6)
                replace h0 := h0.blk X6 (no_ints2 _ _ _ _ _ _) hw
                replace e0 := e0.blk X6 (no_ints2 _ _ _ _ _ _) hw
                replace h1 := h1.blk X6 (no_ints2 _ _ _ _ _ _) hw
                replace e1 := e1.blk X6 (no_ints2 _ _ _ _ _ _) hw
                replace C0 := C0.blk X6 (no_ints2 _ _ _ _ _ _) hw
                replace E0 := E0.blk X6 (no_ints2 _ _ _ _ _ _) hw
                replace C1 := C1.blk X6 (no_ints2 _ _ _ _ _ _) hw
                replace E1 := E1.blk X6 (no_ints2 _ _ _ _ _ _) hw
                replace X5 := X5.off (Ne.symm nX6X5) hw
                replace X6 := Y
                clear hB hw
                refine rg_done (by kernel_rfl) ?_
                exact ⟨(v21.heap.size, v1.heap.size, A0, K0, D0, B0, L0, M0, A1, K1, D1, B1, L1, M1), by kernel_rfl, X5, X6, C0, E0, C1, E1, hK0, hL0, hK1, hL1, HB⟩
              exact ar_nil
            exact ar_nil
          exact ar_nil
        refine ar_alloc 4 (some 5) 30 [.slice none 0 0, .slice none 0 0] (by kernel_rfl) (by kernel_rfl) ?_ ?_
        · intro v25 X5 hB
          refine ⟨joinB hS hB, ?_⟩
          have hX5 := hS.size
          replace hS := joinB hS hB
          replace HB := joinB HB hB
          have nX6X5 := Nat.ne_of_lt X6.lt
          replace h0 := h0.keep hB
          replace e0 := e0.keep hB
          replace h1 := h1.keep hB
          replace e1 := e1.keep hB
          replace C0 := C0.keep hB
          replace E0 := E0.keep hB
          replace X6 := X6.keep hB
          clear hB
          refine rg_ready [3] (by kernel_rfl) (by simp) ?_
          refine ar_call 3 (some 10) 80 #[.agg #[.slice a1 n1 c1, .slice b1 m1 d1]] (by kernel_rfl) (by kernel_rfl) (qCounted h1 e1 (by omega) (by omega)) ?_ ?_
          · rintro e v26 ⟨A1, K1, D1, B1, L1, M1, rfl, C1, E1, hK1, hL1, hB⟩
            refine ⟨_, rfl, joinB hS hB, ?_⟩
            replace hS := joinB hS hB
            replace HB := joinB HB hB
            replace h0 := h0.keep hB
            replace e0 := e0.keep hB
            replace h1 := h1.keep hB
            replace e1 := e1.keep hB
            replace C0 := C0.keep hB
            replace E0 := E0.keep hB
            replace X6 := X6.keep hB
            replace X5 := X5.keep hB
            clear hB
            refine rg_ready [6] (by kernel_rfl) (by simp) ?_
            refine ar_store 6 30 30 5 8 (v20.heap.size) [.slice none 0 0, .slice none 0 0] [.slice A0 K0 D0, .slice B0 L0 M0] (by kernel_rfl) (by kernel_rfl) (by kernel_rfl) (by kernel_rfl) X5 (by kernel_rfl) rfl (by kernel_rfl) ?_ ?_
            · intro v27 Y hw hB
              refine ⟨hS.trans (hB.mono hX5), ?_⟩
              replace HB := HB.trans (hB.mono (Nat.le_trans hBu hX5))
              replace hS := hS.trans (hB.mono hX5)
              replace h0 := h0.blk X5 (no_ints2 _ _ _ _ _ _) hw
              replace e0 := e0.blk X5 (no_ints2 _ _ _ _ _ _) hw
              replace h1 := h1.blk X5 (no_ints2 _ _ _ _ _ _) hw
              replace e1 := e1.blk X5 (no_ints2 _ _ _ _ _ _) hw
              replace C0 := C0.blk X5 (no_ints2 _ _ _ _ _ _) hw
              replace E0 := E0.blk X5 (no_ints2 _ _ _ _ _ _) hw
              replace C1 := C1.blk X5 (no_ints2 _ _ _ _ _ _) hw
              replace E1 := E1.blk X5 (no_ints2 _ _ _ _ _ _) hw
              replace X6 := X6.off nX6X5 hw
              replace X5 := Y
              clear hB hw
              refine rg_ready [7] (by kernel_rfl) (by simp) ?_
              refine ar_store 7 30 30 6 10 (v1.heap.size) [.slice none 0 0, .slice none 0 0] [.slice A1 K1 D1, .slice B1 L1 M1] (by kernel_rfl) (by kernel_rfl) (by kernel_rfl) (by kernel_rfl) X6 (by kernel_rfl) rfl (by kernel_rfl) ?_ ?_
              · intro v28 Y hw hB
                refine ⟨hS.trans (hB.mono hX6), ?_⟩
                replace HB := HB.trans (hB.mono (Nat.le_trans hBu hX6))
                replace hS := hS.trans (hB.mono hX6)
                replace h0 := h0.blk X6 (no_ints2 _ _ _ _ _ _) hw
                replace e0 := e0.blk X6 (no_ints2 _ _ _ _ _ _) hw
                replace h1 := h1.blk X6 (no_ints2 _ _ _ _ _ _) hw
                replace e1 := e1.blk X6 (no_ints2 _ _ _ _ _ _) hw
                replace C0 := C0.blk X6 (no_ints2 _ _ _ _ _ _) hw
                replace E0 := E0.blk X6 (no_ints2 _ _ _ _ _ _) hw
                replace C1 := C1.blk X6 (no_ints2 _ _ _ _ _ _) hw
                replace E1 := E1.blk X6 (no_ints2 _ _ _ _ _ _) hw
                replace X5 := X5.off (Ne.symm nX6X5) hw
                replace X6 := Y
                clear hB hw
                refine rg_done (by kernel_rfl) ?_
                exact ⟨(v20.heap.size, v1.heap.size, A0, K0, D0, B0, L0, M0, A1, K1, D1, B1, L1, M1), by kernel_rfl, X5, X6, C0, E0, C1, E1, hK0, hL0, hK1, hL1, HB⟩
              exact ar_nil
            exact ar_nil
          exact ar_nil
        exact ar_nil
      exact ar_nil
    refine ar_alloc 4 (some 5) 30 [.slice none 0 0, .slice none 0 0] (by kernel_rfl) (by kernel_rfl) ?_ ?_
    · intro v29 X5 hB
      refine ⟨joinB hS hB, ?_⟩
      have hX5 := hS.size
      replace hS := joinB hS hB
      replace HB := joinB HB hB
      replace h0 := h0.keep hB
      replace e0 := e0.keep hB
      replace h1 := h1.keep hB
      replace e1 := e1.keep hB
      clear hB
      refine rg_ready [1, 5] (by kernel_rfl) (by simp) ?_
      refine ar_call 1 (some 8) 80 #[.agg #[.slice a0 n0 c0, .slice b0 m0 d0]] (by kernel_rfl) (by kernel_rfl) (qCounted h0 e0 (by omega) (by omega)) ?_ ?_
      · rintro e v30 ⟨A0, K0, D0, B0, L0, M0, rfl, C0, E0, hK0, hL0, hB⟩
        refine ⟨_, rfl, joinB hS hB, ?_⟩
        replace hS := joinB hS hB
        replace HB := joinB HB hB
        replace h0 := h0.keep hB
        replace e0 := e0.keep hB
        replace h1 := h1.keep hB
        replace e1 := e1.keep hB
        replace X5 := X5.keep hB
        clear hB
        refine rg_ready [3, 5] (by kernel_rfl) (by simp) ?_
        refine ar_call 3 (some 10) 80 #[.agg #[.slice a1 n1 c1, .slice b1 m1 d1]] (by kernel_rfl) (by kernel_rfl) (qCounted h1 e1 (by omega) (by omega)) ?_ ?_
        · rintro e v31 ⟨A1, K1, D1, B1, L1, M1, rfl, C1, E1, hK1, hL1, hB⟩
          refine ⟨_, rfl, joinB hS hB, ?_⟩
          replace hS := joinB hS hB
          replace HB := joinB HB hB
          replace h0 := h0.keep hB
          replace e0 := e0.keep hB
          replace h1 := h1.keep hB
          replace e1 := e1.keep hB
          replace C0 := C0.keep hB
          replace E0 := E0.keep hB
          replace X5 := X5.keep hB
          clear hB
          refine rg_ready [5] (by kernel_rfl) (by simp) ?_
          refine ar_alloc 5 (some 6) 30 [.slice none 0 0, .slice none 0 0] (by kernel_rfl) (by kernel_rfl) ?_ ?_
          · intro v32 X6 hB
            refine ⟨joinB hS hB, ?_⟩
            have hX6 := hS.size
            replace hS := joinB hS hB
            replace HB := joinB HB hB
            have nX5X6 := Nat.ne_of_lt X5.lt
            replace h0 := h0.keep hB
            replace e0 := e0.keep hB
            replace h1 := h1.keep hB
            replace e1 := e1.keep hB
            replace C0 := C0.keep hB
            replace E0 := E0.keep hB
            replace C1 := C1.keep hB
            replace E1 := E1.keep hB
            replace X5 := X5.keep hB
            clear hB
            refine rg_ready [6] (by kernel_rfl) (by simp) ?_
            refine ar_store 6 30 30 5 8 (u0.drew.heap.size) [.slice none 0 0, .slice none 0 0] [.slice A0 K0 D0, .slice B0 L0 M0] (by kernel_rfl) (by kernel_rfl) (by kernel_rfl) (by kernel_rfl) X5 (by kernel_rfl) rfl (by kernel_rfl) ?_ ?_
            · intro v33 Y hw hB
              refine ⟨hS.trans (hB.mono hX5), ?_⟩
              replace HB := HB.trans (hB.mono (Nat.le_trans hBu hX5))
              replace hS := hS.trans (hB.mono hX5)
              replace h0 := h0.blk X5 (no_ints2 _ _ _ _ _ _) hw
              replace e0 := e0.blk X5 (no_ints2 _ _ _ _ _ _) hw
              replace h1 := h1.blk X5 (no_ints2 _ _ _ _ _ _) hw
              replace e1 := e1.blk X5 (no_ints2 _ _ _ _ _ _) hw
              replace C0 := C0.blk X5 (no_ints2 _ _ _ _ _ _) hw
              replace E0 := E0.blk X5 (no_ints2 _ _ _ _ _ _) hw
              replace C1 := C1.blk X5 (no_ints2 _ _ _ _ _ _) hw
              replace E1 := E1.blk X5 (no_ints2 _ _ _ _ _ _) hw
              replace X6 := X6.off (Ne.symm nX5X6) hw
              replace X5 := Y
              clear hB hw
              refine rg_ready [7] (by kernel_rfl) (by simp) ?_
              refine ar_store 7 30 30 6 10 (v31.heap.size) [.slice none 0 0, .slice none 0 0] [.slice A1 K1 D1, .slice B1 L1 M1] (by kernel_rfl) (by kernel_rfl) (by kernel_rfl) (by kernel_rfl) X6 (by kernel_rfl) rfl (by kernel_rfl) ?_ ?_
              · intro v34 Y hw hB
                refine ⟨hS.trans (hB.mono hX6), ?_⟩
                replace HB := HB.trans (hB.mono (Nat.le_trans hBu hX6))
                replace hS := hS.trans (hB.mono hX6)
                replace h0 := h0.blk X6 (no_ints2 _ _ _ _ _ _) hw
                replace e0 := e0.blk X6 (no_ints2 _ _ _ _ _ _) hw
                replace h1 := h1.blk X6 (no_ints2 _ _ _ _ _ _) hw
                replace e1 := e1.blk X6 (no_ints2 _ _ _ _ _ _) hw
                replace C0 := C0.blk X6 (no_ints2 _ _ _ _ _ _) hw
                replace E0 := E0.blk X6 (no_ints2 _ _ _ _ _ _) hw
                replace C1 := C1.blk X6 (no_ints2 _ _ _ _ _ _) hw
                replace E1 := E1.blk X6 (no_ints2 _ _ _ _ _ _) hw
                replace X5 := X5.off nX5X6 hw
                replace X6 := Y
                clear hB hw
                refine rg_done (by kernel_rfl) ?_
                exact ⟨(u0.drew.heap.size, v31.heap.size, A0, K0, D0, B0, L0, M0, A1, K1, D1, B1, L1, M1), by kernel_rfl, X5, X6, C0, E0, C1, E1, hK0, hL0, hK1, hL1, HB⟩
              exact ar_nil
            exact ar_nil
          exact ar_nil
        refine ar_alloc 5 (some 6) 30 [.slice none 0 0, .slice none 0 0] (by kernel_rfl) (by kernel_rfl) ?_ ?_
        · intro v35 X6 hB
          refine ⟨joinB hS hB, ?_⟩
          have hX6 := hS.size
          replace hS := joinB hS hB
          replace HB := joinB HB hB
          have nX5X6 := Nat.ne_of_lt X5.lt
          replace h0 := h0.keep hB
          replace e0 := e0.keep hB
          replace h1 := h1.keep hB
          replace e1 := e1.keep hB
          replace C0 := C0.keep hB
          replace E0 := E0.keep hB
          replace X5 := X5.keep hB
          clear hB
          refine rg_ready [3] (by kernel_rfl) (by simp) ?_
          refine ar_call 3 (some 10) 80 #[.agg #[.slice a1 n1 c1, .slice b1 m1 d1]] (by kernel_rfl) (by kernel_rfl) (qCounted h1 e1 (by omega) (by omega)) ?_ ?_
          · rintro e v36 ⟨A1, K1, D1, B1, L1, M1, rfl, C1, E1, hK1, hL1, hB⟩
            refine ⟨_, rfl, joinB hS hB, ?_⟩
            replace hS := joinB hS hB
            replace HB := joinB HB hB
            replace h0 := h0.keep hB
            replace e0 := e0.keep hB
            replace h1 := h1.keep hB
            replace e1 := e1.keep hB
            replace C0 := C0.keep hB
            replace E0 := E0.keep hB
            replace X5 := X5.keep hB
            replace X6 := X6.keep hB
            clear hB
            refine rg_ready [6] (by kernel_rfl) (by simp) ?_
            refine ar_store 6 30 30 5 8 (u0.drew.heap.size) [.slice none 0 0, .slice none 0 0] [.slice A0 K0 D0, .slice B0 L0 M0] (by kernel_rfl) (by kernel_rfl) (by kernel_rfl) (by kernel_rfl) X5 (by kernel_rfl) rfl (by kernel_rfl) ?_ ?_
            · intro v37 Y hw hB
              refine ⟨hS.trans (hB.mono hX5), ?_⟩
              replace HB := HB.trans (hB.mono (Nat.le_trans hBu hX5))
              replace hS := hS.trans (hB.mono hX5)
              replace h0 := h0.blk X5 (no_ints2 _ _ _ _ _ _) hw
              replace e0 := e0.blk X5 (no_ints2 _ _ _ _ _ _) hw
              replace h1 := h1.blk X5 (no_ints2 _ _ _ _ _ _) hw
              replace e1 := e1.blk X5 (no_ints2 _ _ _ _ _ _) hw
              replace C0 := C0.blk X5 (no_ints2 _ _ _ _ _ _) hw
              replace E0 := E0.blk X5 (no_ints2 _ _ _ _ _ _) hw
              replace C1 := C1.blk X5 (no_ints2 _ _ _ _ _ _) hw
              replace E1 := E1.blk X5 (no_ints2 _ _ _ _ _ _) hw
              replace X6 := X6.off (Ne.symm nX5X6) hw
              replace X5 := Y
              clear hB hw
              refine rg_ready [7] (by kernel_rfl) (by simp) ?_
              refine ar_store 7 30 30 6 10 (v30.heap.size) [.slice none 0 0, .slice none 0 0] [.slice A1 K1 D1, .slice B1 L1 M1] (by kernel_rfl) (by kernel_rfl) (by kernel_rfl) (by kernel_rfl) X6 (by kernel_rfl) rfl (by kernel_rfl) ?_ ?_
              · intro v38 Y hw hB
                refine ⟨hS.trans (hB.mono hX6), ?_⟩
                replace HB := HB.trans (hB.mono (Nat.le_trans hBu hX6))
                replace hS := hS.trans (hB.mono hX6)
                replace h0 := h0.blk X6 (no_ints2 _ _ _ _ _ _) hw
                replace e0 := e0.blk X6 (no_ints2 _ _ _ _ _ _) hw
                replace h1 := h1.blk X6 (no_ints2 _ _ _ _ _ _) hw
                replace e1 := e1.blk X6 (no_ints2 _ _ _ _ _ _) hw
                replace C0 := C0.blk X6 (no_ints2 _ _ _ _ _ _) hw
                replace E0 := E0.blk X6 (no_ints2 _ _ _ _ _ _) hw
                replace C1 := C1.blk X6 (no_ints2 _ _ _ _ _ _) hw
                replace E1 := E1.blk X6 (no_ints2 _ _ _ _ _ _) hw
                replace X5 := X5.off nX5X6 hw
                replace X6 := Y
                clear hB hw
                refine rg_done (by kernel_rfl) ?_
                exact ⟨(u0.drew.heap.size, v30.heap.size, A0, K0, D0, B0, L0, M0, A1, K1, D1, B1, L1, M1), by kernel_rfl, X5, X6, C0, E0, C1, E1, hK0, hL0, hK1, hL1, HB⟩
              exact ar_nil
            exact ar_nil
          exact ar_nil
        exact ar_nil
      refine ar_alloc 5 (some 6) 30 [.slice none 0 0, .slice none 0 0] (by kernel_rfl) (by kernel_rfl) ?_ ?_
      · intro v39 X6 hB
        refine ⟨joinB hS hB, ?_⟩
        have hX6 := hS.size
        replace hS := joinB hS hB
        replace HB := joinB HB hB
        have nX5X6 := Nat.ne_of_lt X5.lt
        replace h0 := h0.keep hB
        replace e0 := e0.keep hB
        replace h1 := h1.keep hB
        replace e1 := e1.keep hB
        replace X5 := X5.keep hB
        clear hB
        refine rg_ready [1] (by kernel_rfl) (by simp) ?_
        refine ar_call 1 (some 8) 80 #[.agg #[.slice a0 n0 c0, .slice b0 m0 d0]] (by kernel_rfl) (by kernel_rfl) (qCounted h0 e0 (by omega) (by omega)) ?_ ?_
        · rintro e v40 ⟨A0, K0, D0, B0, L0, M0, rfl, C0, E0, hK0, hL0, hB⟩
          refine ⟨_, rfl, joinB hS hB, ?_⟩
          replace hS := joinB hS hB
          replace HB := joinB HB hB
          replace h0 := h0.keep hB
          replace e0 := e0.keep hB
          replace h1 := h1.keep hB
          replace e1 := e1.keep hB
          replace X5 := X5.keep hB
          replace X6 := X6.keep hB
          clear hB
          refine rg_ready [3] (by kernel_rfl) (by simp) ?_
          refine ar_call 3 (some 10) 80 #[.agg #[.slice a1 n1 c1, .slice b1 m1 d1]] (by kernel_rfl) (by kernel_rfl) (qCounted h1 e1 (by omega) (by omega)) ?_ ?_
          · rintro e v41 ⟨A1, K1, D1, B1, L1, M1, rfl, C1, E1, hK1, hL1, hB⟩
            refine ⟨_, rfl, joinB hS hB, ?_⟩
            replace hS := joinB hS hB
            replace HB := joinB HB hB
            replace h0 := h0.keep hB
            replace e0 := e0.keep hB
            replace h1 := h1.keep hB
            replace e1 := e1.keep hB
            replace C0 := C0.keep hB
            replace E0 := E0.keep hB
            replace X5 := X5.keep hB
            replace X6 := X6.keep hB
            clear hB
            refine rg_ready [6] (by kernel_rfl) (by simp) ?_
            refine ar_store 6 30 30 5 8 (u0.drew.heap.size) [.slice none 0 0, .slice none 0 0] [.slice A0 K0 D0, .slice B0 L0 M0] (by kernel_rfl) (by kernel_rfl) (by kernel_rfl) (by kernel_rfl) X5 (by kernel_rfl) rfl (by kernel_rfl) ?_ ?_
            · intro v42 Y hw hB
              refine ⟨hS.trans (hB.mono hX5), ?_⟩
              replace HB := HB.trans (hB.mono (Nat.le_trans hBu hX5))
              replace hS := hS.trans (hB.mono hX5)
              replace h0 := h0.blk X5 (no_ints2 _ _ _ _ _ _) hw
              replace e0 := e0.blk X5 (no_ints2 _ _ _ _ _ _) hw
              replace h1 := h1.blk X5 (no_ints2 _ _ _ _ _ _) hw
              replace e1 := e1.blk X5 (no_ints2 _ _ _ _ _ _) hw
              replace C0 := C0.blk X5 (no_ints2 _ _ _ _ _ _) hw
              replace E0 := E0.blk X5 (no_ints2 _ _ _ _ _ _) hw
              replace C1 := C1.blk X5 (no_ints2 _ _ _ _ _ _) hw
              replace E1 := E1.blk X5 (no_ints2 _ _ _ _ _ _) hw
              replace X6 := X6.off (Ne.symm nX5X6) hw
              replace X5 := Y
              clear hB hw
              refine rg_ready [7] (by kernel_rfl) (by simp) ?_
              refine ar_store 7 30 30 6 10 (v29.heap.size) [.slice none 0 0, .slice none 0 0] [.slice A1 K1 D1, .slice B1 L1 M1] (by kernel_rfl) (by kernel_rfl) (by kernel_rfl) (by kernel_rfl) X6 (by kernel_rfl) rfl (by kernel_rfl) ?_ ?_
              · intro v43 Y hw hB
                refine ⟨hS.trans (hB.mono hX6), ?_⟩
                replace HB := HB.trans (hB.mono (Nat.le_trans hBu hX6))
                replace hS := hS.trans (hB.mono hX6)
                replace h0 := h0.blk X6 (no_ints2 _ _ _ _ _ _) hw
                replace e0 := e0.blk X6 (no_ints2 _ _ _ _ _ _) hw
                replace h1 := h1.blk X6 (no_ints2 _ _ _ _ _ _) hw
                replace e1 := e1.blk X6 (no_ints2 _ _ _ _ _ _) hw
                replace C0 := C0.blk X6 (no_ints2 _ _ _ _ _ _) hw
                replace E0 := E0.blk X6 (no_ints2 _ _ _ _ _ _) hw
                replace C1 := C1.blk X6 (no_ints2 _ _ _ _ _ _) hw
                replace E1 := E1.blk X6 (no_ints2 _ _ _ _ _ _) hw
                replace X5 := X5.off nX5X6 hw
                replace X6 := Y
                clear hB hw
                refine rg_done (by kernel_rfl) ?_
                exact ⟨(u0.drew.heap.size, v29.heap.size, A0, K0, D0, B0, L0, M0, A1, K1, D1, B1, L1, M1), by kernel_rfl, X5, X6, C0, E0, C1, E1, hK0, hL0, hK1, hL1, HB⟩
              exact ar_nil
            exact ar_nil
          exact ar_nil
        exact ar_nil
      exact ar_nil
    refine ar_alloc 5 (some 6) 30 [.slice none 0 0, .slice none 0 0] (by kernel_rfl) (by kernel_rfl) ?_ ?_
    · intro v44 X6 hB
      refine ⟨joinB hS hB, ?_⟩
      have hX6 := hS.size
      replace hS := joinB hS hB
      replace HB := joinB HB hB
      replace h0 := h0.keep hB
      replace e0 := e0.keep hB
      replace h1 := h1.keep hB
      replace e1 := e1.keep hB
      clear hB
      refine rg_ready [1, 4] (by kernel_rfl) (by simp) ?_
      refine ar_call 1 (some 8) 80 #[.agg #[.slice a0 n0 c0, .slice b0 m0 d0]] (by kernel_rfl) (by kernel_rfl) (qCounted h0 e0 (by omega) (by omega)) ?_ ?_
      · rintro e v45 ⟨A0, K0, D0, B0, L0, M0, rfl, C0, E0, hK0, hL0, hB⟩
        refine ⟨_, rfl, joinB hS hB, ?_⟩
        replace hS := joinB hS hB
        replace HB := joinB HB hB
        replace h0 := h0.keep hB
        replace e0 := e0.keep hB
        replace h1 := h1.keep hB
        replace e1 := e1.keep hB
        replace X6 := X6.keep hB
        clear hB
        refine rg_ready [3, 4] (by kernel_rfl) (by simp) ?_
        refine ar_call 3 (some 10) 80 #[.agg #[.slice a1 n1 c1, .slice b1 m1 d1]] (by kernel_rfl) (by kernel_rfl) (qCounted h1 e1 (by omega) (by omega)) ?_ ?_
        · rintro e v46 ⟨A1, K1, D1, B1, L1, M1, rfl, C1, E1, hK1, hL1, hB⟩
          refine ⟨_, rfl, joinB hS hB, ?_⟩
          replace hS := joinB hS hB
          replace HB := joinB HB hB
          replace h0 := h0.keep hB
          replace e0 := e0.keep hB
          replace h1 := h1.keep hB
          replace e1 := e1.keep hB
          replace C0 := C0.keep hB
          replace E0 := E0.keep hB
          replace X6 := X6.keep hB
          clear hB
          refine rg_ready [4] (by kernel_rfl) (by simp) ?_
          refine ar_alloc 4 (some 5) 30 [.slice none 0 0, .slice none 0 0] (by kernel_rfl) (by kernel_rfl) ?_ ?_
          · intro v47 X5 hB
            refine ⟨joinB hS hB, ?_⟩
            have hX5 := hS.size
            replace hS := joinB hS hB
            replace HB := joinB HB hB
            have nX6X5 := Nat.ne_of_lt X6.lt
            replace h0 := h0.keep hB
            replace e0 := e0.keep hB
            replace h1 := h1.keep hB
            replace e1 := e1.keep hB
            replace C0 := C0.keep hB
            replace E0 := E0.keep hB
            replace C1 := C1.keep hB
            replace E1 := E1.keep hB
            replace X6 := X6.keep hB
            clear hB
            refine rg_ready [6] (by kernel_rfl) (by simp) ?_
            refine ar_store 6 30 30 5 8 (v46.heap.size) [.slice none 0 0, .slice none 0 0] [.slice A0 K0 D0, .slice B0 L0 M0] (by kernel_rfl) (by kernel_rfl) (by kernel_rfl) (by kernel_rfl) X5 (by kernel_rfl) rfl (by kernel_rfl) ?_ ?_
            · intro v48 Y hw hB
              refine ⟨hS.trans (hB.mono hX5), ?_⟩
              replace HB := HB.trans (hB.mono (Nat.le_trans hBu hX5))
              replace hS := hS.trans (hB.mono hX5)
              replace h0 := h0.blk X5 (no_ints2 _ _ _ _ _ _) hw
              replace e0 := e0.blk X5 (no_ints2 _ _ _ _ _ _) hw
              replace h1 := h1.blk X5 (no_ints2 _ _ _ _ _ _) hw
              replace e1 := e1.blk X5 (no_ints2 _ _ _ _ _ _) hw
              replace C0 := C0.blk X5 (no_ints2 _ _ _ _ _ _) hw
              replace E0 := E0.blk X5 (no_ints2 _ _ _ _ _ _) hw
              replace C1 := C1.blk X5 (no_ints2 _ _ _ _ _ _) hw
              replace E1 := E1.blk X5 (no_ints2 _ _ _ _ _ _) hw
              replace X6 := X6.off nX6X5 hw
              replace X5 := Y
              clear hB hw
              refine rg_ready [7] (by kernel_rfl) (by simp) ?_
              refine ar_store 7 30 30 6 10 (u0.drew.heap.size) [.slice none 0 0, .slice none 0 0] [.slice A1 K1 D1, .slice B1 L1 M1] (by kernel_rfl) (by kernel_rfl) (by kernel_rfl) (by kernel_rfl) X6 (by kernel_rfl) rfl (by kernel_rfl) ?_ ?_
              · intro v49 Y hw hB
                refine ⟨hS.trans (hB.mono hX6), ?_⟩
                replace HB := HB.trans (hB.mono (Nat.le_trans hBu hX6))
                replace hS := hS.trans (hB.mono hX6)
                replace h0 := h0.blk X6 (no_ints2 _ _ _ _ _ _) hw
                replace e0 := e0.blk X6 (no_ints2 _ _ _ _ _ _) hw
                replace h1 := h1.blk X6 (no_ints2 _ _ _ _ _ _) hw
                replace e1 := e1.blk X6 (no_ints2 _ _ _ _ _ _) hw
                replace C0 := C0.blk X6 (no_ints2 _ _ _ _ _ _) hw
                replace E0 := E0.blk X6 (no_ints2 _ _ _ _ _ _) hw
                replace C1 := C1.blk X6 (no_ints2 _ _ _ _ _ _) hw
                replace E1 := E1.blk X6 (no_ints2 _ _ _ _ _ _) hw
                replace X5 := X5.off (Ne.symm nX6X5) hw
                replace X6 := Y
                clear hB hw
                refine rg_done (by kernel_rfl) ?_
                exact ⟨(v46.heap.size, u0.drew.heap.size, A0, K0, D0, B0, L0, M0, A1, K1, D1, B1, L1, M1), by kernel_rfl, X5, X6, C0, E0, C1, E1, hK0, hL0, hK1, hL1, HB⟩
              exact ar_nil
            exact ar_nil
          exact ar_nil
        refine ar_alloc 4 (some 5) 30 [.slice none 0 0, .slice none 0 0] (by kernel_rfl) (by kernel_rfl) ?_ ?_
        · intro v50 X5 hB
          refine ⟨joinB hS hB, ?_⟩
          have hX5 := hS.size
          replace hS := joinB hS hB
          replace HB := joinB HB hB
          have nX6X5 := Nat.ne_of_lt X6.lt
          replace h0 := h0.keep hB
          replace e0 := e0.keep hB
          replace h1 := h1.keep hB
          replace e1 := e1.keep hB
          replace C0 := C0.keep hB
          replace E0 := E0.keep hB
          replace X6 := X6.keep hB
          clear hB
          refine rg_ready [3] (by kernel_rfl) (by simp) ?_
          refine ar_call 3 (some 10) 80 #[.agg #[.slice a1 n1 c1, .slice b1 m1 d1]] (by kernel_rfl) (by kernel_rfl) (qCounted h1 e1 (by omega) (by omega)) ?_ ?_
          · rintro e v51 ⟨A1, K1, D1, B1, L1, M1, rfl, C1, E1, hK1, hL1, hB⟩
            refine ⟨_, rfl, joinB hS hB, ?_⟩
            replace hS := joinB hS hB
            replace HB := joinB HB hB
            replace h0 := h0.keep hB
            replace e0 := e0.keep hB
            replace h1 := h1.keep hB
            replace e1 := e1.keep hB
            replace C0 := C0.keep hB
            replace E0 := E0.keep hB
            replace X6 := X6.keep hB
            replace X5 := X5.keep hB
            clear hB
            refine rg_ready [6] (by kernel_rfl) (by simp) ?_
            refine ar_store 6 30 30 5 8 (v45.heap.size) [.slice none 0 0, .slice none 0 0] [.slice A0 K0 D0, .slice B0 L0 M0] (by kernel_rfl) (by kernel_rfl) (by kernel_rfl) (by kernel_rfl) X5 (by kernel_rfl) rfl (by kernel_rfl) ?_ ?_
            · intro v52 Y hw hB
              refine ⟨hS.trans (hB.mono hX5), ?_⟩
              replace HB := HB.trans (hB.mono (Nat.le_trans hBu hX5))
              replace hS := hS.trans (hB.mono hX5)
              replace h0 := h0.blk X5 (no_ints2 _ _ _ _ _ _) hw
              replace e0 := e0.blk X5 (no_ints2 _ _ _ _ _ _) hw
              replace h1 := h1.blk X5 (no_ints2 _ _ _ _ _ _) hw
              replace e1 := e1.blk X5 (no_ints2 _ _ _ _ _ _) hw
              replace C0 := C0.blk X5 (no_ints2 _ _ _ _ _ _) hw
              replace E0 := E0.blk X5 (no_ints2 _ _ _ _ _ _) hw
              replace C1 := C1.blk X5 (no_ints2 _ _ _ _ _ _) hw
              replace E1 := E1.blk X5 (no_ints2 _ _ _ _ _ _) hw
              replace X6 := X6.off nX6X5 hw
              replace X5 := Y
              clear hB hw
              refine rg_ready [7] (by kernel_rfl) (by simp) ?_
              refine ar_store 7 30 30 6 10 (u0.drew.heap.size) [.slice none 0 0, .slice none 0 0] [.slice A1 K1 D1, .slice B1 L1 M1] (by kernel_rfl) (by kernel_rfl) (by kernel_rfl) (by kernel_rfl) X6 (by kernel_rfl) rfl (by kernel_rfl) ?_ ?_
              · intro v53 Y hw hB
                refine ⟨hS.trans (hB.mono hX6), ?_⟩
                replace HB := HB.trans (hB.mono (Nat.le_trans hBu hX6))
                replace hS := hS.trans (hB.mono hX6)
                replace h0 := h0.blk X6 (no_ints2 _ _ _ _ _ _) hw
                replace e0 := e0.blk X6 (no_ints2 _ _ _ _ _ _) hw
                replace h1 := h1.blk X6 (no_ints2 _ _ _ _ _ _) hw
                replace e1 := e1.blk X6 (no_ints2 _ _ _ _ _ _) hw
                replace C0 := C0.blk X6 (no_ints2 _ _ _ _ _ _) hw
                replace E0 := E0.blk X6 (no_ints2 _ _ _ _ _ _) hw
                replace C1 := C1.blk X6 (no_ints2 _ _ _ _ _ _) hw
                replace E1 := E1.blk X6 (no_ints2 _ _ _ _ _ _) hw
                replace X5 := X5.off (Ne.symm nX6X5) hw
                replace X6 := Y
                clear hB hw
                refine rg_done (by kernel_rfl) ?_
                exact ⟨(v45.heap.size, u0.drew.heap.size, A0, K0, D0, B0, L0, M0, A1, K1, D1, B1, L1, M1), by kernel_rfl, X5, X6, C0, E0, C1, E1, hK0, hL0, hK1, hL1, HB⟩
              exact ar_nil
            exact ar_nil
          exact ar_nil
        exact ar_nil
      refine ar_alloc 4 (some 5) 30 [.slice none 0 0, .slice none 0 0] (by kernel_rfl) (by kernel_rfl) ?_ ?_
      · intro v54 X5 hB
        refine ⟨joinB hS hB, ?_⟩
        have hX5 := hS.size
        replace hS := joinB hS hB
        replace HB := joinB HB hB
        have nX6X5 := Nat.ne_of_lt X6.lt
        replace h0 := h0.keep hB
        replace e0 := e0.keep hB
        replace h1 := h1.keep hB
        replace e1 := e1.keep hB
        replace X6 := X6.keep hB
        clear hB
        refine rg_ready [1] (by kernel_rfl) (by simp) ?_
        refine ar_call 1 (some 8) 80 #[.agg #[.slice a0 n0 c0, .slice b0 m0 d0]] (by kernel_rfl) (by kernel_rfl) (qCounted h0 e0 (by omega) (by omega)) ?_ ?_
        · rintro e v55 ⟨A0, K0, D0, B0, L0, M0, rfl, C0, E0, hK0, hL0, hB⟩
          refine ⟨_, rfl, joinB hS hB, ?_⟩
          replace hS := joinB hS hB
          replace HB := joinB HB hB
          replace h0 := h0.keep hB
          replace e0 := e0.keep hB
          replace h1 := h1.keep hB
          replace e1 := e1.keep hB
          replace X6 := X6.keep hB
          replace X5 := X5.keep hB
          clear hB
          refine rg_ready [3] (by kernel_rfl) (by simp) ?_
          refine ar_call 3 (some 10) 80 #[.agg #[.slice a1 n1 c1, .slice b1 m1 d1]] (by kernel_rfl) (by kernel_rfl) (qCounted h1 e1 (by omega) (by omega)) ?_ ?_
          · rintro e v56 ⟨A1, K1, D1, B1, L1, M1, rfl, C1, E1, hK1, hL1, hB⟩
            refine ⟨_, rfl, joinB hS hB, ?_⟩
            replace hS := joinB hS hB
            replace HB := joinB HB hB
            replace h0 := h0.keep hB
            replace e0 := e0.keep hB
            replace h1 := h1.keep hB
            replace e1 := e1.keep hB
            replace C0 := C0.keep hB
            replace E0 := E0.keep hB
            replace X6 := X6.keep hB
            replace X5 := X5.keep hB
            clear hB
            refine rg_ready [6] (by kernel_rfl) (by simp) ?_
            refine ar_store 6 30 30 5 8 (v44.heap.size) [.slice none 0 0, .slice none 0 0] [.slice A0 K0 D0, .slice B0 L0 M0] (by kernel_rfl) (by kernel_rfl) (by kernel_rfl) (by kernel_rfl) X5 (by kernel_rfl) rfl (by kernel_rfl) ?_ ?_
            · intro v57 Y hw hB
              refine ⟨hS.trans (hB.mono hX5), ?_⟩
              replace HB := HB.trans (hB.mono (Nat.le_trans hBu hX5))
              replace hS := hS.trans (hB.mono hX5)
              replace h0 := h0.blk X5 (no_ints2 _ _ _ _ _ _) hw
              replace e0 := e0.blk X5 (no_ints2 _ _ _ _ _ _) hw
              replace h1 := h1.blk X5 (no_ints2 _ _ _ _ _ _) hw
              replace e1 := e1.blk X5 (no_ints2 _ _ _ _ _ _) hw
              replace C0 := C0.blk X5 (no_ints2 _ _ _ _ _ _) hw
              replace E0 := E0.blk X5 (no_ints2 _ _ _ _ _ _) hw
              replace C1 := C1.blk X5 (no_ints2 _ _ _ _ _ _) hw
              replace E1 := E1.blk X5 (no_ints2 _ _ _ _ _ _) hw
              replace X6 := X6.off nX6X5 hw
              replace X5 := Y
              clear hB hw
              refine rg_ready [7] (by kernel_rfl) (by simp) ?_
              refine ar_store 7 30 30 6 10 (u0.drew.heap.size) [.slice none 0 0, .slice none 0 0] [.slice A1 K1 D1, .slice B1 L1 M1] (by kernel_rfl) (by kernel_rfl) (by kernel_rfl) (by kernel_rfl) X6 (by kernel_rfl) rfl (by kernel_rfl) ?_ ?_
              · intro v58 Y hw hB
                refine ⟨hS.trans (hB.mono hX6), ?_⟩
                replace HB := HB.trans (hB.mono (Nat.le_trans hBu hX6))
                replace hS := hS.trans (hB.mono hX6)
                replace h0 := h0.blk X6 (no_ints2 _ _ _ _ _ _) hw
                replace e0 := e0.blk X6 (no_ints2 _ _ _ _ _ _) hw
                replace h1 := h1.blk X6 (no_ints2 _ _ _ _ _ _) hw
                replace e1 := e1.blk X6 (no_ints2 _ _ _ _ _ _) hw
                replace C0 := C0.blk X6 (no_ints2 _ _ _ _ _ _) hw
                replace E0 := E0.blk X6 (no_ints2 _ _ _ _ _ _) hw
                replace C1 := C1.blk X6 (no_ints2 _ _ _ _ _ _) hw
                replace E1 := E1.blk X6 (no_ints2 _ _ _ _ _ _) hw
                replace X5 := X5.off (Ne.symm nX6X5) hw
                replace X6 := Y
                clear hB hw
                refine rg_done (by kernel_rfl) ?_
                exact ⟨(v44.heap.size, u0.drew.heap.size, A0, K0, D0, B0, L0, M0, A1, K1, D1, B1, L1, M1), by kernel_rfl, X5, X6, C0, E0, C1, E1, hK0, hL0, hK1, hL1, HB⟩
              exact ar_nil
            exact ar_nil
          exact ar_nil
        exact ar_nil
      exact ar_nil
    exact ar_nil
  · rintro ⟨g5, g6, A0, K0, D0, B0, L0, M0, A1, K1, D1, B1, L1, M1⟩ u1 ⟨X5, X6, C0, E0, C1, E1, hK0, hL0, hK1, hL1, HBn⟩
    replace HB := HBn
    clear HBn h0 e0 h1 e1 P0 P1
    try simp only [putAll, Act.put, List.setIfInBounds_toArray, List.set_cons_zero, List.set_cons_succ]
    go_wp2_with fail
    refine rg_start (S := fun w' => Below u1.drew.heap.size u1.drew w') (by kernel_rfl) (Below.refl _ _) ?_
    replace C0 := C0.drew
    replace E0 := E0.drew
    replace C1 := C1.drew
    replace E1 := E1.drew
    replace HB := HB.drew
    have UX5 := X5.drew
    have UX6 := X6.drew
    have hS := Below.refl u1.drew.heap.size u1.drew
    refine rg_take 0 (some 11) (.pointer (some ⟨g5, 0, none⟩)) (by kernel_rfl) (fun _ _ => by kernel_rfl) (fun _ _ _ h => h) hS ?_
    refine rg_load 1 (some 12) (.slice A0 K0 D0) 28 11 (g5) 0 (by kernel_rfl) (by kernel_rfl) (by kernel_rfl) (fun _ hb => load_at ((UX5.keep hb).cells2.1)) (fun _ _ _ h => h) hS ?_
    refine rg_take 2 (some 13) (.pointer (some ⟨g6, 1, none⟩)) (by kernel_rfl) (fun _ _ => by kernel_rfl) (fun _ _ _ h => h) hS ?_
    refine rg_load 3 (some 14) (.slice B1 L1 M1) 28 13 (g6) 1 (by kernel_rfl) (by kernel_rfl) (by kernel_rfl) (fun _ hb => load_at ((UX6.keep hb).cells2.2.1)) (fun _ _ _ h => h) hS ?_
    refine rg_take 5 (some 16) (.pointer (some ⟨g6, 0, none⟩)) (by kernel_rfl) (fun _ _ => by kernel_rfl) (fun _ _ _ h => h) hS ?_
    refine rg_load 6 (some 17) (.slice A1 K1 D1) 28 16 (g6) 0 (by kernel_rfl) (by kernel_rfl) (by kernel_rfl) (fun _ hb => load_at ((UX6.keep hb).cells2.1)) (fun _ _ _ h => h) hS ?_
    refine rg_take 7 (some 18) (.pointer (some ⟨g5, 1, none⟩)) (by kernel_rfl) (fun _ _ => by kernel_rfl) (fun _ _ _ h => h) hS ?_
    refine rg_load 8 (some 19) (.slice B0 L0 M0) 28 18 (g5) 1 (by kernel_rfl) (by kernel_rfl) (by kernel_rfl) (fun _ hb => load_at ((UX5.keep hb).cells2.2.1)) (fun _ _ _ h => h) hS ?_
    refine rg_call 4 (some 15) 82 #[.slice A0 K0 D0, .slice B1 L1 M1] (by kernel_rfl) (by kernel_rfl) (nMul C0 E1 (by omega) (by omega)) ?_
    rintro e z1 ⟨Ap, Kp, Dp, rfl, Op1, hkp, hB⟩
    refine ⟨_, rfl, joinB hS hB, ?_⟩
    replace hS := joinB hS hB
    replace C0 := C0.keep hB
    replace E0 := E0.keep hB
    replace C1 := C1.keep hB
    replace E1 := E1.keep hB
    replace HB := joinB HB hB
    clear hB
    refine rg_call 9 (some 20) 82 #[.slice A1 K1 D1, .slice B0 L0 M0] (by kernel_rfl) (by kernel_rfl) (nMul C1 E0 (by omega) (by omega)) ?_
    rintro e z2 ⟨Aq, Kq, Dq, rfl, Op2, hkq, hB⟩
    refine ⟨_, rfl, joinB hS hB, ?_⟩
    replace hS := joinB hS hB
    replace C0 := C0.keep hB
    replace E0 := E0.keep hB
    replace C1 := C1.keep hB
    replace E1 := E1.keep hB
    replace Op1 := Op1.keep hB
    replace HB := joinB HB hB
    clear hB
    refine rg_call 10 (some 21) 81 #[.slice Ap Kp Dp, .slice Aq Kq Dq] (by kernel_rfl) (by kernel_rfl) (nCmp Op1.a Op2.a (by omega) (by omega)) ?_
    rintro e z3 ⟨rfl, hB⟩
    refine ⟨_, rfl, joinB hS hB, ?_⟩
    replace hS := joinB hS hB
    replace C0 := C0.keep hB
    replace E0 := E0.keep hB
    replace C1 := C1.keep hB
    replace E1 := E1.keep hB
    replace Op1 := Op1.keep hB
    replace Op2 := Op2.keep hB
    replace HB := joinB HB hB
    clear hB
    refine rg_take 11 (some 4) (.int .i64 (sgn ((cn x0 y0) * (cd y1)) ((cn x1 y1) * (cd y0)))) (by kernel_rfl) (fun _ _ => by kernel_rfl) (fun _ _ _ h => h) hS ?_
    refine rg_done (by kernel_rfl) ?_
    try simp only [Act.put, List.setIfInBounds_toArray, List.set_cons_zero, List.set_cons_succ]
    go_wp2
    go_ret
    exact ⟨rfl, HB⟩
set_option maxHeartbeats 8000000 in
set_option maxRecDepth 100000 in
theorem qMul {w : World} {a0 b0 : Option Addr} {n0 c0 m0 d0 : Nat} {x0 y0 : Int} {a1 b1 : Option Addr} {n1 c1 m1 d1 : Nat} {x1 y1 : Int} (h0 : NatA w a0 n0 c0 x0) (e0 : NatA w b0 m0 d0 y0) (hn0 : n0 ≤ 34359738368) (hm0 : m0 ≤ 34359738368) (h1 : NatA w a1 n1 c1 x1) (e1 : NatA w b1 m1 d1 y1) (hn1 : n1 ≤ 34359738368) (hm1 : m1 ≤ 34359738368) :
    Calls Tryz.prog 25 #[.agg #[.slice a0 n0 c0, .slice b0 m0 d0], .agg #[.slice a1 n1 c1, .slice b1 m1 d1]] w fun e w' => ∃ a k d a' k' d', e = .returned (.agg #[.slice a k d, .slice a' k' d']) ∧ NatO w' a k d (((cn x0 y0) * (cn x1 y1)) / (Int.gcd ((cn x0 y0) * (cn x1 y1)) ((cd y0) * (cd y1)) : Nat)) ∧ NatO w' a' k' d' (((cd y0) * (cd y1)) / (Int.gcd ((cn x0 y0) * (cn x1 y1)) ((cd y0) * (cd y1)) : Nat)) ∧ k ≤ n0 + n1 ∧ k' ≤ m0 + m1 + 2 ∧ Below w.heap.size w w' := by
  have HB := below3 w (.cells #[.slice a0 n0 c0, .slice b0 m0 d0] 30) (.cells #[.slice a1 n1 c1, .slice b1 m1 d1] 30) (.cells #[.slice none 0 0, .slice none 0 0] 30)
  have P0 := ((box_new w [.slice a0 n0 c0, .slice b0 m0 d0] 30).keep (below_alloc _ (.cells #[.slice a1 n1 c1, .slice b1 m1 d1] 30))).keep (below_alloc _ (.cells #[.slice none 0 0, .slice none 0 0] 30))
  have P1 := (box_new (w.alloc (.cells #[.slice a0 n0 c0, .slice b0 m0 d0] 30)) [.slice a1 n1 c1, .slice b1 m1 d1] 30).keep (below_alloc _ (.cells #[.slice none 0 0, .slice none 0 0] 30))
  have X4 := box_new ((w.alloc (.cells #[.slice a0 n0 c0, .slice b0 m0 d0] 30)).alloc (.cells #[.slice a1 n1 c1, .slice b1 m1 d1] 30)) [.slice none 0 0, .slice none 0 0] 30
  rw [show (w.alloc (.cells #[.slice a0 n0 c0, .slice b0 m0 d0] 30)).heap.size = w.heap.size + 1 by simp] at P1
  rw [show ((w.alloc (.cells #[.slice a0 n0 c0, .slice b0 m0 d0] 30)).alloc (.cells #[.slice a1 n1 c1, .slice b1 m1 d1] 30)).heap.size = w.heap.size + 1 + 1 by simp] at X4
  replace h0 := h0.keep HB
  replace e0 := e0.keep HB
  replace h1 := h1.keep HB
  replace e1 := e1.keep HB
  go_enter Tryz.func25, Tryz.ntmps25
  go_wp2_with fail
  generalize ((w.alloc (.cells #[.slice a0 n0 c0, .slice b0 m0 d0] 30)).alloc (.cells #[.slice a1 n1 c1, .slice b1 m1 d1] 30)).alloc (.cells #[.slice none 0 0, .slice none 0 0] 30) = u0 at *
  refine rg_mid (X := Nat × Nat × Option Addr × Nat × Nat × Option Addr × Nat × Nat × Option Addr × Nat × Nat × Option Addr × Nat × Nat) (fun ⟨g5, g6, A0, K0, D0, B0, L0, M0, A1, K1, D1, B1, L1, M1⟩ => [(some 7, .agg #[.slice a0 n0 c0, .slice b0 m0 d0]), (some 8, .agg #[.slice A0 K0 D0, .slice B0 L0 M0]), (some 9, .agg #[.slice a1 n1 c1, .slice b1 m1 d1]), (some 10, .agg #[.slice A1 K1 D1, .slice B1 L1 M1]), (some 5, .pointer (some ⟨g5, 0, none⟩)), (some 6, .pointer (some ⟨g6, 0, none⟩))]) (fun ⟨g5, g6, A0, K0, D0, B0, L0, M0, A1, K1, D1, B1, L1, M1⟩ w' => Box w' g5 [.slice A0 K0 D0, .slice B0 L0 M0] 30 ∧ Box w' g6 [.slice A1 K1 D1, .slice B1 L1 M1] 30 ∧ NatA w' A0 K0 D0 (cn x0 y0) ∧ NatA w' B0 L0 M0 (cd y0) ∧ NatA w' A1 K1 D1 (cn x1 y1) ∧ NatA w' B1 L1 M1 (cd y1) ∧ K0 ≤ n0 ∧ L0 ≤ m0 + 1 ∧ K1 ≤ n1 ∧ L1 ≤ m1 + 1 ∧ Box w' (w.heap.size + 1 + 1) [.slice none 0 0, .slice none 0 0] 30 ∧ w.heap.size + 1 + 1 < g5 ∧ w.heap.size + 1 + 1 < g6 ∧ Below w.heap.size w w') (fun w' => Below u0.drew.heap.size u0.drew w') (by kernel_rfl) (Below.refl _ _) ?_ ?_
  · replace HB := HB.drew
    have UP0 := P0.drew
    have UP1 := P1.drew
    replace h0 := h0.drew
    replace e0 := e0.drew
    replace h1 := h1.drew
    replace e1 := e1.drew
    have hBu := HB.size
    have hS := Below.refl u0.drew.heap.size u0.drew
    have UX4 := X4.drew
    have hX4u := UX4.lt
    clear P0 P1 X4
    refine rg_load 0 (some 7) (.agg #[.slice a0 n0 c0, .slice b0 m0 d0]) 30 2 (w.heap.size) 0 (by kernel_rfl) (by kernel_rfl) (by kernel_rfl) (fun _ hb => load_rat (UP0.keep hb)) (fun _ _ _ h => h) hS ?_
    refine rg_load 2 (some 9) (.agg #[.slice a1 n1 c1, .slice b1 m1 d1]) 30 3 (w.heap.size + 1) 0 (by kernel_rfl) (by kernel_rfl) (by kernel_rfl) (fun _ hb => load_rat (UP1.keep hb)) (fun _ _ _ h => h) hS ?_
    refine rg_ready [1, 4, 5] (by kernel_rfl) (by simp) ?_
    refine ar_call 1 (some 8) 80 #[.agg #[.slice a0 n0 c0, .slice b0 m0 d0]] (by kernel_rfl) (by kernel_rfl) (qCounted h0 e0 (by omega) (by omega)) ?_ ?_
    · rintro e v59 ⟨A0, K0, D0, B0, L0, M0, rfl, C0, E0, hK0, hL0, hB⟩
      refine ⟨_, rfl, joinB hS hB, ?_⟩
      replace hS := joinB hS hB
      replace HB := joinB HB hB
      replace h0 := h0.keep hB
      replace e0 := e0.keep hB
      replace h1 := h1.keep hB
      replace e1 := e1.keep hB
      clear hB
      refine rg_ready [3, 4, 5] (by kernel_rfl) (by simp) ?_
      refine ar_call 3 (some 10) 80 #[.agg #[.slice a1 n1 c1, .slice b1 m1 d1]] (by kernel_rfl) (by kernel_rfl) (qCounted h1 e1 (by omega) (by omega)) ?_ ?_
      · rintro e v60 ⟨A1, K1, D1, B1, L1, M1, rfl, C1, E1, hK1, hL1, hB⟩
        refine ⟨_, rfl, joinB hS hB, ?_⟩
        replace hS := joinB hS hB
        replace HB := joinB HB hB
        replace h0 := h0.keep hB
        replace e0 := e0.keep hB
        replace h1 := h1.keep hB
        replace e1 := e1.keep hB
        replace C0 := C0.keep hB
        replace E0 := E0.keep hB
        clear hB
        refine rg_ready [4, 5] (by kernel_rfl) (by simp) ?_
        refine ar_alloc 4 (some 5) 30 [.slice none 0 0, .slice none 0 0] (by kernel_rfl) (by kernel_rfl) ?_ ?_
        · intro v61 X5 hB
          refine ⟨joinB hS hB, ?_⟩
          have hX5 := hS.size
          replace hS := joinB hS hB
          replace HB := joinB HB hB
          replace h0 := h0.keep hB
          replace e0 := e0.keep hB
          replace h1 := h1.keep hB
          replace e1 := e1.keep hB
          replace C0 := C0.keep hB
          replace E0 := E0.keep hB
          replace C1 := C1.keep hB
          replace E1 := E1.keep hB
          clear hB
          refine rg_ready [5] (by kernel_rfl) (by simp) ?_
          refine ar_alloc 5 (some 6) 30 [.slice none 0 0, .slice none 0 0] (by kernel_rfl) (by kernel_rfl) ?_ ?_
          · intro v62 X6 hB
            refine ⟨joinB hS hB, ?_⟩
            have hX6 := hS.size
            replace hS := joinB hS hB
            replace HB := joinB HB hB
            have nX5X6 := Nat.ne_of_lt X5.lt
            replace h0 := h0.keep hB
            replace e0 := e0.keep hB
            replace h1 := h1.keep hB
            replace e1 := e1.keep hB
            replace C0 := C0.keep hB
            replace E0 := E0.keep hB
            replace C1 := C1.keep hB
            replace E1 := E1.keep hB
            replace X5 := X5.keep hB
            clear hB
            refine rg_ready [6] (by kernel_rfl) (by simp) ?_
            refine ar_store 6 30 30 5 8 (v60.heap.size) [.slice none 0 0, .slice none 0 0] [.slice A0 K0 D0, .slice B0 L0 M0] (by kernel_rfl) (by kernel_rfl) (by kernel_rfl) (by kernel_rfl) X5 (by kernel_rfl) rfl (by kernel_rfl) ?_ ?_
            · intro v63 Y hw hB
              refine ⟨hS.trans (hB.mono hX5), ?_⟩
              replace HB := HB.trans (hB.mono (Nat.le_trans hBu hX5))
              replace hS := hS.trans (hB.mono hX5)
              replace h0 := h0.blk X5 (no_ints2 _ _ _ _ _ _) hw
              replace e0 := e0.blk X5 (no_ints2 _ _ _ _ _ _) hw
              replace h1 := h1.blk X5 (no_ints2 _ _ _ _ _ _) hw
              replace e1 := e1.blk X5 (no_ints2 _ _ _ _ _ _) hw
              replace C0 := C0.blk X5 (no_ints2 _ _ _ _ _ _) hw
              replace E0 := E0.blk X5 (no_ints2 _ _ _ _ _ _) hw
              replace C1 := C1.blk X5 (no_ints2 _ _ _ _ _ _) hw
              replace E1 := E1.blk X5 (no_ints2 _ _ _ _ _ _) hw
              replace X6 := X6.off (Ne.symm nX5X6) hw
              replace X5 := Y
              clear hB hw
              refine rg_ready [7] (by kernel_rfl) (by simp) ?_
              refine ar_store 7 30 30 6 10 (v61.heap.size) [.slice none 0 0, .slice none 0 0] [.slice A1 K1 D1, .slice B1 L1 M1] (by kernel_rfl) (by kernel_rfl) (by kernel_rfl) (by kernel_rfl) X6 (by kernel_rfl) rfl (by kernel_rfl) ?_ ?_
              · intro v64 Y hw hB
                refine ⟨hS.trans (hB.mono hX6), ?_⟩
                replace HB := HB.trans (hB.mono (Nat.le_trans hBu hX6))
                replace hS := hS.trans (hB.mono hX6)
                replace h0 := h0.blk X6 (no_ints2 _ _ _ _ _ _) hw
                replace e0 := e0.blk X6 (no_ints2 _ _ _ _ _ _) hw
                replace h1 := h1.blk X6 (no_ints2 _ _ _ _ _ _) hw
                replace e1 := e1.blk X6 (no_ints2 _ _ _ _ _ _) hw
                replace C0 := C0.blk X6 (no_ints2 _ _ _ _ _ _) hw
                replace E0 := E0.blk X6 (no_ints2 _ _ _ _ _ _) hw
                replace C1 := C1.blk X6 (no_ints2 _ _ _ _ _ _) hw
                replace E1 := E1.blk X6 (no_ints2 _ _ _ _ _ _) hw
                replace X5 := X5.off nX5X6 hw
                replace X6 := Y
                clear hB hw
                refine rg_done (by kernel_rfl) ?_
                exact ⟨(v60.heap.size, v61.heap.size, A0, K0, D0, B0, L0, M0, A1, K1, D1, B1, L1, M1), by kernel_rfl, X5, X6, C0, E0, C1, E1, hK0, hL0, hK1, hL1, UX4.keep hS, Nat.lt_of_lt_of_le hX4u hX5, Nat.lt_of_lt_of_le hX4u hX6, HB⟩
              exact ar_nil
            exact ar_nil
          exact ar_nil
        refine ar_alloc 5 (some 6) 30 [.slice none 0 0, .slice none 0 0] (by kernel_rfl) (by kernel_rfl) ?_ ?_
        · intro v65 X6 hB
          refine ⟨joinB hS hB, ?_⟩
          have hX6 := hS.size
          replace hS := joinB hS hB
          replace HB := joinB HB hB
          replace h0 := h0.keep hB
          replace e0 := e0.keep hB
          replace h1 := h1.keep hB
          replace e1 := e1.keep hB
          replace C0 := C0.keep hB
          replace E0 := E0.keep hB
          replace C1 := C1.keep hB
          replace E1 := E1.keep hB
          clear hB
          refine rg_ready [4] (by kernel_rfl) (by simp) ?_
          refine ar_alloc 4 (some 5) 30 [.slice none 0 0, .slice none 0 0] (by kernel_rfl) (by kernel_rfl) ?_ ?_
          · intro v66 X5 hB
            refine ⟨joinB hS hB, ?_⟩
            have hX5 := hS.size
            replace hS := joinB hS hB
            replace HB := joinB HB hB
            have nX6X5 := Nat.ne_of_lt X6.lt
            replace h0 := h0.keep hB
            replace e0 := e0.keep hB
            replace h1 := h1.keep hB
            replace e1 := e1.keep hB
            replace C0 := C0.keep hB
            replace E0 := E0.keep hB
            replace C1 := C1.keep hB
            replace E1 := E1.keep hB
            replace X6 := X6.keep hB
            clear hB
            refine rg_ready [6] (by kernel_rfl) (by simp) ?_
            refine ar_store 6 30 30 5 8 (v65.heap.size) [.slice none 0 0, .slice none 0 0] [.slice A0 K0 D0, .slice B0 L0 M0] (by kernel_rfl) (by kernel_rfl) (by kernel_rfl) (by kernel_rfl) X5 (by kernel_rfl) rfl (by kernel_rfl) ?_ ?_
            · intro v67 Y hw hB
              refine ⟨hS.trans (hB.mono hX5), ?_⟩
              replace HB := HB.trans (hB.mono (Nat.le_trans hBu hX5))
              replace hS := hS.trans (hB.mono hX5)
              replace h0 := h0.blk X5 (no_ints2 _ _ _ _ _ _) hw
              replace e0 := e0.blk X5 (no_ints2 _ _ _ _ _ _) hw
              replace h1 := h1.blk X5 (no_ints2 _ _ _ _ _ _) hw
              replace e1 := e1.blk X5 (no_ints2 _ _ _ _ _ _) hw
              replace C0 := C0.blk X5 (no_ints2 _ _ _ _ _ _) hw
              replace E0 := E0.blk X5 (no_ints2 _ _ _ _ _ _) hw
              replace C1 := C1.blk X5 (no_ints2 _ _ _ _ _ _) hw
              replace E1 := E1.blk X5 (no_ints2 _ _ _ _ _ _) hw
              replace X6 := X6.off nX6X5 hw
              replace X5 := Y
              clear hB hw
              refine rg_ready [7] (by kernel_rfl) (by simp) ?_
              refine ar_store 7 30 30 6 10 (v60.heap.size) [.slice none 0 0, .slice none 0 0] [.slice A1 K1 D1, .slice B1 L1 M1] (by kernel_rfl) (by kernel_rfl) (by kernel_rfl) (by kernel_rfl) X6 (by kernel_rfl) rfl (by kernel_rfl) ?_ ?_
              · intro v68 Y hw hB
                refine ⟨hS.trans (hB.mono hX6), ?_⟩
                replace HB := HB.trans (hB.mono (Nat.le_trans hBu hX6))
                replace hS := hS.trans (hB.mono hX6)
                replace h0 := h0.blk X6 (no_ints2 _ _ _ _ _ _) hw
                replace e0 := e0.blk X6 (no_ints2 _ _ _ _ _ _) hw
                replace h1 := h1.blk X6 (no_ints2 _ _ _ _ _ _) hw
                replace e1 := e1.blk X6 (no_ints2 _ _ _ _ _ _) hw
                replace C0 := C0.blk X6 (no_ints2 _ _ _ _ _ _) hw
                replace E0 := E0.blk X6 (no_ints2 _ _ _ _ _ _) hw
                replace C1 := C1.blk X6 (no_ints2 _ _ _ _ _ _) hw
                replace E1 := E1.blk X6 (no_ints2 _ _ _ _ _ _) hw
                replace X5 := X5.off (Ne.symm nX6X5) hw
                replace X6 := Y
                clear hB hw
                refine rg_done (by kernel_rfl) ?_
                exact ⟨(v65.heap.size, v60.heap.size, A0, K0, D0, B0, L0, M0, A1, K1, D1, B1, L1, M1), by kernel_rfl, X5, X6, C0, E0, C1, E1, hK0, hL0, hK1, hL1, UX4.keep hS, Nat.lt_of_lt_of_le hX4u hX5, Nat.lt_of_lt_of_le hX4u hX6, HB⟩
              exact ar_nil
            exact ar_nil
          exact ar_nil
        exact ar_nil
      refine ar_alloc 4 (some 5) 30 [.slice none 0 0, .slice none 0 0] (by kernel_rfl) (by kernel_rfl) ?_ ?_
      · intro v69 X5 hB
        refine ⟨joinB hS hB, ?_⟩
        have hX5 := hS.size
        replace hS := joinB hS hB
        replace HB := joinB HB hB
        replace h0 := h0.keep hB
        replace e0 := e0.keep hB
        replace h1 := h1.keep hB
        replace e1 := e1.keep hB
        replace C0 := C0.keep hB
        replace E0 := E0.keep hB
        clear hB
        refine rg_ready [3, 5] (by kernel_rfl) (by simp) ?_
        refine ar_call 3 (some 10) 80 #[.agg #[.slice a1 n1 c1, .slice b1 m1 d1]] (by kernel_rfl) (by kernel_rfl) (qCounted h1 e1 (by omega) (by omega)) ?_ ?_
        · rintro e v70 ⟨A1, K1, D1, B1, L1, M1, rfl, C1, E1, hK1, hL1, hB⟩
          refine ⟨_, rfl, joinB hS hB, ?_⟩
          replace hS := joinB hS hB
          replace HB := joinB HB hB
          replace h0 := h0.keep hB
          replace e0 := e0.keep hB
          replace h1 := h1.keep hB
          replace e1 := e1.keep hB
          replace C0 := C0.keep hB
          replace E0 := E0.keep hB
          replace X5 := X5.keep hB
          clear hB
          refine rg_ready [5] (by kernel_rfl) (by simp) ?_
          refine ar_alloc 5 (some 6) 30 [.slice none 0 0, .slice none 0 0] (by kernel_rfl) (by kernel_rfl) ?_ ?_
          · intro v71 X6 hB
            refine ⟨joinB hS hB, ?_⟩
            have hX6 := hS.size
            replace hS := joinB hS hB
            replace HB := joinB HB hB
            have nX5X6 := Nat.ne_of_lt X5.lt
            replace h0 := h0.keep hB
            replace e0 := e0.keep hB
            replace h1 := h1.keep hB
            replace e1 := e1.keep hB
            replace C0 := C0.keep hB
            replace E0 := E0.keep hB
            replace C1 := C1.keep hB
            replace E1 := E1.keep hB
            replace X5 := X5.keep hB
            clear hB
            refine rg_ready [6] (by kernel_rfl) (by simp) ?_
            refine ar_store 6 30 30 5 8 (v59.heap.size) [.slice none 0 0, .slice none 0 0] [.slice A0 K0 D0, .slice B0 L0 M0] (by kernel_rfl) (by kernel_rfl) (by kernel_rfl) (by kernel_rfl) X5 (by kernel_rfl) rfl (by kernel_rfl) ?_ ?_
            · intro v72 Y hw hB
              refine ⟨hS.trans (hB.mono hX5), ?_⟩
              replace HB := HB.trans (hB.mono (Nat.le_trans hBu hX5))
              replace hS := hS.trans (hB.mono hX5)
              replace h0 := h0.blk X5 (no_ints2 _ _ _ _ _ _) hw
              replace e0 := e0.blk X5 (no_ints2 _ _ _ _ _ _) hw
              replace h1 := h1.blk X5 (no_ints2 _ _ _ _ _ _) hw
              replace e1 := e1.blk X5 (no_ints2 _ _ _ _ _ _) hw
              replace C0 := C0.blk X5 (no_ints2 _ _ _ _ _ _) hw
              replace E0 := E0.blk X5 (no_ints2 _ _ _ _ _ _) hw
              replace C1 := C1.blk X5 (no_ints2 _ _ _ _ _ _) hw
              replace E1 := E1.blk X5 (no_ints2 _ _ _ _ _ _) hw
              replace X6 := X6.off (Ne.symm nX5X6) hw
              replace X5 := Y
              clear hB hw
              refine rg_ready [7] (by kernel_rfl) (by simp) ?_
              refine ar_store 7 30 30 6 10 (v70.heap.size) [.slice none 0 0, .slice none 0 0] [.slice A1 K1 D1, .slice B1 L1 M1] (by kernel_rfl) (by kernel_rfl) (by kernel_rfl) (by kernel_rfl) X6 (by kernel_rfl) rfl (by kernel_rfl) ?_ ?_
              · intro v73 Y hw hB
                refine ⟨hS.trans (hB.mono hX6), ?_⟩
                replace HB := HB.trans (hB.mono (Nat.le_trans hBu hX6))
                replace hS := hS.trans (hB.mono hX6)
                replace h0 := h0.blk X6 (no_ints2 _ _ _ _ _ _) hw
                replace e0 := e0.blk X6 (no_ints2 _ _ _ _ _ _) hw
                replace h1 := h1.blk X6 (no_ints2 _ _ _ _ _ _) hw
                replace e1 := e1.blk X6 (no_ints2 _ _ _ _ _ _) hw
                replace C0 := C0.blk X6 (no_ints2 _ _ _ _ _ _) hw
                replace E0 := E0.blk X6 (no_ints2 _ _ _ _ _ _) hw
                replace C1 := C1.blk X6 (no_ints2 _ _ _ _ _ _) hw
                replace E1 := E1.blk X6 (no_ints2 _ _ _ _ _ _) hw
                replace X5 := X5.off nX5X6 hw
                replace X6 := Y
                clear hB hw
                refine rg_done (by kernel_rfl) ?_
                exact ⟨(v59.heap.size, v70.heap.size, A0, K0, D0, B0, L0, M0, A1, K1, D1, B1, L1, M1), by kernel_rfl, X5, X6, C0, E0, C1, E1, hK0, hL0, hK1, hL1, UX4.keep hS, Nat.lt_of_lt_of_le hX4u hX5, Nat.lt_of_lt_of_le hX4u hX6, HB⟩
              exact ar_nil
            exact ar_nil
          exact ar_nil
        refine ar_alloc 5 (some 6) 30 [.slice none 0 0, .slice none 0 0] (by kernel_rfl) (by kernel_rfl) ?_ ?_
        · intro v74 X6 hB
          refine ⟨joinB hS hB, ?_⟩
          have hX6 := hS.size
          replace hS := joinB hS hB
          replace HB := joinB HB hB
          have nX5X6 := Nat.ne_of_lt X5.lt
          replace h0 := h0.keep hB
          replace e0 := e0.keep hB
          replace h1 := h1.keep hB
          replace e1 := e1.keep hB
          replace C0 := C0.keep hB
          replace E0 := E0.keep hB
          replace X5 := X5.keep hB
          clear hB
          refine rg_ready [3] (by kernel_rfl) (by simp) ?_
          refine ar_call 3 (some 10) 80 #[.agg #[.slice a1 n1 c1, .slice b1 m1 d1]] (by kernel_rfl) (by kernel_rfl) (qCounted h1 e1 (by omega) (by omega)) ?_ ?_
          · rintro e v75 ⟨A1, K1, D1, B1, L1, M1, rfl, C1, E1, hK1, hL1, hB⟩
            refine ⟨_, rfl, joinB hS hB, ?_⟩
            replace hS := joinB hS hB
            replace HB := joinB HB hB
            replace h0 := h0.keep hB
            replace e0 := e0.keep hB
            replace h1 := h1.keep hB
            replace e1 := e1.keep hB
            replace C0 := C0.keep hB
            replace E0 := E0.keep hB
            replace X5 := X5.keep hB
            replace X6 := X6.keep hB
            clear hB
            refine rg_ready [6] (by kernel_rfl) (by simp) ?_
            refine ar_store 6 30 30 5 8 (v59.heap.size) [.slice none 0 0, .slice none 0 0] [.slice A0 K0 D0, .slice B0 L0 M0] (by kernel_rfl) (by kernel_rfl) (by kernel_rfl) (by kernel_rfl) X5 (by kernel_rfl) rfl (by kernel_rfl) ?_ ?_
            · intro v76 Y hw hB
              refine ⟨hS.trans (hB.mono hX5), ?_⟩
              replace HB := HB.trans (hB.mono (Nat.le_trans hBu hX5))
              replace hS := hS.trans (hB.mono hX5)
              replace h0 := h0.blk X5 (no_ints2 _ _ _ _ _ _) hw
              replace e0 := e0.blk X5 (no_ints2 _ _ _ _ _ _) hw
              replace h1 := h1.blk X5 (no_ints2 _ _ _ _ _ _) hw
              replace e1 := e1.blk X5 (no_ints2 _ _ _ _ _ _) hw
              replace C0 := C0.blk X5 (no_ints2 _ _ _ _ _ _) hw
              replace E0 := E0.blk X5 (no_ints2 _ _ _ _ _ _) hw
              replace C1 := C1.blk X5 (no_ints2 _ _ _ _ _ _) hw
              replace E1 := E1.blk X5 (no_ints2 _ _ _ _ _ _) hw
              replace X6 := X6.off (Ne.symm nX5X6) hw
              replace X5 := Y
              clear hB hw
              refine rg_ready [7] (by kernel_rfl) (by simp) ?_
              refine ar_store 7 30 30 6 10 (v69.heap.size) [.slice none 0 0, .slice none 0 0] [.slice A1 K1 D1, .slice B1 L1 M1] (by kernel_rfl) (by kernel_rfl) (by kernel_rfl) (by kernel_rfl) X6 (by kernel_rfl) rfl (by kernel_rfl) ?_ ?_
              · intro v77 Y hw hB
                refine ⟨hS.trans (hB.mono hX6), ?_⟩
                replace HB := HB.trans (hB.mono (Nat.le_trans hBu hX6))
                replace hS := hS.trans (hB.mono hX6)
                replace h0 := h0.blk X6 (no_ints2 _ _ _ _ _ _) hw
                replace e0 := e0.blk X6 (no_ints2 _ _ _ _ _ _) hw
                replace h1 := h1.blk X6 (no_ints2 _ _ _ _ _ _) hw
                replace e1 := e1.blk X6 (no_ints2 _ _ _ _ _ _) hw
                replace C0 := C0.blk X6 (no_ints2 _ _ _ _ _ _) hw
                replace E0 := E0.blk X6 (no_ints2 _ _ _ _ _ _) hw
                replace C1 := C1.blk X6 (no_ints2 _ _ _ _ _ _) hw
                replace E1 := E1.blk X6 (no_ints2 _ _ _ _ _ _) hw
                replace X5 := X5.off nX5X6 hw
                replace X6 := Y
                clear hB hw
                refine rg_done (by kernel_rfl) ?_
                exact ⟨(v59.heap.size, v69.heap.size, A0, K0, D0, B0, L0, M0, A1, K1, D1, B1, L1, M1), by kernel_rfl, X5, X6, C0, E0, C1, E1, hK0, hL0, hK1, hL1, UX4.keep hS, Nat.lt_of_lt_of_le hX4u hX5, Nat.lt_of_lt_of_le hX4u hX6, HB⟩
              exact ar_nil
            exact ar_nil
          exact ar_nil
        exact ar_nil
      refine ar_alloc 5 (some 6) 30 [.slice none 0 0, .slice none 0 0] (by kernel_rfl) (by kernel_rfl) ?_ ?_
      · intro v78 X6 hB
        refine ⟨joinB hS hB, ?_⟩
        have hX6 := hS.size
        replace hS := joinB hS hB
        replace HB := joinB HB hB
        replace h0 := h0.keep hB
        replace e0 := e0.keep hB
        replace h1 := h1.keep hB
        replace e1 := e1.keep hB
        replace C0 := C0.keep hB
        replace E0 := E0.keep hB
        clear hB
        refine rg_ready [3, 4] (by kernel_rfl) (by simp) ?_
        refine ar_call 3 (some 10) 80 #[.agg #[.slice a1 n1 c1, .slice b1 m1 d1]] (by kernel_rfl) (by kernel_rfl) (qCounted h1 e1 (by omega) (by omega)) ?_ ?_
        · rintro e v79 ⟨A1, K1, D1, B1, L1, M1, rfl, C1, E1, hK1, hL1, hB⟩
          refine ⟨_, rfl, joinB hS hB, ?_⟩
          replace hS := joinB hS hB
          replace HB := joinB HB hB
          replace h0 := h0.keep hB
          replace e0 := e0.keep hB
          replace h1 := h1.keep hB
          replace e1 := e1.keep hB
          replace C0 := C0.keep hB
          replace E0 := E0.keep hB
          replace X6 := X6.keep hB
          clear hB
          refine rg_ready [4] (by kernel_rfl) (by simp) ?_
          refine ar_alloc 4 (some 5) 30 [.slice none 0 0, .slice none 0 0] (by kernel_rfl) (by kernel_rfl) ?_ ?_
          · intro v80 X5 hB
            refine ⟨joinB hS hB, ?_⟩
            have hX5 := hS.size
            replace hS := joinB hS hB
            replace HB := joinB HB hB
            have nX6X5 := Nat.ne_of_lt X6.lt
            replace h0 := h0.keep hB
            replace e0 := e0.keep hB
            replace h1 := h1.keep hB
            replace e1 := e1.keep hB
            replace C0 := C0.keep hB
            replace E0 := E0.keep hB
            replace C1 := C1.keep hB
            replace E1 := E1.keep hB
            replace X6 := X6.keep hB
            clear hB
            refine rg_ready [6] (by kernel_rfl) (by simp) ?_
            refine ar_store 6 30 30 5 8 (v79.heap.size) [.slice none 0 0, .slice none 0 0] [.slice A0 K0 D0, .slice B0 L0 M0] (by kernel_rfl) (by kernel_rfl) (by kernel_rfl) (by kernel_rfl) X5 (by kernel_rfl) rfl (by kernel_rfl) ?_ ?_
            · intro v81 Y hw hB
              refine ⟨hS.trans (hB.mono hX5), ?_⟩
              replace HB := HB.trans (hB.mono (Nat.le_trans hBu hX5))
              replace hS := hS.trans (hB.mono hX5)
              replace h0 := h0.blk X5 (no_ints2 _ _ _ _ _ _) hw
              replace e0 := e0.blk X5 (no_ints2 _ _ _ _ _ _) hw
              replace h1 := h1.blk X5 (no_ints2 _ _ _ _ _ _) hw
              replace e1 := e1.blk X5 (no_ints2 _ _ _ _ _ _) hw
              replace C0 := C0.blk X5 (no_ints2 _ _ _ _ _ _) hw
              replace E0 := E0.blk X5 (no_ints2 _ _ _ _ _ _) hw
              replace C1 := C1.blk X5 (no_ints2 _ _ _ _ _ _) hw
              replace E1 := E1.blk X5 (no_ints2 _ _ _ _ _ _) hw
              replace X6 := X6.off nX6X5 hw
              replace X5 := Y
              clear hB hw
              refine rg_ready [7] (by kernel_rfl) (by simp) ?_
              refine ar_store 7 30 30 6 10 (v59.heap.size) [.slice none 0 0, .slice none 0 0] [.slice A1 K1 D1, .slice B1 L1 M1] (by kernel_rfl) (by kernel_rfl) (by kernel_rfl) (by kernel_rfl) X6 (by kernel_rfl) rfl (by kernel_rfl) ?_ ?_
              · intro v82 Y hw hB
                refine ⟨hS.trans (hB.mono hX6), ?_⟩
                replace HB := HB.trans (hB.mono (Nat.le_trans hBu hX6))
                replace hS := hS.trans (hB.mono hX6)
                replace h0 := h0.blk X6 (no_ints2 _ _ _ _ _ _) hw
                replace e0 := e0.blk X6 (no_ints2 _ _ _ _ _ _) hw
                replace h1 := h1.blk X6 (no_ints2 _ _ _ _ _ _) hw
                replace e1 := e1.blk X6 (no_ints2 _ _ _ _ _ _) hw
                replace C0 := C0.blk X6 (no_ints2 _ _ _ _ _ _) hw
                replace E0 := E0.blk X6 (no_ints2 _ _ _ _ _ _) hw
                replace C1 := C1.blk X6 (no_ints2 _ _ _ _ _ _) hw
                replace E1 := E1.blk X6 (no_ints2 _ _ _ _ _ _) hw
                replace X5 := X5.off (Ne.symm nX6X5) hw
                replace X6 := Y
                clear hB hw
                refine rg_done (by kernel_rfl) ?_
                exact ⟨(v79.heap.size, v59.heap.size, A0, K0, D0, B0, L0, M0, A1, K1, D1, B1, L1, M1), by kernel_rfl, X5, X6, C0, E0, C1, E1, hK0, hL0, hK1, hL1, UX4.keep hS, Nat.lt_of_lt_of_le hX4u hX5, Nat.lt_of_lt_of_le hX4u hX6, HB⟩
              exact ar_nil
            exact ar_nil
          exact ar_nil
        refine ar_alloc 4 (some 5) 30 [.slice none 0 0, .slice none 0 0] (by kernel_rfl) (by kernel_rfl) ?_ ?_
        · intro v83 X5 hB
          refine ⟨joinB hS hB, ?_⟩
          have hX5 := hS.size
          replace hS := joinB hS hB
          replace HB := joinB HB hB
          have nX6X5 := Nat.ne_of_lt X6.lt
          replace h0 := h0.keep hB
          replace e0 := e0.keep hB
          replace h1 := h1.keep hB
          replace e1 := e1.keep hB
          replace C0 := C0.keep hB
          replace E0 := E0.keep hB
          replace X6 := X6.keep hB
          clear hB
          refine rg_ready [3] (by kernel_rfl) (by simp) ?_
          refine ar_call 3 (some 10) 80 #[.agg #[.slice a1 n1 c1, .slice b1 m1 d1]] (by kernel_rfl) (by kernel_rfl) (qCounted h1 e1 (by omega) (by omega)) ?_ ?_
          · rintro e v84 ⟨A1, K1, D1, B1, L1, M1, rfl, C1, E1, hK1, hL1, hB⟩
            refine ⟨_, rfl, joinB hS hB, ?_⟩
            replace hS := joinB hS hB
            replace HB := joinB HB hB
            replace h0 := h0.keep hB
            replace e0 := e0.keep hB
            replace h1 := h1.keep hB
            replace e1 := e1.keep hB
            replace C0 := C0.keep hB
            replace E0 := E0.keep hB
            replace X6 := X6.keep hB
            replace X5 := X5.keep hB
            clear hB
            refine rg_ready [6] (by kernel_rfl) (by simp) ?_
            refine ar_store 6 30 30 5 8 (v78.heap.size) [.slice none 0 0, .slice none 0 0] [.slice A0 K0 D0, .slice B0 L0 M0] (by kernel_rfl) (by kernel_rfl) (by kernel_rfl) (by kernel_rfl) X5 (by kernel_rfl) rfl (by kernel_rfl) ?_ ?_
            · intro v85 Y hw hB
              refine ⟨hS.trans (hB.mono hX5), ?_⟩
              replace HB := HB.trans (hB.mono (Nat.le_trans hBu hX5))
              replace hS := hS.trans (hB.mono hX5)
              replace h0 := h0.blk X5 (no_ints2 _ _ _ _ _ _) hw
              replace e0 := e0.blk X5 (no_ints2 _ _ _ _ _ _) hw
              replace h1 := h1.blk X5 (no_ints2 _ _ _ _ _ _) hw
              replace e1 := e1.blk X5 (no_ints2 _ _ _ _ _ _) hw
              replace C0 := C0.blk X5 (no_ints2 _ _ _ _ _ _) hw
              replace E0 := E0.blk X5 (no_ints2 _ _ _ _ _ _) hw
              replace C1 := C1.blk X5 (no_ints2 _ _ _ _ _ _) hw
              replace E1 := E1.blk X5 (no_ints2 _ _ _ _ _ _) hw
              replace X6 := X6.off nX6X5 hw
              replace X5 := Y
              clear hB hw
              refine rg_ready [7] (by kernel_rfl) (by simp) ?_
              refine ar_store 7 30 30 6 10 (v59.heap.size) [.slice none 0 0, .slice none 0 0] [.slice A1 K1 D1, .slice B1 L1 M1] (by kernel_rfl) (by kernel_rfl) (by kernel_rfl) (by kernel_rfl) X6 (by kernel_rfl) rfl (by kernel_rfl) ?_ ?_
              · intro v86 Y hw hB
                refine ⟨hS.trans (hB.mono hX6), ?_⟩
                replace HB := HB.trans (hB.mono (Nat.le_trans hBu hX6))
                replace hS := hS.trans (hB.mono hX6)
                replace h0 := h0.blk X6 (no_ints2 _ _ _ _ _ _) hw
                replace e0 := e0.blk X6 (no_ints2 _ _ _ _ _ _) hw
                replace h1 := h1.blk X6 (no_ints2 _ _ _ _ _ _) hw
                replace e1 := e1.blk X6 (no_ints2 _ _ _ _ _ _) hw
                replace C0 := C0.blk X6 (no_ints2 _ _ _ _ _ _) hw
                replace E0 := E0.blk X6 (no_ints2 _ _ _ _ _ _) hw
                replace C1 := C1.blk X6 (no_ints2 _ _ _ _ _ _) hw
                replace E1 := E1.blk X6 (no_ints2 _ _ _ _ _ _) hw
                replace X5 := X5.off (Ne.symm nX6X5) hw
                replace X6 := Y
                clear hB hw
                refine rg_done (by kernel_rfl) ?_
                exact ⟨(v78.heap.size, v59.heap.size, A0, K0, D0, B0, L0, M0, A1, K1, D1, B1, L1, M1), by kernel_rfl, X5, X6, C0, E0, C1, E1, hK0, hL0, hK1, hL1, UX4.keep hS, Nat.lt_of_lt_of_le hX4u hX5, Nat.lt_of_lt_of_le hX4u hX6, HB⟩
              exact ar_nil
            exact ar_nil
          exact ar_nil
        exact ar_nil
      exact ar_nil
    refine ar_alloc 4 (some 5) 30 [.slice none 0 0, .slice none 0 0] (by kernel_rfl) (by kernel_rfl) ?_ ?_
    · intro v87 X5 hB
      refine ⟨joinB hS hB, ?_⟩
      have hX5 := hS.size
      replace hS := joinB hS hB
      replace HB := joinB HB hB
      replace h0 := h0.keep hB
      replace e0 := e0.keep hB
      replace h1 := h1.keep hB
      replace e1 := e1.keep hB
      clear hB
      refine rg_ready [1, 5] (by kernel_rfl) (by simp) ?_
      refine ar_call 1 (some 8) 80 #[.agg #[.slice a0 n0 c0, .slice b0 m0 d0]] (by kernel_rfl) (by kernel_rfl) (qCounted h0 e0 (by omega) (by omega)) ?_ ?_
      · rintro e v88 ⟨A0, K0, D0, B0, L0, M0, rfl, C0, E0, hK0, hL0, hB⟩
        refine ⟨_, rfl, joinB hS hB, ?_⟩
        replace hS := joinB hS hB
        replace HB := joinB HB hB
        replace h0 := h0.keep hB
        replace e0 := e0.keep hB
        replace h1 := h1.keep hB
        replace e1 := e1.keep hB
        replace X5 := X5.keep hB
        clear hB
        refine rg_ready [3, 5] (by kernel_rfl) (by simp) ?_
        refine ar_call 3 (some 10) 80 #[.agg #[.slice a1 n1 c1, .slice b1 m1 d1]] (by kernel_rfl) (by kernel_rfl) (qCounted h1 e1 (by omega) (by omega)) ?_ ?_
        · rintro e v89 ⟨A1, K1, D1, B1, L1, M1, rfl, C1, E1, hK1, hL1, hB⟩
          refine ⟨_, rfl, joinB hS hB, ?_⟩
          replace hS := joinB hS hB
          replace HB := joinB HB hB
          replace h0 := h0.keep hB
          replace e0 := e0.keep hB
          replace h1 := h1.keep hB
          replace e1 := e1.keep hB
          replace C0 := C0.keep hB
          replace E0 := E0.keep hB
          replace X5 := X5.keep hB
          clear hB
          refine rg_ready [5] (by kernel_rfl) (by simp) ?_
          refine ar_alloc 5 (some 6) 30 [.slice none 0 0, .slice none 0 0] (by kernel_rfl) (by kernel_rfl) ?_ ?_
          · intro v90 X6 hB
            refine ⟨joinB hS hB, ?_⟩
            have hX6 := hS.size
            replace hS := joinB hS hB
            replace HB := joinB HB hB
            have nX5X6 := Nat.ne_of_lt X5.lt
            replace h0 := h0.keep hB
            replace e0 := e0.keep hB
            replace h1 := h1.keep hB
            replace e1 := e1.keep hB
            replace C0 := C0.keep hB
            replace E0 := E0.keep hB
            replace C1 := C1.keep hB
            replace E1 := E1.keep hB
            replace X5 := X5.keep hB
            clear hB
            refine rg_ready [6] (by kernel_rfl) (by simp) ?_
            refine ar_store 6 30 30 5 8 (u0.drew.heap.size) [.slice none 0 0, .slice none 0 0] [.slice A0 K0 D0, .slice B0 L0 M0] (by kernel_rfl) (by kernel_rfl) (by kernel_rfl) (by kernel_rfl) X5 (by kernel_rfl) rfl (by kernel_rfl) ?_ ?_
            · intro v91 Y hw hB
              refine ⟨hS.trans (hB.mono hX5), ?_⟩
              replace HB := HB.trans (hB.mono (Nat.le_trans hBu hX5))
              replace hS := hS.trans (hB.mono hX5)
              replace h0 := h0.blk X5 (no_ints2 _ _ _ _ _ _) hw
              replace e0 := e0.blk X5 (no_ints2 _ _ _ _ _ _) hw
              replace h1 := h1.blk X5 (no_ints2 _ _ _ _ _ _) hw
              replace e1 := e1.blk X5 (no_ints2 _ _ _ _ _ _) hw
              replace C0 := C0.blk X5 (no_ints2 _ _ _ _ _ _) hw
              replace E0 := E0.blk X5 (no_ints2 _ _ _ _ _ _) hw
              replace C1 := C1.blk X5 (no_ints2 _ _ _ _ _ _) hw
              replace E1 := E1.blk X5 (no_ints2 _ _ _ _ _ _) hw
              replace X6 := X6.off (Ne.symm nX5X6) hw
              replace X5 := Y
              clear hB hw
              refine rg_ready [7] (by kernel_rfl) (by simp) ?_
              refine ar_store 7 30 30 6 10 (v89.heap.size) [.slice none 0 0, .slice none 0 0] [.slice A1 K1 D1, .slice B1 L1 M1] (by kernel_rfl) (by kernel_rfl) (by kernel_rfl) (by kernel_rfl) X6 (by kernel_rfl) rfl (by kernel_rfl) ?_ ?_
              · intro v92 Y hw hB
                refine ⟨hS.trans (hB.mono hX6), ?_⟩
                replace HB := HB.trans (hB.mono (Nat.le_trans hBu hX6))
                replace hS := hS.trans (hB.mono hX6)
                replace h0 := h0.blk X6 (no_ints2 _ _ _ _ _ _) hw
                replace e0 := e0.blk X6 (no_ints2 _ _ _ _ _ _) hw
                replace h1 := h1.blk X6 (no_ints2 _ _ _ _ _ _) hw
                replace e1 := e1.blk X6 (no_ints2 _ _ _ _ _ _) hw
                replace C0 := C0.blk X6 (no_ints2 _ _ _ _ _ _) hw
                replace E0 := E0.blk X6 (no_ints2 _ _ _ _ _ _) hw
                replace C1 := C1.blk X6 (no_ints2 _ _ _ _ _ _) hw
                replace E1 := E1.blk X6 (no_ints2 _ _ _ _ _ _) hw
                replace X5 := X5.off nX5X6 hw
                replace X6 := Y
                clear hB hw
                refine rg_done (by kernel_rfl) ?_
                exact ⟨(u0.drew.heap.size, v89.heap.size, A0, K0, D0, B0, L0, M0, A1, K1, D1, B1, L1, M1), by kernel_rfl, X5, X6, C0, E0, C1, E1, hK0, hL0, hK1, hL1, UX4.keep hS, Nat.lt_of_lt_of_le hX4u hX5, Nat.lt_of_lt_of_le hX4u hX6, HB⟩
              exact ar_nil
            exact ar_nil
          exact ar_nil
        refine ar_alloc 5 (some 6) 30 [.slice none 0 0, .slice none 0 0] (by kernel_rfl) (by kernel_rfl) ?_ ?_
        · intro v93 X6 hB
          refine ⟨joinB hS hB, ?_⟩
          have hX6 := hS.size
          replace hS := joinB hS hB
          replace HB := joinB HB hB
          have nX5X6 := Nat.ne_of_lt X5.lt
          replace h0 := h0.keep hB
          replace e0 := e0.keep hB
          replace h1 := h1.keep hB
          replace e1 := e1.keep hB
          replace C0 := C0.keep hB
          replace E0 := E0.keep hB
          replace X5 := X5.keep hB
          clear hB
          refine rg_ready [3] (by kernel_rfl) (by simp) ?_
          refine ar_call 3 (some 10) 80 #[.agg #[.slice a1 n1 c1, .slice b1 m1 d1]] (by kernel_rfl) (by kernel_rfl) (qCounted h1 e1 (by omega) (by omega)) ?_ ?_
          · rintro e v94 ⟨A1, K1, D1, B1, L1, M1, rfl, C1, E1, hK1, hL1, hB⟩
            refine ⟨_, rfl, joinB hS hB, ?_⟩
            replace hS := joinB hS hB
            replace HB := joinB HB hB
            replace h0 := h0.keep hB
            replace e0 := e0.keep hB
            replace h1 := h1.keep hB
            replace e1 := e1.keep hB
            replace C0 := C0.keep hB
            replace E0 := E0.keep hB
            replace X5 := X5.keep hB
            replace X6 := X6.keep hB
            clear hB
            refine rg_ready [6] (by kernel_rfl) (by simp) ?_
            refine ar_store 6 30 30 5 8 (u0.drew.heap.size) [.slice none 0 0, .slice none 0 0] [.slice A0 K0 D0, .slice B0 L0 M0] (by kernel_rfl) (by kernel_rfl) (by kernel_rfl) (by kernel_rfl) X5 (by kernel_rfl) rfl (by kernel_rfl) ?_ ?_
            · intro v95 Y hw hB
              refine ⟨hS.trans (hB.mono hX5), ?_⟩
              replace HB := HB.trans (hB.mono (Nat.le_trans hBu hX5))
              replace hS := hS.trans (hB.mono hX5)
              replace h0 := h0.blk X5 (no_ints2 _ _ _ _ _ _) hw
              replace e0 := e0.blk X5 (no_ints2 _ _ _ _ _ _) hw
              replace h1 := h1.blk X5 (no_ints2 _ _ _ _ _ _) hw
              replace e1 := e1.blk X5 (no_ints2 _ _ _ _ _ _) hw
              replace C0 := C0.blk X5 (no_ints2 _ _ _ _ _ _) hw
              replace E0 := E0.blk X5 (no_ints2 _ _ _ _ _ _) hw
              replace C1 := C1.blk X5 (no_ints2 _ _ _ _ _ _) hw
              replace E1 := E1.blk X5 (no_ints2 _ _ _ _ _ _) hw
              replace X6 := X6.off (Ne.symm nX5X6) hw
              replace X5 := Y
              clear hB hw
              refine rg_ready [7] (by kernel_rfl) (by simp) ?_
              refine ar_store 7 30 30 6 10 (v88.heap.size) [.slice none 0 0, .slice none 0 0] [.slice A1 K1 D1, .slice B1 L1 M1] (by kernel_rfl) (by kernel_rfl) (by kernel_rfl) (by kernel_rfl) X6 (by kernel_rfl) rfl (by kernel_rfl) ?_ ?_
              · intro v96 Y hw hB
                refine ⟨hS.trans (hB.mono hX6), ?_⟩
                replace HB := HB.trans (hB.mono (Nat.le_trans hBu hX6))
                replace hS := hS.trans (hB.mono hX6)
                replace h0 := h0.blk X6 (no_ints2 _ _ _ _ _ _) hw
                replace e0 := e0.blk X6 (no_ints2 _ _ _ _ _ _) hw
                replace h1 := h1.blk X6 (no_ints2 _ _ _ _ _ _) hw
                replace e1 := e1.blk X6 (no_ints2 _ _ _ _ _ _) hw
                replace C0 := C0.blk X6 (no_ints2 _ _ _ _ _ _) hw
                replace E0 := E0.blk X6 (no_ints2 _ _ _ _ _ _) hw
                replace C1 := C1.blk X6 (no_ints2 _ _ _ _ _ _) hw
                replace E1 := E1.blk X6 (no_ints2 _ _ _ _ _ _) hw
                replace X5 := X5.off nX5X6 hw
                replace X6 := Y
                clear hB hw
                refine rg_done (by kernel_rfl) ?_
                exact ⟨(u0.drew.heap.size, v88.heap.size, A0, K0, D0, B0, L0, M0, A1, K1, D1, B1, L1, M1), by kernel_rfl, X5, X6, C0, E0, C1, E1, hK0, hL0, hK1, hL1, UX4.keep hS, Nat.lt_of_lt_of_le hX4u hX5, Nat.lt_of_lt_of_le hX4u hX6, HB⟩
              exact ar_nil
            exact ar_nil
          exact ar_nil
        exact ar_nil
      refine ar_alloc 5 (some 6) 30 [.slice none 0 0, .slice none 0 0] (by kernel_rfl) (by kernel_rfl) ?_ ?_
      · intro v97 X6 hB
        refine ⟨joinB hS hB, ?_⟩
        have hX6 := hS.size
        replace hS := joinB hS hB
        replace HB := joinB HB hB
        have nX5X6 := Nat.ne_of_lt X5.lt
        replace h0 := h0.keep hB
        replace e0 := e0.keep hB
        replace h1 := h1.keep hB
        replace e1 := e1.keep hB
        replace X5 := X5.keep hB
        clear hB
        refine rg_ready [1] (by kernel_rfl) (by simp) ?_
        refine ar_call 1 (some 8) 80 #[.agg #[.slice a0 n0 c0, .slice b0 m0 d0]] (by kernel_rfl) (by kernel_rfl) (qCounted h0 e0 (by omega) (by omega)) ?_ ?_
        · rintro e v98 ⟨A0, K0, D0, B0, L0, M0, rfl, C0, E0, hK0, hL0, hB⟩
          refine ⟨_, rfl, joinB hS hB, ?_⟩
          replace hS := joinB hS hB
          replace HB := joinB HB hB
          replace h0 := h0.keep hB
          replace e0 := e0.keep hB
          replace h1 := h1.keep hB
          replace e1 := e1.keep hB
          replace X5 := X5.keep hB
          replace X6 := X6.keep hB
          clear hB
          refine rg_ready [3] (by kernel_rfl) (by simp) ?_
          refine ar_call 3 (some 10) 80 #[.agg #[.slice a1 n1 c1, .slice b1 m1 d1]] (by kernel_rfl) (by kernel_rfl) (qCounted h1 e1 (by omega) (by omega)) ?_ ?_
          · rintro e v99 ⟨A1, K1, D1, B1, L1, M1, rfl, C1, E1, hK1, hL1, hB⟩
            refine ⟨_, rfl, joinB hS hB, ?_⟩
            replace hS := joinB hS hB
            replace HB := joinB HB hB
            replace h0 := h0.keep hB
            replace e0 := e0.keep hB
            replace h1 := h1.keep hB
            replace e1 := e1.keep hB
            replace C0 := C0.keep hB
            replace E0 := E0.keep hB
            replace X5 := X5.keep hB
            replace X6 := X6.keep hB
            clear hB
            refine rg_ready [6] (by kernel_rfl) (by simp) ?_
            refine ar_store 6 30 30 5 8 (u0.drew.heap.size) [.slice none 0 0, .slice none 0 0] [.slice A0 K0 D0, .slice B0 L0 M0] (by kernel_rfl) (by kernel_rfl) (by kernel_rfl) (by kernel_rfl) X5 (by kernel_rfl) rfl (by kernel_rfl) ?_ ?_
            · intro v100 Y hw hB
              refine ⟨hS.trans (hB.mono hX5), ?_⟩
              replace HB := HB.trans (hB.mono (Nat.le_trans hBu hX5))
              replace hS := hS.trans (hB.mono hX5)
              replace h0 := h0.blk X5 (no_ints2 _ _ _ _ _ _) hw
              replace e0 := e0.blk X5 (no_ints2 _ _ _ _ _ _) hw
              replace h1 := h1.blk X5 (no_ints2 _ _ _ _ _ _) hw
              replace e1 := e1.blk X5 (no_ints2 _ _ _ _ _ _) hw
              replace C0 := C0.blk X5 (no_ints2 _ _ _ _ _ _) hw
              replace E0 := E0.blk X5 (no_ints2 _ _ _ _ _ _) hw
              replace C1 := C1.blk X5 (no_ints2 _ _ _ _ _ _) hw
              replace E1 := E1.blk X5 (no_ints2 _ _ _ _ _ _) hw
              replace X6 := X6.off (Ne.symm nX5X6) hw
              replace X5 := Y
              clear hB hw
              refine rg_ready [7] (by kernel_rfl) (by simp) ?_
              refine ar_store 7 30 30 6 10 (v87.heap.size) [.slice none 0 0, .slice none 0 0] [.slice A1 K1 D1, .slice B1 L1 M1] (by kernel_rfl) (by kernel_rfl) (by kernel_rfl) (by kernel_rfl) X6 (by kernel_rfl) rfl (by kernel_rfl) ?_ ?_
              · intro v101 Y hw hB
                refine ⟨hS.trans (hB.mono hX6), ?_⟩
                replace HB := HB.trans (hB.mono (Nat.le_trans hBu hX6))
                replace hS := hS.trans (hB.mono hX6)
                replace h0 := h0.blk X6 (no_ints2 _ _ _ _ _ _) hw
                replace e0 := e0.blk X6 (no_ints2 _ _ _ _ _ _) hw
                replace h1 := h1.blk X6 (no_ints2 _ _ _ _ _ _) hw
                replace e1 := e1.blk X6 (no_ints2 _ _ _ _ _ _) hw
                replace C0 := C0.blk X6 (no_ints2 _ _ _ _ _ _) hw
                replace E0 := E0.blk X6 (no_ints2 _ _ _ _ _ _) hw
                replace C1 := C1.blk X6 (no_ints2 _ _ _ _ _ _) hw
                replace E1 := E1.blk X6 (no_ints2 _ _ _ _ _ _) hw
                replace X5 := X5.off nX5X6 hw
                replace X6 := Y
                clear hB hw
                refine rg_done (by kernel_rfl) ?_
                exact ⟨(u0.drew.heap.size, v87.heap.size, A0, K0, D0, B0, L0, M0, A1, K1, D1, B1, L1, M1), by kernel_rfl, X5, X6, C0, E0, C1, E1, hK0, hL0, hK1, hL1, UX4.keep hS, Nat.lt_of_lt_of_le hX4u hX5, Nat.lt_of_lt_of_le hX4u hX6, HB⟩
              exact ar_nil
            exact ar_nil
          exact ar_nil
        exact ar_nil
      exact ar_nil
    refine ar_alloc 5 (some 6) 30 [.slice none 0 0, .slice none 0 0] (by kernel_rfl) (by kernel_rfl) ?_ ?_
    · intro v102 X6 hB
      refine ⟨joinB hS hB, ?_⟩
      have hX6 := hS.size
      replace hS := joinB hS hB
      replace HB := joinB HB hB
      replace h0 := h0.keep hB
      replace e0 := e0.keep hB
      replace h1 := h1.keep hB
      replace e1 := e1.keep hB
      clear hB
      refine rg_ready [1, 4] (by kernel_rfl) (by simp) ?_
      refine ar_call 1 (some 8) 80 #[.agg #[.slice a0 n0 c0, .slice b0 m0 d0]] (by kernel_rfl) (by kernel_rfl) (qCounted h0 e0 (by omega) (by omega)) ?_ ?_
      · rintro e v103 ⟨A0, K0, D0, B0, L0, M0, rfl, C0, E0, hK0, hL0, hB⟩
        refine ⟨_, rfl, joinB hS hB, ?_⟩
        replace hS := joinB hS hB
        replace HB := joinB HB hB
        replace h0 := h0.keep hB
        replace e0 := e0.keep hB
        replace h1 := h1.keep hB
        replace e1 := e1.keep hB
        replace X6 := X6.keep hB
        clear hB
        refine rg_ready [3, 4] (by kernel_rfl) (by simp) ?_
        refine ar_call 3 (some 10) 80 #[.agg #[.slice a1 n1 c1, .slice b1 m1 d1]] (by kernel_rfl) (by kernel_rfl) (qCounted h1 e1 (by omega) (by omega)) ?_ ?_
        · rintro e v104 ⟨A1, K1, D1, B1, L1, M1, rfl, C1, E1, hK1, hL1, hB⟩
          refine ⟨_, rfl, joinB hS hB, ?_⟩
          replace hS := joinB hS hB
          replace HB := joinB HB hB
          replace h0 := h0.keep hB
          replace e0 := e0.keep hB
          replace h1 := h1.keep hB
          replace e1 := e1.keep hB
          replace C0 := C0.keep hB
          replace E0 := E0.keep hB
          replace X6 := X6.keep hB
          clear hB
          refine rg_ready [4] (by kernel_rfl) (by simp) ?_
          refine ar_alloc 4 (some 5) 30 [.slice none 0 0, .slice none 0 0] (by kernel_rfl) (by kernel_rfl) ?_ ?_
          · intro v105 X5 hB
            refine ⟨joinB hS hB, ?_⟩
            have hX5 := hS.size
            replace hS := joinB hS hB
            replace HB := joinB HB hB
            have nX6X5 := Nat.ne_of_lt X6.lt
            replace h0 := h0.keep hB
            replace e0 := e0.keep hB
            replace h1 := h1.keep hB
            replace e1 := e1.keep hB
            replace C0 := C0.keep hB
            replace E0 := E0.keep hB
            replace C1 := C1.keep hB
            replace E1 := E1.keep hB
            replace X6 := X6.keep hB
            clear hB
            refine rg_ready [6] (by kernel_rfl) (by simp) ?_
            refine ar_store 6 30 30 5 8 (v104.heap.size) [.slice none 0 0, .slice none 0 0] [.slice A0 K0 D0, .slice B0 L0 M0] (by kernel_rfl) (by kernel_rfl) (by kernel_rfl) (by kernel_rfl) X5 (by kernel_rfl) rfl (by kernel_rfl) ?_ ?_
            · intro v106 Y hw hB
              refine ⟨hS.trans (hB.mono hX5), ?_⟩
              replace HB := HB.trans (hB.mono (Nat.le_trans hBu hX5))
              replace hS := hS.trans (hB.mono hX5)
              replace h0 := h0.blk X5 (no_ints2 _ _ _ _ _ _) hw
              replace e0 := e0.blk X5 (no_ints2 _ _ _ _ _ _) hw
              replace h1 := h1.blk X5 (no_ints2 _ _ _ _ _ _) hw
              replace e1 := e1.blk X5 (no_ints2 _ _ _ _ _ _) hw
              replace C0 := C0.blk X5 (no_ints2 _ _ _ _ _ _) hw
              replace E0 := E0.blk X5 (no_ints2 _ _ _ _ _ _) hw
              replace C1 := C1.blk X5 (no_ints2 _ _ _ _ _ _) hw
              replace E1 := E1.blk X5 (no_ints2 _ _ _ _ _ _) hw
              replace X6 := X6.off nX6X5 hw
              replace X5 := Y
              clear hB hw
              refine rg_ready [7] (by kernel_rfl) (by simp) ?_
              refine ar_store 7 30 30 6 10 (u0.drew.heap.size) [.slice none 0 0, .slice none 0 0] [.slice A1 K1 D1, .slice B1 L1 M1] (by kernel_rfl) (by kernel_rfl) (by kernel_rfl) (by kernel_rfl) X6 (by kernel_rfl) rfl (by kernel_rfl) ?_ ?_
              · intro v107 Y hw hB
                refine ⟨hS.trans (hB.mono hX6), ?_⟩
                replace HB := HB.trans (hB.mono (Nat.le_trans hBu hX6))
                replace hS := hS.trans (hB.mono hX6)
                replace h0 := h0.blk X6 (no_ints2 _ _ _ _ _ _) hw
                replace e0 := e0.blk X6 (no_ints2 _ _ _ _ _ _) hw
                replace h1 := h1.blk X6 (no_ints2 _ _ _ _ _ _) hw
                replace e1 := e1.blk X6 (no_ints2 _ _ _ _ _ _) hw
                replace C0 := C0.blk X6 (no_ints2 _ _ _ _ _ _) hw
                replace E0 := E0.blk X6 (no_ints2 _ _ _ _ _ _) hw
                replace C1 := C1.blk X6 (no_ints2 _ _ _ _ _ _) hw
                replace E1 := E1.blk X6 (no_ints2 _ _ _ _ _ _) hw
                replace X5 := X5.off (Ne.symm nX6X5) hw
                replace X6 := Y
                clear hB hw
                refine rg_done (by kernel_rfl) ?_
                exact ⟨(v104.heap.size, u0.drew.heap.size, A0, K0, D0, B0, L0, M0, A1, K1, D1, B1, L1, M1), by kernel_rfl, X5, X6, C0, E0, C1, E1, hK0, hL0, hK1, hL1, UX4.keep hS, Nat.lt_of_lt_of_le hX4u hX5, Nat.lt_of_lt_of_le hX4u hX6, HB⟩
              exact ar_nil
            exact ar_nil
          exact ar_nil
        refine ar_alloc 4 (some 5) 30 [.slice none 0 0, .slice none 0 0] (by kernel_rfl) (by kernel_rfl) ?_ ?_
        · intro v108 X5 hB
          refine ⟨joinB hS hB, ?_⟩
          have hX5 := hS.size
          replace hS := joinB hS hB
          replace HB := joinB HB hB
          have nX6X5 := Nat.ne_of_lt X6.lt
          replace h0 := h0.keep hB
          replace e0 := e0.keep hB
          replace h1 := h1.keep hB
          replace e1 := e1.keep hB
          replace C0 := C0.keep hB
          replace E0 := E0.keep hB
          replace X6 := X6.keep hB
          clear hB
          refine rg_ready [3] (by kernel_rfl) (by simp) ?_
          refine ar_call 3 (some 10) 80 #[.agg #[.slice a1 n1 c1, .slice b1 m1 d1]] (by kernel_rfl) (by kernel_rfl) (qCounted h1 e1 (by omega) (by omega)) ?_ ?_
          · rintro e v109 ⟨A1, K1, D1, B1, L1, M1, rfl, C1, E1, hK1, hL1, hB⟩
            refine ⟨_, rfl, joinB hS hB, ?_⟩
            replace hS := joinB hS hB
            replace HB := joinB HB hB
            replace h0 := h0.keep hB
            replace e0 := e0.keep hB
            replace h1 := h1.keep hB
            replace e1 := e1.keep hB
            replace C0 := C0.keep hB
            replace E0 := E0.keep hB
            replace X6 := X6.keep hB
            replace X5 := X5.keep hB
            clear hB
            refine rg_ready [6] (by kernel_rfl) (by simp) ?_
            refine ar_store 6 30 30 5 8 (v103.heap.size) [.slice none 0 0, .slice none 0 0] [.slice A0 K0 D0, .slice B0 L0 M0] (by kernel_rfl) (by kernel_rfl) (by kernel_rfl) (by kernel_rfl) X5 (by kernel_rfl) rfl (by kernel_rfl) ?_ ?_
            · intro v110 Y hw hB
              refine ⟨hS.trans (hB.mono hX5), ?_⟩
              replace HB := HB.trans (hB.mono (Nat.le_trans hBu hX5))
              replace hS := hS.trans (hB.mono hX5)
              replace h0 := h0.blk X5 (no_ints2 _ _ _ _ _ _) hw
              replace e0 := e0.blk X5 (no_ints2 _ _ _ _ _ _) hw
              replace h1 := h1.blk X5 (no_ints2 _ _ _ _ _ _) hw
              replace e1 := e1.blk X5 (no_ints2 _ _ _ _ _ _) hw
              replace C0 := C0.blk X5 (no_ints2 _ _ _ _ _ _) hw
              replace E0 := E0.blk X5 (no_ints2 _ _ _ _ _ _) hw
              replace C1 := C1.blk X5 (no_ints2 _ _ _ _ _ _) hw
              replace E1 := E1.blk X5 (no_ints2 _ _ _ _ _ _) hw
              replace X6 := X6.off nX6X5 hw
              replace X5 := Y
              clear hB hw
              refine rg_ready [7] (by kernel_rfl) (by simp) ?_
              refine ar_store 7 30 30 6 10 (u0.drew.heap.size) [.slice none 0 0, .slice none 0 0] [.slice A1 K1 D1, .slice B1 L1 M1] (by kernel_rfl) (by kernel_rfl) (by kernel_rfl) (by kernel_rfl) X6 (by kernel_rfl) rfl (by kernel_rfl) ?_ ?_
              · intro v111 Y hw hB
                refine ⟨hS.trans (hB.mono hX6), ?_⟩
                replace HB := HB.trans (hB.mono (Nat.le_trans hBu hX6))
                replace hS := hS.trans (hB.mono hX6)
                replace h0 := h0.blk X6 (no_ints2 _ _ _ _ _ _) hw
                replace e0 := e0.blk X6 (no_ints2 _ _ _ _ _ _) hw
                replace h1 := h1.blk X6 (no_ints2 _ _ _ _ _ _) hw
                replace e1 := e1.blk X6 (no_ints2 _ _ _ _ _ _) hw
                replace C0 := C0.blk X6 (no_ints2 _ _ _ _ _ _) hw
                replace E0 := E0.blk X6 (no_ints2 _ _ _ _ _ _) hw
                replace C1 := C1.blk X6 (no_ints2 _ _ _ _ _ _) hw
                replace E1 := E1.blk X6 (no_ints2 _ _ _ _ _ _) hw
                replace X5 := X5.off (Ne.symm nX6X5) hw
                replace X6 := Y
                clear hB hw
                refine rg_done (by kernel_rfl) ?_
                exact ⟨(v103.heap.size, u0.drew.heap.size, A0, K0, D0, B0, L0, M0, A1, K1, D1, B1, L1, M1), by kernel_rfl, X5, X6, C0, E0, C1, E1, hK0, hL0, hK1, hL1, UX4.keep hS, Nat.lt_of_lt_of_le hX4u hX5, Nat.lt_of_lt_of_le hX4u hX6, HB⟩
              exact ar_nil
            exact ar_nil
          exact ar_nil
        exact ar_nil
      refine ar_alloc 4 (some 5) 30 [.slice none 0 0, .slice none 0 0] (by kernel_rfl) (by kernel_rfl) ?_ ?_
      · intro v112 X5 hB
        refine ⟨joinB hS hB, ?_⟩
        have hX5 := hS.size
        replace hS := joinB hS hB
        replace HB := joinB HB hB
        have nX6X5 := Nat.ne_of_lt X6.lt
        replace h0 := h0.keep hB
        replace e0 := e0.keep hB
        replace h1 := h1.keep hB
        replace e1 := e1.keep hB
        replace X6 := X6.keep hB
        clear hB
        refine rg_ready [1] (by kernel_rfl) (by simp) ?_
        refine ar_call 1 (some 8) 80 #[.agg #[.slice a0 n0 c0, .slice b0 m0 d0]] (by kernel_rfl) (by kernel_rfl) (qCounted h0 e0 (by omega) (by omega)) ?_ ?_
        · rintro e v113 ⟨A0, K0, D0, B0, L0, M0, rfl, C0, E0, hK0, hL0, hB⟩
          refine ⟨_, rfl, joinB hS hB, ?_⟩
          replace hS := joinB hS hB
          replace HB := joinB HB hB
          replace h0 := h0.keep hB
          replace e0 := e0.keep hB
          replace h1 := h1.keep hB
          replace e1 := e1.keep hB
          replace X6 := X6.keep hB
          replace X5 := X5.keep hB
          clear hB
          refine rg_ready [3] (by kernel_rfl) (by simp) ?_
          refine ar_call 3 (some 10) 80 #[.agg #[.slice a1 n1 c1, .slice b1 m1 d1]] (by kernel_rfl) (by kernel_rfl) (qCounted h1 e1 (by omega) (by omega)) ?_ ?_
          · rintro e v114 ⟨A1, K1, D1, B1, L1, M1, rfl, C1, E1, hK1, hL1, hB⟩
            refine ⟨_, rfl, joinB hS hB, ?_⟩
            replace hS := joinB hS hB
            replace HB := joinB HB hB
            replace h0 := h0.keep hB
            replace e0 := e0.keep hB
            replace h1 := h1.keep hB
            replace e1 := e1.keep hB
            replace C0 := C0.keep hB
            replace E0 := E0.keep hB
            replace X6 := X6.keep hB
            replace X5 := X5.keep hB
            clear hB
            refine rg_ready [6] (by kernel_rfl) (by simp) ?_
            refine ar_store 6 30 30 5 8 (v102.heap.size) [.slice none 0 0, .slice none 0 0] [.slice A0 K0 D0, .slice B0 L0 M0] (by kernel_rfl) (by kernel_rfl) (by kernel_rfl) (by kernel_rfl) X5 (by kernel_rfl) rfl (by kernel_rfl) ?_ ?_
            · intro v115 Y hw hB
              refine ⟨hS.trans (hB.mono hX5), ?_⟩
              replace HB := HB.trans (hB.mono (Nat.le_trans hBu hX5))
              replace hS := hS.trans (hB.mono hX5)
              replace h0 := h0.blk X5 (no_ints2 _ _ _ _ _ _) hw
              replace e0 := e0.blk X5 (no_ints2 _ _ _ _ _ _) hw
              replace h1 := h1.blk X5 (no_ints2 _ _ _ _ _ _) hw
              replace e1 := e1.blk X5 (no_ints2 _ _ _ _ _ _) hw
              replace C0 := C0.blk X5 (no_ints2 _ _ _ _ _ _) hw
              replace E0 := E0.blk X5 (no_ints2 _ _ _ _ _ _) hw
              replace C1 := C1.blk X5 (no_ints2 _ _ _ _ _ _) hw
              replace E1 := E1.blk X5 (no_ints2 _ _ _ _ _ _) hw
              replace X6 := X6.off nX6X5 hw
              replace X5 := Y
              clear hB hw
              refine rg_ready [7] (by kernel_rfl) (by simp) ?_
              refine ar_store 7 30 30 6 10 (u0.drew.heap.size) [.slice none 0 0, .slice none 0 0] [.slice A1 K1 D1, .slice B1 L1 M1] (by kernel_rfl) (by kernel_rfl) (by kernel_rfl) (by kernel_rfl) X6 (by kernel_rfl) rfl (by kernel_rfl) ?_ ?_
              · intro v116 Y hw hB
                refine ⟨hS.trans (hB.mono hX6), ?_⟩
                replace HB := HB.trans (hB.mono (Nat.le_trans hBu hX6))
                replace hS := hS.trans (hB.mono hX6)
                replace h0 := h0.blk X6 (no_ints2 _ _ _ _ _ _) hw
                replace e0 := e0.blk X6 (no_ints2 _ _ _ _ _ _) hw
                replace h1 := h1.blk X6 (no_ints2 _ _ _ _ _ _) hw
                replace e1 := e1.blk X6 (no_ints2 _ _ _ _ _ _) hw
                replace C0 := C0.blk X6 (no_ints2 _ _ _ _ _ _) hw
                replace E0 := E0.blk X6 (no_ints2 _ _ _ _ _ _) hw
                replace C1 := C1.blk X6 (no_ints2 _ _ _ _ _ _) hw
                replace E1 := E1.blk X6 (no_ints2 _ _ _ _ _ _) hw
                replace X5 := X5.off (Ne.symm nX6X5) hw
                replace X6 := Y
                clear hB hw
                refine rg_done (by kernel_rfl) ?_
                exact ⟨(v102.heap.size, u0.drew.heap.size, A0, K0, D0, B0, L0, M0, A1, K1, D1, B1, L1, M1), by kernel_rfl, X5, X6, C0, E0, C1, E1, hK0, hL0, hK1, hL1, UX4.keep hS, Nat.lt_of_lt_of_le hX4u hX5, Nat.lt_of_lt_of_le hX4u hX6, HB⟩
              exact ar_nil
            exact ar_nil
          exact ar_nil
        exact ar_nil
      exact ar_nil
    exact ar_nil
  · rintro ⟨g5, g6, A0, K0, D0, B0, L0, M0, A1, K1, D1, B1, L1, M1⟩ u1 ⟨X5, X6, C0, E0, C1, E1, hK0, hL0, hK1, hL1, X4n, hg5, hg6, HBn⟩
    replace HB := HBn
    clear HBn h0 e0 h1 e1 P0 P1 X4
    try simp only [putAll, Act.put, List.setIfInBounds_toArray, List.set_cons_zero, List.set_cons_succ]
    go_wp2_with fail
    refine rg_start (S := fun w' => Box w' g5 [.slice A0 K0 D0, .slice B0 L0 M0] 30 ∧ Box w' g6 [.slice A1 K1 D1, .slice B1 L1 M1] 30) (by kernel_rfl) ⟨X5.drew, X6.drew⟩ ?_
    replace C0 := C0.drew
    replace E0 := E0.drew
    replace C1 := C1.drew
    replace E1 := E1.drew
    replace X4n := X4n.drew
    replace HB := HB.drew
    have hS := (show _ ∧ _ from ⟨X5.drew, X6.drew⟩)
    have X4 := X4n
    clear X4n X5 X6
    refine rg_take 0 (some 11) (.pointer (some ⟨g5, 0, none⟩)) (by kernel_rfl) (fun _ _ => by kernel_rfl) (fun _ _ _ h => h) hS ?_
    refine rg_load 1 (some 12) (.slice A0 K0 D0) 28 11 (g5) 0 (by kernel_rfl) (by kernel_rfl) (by kernel_rfl) (fun _ hs => load_at (hs.1.cells2.1)) (fun _ _ _ h => h) hS ?_
    refine rg_take 2 (some 13) (.pointer (some ⟨g6, 0, none⟩)) (by kernel_rfl) (fun _ _ => by kernel_rfl) (fun _ _ _ h => h) hS ?_
    refine rg_load 3 (some 14) (.slice A1 K1 D1) 28 13 (g6) 0 (by kernel_rfl) (by kernel_rfl) (by kernel_rfl) (fun _ hs => load_at (hs.2.cells2.1)) (fun _ _ _ h => h) hS ?_
    refine rg_take 5 (some 16) (.pointer (some ⟨g5, 1, none⟩)) (by kernel_rfl) (fun _ _ => by kernel_rfl) (fun _ _ _ h => h) hS ?_
    refine rg_load 6 (some 17) (.slice B0 L0 M0) 28 16 (g5) 1 (by kernel_rfl) (by kernel_rfl) (by kernel_rfl) (fun _ hs => load_at (hs.1.cells2.2.1)) (fun _ _ _ h => h) hS ?_
    refine rg_take 7 (some 18) (.pointer (some ⟨g6, 1, none⟩)) (by kernel_rfl) (fun _ _ => by kernel_rfl) (fun _ _ _ h => h) hS ?_
    refine rg_load 8 (some 19) (.slice B1 L1 M1) 28 18 (g6) 1 (by kernel_rfl) (by kernel_rfl) (by kernel_rfl) (fun _ hs => load_at (hs.2.cells2.2.1)) (fun _ _ _ h => h) hS ?_
    refine rg_call 4 (some 15) 82 #[.slice A0 K0 D0, .slice A1 K1 D1] (by kernel_rfl) (by kernel_rfl) (nMul C0 C1 (by omega) (by omega)) ?_
    rintro e z1 ⟨Ap, Kp, Dp, rfl, Op1, hkp, hB⟩
    refine ⟨_, rfl, ⟨hS.1.keep hB, hS.2.keep hB⟩, ?_⟩
    replace hS := (show _ ∧ _ from ⟨hS.1.keep hB, hS.2.keep hB⟩)
    replace C0 := C0.keep hB
    replace E0 := E0.keep hB
    replace C1 := C1.keep hB
    replace E1 := E1.keep hB
    replace X4 := X4.keep hB
    replace HB := joinB HB hB
    clear hB
    refine rg_call 9 (some 20) 82 #[.slice B0 L0 M0, .slice B1 L1 M1] (by kernel_rfl) (by kernel_rfl) (nMul E0 E1 (by omega) (by omega)) ?_
    rintro e z2 ⟨Aq, Kq, Dq, rfl, Op2, hkq, hB⟩
    refine ⟨_, rfl, ⟨hS.1.keep hB, hS.2.keep hB⟩, ?_⟩
    replace hS := (show _ ∧ _ from ⟨hS.1.keep hB, hS.2.keep hB⟩)
    replace C0 := C0.keep hB
    replace E0 := E0.keep hB
    replace C1 := C1.keep hB
    replace E1 := E1.keep hB
    replace X4 := X4.keep hB
    replace Op1 := Op1.keep hB
    replace HB := joinB HB hB
    clear hB
    refine rg_call 10 (some 21) 87 #[.slice Ap Kp Dp, .slice Aq Kq Dq] (by kernel_rfl) (by kernel_rfl) (qReduced Op1.a Op2.a (by omega) (by omega) (Int.mul_ne_zero (cd_ne _) (cd_ne _))) ?_
    rintro e z3 ⟨Ar, Kr, Dr, As', Ks, Ds, rfl, Or1, Or2, hkr, hks, hB⟩
    refine ⟨_, rfl, ⟨hS.1.keep hB, hS.2.keep hB⟩, ?_⟩
    replace hS := (show _ ∧ _ from ⟨hS.1.keep hB, hS.2.keep hB⟩)
    replace C0 := C0.keep hB
    replace E0 := E0.keep hB
    replace C1 := C1.keep hB
    replace E1 := E1.keep hB
    replace X4 := X4.keep hB
    replace Op1 := Op1.keep hB
    replace Op2 := Op2.keep hB
    replace HB := joinB HB hB
    clear hB
    refine rg_ready [11] (by kernel_rfl) (by simp) ?_
    refine ar_store 11 30 30 4 21 (w.heap.size + 1 + 1) [.slice none 0 0, .slice none 0 0] [.slice Ar Kr Dr, .slice As' Ks Ds] (by kernel_rfl) (by kernel_rfl) (by kernel_rfl) (by kernel_rfl) X4 (by kernel_rfl) rfl (by kernel_rfl) ?_ ar_nil
    intro z4 Y hw hB
    refine ⟨⟨hS.1.off (by omega) hw, hS.2.off (by omega) hw⟩, ?_⟩
    replace hS := (show _ ∧ _ from ⟨hS.1.off (by omega) hw, hS.2.off (by omega) hw⟩)
    replace HB := HB.trans (hB.mono (by omega))
    replace C0 := C0.blk X4 (no_ints2 _ _ _ _ _ _) hw
    replace E0 := E0.blk X4 (no_ints2 _ _ _ _ _ _) hw
    replace C1 := C1.blk X4 (no_ints2 _ _ _ _ _ _) hw
    replace E1 := E1.blk X4 (no_ints2 _ _ _ _ _ _) hw
    skip
    replace Op1 := Op1.blk X4 (no_ints2 _ _ _ _ _ _) hw
    replace Op2 := Op2.blk X4 (no_ints2 _ _ _ _ _ _) hw
    replace Or1 := Or1.blk X4 (no_ints2 _ _ _ _ _ _) hw
    replace Or2 := Or2.blk X4 (no_ints2 _ _ _ _ _ _) hw
    replace X4 := Y
    clear hB hw
    refine rg_done (by kernel_rfl) ?_
    try simp only [Act.put, List.setIfInBounds_toArray, List.set_cons_zero, List.set_cons_succ]
    go_wp2
    refine bodyPost_ret (ret_rat rfl rfl X4) rfl ?_
    exact ⟨_, _, _, _, _, _, rfl, Or1, Or2, by omega, by omega, HB⟩
end Go.Proofs.YtjihgkanbhccpaaGreatDoor
