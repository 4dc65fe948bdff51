/- gleanlaw2.DecParts returns true for all decimals and all lists of numbers. -/
import Derived.Test.YtiglmhibnenhdaaGreatDoorBitD
import Derived.Test.YtiglmhibnenhdaaGreatDoorSmallD
namespace Go.Proofs.YtiglmhibnenhdaaGreatDoor
namespace decParts
open Go.RowKit Lim

set_option maxHeartbeats 8000000 in
set_option maxRecDepth 100000 in
theorem walk (a0 : Option Addr) (len0 cap0 : Nat) (z0 : List Int) (a1 : Option Addr) (len1 cap1 : Nat) (z1 : List Int) (w : World) (w0 : IsRow w a0 len0 cap0 z0) (w1 : IsRow w a1 len1 cap1 z1) :
    Calls Tryz.prog 5 #[.agg #[.slice a0 len0 cap0], .slice a1 len1 cap1] w fun e w' => e = .returned (.bool true) ∧ Below w.heap.size w w' := by
  obtain ⟨b0, o0, l0, hl0, hc0, hm0, W0, h0⟩ := w0.open
  have N0 : NatA w a0 len0 cap0 (val l0) := ⟨b0, o0, l0, hl0, hc0, W0, h0, rfl⟩
  have v0 := val_nonneg W0
  clear h0 w0
  obtain ⟨b1, o1, l1, hl1, hc1, hm1, W1, h1⟩ := w1.open
  clear w1
  have HB := below_alloc w (.cells #[.slice a0 len0 cap0] 25)
  have P0 := slot_new w (.slice a0 len0 cap0) 25
  have N0 := N0.keep HB
  have h1 := h1.keep HB
  go_enter Tryz.func5, Tryz.ntmps5
  go_wp2_with fail
  generalize w.alloc (.cells #[.slice a0 len0 cap0] 25) = u0 at *
  refine (knownD u0).mono ?_
  rintro e u1 ⟨rfl, hB⟩
  have N0 := N0.keep hB
  have h1 := h1.keep hB
  have P0 := P0.keep hB
  have c_P0 := P0.cell
  have HB := joinB HB hB
  clear hB
  have b1 := below_alloc u1 (.cells #[.slice a0 len0 cap0] 25)
  have tS := smallD_any [(a0, len0, cap0)] u1.heap.size 1 1 (u1.alloc (.cells #[.slice a0 len0 cap0] 25)) rfl (by decide)
    (fun i => by
      match i with
      | 0 => exact hm0
      | _ + 1 => exact Nat.zero_le _)
    (fun i hi => by
      rw [cell_new]
      match i, hi with
      | 0, _ => rfl)
  go_wp2_with fail
  refine tS.mono ?_
  rintro e u2 ⟨rfl, rfl⟩
  clear tS
  have N0 := N0.keep b1
  have h1 := h1.keep b1
  have P0 := P0.keep b1
  have c_P0 := P0.cell
  have HB := joinB HB b1
  clear b1
  generalize u1.alloc (.cells #[.slice a0 len0 cap0] 25) = u2 at *
  generalize u1.heap.size = gs at *
  by_cases hsm : smallD [(a0, len0, cap0)] = true
  rotate_left
  · have hsf : smallD [(a0, len0, cap0)] = false := by rw [Bool.not_eq_true] at hsm; exact hsm
    rw [hsf]
    go_wp2
    go_ret
    exact ⟨rfl, HB⟩
  rw [hsm]
  simp only [smallD, List.all_cons, List.all_nil, Bool.and_true, decide_eq_true_eq] at hsm
  have hs0 := hsm
  clear hsm
  by_cases h20 : 20 < len1
  · have h20' : (20 : Int) < (len1 : Int) := by omega
    go_wp2
    go_ret
    exact ⟨rfl, HB⟩
  have h20' : (len1 : Int) ≤ 20 := by omega
  have BA := below_alloc u2 (.cells #[.slice none 0 0] 25)
  have Pall := slot_new u2 (.slice none 0 0) 25
  have hgl := P0.lt
  have N0 := N0.keep BA
  have P0 := P0.keep BA
  have h1 := h1.keep BA
  have c_P0 := P0.cell
  have HB := joinB HB BA
  clear BA
  go_wp2_with fail
  generalize u2.alloc (.cells #[.slice none 0 0] 25) = v0 at *
  generalize u2.heap.size = gall at *
  go_loopw [6] (fun ti wr => ∃ (k : Nat) (A : Option Addr) (K E : Nat), k ≤ len1 ∧ ti = .int .i64 k ∧ Slot wr gall (.slice A K E) 25 ∧ NatO wr A K E (psum l1 k * U36) ∧ K ≤ 50 * k ∧ NatA wr a0 len0 cap0 (val l0) ∧ Slot wr w.heap.size (.slice a0 len0 cap0) 25 ∧ At wr a1 b1 o1 l1 ∧ Below w.heap.size w wr) (fun ti _ => len1 - (intOf ti).toNat)
  case atStart => exact ⟨0, none, 0, 0, Nat.zero_le _, rfl, Pall, (natO_nil _).eqv (by simp [psum]), by omega, N0, P0, h1, HB⟩
  case round =>
    clear N0 P0 h1 HB Pall
    obtain ⟨k, A, K, E, hk, rfl, Pall, Oall, hK, N0, P0, h1, HB⟩ := hrel
    by_cases hlt : k < len1
    · obtain rfl : a1 = some ⟨b1, o1, none⟩ := by
        rcases h1.loc with e | e
        · rw [e] at hl1; simp at hl1; omega
        · exact e
      have hk0 : (k : Int) < len1 := by omega
      have hcx := h1.cell k (by omega)
      have hx := W1.nth k
      have hps : psum l1 k + nth l1 k = psum l1 (k + 1) := rfl
      have HPS := (show Hid _ from hps)
      clear hps
      obtain ⟨y, hy⟩ : ∃ y, nth l1 k = y := ⟨_, rfl⟩
      have HY := (show Hid _ from hy)
      rw [hy] at hcx hx
      rw [hy] at HPS
      clear hy
      have c_Pall := Pall.cell
      have mark0 : True := trivial
      go_wp2_with fail
      go_region_with
        (first
        | (go_at_call 17; refine (dOf (x := y) hx.1 hx.2).mono ?_; rintro e x1 ⟨A1, K1, E1, rfl, O1, hk1, hB⟩; have Pall := Pall.drew.keep hB; have Oall := Oall.drew.keep hB; have N0 := N0.drew.keep hB; have P0 := P0.drew.keep hB; have h1 := h1.drew.keep hB; have hcx : x1.cell? ⟨b1, o1 + k, none⟩ = some (.int .u64 y) := (cellY h1 HY.out (by omega)); have c_Pall := Pall.cell; have HB := joinB HB.drew hB; clear hB)
        | (go_at_call 13; refine (dAdd Oall.a O1.a (by omega) (by omega)).mono ?_; rintro e x2 ⟨A2, K2, E2, rfl, O2, hk2, hB⟩; have Pall := Pall.keep hB; have N0 := N0.keep hB; have P0 := P0.keep hB; have h1 := h1.keep hB; have hcx : x2.cell? ⟨b1, o1 + k, none⟩ = some (.int .u64 y) := (cellY h1 HY.out (by omega)); have c_Pall := Pall.cell; have f_Pall := Pall.free; have HB := joinB HB hB; have hcy : (x2.setCell ⟨gall, 0, none⟩ (.slice A2 K2 E2)).cell? ⟨b1, o1 + k, none⟩ = some (.int .u64 y) := (cellY (h1.put Pall not_int _) HY.out (by omega)); clear hB))
      all_goals go_wp2
      all_goals (
        go_roundw
        case rel => exact ⟨k + 1, A2, K2, E2, by omega, by go_num, Pall.put _, (O2.eqv (by rw [← HPS.out, Int.add_mul])).put Pall not_int _, by omega, N0.put Pall not_int _, P0.other (by omega) _, h1.put Pall not_int _, HB.setCell (p := ⟨gall, 0, none⟩) (by show w.heap.size ≤ gall; omega) _⟩
        case measure => simp [intOf]; omega)
    · have hkn : len1 = k := by omega
      subst hkn
      have c_Pall := Pall.cell
      have c_P0 := P0.cell
      have hT0 := psum_nonneg W1 len1
      have tZ := dZero Oall.a (by omega)
      by_cases hT : psum l1 len1 = 0
      · rw [decide_eq_true (by rw [hT]; rfl)] at tZ
        clear hT
        go_wp2_with fail
        refine tZ.mono ?_
        rintro e x1 ⟨rfl, hB⟩
        go_wp2
        go_ret
        exact ⟨rfl, joinB HB hB⟩
      have hTU : psum l1 len1 * U36 ≠ 0 := fun h => by
        rcases Int.mul_eq_zero.1 h with e | e
        · exact hT e
        · exact absurd e (by decide)
      rw [decide_eq_false hTU] at tZ
      have HTU := (show Hid _ from hTU)
      have HTP := (show Hid (0 < psum l1 len1) from by show _ < _; omega)
      clear hT hTU hT0
      go_wp2_with fail
      refine (tZ).mono ?_
      rintro e x21 ⟨rfl, hB⟩
      have N0 := N0.keep hB
      have P0 := P0.keep hB
      have h1 := h1.keep hB
      have Pall := Pall.keep hB
      have Oall := Oall.keep hB
      have c_P0 := P0.cell
      have c_Pall := Pall.cell
      have HB := joinB HB hB
      clear hB
      clear tZ
      have hgl2 := Pall.lt
      have hgl3 := P0.lt
      have BA := below_alloc x21 (.cells #[.slice none 0 0] 25)
      have Psum := slot_new x21 (.slice none 0 0) 25
      have N0 := N0.keep BA
      have P0 := P0.keep BA
      have h1 := h1.keep BA
      have Pall := Pall.keep BA
      have Oall := Oall.keep BA
      have c_P0 := P0.cell
      have c_Pall := Pall.cell
      have HB := joinB HB BA
      clear BA
      go_wp2_with fail
      generalize x21.alloc (.cells #[.slice none 0 0] 25) = v2 at *
      generalize x21.heap.size = gsum at *
      go_loopw [8] (fun ti wr => ∃ (k : Nat) (A2 : Option Addr) (K2 E2 : Nat) (Q : Int), k ≤ len1 ∧ ti = .int .i64 k ∧ Slot wr gsum (.slice A2 K2 E2) 25 ∧ NatO wr A2 K2 E2 Q ∧ K2 ≤ 100 * k ∧ Hid (Q * psum l1 len1 ≤ val l0 * psum l1 k ∧ val l0 * psum l1 k ≤ Q * psum l1 len1 + k * (psum l1 len1 - 1)) ∧ NatA wr a0 len0 cap0 (val l0) ∧ Slot wr w.heap.size (.slice a0 len0 cap0) 25 ∧ At wr a1 b1 o1 l1 ∧ Slot wr gall (.slice A K E) 25 ∧ NatO wr A K E (psum l1 len1 * U36) ∧ Below w.heap.size w wr) (fun ti _ => len1 - (intOf ti).toNat)
      case atStart => exact ⟨0, none, 0, 0, 0, Nat.zero_le _, rfl, Psum, natO_nil _, by omega, by show _ ∧ _; simp [psum], N0, P0, h1, Pall, Oall, HB⟩
      case round =>
        clear N0 P0 h1 HB Pall Oall Psum
        obtain ⟨k, A2, K2, E2, Q, hk, rfl, Psum, Osum, hK2, HI, N0, P0, h1, Pall, Oall, HB⟩ := hrel
        by_cases hlt : k < len1
        · obtain rfl : a1 = some ⟨b1, o1, none⟩ := by
            rcases h1.loc with e | e
            · rw [e] at hl1; simp at hl1; omega
            · exact e
          have hk0 : (k : Int) < len1 := by omega
          have hcx := h1.cell k (by omega)
          have hx := W1.nth k
          obtain ⟨y, hy⟩ : ∃ y, nth l1 k = y := ⟨_, rfl⟩
          have HY := (show Hid _ from hy)
          have HST : Hid ((Q + val l0 * (y * U36) / (psum l1 len1 * U36)) * psum l1 len1 ≤ val l0 * psum l1 (k + 1) ∧ val l0 * psum l1 (k + 1) ≤ (Q + val l0 * (y * U36) / (psum l1 len1 * U36)) * psum l1 len1 + ((k + 1 : Nat) : Int) * (psum l1 len1 - 1)) := by
            have := parts_step HTP.out HI.out.1 HI.out.2 (val l0) y (psum l1 k) (show psum l1 (k + 1) = psum l1 k + y by rw [← hy]; rfl) rfl rfl
            exact this
          rw [hy] at hcx hx
          clear hy HI
          have c_P0 := P0.cell
          have c_Pall := Pall.cell
          have c_Psum := Psum.cell
          go_wp2_with fail
          apply mid4 (F := fun g ea1 ek1 ed1 ea2 ek2 ed2 ea3 ek3 ed3 ea4 ek4 ed4 w' => Slot w' g (.slice ea4 ek4 ed4) 25 ∧ NatO w' ea4 ek4 ed4 (val l0 * (y * U36) / (psum l1 len1 * U36)) ∧ ek4 ≤ len0 + 41 ∧ NatA w' a0 len0 cap0 (val l0) ∧ Slot w' w.heap.size (.slice a0 len0 cap0) 25 ∧ At w' (some ⟨b1, o1, none⟩) b1 o1 l1 ∧ Slot w' gall (.slice A K E) 25 ∧ NatO w' A K E (psum l1 len1 * U36) ∧ Slot w' gsum (.slice A2 K2 E2) 25 ∧ NatO w' A2 K2 E2 Q ∧ Below w.heap.size w w')
          case h1 =>
            go_region_held3 (fun w' => w'.cell? ⟨w.heap.size, 0, none⟩ = some (.slice a0 len0 cap0) ∧ w'.cell? ⟨gall, 0, none⟩ = some (.slice A K E) ∧ w'.cell? ⟨b1, o1 + k, none⟩ = some (.int .u64 y)) (first | exact ⟨by assumption, by assumption, by assumption⟩ | exact ⟨P0.cell, Pall.cell, cellY h1 HY.out (by omega)⟩ | exact ⟨(P0.alloc _).cell, (Pall.alloc _).cell, cellY (h1.keep (below_alloc _ _)) HY.out (by omega)⟩ | exact ⟨(P0.alloc _).drew.cell, (Pall.alloc _).drew.cell, cellY (h1.keep (below_alloc _ _)).drew HY.out (by omega)⟩ | exact ⟨(P0.other (by omega) _).cell, (Pall.other (by omega) _).cell, cellY (h1.put Sg not_int _) HY.out (by omega)⟩ | go_keep)
              (first
              | (go_at_call 17; (first | (have N0 := N0.drew; have P0 := P0.drew; have h1 := h1.drew; have Pall := Pall.drew; have Oall := Oall.drew; have Psum := Psum.drew; have Osum := Osum.drew; have HB := HB.drew; refine (atW N0 (dOf (x := y) hx.1 hx.2)).mono ?_) | (have Sg := slotA N0 (.slice none 0 0) 25; have l_P0 := P0.lt; have l_Pall := Pall.lt; have l_Psum := Psum.lt; have N0 := N0.keep (below_alloc _ (.cells #[.slice none 0 0] 25)); have P0 := P0.keep (below_alloc _ (.cells #[.slice none 0 0] 25)); have h1 := h1.keep (below_alloc _ (.cells #[.slice none 0 0] 25)); have Pall := Pall.keep (below_alloc _ (.cells #[.slice none 0 0] 25)); have Oall := Oall.keep (below_alloc _ (.cells #[.slice none 0 0] 25)); have Psum := Psum.keep (below_alloc _ (.cells #[.slice none 0 0] 25)); have Osum := Osum.keep (below_alloc _ (.cells #[.slice none 0 0] 25)); have HB := joinB HB (below_alloc _ (.cells #[.slice none 0 0] 25)); have N0 := N0.drew; have P0 := P0.drew; have h1 := h1.drew; have Pall := Pall.drew; have Oall := Oall.drew; have Psum := Psum.drew; have Osum := Osum.drew; have HB := HB.drew; have Sg := Sg.drew; refine (atW N0 (dOf (x := y) hx.1 hx.2)).mono ?_)); rintro e x41 ⟨ay, ky, dy, rfl, Oy, hky, hB⟩; have N0 := N0.keep hB; have P0 := P0.keep hB; have h1 := h1.keep hB; have Pall := Pall.keep hB; have Oall := Oall.keep hB; have Psum := Psum.keep hB; have Osum := Osum.keep hB; have c_P0 := P0.cell; have c_Pall := Pall.cell; have c_Psum := Psum.cell; have HB := joinB HB hB; try (have Sg := Sg.keep hB); clear hB; have hcx := cellY h1 HY.out (by omega))
              | (go_at_call 18; (first | (refine (atW N0 (dMulDiv N0 (by omega) Oy.a (by omega) Oall.a (by omega) HTU.out)).mono ?_) | (have Sg := slotA N0 (.slice none 0 0) 25; have l_P0 := P0.lt; have l_Pall := Pall.lt; have l_Psum := Psum.lt; have N0 := N0.keep (below_alloc _ (.cells #[.slice none 0 0] 25)); have P0 := P0.keep (below_alloc _ (.cells #[.slice none 0 0] 25)); have h1 := h1.keep (below_alloc _ (.cells #[.slice none 0 0] 25)); have Pall := Pall.keep (below_alloc _ (.cells #[.slice none 0 0] 25)); have Oall := Oall.keep (below_alloc _ (.cells #[.slice none 0 0] 25)); have Psum := Psum.keep (below_alloc _ (.cells #[.slice none 0 0] 25)); have Osum := Osum.keep (below_alloc _ (.cells #[.slice none 0 0] 25)); have Oy := Oy.keep (below_alloc _ (.cells #[.slice none 0 0] 25)); have HB := joinB HB (below_alloc _ (.cells #[.slice none 0 0] 25)); refine (atW N0 (dMulDiv N0 (by omega) Oy.a (by omega) Oall.a (by omega) HTU.out)).mono ?_)); rintro e x42 ⟨ap, kp, dp, rfl, Oq, hkp, hB⟩; have N0 := N0.keep hB; have P0 := P0.keep hB; have h1 := h1.keep hB; have Pall := Pall.keep hB; have Oall := Oall.keep hB; have Psum := Psum.keep hB; have Osum := Osum.keep hB; have Oy := Oy.keep hB; have c_P0 := P0.cell; have c_Pall := Pall.cell; have c_Psum := Psum.cell; have HB := joinB HB hB; try (have Sg := Sg.keep hB); clear hB; have hcx := cellY h1 HY.out (by omega); try (have cg := Sg.cell; have fg := Sg.free)))
            all_goals (
              obtain ⟨ad1, _⟩ := someAddr
              obtain ⟨nd1, _⟩ := someNat
              obtain ⟨ne1, _⟩ := someNat
              obtain ⟨ad2, _⟩ := someAddr
              obtain ⟨nd2, _⟩ := someNat
              obtain ⟨ne2, _⟩ := someNat
              have Oq := Oq.eqv (rfl)
              first
              | (obtain ⟨g, hg, Sh⟩ : ∃ g, g = _ ∧ Slot x42 g (.slice none 0 0) 25 := ⟨_, rfl, Sg⟩
                 rw [← hg] at l_P0 l_Pall l_Psum ⊢
                 exact ⟨g, ay, ky, dy, ad1, nd1, ne1, ad2, nd2, ne2, ap, kp, dp, rfl, Sh.put _, Oq.put Sh not_int _, by omega, N0.put Sh not_int _, P0.other (by omega) _, h1.put Sh not_int _, Pall.other (by omega) _, Oall.put Sh not_int _, Psum.other (by omega) _, Osum.put Sh not_int _, HB.setCell (p := ⟨g, 0, none⟩) (by show w.heap.size ≤ g; omega) _⟩)
              | (obtain ⟨g, hg⟩ : ∃ g, g = x42.heap.size := ⟨_, rfl⟩
                 rw [← hg]
                 exact ⟨g, ay, ky, dy, ad1, nd1, ne1, ad2, nd2, ne2, ap, kp, dp, rfl, hg ▸ slot_new x42 _ _, Oq.keep (below_alloc _ _), by omega, N0.keep (below_alloc _ _), P0.keep (below_alloc _ _), h1.keep (below_alloc _ _), Pall.keep (below_alloc _ _), Oall.keep (below_alloc _ _), Psum.keep (below_alloc _ _), Osum.keep (below_alloc _ _), joinB HB (below_alloc _ _)⟩))
          case h2 =>
            intro gp ea1 ek1 ed1 ea2 ek2 ed2 ea3 ek3 ed3 Ap Kp Dp x43 hF
            obtain ⟨Pp, Op, hkp, N0, P0, h1, Pall, Oall, Psum, Osum, HB⟩ := hF
            have c_P0 := P0.cell
            have c_Pall := Pall.cell
            have c_Psum := Psum.cell
            have c_Pp := Pp.cell
            go_wp2_with fail
            refine (dAdd Osum.a Op.a (by omega) (by omega)).mono ?_
            rintro e x44 ⟨A3, K3, E3, rfl, O3, hk3, hB⟩
            have N0 := N0.keep hB
            have P0 := P0.keep hB
            have h1 := h1.keep hB
            have Pall := Pall.keep hB
            have Oall := Oall.keep hB
            have Psum := Psum.keep hB
            have Osum := Osum.keep hB
            have Pp := Pp.keep hB
            have Op := Op.keep hB
            have c_P0 := P0.cell
            have c_Pall := Pall.cell
            have c_Psum := Psum.cell
            have c_Pp := Pp.cell
            have HB := joinB HB hB
            clear hB
            have f_Psum := Psum.free
            have hne1 : w.heap.size ≠ gsum := by omega
            have hne2 : gall ≠ gsum := by omega
            go_wp2
            go_roundw
            case rel => exact ⟨k + 1, A3, K3, E3, _, by omega, by go_num, Psum.put _, O3.put Psum not_int _, by omega, HST, N0.put Psum not_int _, P0.other hne1 _, h1.put Psum not_int _, Pall.other hne2 _, Oall.put Psum not_int _, HB.setCell (p := ⟨gsum, 0, none⟩) (by show w.heap.size ≤ gsum; omega) _⟩
            case measure => simp [intOf]; omega
        · have hkn : len1 = k := by omega
          subst hkn
          obtain ⟨i1, i2⟩ := HI.out
          have hQA : Q ≤ val l0 := Int.le_of_mul_le_mul_right i1 HTP.out
          have hlen : (0 : Int) < len1 := by
            rcases Nat.eq_zero_or_pos len1 with e | e
            · have := HTP.out; rw [e] at this; exact absurd this (by simp [psum])
            · omega
          have hlast : val l0 - Q < len1 := by
            have h3 : (val l0 - Q) * psum l1 len1 < len1 * psum l1 len1 := by
              rw [Int.sub_mul]
              have : (len1 : Int) * (psum l1 len1 - 1) = len1 * psum l1 len1 - len1 := by rw [Int.mul_sub, Int.mul_one]
              omega
            exact Int.lt_of_mul_lt_mul_right h3 (by have := HTP.out; omega)
          have HL := (show Hid _ from hlast)
          clear i1 i2 hlast
          have hwr := IntWalk.u64_in (len1 : Int) ⟨by omega, by omega⟩
          have c_P0 := P0.cell
          have c_Psum := Psum.cell
          go_wp2_with fail
          refine (dSub N0 Osum.a (by omega) (by omega) hQA).mono ?_
          rintro e x61 ⟨Alf, Klf, Dlf, rfl, Olf, hklf, hB⟩
          have N0 := N0.keep hB
          have P0 := P0.keep hB
          have Psum := Psum.keep hB
          have Osum := Osum.keep hB
          have c_P0 := P0.cell
          have c_Psum := Psum.cell
          have HB := joinB HB hB
          clear hB
          have BA := below_alloc x61 (.cells #[.slice Alf Klf Dlf] 25)
          have Plf := slot_new x61 (.slice Alf Klf Dlf) 25
          have N0 := N0.keep BA
          have P0 := P0.keep BA
          have Psum := Psum.keep BA
          have Osum := Osum.keep BA
          have Olf := Olf.keep BA
          have c_P0 := P0.cell
          have c_Psum := Psum.cell
          have HB := joinB HB BA
          clear BA
          have c_Plf := Plf.cell
          go_wp2_with fail
          generalize x61.alloc (.cells #[.slice Alf Klf Dlf] 25) = xx61 at *
          generalize x61.heap.size = glf at *
          have mark0 : True := trivial
          have mark1 : True := trivial
          go_wp2_with fail
          go_region_held3 (fun w' => w'.cell? ⟨w.heap.size, 0, none⟩ = some (.slice a0 len0 cap0) ∧ w'.cell? ⟨gsum, 0, none⟩ = some (.slice A2 K2 E2) ∧ w'.cell? ⟨glf, 0, none⟩ = some (.slice Alf Klf Dlf)) (first | exact ⟨by assumption, by assumption, by assumption⟩ | go_keep)
            (first
            | (go_at_call 22; clear mark0; have N0 := N0.drew; have P0 := P0.drew; have Psum := Psum.drew; have Osum := Osum.drew; have Olf := Olf.drew; have Plf := Plf.drew; have HB := HB.drew; refine (nOf (x := (len1 : Int)) (by omega) (by omega)).mono ?_; rintro e x62 ⟨an, kn, dn, rfl, On, hkn, hB⟩; have N0 := N0.keep hB; have P0 := P0.keep hB; have Psum := Psum.keep hB; have Osum := Osum.keep hB; have Olf := Olf.keep hB; have Plf := Plf.keep hB; have c_P0 := P0.cell; have c_Psum := Psum.cell; have c_Plf := Plf.cell; have HB := joinB HB hB; clear hB)
            | (go_at_call 23; clear mark1; have tC := nCmp Olf.a On.a (by omega) (by omega); rw [sgn_lt HL.out] at tC; refine (tC).mono ?_; rintro e x63 ⟨rfl, hB⟩; have N0 := N0.keep hB; have P0 := P0.keep hB; have Psum := Psum.keep hB; have Osum := Osum.keep hB; have Olf := Olf.keep hB; have Plf := Plf.keep hB; have On := On.keep hB; have c_P0 := P0.cell; have c_Psum := Psum.cell; have c_Plf := Plf.cell; have HB := joinB HB hB; clear hB))
          all_goals go_wp2
          all_goals go_ret
          all_goals exact ⟨rfl, HB⟩
end decParts
end Go.Proofs.YtiglmhibnenhdaaGreatDoor
