/- gleanlaw1.NatPowers returns true for all lists of limbs and all numbers. -/
import Derived.Test.YtiglmhibnenhdabDoorKnown
import Derived.Test.YtiglmhibnenhdabDoorSmall
import Derived.Test.YtiglmhibnenhdabDoorPlaceT
namespace Go.Proofs.YtiglmhibnenhdabDoor
namespace natPowers
open Go.RowKit Lim

set_option maxHeartbeats 8000000 in
set_option maxRecDepth 100000 in
theorem walk (a0 : Option Addr) (len0 cap0 : Nat) (z0 : List Int) (m n : Int) (w : World) (w0 : IsRow w a0 len0 cap0 z0) (_wm : (Lit.int .i64 m).wf = true) (_wn : (Lit.int .i64 n).wf = true) (htab : Lib.TabIs Tryd.prog w "internal/strconv.uint64pow10" .u64 Lib.pow10Tab) :
    Calls Tryd.prog 4 #[.slice a0 len0 cap0, .int .i64 m, .int .i64 n] w fun e w' => e = .returned (.bool true) ∧ Below w.heap.size w w' := by
  obtain ⟨b0, o0, l0, hl0, hc0, hm0, W0, h0⟩ := w0.open
  clear w0
  have HT := (show Hid _ from htab)
  clear htab _wm _wn
  go_enter Tryd.func4, Tryd.ntmps4
  go_wp2_with fail
  refine (known_any w).mono ?_
  rintro e u1 ⟨rfl, HB⟩
  have h0 := h0.keep HB
  have b1 := below_alloc u1 (.cells #[.slice a0 len0 cap0] 23)
  have tS := small_any [(a0, len0, cap0)] u1.heap.size 1 1 (u1.alloc (.cells #[.slice a0 len0 cap0] 23)) rfl (by decide)
    (fun i => by
      match i with
      | 0 => exact hm0
      | _ + 1 => exact Nat.zero_le _)
    (fun i hi => by
      rw [cell_new]
      match i, hi with
      | 0, _ => rfl)
  go_wp2_with fail
  refine tS.mono ?_
  rintro e u2 ⟨rfl, rfl⟩
  clear tS
  have h0 := h0.keep b1
  have HB := join HB b1
  clear b1
  generalize u1.alloc (.cells #[.slice a0 len0 cap0] 23) = u2 at *
  by_cases hsm : smallB [(a0, len0, cap0)] = true
  rotate_left
  · have hsf : smallB [(a0, len0, cap0)] = false := by rw [Bool.not_eq_true] at hsm; exact hsm
    rw [hsf]
    go_wp2
    go_ret
    exact ⟨rfl, HB⟩
  rw [hsm]
  simp only [smallB, List.all_cons, List.all_nil, Bool.and_true, decide_eq_true_eq] at hsm
  have hs0 := hsm
  clear hsm
  have N0 : NatA _ a0 len0 cap0 (val l0) := ⟨b0, o0, l0, hl0, hc0, W0, h0, rfl⟩
  clear h0
  go_wp2_with fail
  refine (place_any m _).mono ?_
  rintro e x1 ⟨m', hm', rfl, rfl⟩
  go_wp2_with fail
  refine (place_any n _).mono ?_
  rintro e x2 ⟨n', hn', rfl, rfl⟩

  go_wp2_with fail
  refine (pow10_any m' _ (by omega)).mono ?_
  rintro e x3 ⟨vx, rx, rfl, hnx, hIx, hlx, hB⟩
  obtain ⟨ax, bx, ox, cx, rfl, hcx, _, hax, _⟩ := hnx.is
  have Ox : NatO _ ax rx.length cx (10 ^ m') := ⟨bx, ox, rx, rfl, hcx, hIx, hax⟩
  have N0 := N0.keep hB
  have HB := join HB hB
  clear hB hnx
  go_wp2_with fail
  refine (nPow n' (by omega)).mono ?_
  rintro e x4 ⟨ay, ky, cy, rfl, Oy, hky, hB⟩
  have N0 := N0.keep hB
  have Ox := Ox.keep hB
  have hax := hax.keep hB
  have HB := join HB hB
  clear hB
  have tZ := nPow (w := x4) (m' + n') (by omega)
  rw [Int.natCast_add] at tZ
  go_wp2_with fail
  refine tZ.mono ?_
  rintro e x5 ⟨az, kz, cz, rfl, Oz, hkz, hB⟩
  have N0 := N0.keep hB
  have Ox := Ox.keep hB
  have Oy := Oy.keep hB
  have hax := hax.keep hB
  have HB := join HB hB
  clear hB tZ
  go_wp2_with fail
  refine (nMul Ox.a Oy.a (by omega) (by omega)).mono ?_
  rintro e x6 ⟨ap, kp, cp, rfl, Op, hkp, hB⟩
  have N0 := N0.keep hB
  have Oz := Oz.keep hB
  have hax := hax.keep hB
  have HB := join HB hB
  clear hB Ox Oy
  have tS := nSame Op Oz (by omega) (by omega)
  rw [decide_eq_true (Int.pow_add 10 m' n').symm] at tS
  go_wp2_with fail
  refine tS.mono ?_
  rintro e x7 ⟨rfl, hB⟩
  have N0 := N0.keep hB
  have hax := hax.keep hB
  have HB := join HB hB
  clear hB tS Op Oz
  go_wp2_with fail
  refine (text_any ax rx.length cx bx ox rx _ rfl hcx (by omega) hIx.1 hax (fun g g1 g2 g3 g4 wx hb => app_any HT.out _ g4 (by have := (g1 _ (nth_mem (Nat.sub_lt (Nat.pos_of_ne_zero (fun e => g3 (List.eq_nil_of_length_eq_zero e))) Nat.one_pos))).2; omega) wx (join HB hb))).mono ?_
  rintro e x8 ⟨S, rfl, hS, hSs, hB⟩
  rw [hIx.2.2] at hS
  have hsz := text_pow hS
  have N0 := N0.keep hB
  have HB := join HB hB
  clear hB hS hax hSs
  have tB := nBits N0 (by omega)
  have V0 := N0.nonneg
  have HR := (show Hid _ from fun h : 0 < val l0 => bitLen_range h)
  have HZ := (show Hid _ from bitLen_zero (val l0) V0)
  have hmax : bitLen (val l0).toNat ≤ 3840 := by
    rcases Int.lt_or_eq_of_le V0 with h | h
    · have h1 := (bitLen_range h).1
      have h2 := val_lt W0
      rw [bpow] at h2
      rcases Nat.lt_or_ge 3840 (bitLen (val l0).toNat) with e | e
      · have h4 : ((2 ^ (64 * l0.length) : Nat) : Int) ≤ ((2 ^ (bitLen (val l0).toNat - 1) : Nat) : Int) :=
          Int.ofNat_le.2 (Nat.pow_le_pow_right (by decide) (by omega))
        have h5 : ((2 ^ (bitLen (val l0).toNat - 1) : Nat) : Int) = (2 : Int) ^ (bitLen (val l0).toNat - 1) := by simp
        omega
      · exact e
    · rw [← h]; decide
  generalize hBe : bitLen (val l0).toNat = B at *
  have HBe := (show Hid _ from hBe)
  clear hBe
  by_cases hB0 : B = 0
  · have hv0 := HZ.out.1 hB0
    have HV0 := (show Hid _ from hv0)
    subst hB0
    clear hv0 HR HZ HBe hmax
    go_wp2_with fail
    refine tB.mono ?_
    rintro e x9 ⟨rfl, hB⟩
    have N0 := N0.keep hB
    have HB := join HB hB
    clear hB tB
    go_wp2_with fail
    refine (nNorm N0 (by omega)).mono ?_
    rintro e x10 ⟨aq, kq, dq, rfl, Oq, hkq, hB⟩
    have hk0 := Oq.zero_iff.2 HV0.out
    subst hk0
    go_wp2
    go_ret
    exact ⟨rfl, join HB hB⟩
  · have vp : 0 < val l0 := by
      rcases Int.lt_or_eq_of_le V0 with h | h
      · exact h
      · exact absurd (HZ.out.2 h.symm) hB0
    obtain ⟨r1, r2⟩ := HR.out vp
    have R1 := (show Hid _ from r1)
    have R2 := (show Hid _ from r2)
    have HB0 := (show Hid _ from HB.size)
    obtain ⟨C, rfl⟩ : ∃ C, B = C + 1 := ⟨B - 1, by omega⟩
    clear HR HZ HBe vp r1 r2 hB0
    rw [Int.natCast_add] at tB
    go_wp2_with fail
    refine tB.mono ?_
    rintro e x9 ⟨rfl, hB⟩
    have N0 := N0.keep hB
    have HB := join HB hB
    have HB0 := (show Hid _ from HB.size)
    clear hB tB
    have hp0 : (0 : Int) < 2 ^ (C % 64) := Int.pow_pos (by decide)
    have hp1 : (2 : Int) ^ (C % 64) ≤ 18446744073709551615 := by
      have h1 := Nat.pow_le_pow_right (n := 2) (by decide) (show C % 64 ≤ 63 by omega)
      have h2 := Int.ofNat_le.2 h1
      have h3 : ((2 ^ (C % 64) : Nat) : Int) = (2 : Int) ^ (C % 64) := by simp
      have h4 : ((2 ^ 63 : Nat) : Int) = 9223372036854775808 := by decide
      omega
    have hwrap : IntKind.u64.wrap (2 ^ (C % 64)) = 2 ^ (C % 64) := IntWalk.u64_in _ ⟨by omega, hp1⟩
    have HLOW : Hid (val ((List.replicate ((C + 1) / 64 + 1) (0 : Int)).set (C / 64) (2 ^ (C % 64))) = 2 ^ C) := by
      have := bit_low (B := C + 1) (by omega)
      rwa [Nat.add_sub_cancel] at this
    go_wp2_with (at_make; refine wpList_makeN rfl _ _ rfl ((C + 1) / 64 + 1) _ _ rfl rfl (by omega) (by omega) (by omega) ?_; intro w3 hrow hbel hsz; have hcl := hrow.at.cell (C / 64) (by simp; omega); have hfr := hrow.free 0 ((C + 1) / 64 + 1) (C / 64) (by omega); rw [Nat.zero_add] at hcl hfr; have hat := hrow.at.setCell (i := C / 64) (by simp; omega) (2 ^ (C % 64)); rw [Nat.zero_add] at hat; have NL : NatA _ (some ⟨x9.heap.size, 0, none⟩) ((C + 1) / 64 + 1) ((C + 1) / 64 + 1) (2 ^ C) := ⟨_, _, _, by simp, Nat.le_refl _, (words_zero _).set _ (by omega) (by omega), hat, HLOW.out⟩; have NV := (N0.keep hbel); have HB := (join HB hbel); have NV2 : NatA (w3.setCell ⟨x9.heap.size, C / 64, none⟩ (.int .u64 (2 ^ (C % 64)))) a0 len0 cap0 (val l0) := N0.keep ((hbel).setCell (p := ⟨x9.heap.size, C / 64, none⟩) (Nat.le_refl _) _); have HB2 := HB.setCell (p := ⟨x9.heap.size, C / 64, none⟩) (by have := HB0.out; omega) (.int .u64 (2 ^ (C % 64))); clear hrow hbel hsz hat NV)
    have hR1 : (2 : Int) ^ C ≤ val l0 := by have := R1.out; rwa [Nat.add_sub_cancel] at this
    have hR2 : val l0 < 2 ^ C + 2 ^ C := by have := R2.out; rw [Int.pow_succ] at this; omega
    have tC := nCmp NL NV2 (by omega) (by omega)
    have hsg : sgn (2 ^ C) (val l0) ≤ 0 := by unfold sgn; split; decide; rw [if_neg (by omega)]; decide
    generalize sgn (2 ^ C) (val l0) = sg at *
    have HS2 := (show Hid _ from sgn_lt hR2)
    clear hR1 hR2
    refine tC.mono ?_
    rintro e x11 ⟨rfl, hB⟩
    have NL := NL.keep hB
    have NV2 := NV2.keep hB
    have HB2 := join HB2 hB
    clear hB tC
    go_wp2_with fail
    refine (nAdd NL NL (by omega) (by omega)).mono ?_
    rintro e x12 ⟨aq, kq, dq, rfl, Oq, hkq, hB⟩
    have NV2 := NV2.keep hB
    have HB2 := join HB2 hB
    clear hB NL
    have tC := nCmp NV2 Oq.a (by omega) (by omega)
    rw [HS2.out] at tC
    go_wp2_with fail
    refine tC.mono ?_
    rintro e x13 ⟨rfl, hB⟩
    go_wp2
    go_ret
    exact ⟨rfl, join HB2 hB⟩
end natPowers
end Go.Proofs.YtiglmhibnenhdabDoor
