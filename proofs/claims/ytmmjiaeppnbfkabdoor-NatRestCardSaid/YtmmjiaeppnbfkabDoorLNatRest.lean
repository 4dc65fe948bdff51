/- gleanlaw1.NatRest returns true for all lists of limbs. -/
import Derived.Test.YtmmjiaeppnbfkabDoorKnown
import Derived.Test.YtmmjiaeppnbfkabDoorSmall
import Derived.Test.YtmmjiaeppnbfkabDoorDivM
namespace Go.Proofs.YtmmjiaeppnbfkabDoor
namespace natRest
open Go.RowKit Lim

set_option maxHeartbeats 8000000 in
set_option maxRecDepth 100000 in
theorem walk (a0 : Option Addr) (len0 cap0 : Nat) (z0 : List Int) (a1 : Option Addr) (len1 cap1 : Nat) (z1 : List Int) (a2 : Option Addr) (len2 cap2 : Nat) (z2 : List Int) (w : World) (w0 : IsRow w a0 len0 cap0 z0) (w1 : IsRow w a1 len1 cap1 z1) (w2 : IsRow w a2 len2 cap2 z2) :
    Calls Tryd.prog 3 #[.slice a0 len0 cap0, .slice a1 len1 cap1, .slice a2 len2 cap2] w fun e w' => e = .returned (.bool true) ∧ Below w.heap.size w w' := by
  obtain ⟨b0, o0, l0, hl0, hc0, hm0, W0, h0⟩ := w0.open
  obtain ⟨b1, o1, l1, hl1, hc1, hm1, W1, h1⟩ := w1.open
  obtain ⟨b2, o2, l2, hl2, hc2, hm2, W2, h2⟩ := w2.open
  clear w0 w1 w2
  go_enter Tryd.func3, Tryd.ntmps3
  go_wp2_with fail
  refine (known_any w).mono ?_
  rintro e u1 ⟨rfl, HB⟩
  have h0 := h0.keep HB
  have h1 := h1.keep HB
  have h2 := h2.keep HB
  have b1 := below_alloc u1 (.cells #[.slice a0 len0 cap0, .slice a1 len1 cap1, .slice a2 len2 cap2] 23)
  have tS := small_any [(a0, len0, cap0), (a1, len1, cap1), (a2, len2, cap2)] u1.heap.size 3 3 (u1.alloc (.cells #[.slice a0 len0 cap0, .slice a1 len1 cap1, .slice a2 len2 cap2] 23)) rfl (by decide)
    (fun i => by
      match i with
      | 0 => exact hm0
      | 1 => exact hm1
      | 2 => exact hm2
      | _ + 3 => exact Nat.zero_le _)
    (fun i hi => by
      rw [cell_new]
      match i, hi with
      | 0, _ => rfl
      | 1, _ => rfl
      | 2, _ => rfl)
  go_wp2_with fail
  refine tS.mono ?_
  rintro e u2 ⟨rfl, rfl⟩
  clear tS
  have h0 := h0.keep b1
  have h1 := h1.keep b1
  have h2 := h2.keep b1
  have HB := join HB b1
  clear b1
  generalize u1.alloc (.cells #[.slice a0 len0 cap0, .slice a1 len1 cap1, .slice a2 len2 cap2] 23) = u2 at *
  by_cases hsm : smallB [(a0, len0, cap0), (a1, len1, cap1), (a2, len2, cap2)] = true
  rotate_left
  · have hsf : smallB [(a0, len0, cap0), (a1, len1, cap1), (a2, len2, cap2)] = false := by rw [Bool.not_eq_true] at hsm; exact hsm
    rw [hsf]
    go_wp2
    go_ret
    exact ⟨rfl, HB⟩
  rw [hsm]
  simp only [smallB, List.all_cons, List.all_nil, Bool.and_true, Bool.and_eq_true, decide_eq_true_eq] at hsm
  obtain ⟨hs0, hs1, hs2⟩ := hsm
  have v0 := val_nonneg W0
  have v1 := val_nonneg W1
  have v2 := val_nonneg W2
  by_cases hz : val l1 = 0
  · have hz0 : Hid (nlen l1 = 0) := (nlen_eq_zero_iff_val W1).2 hz
    have hz := (show Hid _ from hz)
    go_wp2_with fail
    refine (div_zero _ a1 len1 cap1 b1 o1 l1 _ hl1 hc1 (by omega) W1 h1 hz.out).mono ?_
    rintro e y1 ⟨rfl, rfl⟩
    go_wp2_with fail
    refine (norm_any a1 len1 cap1 b1 o1 l1 _ hl1 hc1 (by omega) h1).mono ?_
    rintro e x1 ⟨rfl, hrow1, hB1⟩
    have hI1 := isN_norm W1
    have hr1 := hrow1.at
    have hlen1 := nlen_le l1
    have hL1 := norm_length l1
    generalize norm l1 = r1 at *
    generalize nlen l1 = nl1 at *
    clear hrow1
    have h0 := h0.keep hB1
    have h1 := h1.keep hB1
    have h2 := h2.keep hB1
    have HB := join HB hB1
    clear hB1
    have hz1 := hz0.out
    subst hz1
    go_wp2
    go_ret
    exact ⟨rfl, HB⟩
  · have hz0 : nlen l1 ≠ 0 := fun e => hz ((nlen_eq_zero_iff_val W1).1 e)
    have HZ := (show Hid _ from hz)
    have vp : 0 < val l1 := by omega
    clear hz
    have HE := (show Hid _ from Int.mul_ediv_add_emod (val l0) (val l1))
    have HM := (show Hid _ from Int.emod_lt_of_pos (val l0) vp)
    have HM0 := (show Hid _ from Int.emod_nonneg (val l0) HZ.out)
    go_wp2_with fail
    refine (div_any a0 len0 cap0 b0 o0 a1 len1 cap1 b1 o1 l0 l1 _ hl0 hl1 hc0 hc1 (by omega) (by omega) W0 W1 h0 h1 HZ.out).mono ?_
    rintro e x2 ⟨v2, v3, r2, r3, rfl, hn2, hn3, hI2, hI3, hlen2, hlen3, hB2⟩
    have h0 := h0.keep hB2
    have h1 := h1.keep hB2
    have h2 := h2.keep hB2
    obtain ⟨ar2, br2, or2, cr2, rfl, hcr2, _, hr2, _⟩ := hn2.is
    obtain ⟨ar3, br3, or3, cr3, rfl, hcr3, _, hr3, _⟩ := hn3.is
    have HB := join HB hB2
    clear hB2 hn2 hn3
    go_wp2_with fail
    refine (norm_any a1 len1 cap1 b1 o1 l1 _ hl1 hc1 (by omega) h1).mono ?_
    rintro e x4 ⟨rfl, hrow4, hB4⟩
    have hI4 := isN_norm W1
    have hr4 := hrow4.at
    have hlen4 := nlen_le l1
    have hL4 := norm_length l1
    generalize norm l1 = r4 at *
    generalize nlen l1 = nl4 at *
    clear hrow4
    have h0 := h0.keep hB4
    have h1 := h1.keep hB4
    have h2 := h2.keep hB4
    have hr2 := hr2.keep hB4
    have hr3 := hr3.keep hB4
    have HB := join HB hB4
    clear hB4
    have tC5 := cmp_any ar3 r3.length cr3 br3 or3 a1 len1 cap1 b1 o1 r3 l1 _ rfl hl1 hcr3 hc1 (by omega) (by omega) hI3.1 W1 hr3 h1
    rw [hI3.2.2] at tC5
    have hsg5 : (sgn ((val l0) % (val l1)) (val l1)) < 0 := by unfold sgn; rw [if_pos HM.out]; decide
    generalize sgn ((val l0) % (val l1)) (val l1) = sg5 at *
    go_wp2_with fail
    refine tC5.mono ?_
    rintro e x5 ⟨rfl, hB5⟩
    have h0 := h0.keep hB5
    have h1 := h1.keep hB5
    have h2 := h2.keep hB5
    have hr2 := hr2.keep hB5
    have hr3 := hr3.keep hB5
    have hr4 := hr4.keep hB5
    have HB := join HB hB5
    clear hB5 tC5
    go_wp2_with fail
    refine (mul_any ar2 r2.length cr2 br2 or2 a1 len1 cap1 b1 o1 r2 l1 _ rfl hl1 hcr2 hc1 (by omega) (by omega) hI2.1 W1 hr2 h1).mono ?_
    rintro e x6 ⟨v6, r6, rfl, hn6, hI6, hlen6, hB6⟩
    rw [hI2.2.2] at hI6
    obtain ⟨ar6, br6, or6, cr6, rfl, hcr6, _, hr6, _⟩ := hn6.is
    have h0 := h0.keep hB6
    have h1 := h1.keep hB6
    have h2 := h2.keep hB6
    have hr2 := hr2.keep hB6
    have hr3 := hr3.keep hB6
    have hr4 := hr4.keep hB6
    have HB := join HB hB6
    clear hB6 hn6
    go_wp2_with fail
    refine (add_any ar6 r6.length cr6 br6 or6 ar3 r3.length cr3 br3 or3 r6 r3 _ rfl rfl hcr6 hcr3 (by omega) (by omega) hI6.1 hI3.1 hr6 hr3).mono ?_
    rintro e x7 ⟨v7, r7, rfl, hn7, hI7, hlen7, hB7⟩
    rw [hI6.2.2, hI3.2.2] at hI7
    obtain ⟨ar7, br7, or7, cr7, rfl, hcr7, _, hr7, _⟩ := hn7.is
    have h0 := h0.keep hB7
    have h1 := h1.keep hB7
    have h2 := h2.keep hB7
    have hr2 := hr2.keep hB7
    have hr3 := hr3.keep hB7
    have hr4 := hr4.keep hB7
    have hr6 := hr6.keep hB7
    have HB := join HB hB7
    clear hB7 hn7
    go_wp2_with fail
    refine (norm_any a0 len0 cap0 b0 o0 l0 _ hl0 hc0 (by omega) h0).mono ?_
    rintro e x8 ⟨rfl, hrow8, hB8⟩
    have hI8 := isN_norm W0
    have hr8 := hrow8.at
    have hlen8 := nlen_le l0
    have hL8 := norm_length l0
    generalize norm l0 = r8 at *
    generalize nlen l0 = nl8 at *
    clear hrow8
    have h0 := h0.keep hB8
    have h1 := h1.keep hB8
    have h2 := h2.keep hB8
    have hr2 := hr2.keep hB8
    have hr3 := hr3.keep hB8
    have hr4 := hr4.keep hB8
    have hr6 := hr6.keep hB8
    have hr7 := hr7.keep hB8
    have HB := join HB hB8
    clear hB8
    have q9 : r7 = r8 := isN_unique hI7 (by rw [show ((((val l0) / (val l1)) * (val l1)) + ((val l0) % (val l1))) = (val l0) from by rw [Int.mul_comm]; exact HE.out]; exact hI8)
    have tH9 := helpNat ar7 r7.length cr7 br7 or7 _ nl8 nl8 _ 0 r7 r8 _ rfl hL8 (by omega) (by omega) hr7 hr8
    rw [eqB_true q9] at tH9
    clear q9
    go_wp2_with fail
    refine tH9.mono ?_
    rintro e x9 ⟨rfl, hB9⟩
    have h0 := h0.keep hB9
    have h1 := h1.keep hB9
    have h2 := h2.keep hB9
    have hr2 := hr2.keep hB9
    have hr3 := hr3.keep hB9
    have HB := join HB hB9
    clear hB9 tH9
    go_wp2_with fail
    refine (normal_any ar2 r2.length cr2 br2 or2 r2 _ _ rfl (by omega) hI2 hr2).mono ?_
    rintro e x10 ⟨rfl, rfl⟩
    go_wp2_with fail
    refine (normal_any ar3 r3.length cr3 br3 or3 r3 _ _ rfl (by omega) hI3 hr3).mono ?_
    rintro e x11 ⟨rfl, rfl⟩
    go_wp2_with fail
    refine (muldiv_any a0 len0 cap0 b0 o0 a2 len2 cap2 b2 o2 a1 len1 cap1 b1 o1 l0 l2 l1 _ hl0 hl2 hl1 hc0 hc2 hc1 (by omega) (by omega) (by omega) W0 W2 W1 h0 h2 h1 HZ.out).mono ?_
    rintro e x12 ⟨v12, v13, r12, r13, rfl, hn12, hn13, hI12, hI13, hlen12, hlen13, hB12⟩
    have h0 := h0.keep hB12
    have h1 := h1.keep hB12
    have h2 := h2.keep hB12
    obtain ⟨ar12, br12, or12, cr12, rfl, hcr12, _, hr12, _⟩ := hn12.is
    obtain ⟨ar13, br13, or13, cr13, rfl, hcr13, _, hr13, _⟩ := hn13.is
    have HB := join HB hB12
    clear hB12 hn12 hn13
    go_wp2_with fail
    refine (mul_any a0 len0 cap0 b0 o0 a2 len2 cap2 b2 o2 l0 l2 _ hl0 hl2 hc0 hc2 (by omega) (by omega) W0 W2 h0 h2).mono ?_
    rintro e x14 ⟨v14, r14, rfl, hn14, hI14, hlen14, hB14⟩
    obtain ⟨ar14, br14, or14, cr14, rfl, hcr14, _, hr14, _⟩ := hn14.is
    have h0 := h0.keep hB14
    have h1 := h1.keep hB14
    have h2 := h2.keep hB14
    have hr12 := hr12.keep hB14
    have hr13 := hr13.keep hB14
    have HB := join HB hB14
    clear hB14 hn14
    go_wp2_with fail
    refine (div_any ar14 r14.length cr14 br14 or14 a1 len1 cap1 b1 o1 r14 l1 _ rfl hl1 hcr14 hc1 (by omega) (by omega) hI14.1 W1 hr14 h1 HZ.out).mono ?_
    rintro e x15 ⟨v15, v16, r15, r16, rfl, hn15, hn16, hI15, hI16, hlen15, hlen16, hB15⟩
    rw [hI14.2.2] at hI15
    rw [hI14.2.2] at hI16
    have h0 := h0.keep hB15
    have h1 := h1.keep hB15
    have h2 := h2.keep hB15
    have hr12 := hr12.keep hB15
    have hr13 := hr13.keep hB15
    have hr14 := hr14.keep hB15
    obtain ⟨ar15, br15, or15, cr15, rfl, hcr15, _, hr15, _⟩ := hn15.is
    obtain ⟨ar16, br16, or16, cr16, rfl, hcr16, _, hr16, _⟩ := hn16.is
    have HB := join HB hB15
    clear hB15 hn15 hn16
    go_wp2_with fail
    refine (mul_any a0 len0 cap0 b0 o0 a1 len1 cap1 b1 o1 l0 l1 _ hl0 hl1 hc0 hc1 (by omega) (by omega) W0 W1 h0 h1).mono ?_
    rintro e x17 ⟨v17, r17, rfl, hn17, hI17, hlen17, hB17⟩
    obtain ⟨ar17, br17, or17, cr17, rfl, hcr17, _, hr17, _⟩ := hn17.is
    have h0 := h0.keep hB17
    have h1 := h1.keep hB17
    have h2 := h2.keep hB17
    have hr12 := hr12.keep hB17
    have hr13 := hr13.keep hB17
    have hr14 := hr14.keep hB17
    have hr15 := hr15.keep hB17
    have hr16 := hr16.keep hB17
    have HB := join HB hB17
    clear hB17 hn17
    go_wp2_with fail
    refine (div_any ar17 r17.length cr17 br17 or17 a1 len1 cap1 b1 o1 r17 l1 _ rfl hl1 hcr17 hc1 (by omega) (by omega) hI17.1 W1 hr17 h1 HZ.out).mono ?_
    rintro e x18 ⟨v18, v19, r18, r19, rfl, hn18, hn19, hI18, hI19, hlen18, hlen19, hB18⟩
    rw [hI17.2.2] at hI18
    rw [hI17.2.2] at hI19
    have h0 := h0.keep hB18
    have h1 := h1.keep hB18
    have h2 := h2.keep hB18
    have hr12 := hr12.keep hB18
    have hr13 := hr13.keep hB18
    have hr14 := hr14.keep hB18
    have hr15 := hr15.keep hB18
    have hr16 := hr16.keep hB18
    have hr17 := hr17.keep hB18
    obtain ⟨ar18, br18, or18, cr18, rfl, hcr18, _, hr18, _⟩ := hn18.is
    obtain ⟨ar19, br19, or19, cr19, rfl, hcr19, _, hr19, _⟩ := hn19.is
    have HB := join HB hB18
    clear hB18 hn18 hn19
    have q20 : r12 = r15 := isN_unique hI12 (by rw [show (((val l0) * (val l2)) / (val l1)) = (((val l0) * (val l2)) / (val l1)) from by rfl]; exact hI15)
    have tH20 := helpNat ar12 r12.length cr12 br12 or12 ar15 r15.length cr15 br15 or15 r12 r15 _ rfl rfl (by omega) (by omega) hr12 hr15
    rw [eqB_true q20] at tH20
    clear q20
    go_wp2_with fail
    refine tH20.mono ?_
    rintro e x20 ⟨rfl, hB20⟩
    have h0 := h0.keep hB20
    have h1 := h1.keep hB20
    have h2 := h2.keep hB20
    have hr13 := hr13.keep hB20
    have hr14 := hr14.keep hB20
    have hr16 := hr16.keep hB20
    have hr17 := hr17.keep hB20
    have hr18 := hr18.keep hB20
    have hr19 := hr19.keep hB20
    have HB := join HB hB20
    clear hB20 tH20
    have q21 : r13 = r16 := isN_unique hI13 (by rw [show (((val l0) * (val l2)) % (val l1)) = (((val l0) * (val l2)) % (val l1)) from by rfl]; exact hI16)
    have tH21 := helpNat ar13 r13.length cr13 br13 or13 ar16 r16.length cr16 br16 or16 r13 r16 _ rfl rfl (by omega) (by omega) hr13 hr16
    rw [eqB_true q21] at tH21
    clear q21
    go_wp2_with fail
    refine tH21.mono ?_
    rintro e x21 ⟨rfl, hB21⟩
    have h0 := h0.keep hB21
    have h1 := h1.keep hB21
    have h2 := h2.keep hB21
    have hr14 := hr14.keep hB21
    have hr17 := hr17.keep hB21
    have hr18 := hr18.keep hB21
    have hr19 := hr19.keep hB21
    have HB := join HB hB21
    clear hB21 tH21
    go_wp2_with fail
    refine (norm_any a0 len0 cap0 b0 o0 l0 _ hl0 hc0 (by omega) h0).mono ?_
    rintro e x22 ⟨rfl, hrow22, hB22⟩
    have hI22 := isN_norm W0
    have hr22 := hrow22.at
    have hlen22 := nlen_le l0
    have hL22 := norm_length l0
    generalize norm l0 = r22 at *
    generalize nlen l0 = nl22 at *
    clear hrow22
    have h0 := h0.keep hB22
    have h1 := h1.keep hB22
    have h2 := h2.keep hB22
    have hr14 := hr14.keep hB22
    have hr17 := hr17.keep hB22
    have hr18 := hr18.keep hB22
    have hr19 := hr19.keep hB22
    have HB := join HB hB22
    clear hB22
    have q23 : r18 = r22 := isN_unique hI18 (by rw [show (((val l0) * (val l1)) / (val l1)) = (val l0) from by exact Int.mul_ediv_cancel _ HZ.out]; exact hI22)
    have tH23 := helpNat ar18 r18.length cr18 br18 or18 _ nl22 nl22 _ 0 r18 r22 _ rfl hL22 (by omega) (by omega) hr18 hr22
    rw [eqB_true q23] at tH23
    clear q23
    go_wp2_with fail
    refine tH23.mono ?_
    rintro e x23 ⟨rfl, hB23⟩
    have h0 := h0.keep hB23
    have h1 := h1.keep hB23
    have h2 := h2.keep hB23
    have hr14 := hr14.keep hB23
    have hr17 := hr17.keep hB23
    have hr19 := hr19.keep hB23
    have HB := join HB hB23
    clear hB23 tH23
    have hzz : r19 = [] := isN_unique hI19 (by rw [Int.mul_emod_left]; exact isN_nil)
    subst hzz
    go_wp2
    go_ret
    exact ⟨rfl, HB⟩
end natRest
end Go.Proofs.YtmmjiaeppnbfkabDoor
