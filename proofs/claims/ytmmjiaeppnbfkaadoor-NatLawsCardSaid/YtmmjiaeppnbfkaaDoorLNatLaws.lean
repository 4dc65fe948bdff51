/- gleanlaw1.NatLaws returns true for all lists of limbs. -/
import Derived.Test.YtmmjiaeppnbfkaaDoorKnown
import Derived.Test.YtmmjiaeppnbfkaaDoorSmall
namespace Go.Proofs.YtmmjiaeppnbfkaaDoor
namespace natLaws
open Go.RowKit Lim

set_option maxHeartbeats 8000000 in
set_option maxRecDepth 100000 in
theorem walk (a0 : Option Addr) (len0 cap0 : Nat) (z0 : List Int) (a1 : Option Addr) (len1 cap1 : Nat) (z1 : List Int) (a2 : Option Addr) (len2 cap2 : Nat) (z2 : List Int) (w : World) (w0 : IsRow w a0 len0 cap0 z0) (w1 : IsRow w a1 len1 cap1 z1) (w2 : IsRow w a2 len2 cap2 z2) :
    Calls Tryd.prog 8 #[.slice a0 len0 cap0, .slice a1 len1 cap1, .slice a2 len2 cap2] w fun e w' => e = .returned (.bool true) ∧ Below w.heap.size w w' := by
  obtain ⟨b0, o0, l0, hl0, hc0, hm0, W0, h0⟩ := w0.open
  obtain ⟨b1, o1, l1, hl1, hc1, hm1, W1, h1⟩ := w1.open
  obtain ⟨b2, o2, l2, hl2, hc2, hm2, W2, h2⟩ := w2.open
  clear w0 w1 w2
  go_enter Tryd.func8, Tryd.ntmps8
  go_wp2_with fail
  refine (known_any w).mono ?_
  rintro e u1 ⟨rfl, HB⟩
  have h0 := h0.keep HB
  have h1 := h1.keep HB
  have h2 := h2.keep HB
  have b1 := below_alloc u1 (.cells #[.slice a0 len0 cap0, .slice a1 len1 cap1, .slice a2 len2 cap2] 23)
  have tS := small_any [(a0, len0, cap0), (a1, len1, cap1), (a2, len2, cap2)] u1.heap.size 3 3 (u1.alloc (.cells #[.slice a0 len0 cap0, .slice a1 len1 cap1, .slice a2 len2 cap2] 23)) rfl (by decide)
    (fun i => by
      match i with
      | 0 => exact hm0
      | 1 => exact hm1
      | 2 => exact hm2
      | _ + 3 => exact Nat.zero_le _)
    (fun i hi => by
      rw [cell_new]
      match i, hi with
      | 0, _ => rfl
      | 1, _ => rfl
      | 2, _ => rfl)
  go_wp2_with fail
  refine tS.mono ?_
  rintro e u2 ⟨rfl, rfl⟩
  clear tS
  have h0 := h0.keep b1
  have h1 := h1.keep b1
  have h2 := h2.keep b1
  have HB := join HB b1
  clear b1
  generalize u1.alloc (.cells #[.slice a0 len0 cap0, .slice a1 len1 cap1, .slice a2 len2 cap2] 23) = u2 at *
  by_cases hsm : smallB [(a0, len0, cap0), (a1, len1, cap1), (a2, len2, cap2)] = true
  rotate_left
  · have hsf : smallB [(a0, len0, cap0), (a1, len1, cap1), (a2, len2, cap2)] = false := by rw [Bool.not_eq_true] at hsm; exact hsm
    rw [hsf]
    go_wp2
    go_ret
    exact ⟨rfl, HB⟩
  rw [hsm]
  simp only [smallB, List.all_cons, List.all_nil, Bool.and_true, Bool.and_eq_true, decide_eq_true_eq] at hsm
  obtain ⟨hs0, hs1, hs2⟩ := hsm
  go_wp2_with fail
  refine (add_any a0 len0 cap0 b0 o0 a1 len1 cap1 b1 o1 l0 l1 _ hl0 hl1 hc0 hc1 (by omega) (by omega) W0 W1 h0 h1).mono ?_
  rintro e x1 ⟨v1, r1, rfl, hn1, hI1, hlen1, hB1⟩
  obtain ⟨ar1, br1, or1, cr1, rfl, hcr1, _, hr1, _⟩ := hn1.is
  have h0 := h0.keep hB1
  have h1 := h1.keep hB1
  have h2 := h2.keep hB1
  have HB := join HB hB1
  clear hB1 hn1
  go_wp2_with fail
  refine (add_any a1 len1 cap1 b1 o1 a0 len0 cap0 b0 o0 l1 l0 _ hl1 hl0 hc1 hc0 (by omega) (by omega) W1 W0 h1 h0).mono ?_
  rintro e x2 ⟨v2, r2, rfl, hn2, hI2, hlen2, hB2⟩
  obtain ⟨ar2, br2, or2, cr2, rfl, hcr2, _, hr2, _⟩ := hn2.is
  have h0 := h0.keep hB2
  have h1 := h1.keep hB2
  have h2 := h2.keep hB2
  have hr1 := hr1.keep hB2
  have HB := join HB hB2
  clear hB2 hn2
  have q3 : r1 = r2 := isN_unique hI1 (by rw [show ((val l0) + (val l1)) = ((val l1) + (val l0)) from by omega]; exact hI2)
  have tH3 := helpNat ar1 r1.length cr1 br1 or1 ar2 r2.length cr2 br2 or2 r1 r2 _ rfl rfl (by omega) (by omega) hr1 hr2
  rw [eqB_true q3] at tH3
  clear q3
  go_wp2_with fail
  refine tH3.mono ?_
  rintro e x3 ⟨rfl, hB3⟩
  have h0 := h0.keep hB3
  have h1 := h1.keep hB3
  have h2 := h2.keep hB3
  have hr1 := hr1.keep hB3
  have HB := join HB hB3
  clear hB3 tH3
  go_wp2_with fail
  refine (mul_any a0 len0 cap0 b0 o0 a1 len1 cap1 b1 o1 l0 l1 _ hl0 hl1 hc0 hc1 (by omega) (by omega) W0 W1 h0 h1).mono ?_
  rintro e x4 ⟨v4, r4, rfl, hn4, hI4, hlen4, hB4⟩
  obtain ⟨ar4, br4, or4, cr4, rfl, hcr4, _, hr4, _⟩ := hn4.is
  have h0 := h0.keep hB4
  have h1 := h1.keep hB4
  have h2 := h2.keep hB4
  have hr1 := hr1.keep hB4
  have HB := join HB hB4
  clear hB4 hn4
  go_wp2_with fail
  refine (mul_any a1 len1 cap1 b1 o1 a0 len0 cap0 b0 o0 l1 l0 _ hl1 hl0 hc1 hc0 (by omega) (by omega) W1 W0 h1 h0).mono ?_
  rintro e x5 ⟨v5, r5, rfl, hn5, hI5, hlen5, hB5⟩
  obtain ⟨ar5, br5, or5, cr5, rfl, hcr5, _, hr5, _⟩ := hn5.is
  have h0 := h0.keep hB5
  have h1 := h1.keep hB5
  have h2 := h2.keep hB5
  have hr1 := hr1.keep hB5
  have hr4 := hr4.keep hB5
  have HB := join HB hB5
  clear hB5 hn5
  have q6 : r4 = r5 := isN_unique hI4 (by rw [show ((val l0) * (val l1)) = ((val l1) * (val l0)) from by exact Int.mul_comm _ _]; exact hI5)
  have tH6 := helpNat ar4 r4.length cr4 br4 or4 ar5 r5.length cr5 br5 or5 r4 r5 _ rfl rfl (by omega) (by omega) hr4 hr5
  rw [eqB_true q6] at tH6
  clear q6
  go_wp2_with fail
  refine tH6.mono ?_
  rintro e x6 ⟨rfl, hB6⟩
  have h0 := h0.keep hB6
  have h1 := h1.keep hB6
  have h2 := h2.keep hB6
  have hr1 := hr1.keep hB6
  have HB := join HB hB6
  clear hB6 tH6
  go_wp2_with fail
  refine (add_any ar1 r1.length cr1 br1 or1 a2 len2 cap2 b2 o2 r1 l2 _ rfl hl2 hcr1 hc2 (by omega) (by omega) hI1.1 W2 hr1 h2).mono ?_
  rintro e x7 ⟨v7, r7, rfl, hn7, hI7, hlen7, hB7⟩
  rw [hI1.2.2] at hI7
  obtain ⟨ar7, br7, or7, cr7, rfl, hcr7, _, hr7, _⟩ := hn7.is
  have h0 := h0.keep hB7
  have h1 := h1.keep hB7
  have h2 := h2.keep hB7
  have hr1 := hr1.keep hB7
  have HB := join HB hB7
  clear hB7 hn7
  go_wp2_with fail
  refine (add_any a1 len1 cap1 b1 o1 a2 len2 cap2 b2 o2 l1 l2 _ hl1 hl2 hc1 hc2 (by omega) (by omega) W1 W2 h1 h2).mono ?_
  rintro e x8 ⟨v8, r8, rfl, hn8, hI8, hlen8, hB8⟩
  obtain ⟨ar8, br8, or8, cr8, rfl, hcr8, _, hr8, _⟩ := hn8.is
  have h0 := h0.keep hB8
  have h1 := h1.keep hB8
  have h2 := h2.keep hB8
  have hr1 := hr1.keep hB8
  have hr7 := hr7.keep hB8
  have HB := join HB hB8
  clear hB8 hn8
  go_wp2_with fail
  refine (add_any a0 len0 cap0 b0 o0 ar8 r8.length cr8 br8 or8 l0 r8 _ hl0 rfl hc0 hcr8 (by omega) (by omega) W0 hI8.1 h0 hr8).mono ?_
  rintro e x9 ⟨v9, r9, rfl, hn9, hI9, hlen9, hB9⟩
  rw [hI8.2.2] at hI9
  obtain ⟨ar9, br9, or9, cr9, rfl, hcr9, _, hr9, _⟩ := hn9.is
  have h0 := h0.keep hB9
  have h1 := h1.keep hB9
  have h2 := h2.keep hB9
  have hr1 := hr1.keep hB9
  have hr7 := hr7.keep hB9
  have hr8 := hr8.keep hB9
  have HB := join HB hB9
  clear hB9 hn9
  have q10 : r7 = r9 := isN_unique hI7 (by rw [show (((val l0) + (val l1)) + (val l2)) = ((val l0) + ((val l1) + (val l2))) from by omega]; exact hI9)
  have tH10 := helpNat ar7 r7.length cr7 br7 or7 ar9 r9.length cr9 br9 or9 r7 r9 _ rfl rfl (by omega) (by omega) hr7 hr9
  rw [eqB_true q10] at tH10
  clear q10
  go_wp2_with fail
  refine tH10.mono ?_
  rintro e x10 ⟨rfl, hB10⟩
  have h0 := h0.keep hB10
  have h1 := h1.keep hB10
  have h2 := h2.keep hB10
  have hr1 := hr1.keep hB10
  have HB := join HB hB10
  clear hB10 tH10
  go_wp2_with fail
  refine (mul_any a0 len0 cap0 b0 o0 a1 len1 cap1 b1 o1 l0 l1 _ hl0 hl1 hc0 hc1 (by omega) (by omega) W0 W1 h0 h1).mono ?_
  rintro e x11 ⟨v11, r11, rfl, hn11, hI11, hlen11, hB11⟩
  obtain ⟨ar11, br11, or11, cr11, rfl, hcr11, _, hr11, _⟩ := hn11.is
  have h0 := h0.keep hB11
  have h1 := h1.keep hB11
  have h2 := h2.keep hB11
  have hr1 := hr1.keep hB11
  have HB := join HB hB11
  clear hB11 hn11
  go_wp2_with fail
  refine (mul_any ar11 r11.length cr11 br11 or11 a2 len2 cap2 b2 o2 r11 l2 _ rfl hl2 hcr11 hc2 (by omega) (by omega) hI11.1 W2 hr11 h2).mono ?_
  rintro e x12 ⟨v12, r12, rfl, hn12, hI12, hlen12, hB12⟩
  rw [hI11.2.2] at hI12
  obtain ⟨ar12, br12, or12, cr12, rfl, hcr12, _, hr12, _⟩ := hn12.is
  have h0 := h0.keep hB12
  have h1 := h1.keep hB12
  have h2 := h2.keep hB12
  have hr1 := hr1.keep hB12
  have hr11 := hr11.keep hB12
  have HB := join HB hB12
  clear hB12 hn12
  go_wp2_with fail
  refine (mul_any a1 len1 cap1 b1 o1 a2 len2 cap2 b2 o2 l1 l2 _ hl1 hl2 hc1 hc2 (by omega) (by omega) W1 W2 h1 h2).mono ?_
  rintro e x13 ⟨v13, r13, rfl, hn13, hI13, hlen13, hB13⟩
  obtain ⟨ar13, br13, or13, cr13, rfl, hcr13, _, hr13, _⟩ := hn13.is
  have h0 := h0.keep hB13
  have h1 := h1.keep hB13
  have h2 := h2.keep hB13
  have hr1 := hr1.keep hB13
  have hr11 := hr11.keep hB13
  have hr12 := hr12.keep hB13
  have HB := join HB hB13
  clear hB13 hn13
  go_wp2_with fail
  refine (mul_any a0 len0 cap0 b0 o0 ar13 r13.length cr13 br13 or13 l0 r13 _ hl0 rfl hc0 hcr13 (by omega) (by omega) W0 hI13.1 h0 hr13).mono ?_
  rintro e x14 ⟨v14, r14, rfl, hn14, hI14, hlen14, hB14⟩
  rw [hI13.2.2] at hI14
  obtain ⟨ar14, br14, or14, cr14, rfl, hcr14, _, hr14, _⟩ := hn14.is
  have h0 := h0.keep hB14
  have h1 := h1.keep hB14
  have h2 := h2.keep hB14
  have hr1 := hr1.keep hB14
  have hr11 := hr11.keep hB14
  have hr12 := hr12.keep hB14
  have hr13 := hr13.keep hB14
  have HB := join HB hB14
  clear hB14 hn14
  have q15 : r12 = r14 := isN_unique hI12 (by rw [show (((val l0) * (val l1)) * (val l2)) = ((val l0) * ((val l1) * (val l2))) from by exact Int.mul_assoc _ _ _]; exact hI14)
  have tH15 := helpNat ar12 r12.length cr12 br12 or12 ar14 r14.length cr14 br14 or14 r12 r14 _ rfl rfl (by omega) (by omega) hr12 hr14
  rw [eqB_true q15] at tH15
  clear q15
  go_wp2_with fail
  refine tH15.mono ?_
  rintro e x15 ⟨rfl, hB15⟩
  have h0 := h0.keep hB15
  have h1 := h1.keep hB15
  have h2 := h2.keep hB15
  have hr1 := hr1.keep hB15
  have HB := join HB hB15
  clear hB15 tH15
  go_wp2_with fail
  refine (add_any a1 len1 cap1 b1 o1 a2 len2 cap2 b2 o2 l1 l2 _ hl1 hl2 hc1 hc2 (by omega) (by omega) W1 W2 h1 h2).mono ?_
  rintro e x16 ⟨v16, r16, rfl, hn16, hI16, hlen16, hB16⟩
  obtain ⟨ar16, br16, or16, cr16, rfl, hcr16, _, hr16, _⟩ := hn16.is
  have h0 := h0.keep hB16
  have h1 := h1.keep hB16
  have h2 := h2.keep hB16
  have hr1 := hr1.keep hB16
  have HB := join HB hB16
  clear hB16 hn16
  go_wp2_with fail
  refine (mul_any a0 len0 cap0 b0 o0 ar16 r16.length cr16 br16 or16 l0 r16 _ hl0 rfl hc0 hcr16 (by omega) (by omega) W0 hI16.1 h0 hr16).mono ?_
  rintro e x17 ⟨v17, r17, rfl, hn17, hI17, hlen17, hB17⟩
  rw [hI16.2.2] at hI17
  obtain ⟨ar17, br17, or17, cr17, rfl, hcr17, _, hr17, _⟩ := hn17.is
  have h0 := h0.keep hB17
  have h1 := h1.keep hB17
  have h2 := h2.keep hB17
  have hr1 := hr1.keep hB17
  have hr16 := hr16.keep hB17
  have HB := join HB hB17
  clear hB17 hn17
  go_wp2_with fail
  refine (mul_any a0 len0 cap0 b0 o0 a1 len1 cap1 b1 o1 l0 l1 _ hl0 hl1 hc0 hc1 (by omega) (by omega) W0 W1 h0 h1).mono ?_
  rintro e x18 ⟨v18, r18, rfl, hn18, hI18, hlen18, hB18⟩
  obtain ⟨ar18, br18, or18, cr18, rfl, hcr18, _, hr18, _⟩ := hn18.is
  have h0 := h0.keep hB18
  have h1 := h1.keep hB18
  have h2 := h2.keep hB18
  have hr1 := hr1.keep hB18
  have hr16 := hr16.keep hB18
  have hr17 := hr17.keep hB18
  have HB := join HB hB18
  clear hB18 hn18
  go_wp2_with fail
  refine (mul_any a0 len0 cap0 b0 o0 a2 len2 cap2 b2 o2 l0 l2 _ hl0 hl2 hc0 hc2 (by omega) (by omega) W0 W2 h0 h2).mono ?_
  rintro e x19 ⟨v19, r19, rfl, hn19, hI19, hlen19, hB19⟩
  obtain ⟨ar19, br19, or19, cr19, rfl, hcr19, _, hr19, _⟩ := hn19.is
  have h0 := h0.keep hB19
  have h1 := h1.keep hB19
  have h2 := h2.keep hB19
  have hr1 := hr1.keep hB19
  have hr16 := hr16.keep hB19
  have hr17 := hr17.keep hB19
  have hr18 := hr18.keep hB19
  have HB := join HB hB19
  clear hB19 hn19
  go_wp2_with fail
  refine (add_any ar18 r18.length cr18 br18 or18 ar19 r19.length cr19 br19 or19 r18 r19 _ rfl rfl hcr18 hcr19 (by omega) (by omega) hI18.1 hI19.1 hr18 hr19).mono ?_
  rintro e x20 ⟨v20, r20, rfl, hn20, hI20, hlen20, hB20⟩
  rw [hI18.2.2, hI19.2.2] at hI20
  obtain ⟨ar20, br20, or20, cr20, rfl, hcr20, _, hr20, _⟩ := hn20.is
  have h0 := h0.keep hB20
  have h1 := h1.keep hB20
  have h2 := h2.keep hB20
  have hr1 := hr1.keep hB20
  have hr16 := hr16.keep hB20
  have hr17 := hr17.keep hB20
  have hr18 := hr18.keep hB20
  have hr19 := hr19.keep hB20
  have HB := join HB hB20
  clear hB20 hn20
  have q21 : r17 = r20 := isN_unique hI17 (by rw [show ((val l0) * ((val l1) + (val l2))) = (((val l0) * (val l1)) + ((val l0) * (val l2))) from by exact Int.mul_add _ _ _]; exact hI20)
  have tH21 := helpNat ar17 r17.length cr17 br17 or17 ar20 r20.length cr20 br20 or20 r17 r20 _ rfl rfl (by omega) (by omega) hr17 hr20
  rw [eqB_true q21] at tH21
  clear q21
  go_wp2_with fail
  refine tH21.mono ?_
  rintro e x21 ⟨rfl, hB21⟩
  have h0 := h0.keep hB21
  have h1 := h1.keep hB21
  have h2 := h2.keep hB21
  have hr1 := hr1.keep hB21
  have HB := join HB hB21
  clear hB21 tH21
  have v0 := val_nonneg W0
  have v1 := val_nonneg W1
  go_wp2_with fail
  refine (sub_ge ar1 r1.length cr1 br1 or1 a1 len1 cap1 b1 o1 r1 l1 _ rfl hl1 hcr1 hc1 (by omega) (by omega) hI1.1 W1 hr1 h1 (by rw [hI1.2.2]; omega)).mono ?_
  rintro e x22 ⟨v22, r22, rfl, hn22, hI22, hlen22, hB22⟩
  rw [hI1.2.2] at hI22
  obtain ⟨ar22, br22, or22, cr22, rfl, hcr22, _, hr22, _⟩ := hn22.is
  have h0 := h0.keep hB22
  have h1 := h1.keep hB22
  have h2 := h2.keep hB22
  have hr1 := hr1.keep hB22
  have HB := join HB hB22
  clear hB22 hn22
  go_wp2_with fail
  refine (of_any 1 _ (by decide) (by decide)).mono ?_
  rintro e x23 ⟨v23, r23, rfl, hn23, hI23, hlen23, hB23⟩
  obtain ⟨ar23, br23, or23, cr23, rfl, hcr23, _, hr23, _⟩ := hn23.is
  have h0 := h0.keep hB23
  have h1 := h1.keep hB23
  have h2 := h2.keep hB23
  have hr1 := hr1.keep hB23
  have hr22 := hr22.keep hB23
  have HB := join HB hB23
  clear hB23 hn23
  go_wp2_with fail
  refine (add_any ar1 r1.length cr1 br1 or1 ar23 r23.length cr23 br23 or23 r1 r23 _ rfl rfl hcr1 hcr23 (by omega) (by omega) hI1.1 hI23.1 hr1 hr23).mono ?_
  rintro e x24 ⟨v24, r24, rfl, hn24, hI24, hlen24, hB24⟩
  rw [hI1.2.2, hI23.2.2] at hI24
  obtain ⟨ar24, br24, or24, cr24, rfl, hcr24, _, hr24, _⟩ := hn24.is
  have h0 := h0.keep hB24
  have h1 := h1.keep hB24
  have h2 := h2.keep hB24
  have hr1 := hr1.keep hB24
  have hr22 := hr22.keep hB24
  have hr23 := hr23.keep hB24
  have HB := join HB hB24
  clear hB24 hn24
  go_wp2_with fail
  refine (sub_lt a0 len0 cap0 b0 o0 ar24 r24.length cr24 br24 or24 l0 r24 _ hl0 rfl hc0 hcr24 (by omega) (by omega) W0 hI24.1 h0 hr24 (by rw [hI24.2.2]; omega)).mono ?_
  rintro e x25 ⟨rfl, hB25⟩
  have h0 := h0.keep hB25
  have h1 := h1.keep hB25
  have h2 := h2.keep hB25
  have hr1 := hr1.keep hB25
  have hr22 := hr22.keep hB25
  have HB := join HB hB25
  clear hB25
  go_wp2_with fail
  refine (norm_any a0 len0 cap0 b0 o0 l0 _ hl0 hc0 (by omega) h0).mono ?_
  rintro e x26 ⟨rfl, hrow26, hB26⟩
  have hI26 := isN_norm W0
  have hr26 := hrow26.at
  have hlen26 := nlen_le l0
  have hL26 := norm_length l0
  generalize norm l0 = r26 at *
  generalize nlen l0 = nl26 at *
  clear hrow26
  have h0 := h0.keep hB26
  have h1 := h1.keep hB26
  have h2 := h2.keep hB26
  have hr1 := hr1.keep hB26
  have hr22 := hr22.keep hB26
  have HB := join HB hB26
  clear hB26
  have q27 : r22 = r26 := isN_unique hI22 (by rw [show (val l0 + val l1 - val l1) = (val l0) from by omega]; exact hI26)
  have tH27 := helpNat ar22 r22.length cr22 br22 or22 _ nl26 nl26 _ 0 r22 r26 _ rfl hL26 (by omega) (by omega) hr22 hr26
  rw [eqB_true q27] at tH27
  clear q27
  go_wp2_with fail
  refine tH27.mono ?_
  rintro e x27 ⟨rfl, hB27⟩
  have h0 := h0.keep hB27
  have h1 := h1.keep hB27
  have h2 := h2.keep hB27
  have hr1 := hr1.keep hB27
  have HB := join HB hB27
  clear hB27 tH27
  go_wp2_with fail
  refine (normal_any ar1 r1.length cr1 br1 or1 r1 _ _ rfl (by omega) hI1 hr1).mono ?_
  rintro e x28 ⟨rfl, rfl⟩
  have tC29 := cmp_any ar1 r1.length cr1 br1 or1 a0 len0 cap0 b0 o0 r1 l0 _ rfl hl0 hcr1 hc0 (by omega) (by omega) hI1.1 W0 hr1 h0
  rw [hI1.2.2] at tC29
  have hsg29 : 0 ≤ (sgn ((val l0) + (val l1)) (val l0)) := by unfold sgn; split <;> (try split) <;> omega
  generalize sgn ((val l0) + (val l1)) (val l0) = sg29 at *
  go_wp2_with fail
  refine tC29.mono ?_
  rintro e x29 ⟨rfl, hB29⟩
  have h0 := h0.keep hB29
  have h1 := h1.keep hB29
  have h2 := h2.keep hB29
  have hr1 := hr1.keep hB29
  have HB := join HB hB29
  clear hB29 tC29
  have tC30 := cmp_any a0 len0 cap0 b0 o0 ar1 r1.length cr1 br1 or1 l0 r1 _ hl0 rfl hc0 hcr1 (by omega) (by omega) W0 hI1.1 h0 hr1
  rw [hI1.2.2] at tC30
  have hsg30 : (sgn (val l0) ((val l0) + (val l1))) ≤ 0 := by unfold sgn; split <;> (try split) <;> omega
  generalize sgn (val l0) ((val l0) + (val l1)) = sg30 at *
  go_wp2_with fail
  refine tC30.mono ?_
  rintro e x30 ⟨rfl, hB30⟩
  have h0 := h0.keep hB30
  have h1 := h1.keep hB30
  have h2 := h2.keep hB30
  have hr1 := hr1.keep hB30
  have HB := join HB hB30
  clear hB30 tC30
  by_cases hab : val l0 = val l1
  · have tC31 := cmp_any a0 len0 cap0 b0 o0 a1 len1 cap1 b1 o1 l0 l1 _ hl0 hl1 hc0 hc1 (by omega) (by omega) W0 W1 h0 h1
    rw [sgn_eq hab] at tC31
    go_wp2_with fail
    refine tC31.mono ?_
    rintro e x31 ⟨rfl, hB31⟩
    have h0 := h0.keep hB31
    have h1 := h1.keep hB31
    have h2 := h2.keep hB31
    have hr1 := hr1.keep hB31
    have HB := join HB hB31
    clear hB31 tC31
    go_wp2_with fail
    refine (norm_any a0 len0 cap0 b0 o0 l0 _ hl0 hc0 (by omega) h0).mono ?_
    rintro e x32 ⟨rfl, hrow32, hB32⟩
    have hI32 := isN_norm W0
    have hr32 := hrow32.at
    have hlen32 := nlen_le l0
    have hL32 := norm_length l0
    generalize norm l0 = r32 at *
    generalize nlen l0 = nl32 at *
    clear hrow32
    have h0 := h0.keep hB32
    have h1 := h1.keep hB32
    have h2 := h2.keep hB32
    have hr1 := hr1.keep hB32
    have HB := join HB hB32
    clear hB32
    go_wp2_with fail
    refine (norm_any a1 len1 cap1 b1 o1 l1 _ hl1 hc1 (by omega) h1).mono ?_
    rintro e x33 ⟨rfl, hrow33, hB33⟩
    have hI33 := isN_norm W1
    have hr33 := hrow33.at
    have hlen33 := nlen_le l1
    have hL33 := norm_length l1
    generalize norm l1 = r33 at *
    generalize nlen l1 = nl33 at *
    clear hrow33
    have h0 := h0.keep hB33
    have h1 := h1.keep hB33
    have h2 := h2.keep hB33
    have hr1 := hr1.keep hB33
    have hr32 := hr32.keep hB33
    have HB := join HB hB33
    clear hB33
    have q34 : eqB r32 r33 = true := eqB_true (isN_unique hI32 (by rw [hab]; exact hI33))
    have tH34 := helpNat _ nl32 nl32 _ 0 _ nl33 nl33 _ 0 r32 r33 _ hL32 hL33 (by omega) (by omega) hr32 hr33
    rw [q34] at tH34
    clear q34
    have HAB := (show Hid _ from hab)
    clear hab
    go_wp2_with fail
    refine tH34.mono ?_
    rintro e x34 ⟨rfl, hB34⟩
    have HB := join HB hB34
    clear hB34 tH34
    go_wp2
    go_ret
    exact ⟨rfl, HB⟩
  · have tC35 := cmp_any a0 len0 cap0 b0 o0 a1 len1 cap1 b1 o1 l0 l1 _ hl0 hl1 hc0 hc1 (by omega) (by omega) W0 W1 h0 h1
    have hsg35 : ((sgn (val l0) (val l1)) == 0) = false := by rw [beq_eq_false_iff_ne]; unfold sgn; split <;> (try split) <;> omega
    generalize sgn (val l0) (val l1) = sg35 at *
    go_wp2_with fail
    refine tC35.mono ?_
    rintro e x35 ⟨rfl, hB35⟩
    have h0 := h0.keep hB35
    have h1 := h1.keep hB35
    have h2 := h2.keep hB35
    have hr1 := hr1.keep hB35
    have HB := join HB hB35
    clear hB35 tC35
    go_wp2_with fail
    refine (norm_any a0 len0 cap0 b0 o0 l0 _ hl0 hc0 (by omega) h0).mono ?_
    rintro e x36 ⟨rfl, hrow36, hB36⟩
    have hI36 := isN_norm W0
    have hr36 := hrow36.at
    have hlen36 := nlen_le l0
    have hL36 := norm_length l0
    generalize norm l0 = r36 at *
    generalize nlen l0 = nl36 at *
    clear hrow36
    have h0 := h0.keep hB36
    have h1 := h1.keep hB36
    have h2 := h2.keep hB36
    have hr1 := hr1.keep hB36
    have HB := join HB hB36
    clear hB36
    go_wp2_with fail
    refine (norm_any a1 len1 cap1 b1 o1 l1 _ hl1 hc1 (by omega) h1).mono ?_
    rintro e x37 ⟨rfl, hrow37, hB37⟩
    have hI37 := isN_norm W1
    have hr37 := hrow37.at
    have hlen37 := nlen_le l1
    have hL37 := norm_length l1
    generalize norm l1 = r37 at *
    generalize nlen l1 = nl37 at *
    clear hrow37
    have h0 := h0.keep hB37
    have h1 := h1.keep hB37
    have h2 := h2.keep hB37
    have hr1 := hr1.keep hB37
    have hr36 := hr36.keep hB37
    have HB := join HB hB37
    clear hB37
    have q38 : eqB r36 r37 = false := eqB_false (fun e => hab (by rw [← hI36.2.2, ← hI37.2.2, e]))
    have tH38 := helpNat _ nl36 nl36 _ 0 _ nl37 nl37 _ 0 r36 r37 _ hL36 hL37 (by omega) (by omega) hr36 hr37
    rw [q38] at tH38
    clear q38
    have HAB := (show Hid _ from hab)
    clear hab
    go_wp2_with fail
    refine tH38.mono ?_
    rintro e x38 ⟨rfl, hB38⟩
    have HB := join HB hB38
    clear hB38 tH38
    go_wp2
    go_ret
    exact ⟨rfl, HB⟩
end natLaws
end Go.Proofs.YtmmjiaeppnbfkaaDoor
