/- gleanlaw1.NatOrder returns true for all lists of limbs. -/
import Derived.Test.YtmmjiaeppnbfkabDoorKnown
import Derived.Test.YtmmjiaeppnbfkabDoorSmall
import Derived.Test.YtmmjiaeppnbfkabDoorCopyN
namespace Go.Proofs.YtmmjiaeppnbfkabDoor
namespace natOrder
open Go.RowKit Lim

set_option maxHeartbeats 8000000 in
set_option maxRecDepth 100000 in
theorem walk (a0 : Option Addr) (len0 cap0 : Nat) (z0 : List Int) (a1 : Option Addr) (len1 cap1 : Nat) (z1 : List Int) (a2 : Option Addr) (len2 cap2 : Nat) (z2 : List Int) (w : World) (w0 : IsRow w a0 len0 cap0 z0) (w1 : IsRow w a1 len1 cap1 z1) (w2 : IsRow w a2 len2 cap2 z2) :
    Calls Tryd.prog 6 #[.slice a0 len0 cap0, .slice a1 len1 cap1, .slice a2 len2 cap2] w fun e w' => e = .returned (.bool true) ∧ Below w.heap.size w w' := by
  obtain ⟨b0, o0, l0, hl0, hc0, hm0, W0, h0⟩ := w0.open
  have hnil0 := (show Hid (a0 = none → cap0 = 0) from isRow_nil w0)
  obtain ⟨b1, o1, l1, hl1, hc1, hm1, W1, h1⟩ := w1.open
  obtain ⟨b2, o2, l2, hl2, hc2, hm2, W2, h2⟩ := w2.open
  clear w0 w1 w2
  go_enter Tryd.func6, Tryd.ntmps6
  go_wp2_with fail
  refine (known_any w).mono ?_
  rintro e u1 ⟨rfl, HB⟩
  have h0 := h0.keep HB
  have h1 := h1.keep HB
  have h2 := h2.keep HB
  have b1 := below_alloc u1 (.cells #[.slice a0 len0 cap0, .slice a1 len1 cap1, .slice a2 len2 cap2] 23)
  have tS := small_any [(a0, len0, cap0), (a1, len1, cap1), (a2, len2, cap2)] u1.heap.size 3 3 (u1.alloc (.cells #[.slice a0 len0 cap0, .slice a1 len1 cap1, .slice a2 len2 cap2] 23)) rfl (by decide)
    (fun i => by
      match i with
      | 0 => exact hm0
      | 1 => exact hm1
      | 2 => exact hm2
      | _ + 3 => exact Nat.zero_le _)
    (fun i hi => by
      rw [cell_new]
      match i, hi with
      | 0, _ => rfl
      | 1, _ => rfl
      | 2, _ => rfl)
  go_wp2_with fail
  refine tS.mono ?_
  rintro e u2 ⟨rfl, rfl⟩
  clear tS
  have h0 := h0.keep b1
  have h1 := h1.keep b1
  have h2 := h2.keep b1
  have HB := join HB b1
  clear b1
  generalize u1.alloc (.cells #[.slice a0 len0 cap0, .slice a1 len1 cap1, .slice a2 len2 cap2] 23) = u2 at *
  by_cases hsm : smallB [(a0, len0, cap0), (a1, len1, cap1), (a2, len2, cap2)] = true
  rotate_left
  · have hsf : smallB [(a0, len0, cap0), (a1, len1, cap1), (a2, len2, cap2)] = false := by rw [Bool.not_eq_true] at hsm; exact hsm
    rw [hsf]
    go_wp2
    go_ret
    exact ⟨rfl, HB⟩
  rw [hsm]
  simp only [smallB, List.all_cons, List.all_nil, Bool.and_true, Bool.and_eq_true, decide_eq_true_eq] at hsm
  obtain ⟨hs0, hs1, hs2⟩ := hsm
  have v0 := val_nonneg W0
  have v1 := val_nonneg W1
  have v2 := val_nonneg W2
  obtain ⟨LA, hLA⟩ : ∃ LA, bitLen (val l0).toNat = LA := ⟨_, rfl⟩
  obtain ⟨LB, hLB⟩ : ∃ LB, bitLen (val l1).toNat = LB := ⟨_, rfl⟩
  have hmono : Hid (val l1 ≤ val l0 → LB ≤ LA) := fun h => by rw [← hLA, ← hLB]; exact bitLen_mono (by omega)
  have HLA := (show Hid _ from hLA)
  have HLB := (show Hid _ from hLB)
  clear hLA hLB
  rcases Int.lt_trichotomy (val l0) (val l1) with hx | hx | hx
  · have HX := (show Hid (val l0 < val l1) from hx)
    have tC1 := cmp_any a0 len0 cap0 b0 o0 a1 len1 cap1 b1 o1 l0 l1 _ hl0 hl1 hc0 hc1 (by omega) (by omega) W0 W1 h0 h1
    rw [sgn_lt hx] at tC1
    go_wp2_with fail
    refine tC1.mono ?_
    rintro e x1 ⟨rfl, hB1⟩
    have h0 := h0.keep hB1
    have h1 := h1.keep hB1
    have h2 := h2.keep hB1
    have HB := join HB hB1
    clear hB1 tC1
    have tC2 := cmp_any a1 len1 cap1 b1 o1 a0 len0 cap0 b0 o0 l1 l0 _ hl1 hl0 hc1 hc0 (by omega) (by omega) W1 W0 h1 h0
    rw [sgn_gt hx] at tC2
    go_wp2_with fail
    refine tC2.mono ?_
    rintro e x2 ⟨rfl, hB2⟩
    have h0 := h0.keep hB2
    have h1 := h1.keep hB2
    have h2 := h2.keep hB2
    have HB := join HB hB2
    clear hB2 tC2
    go_wp2_with fail
    refine (sub_lt a0 len0 cap0 b0 o0 a1 len1 cap1 b1 o1 l0 l1 _ hl0 hl1 hc0 hc1 (by omega) (by omega) W0 W1 h0 h1 (by exact hx)).mono ?_
    rintro e x3 ⟨rfl, hB3⟩
    have h0 := h0.keep hB3
    have h1 := h1.keep hB3
    have h2 := h2.keep hB3
    have HB := join HB hB3
    clear hB3
    by_cases hbl : LA < LB
    · have tB4 := bits_any a0 len0 cap0 b0 o0 l0 _ hl0 hc0 (by omega) W0 h0
      rw [HLA.out] at tB4
      go_wp2_with fail
      refine tB4.mono ?_
      rintro e x4 ⟨rfl, hB4⟩
      have h0 := h0.keep hB4
      have h1 := h1.keep hB4
      have h2 := h2.keep hB4
      have HB := join HB hB4
      clear hB4 tB4
      have tB5 := bits_any a1 len1 cap1 b1 o1 l1 _ hl1 hc1 (by omega) W1 h1
      rw [HLB.out] at tB5
      go_wp2_with fail
      refine tB5.mono ?_
      rintro e x5 ⟨rfl, hB5⟩
      have h0 := h0.keep hB5
      have h1 := h1.keep hB5
      have h2 := h2.keep hB5
      have HB := join HB hB5
      clear hB5 tB5
      by_cases hbc : val l1 ≤ val l2
      · have tC6 := cmp_any a1 len1 cap1 b1 o1 a2 len2 cap2 b2 o2 l1 l2 _ hl1 hl2 hc1 hc2 (by omega) (by omega) W1 W2 h1 h2
        have hsg6 : (sgn (val l1) (val l2)) ≤ 0 := by unfold sgn; split <;> (try split) <;> omega
        generalize sgn (val l1) (val l2) = sg6 at *
        go_wp2_with fail
        refine tC6.mono ?_
        rintro e x6 ⟨rfl, hB6⟩
        have h0 := h0.keep hB6
        have h1 := h1.keep hB6
        have h2 := h2.keep hB6
        have HB := join HB hB6
        clear hB6 tC6
        have tC7 := cmp_any a0 len0 cap0 b0 o0 a2 len2 cap2 b2 o2 l0 l2 _ hl0 hl2 hc0 hc2 (by omega) (by omega) W0 W2 h0 h2
        have hsg7 : (sgn (val l0) (val l2)) ≤ 0 := by unfold sgn; have := HX.out; split <;> (try split) <;> omega
        generalize sgn (val l0) (val l2) = sg7 at *
        go_wp2_with fail
        refine tC7.mono ?_
        rintro e x7 ⟨rfl, hB7⟩
        have h0 := h0.keep hB7
        have h1 := h1.keep hB7
        have h2 := h2.keep hB7
        have HB := join HB hB7
        clear hB7 tC7
        go_wp2_with fail
        refine (copy_any a0 len0 cap0 b0 o0 l0 _ hl0 (by omega) hnil0.out h0).mono ?_
        rintro e x8 ⟨cv, rfl, hM, hB8⟩
        have hszc := hB8.size
        obtain ⟨i0, hi, hz0, hz1, hz2⟩ := info_parts info_u64
        have hownc := mine_row hM hl0
        have hgec := own_ge hM
        go_wp2_with (at_builtin; refine wpList_append_own _ rfl _ _ 23 rfl _ 45 i0 (.int .u64 0) 1 8 under_nat hi hz0 hz1 hz2 rfl (by decide) _ _ _ rfl (hownc.alloc _) ⟨x8.heap.size, 0, none⟩ 2 2 [.int .u64 0, .int .u64 0] rfl rfl ?c1 ?c2 ?c3 ?c4 ?c5 ?_)
        case c1 => exact two_new _ _ _
        case c2 => intro u hu; simp at hu; subst hu; rfl
        case c3 => unfold maxLen; omega
        case c4 => omega
        case c5 => simp; omega
        intro lv y8 hownL hgrow _
        have hML := mine_back hl0 hownL
        have hBL := (hB8.alloc (by omega) _).grown hgrow (by simp; omega) hgec
        have hvl : Hid (val (l0 ++ [0, 0]) = val l0) := val_zz l0
        have hWL : Words (l0 ++ [0, 0]) := W0.append (words_zero 2)
        have hlL : (l0 ++ [0, 0]).length ≤ 62 := by simp; omega
        have h0 := h0.keep hBL
        have h1 := h1.keep hBL
        have h2 := h2.keep hBL
        have HB := join HB hBL
        clear hownL hgrow hownc hM hgec hB8 hBL hszc hi hz0 hz1 hz2
        generalize l0 ++ [0, 0] = lL at *
        obtain ⟨aL, cL, rfl, hcL, _, gL, _, _, hL, _⟩ := hML.open
        clear hML
        have tC9 := cmp_any aL lL.length cL gL 0 a0 len0 cap0 b0 o0 lL l0 _ rfl hl0 hcL hc0 (by omega) (by omega) hWL W0 hL h0
        rw [sgn_eq hvl.out] at tC9
        go_wp2_with fail
        refine tC9.mono ?_
        rintro e x9 ⟨rfl, hB9⟩
        have h0 := h0.keep hB9
        have h1 := h1.keep hB9
        have h2 := h2.keep hB9
        have hL := hL.keep hB9
        have HB := join HB hB9
        clear hB9 tC9
        have tC10 := cmp_any aL lL.length cL gL 0 a1 len1 cap1 b1 o1 lL l1 _ rfl hl1 hcL hc1 (by omega) (by omega) hWL W1 hL h1
        rw [hvl.out, sgn_lt HX.out] at tC10
        go_wp2_with fail
        refine tC10.mono ?_
        rintro e x10 ⟨rfl, hB10⟩
        have h0 := h0.keep hB10
        have h1 := h1.keep hB10
        have h2 := h2.keep hB10
        have hL := hL.keep hB10
        have HB := join HB hB10
        clear hB10 tC10
        go_wp2_with fail
        refine (norm_any aL lL.length cL gL 0 lL _ rfl hcL (by omega) hL).mono ?_
        rintro e x11 ⟨rfl, hrow11, hB11⟩
        have hI11 := isN_norm hWL
        have hr11 := hrow11.at
        have hlen11 := nlen_le lL
        have hL11 := norm_length lL
        generalize norm lL = r11 at *
        generalize nlen lL = nl11 at *
        clear hrow11
        have h0 := h0.keep hB11
        have h1 := h1.keep hB11
        have h2 := h2.keep hB11
        have hL := hL.keep hB11
        have HB := join HB hB11
        clear hB11
        go_wp2_with fail
        refine (norm_any a0 len0 cap0 b0 o0 l0 _ hl0 hc0 (by omega) h0).mono ?_
        rintro e x12 ⟨rfl, hrow12, hB12⟩
        have hI12 := isN_norm W0
        have hr12 := hrow12.at
        have hlen12 := nlen_le l0
        have hL12 := norm_length l0
        generalize norm l0 = r12 at *
        generalize nlen l0 = nl12 at *
        clear hrow12
        have h0 := h0.keep hB12
        have h1 := h1.keep hB12
        have h2 := h2.keep hB12
        have hL := hL.keep hB12
        have hr11 := hr11.keep hB12
        have HB := join HB hB12
        clear hB12
        have q13 : r11 = r12 := isN_unique hI11 (by rw [hvl.out]; exact hI12)
        have tH13 := helpNat _ nl11 nl11 _ 0 _ nl12 nl12 _ 0 r11 r12 _ hL11 hL12 (by omega) (by omega) hr11 hr12
        rw [eqB_true q13] at tH13
        clear q13
        go_wp2_with fail
        refine tH13.mono ?_
        rintro e x13 ⟨rfl, hB13⟩
        have h0 := h0.keep hB13
        have h1 := h1.keep hB13
        have h2 := h2.keep hB13
        have hL := hL.keep hB13
        have HB := join HB hB13
        clear hB13 tH13
        have tB14 := bits_any aL lL.length cL gL 0 lL _ rfl hcL (by omega) hWL hL
        rw [hvl.out, HLA.out] at tB14
        go_wp2_with fail
        refine tB14.mono ?_
        rintro e x14 ⟨rfl, hB14⟩
        have h0 := h0.keep hB14
        have h1 := h1.keep hB14
        have h2 := h2.keep hB14
        have hL := hL.keep hB14
        have HB := join HB hB14
        clear hB14 tB14
        have tB15 := bits_any a0 len0 cap0 b0 o0 l0 _ hl0 hc0 (by omega) W0 h0
        rw [HLA.out] at tB15
        go_wp2_with fail
        refine tB15.mono ?_
        rintro e x15 ⟨rfl, hB15⟩
        have h0 := h0.keep hB15
        have h1 := h1.keep hB15
        have h2 := h2.keep hB15
        have hL := hL.keep hB15
        have HB := join HB hB15
        clear hB15 tB15
        go_wp2
        go_ret
        exact ⟨rfl, HB⟩
      · have tC16 := cmp_any a1 len1 cap1 b1 o1 a2 len2 cap2 b2 o2 l1 l2 _ hl1 hl2 hc1 hc2 (by omega) (by omega) W1 W2 h1 h2
        rw [sgn_gt (show val l2 < val l1 by omega)] at tC16
        go_wp2_with fail
        refine tC16.mono ?_
        rintro e x16 ⟨rfl, hB16⟩
        have h0 := h0.keep hB16
        have h1 := h1.keep hB16
        have h2 := h2.keep hB16
        have HB := join HB hB16
        clear hB16 tC16
        go_wp2_with fail
        refine (copy_any a0 len0 cap0 b0 o0 l0 _ hl0 (by omega) hnil0.out h0).mono ?_
        rintro e x17 ⟨cv, rfl, hM, hB17⟩
        have hszc := hB17.size
        obtain ⟨i0, hi, hz0, hz1, hz2⟩ := info_parts info_u64
        have hownc := mine_row hM hl0
        have hgec := own_ge hM
        go_wp2_with (at_builtin; refine wpList_append_own _ rfl _ _ 23 rfl _ 45 i0 (.int .u64 0) 1 8 under_nat hi hz0 hz1 hz2 rfl (by decide) _ _ _ rfl (hownc.alloc _) ⟨x17.heap.size, 0, none⟩ 2 2 [.int .u64 0, .int .u64 0] rfl rfl ?c1 ?c2 ?c3 ?c4 ?c5 ?_)
        case c1 => exact two_new _ _ _
        case c2 => intro u hu; simp at hu; subst hu; rfl
        case c3 => unfold maxLen; omega
        case c4 => omega
        case c5 => simp; omega
        intro lv y17 hownL hgrow _
        have hML := mine_back hl0 hownL
        have hBL := (hB17.alloc (by omega) _).grown hgrow (by simp; omega) hgec
        have hvl : Hid (val (l0 ++ [0, 0]) = val l0) := val_zz l0
        have hWL : Words (l0 ++ [0, 0]) := W0.append (words_zero 2)
        have hlL : (l0 ++ [0, 0]).length ≤ 62 := by simp; omega
        have h0 := h0.keep hBL
        have h1 := h1.keep hBL
        have h2 := h2.keep hBL
        have HB := join HB hBL
        clear hownL hgrow hownc hM hgec hB17 hBL hszc hi hz0 hz1 hz2
        generalize l0 ++ [0, 0] = lL at *
        obtain ⟨aL, cL, rfl, hcL, _, gL, _, _, hL, _⟩ := hML.open
        clear hML
        have tC18 := cmp_any aL lL.length cL gL 0 a0 len0 cap0 b0 o0 lL l0 _ rfl hl0 hcL hc0 (by omega) (by omega) hWL W0 hL h0
        rw [sgn_eq hvl.out] at tC18
        go_wp2_with fail
        refine tC18.mono ?_
        rintro e x18 ⟨rfl, hB18⟩
        have h0 := h0.keep hB18
        have h1 := h1.keep hB18
        have h2 := h2.keep hB18
        have hL := hL.keep hB18
        have HB := join HB hB18
        clear hB18 tC18
        have tC19 := cmp_any aL lL.length cL gL 0 a1 len1 cap1 b1 o1 lL l1 _ rfl hl1 hcL hc1 (by omega) (by omega) hWL W1 hL h1
        rw [hvl.out, sgn_lt HX.out] at tC19
        go_wp2_with fail
        refine tC19.mono ?_
        rintro e x19 ⟨rfl, hB19⟩
        have h0 := h0.keep hB19
        have h1 := h1.keep hB19
        have h2 := h2.keep hB19
        have hL := hL.keep hB19
        have HB := join HB hB19
        clear hB19 tC19
        go_wp2_with fail
        refine (norm_any aL lL.length cL gL 0 lL _ rfl hcL (by omega) hL).mono ?_
        rintro e x20 ⟨rfl, hrow20, hB20⟩
        have hI20 := isN_norm hWL
        have hr20 := hrow20.at
        have hlen20 := nlen_le lL
        have hL20 := norm_length lL
        generalize norm lL = r20 at *
        generalize nlen lL = nl20 at *
        clear hrow20
        have h0 := h0.keep hB20
        have h1 := h1.keep hB20
        have h2 := h2.keep hB20
        have hL := hL.keep hB20
        have HB := join HB hB20
        clear hB20
        go_wp2_with fail
        refine (norm_any a0 len0 cap0 b0 o0 l0 _ hl0 hc0 (by omega) h0).mono ?_
        rintro e x21 ⟨rfl, hrow21, hB21⟩
        have hI21 := isN_norm W0
        have hr21 := hrow21.at
        have hlen21 := nlen_le l0
        have hL21 := norm_length l0
        generalize norm l0 = r21 at *
        generalize nlen l0 = nl21 at *
        clear hrow21
        have h0 := h0.keep hB21
        have h1 := h1.keep hB21
        have h2 := h2.keep hB21
        have hL := hL.keep hB21
        have hr20 := hr20.keep hB21
        have HB := join HB hB21
        clear hB21
        have q22 : r20 = r21 := isN_unique hI20 (by rw [hvl.out]; exact hI21)
        have tH22 := helpNat _ nl20 nl20 _ 0 _ nl21 nl21 _ 0 r20 r21 _ hL20 hL21 (by omega) (by omega) hr20 hr21
        rw [eqB_true q22] at tH22
        clear q22
        go_wp2_with fail
        refine tH22.mono ?_
        rintro e x22 ⟨rfl, hB22⟩
        have h0 := h0.keep hB22
        have h1 := h1.keep hB22
        have h2 := h2.keep hB22
        have hL := hL.keep hB22
        have HB := join HB hB22
        clear hB22 tH22
        have tB23 := bits_any aL lL.length cL gL 0 lL _ rfl hcL (by omega) hWL hL
        rw [hvl.out, HLA.out] at tB23
        go_wp2_with fail
        refine tB23.mono ?_
        rintro e x23 ⟨rfl, hB23⟩
        have h0 := h0.keep hB23
        have h1 := h1.keep hB23
        have h2 := h2.keep hB23
        have hL := hL.keep hB23
        have HB := join HB hB23
        clear hB23 tB23
        have tB24 := bits_any a0 len0 cap0 b0 o0 l0 _ hl0 hc0 (by omega) W0 h0
        rw [HLA.out] at tB24
        go_wp2_with fail
        refine tB24.mono ?_
        rintro e x24 ⟨rfl, hB24⟩
        have h0 := h0.keep hB24
        have h1 := h1.keep hB24
        have h2 := h2.keep hB24
        have hL := hL.keep hB24
        have HB := join HB hB24
        clear hB24 tB24
        go_wp2
        go_ret
        exact ⟨rfl, HB⟩
    · have tB25 := bits_any a0 len0 cap0 b0 o0 l0 _ hl0 hc0 (by omega) W0 h0
      rw [HLA.out] at tB25
      go_wp2_with fail
      refine tB25.mono ?_
      rintro e x25 ⟨rfl, hB25⟩
      have h0 := h0.keep hB25
      have h1 := h1.keep hB25
      have h2 := h2.keep hB25
      have HB := join HB hB25
      clear hB25 tB25
      have tB26 := bits_any a1 len1 cap1 b1 o1 l1 _ hl1 hc1 (by omega) W1 h1
      rw [HLB.out] at tB26
      go_wp2_with fail
      refine tB26.mono ?_
      rintro e x26 ⟨rfl, hB26⟩
      have h0 := h0.keep hB26
      have h1 := h1.keep hB26
      have h2 := h2.keep hB26
      have HB := join HB hB26
      clear hB26 tB26
      by_cases hbc : val l1 ≤ val l2
      · have tC27 := cmp_any a1 len1 cap1 b1 o1 a2 len2 cap2 b2 o2 l1 l2 _ hl1 hl2 hc1 hc2 (by omega) (by omega) W1 W2 h1 h2
        have hsg27 : (sgn (val l1) (val l2)) ≤ 0 := by unfold sgn; split <;> (try split) <;> omega
        generalize sgn (val l1) (val l2) = sg27 at *
        go_wp2_with fail
        refine tC27.mono ?_
        rintro e x27 ⟨rfl, hB27⟩
        have h0 := h0.keep hB27
        have h1 := h1.keep hB27
        have h2 := h2.keep hB27
        have HB := join HB hB27
        clear hB27 tC27
        have tC28 := cmp_any a0 len0 cap0 b0 o0 a2 len2 cap2 b2 o2 l0 l2 _ hl0 hl2 hc0 hc2 (by omega) (by omega) W0 W2 h0 h2
        have hsg28 : (sgn (val l0) (val l2)) ≤ 0 := by unfold sgn; have := HX.out; split <;> (try split) <;> omega
        generalize sgn (val l0) (val l2) = sg28 at *
        go_wp2_with fail
        refine tC28.mono ?_
        rintro e x28 ⟨rfl, hB28⟩
        have h0 := h0.keep hB28
        have h1 := h1.keep hB28
        have h2 := h2.keep hB28
        have HB := join HB hB28
        clear hB28 tC28
        go_wp2_with fail
        refine (copy_any a0 len0 cap0 b0 o0 l0 _ hl0 (by omega) hnil0.out h0).mono ?_
        rintro e x29 ⟨cv, rfl, hM, hB29⟩
        have hszc := hB29.size
        obtain ⟨i0, hi, hz0, hz1, hz2⟩ := info_parts info_u64
        have hownc := mine_row hM hl0
        have hgec := own_ge hM
        go_wp2_with (at_builtin; refine wpList_append_own _ rfl _ _ 23 rfl _ 45 i0 (.int .u64 0) 1 8 under_nat hi hz0 hz1 hz2 rfl (by decide) _ _ _ rfl (hownc.alloc _) ⟨x29.heap.size, 0, none⟩ 2 2 [.int .u64 0, .int .u64 0] rfl rfl ?c1 ?c2 ?c3 ?c4 ?c5 ?_)
        case c1 => exact two_new _ _ _
        case c2 => intro u hu; simp at hu; subst hu; rfl
        case c3 => unfold maxLen; omega
        case c4 => omega
        case c5 => simp; omega
        intro lv y29 hownL hgrow _
        have hML := mine_back hl0 hownL
        have hBL := (hB29.alloc (by omega) _).grown hgrow (by simp; omega) hgec
        have hvl : Hid (val (l0 ++ [0, 0]) = val l0) := val_zz l0
        have hWL : Words (l0 ++ [0, 0]) := W0.append (words_zero 2)
        have hlL : (l0 ++ [0, 0]).length ≤ 62 := by simp; omega
        have h0 := h0.keep hBL
        have h1 := h1.keep hBL
        have h2 := h2.keep hBL
        have HB := join HB hBL
        clear hownL hgrow hownc hM hgec hB29 hBL hszc hi hz0 hz1 hz2
        generalize l0 ++ [0, 0] = lL at *
        obtain ⟨aL, cL, rfl, hcL, _, gL, _, _, hL, _⟩ := hML.open
        clear hML
        have tC30 := cmp_any aL lL.length cL gL 0 a0 len0 cap0 b0 o0 lL l0 _ rfl hl0 hcL hc0 (by omega) (by omega) hWL W0 hL h0
        rw [sgn_eq hvl.out] at tC30
        go_wp2_with fail
        refine tC30.mono ?_
        rintro e x30 ⟨rfl, hB30⟩
        have h0 := h0.keep hB30
        have h1 := h1.keep hB30
        have h2 := h2.keep hB30
        have hL := hL.keep hB30
        have HB := join HB hB30
        clear hB30 tC30
        have tC31 := cmp_any aL lL.length cL gL 0 a1 len1 cap1 b1 o1 lL l1 _ rfl hl1 hcL hc1 (by omega) (by omega) hWL W1 hL h1
        rw [hvl.out, sgn_lt HX.out] at tC31
        go_wp2_with fail
        refine tC31.mono ?_
        rintro e x31 ⟨rfl, hB31⟩
        have h0 := h0.keep hB31
        have h1 := h1.keep hB31
        have h2 := h2.keep hB31
        have hL := hL.keep hB31
        have HB := join HB hB31
        clear hB31 tC31
        go_wp2_with fail
        refine (norm_any aL lL.length cL gL 0 lL _ rfl hcL (by omega) hL).mono ?_
        rintro e x32 ⟨rfl, hrow32, hB32⟩
        have hI32 := isN_norm hWL
        have hr32 := hrow32.at
        have hlen32 := nlen_le lL
        have hL32 := norm_length lL
        generalize norm lL = r32 at *
        generalize nlen lL = nl32 at *
        clear hrow32
        have h0 := h0.keep hB32
        have h1 := h1.keep hB32
        have h2 := h2.keep hB32
        have hL := hL.keep hB32
        have HB := join HB hB32
        clear hB32
        go_wp2_with fail
        refine (norm_any a0 len0 cap0 b0 o0 l0 _ hl0 hc0 (by omega) h0).mono ?_
        rintro e x33 ⟨rfl, hrow33, hB33⟩
        have hI33 := isN_norm W0
        have hr33 := hrow33.at
        have hlen33 := nlen_le l0
        have hL33 := norm_length l0
        generalize norm l0 = r33 at *
        generalize nlen l0 = nl33 at *
        clear hrow33
        have h0 := h0.keep hB33
        have h1 := h1.keep hB33
        have h2 := h2.keep hB33
        have hL := hL.keep hB33
        have hr32 := hr32.keep hB33
        have HB := join HB hB33
        clear hB33
        have q34 : r32 = r33 := isN_unique hI32 (by rw [hvl.out]; exact hI33)
        have tH34 := helpNat _ nl32 nl32 _ 0 _ nl33 nl33 _ 0 r32 r33 _ hL32 hL33 (by omega) (by omega) hr32 hr33
        rw [eqB_true q34] at tH34
        clear q34
        go_wp2_with fail
        refine tH34.mono ?_
        rintro e x34 ⟨rfl, hB34⟩
        have h0 := h0.keep hB34
        have h1 := h1.keep hB34
        have h2 := h2.keep hB34
        have hL := hL.keep hB34
        have HB := join HB hB34
        clear hB34 tH34
        have tB35 := bits_any aL lL.length cL gL 0 lL _ rfl hcL (by omega) hWL hL
        rw [hvl.out, HLA.out] at tB35
        go_wp2_with fail
        refine tB35.mono ?_
        rintro e x35 ⟨rfl, hB35⟩
        have h0 := h0.keep hB35
        have h1 := h1.keep hB35
        have h2 := h2.keep hB35
        have hL := hL.keep hB35
        have HB := join HB hB35
        clear hB35 tB35
        have tB36 := bits_any a0 len0 cap0 b0 o0 l0 _ hl0 hc0 (by omega) W0 h0
        rw [HLA.out] at tB36
        go_wp2_with fail
        refine tB36.mono ?_
        rintro e x36 ⟨rfl, hB36⟩
        have h0 := h0.keep hB36
        have h1 := h1.keep hB36
        have h2 := h2.keep hB36
        have hL := hL.keep hB36
        have HB := join HB hB36
        clear hB36 tB36
        go_wp2
        go_ret
        exact ⟨rfl, HB⟩
      · have tC37 := cmp_any a1 len1 cap1 b1 o1 a2 len2 cap2 b2 o2 l1 l2 _ hl1 hl2 hc1 hc2 (by omega) (by omega) W1 W2 h1 h2
        rw [sgn_gt (show val l2 < val l1 by omega)] at tC37
        go_wp2_with fail
        refine tC37.mono ?_
        rintro e x37 ⟨rfl, hB37⟩
        have h0 := h0.keep hB37
        have h1 := h1.keep hB37
        have h2 := h2.keep hB37
        have HB := join HB hB37
        clear hB37 tC37
        go_wp2_with fail
        refine (copy_any a0 len0 cap0 b0 o0 l0 _ hl0 (by omega) hnil0.out h0).mono ?_
        rintro e x38 ⟨cv, rfl, hM, hB38⟩
        have hszc := hB38.size
        obtain ⟨i0, hi, hz0, hz1, hz2⟩ := info_parts info_u64
        have hownc := mine_row hM hl0
        have hgec := own_ge hM
        go_wp2_with (at_builtin; refine wpList_append_own _ rfl _ _ 23 rfl _ 45 i0 (.int .u64 0) 1 8 under_nat hi hz0 hz1 hz2 rfl (by decide) _ _ _ rfl (hownc.alloc _) ⟨x38.heap.size, 0, none⟩ 2 2 [.int .u64 0, .int .u64 0] rfl rfl ?c1 ?c2 ?c3 ?c4 ?c5 ?_)
        case c1 => exact two_new _ _ _
        case c2 => intro u hu; simp at hu; subst hu; rfl
        case c3 => unfold maxLen; omega
        case c4 => omega
        case c5 => simp; omega
        intro lv y38 hownL hgrow _
        have hML := mine_back hl0 hownL
        have hBL := (hB38.alloc (by omega) _).grown hgrow (by simp; omega) hgec
        have hvl : Hid (val (l0 ++ [0, 0]) = val l0) := val_zz l0
        have hWL : Words (l0 ++ [0, 0]) := W0.append (words_zero 2)
        have hlL : (l0 ++ [0, 0]).length ≤ 62 := by simp; omega
        have h0 := h0.keep hBL
        have h1 := h1.keep hBL
        have h2 := h2.keep hBL
        have HB := join HB hBL
        clear hownL hgrow hownc hM hgec hB38 hBL hszc hi hz0 hz1 hz2
        generalize l0 ++ [0, 0] = lL at *
        obtain ⟨aL, cL, rfl, hcL, _, gL, _, _, hL, _⟩ := hML.open
        clear hML
        have tC39 := cmp_any aL lL.length cL gL 0 a0 len0 cap0 b0 o0 lL l0 _ rfl hl0 hcL hc0 (by omega) (by omega) hWL W0 hL h0
        rw [sgn_eq hvl.out] at tC39
        go_wp2_with fail
        refine tC39.mono ?_
        rintro e x39 ⟨rfl, hB39⟩
        have h0 := h0.keep hB39
        have h1 := h1.keep hB39
        have h2 := h2.keep hB39
        have hL := hL.keep hB39
        have HB := join HB hB39
        clear hB39 tC39
        have tC40 := cmp_any aL lL.length cL gL 0 a1 len1 cap1 b1 o1 lL l1 _ rfl hl1 hcL hc1 (by omega) (by omega) hWL W1 hL h1
        rw [hvl.out, sgn_lt HX.out] at tC40
        go_wp2_with fail
        refine tC40.mono ?_
        rintro e x40 ⟨rfl, hB40⟩
        have h0 := h0.keep hB40
        have h1 := h1.keep hB40
        have h2 := h2.keep hB40
        have hL := hL.keep hB40
        have HB := join HB hB40
        clear hB40 tC40
        go_wp2_with fail
        refine (norm_any aL lL.length cL gL 0 lL _ rfl hcL (by omega) hL).mono ?_
        rintro e x41 ⟨rfl, hrow41, hB41⟩
        have hI41 := isN_norm hWL
        have hr41 := hrow41.at
        have hlen41 := nlen_le lL
        have hL41 := norm_length lL
        generalize norm lL = r41 at *
        generalize nlen lL = nl41 at *
        clear hrow41
        have h0 := h0.keep hB41
        have h1 := h1.keep hB41
        have h2 := h2.keep hB41
        have hL := hL.keep hB41
        have HB := join HB hB41
        clear hB41
        go_wp2_with fail
        refine (norm_any a0 len0 cap0 b0 o0 l0 _ hl0 hc0 (by omega) h0).mono ?_
        rintro e x42 ⟨rfl, hrow42, hB42⟩
        have hI42 := isN_norm W0
        have hr42 := hrow42.at
        have hlen42 := nlen_le l0
        have hL42 := norm_length l0
        generalize norm l0 = r42 at *
        generalize nlen l0 = nl42 at *
        clear hrow42
        have h0 := h0.keep hB42
        have h1 := h1.keep hB42
        have h2 := h2.keep hB42
        have hL := hL.keep hB42
        have hr41 := hr41.keep hB42
        have HB := join HB hB42
        clear hB42
        have q43 : r41 = r42 := isN_unique hI41 (by rw [hvl.out]; exact hI42)
        have tH43 := helpNat _ nl41 nl41 _ 0 _ nl42 nl42 _ 0 r41 r42 _ hL41 hL42 (by omega) (by omega) hr41 hr42
        rw [eqB_true q43] at tH43
        clear q43
        go_wp2_with fail
        refine tH43.mono ?_
        rintro e x43 ⟨rfl, hB43⟩
        have h0 := h0.keep hB43
        have h1 := h1.keep hB43
        have h2 := h2.keep hB43
        have hL := hL.keep hB43
        have HB := join HB hB43
        clear hB43 tH43
        have tB44 := bits_any aL lL.length cL gL 0 lL _ rfl hcL (by omega) hWL hL
        rw [hvl.out, HLA.out] at tB44
        go_wp2_with fail
        refine tB44.mono ?_
        rintro e x44 ⟨rfl, hB44⟩
        have h0 := h0.keep hB44
        have h1 := h1.keep hB44
        have h2 := h2.keep hB44
        have hL := hL.keep hB44
        have HB := join HB hB44
        clear hB44 tB44
        have tB45 := bits_any a0 len0 cap0 b0 o0 l0 _ hl0 hc0 (by omega) W0 h0
        rw [HLA.out] at tB45
        go_wp2_with fail
        refine tB45.mono ?_
        rintro e x45 ⟨rfl, hB45⟩
        have h0 := h0.keep hB45
        have h1 := h1.keep hB45
        have h2 := h2.keep hB45
        have hL := hL.keep hB45
        have HB := join HB hB45
        clear hB45 tB45
        go_wp2
        go_ret
        exact ⟨rfl, HB⟩
  · have HX := (show Hid (val l0 = val l1) from hx)
    have hle := hmono.out (by omega)
    have tC46 := cmp_any a0 len0 cap0 b0 o0 a1 len1 cap1 b1 o1 l0 l1 _ hl0 hl1 hc0 hc1 (by omega) (by omega) W0 W1 h0 h1
    rw [sgn_eq hx] at tC46
    go_wp2_with fail
    refine tC46.mono ?_
    rintro e x46 ⟨rfl, hB46⟩
    have h0 := h0.keep hB46
    have h1 := h1.keep hB46
    have h2 := h2.keep hB46
    have HB := join HB hB46
    clear hB46 tC46
    have tC47 := cmp_any a1 len1 cap1 b1 o1 a0 len0 cap0 b0 o0 l1 l0 _ hl1 hl0 hc1 hc0 (by omega) (by omega) W1 W0 h1 h0
    rw [sgn_eq hx.symm] at tC47
    go_wp2_with fail
    refine tC47.mono ?_
    rintro e x47 ⟨rfl, hB47⟩
    have h0 := h0.keep hB47
    have h1 := h1.keep hB47
    have h2 := h2.keep hB47
    have HB := join HB hB47
    clear hB47 tC47
    go_wp2_with fail
    refine (sub_ge a0 len0 cap0 b0 o0 a1 len1 cap1 b1 o1 l0 l1 _ hl0 hl1 hc0 hc1 (by omega) (by omega) W0 W1 h0 h1 (by omega)).mono ?_
    rintro e x48 ⟨v48, r48, rfl, hn48, hI48, hlen48, hB48⟩
    obtain ⟨ar48, br48, or48, cr48, rfl, hcr48, _, hr48, _⟩ := hn48.is
    have h0 := h0.keep hB48
    have h1 := h1.keep hB48
    have h2 := h2.keep hB48
    have HB := join HB hB48
    clear hB48 hn48
    have ed : r48 = [] := isN_unique hI48 (by rw [hx, Int.sub_self]; exact isN_nil)
    subst ed
    clear hx
    have tB49 := bits_any a0 len0 cap0 b0 o0 l0 _ hl0 hc0 (by omega) W0 h0
    rw [HLA.out] at tB49
    go_wp2_with fail
    refine tB49.mono ?_
    rintro e x49 ⟨rfl, hB49⟩
    have h0 := h0.keep hB49
    have h1 := h1.keep hB49
    have h2 := h2.keep hB49
    have hr48 := hr48.keep hB49
    have HB := join HB hB49
    clear hB49 tB49
    have tB50 := bits_any a1 len1 cap1 b1 o1 l1 _ hl1 hc1 (by omega) W1 h1
    rw [HLB.out] at tB50
    go_wp2_with fail
    refine tB50.mono ?_
    rintro e x50 ⟨rfl, hB50⟩
    have h0 := h0.keep hB50
    have h1 := h1.keep hB50
    have h2 := h2.keep hB50
    have hr48 := hr48.keep hB50
    have HB := join HB hB50
    clear hB50 tB50
    by_cases hbc : val l1 ≤ val l2
    · have tC51 := cmp_any a1 len1 cap1 b1 o1 a2 len2 cap2 b2 o2 l1 l2 _ hl1 hl2 hc1 hc2 (by omega) (by omega) W1 W2 h1 h2
      have hsg51 : (sgn (val l1) (val l2)) ≤ 0 := by unfold sgn; split <;> (try split) <;> omega
      generalize sgn (val l1) (val l2) = sg51 at *
      go_wp2_with fail
      refine tC51.mono ?_
      rintro e x51 ⟨rfl, hB51⟩
      have h0 := h0.keep hB51
      have h1 := h1.keep hB51
      have h2 := h2.keep hB51
      have hr48 := hr48.keep hB51
      have HB := join HB hB51
      clear hB51 tC51
      have tC52 := cmp_any a0 len0 cap0 b0 o0 a2 len2 cap2 b2 o2 l0 l2 _ hl0 hl2 hc0 hc2 (by omega) (by omega) W0 W2 h0 h2
      have hsg52 : (sgn (val l0) (val l2)) ≤ 0 := by unfold sgn; have := HX.out; split <;> (try split) <;> omega
      generalize sgn (val l0) (val l2) = sg52 at *
      go_wp2_with fail
      refine tC52.mono ?_
      rintro e x52 ⟨rfl, hB52⟩
      have h0 := h0.keep hB52
      have h1 := h1.keep hB52
      have h2 := h2.keep hB52
      have hr48 := hr48.keep hB52
      have HB := join HB hB52
      clear hB52 tC52
      go_wp2_with fail
      refine (copy_any a0 len0 cap0 b0 o0 l0 _ hl0 (by omega) hnil0.out h0).mono ?_
      rintro e x53 ⟨cv, rfl, hM, hB53⟩
      have hszc := hB53.size
      obtain ⟨i0, hi, hz0, hz1, hz2⟩ := info_parts info_u64
      have hownc := mine_row hM hl0
      have hgec := own_ge hM
      go_wp2_with (at_builtin; refine wpList_append_own _ rfl _ _ 23 rfl _ 45 i0 (.int .u64 0) 1 8 under_nat hi hz0 hz1 hz2 rfl (by decide) _ _ _ rfl (hownc.alloc _) ⟨x53.heap.size, 0, none⟩ 2 2 [.int .u64 0, .int .u64 0] rfl rfl ?c1 ?c2 ?c3 ?c4 ?c5 ?_)
      case c1 => exact two_new _ _ _
      case c2 => intro u hu; simp at hu; subst hu; rfl
      case c3 => unfold maxLen; omega
      case c4 => omega
      case c5 => simp; omega
      intro lv y53 hownL hgrow _
      have hML := mine_back hl0 hownL
      have hBL := (hB53.alloc (by omega) _).grown hgrow (by simp; omega) hgec
      have hvl : Hid (val (l0 ++ [0, 0]) = val l0) := val_zz l0
      have hWL : Words (l0 ++ [0, 0]) := W0.append (words_zero 2)
      have hlL : (l0 ++ [0, 0]).length ≤ 62 := by simp; omega
      have h0 := h0.keep hBL
      have h1 := h1.keep hBL
      have h2 := h2.keep hBL
      have hr48 := hr48.keep hBL
      have HB := join HB hBL
      clear hownL hgrow hownc hM hgec hB53 hBL hszc hi hz0 hz1 hz2
      generalize l0 ++ [0, 0] = lL at *
      obtain ⟨aL, cL, rfl, hcL, _, gL, _, _, hL, _⟩ := hML.open
      clear hML
      have tC54 := cmp_any aL lL.length cL gL 0 a0 len0 cap0 b0 o0 lL l0 _ rfl hl0 hcL hc0 (by omega) (by omega) hWL W0 hL h0
      rw [sgn_eq hvl.out] at tC54
      go_wp2_with fail
      refine tC54.mono ?_
      rintro e x54 ⟨rfl, hB54⟩
      have h0 := h0.keep hB54
      have h1 := h1.keep hB54
      have h2 := h2.keep hB54
      have hr48 := hr48.keep hB54
      have hL := hL.keep hB54
      have HB := join HB hB54
      clear hB54 tC54
      have tC55 := cmp_any aL lL.length cL gL 0 a1 len1 cap1 b1 o1 lL l1 _ rfl hl1 hcL hc1 (by omega) (by omega) hWL W1 hL h1
      rw [hvl.out, sgn_eq HX.out] at tC55
      go_wp2_with fail
      refine tC55.mono ?_
      rintro e x55 ⟨rfl, hB55⟩
      have h0 := h0.keep hB55
      have h1 := h1.keep hB55
      have h2 := h2.keep hB55
      have hr48 := hr48.keep hB55
      have hL := hL.keep hB55
      have HB := join HB hB55
      clear hB55 tC55
      go_wp2_with fail
      refine (norm_any aL lL.length cL gL 0 lL _ rfl hcL (by omega) hL).mono ?_
      rintro e x56 ⟨rfl, hrow56, hB56⟩
      have hI56 := isN_norm hWL
      have hr56 := hrow56.at
      have hlen56 := nlen_le lL
      have hL56 := norm_length lL
      generalize norm lL = r56 at *
      generalize nlen lL = nl56 at *
      clear hrow56
      have h0 := h0.keep hB56
      have h1 := h1.keep hB56
      have h2 := h2.keep hB56
      have hr48 := hr48.keep hB56
      have hL := hL.keep hB56
      have HB := join HB hB56
      clear hB56
      go_wp2_with fail
      refine (norm_any a0 len0 cap0 b0 o0 l0 _ hl0 hc0 (by omega) h0).mono ?_
      rintro e x57 ⟨rfl, hrow57, hB57⟩
      have hI57 := isN_norm W0
      have hr57 := hrow57.at
      have hlen57 := nlen_le l0
      have hL57 := norm_length l0
      generalize norm l0 = r57 at *
      generalize nlen l0 = nl57 at *
      clear hrow57
      have h0 := h0.keep hB57
      have h1 := h1.keep hB57
      have h2 := h2.keep hB57
      have hr48 := hr48.keep hB57
      have hL := hL.keep hB57
      have hr56 := hr56.keep hB57
      have HB := join HB hB57
      clear hB57
      have q58 : r56 = r57 := isN_unique hI56 (by rw [hvl.out]; exact hI57)
      have tH58 := helpNat _ nl56 nl56 _ 0 _ nl57 nl57 _ 0 r56 r57 _ hL56 hL57 (by omega) (by omega) hr56 hr57
      rw [eqB_true q58] at tH58
      clear q58
      go_wp2_with fail
      refine tH58.mono ?_
      rintro e x58 ⟨rfl, hB58⟩
      have h0 := h0.keep hB58
      have h1 := h1.keep hB58
      have h2 := h2.keep hB58
      have hr48 := hr48.keep hB58
      have hL := hL.keep hB58
      have HB := join HB hB58
      clear hB58 tH58
      have tB59 := bits_any aL lL.length cL gL 0 lL _ rfl hcL (by omega) hWL hL
      rw [hvl.out, HLA.out] at tB59
      go_wp2_with fail
      refine tB59.mono ?_
      rintro e x59 ⟨rfl, hB59⟩
      have h0 := h0.keep hB59
      have h1 := h1.keep hB59
      have h2 := h2.keep hB59
      have hr48 := hr48.keep hB59
      have hL := hL.keep hB59
      have HB := join HB hB59
      clear hB59 tB59
      have tB60 := bits_any a0 len0 cap0 b0 o0 l0 _ hl0 hc0 (by omega) W0 h0
      rw [HLA.out] at tB60
      go_wp2_with fail
      refine tB60.mono ?_
      rintro e x60 ⟨rfl, hB60⟩
      have h0 := h0.keep hB60
      have h1 := h1.keep hB60
      have h2 := h2.keep hB60
      have hr48 := hr48.keep hB60
      have hL := hL.keep hB60
      have HB := join HB hB60
      clear hB60 tB60
      go_wp2
      go_ret
      exact ⟨rfl, HB⟩
    · have tC61 := cmp_any a1 len1 cap1 b1 o1 a2 len2 cap2 b2 o2 l1 l2 _ hl1 hl2 hc1 hc2 (by omega) (by omega) W1 W2 h1 h2
      rw [sgn_gt (show val l2 < val l1 by omega)] at tC61
      go_wp2_with fail
      refine tC61.mono ?_
      rintro e x61 ⟨rfl, hB61⟩
      have h0 := h0.keep hB61
      have h1 := h1.keep hB61
      have h2 := h2.keep hB61
      have hr48 := hr48.keep hB61
      have HB := join HB hB61
      clear hB61 tC61
      go_wp2_with fail
      refine (copy_any a0 len0 cap0 b0 o0 l0 _ hl0 (by omega) hnil0.out h0).mono ?_
      rintro e x62 ⟨cv, rfl, hM, hB62⟩
      have hszc := hB62.size
      obtain ⟨i0, hi, hz0, hz1, hz2⟩ := info_parts info_u64
      have hownc := mine_row hM hl0
      have hgec := own_ge hM
      go_wp2_with (at_builtin; refine wpList_append_own _ rfl _ _ 23 rfl _ 45 i0 (.int .u64 0) 1 8 under_nat hi hz0 hz1 hz2 rfl (by decide) _ _ _ rfl (hownc.alloc _) ⟨x62.heap.size, 0, none⟩ 2 2 [.int .u64 0, .int .u64 0] rfl rfl ?c1 ?c2 ?c3 ?c4 ?c5 ?_)
      case c1 => exact two_new _ _ _
      case c2 => intro u hu; simp at hu; subst hu; rfl
      case c3 => unfold maxLen; omega
      case c4 => omega
      case c5 => simp; omega
      intro lv y62 hownL hgrow _
      have hML := mine_back hl0 hownL
      have hBL := (hB62.alloc (by omega) _).grown hgrow (by simp; omega) hgec
      have hvl : Hid (val (l0 ++ [0, 0]) = val l0) := val_zz l0
      have hWL : Words (l0 ++ [0, 0]) := W0.append (words_zero 2)
      have hlL : (l0 ++ [0, 0]).length ≤ 62 := by simp; omega
      have h0 := h0.keep hBL
      have h1 := h1.keep hBL
      have h2 := h2.keep hBL
      have hr48 := hr48.keep hBL
      have HB := join HB hBL
      clear hownL hgrow hownc hM hgec hB62 hBL hszc hi hz0 hz1 hz2
      generalize l0 ++ [0, 0] = lL at *
      obtain ⟨aL, cL, rfl, hcL, _, gL, _, _, hL, _⟩ := hML.open
      clear hML
      have tC63 := cmp_any aL lL.length cL gL 0 a0 len0 cap0 b0 o0 lL l0 _ rfl hl0 hcL hc0 (by omega) (by omega) hWL W0 hL h0
      rw [sgn_eq hvl.out] at tC63
      go_wp2_with fail
      refine tC63.mono ?_
      rintro e x63 ⟨rfl, hB63⟩
      have h0 := h0.keep hB63
      have h1 := h1.keep hB63
      have h2 := h2.keep hB63
      have hr48 := hr48.keep hB63
      have hL := hL.keep hB63
      have HB := join HB hB63
      clear hB63 tC63
      have tC64 := cmp_any aL lL.length cL gL 0 a1 len1 cap1 b1 o1 lL l1 _ rfl hl1 hcL hc1 (by omega) (by omega) hWL W1 hL h1
      rw [hvl.out, sgn_eq HX.out] at tC64
      go_wp2_with fail
      refine tC64.mono ?_
      rintro e x64 ⟨rfl, hB64⟩
      have h0 := h0.keep hB64
      have h1 := h1.keep hB64
      have h2 := h2.keep hB64
      have hr48 := hr48.keep hB64
      have hL := hL.keep hB64
      have HB := join HB hB64
      clear hB64 tC64
      go_wp2_with fail
      refine (norm_any aL lL.length cL gL 0 lL _ rfl hcL (by omega) hL).mono ?_
      rintro e x65 ⟨rfl, hrow65, hB65⟩
      have hI65 := isN_norm hWL
      have hr65 := hrow65.at
      have hlen65 := nlen_le lL
      have hL65 := norm_length lL
      generalize norm lL = r65 at *
      generalize nlen lL = nl65 at *
      clear hrow65
      have h0 := h0.keep hB65
      have h1 := h1.keep hB65
      have h2 := h2.keep hB65
      have hr48 := hr48.keep hB65
      have hL := hL.keep hB65
      have HB := join HB hB65
      clear hB65
      go_wp2_with fail
      refine (norm_any a0 len0 cap0 b0 o0 l0 _ hl0 hc0 (by omega) h0).mono ?_
      rintro e x66 ⟨rfl, hrow66, hB66⟩
      have hI66 := isN_norm W0
      have hr66 := hrow66.at
      have hlen66 := nlen_le l0
      have hL66 := norm_length l0
      generalize norm l0 = r66 at *
      generalize nlen l0 = nl66 at *
      clear hrow66
      have h0 := h0.keep hB66
      have h1 := h1.keep hB66
      have h2 := h2.keep hB66
      have hr48 := hr48.keep hB66
      have hL := hL.keep hB66
      have hr65 := hr65.keep hB66
      have HB := join HB hB66
      clear hB66
      have q67 : r65 = r66 := isN_unique hI65 (by rw [hvl.out]; exact hI66)
      have tH67 := helpNat _ nl65 nl65 _ 0 _ nl66 nl66 _ 0 r65 r66 _ hL65 hL66 (by omega) (by omega) hr65 hr66
      rw [eqB_true q67] at tH67
      clear q67
      go_wp2_with fail
      refine tH67.mono ?_
      rintro e x67 ⟨rfl, hB67⟩
      have h0 := h0.keep hB67
      have h1 := h1.keep hB67
      have h2 := h2.keep hB67
      have hr48 := hr48.keep hB67
      have hL := hL.keep hB67
      have HB := join HB hB67
      clear hB67 tH67
      have tB68 := bits_any aL lL.length cL gL 0 lL _ rfl hcL (by omega) hWL hL
      rw [hvl.out, HLA.out] at tB68
      go_wp2_with fail
      refine tB68.mono ?_
      rintro e x68 ⟨rfl, hB68⟩
      have h0 := h0.keep hB68
      have h1 := h1.keep hB68
      have h2 := h2.keep hB68
      have hr48 := hr48.keep hB68
      have hL := hL.keep hB68
      have HB := join HB hB68
      clear hB68 tB68
      have tB69 := bits_any a0 len0 cap0 b0 o0 l0 _ hl0 hc0 (by omega) W0 h0
      rw [HLA.out] at tB69
      go_wp2_with fail
      refine tB69.mono ?_
      rintro e x69 ⟨rfl, hB69⟩
      have h0 := h0.keep hB69
      have h1 := h1.keep hB69
      have h2 := h2.keep hB69
      have hr48 := hr48.keep hB69
      have hL := hL.keep hB69
      have HB := join HB hB69
      clear hB69 tB69
      go_wp2
      go_ret
      exact ⟨rfl, HB⟩
  · have HX := (show Hid (val l1 < val l0) from hx)
    have hle := hmono.out (by omega)
    have tC70 := cmp_any a0 len0 cap0 b0 o0 a1 len1 cap1 b1 o1 l0 l1 _ hl0 hl1 hc0 hc1 (by omega) (by omega) W0 W1 h0 h1
    rw [sgn_gt hx] at tC70
    go_wp2_with fail
    refine tC70.mono ?_
    rintro e x70 ⟨rfl, hB70⟩
    have h0 := h0.keep hB70
    have h1 := h1.keep hB70
    have h2 := h2.keep hB70
    have HB := join HB hB70
    clear hB70 tC70
    have tC71 := cmp_any a1 len1 cap1 b1 o1 a0 len0 cap0 b0 o0 l1 l0 _ hl1 hl0 hc1 hc0 (by omega) (by omega) W1 W0 h1 h0
    rw [sgn_lt hx] at tC71
    go_wp2_with fail
    refine tC71.mono ?_
    rintro e x71 ⟨rfl, hB71⟩
    have h0 := h0.keep hB71
    have h1 := h1.keep hB71
    have h2 := h2.keep hB71
    have HB := join HB hB71
    clear hB71 tC71
    go_wp2_with fail
    refine (sub_ge a0 len0 cap0 b0 o0 a1 len1 cap1 b1 o1 l0 l1 _ hl0 hl1 hc0 hc1 (by omega) (by omega) W0 W1 h0 h1 (by omega)).mono ?_
    rintro e x72 ⟨v72, r72, rfl, hn72, hI72, hlen72, hB72⟩
    obtain ⟨ar72, br72, or72, cr72, rfl, hcr72, _, hr72, _⟩ := hn72.is
    have h0 := h0.keep hB72
    have h1 := h1.keep hB72
    have h2 := h2.keep hB72
    have HB := join HB hB72
    clear hB72 hn72
    have hdp : 0 < r72.length := by
      rcases Nat.eq_zero_or_pos r72.length with e | e
      · have e1 := List.eq_nil_of_length_eq_zero e
        have e2 := hI72.2.2
        rw [e1] at e2
        simp [val] at e2
        omega
      · exact e
    have tB73 := bits_any a0 len0 cap0 b0 o0 l0 _ hl0 hc0 (by omega) W0 h0
    rw [HLA.out] at tB73
    go_wp2_with fail
    refine tB73.mono ?_
    rintro e x73 ⟨rfl, hB73⟩
    have h0 := h0.keep hB73
    have h1 := h1.keep hB73
    have h2 := h2.keep hB73
    have hr72 := hr72.keep hB73
    have HB := join HB hB73
    clear hB73 tB73
    have tB74 := bits_any a1 len1 cap1 b1 o1 l1 _ hl1 hc1 (by omega) W1 h1
    rw [HLB.out] at tB74
    go_wp2_with fail
    refine tB74.mono ?_
    rintro e x74 ⟨rfl, hB74⟩
    have h0 := h0.keep hB74
    have h1 := h1.keep hB74
    have h2 := h2.keep hB74
    have hr72 := hr72.keep hB74
    have HB := join HB hB74
    clear hB74 tB74
    go_wp2_with fail
    refine (copy_any a0 len0 cap0 b0 o0 l0 _ hl0 (by omega) hnil0.out h0).mono ?_
    rintro e x75 ⟨cv, rfl, hM, hB75⟩
    have hszc := hB75.size
    obtain ⟨i0, hi, hz0, hz1, hz2⟩ := info_parts info_u64
    have hownc := mine_row hM hl0
    have hgec := own_ge hM
    go_wp2_with (at_builtin; refine wpList_append_own _ rfl _ _ 23 rfl _ 45 i0 (.int .u64 0) 1 8 under_nat hi hz0 hz1 hz2 rfl (by decide) _ _ _ rfl (hownc.alloc _) ⟨x75.heap.size, 0, none⟩ 2 2 [.int .u64 0, .int .u64 0] rfl rfl ?c1 ?c2 ?c3 ?c4 ?c5 ?_)
    case c1 => exact two_new _ _ _
    case c2 => intro u hu; simp at hu; subst hu; rfl
    case c3 => unfold maxLen; omega
    case c4 => omega
    case c5 => simp; omega
    intro lv y75 hownL hgrow _
    have hML := mine_back hl0 hownL
    have hBL := (hB75.alloc (by omega) _).grown hgrow (by simp; omega) hgec
    have hvl : Hid (val (l0 ++ [0, 0]) = val l0) := val_zz l0
    have hWL : Words (l0 ++ [0, 0]) := W0.append (words_zero 2)
    have hlL : (l0 ++ [0, 0]).length ≤ 62 := by simp; omega
    have h0 := h0.keep hBL
    have h1 := h1.keep hBL
    have h2 := h2.keep hBL
    have hr72 := hr72.keep hBL
    have HB := join HB hBL
    clear hownL hgrow hownc hM hgec hB75 hBL hszc hi hz0 hz1 hz2
    generalize l0 ++ [0, 0] = lL at *
    obtain ⟨aL, cL, rfl, hcL, _, gL, _, _, hL, _⟩ := hML.open
    clear hML
    have tC76 := cmp_any aL lL.length cL gL 0 a0 len0 cap0 b0 o0 lL l0 _ rfl hl0 hcL hc0 (by omega) (by omega) hWL W0 hL h0
    rw [sgn_eq hvl.out] at tC76
    go_wp2_with fail
    refine tC76.mono ?_
    rintro e x76 ⟨rfl, hB76⟩
    have h0 := h0.keep hB76
    have h1 := h1.keep hB76
    have h2 := h2.keep hB76
    have hr72 := hr72.keep hB76
    have hL := hL.keep hB76
    have HB := join HB hB76
    clear hB76 tC76
    have tC77 := cmp_any aL lL.length cL gL 0 a1 len1 cap1 b1 o1 lL l1 _ rfl hl1 hcL hc1 (by omega) (by omega) hWL W1 hL h1
    rw [hvl.out, sgn_gt HX.out] at tC77
    go_wp2_with fail
    refine tC77.mono ?_
    rintro e x77 ⟨rfl, hB77⟩
    have h0 := h0.keep hB77
    have h1 := h1.keep hB77
    have h2 := h2.keep hB77
    have hr72 := hr72.keep hB77
    have hL := hL.keep hB77
    have HB := join HB hB77
    clear hB77 tC77
    go_wp2_with fail
    refine (norm_any aL lL.length cL gL 0 lL _ rfl hcL (by omega) hL).mono ?_
    rintro e x78 ⟨rfl, hrow78, hB78⟩
    have hI78 := isN_norm hWL
    have hr78 := hrow78.at
    have hlen78 := nlen_le lL
    have hL78 := norm_length lL
    generalize norm lL = r78 at *
    generalize nlen lL = nl78 at *
    clear hrow78
    have h0 := h0.keep hB78
    have h1 := h1.keep hB78
    have h2 := h2.keep hB78
    have hr72 := hr72.keep hB78
    have hL := hL.keep hB78
    have HB := join HB hB78
    clear hB78
    go_wp2_with fail
    refine (norm_any a0 len0 cap0 b0 o0 l0 _ hl0 hc0 (by omega) h0).mono ?_
    rintro e x79 ⟨rfl, hrow79, hB79⟩
    have hI79 := isN_norm W0
    have hr79 := hrow79.at
    have hlen79 := nlen_le l0
    have hL79 := norm_length l0
    generalize norm l0 = r79 at *
    generalize nlen l0 = nl79 at *
    clear hrow79
    have h0 := h0.keep hB79
    have h1 := h1.keep hB79
    have h2 := h2.keep hB79
    have hr72 := hr72.keep hB79
    have hL := hL.keep hB79
    have hr78 := hr78.keep hB79
    have HB := join HB hB79
    clear hB79
    have q80 : r78 = r79 := isN_unique hI78 (by rw [hvl.out]; exact hI79)
    have tH80 := helpNat _ nl78 nl78 _ 0 _ nl79 nl79 _ 0 r78 r79 _ hL78 hL79 (by omega) (by omega) hr78 hr79
    rw [eqB_true q80] at tH80
    clear q80
    go_wp2_with fail
    refine tH80.mono ?_
    rintro e x80 ⟨rfl, hB80⟩
    have h0 := h0.keep hB80
    have h1 := h1.keep hB80
    have h2 := h2.keep hB80
    have hr72 := hr72.keep hB80
    have hL := hL.keep hB80
    have HB := join HB hB80
    clear hB80 tH80
    have tB81 := bits_any aL lL.length cL gL 0 lL _ rfl hcL (by omega) hWL hL
    rw [hvl.out, HLA.out] at tB81
    go_wp2_with fail
    refine tB81.mono ?_
    rintro e x81 ⟨rfl, hB81⟩
    have h0 := h0.keep hB81
    have h1 := h1.keep hB81
    have h2 := h2.keep hB81
    have hr72 := hr72.keep hB81
    have hL := hL.keep hB81
    have HB := join HB hB81
    clear hB81 tB81
    have tB82 := bits_any a0 len0 cap0 b0 o0 l0 _ hl0 hc0 (by omega) W0 h0
    rw [HLA.out] at tB82
    go_wp2_with fail
    refine tB82.mono ?_
    rintro e x82 ⟨rfl, hB82⟩
    have h0 := h0.keep hB82
    have h1 := h1.keep hB82
    have h2 := h2.keep hB82
    have hr72 := hr72.keep hB82
    have hL := hL.keep hB82
    have HB := join HB hB82
    clear hB82 tB82
    go_wp2
    go_ret
    exact ⟨rfl, HB⟩
end natOrder
end Go.Proofs.YtmmjiaeppnbfkabDoor
