/- gleanlaw1.NatBytes returns true for every list of limbs and every list of bytes. -/
import Derived.Test.YtmmjiaeppnbfkaaDoorKnown
import Derived.Test.YtmmjiaeppnbfkaaDoorSmallB
import Derived.Test.YtmmjiaeppnbfkaaDoorRefB2
namespace Go.Proofs.YtmmjiaeppnbfkaaDoor
namespace natBytes
open Go.RowKit Lim

set_option maxHeartbeats 8000000 in
set_option maxRecDepth 100000 in
theorem walk (a0 : Option Addr) (len0 cap0 : Nat) (z0 : List Int) (a1 : Option Addr) (len1 cap1 : Nat) (z1 : List Int) (w : World) (w0 : IsRow w a0 len0 cap0 z0) (w1 : IsRowB w a1 len1 cap1 z1) :
    Calls Tryd.prog 6 #[.slice a0 len0 cap0, .slice a1 len1 cap1] w fun e w' => e = .returned (.bool true) ∧ Below w.heap.size w w' := by
  obtain ⟨b0, o0, l0, hl0, hc0, hm0, W0, h0⟩ := w0.open
  obtain ⟨b1, o1, l1, hl1, hc1, hm1, W1, h1⟩ := w1.open
  have hnil1 := (show Hid (a1 = none → cap1 = 0) from isRowB_nil w1)
  clear w0 w1
  go_enter Tryd.func6, Tryd.ntmps6
  go_wp2_with fail
  refine (known_any w).mono ?_
  rintro e u1 ⟨rfl, HB⟩
  have h0 := h0.keep HB
  have h1 := h1.keep HB
  have b1' := below_alloc u1 (.cells #[.slice a0 len0 cap0] 23)
  have tS := small_any [(a0, len0, cap0)] u1.heap.size 1 1 (u1.alloc (.cells #[.slice a0 len0 cap0] 23)) rfl (by decide)
    (fun i => by
      match i with
      | 0 => exact hm0
      | _ + 1 => exact Nat.zero_le _)
    (fun i hi => by
      rw [cell_new]
      match i, hi with
      | 0, _ => rfl)
  go_wp2_with fail
  refine tS.mono ?_
  rintro e u2 ⟨rfl, rfl⟩
  clear tS
  have h0 := h0.keep b1'
  have h1 := h1.keep b1'
  have HB := join HB b1'
  clear b1'
  generalize u1.alloc (.cells #[.slice a0 len0 cap0] 23) = u2 at *
  by_cases hsm : smallB [(a0, len0, cap0)] = true
  rotate_left
  · have hsf : smallB [(a0, len0, cap0)] = false := by rw [Bool.not_eq_true] at hsm; exact hsm
    rw [hsf]
    go_wp2
    go_ret
    exact ⟨rfl, HB⟩
  rw [hsm]
  simp only [smallB, List.all_cons, List.all_nil, Bool.and_true, decide_eq_true_eq] at hsm
  by_cases h480 : 480 < len1
  · go_wp2
    go_ret
    exact ⟨rfl, HB⟩
  have hsm1 : len1 ≤ 480 := by omega
  clear h480
  go_wp2_with fail
  refine (copyBytes_any a1 len1 cap1 b1 o1 l1 _ hl1 (by omega) hnil1.out h1).mono ?_
  rintro e x1 ⟨v1, rfl, hM, hB1⟩
  have h0 := h0.keep hB1
  have h1 := h1.keep hB1
  have HB := join HB hB1
  clear hB1
  obtain ⟨ai, ci, bi, oi, rfl, hci, hin⟩ := hM.atB
  rw [hl1]
  rw [hl1] at hci
  clear hM
  by_cases hz : 0 < len1 ∧ nth l1 0 = 0
  · obtain ⟨hpos, hzero⟩ := hz
    have HZ := (show Hid _ from hzero)
    clear hzero
    have tF := from_no ai len1 ci bi oi l1 _ hl1 hpos hin HZ.out
    go_wp2_with fail
    refine tF.mono ?_
    rintro e x2 ⟨rfl, rfl⟩
    clear tF
    have tG := refFrom_no a1 len1 cap1 b1 o1 l1 _ hl1 hpos h1 HZ.out
    go_wp2_with fail
    refine tG.mono ?_
    rintro e x3 ⟨rfl, rfl⟩
    clear tG
    go_wp2_with fail
    refine (bytes_any a0 len0 cap0 b0 o0 l0 _ hl0 hc0 (by omega) W0 h0).mono ?_
    rintro e x4 ⟨v4, r4, rfl, hn4, hI4, hq4, hlen4, hB4⟩
    clear hq4
    obtain ⟨ar4, br4, or4, cr4, rfl, hcr4, _, hr4, _⟩ := hn4.is
    have h0 := h0.keep hB4
    have h1 := h1.keep hB4
    have hin := hin.keep hB4
    have HB := join HB hB4
    clear hB4
    go_wp2_with fail
    refine (refBytes_any a0 len0 cap0 b0 o0 l0 _ hl0 (by omega) W0 h0).mono ?_
    rintro e x5 ⟨v5, r5, rfl, hM5, hI5, hlen5, hB5⟩
    have h0 := h0.keep hB5
    have h1 := h1.keep hB5
    have hin := hin.keep hB5
    have hr4 := hr4.keep hB5
    have HB := join HB hB5
    clear hB5
    obtain ⟨ar5, cr5, br5, or5, rfl, hcr5, hr5⟩ := hM5.atB
    clear hM5
    have q6 : r4 = r5 := isB_unique hI4 hI5
    have tH := helpBytes ar4 r4.length cr4 br4 or4 ar5 r5.length cr5 br5 or5 r4 r5 _ rfl rfl (by omega) (by omega) hr4 hr5
    rw [eqB_true q6] at tH
    clear q6
    go_wp2_with fail
    refine tH.mono ?_
    rintro e x6 ⟨rfl, hB6⟩
    clear tH hr4 hr5
    have h0 := h0.keep hB6
    have h1 := h1.keep hB6
    have hin := hin.keep hB6
    have HB := join HB hB6
    clear hB6
    have tH := helpNat none 0 0 0 0 none 0 0 0 0 [] [] x6 rfl rfl (by decide) (by decide) ⟨.inl rfl, fun i hi => by simp at hi⟩ ⟨.inl rfl, fun i hi => by simp at hi⟩
    rw [eqB_true rfl] at tH
    go_wp2_with fail
    refine tH.mono ?_
    rintro e x7 ⟨rfl, hB7⟩
    clear tH
    have h1 := h1.keep hB7
    have hin := hin.keep hB7
    have HB := join HB hB7
    clear hB7
    have tH := helpBytes ai len1 ci bi oi a1 len1 cap1 b1 o1 l1 l1 _ hl1 hl1 (by omega) (by omega) hin h1
    rw [eqB_true rfl] at tH
    go_wp2_with fail
    refine tH.mono ?_
    rintro e x8 ⟨rfl, hB8⟩
    have HB := join HB hB8
    clear tH hB8
    go_wp2
    go_ret
    exact ⟨rfl, HB⟩
  · have hfirst : 0 < len1 → nth l1 0 ≠ 0 := fun h e => hz ⟨h, e⟩
    have HFI := (show Hid _ from hfirst)
    clear hfirst hz
    have tF := from_yes ai len1 ci bi oi l1 _ hl1 (by omega) W1 hin HFI.out
    go_wp2_with fail
    refine tF.mono ?_
    rintro e x2 ⟨v2, r2, rfl, hn2, hI2, hlen2, hB2⟩
    obtain ⟨ar2, br2, or2, cr2, rfl, hcr2, _, hr2, _⟩ := hn2.is
    clear tF
    have h0 := h0.keep hB2
    have h1 := h1.keep hB2
    have hin := hin.keep hB2
    have HB := join HB hB2
    clear hB2
    have tG := refFrom_yes a1 len1 cap1 b1 o1 l1 _ hl1 (by omega) W1 h1 HFI.out
    go_wp2_with fail
    refine tG.mono ?_
    rintro e x3 ⟨v3, r3, rfl, hn3, hI3, hlen3, hB3⟩
    obtain ⟨ar3, br3, or3, cr3, rfl, hcr3, _, hr3, _⟩ := hn3.is
    clear tG
    have h0 := h0.keep hB3
    have h1 := h1.keep hB3
    have hin := hin.keep hB3
    have hr2 := hr2.keep hB3
    have HB := join HB hB3
    clear hB3
    go_wp2_with fail
    refine (bytes_any a0 len0 cap0 b0 o0 l0 _ hl0 hc0 (by omega) W0 h0).mono ?_
    rintro e x4 ⟨v4, r4, rfl, hn4, hI4, hq4, hlen4, hB4⟩
    clear hq4
    obtain ⟨ar4, br4, or4, cr4, rfl, hcr4, _, hr4, _⟩ := hn4.is
    have h0 := h0.keep hB4
    have h1 := h1.keep hB4
    have hin := hin.keep hB4
    have hr2 := hr2.keep hB4
    have hr3 := hr3.keep hB4
    have HB := join HB hB4
    clear hB4
    go_wp2_with fail
    refine (refBytes_any a0 len0 cap0 b0 o0 l0 _ hl0 (by omega) W0 h0).mono ?_
    rintro e x5 ⟨v5, r5, rfl, hM5, hI5, hlen5, hB5⟩
    have h0 := h0.keep hB5
    have h1 := h1.keep hB5
    have hin := hin.keep hB5
    have hr2 := hr2.keep hB5
    have hr3 := hr3.keep hB5
    have hr4 := hr4.keep hB5
    have HB := join HB hB5
    clear hB5
    obtain ⟨ar5, cr5, br5, or5, rfl, hcr5, hr5⟩ := hM5.atB
    clear hM5
    have q6 : r4 = r5 := isB_unique hI4 hI5
    have tH := helpBytes ar4 r4.length cr4 br4 or4 ar5 r5.length cr5 br5 or5 r4 r5 _ rfl rfl (by omega) (by omega) hr4 hr5
    rw [eqB_true q6] at tH
    clear q6
    go_wp2_with fail
    refine tH.mono ?_
    rintro e x6 ⟨rfl, hB6⟩
    clear tH hr4 hr5
    have h0 := h0.keep hB6
    have h1 := h1.keep hB6
    have hin := hin.keep hB6
    have hr2 := hr2.keep hB6
    have hr3 := hr3.keep hB6
    have HB := join HB hB6
    clear hB6
    have q7 : r2 = r3 := isN_unique hI2 hI3
    have tH := helpNat ar2 r2.length cr2 br2 or2 ar3 r3.length cr3 br3 or3 r2 r3 _ rfl rfl (by omega) (by omega) hr2 hr3
    rw [eqB_true q7] at tH
    clear q7
    go_wp2_with fail
    refine tH.mono ?_
    rintro e x7 ⟨rfl, hB7⟩
    clear tH
    have h1 := h1.keep hB7
    have hin := hin.keep hB7
    have HB := join HB hB7
    clear hB7
    have tH := helpBytes ai len1 ci bi oi a1 len1 cap1 b1 o1 l1 l1 _ hl1 hl1 (by omega) (by omega) hin h1
    rw [eqB_true rfl] at tH
    go_wp2_with fail
    refine tH.mono ?_
    rintro e x8 ⟨rfl, hB8⟩
    have HB := join HB hB8
    clear tH hB8
    go_wp2
    go_ret
    exact ⟨rfl, HB⟩
end natBytes
end Go.Proofs.YtmmjiaeppnbfkaaDoor
