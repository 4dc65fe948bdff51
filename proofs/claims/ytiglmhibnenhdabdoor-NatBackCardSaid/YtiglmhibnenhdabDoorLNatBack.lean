/- gleanlaw1.NatBack returns true for all lists of limbs. -/
import Derived.Test.YtiglmhibnenhdabDoorKnown
import Derived.Test.YtiglmhibnenhdabDoorSmall
import Derived.Test.YtiglmhibnenhdabDoorBLess
namespace Go.Proofs.YtiglmhibnenhdabDoor
namespace natBack
open Go.RowKit Lim

set_option maxHeartbeats 8000000 in
set_option maxRecDepth 100000 in
theorem walk (a0 : Option Addr) (len0 cap0 : Nat) (z0 : List Int) (a1 : Option Addr) (len1 cap1 : Nat) (z1 : List Int) (w : World) (w0 : IsRow w a0 len0 cap0 z0) (w1 : IsRow w a1 len1 cap1 z1) (htab : Lib.TabIs Tryd.prog w "internal/strconv.uint64pow10" .u64 Lib.pow10Tab) :
    Calls Tryd.prog 3 #[.slice a0 len0 cap0, .slice a1 len1 cap1] w fun e w' => e = .returned (.bool true) ∧ Below w.heap.size w w' := by
  obtain ⟨b0, o0, l0, hl0, hc0, hm0, W0, h0⟩ := w0.open
  obtain ⟨b1, o1, l1, hl1, hc1, hm1, W1, h1⟩ := w1.open
  clear w0 w1
  have HT := (show Hid _ from htab)
  clear htab
  go_enter Tryd.func3, Tryd.ntmps3
  go_wp2_with fail
  refine (known_any w).mono ?_
  rintro e u1 ⟨rfl, HB⟩
  have h0 := h0.keep HB
  have h1 := h1.keep HB
  have b1 := below_alloc u1 (.cells #[.slice a0 len0 cap0, .slice a1 len1 cap1] 23)
  have tS := small_any [(a0, len0, cap0), (a1, len1, cap1)] u1.heap.size 2 2 (u1.alloc (.cells #[.slice a0 len0 cap0, .slice a1 len1 cap1] 23)) rfl (by decide)
    (fun i => by
      match i with
      | 0 => exact hm0
      | 1 => exact hm1
      | _ + 2 => exact Nat.zero_le _)
    (fun i hi => by
      rw [cell_new]
      match i, hi with
      | 0, _ => rfl
      | 1, _ => rfl)
  go_wp2_with fail
  refine tS.mono ?_
  rintro e u2 ⟨rfl, rfl⟩
  clear tS
  have h0 := h0.keep b1
  have h1 := h1.keep b1
  have HB := join HB b1
  clear b1
  generalize u1.alloc (.cells #[.slice a0 len0 cap0, .slice a1 len1 cap1] 23) = u2 at *
  by_cases hsm : smallB [(a0, len0, cap0), (a1, len1, cap1)] = true
  rotate_left
  · have hsf : smallB [(a0, len0, cap0), (a1, len1, cap1)] = false := by rw [Bool.not_eq_true] at hsm; exact hsm
    rw [hsf]
    go_wp2
    go_ret
    exact ⟨rfl, HB⟩
  rw [hsm]
  simp only [smallB, List.all_cons, List.all_nil, Bool.and_true, Bool.and_eq_true, decide_eq_true_eq] at hsm
  obtain ⟨hs0, hs1⟩ := hsm
  have N0 : NatA _ a0 len0 cap0 (val l0) := ⟨b0, o0, l0, hl0, hc0, W0, h0, rfl⟩
  have N1 : NatA _ a1 len1 cap1 (val l1) := ⟨b1, o1, l1, hl1, hc1, W1, h1, rfl⟩
  go_wp2_with fail
  refine (bytes_any a0 len0 cap0 b0 o0 l0 _ hl0 hc0 (by omega) W0 h0).mono ?_
  rintro e x1 ⟨vx, rx, rfl, hnx, hIx, hlx, hlx8, hB⟩
  obtain ⟨ax, bx, ox, cx, rfl, hcx, _, hax, _⟩ := hnx.is
  have HLX := (show Hid _ from hlx)
  have N0 := N0.keep hB
  have N1 := N1.keep hB
  have h0 := h0.keep hB
  have h1 := h1.keep hB
  have HB := join HB hB
  clear hB hlx hnx
  go_wp2_with fail
  refine (bytes_any a1 len1 cap1 b1 o1 l1 _ hl1 hc1 (by omega) W1 h1).mono ?_
  rintro e x2 ⟨vy, ry, rfl, hny, hIy, hly, hly8, hB⟩
  obtain ⟨ay, by', oy, cy, rfl, hcy, _, hay, _⟩ := hny.is
  have N0 := N0.keep hB
  have N1 := N1.keep hB
  have h0 := h0.keep hB
  have hax := hax.keep hB
  have HB := join HB hB
  clear hB hly hny h1
  go_wp2_with fail
  refine (from_yes ax rx.length cx bx ox rx _ rfl (by omega) hIx.1 hax (fun hp => hIx.2.1 (fun e => by rw [e] at hp; simp at hp))).mono ?_
  rintro e x3 ⟨vm, rm, rfl, hnm, hIm, hlm, hB⟩
  obtain ⟨am, cm, rfl, Om⟩ := hnm.o hIm
  have Om := Om.eqv hIx.2.2
  have N0 := N0.keep hB
  have N1 := N1.keep hB
  have h0 := h0.keep hB
  have hax := hax.keep hB
  have hay := hay.keep hB
  have HB := join HB hB
  clear hB hnm hIm
  go_wp2_with fail
  refine (text_any a0 len0 cap0 b0 o0 l0 _ hl0 hc0 (by omega) W0 h0 (fun g g1 g2 g3 g4 wx hb => app_any HT.out _ g4 (by have := (g1 _ (nth_mem (Nat.sub_lt (Nat.pos_of_ne_zero (fun e => g3 (List.eq_nil_of_length_eq_zero e))) Nat.one_pos))).2; omega) wx (join HB hb))).mono ?_
  rintro e x4 ⟨S, rfl, hS, hSs, hB⟩
  obtain ⟨hT1, hT2⟩ := text_isT hS
  have N0 := N0.keep hB
  have N1 := N1.keep hB
  have Om := Om.keep hB
  have hax := hax.keep hB
  have hay := hay.keep hB
  have HB := join HB hB
  clear hB hS h0
  have HT2 := (show Hid _ from hT2)
  have tP := parse_yes S x4 (by omega) hT1
  clear hT1 hT2
  go_wp2_with fail
  refine tP.mono ?_
  rintro e x5 ⟨vn, rn, rfl, hnn, hIn, hln, hB⟩
  obtain ⟨an, cn, rfl, On⟩ := hnn.o hIn
  have On := On.eqv HT2.out
  have N0 := N0.keep hB
  have N1 := N1.keep hB
  have Om := Om.keep hB
  have hax := hax.keep hB
  have hay := hay.keep hB
  have HB := join HB hB
  clear hB hnn hIn tP HT2
  go_wp2_with fail
  refine (nNorm N0 (by omega)).mono ?_
  rintro e x6 ⟨ap, kp, dp, rfl, Op, hkp, hB⟩
  have N0 := N0.keep hB
  have N1 := N1.keep hB
  have Om := Om.keep hB
  have On := On.keep hB
  have hax := hax.keep hB
  have hay := hay.keep hB
  have HB := join HB hB
  clear hB
  have tS := nSame Om Op (by omega) (by omega)
  rw [decide_eq_true rfl] at tS
  go_wp2_with fail
  refine tS.mono ?_
  rintro e x7 ⟨rfl, hB⟩
  have N0 := N0.keep hB
  have N1 := N1.keep hB
  have On := On.keep hB
  have hax := hax.keep hB
  have hay := hay.keep hB
  have HB := join HB hB
  clear hB tS Om Op
  go_wp2_with fail
  refine (nNorm N0 (by omega)).mono ?_
  rintro e x8 ⟨ap', kp', dp', rfl, Op, hkp', hB⟩
  have N0 := N0.keep hB
  have N1 := N1.keep hB
  have On := On.keep hB
  have hax := hax.keep hB
  have hay := hay.keep hB
  have HB := join HB hB
  clear hB
  have tS := nSame On Op (by omega) (by omega)
  rw [decide_eq_true rfl] at tS
  go_wp2_with fail
  refine tS.mono ?_
  rintro e x9 ⟨rfl, hB⟩
  have N0 := N0.keep hB
  have N1 := N1.keep hB
  have hax := hax.keep hB
  have hay := hay.keep hB
  have HB := join HB hB
  clear hB tS On Op
  have tB := nBits N0 (by omega)
  have hbl := HLX.out
  clear HLX
  generalize bitLen (val l0).toNat = B at *
  have hqi : ((B : Int) + 7) / 8 = (rx.length : Int) := by omega
  have hB9 : B ≤ 100000 := by omega
  clear hbl
  go_wp2_with fail
  refine tB.mono ?_
  rintro e x10 ⟨rfl, hB⟩
  have N0 := N0.keep hB
  have N1 := N1.keep hB
  have hax := hax.keep hB
  have hay := hay.keep hB
  have HB := join HB hB
  clear hB tB
  have bx0 := bval_bound hIx.1
  have by0 := bval_bound hIy.1
  have vx := hIx.2.2
  have vy := hIy.2.2
  have gx : rx ≠ [] → (256 : Int) ^ (rx.length - 1) ≤ bval rx := fun h => bval_ge hIx.1 h (hIx.2.1 h)
  have gy : ry ≠ [] → (256 : Int) ^ (ry.length - 1) ≤ bval ry := fun h => bval_ge hIy.1 h (hIy.2.1 h)
  have tC := nCmp N0 N1 (by omega) (by omega)
  rcases Nat.lt_trichotomy rx.length ry.length with hlt | heq | hgt
  · have hv : val l0 < val l1 := by
      have h1 := gy (fun e => by rw [e] at hlt; simp at hlt)
      have h2 := pow256_mono (show rx.length ≤ ry.length - 1 by omega)
      omega
    rw [sgn_lt hv] at tC
    clear hv gx gy vx vy bx0 by0 N0 N1
    have hlt' : (rx.length : Int) < (ry.length : Int) := by omega
    go_wp2_with fail
    refine tC.mono ?_
    rintro e x11 ⟨rfl, hB⟩
    go_wp2
    go_ret
    exact ⟨rfl, join HB hB⟩
  · have tL := less_any ax ry.length cx bx ox ay cy by' oy rx ry x10 heq rfl (by omega) hIx.1 hIy.1 hax hay
    rw [vx, vy] at tL
    have heq' := (show Hid _ from heq)
    rw [heq]
    have hq2 : ((B : Int) + 7) / 8 = (ry.length : Int) := by omega
    have M0 := N0
    have M1 := N1
    clear hqi heq gx gy vx vy bx0 by0 N0 N1 tC
    by_cases hv : val l0 < val l1
    · have HV := (show Hid _ from hv)
      rw [decide_eq_true hv] at tL
      clear hv
      go_wp2_with fail
      refine tL.mono ?_
      rintro e x11 ⟨rfl, hB⟩
      have tC := nCmp (M0.keep hB) (M1.keep hB) (by omega) (by omega)
      rw [sgn_lt HV.out] at tC
      have HB := join HB hB
      go_wp2_with fail
      refine tC.mono ?_
      rintro e x12 ⟨rfl, hB2⟩
      go_wp2
      go_ret
      exact ⟨rfl, join HB hB2⟩
    · have HG : Hid (¬ sgn (val l0) (val l1) < 0) := by
        show ¬ _
        unfold sgn; rw [if_neg hv]; split <;> decide
      rw [decide_eq_false hv] at tL
      clear hv
      go_wp2_with fail
      refine tL.mono ?_
      rintro e x11 ⟨rfl, hB⟩
      have tC := nCmp (M0.keep hB) (M1.keep hB) (by omega) (by omega)
      have hg := HG.out
      generalize sgn (val l0) (val l1) = sg at *
      have HB := join HB hB
      go_wp2_with fail
      refine tC.mono ?_
      rintro e x12 ⟨rfl, hB2⟩
      go_wp2
      go_ret
      refine ⟨?_, join HB hB2⟩
      first | rfl | exact retB (by simp; omega) | exact retB (by simp only [hg]; rfl) | exact retB (by simp [hg])
  · have hv : val l1 < val l0 := by
      have h1 := gx (fun e => by rw [e] at hgt; simp at hgt)
      have h2 := pow256_mono (show ry.length ≤ rx.length - 1 by omega)
      omega
    rw [sgn_gt hv] at tC
    clear hv gx gy vx vy bx0 by0 N0 N1
    have hgt' : (ry.length : Int) < (rx.length : Int) := by omega
    go_wp2_with fail
    refine tC.mono ?_
    rintro e x11 ⟨rfl, hB⟩
    go_wp2
    go_ret
    refine ⟨?_, join HB hB⟩
    first | rfl | exact retB (by simp; omega)
end natBack
end Go.Proofs.YtiglmhibnenhdabDoor
