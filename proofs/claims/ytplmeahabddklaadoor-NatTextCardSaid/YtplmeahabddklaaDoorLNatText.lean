/- gleanlaw1.NatText returns true for all lists of limbs and all texts. -/
import Derived.Test.YtplmeahabddklaaDoorKnown
import Derived.Test.YtplmeahabddklaaDoorSmall
import Derived.Test.YtplmeahabddklaaDoorApp
import Derived.Test.YtplmeahabddklaaDoorRefPa
import Derived.Test.YtplmeahabddklaaDoorRefTx
namespace Go.Proofs.YtplmeahabddklaaDoor
namespace natText
open Go.RowKit Lim

theorem nTextT {w0 w : World} (htab : Lib.TabIs Tryd.prog w0 "internal/strconv.uint64pow10" .u64 Lib.pow10Tab) (hb0 : Below w0.heap.size w0 w) {ao : Option Addr} {n c : Nat} {x : Int} (h : NatA w ao n c x) (hn : n ≤ 4294967296) :
    Calls Tryd.prog 39 #[.slice ao n c] w fun e w' => ∃ s, e = .returned (.string s) ∧ TextOf s x ∧ s.size ≤ 40 * n + 40 ∧ Below w.heap.size w w' := by
  obtain ⟨b, o, l, h1, h2, h3, h4, rfl⟩ := h.ex
  exact text_any ao n c b o l w h1 h2 hn h3 h4 (fun g g1 g2 g3 g4 wx hb => app_any htab _ g4 (by have := (g1 _ (nth_mem (Nat.sub_lt (Nat.pos_of_ne_zero (fun e => g3 (List.eq_nil_of_length_eq_zero e))) Nat.one_pos))).2; omega) wx (joinB hb0 hb))
set_option maxHeartbeats 8000000 in
set_option maxRecDepth 100000 in
theorem walk (a0 : Option Addr) (len0 cap0 : Nat) (z0 : List Int) (s : ByteArray) (w : World) (w0 : IsRow w a0 len0 cap0 z0) (_hs : s.size ≤ maxLen) (htab : Lib.TabIs Tryd.prog w "internal/strconv.uint64pow10" .u64 Lib.pow10Tab) :
    Calls Tryd.prog 8 #[.slice a0 len0 cap0, .string s] w fun e w' => e = .returned (.bool true) ∧ Below w.heap.size w w' := by
  obtain ⟨b0, o0, l0, hl0, hc0, hm0, W0, h0⟩ := w0.open
  clear w0
  have HT := (show Hid _ from htab)
  clear htab
  unfold maxLen at _hs
  go_enter Tryd.func8, Tryd.ntmps8
  go_wp2_with fail
  refine (known_any w).mono ?_
  rintro e u1 ⟨rfl, HB⟩
  have h0 := h0.keep HB
  have b1 := below_alloc u1 (.cells #[.slice a0 len0 cap0] 23)
  have tS := small_any [(a0, len0, cap0)] u1.heap.size 1 1 (u1.alloc (.cells #[.slice a0 len0 cap0] 23)) rfl (by decide)
    (fun i => by
      match i with
      | 0 => exact hm0
      | _ + 1 => exact Nat.zero_le _)
    (fun i hi => by
      rw [cell_new]
      match i, hi with
      | 0, _ => rfl)
  go_wp2_with fail
  refine tS.mono ?_
  rintro e u2 ⟨rfl, rfl⟩
  clear tS
  have h0 := h0.keep b1
  have HB := join HB b1
  clear b1
  generalize u1.alloc (.cells #[.slice a0 len0 cap0] 23) = u2 at *
  by_cases hsm : smallB [(a0, len0, cap0)] = true
  rotate_left
  · have hsf : smallB [(a0, len0, cap0)] = false := by rw [Bool.not_eq_true] at hsm; exact hsm
    rw [hsf]
    go_wp2
    go_ret
    exact ⟨rfl, HB⟩
  rw [hsm]
  simp only [smallB, List.all_cons, List.all_nil, Bool.and_true, decide_eq_true_eq] at hsm
  have hs0 := hsm
  clear hsm
  have N0 : NatA _ a0 len0 cap0 (val l0) := ⟨b0, o0, l0, hl0, hc0, W0, h0, rfl⟩
  clear h0
  by_cases hss : (1200 : Int) < s.size
  · go_wp2
    go_ret
    exact ⟨rfl, HB⟩
  have hss2 : s.size ≤ 1200 := by omega
  go_wp2_with fail
  refine (nParse s (by omega)).mono ?_
  rintro e x1 ⟨aP, kP, dP, rfl, OP, hP, hB⟩
  replace N0 := N0.keep hB
  replace HB := join HB hB
  clear hB
  go_wp2_with fail
  refine (rParse s (by omega)).mono ?_
  rintro e x2 ⟨aQ, kQ, dQ, rfl, OQ, hQ, hB⟩
  replace N0 := N0.keep hB
  replace OP := OP.keep hB
  replace HB := join HB hB
  clear hB
  generalize parE s = pE at *
  generalize parV s = pV at *
  have HA := HB
  go_wp2_with fail
  refine (nTextT HT.out HA N0 (by omega)).mono ?_
  rintro e x3 ⟨S1, rfl, T1, hs1, hB⟩
  replace N0 := N0.keep hB
  replace OP := OP.keep hB
  replace OQ := OQ.keep hB
  replace HB := join HB hB
  clear hB
  go_wp2_with fail
  refine (rText N0 (by omega)).mono ?_
  rintro e x4 ⟨S2, rfl, T2, hs2, hB⟩
  replace N0 := N0.keep hB
  replace OP := OP.keep hB
  replace OQ := OQ.keep hB
  replace HB := join HB hB
  clear hB
  obtain rfl := textOf_eq T1 T2
  clear T1 T2
  have tS5 := nSame OP OQ (by omega) (by omega)
  rw [decide_eq_true (rfl)] at tS5
  go_wp2_with fail
  refine (tS5).mono ?_
  rintro e x6 ⟨rfl, hB⟩
  replace N0 := N0.keep hB
  replace OP := OP.keep hB
  replace OQ := OQ.keep hB
  replace HB := join HB hB
  clear hB
  clear tS5
  go_wp2
  go_ret
  exact ⟨rfl, HB⟩
end natText
end Go.Proofs.YtplmeahabddklaaDoor
