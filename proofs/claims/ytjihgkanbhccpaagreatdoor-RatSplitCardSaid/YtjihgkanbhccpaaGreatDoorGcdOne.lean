/- nat.Gcd where the lesser number has one limb at most. -/
import Derived.Test.YtjihgkanbhccpaaGreatDoorDivOne
import Derived.Deep.RegionWith
namespace Go.Proofs.YtjihgkanbhccpaaGreatDoor
open Go.RowKit Lim

theorem gcd_step (a b : Int) (ha : 0 ≤ a) (hb : 0 ≤ b) : Int.gcd b (a % b) = Int.gcd a b := by
  obtain ⟨a, rfl⟩ := Int.eq_ofNat_of_zero_le ha
  obtain ⟨b, rfl⟩ := Int.eq_ofNat_of_zero_le hb
  show Nat.gcd b ((a : Int) % (b : Int)).natAbs = Nat.gcd a b
  rw [show ((a : Int) % (b : Int)).natAbs = a % b from rfl, Nat.gcd_comm b, Nat.gcd_comm a b]
  exact (Nat.gcd_rec b a).symm

set_option maxHeartbeats 1000000 in
set_option maxRecDepth 100000 in
theorem gcdSmall_any (x y : Int) (w : World) (hx : 0 ≤ x) (hx1 : x < 18446744073709551616) (hy : 0 ≤ y) (hy1 : y < 18446744073709551616) :
    Calls Tryz.prog 126 #[.int .u64 x, .int .u64 y] w fun e w' => e = .returned (.int .u64 (Int.gcd x y : Nat)) ∧ ∃ n, w' = w.drewN n := by
  go_enter Tryz.func126, Tryz.ntmps126
  go_wp2
  go_loopw [0, 1] (fun tx ty wr => ∃ a b : Int, tx = .int .u64 a ∧ ty = .int .u64 b ∧ 0 ≤ a ∧ a < 18446744073709551616 ∧ 0 ≤ b ∧ b < 18446744073709551616 ∧ Hid (Int.gcd a b = Int.gcd x y) ∧ ∃ n, wr = w.drewN n) (fun _ ty _ => (intOf ty).toNat)
  case atStart => exact ⟨x, y, rfl, rfl, hx, hx1, hy, hy1, rfl, 0, rfl⟩
  case round =>
    obtain ⟨a, b, rfl, rfl, a0, a1, b0, b1, hg, n, rfl⟩ := hrel
    by_cases hb : b = 0
    · subst hb
      go_wp2
      go_ret
      refine ⟨ret1 ?_, n, rfl⟩
      have := hg.out
      rw [Int.gcd_zero_right] at this
      omega
    · have hb' : (b != 0) = true := by rw [bne_iff_ne]; exact hb
      have hb2 : (b == 0) = false := beq_eq_false_iff_ne.2 hb
      have hbp : 0 < b := by omega
      have hm0 := Int.emod_nonneg a hb
      have hm1 := Int.emod_lt_of_pos a hbp
      go_wp2_with fail
      go_quiet (fail)
      go_wp2
      go_roundw
      case rel => exact ⟨b, a % b, rfl, rfl, b0, b1, hm0, by omega, by show _ = _; rw [← hg.out]; exact gcd_step a b a0 b0, _, World.drewN_drewN _ _ _⟩
      case measure => simp [intOf]; omega
theorem Row.keep {w w' : World} {g : Nat} {l : List Int} (h : Row w g l) (hb : Below w.heap.size w w') : Row w' g l := by
  unfold Row at *
  rw [hb.block g (Array.getElem?_eq_some_iff.1 h).1]; exact h
theorem gcd_one {x y d left : Int} (hx : 0 ≤ x) (hd : 0 < d) (hy : y = d) (hl : left = x % d) : (Int.gcd d left : Int) = Int.gcd x y := by
  subst hy hl; rw [gcd_step x y hx (by omega)]
theorem gcd_bound (d left : Int) (hd : 0 < d) (h1 : d < 18446744073709551616) : ((Int.gcd d left : Nat) : Int) < 18446744073709551616 := by
  have : Int.gcd d left ≤ d.natAbs := Nat.gcd_le_left _ (by omega)
  omega

set_option maxHeartbeats 2000000 in
set_option maxRecDepth 100000 in
theorem gcd_small (ao : Option Addr) (n c b o : Nat) (ao' : Option Addr) (n' c' b' o' : Nat) (l l' : List Int) (w : World) (hl : l.length = n) (hl' : l'.length = n') (hc : n ≤ c) (hc' : n' ≤ c') (hbig : n ≤ 1099511627776) (hbig' : n' ≤ 1099511627776)
    (wl : Words l) (wl' : Words l') (ha : At w ao b o l) (ha' : At w ao' b' o' l') (hs : (val l < val l' ∧ nlen l ≤ 1) ∨ (val l' ≤ val l ∧ nlen l' ≤ 1)) :
    Calls Tryz.prog 89 #[.slice ao n c, .slice ao' n' c'] w fun e w' => ∃ v r, e = .returned v ∧ NewV w w' v r ∧ IsN r (Int.gcd (val l) (val l') : Nat) ∧ r.length ≤ n + n' + 1 ∧ Below w.heap.size w w' := by
  have hn := nlen_le l
  have hn' := nlen_le l'
  have hnl := norm_length l
  have hnl' := norm_length l'
  have hI := isN_norm wl
  have hI' := isN_norm wl'
  have hv0 := val_nonneg wl
  have hv0' := val_nonneg wl'
  go_enter Tryz.func89, Tryz.ntmps89
  go_wp2_with fail
  refine (norm_any ao n c b o l w hl hc hbig ha).mono ?_
  rintro e w1 ⟨rfl, hr1, hb1⟩
  go_wp2_with fail
  refine (norm_any ao' n' c' b' o' l' w1 hl' hc' hbig' (ha'.keep hb1)).mono ?_
  rintro e w2 ⟨rfl, hr2, hb2⟩
  have hr1' := hr1.keep hb2
  have hz1 := hb1.size
  have hz2 := hb2.size
  have hlt1 := hr1.lt
  have hlt2 := hr2.lt
  have t1 := cmp_any (some ⟨w.heap.size, 0, none⟩) (nlen l) (nlen l) w.heap.size 0 (some ⟨w1.heap.size, 0, none⟩) (nlen l') (nlen l') w1.heap.size 0 (norm l) (norm l') w2 hnl hnl' (Nat.le_refl _) (Nat.le_refl _) (by omega) (by omega) hI.1 hI'.1 hr1'.at hr2.at
  rw [val_norm, val_norm] at t1
  have HB := hb1.trans (hb2.mono hz1)
  clear hr1
  rcases hs with ⟨hlt, h1⟩ | ⟨hge, h1⟩
  · rw [sgn_lt hlt] at t1
    have _hsk := hlt
    generalize hN1 : nlen l = N at *
    generalize hN2 : nlen l' = N' at *
    generalize norm l = L at *
    generalize norm l' = L' at *
    clear hN1 hN2
    go_wp2_with fail
    refine t1.mono ?_
    rintro e w3 ⟨rfl, hb3⟩
    have hz3 := hb3.size
    have hX := hr2.keep hb3
    have hY := hr1'.keep hb3
    have HB3 := HB.trans (hb3.mono (by omega))
    clear t1 hr1' hr2 hb3 hb2 hb1 HB
    have hgne : w.heap.size ≠ w1.heap.size := by omega
    go_wp2_with fail
    refine wp_loop_rounds 1 ?_
    rw [rounds_succ]
    by_cases h0 : N = 0
    · subst h0
      have e0 : L = [] := List.eq_nil_of_length_eq_zero hnl
      subst e0
      go_wp2
      go_ret
      refine ⟨_, L', rfl, NewV.of hnl'.symm (Nat.le_refl _) (by omega) hX.at (hX.free _ _), ?_, by omega, HB3⟩
      have hv := hI.2.2
      rw [show Lim.val [] = 0 from rfl] at hv
      rw [← hv, Int.gcd_zero_left]
      rw [Int.natAbs_of_nonneg hv0']
      exact hI'
    · have h01 : N = 1 := by omega
      subst h01
      obtain ⟨d, rfl⟩ := List.length_eq_one_iff.1 hnl
      have hdw := hI.1 d (by simp)
      have hd0 : 0 < d := by
        have h2 := hI.2.1
        by_cases c : d = 0
        · subst c; simp [nlen] at h2
        · omega
      have hv := hI.2.2
      rw [val_single] at hv
      have HV := (show Hid (d = val l) from hv)
      clear hv
      have hcd := hY.at.cell 0 (by simp)
      rw [nth_zero, Nat.add_zero] at hcd
      have hcd1 : w3.drew.cell? ⟨w.heap.size, 0, none⟩ = some (.int .u64 d) := hcd
      have tD := divideSmall_any (some ⟨w1.heap.size, 0, none⟩) w1.heap.size 0 N' N' d L' w3.drew hnl' (by omega) (Nat.le_refl _) hd0 hdw.2 hI'.1 hX.at.drew (hX.free _ _).drew
      have HX := (show Hid (Row w3 w1.heap.size L') from hX)
      clear hX hY
      go_wp2_with fail
      go_region_with (first
        | (go_at_call 127; refine tD.mono ?_; rintro e w4 ⟨left, lz, rfl, hf0, hf1, hlz, hwz, hatz, hwr, hvz⟩; have hcd4 := (hwr.other (k := w.heap.size) (i := 0) hgne).trans hcd1)
        | (go_at_call 126; refine (gcdSmall_any d left _ (by omega) (by omega) hf0 (by omega)).mono ?_; rintro e w5 ⟨rfl, nd, rfl⟩)
        | (go_at_call 23; refine (of_any _ _ (by omega) (gcd_bound d left hd0 hdw.2)).mono ?_; rintro e w6 ⟨v, r, rfl, hnew, hI6, hlen6, hb6⟩))
      all_goals go_wp2
      all_goals go_ret
      all_goals
        have hleft : left = val l' % d := by
          have hh := Int.ediv_emod_unique (a := val l') (b := d) (r := left) (q := Lim.val lz) hd0
          exact (hh.2 ⟨by rw [← hI'.2.2, ← hvz, Int.mul_comm]; omega, hf0, hf1⟩).2.symm
        have hwz4 := hwr.size
        have hsz4 : w.heap.size ≤ (w4.drewN nd).heap.size := by
          show w.heap.size ≤ w4.heap.size
          have : w3.drew.heap.size = w3.heap.size := rfl
          omega
        have HBz : Below w.heap.size w w6 := (below_drewN ((HB3.drew).trans (hwr.below (by omega))) nd).trans (hb6.mono hsz4)
        refine ⟨v, r, rfl, hnew.mono hsz4, ?_, by omega, HBz⟩
        rw [gcd_one hv0' hd0 HV.out.symm hleft] at hI6
        rw [Int.gcd_comm]; exact hI6
  · have hs0 : 0 ≤ sgn (val l) (val l') := by unfold sgn; split <;> (try split) <;> omega
    generalize sgn (val l) (val l') = sg at *
    generalize hN1 : nlen l = N at *
    generalize hN2 : nlen l' = N' at *
    generalize norm l = L at *
    generalize norm l' = L' at *
    clear hN1 hN2
    go_wp2_with fail
    refine t1.mono ?_
    rintro e w3 ⟨rfl, hb3⟩
    have hz3 := hb3.size
    have hX := hr1'.keep hb3
    have hY := hr2.keep hb3
    have HB3 := HB.trans (hb3.mono (by omega))
    clear t1 hr1' hr2 hb3 hb2 hb1 HB
    have hgne : w1.heap.size ≠ w.heap.size := by omega
    go_wp2_with fail
    refine wp_loop_rounds 1 ?_
    rw [rounds_succ]
    by_cases h0 : N' = 0
    · subst h0
      have e0 : L' = [] := List.eq_nil_of_length_eq_zero hnl'
      subst e0
      go_wp2
      go_ret
      refine ⟨_, L, rfl, NewV.of hnl.symm (Nat.le_refl _) (by omega) hX.at (hX.free _ _), ?_, by omega, HB3⟩
      have hv := hI'.2.2
      rw [show Lim.val [] = 0 from rfl] at hv
      rw [← hv, Int.gcd_zero_right]
      rw [Int.natAbs_of_nonneg hv0]
      exact hI
    · have h01 : N' = 1 := by omega
      subst h01
      obtain ⟨d, rfl⟩ := List.length_eq_one_iff.1 hnl'
      have hdw := hI'.1 d (by simp)
      have hd0 : 0 < d := by
        have h2 := hI'.2.1
        by_cases c : d = 0
        · subst c; simp [nlen] at h2
        · omega
      have hv := hI'.2.2
      rw [val_single] at hv
      have HV := (show Hid (d = val l') from hv)
      clear hv
      have hcd := hY.at.cell 0 (by simp)
      rw [nth_zero, Nat.add_zero] at hcd
      have hcd1 : w3.drew.cell? ⟨w1.heap.size, 0, none⟩ = some (.int .u64 d) := hcd
      have tD := divideSmall_any (some ⟨w.heap.size, 0, none⟩) w.heap.size 0 N N d L w3.drew hnl (by omega) (Nat.le_refl _) hd0 hdw.2 hI.1 hX.at.drew (hX.free _ _).drew
      have HX := (show Hid (Row w3 w.heap.size L) from hX)
      clear hX hY
      go_wp2_with fail
      go_region_with (first
        | (go_at_call 127; refine tD.mono ?_; rintro e w4 ⟨left, lz, rfl, hf0, hf1, hlz, hwz, hatz, hwr, hvz⟩; have hcd4 := (hwr.other (k := w1.heap.size) (i := 0) hgne).trans hcd1)
        | (go_at_call 126; refine (gcdSmall_any d left _ (by omega) (by omega) hf0 (by omega)).mono ?_; rintro e w5 ⟨rfl, nd, rfl⟩)
        | (go_at_call 23; refine (of_any _ _ (by omega) (gcd_bound d left hd0 hdw.2)).mono ?_; rintro e w6 ⟨v, r, rfl, hnew, hI6, hlen6, hb6⟩))
      all_goals go_wp2
      all_goals go_ret
      all_goals
        have hleft : left = val l % d := by
          have hh := Int.ediv_emod_unique (a := val l) (b := d) (r := left) (q := Lim.val lz) hd0
          exact (hh.2 ⟨by rw [← hI.2.2, ← hvz, Int.mul_comm]; omega, hf0, hf1⟩).2.symm
        have hwz4 := hwr.size
        have hsz4 : w.heap.size ≤ (w4.drewN nd).heap.size := by
          show w.heap.size ≤ w4.heap.size
          have : w3.drew.heap.size = w3.heap.size := rfl
          omega
        have HBz : Below w.heap.size w w6 := (below_drewN ((HB3.drew).trans (hwr.below (by omega))) nd).trans (hb6.mono hsz4)
        refine ⟨v, r, rfl, hnew.mono hsz4, ?_, by omega, HBz⟩
        rw [gcd_one hv0 hd0 HV.out.symm hleft] at hI6
        exact hI6
end Go.Proofs.YtjihgkanbhccpaaGreatDoor
