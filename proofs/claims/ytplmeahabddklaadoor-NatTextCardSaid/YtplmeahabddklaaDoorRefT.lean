/- gleanref1.take and Sub: the difference, digit by digit. -/
import Derived.Test.YtplmeahabddklaaDoorRefA
namespace Go.Proofs.YtplmeahabddklaaDoor
open Go.RowKit Lim

set_option maxHeartbeats 2000000 in
set_option maxRecDepth 100000 in
theorem rtake {w : World} {ao ao' : Option Addr} {n c n' c' : Nat} {x y : Int} (h : DigO w ao n c x) (h' : DigO w ao' n' c' y) (hn : n ≤ 1099511627776) (hn' : n' ≤ 1099511627776) (hle : y ≤ x) :
    Calls Tryd.prog 50 #[.slice ao n c, .slice ao' n' c'] w fun e w' => ∃ a k d, e = .returned (.slice (some a) k d) ∧ DigN w' w.heap.size (some a) k d (x - y) ∧ k ≤ n ∧ Below w.heap.size w w' := by
  obtain ⟨b1, o1, l1, hl1, hc1, D1, N1, A1, rfl⟩ := h.ex
  obtain ⟨b2, o2, l2, hl2, hc2, D2, N2, A2, rfl⟩ := h'.ex
  clear h h'
  have hnn : n' ≤ n := by
    rcases Nat.lt_or_ge n n' with e | e
    · have := v32_len D1 D2 N2 (by omega); omega
    · exact e
  have hne1 : l1 = [] ∨ b1 ≠ w.heap.size := by
    rcases A1.lt with e | e
    · exact .inl e
    · exact .inr (by omega)
  have hne2 : l2 = [] ∨ b2 ≠ w.heap.size := by
    rcases A2.lt with e | e
    · exact .inl e
    · exact .inr (by omega)
  obtain ⟨k2, hk2⟩ : ∃ k2, k2 = n' := ⟨_, rfl⟩
  subst hk2
  go_enter Tryd.func50, Tryd.ntmps50
  go_wp2_with (at_make; refine wpList_makeR rfl _ _ rfl n n _ _ rfl rfl rfl rfl (Nat.le_refl _) (by omega) ?_; intro w3 hrow hbel hsz)
  go_loopw [6, 7] (fun tc ti wr => ∃ (k : Nat) (c : Int) (lz : List Int), k ≤ n ∧ ti = .int .i64 k ∧ tc = .int .u64 c ∧ DifInv l1 l2 lz n k c ∧ At wr (some ⟨w.heap.size, 0, none⟩) w.heap.size 0 lz ∧ Wr w.heap.size 0 n w3 wr) (fun _ ti _ => n - (intOf ti).toNat)
  case atStart => exact ⟨0, 0, _, Nat.zero_le _, rfl, rfl, ⟨by simp, dig_zero _, by decide, by decide, by simp [v32]⟩, hrow.at, Wr.refl _ _ _ _⟩
  case round =>
    obtain ⟨k, c, lz, hk, rfl, rfl, hinv, hat, hwr⟩ := hrel
    by_cases hlt : k < n
    · have hlen := hinv.len
      have hfr := hwr.free (hrow.free 0 n) k (by omega)
      have hcz := hat.cell k (by omega)
      rw [Nat.zero_add] at hfr hcz
      have hk0 : (k : Int) < n := by omega
      have p1 := D1.nth k
      have c0' := hinv.c0
      have c1' := hinv.c1
      have HW := (show Hid _ from hwr)
      rcases A1.loc with e | rfl
      · subst e; simp at hl1; omega
      have q1 := ((A1.keep hbel).wr hwr hne1).cell k (by omega)
      by_cases hy : k < k2
      · by_cases hlb : nth l1 k < c + nth l2 k
        · skip
          rcases A2.loc with e | rfl
          · subst e; simp at hl2; omega
          have q2 := ((A2.keep hbel).wr hwr hne2).cell k (by omega)
          have hy0 : (k : Int) < k2 := by omega
          have p2 := D2.nth k
          have hb1 : nth l1 k < c + nth l2 k := hlb
          have hA3 := (((hat.set0 (i := k) (by omega) (nth l1 k)).set0 (i := k) (by simp only [List.length_set]; omega) (nth l1 k + 4294967295 + 1)).set0 (i := k) (by simp only [List.length_set]; omega) (nth l1 k + 4294967295 + 1 - (c + nth l2 k)))
          rw [List.set_set, List.set_set] at hA3
          have HA := (show Hid _ from hA3)
          clear hA3
          have HS : Hid _ := (show Hid _ from hinv.step hlt (s := c + nth l2 k) (r := nth l1 k + 4294967295 + 1 - (c + nth l2 k)) (c' := 1) rfl (by decide) (by omega) (by omega) (by omega))
          have c0 := hinv.c0
          have c1 := hinv.c1
          clear hinv A1 A2 hat hwr hne1 hne2 hrow D1 D2 N1 N2 hl1 hl2 hlb
          generalize nth l1 k = g1 at *
          generalize nth l2 k = g2 at *
          go_wp2
          exact ⟨⟨k + 1, _, _, by omega, by go_num, rfl, HS.out, HA.out, (((HW.out.setCell (by omega) (by omega) _).setCell (by omega) (by omega) _).setCell (by omega) (by omega) _)⟩, by simp [intOf]; omega⟩
        · skip
          rcases A2.loc with e | rfl
          · subst e; simp at hl2; omega
          have q2 := ((A2.keep hbel).wr hwr hne2).cell k (by omega)
          have hy0 : (k : Int) < k2 := by omega
          have p2 := D2.nth k
          have hb1 : ¬ nth l1 k < c + nth l2 k := hlb
          have hA3 := ((hat.set0 (i := k) (by omega) (nth l1 k)).set0 (i := k) (by simp only [List.length_set]; omega) (nth l1 k - (c + nth l2 k)))
          rw [List.set_set] at hA3
          have HA := (show Hid _ from hA3)
          clear hA3
          have HS : Hid _ := (show Hid _ from hinv.step hlt (s := c + nth l2 k) (r := nth l1 k - (c + nth l2 k)) (c' := 0) rfl (by decide) (by omega) (by omega) (by omega))
          have c0 := hinv.c0
          have c1 := hinv.c1
          clear hinv A1 A2 hat hwr hne1 hne2 hrow D1 D2 N1 N2 hl1 hl2 hlb
          generalize nth l1 k = g1 at *
          generalize nth l2 k = g2 at *
          go_wp2
          exact ⟨⟨k + 1, _, _, by omega, by go_num, rfl, HS.out, HA.out, ((HW.out.setCell (by omega) (by omega) _).setCell (by omega) (by omega) _)⟩, by simp [intOf]; omega⟩
      · by_cases hlb : nth l1 k < c
        · skip
          have hy0 : ¬ (k : Int) < k2 := by omega
          have hb1 : nth l1 k < c := hlb
          have hA3 := (((hat.set0 (i := k) (by omega) (nth l1 k)).set0 (i := k) (by simp only [List.length_set]; omega) (nth l1 k + 4294967295 + 1)).set0 (i := k) (by simp only [List.length_set]; omega) (nth l1 k + 4294967295 + 1 - (c)))
          rw [List.set_set, List.set_set] at hA3
          have HA := (show Hid _ from hA3)
          clear hA3
          have HS : Hid _ := (show Hid _ from hinv.step hlt (s := c) (r := nth l1 k + 4294967295 + 1 - (c)) (c' := 1) (by rw [nth_ge (l := l2) (by omega)]; omega) (by decide) (by omega) (by omega) (by omega))
          have c0 := hinv.c0
          have c1 := hinv.c1
          clear hinv A1 A2 hat hwr hne1 hne2 hrow D1 D2 N1 N2 hl1 hl2 hlb
          generalize nth l1 k = g1 at *
          go_wp2
          exact ⟨⟨k + 1, _, _, by omega, by go_num, rfl, HS.out, HA.out, (((HW.out.setCell (by omega) (by omega) _).setCell (by omega) (by omega) _).setCell (by omega) (by omega) _)⟩, by simp [intOf]; omega⟩
        · skip
          have hy0 : ¬ (k : Int) < k2 := by omega
          have hb1 : ¬ nth l1 k < c := hlb
          have hA3 := ((hat.set0 (i := k) (by omega) (nth l1 k)).set0 (i := k) (by simp only [List.length_set]; omega) (nth l1 k - (c)))
          rw [List.set_set] at hA3
          have HA := (show Hid _ from hA3)
          clear hA3
          have HS : Hid _ := (show Hid _ from hinv.step hlt (s := c) (r := nth l1 k - (c)) (c' := 0) (by rw [nth_ge (l := l2) (by omega)]; omega) (by decide) (by omega) (by omega) (by omega))
          have c0 := hinv.c0
          have c1 := hinv.c1
          clear hinv A1 A2 hat hwr hne1 hne2 hrow D1 D2 N1 N2 hl1 hl2 hlb
          generalize nth l1 k = g1 at *
          go_wp2
          exact ⟨⟨k + 1, _, _, by omega, by go_num, rfl, HS.out, HA.out, ((HW.out.setCell (by omega) (by omega) _).setCell (by omega) (by omega) _)⟩, by simp [intOf]; omega⟩
    · have hkm : k = n := by omega
      subst hkm
      have hv := hinv.fin D1 D2 (by omega) (by omega) hle
      have hlen := hinv.len
      have hb3 := hbel.trans (hwr.below (Nat.le_refl _))
      have t := refTrim_any (some ⟨w.heap.size, 0, none⟩) k k lz wr hlen (Nat.le_refl _) (by omega) hat.cells
      have HO : DigN wr w.heap.size (some ⟨w.heap.size, 0, none⟩) (nlen lz) k (v32 l1 - v32 l2) := ⟨_, 0, norm lz, norm_length lz, by have := nlen_le lz; omega, hinv.dig.take _, nlen_norm lz, hat.sub _, by rw [v32_norm, hv], .inr (Nat.le_refl _)⟩
      have hle2 := nlen_le lz
      clear hinv hat hwr hrow hbel hv A1 A2 hne1 hne2
      generalize nlen lz = m at *
      go_wp2_with fail
      refine t.mono ?_
      rintro e w5 ⟨rfl, rfl⟩
      go_wp2
      go_ret
      exact ⟨_, m, k, rfl, HO, by omega, hb3⟩

set_option maxHeartbeats 2000000 in
set_option maxRecDepth 100000 in
theorem rSub {w : World} {ao ao' : Option Addr} {n c n' c' : Nat} {x y : Int} (h : NatA w ao n c x) (h' : NatA w ao' n' c' y) (hn : n ≤ 137438953472) (hn' : n' ≤ 137438953472) (hle : y ≤ x) :
    Calls Tryd.prog 16 #[.slice ao n c, .slice ao' n' c'] w fun e w' => ∃ a k d, e = .returned (.tuple #[.slice a k d, .int .i64 0]) ∧ NatO w' a k d (x - y) ∧ k ≤ 2 * n ∧ Below w.heap.size w w' := by
  have hs0 : 0 ≤ sgn x y := by unfold sgn; split <;> (try split) <;> omega
  go_enter Tryd.func16, Tryd.ntmps16
  go_wp2_with fail
  refine (rDigits h (by omega)).mono ?_
  rintro e w1 ⟨a1, k1, d1, rfl, O1, hk1, hB⟩
  have HB := hB
  replace h' := h'.keep hB
  clear hB
  go_wp2_with fail
  refine (rDigits h' (by omega)).mono ?_
  rintro e w2 ⟨a2, k2, d2, rfl, O2, hk2, hB⟩
  replace O1 := O1.keep hB
  replace HB := joinB HB hB
  clear hB h h'
  have t := rcmp O1 O2 (by omega) (by omega)
  generalize sgn x y = sg at *
  go_wp2_with fail
  refine t.mono ?_
  rintro e w3 ⟨rfl, hB⟩
  replace O1 := O1.keep hB
  replace O2 := O2.keep hB
  replace HB := joinB HB hB
  clear hB t
  go_wp2_with fail
  refine (rtake O1 O2 (by omega) (by omega) hle).mono ?_
  rintro e w4 ⟨a4, k4, d4, rfl, O4, hk4, hB⟩
  replace HB := joinB HB hB
  clear hB
  go_wp2_with fail
  refine (rNumber O4.o (by omega)).mono ?_
  rintro e w5 ⟨a5, k5, d5, rfl, O5, hk5, hB⟩
  replace HB := joinB HB hB
  go_wp2
  go_ret2
  exact ⟨a5, k5, d5, rfl, O5, by omega, HB⟩
set_option maxHeartbeats 2000000 in
set_option maxRecDepth 100000 in
theorem rSubLt {w : World} {ao ao' : Option Addr} {n c n' c' : Nat} {x y : Int} (h : NatA w ao n c x) (h' : NatA w ao' n' c' y) (hn : n ≤ 137438953472) (hn' : n' ≤ 137438953472) (hlt : x < y) :
    Calls Tryd.prog 16 #[.slice ao n c, .slice ao' n' c'] w fun e w' => e = .returned (.tuple #[.slice none 0 0, .int .i64 10]) ∧ Below w.heap.size w w' := by
  go_enter Tryd.func16, Tryd.ntmps16
  go_wp2_with fail
  refine (rDigits h (by omega)).mono ?_
  rintro e w1 ⟨a1, k1, d1, rfl, O1, hk1, hB⟩
  have HB := hB
  replace h' := h'.keep hB
  clear hB
  go_wp2_with fail
  refine (rDigits h' (by omega)).mono ?_
  rintro e w2 ⟨a2, k2, d2, rfl, O2, hk2, hB⟩
  replace O1 := O1.keep hB
  replace HB := joinB HB hB
  clear hB h h'
  have t := rcmp O1 O2 (by omega) (by omega)
  rw [sgn_lt hlt] at t
  go_wp2_with fail
  refine t.mono ?_
  rintro e w3 ⟨rfl, hB⟩
  replace HB := joinB HB hB
  clear hB t
  go_wp2
  go_ret2
  exact ⟨rfl, HB⟩
end Go.Proofs.YtplmeahabddklaaDoor
