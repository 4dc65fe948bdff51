/- gleanref1.Mul: the product, row by row. -/
import Derived.Test.YtplmeahabddklaaDoorRefT
namespace Go.Proofs.YtplmeahabddklaaDoor
open Go.RowKit Lim

set_option maxHeartbeats 4000000 in
set_option maxRecDepth 100000 in
theorem rMul {w : World} {ao ao' : Option Addr} {n c n' c' : Nat} {x y : Int} (h : NatA w ao n c x) (h' : NatA w ao' n' c' y) (hn : n ≤ 137438953472) (hn' : n' ≤ 137438953472) :
    Calls Tryd.prog 21 #[.slice ao n c, .slice ao' n' c'] w fun e w' => ∃ a k d, e = .returned (.slice a k d) ∧ NatO w' a k d (x * y) ∧ k ≤ 2 * n + 2 * n' ∧ Below w.heap.size w w' := by
  go_enter Tryd.func21, Tryd.ntmps21
  go_wp2_with fail
  refine (rDigits h (by omega)).mono ?_
  rintro e w1 ⟨a1, k1, d1, rfl, O1, hk1, hB⟩
  have HB := hB
  replace h' := h'.keep hB
  clear hB
  go_wp2_with fail
  refine (rDigits h' (by omega)).mono ?_
  rintro e w2 ⟨a2, k2, d2, rfl, O2, hk2, hB⟩
  replace O1 := O1.keep hB
  replace HB := joinB HB hB
  clear hB h h'
  obtain ⟨b1, o1, l1, hl1, hc1, D1, N1, A1, rfl⟩ := O1.ex
  obtain ⟨b2, o2, l2, hl2, hc2, D2, N2, A2, rfl⟩ := O2.ex
  clear O1 O2
  have hne1 : l1 = [] ∨ b1 ≠ w2.heap.size := by
    rcases A1.lt with e | e
    · exact .inl e
    · exact .inr (by omega)
  have hne2 : l2 = [] ∨ b2 ≠ w2.heap.size := by
    rcases A2.lt with e | e
    · exact .inl e
    · exact .inr (by omega)
  obtain ⟨m, hm1, hm2⟩ : ∃ m : Nat, m ≤ k1 + k2 ∧ k1 + k2 ≤ m := ⟨k1 + k2, Nat.le_refl _, Nat.le_refl _⟩
  go_wp2_with (at_make; refine wpList_makeR rfl _ _ rfl m m _ _ rfl rfl (by omega) (by omega) (Nat.le_refl _) (by omega) ?_; intro w3 hrow hbel hsz)
  have B1 := A1.keep hbel
  have B2 := A2.keep hbel
  clear A1 A2
  have hat0 := hrow.at
  have hfr0 := hrow.free 0 m
  clear hrow
  go_loopw [8] (fun ti wr => ∃ (k : Nat) (lz : List Int), k ≤ k1 ∧ ti = .int .i64 k ∧ ProInv l1 l2 lz m k ∧ At wr (some ⟨w2.heap.size, 0, none⟩) w2.heap.size 0 lz ∧ Wr w2.heap.size 0 m w3 wr) (fun ti _ => k1 - (intOf ti).toNat)
  case atStart => exact ⟨0, _, Nat.zero_le _, rfl, ⟨by simp, dig_zero _, fun i _ => by simp [nth, List.getElem?_replicate]; split <;> rfl, by simp [v32, v32_zero]⟩, hat0, Wr.refl _ _ _ _⟩
  case round =>
    clear hat0
    obtain ⟨k, lz0, hk, rfl, hpro, hat, hwr⟩ := hrel
    obtain ⟨wo, rfl⟩ : ∃ wo : World, wo = wr := ⟨_, rfl⟩
    by_cases hlt : k < k1
    · have hlen0 := hpro.len
      rcases B1.loc with e | rfl
      · subst e; simp at hl1; omega
      have hx := D1.nth k
      have hk0 : (k : Int) < k1 := by omega
      have hd0 := hpro.dig
      have HP : Hid (∀ lz c, RowInv l2 lz0 lz (nth l1 k) m k k2 c → ProInv l1 l2 (lz.set (k + k2) c) m (k + 1)) := fun lz c r => by
        subst hl2
        exact hpro.row r (by omega)
      clear hpro
      go_wp2_with fail
      go_loopw [9, 10] (fun tc tj wr => ∃ (j : Nat) (c : Int) (lz : List Int), j ≤ k2 ∧ tj = .int .i64 j ∧ tc = .int .u64 c ∧ RowInv l2 lz0 lz (nth l1 k) m k j c ∧ At wr (some ⟨w2.heap.size, 0, none⟩) w2.heap.size 0 lz ∧ Wr w2.heap.size 0 m w3 wr) (fun _ tj _ => k2 - (intOf tj).toNat)
      case atStart => exact ⟨0, 0, lz0, Nat.zero_le _, rfl, rfl, ⟨hlen0, hd0, by decide, by decide, fun _ _ => rfl, by simp [v32]⟩, hat, hwr⟩
      case round =>
        clear hat hwr hlen0
        obtain ⟨j, c, lz, hj, rfl, rfl, hinv, hat, hwr⟩ := hrel
        have hlen := hinv.len
        by_cases hlt2 : j < k2
        · rcases B2.loc with e | rfl
          · subst e; simp at hl2; omega
          have hj0 : (j : Int) < k2 := by omega
          have hy := D2.nth j
          have hz := hinv.dig.nth (k + j)
          have c0 := hinv.c0
          have c1 := hinv.c1
          obtain ⟨r1, r2, r3, r4⟩ := row_room hz hx hy ⟨c0, c1⟩
          have q1 := (B1.wr hwr hne1).cell k (by omega)
          have q2 := (B2.wr hwr hne2).cell j (by omega)
          have q3 := hat.cell (k + j) (by omega)
          have hfr := hwr.free hfr0 (k + j) (by omega)
          rw [Nat.zero_add] at q3 hfr
          have HS := (show Hid _ from hinv.step (by omega) hx D2 rfl)
          have hand := and32 (nth lz (k + j) + nth l1 k * nth l2 j + c) r3 r4
          have HA := (show Hid _ from hat)
          have HW := (show Hid _ from hwr)
          have hkj : (k : Int) + j < m := by omega
          clear hinv hat hwr B1 B2 hne1 hne2 hfr0 D1 D2 N1 N2 hl1 hl2 HP hd0
          generalize nth l1 k = g1 at *
          generalize nth l2 j = g2 at *
          generalize nth lz (k + j) = g3 at *
          go_wp2_with fail
          go_quiet (fail)
          go_wp2
          all_goals exact ⟨⟨j + 1, _, _, by omega, by go_num, rfl, HS.out, (HA.out.drewN _).set0 (by omega) _, (HW.out.drewN _).setCell (by omega) (by omega) _⟩, by simp [intOf]; omega⟩
        · have hjk : j = k2 := by omega
          subst hjk
          have hfr := hwr.free hfr0 (k + j) (by omega)
          have q3 := hat.cell (k + j) (by omega)
          rw [Nat.zero_add] at q3 hfr
          have HS := (show Hid _ from HP.out lz c hinv)
          have HA := (show Hid _ from hat)
          have HW := (show Hid _ from hwr)
          have hkj : (k : Int) + j < m := by omega
          clear hinv hat hwr B1 B2 hne1 hne2 hfr0 D1 D2 N1 N2 hl1 hl2 HP hd0
          go_wp2
          all_goals exact ⟨⟨k + 1, _, by omega, by go_num, HS.out, HA.out.set0 (by omega) _, HW.out.setCell (by omega) (by omega) _⟩, by simp [intOf]; omega⟩
    · have hkm : k = k1 := by omega
      subst hkm
      have hv := hpro.val
      rw [List.take_of_length_le (by omega)] at hv
      have hlen := hpro.len
      have hb3 := hbel.trans (hwr.below (Nat.le_refl _))
      have t := number_any (some ⟨w2.heap.size, 0, none⟩) m m w2.heap.size 0 lz0 wo hlen (Nat.le_refl _) (by omega) hpro.dig hat
      rw [hv] at t
      clear hpro hat hwr hbel hv B1 B2 hne1 hne2
      go_wp2_with fail
      refine t.mono ?_
      rintro e w5 ⟨v, r, rfl, hnw, hI, hlr, hB5⟩
      obtain ⟨a, d, rfl, hO⟩ := hnw.o hI
      go_wp2
      go_ret
      exact ⟨a, _, d, rfl, hO, by omega, joinB (joinB HB hb3) hB5⟩
end Go.Proofs.YtplmeahabddklaaDoor
