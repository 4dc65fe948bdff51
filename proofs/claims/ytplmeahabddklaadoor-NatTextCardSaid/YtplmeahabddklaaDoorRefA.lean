/- gleanref1.Add: the sum, digit by digit. -/
import Derived.Test.YtplmeahabddklaaDoorRefM
namespace Go.Proofs.YtplmeahabddklaaDoor
open Go.RowKit Lim

theorem At.set0 {w : World} {ao : Option Addr} {b : Nat} {l : List Int} (k : At w ao b 0 l) {i : Nat} (hi : i < l.length) (x : Int) : At (w.setCell ⟨b, i, none⟩ (.int .u64 x)) ao b 0 (l.set i x) := by
  have := k.setCell hi x
  rwa [Nat.zero_add] at this

set_option maxHeartbeats 2000000 in
set_option maxRecDepth 100000 in
theorem rAdd {w : World} {ao ao' : Option Addr} {n c n' c' : Nat} {x y : Int} (h : NatA w ao n c x) (h' : NatA w ao' n' c' y) (hn : n ≤ 137438953472) (hn' : n' ≤ 137438953472) :
    Calls Tryd.prog 20 #[.slice ao n c, .slice ao' n' c'] w fun e w' => ∃ a k d, e = .returned (.slice a k d) ∧ NatO w' a k d (x + y) ∧ k ≤ 2 * n + 2 * n' + 1 ∧ Below w.heap.size w w' := by
  go_enter Tryd.func20, Tryd.ntmps20
  go_wp2_with fail
  refine (rDigits h (by omega)).mono ?_
  rintro e w1 ⟨a1, k1, d1, rfl, O1, hk1, hB⟩
  have HB := hB
  replace h' := h'.keep hB
  clear hB
  go_wp2_with fail
  refine (rDigits h' (by omega)).mono ?_
  rintro e w2 ⟨a2, k2, d2, rfl, O2, hk2, hB⟩
  replace O1 := O1.keep hB
  replace HB := joinB HB hB
  clear hB h h'
  obtain ⟨b1, o1, l1, hl1, hc1, D1, N1, A1, rfl⟩ := O1.ex
  obtain ⟨b2, o2, l2, hl2, hc2, D2, N2, A2, rfl⟩ := O2.ex
  clear O1 O2
  have hne1 : l1 = [] ∨ b1 ≠ w2.heap.size := by
    rcases A1.lt with e | e
    · exact .inl e
    · exact .inr (by omega)
  have hne2 : l2 = [] ∨ b2 ≠ w2.heap.size := by
    rcases A2.lt with e | e
    · exact .inl e
    · exact .inr (by omega)
  obtain ⟨m, hm, hm1, hm2, hm3⟩ : ∃ m : Nat, Hid ((k1 < k2 → m = k2 + 1) ∧ (¬ k1 < k2 → m = k1 + 1)) ∧ k1 < m ∧ k2 < m ∧ m ≤ k1 + k2 + 1 := by
    by_cases e : k1 < k2
    · exact ⟨k2 + 1, ⟨fun _ => rfl, fun h => absurd e h⟩, by omega, by omega, by omega⟩
    · exact ⟨k1 + 1, ⟨fun h => absurd h e, fun _ => rfl⟩, by omega, by omega, by omega⟩
  go_wp2_with (at_make; have hmm := hm.out; refine wpList_makeR rfl _ _ rfl m m _ _ rfl rfl (by omega) (by omega) (Nat.le_refl _) (by omega) ?_; clear hmm; intro w3 hrow hbel hsz)
  all_goals
    have hmm := hm.out
    first
      | have hm4 : m ≤ k2 + 1 ∧ k2 + 1 ≤ m := by omega
      | have hm4 : m ≤ k1 + 1 ∧ k1 + 1 ≤ m := by omega
    obtain ⟨hm5, hm6⟩ := hm4
    clear hmm
    go_loopw [9, 10] (fun tc ti wr => ∃ (k : Nat) (c : Int) (lz : List Int), k ≤ m ∧ ti = .int .i64 k ∧ tc = .int .u64 c ∧ SumInv l1 l2 lz m k c ∧ At wr (some ⟨w2.heap.size, 0, none⟩) w2.heap.size 0 lz ∧ Wr w2.heap.size 0 m w3 wr) (fun _ ti _ => m - (intOf ti).toNat)
    case atStart => exact ⟨0, 0, _, Nat.zero_le _, rfl, rfl, ⟨by simp, dig_zero _, by decide, by decide, by simp [v32]⟩, hrow.at, Wr.refl _ _ _ _⟩
    case round =>
      obtain ⟨k, c, lz, hk, rfl, rfl, hinv, hat, hwr⟩ := hrel
      by_cases hlt : k < m
      · have hlen := hinv.len
        have hfr := hwr.free (hrow.free 0 m) k (by omega)
        have hcz := hat.cell k (by omega)
        rw [Nat.zero_add] at hfr hcz
        have hk0 : (k : Int) < m := by omega
        have HA := (show Hid _ from hat)
        have HW := (show Hid _ from hwr)
        by_cases hx : k < k1
        · by_cases hy : k < k2
          · have p1 := D1.nth k
            have p2 := D2.nth k
            rcases A1.loc with e | rfl
            · subst e; simp at hl1; omega
            have q1 := ((A1.keep hbel).wr hwr hne1).cell k (by omega)
            have hx0 : (k : Int) < k1 := by omega
            rcases A2.loc with e | rfl
            · subst e; simp at hl2; omega
            have q2 := ((A2.keep hbel).wr hwr hne2).cell k (by omega)
            have hy0 : (k : Int) < k2 := by omega
            have HS : Hid _ := (show Hid _ from hinv.step hlt D1 D2 (s := c + nth l1 k + nth l2 k) rfl)
            have c0 := hinv.c0
            have c1 := hinv.c1
            have hand := and32 (c + nth l1 k + nth l2 k) (by omega) (by omega)
            clear hinv A1 A2 hat hwr hne1 hne2 hrow D1 D2 N1 N2 hl1 hl2
            generalize nth l1 k = g1 at *
            generalize nth l2 k = g2 at *
            go_wp2
            all_goals exact ⟨⟨k + 1, _, _, by omega, by go_num, rfl, HS.out, HA.out.set0 (by omega) _, HW.out.setCell (by omega) (by omega) _⟩, by simp [intOf]; omega⟩
          · have p1 := D1.nth k
            rcases A1.loc with e | rfl
            · subst e; simp at hl1; omega
            have q1 := ((A1.keep hbel).wr hwr hne1).cell k (by omega)
            have hx0 : (k : Int) < k1 := by omega
            have hy0 : ¬ (k : Int) < k2 := by omega
            have HS : Hid _ := (show Hid _ from hinv.step hlt D1 D2 (s := c + nth l1 k) (by rw [nth_ge (l := l2) (by omega)]; omega))
            have c0 := hinv.c0
            have c1 := hinv.c1
            have hand := and32 (c + nth l1 k) (by omega) (by omega)
            clear hinv A1 A2 hat hwr hne1 hne2 hrow D1 D2 N1 N2 hl1 hl2
            generalize nth l1 k = g1 at *
            go_wp2
            all_goals exact ⟨⟨k + 1, _, _, by omega, by go_num, rfl, HS.out, HA.out.set0 (by omega) _, HW.out.setCell (by omega) (by omega) _⟩, by simp [intOf]; omega⟩
        · by_cases hy : k < k2
          · have p2 := D2.nth k
            have hx0 : ¬ (k : Int) < k1 := by omega
            rcases A2.loc with e | rfl
            · subst e; simp at hl2; omega
            have q2 := ((A2.keep hbel).wr hwr hne2).cell k (by omega)
            have hy0 : (k : Int) < k2 := by omega
            have HS : Hid _ := (show Hid _ from hinv.step hlt D1 D2 (s := c + nth l2 k) (by rw [nth_ge (l := l1) (by omega)]; omega))
            have c0 := hinv.c0
            have c1 := hinv.c1
            have hand := and32 (c + nth l2 k) (by omega) (by omega)
            clear hinv A1 A2 hat hwr hne1 hne2 hrow D1 D2 N1 N2 hl1 hl2
            generalize nth l2 k = g2 at *
            go_wp2
            all_goals exact ⟨⟨k + 1, _, _, by omega, by go_num, rfl, HS.out, HA.out.set0 (by omega) _, HW.out.setCell (by omega) (by omega) _⟩, by simp [intOf]; omega⟩
          · skip
            have hx0 : ¬ (k : Int) < k1 := by omega
            have hy0 : ¬ (k : Int) < k2 := by omega
            have HS : Hid _ := (show Hid _ from hinv.step hlt D1 D2 (s := c) (by rw [nth_ge (l := l1) (by omega), nth_ge (l := l2) (by omega)]; omega))
            have c0 := hinv.c0
            have c1 := hinv.c1
            have hand := and32 (c) (by omega) (by omega)
            clear hinv A1 A2 hat hwr hne1 hne2 hrow D1 D2 N1 N2 hl1 hl2
            go_wp2
            all_goals exact ⟨⟨k + 1, _, _, by omega, by go_num, rfl, HS.out, HA.out.set0 (by omega) _, HW.out.setCell (by omega) (by omega) _⟩, by simp [intOf]; omega⟩
      · have hkm : k = m := by omega
        subst hkm
        have hv := hinv.fin D1 D2 (by omega) (by omega)
        have hlen := hinv.len
        have hb3 := hbel.trans (hwr.below (Nat.le_refl _))
        have t := number_any (some ⟨w2.heap.size, 0, none⟩) k k w2.heap.size 0 lz wr hlen (Nat.le_refl _) (by omega) hinv.dig hat
        rw [hv] at t
        clear hinv hat hwr hrow hbel hv A1 A2 hne1 hne2
        go_wp2_with fail
        refine t.mono ?_
        rintro e w5 ⟨v, r, rfl, hnw, hI, hlr, hB5⟩
        obtain ⟨a, d, rfl, hO⟩ := hnw.o hI
        go_wp2
        go_ret
        exact ⟨a, _, d, rfl, hO, by omega, joinB (joinB HB hb3) hB5⟩
end Go.Proofs.YtplmeahabddklaaDoor
