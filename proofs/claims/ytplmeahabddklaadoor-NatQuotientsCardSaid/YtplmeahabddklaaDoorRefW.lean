/- gleanref1.DivMod and MulDiv. -/
import Derived.Test.YtplmeahabddklaaDoorRefV
namespace Go.Proofs.YtplmeahabddklaaDoor
open Go.RowKit Lim

theorem below_from {w0 w w' : World} (h : Below w0.heap.size w0 w) (k : Below w.heap.size w w') : Below w0.heap.size w0 w' := joinB h k
theorem divR (x y : Int) (hy : 0 < y) (hx : 0 ≤ x) : x % y < y ∧ 0 ≤ x % y ∧ 0 ≤ x / y := ⟨Int.emod_lt_of_pos _ hy, Int.emod_nonneg _ (by omega), Int.ediv_nonneg hx (by omega)⟩

set_option maxHeartbeats 8000000 in
set_option maxRecDepth 100000 in
theorem rDiv {w : World} {ao ao' : Option Addr} {n c n' c' : Nat} {x y : Int} (h : NatA w ao n c x) (h' : NatA w ao' n' c' y) (hn : n ≤ 137438953472) (hn' : n' ≤ 137438953472) (hne : y ≠ 0) :
    Calls Tryd.prog 34 #[.slice ao n c, .slice ao' n' c'] w fun e w' => ∃ a k d a' k' d', e = .returned (.tuple #[.slice a k d, .slice a' k' d', .int .i64 0]) ∧ NatO w' a k d (x / y) ∧ NatO w' a' k' d' (x % y) ∧ k ≤ 2 * n ∧ k' ≤ 2 * n' ∧ Below w.heap.size w w' := by
  have hy0 := h'.nonneg
  have hY : 0 < y := by omega
  clear hne hy0
  go_enter Tryd.func34, Tryd.ntmps34
  go_wp2_with fail
  refine (rDigits h (by omega)).mono ?_
  rintro e w1 ⟨a1, k1, d1, rfl, O1, hk1, hB⟩
  have HB := hB
  replace h' := h'.keep hB
  clear hB
  go_wp2_with fail
  refine (rDigits h' (by omega)).mono ?_
  rintro e w2 ⟨a2, k2, d2, rfl, O2, hk2, hB⟩
  replace O1 := O1.keep hB
  replace HB := joinB HB hB
  clear hB h h'
  have hk20 : k2 ≠ 0 := by
    rintro rfl
    obtain ⟨b, o, d, q1, _, _, _, _, q6⟩ := O2.ex
    obtain rfl : d = [] := List.eq_nil_of_length_eq_zero q1
    simp [v32] at q6
    omega
  have hk2' : ((k2 : Int) == 0) = false := beq_eq_false_iff_ne.2 (by omega)
  have hYb : y < 4294967296 ^ k2 := by
    obtain ⟨b, o, d, q1, _, q3, _, _, q6⟩ := O2.ex
    have := (v32_bound q3).2
    rw [q1, q6] at this
    exact this
  obtain ⟨b1, o1, l1, hl1, hc1, D1, N1, A1, rfl⟩ := O1.ex
  clear O1
  obtain ⟨g, hg⟩ : ∃ g, g = w2.heap.size := ⟨_, rfl⟩
  go_wp2_with (at_make; refine wpList_makeR rfl _ _ rfl k1 k1 _ _ rfl rfl rfl rfl (Nat.le_refl _) (by omega) ?_; intro w3 hrow hbel hsz)
  rw [← hg] at hrow hsz ⊢
  have hg1 : g ≤ w2.heap.size := by omega
  have hg2 : w2.heap.size ≤ g := by omega
  clear hg
  have hHB2 := (show Hid _ from hbel)
  go_loopw [10, 11] (fun tr ti wr => ∃ (m : Nat) (ar : Option Addr) (kr dr : Nat) (R : Int) (lq : List Int), m ≤ k1 ∧ ti = .int .i64 ((m : Int) - 1) ∧ tr = .slice ar kr dr ∧ DigN wr (g + 1) ar kr dr R ∧ Hid (ar = none → kr = 0 ∧ dr = 0) ∧ QuoInv l1 lq y R k1 m ∧ At wr (some ⟨g, 0, none⟩) g 0 lq ∧ Free wr g 0 k1 ∧ g + 1 ≤ wr.heap.size ∧ Below w2.heap.size w2 wr) (fun _ ti _ => (intOf ti + 1).toNat)
  case atStart => exact ⟨k1, none, 0, 0, 0, _, Nat.le_refl _, by first | rfl | go_num, rfl, ⟨0, 0, [], rfl, Nat.le_refl _, fun x hx => by simp at hx, rfl, ⟨.inl rfl, fun i hi => by simp at hi⟩, rfl, .inl rfl⟩, fun _ => ⟨rfl, rfl⟩, ⟨by simp, dig_zero _, by rw [zrep_drop, List.drop_of_length_le (by omega)]; simp [v32], by rw [List.drop_of_length_le (by omega)]; simp [v32]⟩, hrow.at, hrow.free _ _, by omega, hHB2.out⟩
  case round =>
    clear hrow hbel hHB2 hsz
    obtain ⟨m, ar, kr, dr, R, lq, hm, rfl, rfl, OR, hnil, hinv, hat, hfr, hgz, hB2⟩ := hrel
    obtain ⟨wo, rfl⟩ : ∃ wo : World, wo = wr := ⟨_, rfl⟩
    have hR := hinv.rest
    have hRR : R < y ∧ 0 ≤ R := by
      rw [hR]
      exact ⟨Int.emod_lt_of_pos _ hY, Int.emod_nonneg _ (by omega)⟩
    obtain ⟨hRy, hR0⟩ := hRR
    clear hR
    have hkr := OR.o.len (Int.lt_trans hRy hYb)
    cases m with
    | zero =>
      have hv := hinv.quo
      have hr := hinv.rest
      have hlq := hinv.len
      rw [List.drop_zero, List.drop_zero] at hv
      rw [List.drop_zero] at hr
      have t := number_any (some ⟨g, 0, none⟩) k1 k1 g 0 lq wo hlq (Nat.le_refl _) (by omega) hinv.dig hat
      rw [hv] at t
      have HR := (show Hid _ from hr)
      clear hinv hat hfr hv hr A1 D1 N1 hl1
      go_wp2_with fail
      refine t.mono ?_
      rintro e w5 ⟨v, r, rfl, hnw, hI, hlr, hB⟩
      obtain ⟨a, d, rfl, hO⟩ := hnw.o hI
      replace OR := OR.keep hB
      replace hB2 := joinB hB2 hB
      clear hB t
      go_wp2_with fail
      refine (rNumber OR.o (by omega)).mono ?_
      rintro e w6 ⟨a6, k6, d6, rfl, O6, hk6, hB⟩
      replace hO := hO.keep hB
      replace hB2 := joinB hB2 hB
      go_wp2
      go_ret3
      exact ⟨_, _, _, _, _, _, rfl, hO, O6.eqv HR.out, by omega, by omega, joinB HB hB2⟩
    | succ m =>
      have hlq := hinv.len
      have hx := D1.nth m
      rcases A1.loc with e | rfl
      · subst e; simp at hl1; omega
      have q1 := (A1.keep hB2).cell m (by omega)
      have hm0 : (m : Int) < k1 := by omega
      obtain ⟨hr0, hr1⟩ := rest_room hx hR0 hRy
      have HQ : Hid (∀ q, q = (nth l1 m + 4294967296 * R) / y → 0 ≤ q → q ≤ 4294967295 → QuoInv l1 (lq.set m q) y (nth l1 m + 4294967296 * R - y * q) k1 m) := fun q e1 e2 e3 => hinv.step (by omega) hY e1 e2 e3
      have hqq := digit_le hY hr1
      have hqp : 0 ≤ (nth l1 m + 4294967296 * R) / y := Int.ediv_nonneg hr0 (by omega)
      clear hinv
      rw [show ((m + 1 : Nat) : Int) - 1 = (m : Int) by omega]
      obtain ⟨bR, oR, ds, hds, hcR, DR, NR, AR, hvR, _⟩ := OR.ex
      clear OR
      have hHD := (show Hid _ from hvR)
      clear hvR
      have hown := World.ownsRow_lit (base := g + 1) (e := 33) (size := 1) wo #[.int .u64 (nth l1 m)] 1 hgz (by unfold maxLen; omega) rfl
      have bA := below_alloc wo (.cells #[.int .u64 (nth l1 m)] 33)
      have hat1 := hat.keep bA
      have hfr1 := Free.below bA hfr (by omega)
      have AR1 := AR.keep bA
      have hB21 := joinB hB2 bA
      have hgz1 : g + 1 ≤ (wo.alloc (.cells #[.int .u64 (nth l1 m)] 33)).heap.size := Nat.le_trans hgz bA.size
      clear hat hfr AR hB2 bA hgz
      generalize nth l1 m = X at *
      go_wp2_with (at_builtin; refine wpList_consR rfl _ _ rfl (g + 1) X _ rfl hown hgz1 ar kr dr bR oR rfl ds hds AR1 hnil.out (by omega) ?_; intro v5 w5 hM hb5)
      obtain ⟨ar5, c5, rfl, hc5, _, g5, _, hg5, A5, _⟩ := hM.open
      have hat5 := hat1.below hb5 (.inr (by omega))
      have hfr5 := Free.below hb5 hfr1 (by omega)
      have hB25 := hB21.trans (hb5.mono (by omega))
      have hgz5 : g + 1 ≤ w5.heap.size := Nat.le_trans hgz1 hb5.size
      have t5 := refTrim_any ar5 (X :: ds).length c5 (X :: ds) w5 rfl hc5 (by simp only [List.length_cons]; omega) A5.cells
      have dX : Dig32 (X :: ds) := fun z hz => by
        rcases List.mem_cons.1 hz with e | e
        · subst e; exact hx
        · exact DR z e
      have O5 : DigN w5 (g + 1) ar5 (nlen (X :: ds)) c5 (X + 4294967296 * R) := ⟨g5, 0, norm (X :: ds), norm_length _, by have := nlen_le (X :: ds); omega, dX.take _, nlen_norm _, A5.sub _, by rw [norm_cons_val, hHD.out], .inr hg5⟩
      have hk5 := nlen_le (X :: ds)
      rw [List.length_cons, hds] at hk5
      clear hM hb5 A5 hat1 hfr1 hB21 hgz1 hown AR1 DR NR dX hHD hnil
      generalize hKK : nlen (X :: ds) = K5 at *
      clear hKK
      generalize (X :: ds).length = L5 at *
      go_wp2_with fail
      refine t5.mono ?_
      rintro e w6 ⟨rfl, rfl⟩
      clear t5
      have Oy := O2.keep hB25
      go_wp2_with fail
      refine (rguess O5.o Oy (by omega) (by omega) hY hr1).mono ?_
      rintro e w7 ⟨lo0, hi0, rfl, hlo0, hlq0, hqh0, hhi0, hB⟩
      replace O5 := O5.keep hB
      replace hat5 := hat5.keep hB
      replace hfr5 := Free.below hB hfr5 (by omega)
      replace hB25 := joinB hB25 hB
      replace hgz5 := Nat.le_trans hgz5 hB.size
      clear hB Oy
      generalize hqe : (X + 4294967296 * R) / y = q at *
      have HQE := (show Hid _ from hqe)
      clear hqe
      generalize hre : X + 4294967296 * R = R' at *
      clear hre
      go_wp2_with fail
      go_loopw [12, 13] (fun tl th wr => ∃ lo hi : Int, tl = .int .u64 lo ∧ th = .int .u64 hi ∧ 0 ≤ lo ∧ lo ≤ q ∧ q ≤ hi ∧ hi ≤ 4294967295 ∧ Below w7.heap.size w7 wr) (fun tl th _ => (intOf th - intOf tl).toNat)
      case atStart => exact ⟨lo0, hi0, rfl, rfl, hlo0, hlq0, hqh0, hhi0, Below.refl _ _⟩
      case round =>
        clear hlo0 hlq0 hqh0 hhi0
        obtain ⟨lo, hi, rfl, rfl, hlo, hlq', hqh, hhi, hB7⟩ := hrel
        by_cases hlh : lo < hi
        · obtain ⟨u1, u2, u3, u4⟩ := half_up (lo := lo) (hi := hi) (q := q) hlh rfl hY HQE.out.symm
          have HU1 := (show Hid _ from u1)
          have HU2 := (show Hid _ from u2)
          clear u1 u2
          have hmid : 0 ≤ (lo + hi + 1) / 2 ∧ (lo + hi + 1) / 2 < 4294967296 := by omega
          obtain ⟨hmid0, hmid1⟩ := hmid
          have Oy := O2.keep (joinB hB25 hB7)
          have O5' := O5.keep hB7
          clear hat5 hfr5 O5
          have t8 := rsmall (k := (lo + hi + 1) / 2) Oy (by omega) hmid0 hmid1
          go_wp2_with fail
          refine t8.mono ?_
          rintro e w8 ⟨a8, k8, d8, rfl, O8, hk8, hB⟩
          replace O5' := O5'.keep hB
          replace hB7 := joinB hB7 hB
          clear hB t8 Oy
          have t9 := rcmp O8 O5'.o (by omega) (by omega)
          by_cases hle : y * ((lo + hi + 1) / 2) ≤ R'
          · have hs : sgn (y * ((lo + hi + 1) / 2)) R' ≤ 0 := by unfold sgn; split <;> (try split) <;> omega
            have hmq := HU1.out hle
            clear HU1 HU2 hle
            generalize sgn (y * ((lo + hi + 1) / 2)) R' = sg at *
            go_wp2_with fail
            refine t9.mono ?_
            rintro e w9 ⟨rfl, hB⟩
            replace hB7 := joinB hB7 hB
            go_wp2
            go_roundw
            case rel => exact ⟨_, _, rfl, rfl, by omega, hmq, hqh, hhi, hB7⟩
            case measure => simp [intOf]; omega
          · have hs : 0 < sgn (y * ((lo + hi + 1) / 2)) R' := by unfold sgn; split <;> (try split) <;> omega
            have hmq := HU2.out (by omega)
            clear HU1 HU2 hle
            generalize sgn (y * ((lo + hi + 1) / 2)) R' = sg at *
            go_wp2_with fail
            refine t9.mono ?_
            rintro e w9 ⟨rfl, hB⟩
            replace hB7 := joinB hB7 hB
            go_wp2
            go_roundw
            case rel => exact ⟨_, _, rfl, rfl, hlo, hlq', hmq, by omega, hB7⟩
            case measure => simp [intOf]; omega
        · obtain rfl : lo = q := by omega
          obtain rfl : hi = lo := by omega
          have HI := (show Hid _ from HQ.out hi rfl (by omega) (by omega))
          replace O5 := O5.keep hB7
          replace hat5 := hat5.keep hB7
          replace hfr5 := Free.below hB7 hfr5 (by omega)
          replace hB25 := joinB hB25 hB7
          replace hgz5 := Nat.le_trans hgz5 hB7.size
          obtain ⟨wp, rfl⟩ : ∃ wp : World, wp = wr := ⟨_, rfl⟩
          have q3 := hat5.cell m (by omega)
          have q4 := hfr5 m (by omega)
          rw [Nat.zero_add] at q3 q4
          have O5s := O5.store (g := g) (i := m) (by omega) (.int .u64 hi)
          have hats := hat5.set0 (i := m) (by omega) hi
          have hwrs := (Wr.refl g m 1 wp).setCell (i := m) (Nat.le_refl _) (by omega) (.int .u64 hi)
          have hfrs := hwrs.free hfr5
          have hB2s := hB25.trans (hwrs.below (B := w2.heap.size) (by omega))
          have hgzs : g + 1 ≤ (wp.setCell ⟨g, m, none⟩ (.int .u64 hi)).heap.size := by rw [hwrs.size]; exact hgz5
          have Oy := O2.keep hB2s
          have hle : y * hi ≤ R' := by
            rw [← HQE.out]
            exact Int.mul_ediv_self_le (by omega)
          have HLE := (show Hid _ from hle)
          clear O5 hat5 hfr5 hB25 hgz5 hwrs HQ HQE hB7 hle
          have t8 := rsmall (k := hi) Oy (by omega) (by omega) (by omega)
          go_wp2_with fail
          refine t8.mono ?_
          rintro e w8 ⟨a8, k8, d8, rfl, O8, hk8, hB⟩
          replace O5s := O5s.keep hB
          replace hats := hats.keep hB
          replace hfrs := Free.below hB hfrs (by omega)
          replace hB2s := joinB hB2s hB
          replace hgzs := Nat.le_trans hgzs hB.size
          clear hB t8 Oy
          go_wp2_with fail
          refine (rtake O5s.o O8 (by omega) (by omega) HLE.out).mono ?_
          rintro e w9 ⟨a9, k9, d9, rfl, O9, hk9, hB⟩
          replace hats := hats.keep hB
          replace hfrs := Free.below hB hfrs (by omega)
          replace hB2s := joinB hB2s hB
          replace O9 := O9.mono hgzs
          replace hgzs := Nat.le_trans hgzs hB.size
          go_wp2
          exact ⟨⟨m, some a9, k9, d9, _, _, by omega, by first | rfl | go_num, rfl, O9, (fun e => by cases e), HI.out, hats, hfrs, hgzs, hB2s⟩, by simp [intOf]⟩

set_option maxHeartbeats 1000000 in
set_option maxRecDepth 100000 in
theorem rMulDiv {w : World} {ao ao' ad : Option Addr} {n c n' c' nd cd : Nat} {x y z : Int} (h : NatA w ao n c x) (h' : NatA w ao' n' c' y) (hd : NatA w ad nd cd z) (hn : n ≤ 34359738368) (hn' : n' ≤ 34359738368) (hnd : nd ≤ 137438953472) (hne : z ≠ 0) :
    Calls Tryd.prog 36 #[.slice ao n c, .slice ao' n' c', .slice ad nd cd] w fun e w' => ∃ a k d a' k' d', e = .returned (.tuple #[.slice a k d, .slice a' k' d', .int .i64 0]) ∧ NatO w' a k d (x * y / z) ∧ NatO w' a' k' d' (x * y % z) ∧ k ≤ 4 * n + 4 * n' ∧ k' ≤ 2 * nd ∧ Below w.heap.size w w' := by
  go_enter Tryd.func36, Tryd.ntmps36
  go_wp2_with fail
  refine (rMul h h' (by omega) (by omega)).mono ?_
  rintro e w1 ⟨a1, k1, d1, rfl, O1, hk1, hB⟩
  go_wp2_with fail
  refine (rDiv O1.a (hd.keep hB) (by omega) (by omega) hne).mono ?_
  rintro e w2 ⟨a, k, d, a', k', d', rfl, O2, O3, hk, hk', hB'⟩
  go_wp2
  go_ret3
  exact ⟨a, k, d, a', k', d', rfl, O2, O3, by omega, by omega, joinB hB hB'⟩
set_option maxHeartbeats 1000000 in
set_option maxRecDepth 100000 in
theorem rMulDivZero {w : World} {ao ao' ad : Option Addr} {n c n' c' nd cd : Nat} {x y z : Int} (h : NatA w ao n c x) (h' : NatA w ao' n' c' y) (hd : NatA w ad nd cd z) (hn : n ≤ 34359738368) (hn' : n' ≤ 34359738368) (hnd : nd ≤ 137438953472) (hz : z = 0) :
    Calls Tryd.prog 36 #[.slice ao n c, .slice ao' n' c', .slice ad nd cd] w fun e w' => e = .returned (.tuple #[.slice none 0 0, .slice none 0 0, .int .i64 11]) ∧ Below w.heap.size w w' := by
  go_enter Tryd.func36, Tryd.ntmps36
  go_wp2_with fail
  refine (rMul h h' (by omega) (by omega)).mono ?_
  rintro e w1 ⟨a1, k1, d1, rfl, O1, hk1, hB⟩
  go_wp2_with fail
  refine (rDivZero O1.a (hd.keep hB) (by omega) (by omega) hz).mono ?_
  rintro e w2 ⟨rfl, hB'⟩
  go_wp2
  go_ret3
  exact ⟨rfl, joinB hB hB'⟩
end Go.Proofs.YtplmeahabddklaaDoor
