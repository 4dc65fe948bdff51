/- gleanref1.Bits: how many binary digits. -/
import Derived.Test.YtplmeahabddklaaDoorRefM
namespace Go.Proofs.YtplmeahabddklaaDoor
open Go.RowKit Lim

theorem bitLen_div (d : Nat) (h : d ≠ 0) : bitLen d = bitLen (d / 2) + 1 := by
  unfold bitLen
  rw [if_neg h]
  by_cases h1 : d / 2 = 0
  · rw [if_pos h1]
    have : d = 1 := by omega
    subst this; rfl
  · rw [if_neg h1, Nat.log2_def, if_pos (by omega)]
theorem bitLen_shift {P : Nat} (m t q : Nat) (hP : P = 2 ^ m) (hq : q ≠ 0) (ht : t < P) : bitLen (t + P * q) = m + bitLen q := by
  subst hP
  unfold bitLen
  have hp : 0 < 2 ^ m := Nat.pow_pos (by decide)
  have h0 : t + 2 ^ m * q ≠ 0 := by
    have : 2 ^ m * 1 ≤ 2 ^ m * q := Nat.mul_le_mul_left _ (by omega)
    omega
  rw [if_neg h0, if_neg hq]
  have e : (t + 2 ^ m * q).log2 = m + q.log2 := by
    rw [Nat.log2_eq_iff h0]
    have h1 := Nat.log2_self_le hq
    have h2 := Nat.lt_log2_self (n := q)
    refine ⟨?_, ?_⟩
    · rw [Nat.pow_add]
      have := Nat.mul_le_mul_left (2 ^ m) h1
      omega
    · rw [show m + q.log2 + 1 = m + (q.log2 + 1) from by omega, Nat.pow_add]
      have : 2 ^ m * (q + 1) ≤ 2 ^ m * 2 ^ (q.log2 + 1) := Nat.mul_le_mul_left _ h2
      rw [Nat.mul_add] at this
      omega
  omega
theorem bits32_top {l : List Int} (h : Dig32 l) (h0 : 0 < l.length) (h1 : nlen l = l.length) : bitLen (v32 l).toNat = 32 * (l.length - 1) + bitLen (nth l (l.length - 1)).toNat := by
  have hsp := v32_take_succ l (l.length - 1)
  rw [show l.length - 1 + 1 = l.length from by omega, List.take_of_length_le (Nat.le_refl _)] at hsp
  have hx := h.nth (l.length - 1)
  have hb := v32_bound (h.take (l.length - 1))
  rw [List.length_take, Nat.min_eq_left (by omega)] at hb
  have hl := nlen_last (l := l) (by omega)
  rw [h1] at hl
  obtain ⟨q, hq⟩ : ∃ q : Nat, nth l (l.length - 1) = q := ⟨(nth l (l.length - 1)).toNat, by omega⟩
  obtain ⟨t, ht⟩ : ∃ t : Nat, v32 (l.take (l.length - 1)) = t := ⟨(v32 (l.take (l.length - 1))).toNat, by omega⟩
  have hp : (4294967296 : Int) ^ (l.length - 1) = ((2 ^ (32 * (l.length - 1)) : Nat) : Int) := by
    rw [Nat.pow_mul, Int.natCast_pow]; rfl
  rw [hsp, ht, hq, hp]
  rw [ht, hp] at hb
  have := bitLen_shift (32 * (l.length - 1)) t q rfl (by omega) (by omega)
  have e : (t : Int) + ((2 ^ (32 * (l.length - 1)) : Nat) : Int) * q = ((t + 2 ^ (32 * (l.length - 1)) * q : Nat) : Int) := by rw [Int.natCast_add, Int.natCast_mul]
  rw [e, Int.toNat_natCast, Int.toNat_natCast]
  exact this

set_option maxHeartbeats 1000000 in
set_option maxRecDepth 100000 in
theorem rBits {w : World} {ao : Option Addr} {n c : Nat} {x : Int} (h : NatA w ao n c x) (hn : n ≤ 137438953472) :
    Calls Tryd.prog 26 #[.slice ao n c] w fun e w' => e = .returned (.int .i64 (bitLen x.toNat)) ∧ Below w.heap.size w w' := by
  go_enter Tryd.func26, Tryd.ntmps26
  go_wp2_with fail
  refine (rDigits h (by omega)).mono ?_
  rintro e w1 ⟨a1, k1, d1, rfl, O1, hk1, HB⟩
  obtain ⟨b1, o1, l1, hl1, hc1, D1, N1, A1, rfl⟩ := O1.ex
  clear h O1
  by_cases hz : k1 = 0
  · subst hz
    obtain rfl : l1 = [] := List.eq_nil_of_length_eq_zero hl1
    go_wp2
    go_ret
    exact ⟨rfl, HB⟩
  · have hT := bits32_top D1 (by omega) N1
    rw [hl1] at hT
    have HT := (show Hid _ from hT)
    clear hT
    have q1 := A1.cell (k1 - 1) (by omega)
    rcases A1.loc with e | rfl
    · subst e; simp at hl1; omega
    have q2 : w1.cell? ⟨b1, o1 + k1 - 1, none⟩ = some (.int .u64 (nth l1 (k1 - 1))) := by rw [← q1]; congr 2; omega
    obtain ⟨g, hg⟩ : ∃ g : Nat, nth l1 (k1 - 1) = g := ⟨(nth l1 (k1 - 1)).toNat, by have := D1.nth (k1 - 1); omega⟩
    have hgb := D1.nth (k1 - 1)
    rw [hg] at q1 q2 HT hgb
    clear hg A1 N1 D1 hl1
    go_wp2_with fail
    go_loop [4, 5] (fun tn td => ∃ m d : Nat, tn = .int .i64 m ∧ td = .int .u64 d ∧ d ≤ g ∧ m + bitLen d = 32 * (k1 - 1) + bitLen g) (fun _ td => (intOf td).toNat)
    case atStart => exact ⟨32 * (k1 - 1), g, by go_num, rfl, Nat.le_refl _, rfl⟩
    case round =>
      obtain ⟨m, d, rfl, rfl, hd, hm⟩ := hrel
      have hbg : bitLen g ≤ 64 := by
        have := bitLen_mono (show g ≤ 4294967295 by omega)
        have e : bitLen 4294967295 = 32 := by decide
        omega
      by_cases h0 : d = 0
      · subst h0
        have hE : (m : Int) = bitLen (v32 l1).toNat := by
          rw [HT.out, Int.toNat_natCast]
          have : bitLen 0 = 0 := rfl
          omega
        have HE := (show Hid _ from hE)
        clear hE
        clear hm
        go_wp2
        go_ret
        exact ⟨ret1 HE.out, HB⟩
      · have hs := bitLen_div d h0
        have hd0 : (0 : Int) < d := by omega
        have hM : m + 1 + bitLen (d / 2) = 32 * (k1 - 1) + bitLen g := by omega
        have HM := (show Hid _ from hM)
        clear hM
        have hm2 : m ≤ 32 * (k1 - 1) + 64 := by omega
        clear hm hs
        go_wp2
        all_goals
          go_round
          case rel => exact ⟨m + 1, d / 2, by go_num, by go_num, by omega, HM.out⟩
          case measure => simp [intOf]; omega
end Go.Proofs.YtplmeahabddklaaDoor
