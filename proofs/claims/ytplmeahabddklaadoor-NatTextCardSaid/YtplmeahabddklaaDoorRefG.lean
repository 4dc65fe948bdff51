/- gleanref1.guess: between which two a quotient's digit lies. -/
import Derived.Test.YtplmeahabddklaaDoorRefQ
namespace Go.Proofs.YtplmeahabddklaaDoor
open Go.RowKit Lim

theorem shl_or32 (a b : Int) (ha : 0 ≤ a ∧ a < 4294967296) (hb : 0 ≤ b ∧ b < 4294967296) : bits .or .u64 (a * 4294967296) b = a * 4294967296 + b := by
  have e : (2 : Int) ^ 32 = 4294967296 := by decide
  exact or_add (a * 4294967296) b 32 a (by rw [e]) ha.1 (by omega) hb.1 (by omega) (by omega)
theorem digit_le {R Y : Int} (hY : 0 < Y) (hR : R < 4294967296 * Y) : R / Y ≤ 4294967295 := by
  have := Int.ediv_lt_of_lt_mul hY hR
  omega
theorem digits_len {l l' : List Int} (h : Dig32 l) (h' : Dig32 l') (hn : nlen l = l.length) (hR : v32 l < 4294967296 * v32 l') : l.length ≤ l'.length + 1 := by
  rcases Nat.lt_or_ge (l'.length + 1) l.length with e | e
  · have h1 := nlen_last (l := l) (by omega)
    rw [hn] at h1
    have h2 := v32_ge h (by omega) h1
    have h3 := v32_bound h'
    have h4 := pow32_mono (show l'.length + 1 ≤ l.length - 1 by omega)
    rw [Int.pow_succ] at h4
    omega
  · exact e

set_option maxHeartbeats 2000000 in
set_option maxRecDepth 100000 in
theorem rguess {w : World} {ao ao' : Option Addr} {n c n' c' : Nat} {R Y : Int} (h : DigO w ao n c R) (h' : DigO w ao' n' c' Y) (hn : n ≤ 1099511627776) (hn' : n' ≤ 1099511627776) (hY : 0 < Y) (hR : R < 4294967296 * Y) :
    Calls Tryd.prog 64 #[.slice ao n c, .slice ao' n' c'] w fun e w' => ∃ lo hi, e = .returned (.tuple #[.int .u64 lo, .int .u64 hi]) ∧ 0 ≤ lo ∧ lo ≤ R / Y ∧ R / Y ≤ hi ∧ hi ≤ 4294967295 ∧ Below w.heap.size w w' := by
  obtain ⟨b1, o1, l1, hl1, hc1, D1, N1, A1, rfl⟩ := h.ex
  obtain ⟨b2, o2, l2, hl2, hc2, D2, N2, A2, rfl⟩ := h'.ex
  clear h h'
  have hq1 := digit_le hY hR
  have hln := digits_len D1 D2 N1 hR
  have hR0 := (v32_bound D1).1
  have hq0 : 0 ≤ v32 l1 / v32 l2 := Int.ediv_nonneg hR0 (by omega)
  have hn1 : 0 < n' := by
    rcases Nat.eq_zero_or_pos n' with e | e
    · subst e
      obtain rfl : l2 = [] := List.eq_nil_of_length_eq_zero hl2
      simp [v32] at hY
    · exact e
  have hy := D2.nth (n' - 1)
  have hy0 := nlen_last (l := l2) (by omega)
  rw [N2, hl2] at hy0
  obtain ⟨s1, s2⟩ := topA D2 (by omega)
  rw [hl2] at s1 s2
  rcases A2.loc with e | rfl
  · subst e; simp at hl2; omega
  have q2 := A2.cell (n' - 1) (by omega)
  have q2' : w.cell? ⟨b2, o2 + n' - 1, none⟩ = some (.int .u64 (nth l2 (n' - 1))) := by rw [← q2]; congr 2; omega
  by_cases hlt : n < n'
  · have hlt2 := v32_len D1 D2 N2 (by omega)
    have hq : v32 l1 / v32 l2 = 0 := Int.ediv_eq_zero_of_lt hR0 hlt2
    have HQ := (show Hid _ from hq)
    clear hq
    have hlt' : (n : Int) < n' := by omega
    go_enter Tryd.func64, Tryd.ntmps64
    go_wp2
    go_ret2
    exact ⟨0, 0, rfl, by decide, by omega, by rw [HQ.out]; decide, by decide, Below.refl _ _⟩
  · rcases A1.loc with e | rfl
    · subst e; simp at hl1; omega
    have hx := D1.nth (n - 1)
    have q1 := A1.cell (n - 1) (by omega)
    have q1' : w.cell? ⟨b1, o1 + n - 1, none⟩ = some (.int .u64 (nth l1 (n - 1))) := by rw [← q1]; congr 2; omega
    by_cases heq : n = n'
    · subst heq
      obtain ⟨r1, r2⟩ := topA D1 (by omega)
      rw [hl1] at r1 r2
      have g1 := guess_lo (p32_pos (n - 1)) hy.1 rfl hY r1 s2 hx.1
      have g2 := guess_hi (p32_pos (n - 1)) (by omega) rfl hY hR0 r2 s1
      have hy1 : 0 < nth l2 (n - 1) := by omega
      have g0 : 0 ≤ nth l1 (n - 1) / (nth l2 (n - 1) + 1) := Int.ediv_nonneg hx.1 (by omega)
      clear r1 r2 s1 s2 A1 A2 D1 D2 N1 N2 hR hY hl1 hl2 hy0 hln
      generalize v32 l1 / v32 l2 = q at *
      generalize nth l1 (n - 1) = t at *
      generalize nth l2 (n - 1) = d at *
      go_enter Tryd.func64, Tryd.ntmps64
      go_wp2_with fail
      go_region
      all_goals go_wp2
      all_goals go_ret2
      all_goals exact ⟨_, _, rfl, by omega, by omega, by omega, by omega, rfl, rfl, rfl, Nat.le_refl _, fun _ _ => rfl⟩
    · obtain rfl : n = n' + 1 := by omega
      obtain ⟨r1, r2⟩ := topB D1 (by omega)
      rw [hl1, show n' + 1 - 2 = n' - 1 from by omega, show n' + 1 - 1 = n' from by omega] at r1 r2
      have hz := D1.nth (n' - 1)
      have q3 := A1.cell (n' - 1) (by omega)
      have q3' : w.cell? ⟨b1, o1 + (n' + 1) - 2, none⟩ = some (.int .u64 (nth l1 (n' - 1))) := by rw [← q3]; congr 2; omega
      rw [show n' + 1 - 1 = n' from by omega] at q1 q1' hx
      have g1 := guess_lo (p32_pos (n' - 1)) hy.1 rfl hY r1 s2 (by omega)
      have g2 := guess_hi (p32_pos (n' - 1)) (by omega) rfl hY hR0 r2 s1
      have hy1 : 0 < nth l2 (n' - 1) := by omega
      have g0 : 0 ≤ (nth l1 n' * 4294967296 + nth l1 (n' - 1)) / (nth l2 (n' - 1) + 1) := Int.ediv_nonneg (by omega) (by omega)
      have hor := shl_or32 (nth l1 n') (nth l1 (n' - 1)) hx hz
      clear r1 r2 s1 s2 A1 A2 D1 D2 N1 N2 hR hY hl1 hl2 hy0 hln
      generalize v32 l1 / v32 l2 = q at *
      generalize nth l1 n' = t at *
      generalize nth l1 (n' - 1) = t2 at *
      generalize nth l2 (n' - 1) = d at *
      go_enter Tryd.func64, Tryd.ntmps64
      go_wp2_with fail
      go_region
      all_goals go_wp2
      all_goals go_ret2
      all_goals exact ⟨_, _, rfl, by omega, by omega, by omega, by omega, rfl, rfl, rfl, Nat.le_refl _, fun _ _ => rfl⟩
end Go.Proofs.YtplmeahabddklaaDoor
