/- nat.guess tells the next digit of long division, or one more. -/
import Derived.Test.YtjihgkanbhccpaaGreatDoorDivL
import Derived.Deep.QuietTactic
import Derived.BigQuiet
namespace Go.Proofs.YtjihgkanbhccpaaGreatDoor
open Go.RowKit Lim

theorem div64_exact (hi lo y : Int) (w : World) (h0 : 0 ≤ hi) (h1 : hi < y) (l0 : 0 ≤ lo) (l1 : lo < 18446744073709551616) (y1 : y < 18446744073709551616) :
    Calls Tryz.prog 166 #[.int .u64 hi, .int .u64 lo, .int .u64 y] w fun e w' => e = .returned (.tuple #[.int .u64 ((hi * 18446744073709551616 + lo) / y), .int .u64 ((hi * 18446744073709551616 + lo) % y)]) ∧ ∃ n, w' = w.drewN n := by
  by_cases c : hi = 0
  · subst c
    refine (div64_zero lo y w (by omega) l0 l1 y1).mono ?_
    rintro e w' ⟨rfl, hw⟩
    exact ⟨by simp, hw⟩
  · refine (div64_big hi lo y w (by omega) h1 l0 l1 y1).mono ?_
    rintro e w' ⟨rfl, rfl⟩
    exact ⟨rfl, 0, rfl⟩
theorem quiet_of_drew {P : Program} {f : FuncId} {args : Array Value} {w : World} {n : Nat} {v : Value} (h : Calls P f args (w.drewN n) fun e w' => e = .returned v ∧ ∃ m, w' = (w.drewN n).drewN m) : Calls P f args (w.drewN n) fun e w'' => e = .returned v ∧ ∃ m, w'' = w.drewN m :=
  h.mono fun _ _ ⟨he, m, hm⟩ => ⟨he, n + m, by rw [hm, World.drewN_drewN]⟩
/-- the two highest limbs of a list, and the rest -/
theorem top2 {l : List Int} (wl : Words l) {n : Nat} (hn : l.length = n + 2) : (nth l (n + 1) * 18446744073709551616 + nth l n) * 18446744073709551616 ^ n ≤ val l ∧ val l < (nth l (n + 1) * 18446744073709551616 + nth l n + 1) * 18446744073709551616 ^ n := by
  have e1 := val_split l n (by omega)
  have h0 := val_nonneg (wl.take n)
  have h1 := val_lt (wl.take n)
  rw [List.length_take, Nat.min_eq_left (by omega)] at h1
  rw [val_drop (by omega), val_drop (by omega), List.drop_of_length_le (show l.length ≤ n + 1 + 1 by omega)] at e1
  have e2 : (18446744073709551616 : Int) ^ n * (nth l n + 18446744073709551616 * (nth l (n + 1) + 18446744073709551616 * val [])) = (nth l (n + 1) * 18446744073709551616 + nth l n) * 18446744073709551616 ^ n := by
    rw [show val [] = 0 from rfl]; grind
  rw [e2] at e1
  rw [Int.add_mul (nth l (n + 1) * 18446744073709551616 + nth l n) 1]
  omega

set_option maxHeartbeats 2000000 in
set_option maxRecDepth 100000 in
theorem guess_any (au : Option Addr) (cu bu ou : Nat) (av : Option Addr) (k cv bv ov : Nat) (lu lv : List Int) (w : World) (hlu : lu.length = k + 3) (hlv : lv.length = k + 2) (hbig : k ≤ 1099511627776)
    (wu : Words lu) (wv : Words lv) (hu : At w au bu ou lu) (hv : At w av bv ov lv) (htop : 9223372036854775808 ≤ nth lv (k + 1)) (hlt : val lu < val lv * 18446744073709551616) :
    Calls Tryz.prog 170 #[.slice au (k + 3) cu, .slice av (k + 2) cv] w fun e w' => ∃ g : Int, e = .returned (.int .u64 g) ∧ Near (val lu) (val lv) g ∧ Below w.heap.size w w' := by
  obtain ⟨tv1, tv2⟩ := top2 wv hlv
  obtain ⟨tu1, tu2⟩ := top2 (n := k + 1) wu hlu
  have c0 := hu.cell (k + 2) (by omega)
  have c1 := hu.cell (k + 1) (by omega)
  have d1 := hv.cell (k + 1) (by omega)
  have d2 := hv.cell k (by omega)
  have b0 := wu.nth (k + 2)
  have b1 := wu.nth (k + 1)
  have e1 := wv.nth (k + 1)
  have e2 := wv.nth k
  have hQ := pow_pos k
  have hP := pow_pos (k + 1)
  rcases hu.loc with e | rfl
  · subst e; simp at hlu
  rcases hv.loc with e | rfl
  · subst e; simp at hlv
  rw [show k + 1 + 1 = k + 2 from rfl] at tu1 tu2
  have HLT := (show Hid _ from hlt)
  clear hu hv wu wv hlt hlu hlv
  obtain ⟨N, hN⟩ : ∃ N, k + 2 = N := ⟨_, rfl⟩
  obtain ⟨m, hm⟩ : ∃ m, k + 1 = m := ⟨_, rfl⟩
  have hN1 : (N : Int) - 1 = m := by omega
  have hN2 : (N : Int) - 2 = k := by omega
  have hmN : (m : Int) < N := by omega
  have hkN : (k : Int) < N := by omega
  have hmN1 : (m : Int) < (N : Int) + 1 := by omega
  have hNN1 : (N : Int) < (N : Int) + 1 := by omega
  have hNb : N ≤ 1099511627778 := by omega
  have hmle : m ≤ N := by omega
  have hmlt : m < N + 1 := by omega
  have hmi : (m : Int) ≤ N := by omega
  have hwm : IntKind.i64.wrap (m : Int) = m := by rw [IntKind.wrap_i64]; omega
  have hwk : IntKind.i64.wrap (k : Int) = k := by rw [IntKind.wrap_i64]; omega
  generalize nth lu (k + 2) = u0 at *
  generalize nth lu (k + 1) = u1 at *
  generalize nth lv (k + 1) = v1 at *
  generalize nth lv k = v2 at *
  generalize val lu = U at *
  generalize val lv = V at *
  by_cases hge : v1 ≤ u0
  · have HN : Hid (Near U V 18446744073709551615) := by
      refine near_top (v1 := v1) (u0 := u0) (P := 18446744073709551616 ^ (k + 1)) (R := U - u0 * 18446744073709551616 * 18446744073709551616 ^ (k + 1)) hP ?_ htop (by omega) ?_ hge HLT.out
      · rw [Int.pow_succ]
        have : (v1 * 18446744073709551616 + v2 + 1) * 18446744073709551616 ^ k ≤ (v1 * 18446744073709551616 + 18446744073709551616) * 18446744073709551616 ^ k := Int.mul_le_mul_of_nonneg_right (by omega) (by omega)
        have e : (v1 * 18446744073709551616 + 18446744073709551616) * 18446744073709551616 ^ k = (v1 + 1) * (18446744073709551616 ^ k * 18446744073709551616) := by grind
        omega
      · have : 0 ≤ u1 * 18446744073709551616 ^ (k + 1) := Int.mul_nonneg b1.1 (by omega)
        rw [Int.add_mul] at tu1
        omega
    rw [show k + 3 = N + 1 from by omega, hN] at *
    rw [hm] at c1 d1
    clear tu1 tu2 tv1 tv2 hQ hP hN hm
    go_enter Tryz.func170, Tryz.ntmps170
    go_wp2_with fail
    go_quiet (fail)
    go_wp2
    go_ret
    exact ⟨_, rfl, HN.out, below_drewN (Below.refl _ _) _⟩
  · have hND : ∀ g rest hi lo : Int, 0 ≤ g → g < 18446744073709551616 → 0 ≤ rest → rest < v1 → g * v1 + rest = u0 * 18446744073709551616 + u1 → 0 ≤ lo → lo < 18446744073709551616 → hi * 18446744073709551616 + lo = g * v2 → (rest < hi → Near U V (g - 1)) ∧ (hi ≤ rest → Near U V g) := by
      intro g rest hi lo h1 h2 h3 h4 h5 h6 h7 h8
      refine near_digit (Q := 18446744073709551616 ^ k) hQ ?_ ?_ htop e2.1 e2.2 ?_ ?_ h1 h2 h3 h4 h5 lo h6 h7 h8
      · rw [Int.add_mul] at tv1; exact tv1
      · have e : (v1 * 18446744073709551616 + v2 + 1) * 18446744073709551616 ^ k = v1 * 18446744073709551616 * 18446744073709551616 ^ k + (v2 + 1) * 18446744073709551616 ^ k := by grind
        rw [← e]; exact tv2
      · rw [Int.mul_comm 18446744073709551616, ← Int.pow_succ]; exact tu1
      · rw [Int.mul_comm 18446744073709551616, ← Int.pow_succ]; exact tu2
    have HND := (show Hid _ from hND)
    have hqr := Int.mul_ediv_add_emod (u0 * 18446744073709551616 + u1) v1
    have hr0 := Int.emod_nonneg (u0 * 18446744073709551616 + u1) (show v1 ≠ 0 by omega)
    have hr1 := Int.emod_lt_of_pos (u0 * 18446744073709551616 + u1) (show 0 < v1 by omega)
    have hg0 : 0 ≤ (u0 * 18446744073709551616 + u1) / v1 := Int.ediv_nonneg (by omega) (by omega)
    have hg1 : (u0 * 18446744073709551616 + u1) / v1 < 18446744073709551616 := by
      rw [Int.ediv_lt_iff_lt_mul (by omega)]
      have : (u0 + 1) * 18446744073709551616 ≤ v1 * 18446744073709551616 := Int.mul_le_mul_of_nonneg_right (by omega) (by decide)
      omega
    have tD := fun wx : World => div64_exact u0 u1 v1 wx b0.1 (by omega) b1.1 b1.2 e1.2
    generalize hg : (u0 * 18446744073709551616 + u1) / v1 = g at *
    generalize hr : (u0 * 18446744073709551616 + u1) % v1 = rest at *
    rw [Int.mul_comm] at hqr
    have HQR := (show Hid _ from hqr)
    rw [show k + 3 = N + 1 from by omega, hN] at *
    rw [hm] at c1 d1
    clear hND hqr hg hr tu1 tu2 tv1 tv2 hQ hP hN hm
    have hge' : u0 < v1 := by omega
    go_enter Tryz.func170, Tryz.ntmps170
    go_wp2_with fail
    go_quiet (fail)
    have c0' : (w.drewN nq).cell? ⟨bu, ou + N, none⟩ = some (.int .u64 u0) := c0
    have c1' : (w.drewN nq).cell? ⟨bu, ou + m, none⟩ = some (.int .u64 u1) := c1
    have d1' : (w.drewN nq).cell? ⟨bv, ov + m, none⟩ = some (.int .u64 v1) := d1
    have d2' : (w.drewN nq).cell? ⟨bv, ov + k, none⟩ = some (.int .u64 v2) := d2
    have hbW := below_drewN (Below.refl w.heap.size w) nq
    clear c0 c1 d1 d2
    generalize w.drewN nq = W1 at *
    go_wp2_with fail
    go_quiet ((go_at_call 166; exact quiet_of_drew (tD _)))
    have d2'' : (W1.drewN nq).cell? ⟨bv, ov + k, none⟩ = some (.int .u64 v2) := d2'
    have hbW2 := below_drewN hbW nq
    clear c0' c1' d1' d2' hbW tD
    generalize W1.drewN nq = W2 at *
    go_wp2_with fail
    refine (mul64_n g v2 hg0 hg1 e2.1 e2.2 _).mono ?_
    rintro e w3 ⟨hi, lo, rfl, i1, i2, i3, i4, i5, rfl⟩
    have hfin := HND.out g rest hi lo hg0 hg1 hr0 hr1 HQR.out i3 i4 i5.out
    by_cases hc : rest < hi
    · have HF := (show Hid _ from hfin.1 hc)
      have hg2 : 0 ≤ g - 1 := (hfin.1 hc).1
      clear hfin HND
      go_wp2
      go_ret
      exact ⟨_, rfl, HF.out, hbW2⟩
    · have HF := (show Hid _ from hfin.2 (by omega))
      clear hfin HND
      go_wp2
      go_ret
      exact ⟨_, rfl, HF.out, hbW2⟩
end Go.Proofs.YtjihgkanbhccpaaGreatDoor
