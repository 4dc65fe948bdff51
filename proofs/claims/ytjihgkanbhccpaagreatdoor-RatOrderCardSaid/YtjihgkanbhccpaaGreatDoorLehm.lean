/- nat.highBits and nat.differ. -/
import Derived.Test.YtjihgkanbhccpaaGreatDoorDivM
import Derived.Test.YtjihgkanbhccpaaGreatDoorGcdOne
import Derived.Test.YtjihgkanbhccpaaGreatDoorFore
namespace Go.Proofs.YtjihgkanbhccpaaGreatDoor
open Go.RowKit Lim

theorem two_split {s : Nat} (hs : s ≤ 64) : (18446744073709551616 : Int) = 2 ^ s * 2 ^ (64 - s) := by
  rw [← Int.pow_add, show s + (64 - s) = 64 by omega]; rfl
theorem high_val {l : List Int} (wl : Words l) {k s : Nat} (hl : l.length ≤ k + 2) (hs : s ≤ 63) :
    ∃ a, val l = (nth l (k + 1) * 2 ^ s + nth l k / 2 ^ (64 - s)) * (18446744073709551616 ^ k * 2 ^ (64 - s)) + a ∧ 0 ≤ a ∧ a < 18446744073709551616 ^ k * 2 ^ (64 - s) := by
  have hD : (0 : Int) < 2 ^ (64 - s) := Int.pow_pos (by decide)
  have hB := pow_pos k
  have hS := two_split (s := s) (by omega)
  have e1 : val l = val (l.take k) + 18446744073709551616 ^ k * (nth l k + 18446744073709551616 * nth l (k + 1)) := by
    by_cases c : l.length ≤ k
    · rw [List.take_of_length_le c, nth_ge c, nth_ge (by omega)]; simp
    · rw [val_split l k (by omega), val_drop (by omega)]
      by_cases c2 : l.length ≤ k + 1
      · rw [List.drop_of_length_le c2, nth_ge c2]; rfl
      · rw [val_drop (by omega), List.drop_of_length_le (show l.length ≤ k + 1 + 1 by omega)]
        simp [val]
  have hm := Int.mul_ediv_add_emod (nth l k) (2 ^ (64 - s))
  have r0 := Int.emod_nonneg (nth l k) (show (2 : Int) ^ (64 - s) ≠ 0 by omega)
  have r1 := Int.emod_lt_of_pos (nth l k) hD
  have h0 := val_nonneg (wl.take k)
  have h1 := val_lt (wl.take k)
  have h2 : val (l.take k) < 18446744073709551616 ^ k := Int.lt_of_lt_of_le h1 (pow_mono (by simp; omega))
  refine ⟨val (l.take k) + 18446744073709551616 ^ k * (nth l k % 2 ^ (64 - s)), ?_, ?_, ?_⟩
  · rw [e1]
    generalize nth l k / 2 ^ (64 - s) = q at *
    generalize nth l k % 2 ^ (64 - s) = r at *
    rw [← hm]
    generalize (18446744073709551616 : Int) ^ k = Bk at *
    rw [hS]
    grind
  · have := Int.mul_nonneg (Int.le_of_lt hB) r0; omega
  · have : 18446744073709551616 ^ k * (nth l k % 2 ^ (64 - s) + 1) ≤ 18446744073709551616 ^ k * 2 ^ (64 - s) := Int.mul_le_mul_of_nonneg_left (by omega) (Int.le_of_lt hB)
    rw [Int.mul_add] at this
    omega
theorem high_or {h l : Int} {s : Nat} (hs : s ≤ 63) (h0 : 0 ≤ h) (h1 : h * 2 ^ s < 18446744073709551616) (l0 : 0 ≤ l) (l1 : l < 18446744073709551616) :
    bits .or .u64 (h * 2 ^ s) (l / 2 ^ (64 - s)) = h * 2 ^ s + l / 2 ^ (64 - s) ∧ 0 ≤ h * 2 ^ s + l / 2 ^ (64 - s) ∧ h * 2 ^ s + l / 2 ^ (64 - s) < 18446744073709551616 := by
  have hD : (0 : Int) < 2 ^ (64 - s) := Int.pow_pos (by decide)
  have hP : (0 : Int) < 2 ^ s := Int.pow_pos (by decide)
  have hS := two_split (s := s) (by omega)
  have q0 : 0 ≤ l / 2 ^ (64 - s) := Int.ediv_nonneg l0 (Int.le_of_lt hD)
  have q1 : l / 2 ^ (64 - s) < 2 ^ s := by
    rw [Int.ediv_lt_iff_lt_mul hD, ← hS]; exact l1
  have m0 : 0 ≤ h * 2 ^ s := Int.mul_nonneg h0 (Int.le_of_lt hP)
  have hP2 : (2 : Int) ^ s < 2 ^ 64 := by
    have : (2 : Nat) ^ s < 2 ^ 64 := Nat.pow_lt_pow_right (by decide) (by omega)
    exact_mod_cast this
  have h2 : (h + 1) * 2 ^ s ≤ 18446744073709551616 := by
    rw [hS, Int.mul_comm (2 ^ s)] at h1 ⊢
    have := le_of_mul_lt hP h1
    exact Int.mul_le_mul_of_nonneg_right (by omega) (Int.le_of_lt hP)
  rw [Int.add_mul] at h2
  refine ⟨?_, by omega, by omega⟩
  exact or_add _ _ s h rfl h0 (by omega) q0 q1 (by omega)
theorem top_le {l l' : List Int} (wl : Words l) (wl' : Words l') {k : Nat} (hl : l.length = k + 2) (hl' : l'.length ≤ k + 2) (h : val l' ≤ val l) : nth l' (k + 1) ≤ nth l (k + 1) := by
  by_cases c : l'.length ≤ k + 1
  · rw [nth_ge c]; exact (wl.nth _).1
  · have t1 := (top1 (n := k + 1) wl' (by omega)).1
    have t2 := (top1 (n := k + 1) wl (by omega)).2
    have := le_of_mul_lt (pow_pos (k + 1)) (show nth l' (k + 1) * 18446744073709551616 ^ (k + 1) < (nth l (k + 1) + 1) * 18446744073709551616 ^ (k + 1) by omega)
    omega

set_option maxHeartbeats 2000000 in
set_option maxRecDepth 100000 in
theorem highBits_any (ao : Option Addr) (n c b o k s : Nat) (l : List Int) (w : World) (hl : l.length = n) (hbig : n ≤ 2199023255552) (hk : k ≤ 2199023255552) (wl : Words l) (ha : At w ao b o l) (hs : s ≤ 63) (h1 : nth l (k + 1) * 2 ^ s < 18446744073709551616) :
    Calls Tryz.prog 164 #[.slice ao n c, .int .i64 ((k : Int) + 2), .int .i64 s] w fun e w' => e = .returned (.int .u64 (nth l (k + 1) * 2 ^ s + nth l k / 2 ^ (64 - s))) ∧ Below w.heap.size w w' := by
  obtain ⟨o1, o2, o3⟩ := high_or hs (wl.nth (k + 1)).1 h1 (wl.nth k).1 (wl.nth k).2
  have hP : (0 : Int) < 2 ^ s := Int.pow_pos (by decide)
  have m0 : 0 ≤ nth l (k + 1) * 2 ^ s := Int.mul_nonneg (wl.nth _).1 (Int.le_of_lt hP)
  have hb64 : (64 : Int) - s = ((64 - s : Nat) : Int) := by omega
  have w1 := wl.nth (k + 1)
  have w2 := wl.nth k
  have hi1 : ((k : Int) + 2) - 1 = (k : Int) + 1 := by omega
  have hi2 : ((k : Int) + 2) - 2 = (k : Int) := by omega
  go_enter Tryz.func164, Tryz.ntmps164
  generalize hkk : ((k : Int) + 2) = kk at *
  clear hkk
  by_cases c2 : k + 1 < n
  · rcases ha.loc with e | rfl
    · subst e; simp at hl; omega
    have c1 : k < n := by omega
    have z1 := ha.cell (k + 1) (by omega)
    have z2 := ha.cell k (by omega)
    clear ha wl
    generalize nth l (k + 1) = x at *
    generalize nth l k = y at *
    go_wp2_with fail
    go_quiet (fail)
    go_wp2
    go_ret
    exact ⟨rfl, below_drewN (Below.refl _ _) _⟩
  · have e1 : nth l (k + 1) = 0 := nth_ge (by omega)
    by_cases c1 : k < n
    · rcases ha.loc with e | rfl
      · subst e; simp at hl; omega
      have z2 := ha.cell k (by omega)
      clear ha wl
      simp only [e1, Int.zero_mul] at o1 o2 o3 m0 h1 w1 ⊢
      generalize nth l k = y at *
      go_wp2_with fail
      go_quiet (fail)
      go_wp2
      go_ret
      exact ⟨ret1 (Int.zero_add _).symm, below_drewN (Below.refl _ _) _⟩
    · have e2 : nth l k = 0 := nth_ge (by omega)
      clear ha wl
      simp only [e1, e2, Int.zero_mul, Int.zero_ediv] at o1 o2 o3 m0 h1 w1 w2 ⊢
      go_wp2_with fail
      go_quiet (fail)
      go_wp2
      go_ret
      exact ⟨ret1 o1, below_drewN (Below.refl _ _) _⟩

theorem val_zero_list (n : Nat) : val (List.replicate n 0) = 0 := val_zeros fun i => by
  by_cases h : i < n
  · rw [nth_eq (by simpa using h)]; simp
  · exact nth_ge (by simp; omega)
theorem differ_fin {lx ly lz : List Int} {a m n owed : Int} {N : Nat} (wx : Words lx) (hx : lx.length ≤ N) (m0 : 0 ≤ m) (m1 : m < 18446744073709551616) (ha : a = (0 + val lx * m) % 18446744073709551616 ^ (N + 1)) (hge : val ly * n ≤ val lx * m) (wz : Words lz) (hl : lz.length = N + 1) (o0 : 0 ≤ owed)
    (hv : val lz = a - val ly * n + 18446744073709551616 ^ (N + 1) * owed) : IsN (norm lz) (val lx * m - val ly * n) := by
  have h1 := val_lt wx
  have h2 := val_nonneg wx
  have h3 : val lx < 18446744073709551616 ^ N := Int.lt_of_lt_of_le h1 (pow_mono hx)
  have h4 : val lx * m ≤ val lx * 18446744073709551616 := Int.mul_le_mul_of_nonneg_left (by omega) h2
  have h5 : (18446744073709551616 : Int) ^ (N + 1) = 18446744073709551616 ^ N * 18446744073709551616 := Int.pow_succ _ _
  have h6 := Int.mul_nonneg h2 m0
  rw [Int.zero_add, Int.emod_eq_of_lt h6 (by omega)] at ha
  have h7 := val_lt wz
  have h8 := val_nonneg wz
  rw [hl] at h7
  have hp := pow_pos (N + 1)
  have ho : owed = 0 := by
    by_cases h : 0 < owed
    · have : 18446744073709551616 ^ (N + 1) * 1 ≤ 18446744073709551616 ^ (N + 1) * owed := Int.mul_le_mul_of_nonneg_left (by omega) (Int.le_of_lt hp)
      omega
    · omega
  subst ho
  rw [show val lx * m - val ly * n = val lz by rw [hv, ha]; simp]
  exact isN_norm wz

set_option maxHeartbeats 2000000 in
set_option maxRecDepth 100000 in
theorem differ_any (ao : Option Addr) (n c b o : Nat) (ao' : Option Addr) (n' c' b' o' : Nat) (l l' : List Int) (m m' : Int) (w : World) (hl : l.length = n) (hl' : l'.length = n') (hc : n ≤ c) (hc' : n' ≤ c') (hbig : n ≤ 1099511627776) (hbig' : n' ≤ 1099511627776)
    (wl : Words l) (wl' : Words l') (ha : At w ao b o l) (ha' : At w ao' b' o' l') (m0 : 0 ≤ m) (m1 : m < 18446744073709551616) (m0' : 0 ≤ m') (m1' : m' < 18446744073709551616) (hge : val l' * m' ≤ val l * m) :
    Calls Tryz.prog 165 #[.slice ao n c, .slice ao' n' c', .int .u64 m, .int .u64 m'] w fun e w' => ∃ v r, e = .returned v ∧ NewV w w' v r ∧ IsN r (val l * m - val l' * m') ∧ Below w.heap.size w w' := by
  have HM : Hid (∃ N, n ≤ N ∧ n' ≤ N ∧ N ≤ 1099511627776 ∧ ((N = n' ∧ n < n') ∨ (N = n ∧ n' ≤ n))) := by
    rcases Nat.lt_or_ge n n' with h | h
    · exact ⟨n', by omega, by omega, by omega, .inl ⟨rfl, h⟩⟩
    · exact ⟨n, by omega, by omega, by omega, .inr ⟨rfl, h⟩⟩
  go_enter Tryz.func165, Tryz.ntmps165
  obtain ⟨N, N1, N2, N3, N4⟩ := HM.out
  rcases N4 with ⟨eN, hN⟩ | ⟨eN, hN⟩ <;> (
    have hNi : (N : Int) = _ := congrArg Nat.cast eN
    clear eN
    go_wp2_with (at_make; refine wpList_makeN rfl _ _ rfl (N + 1) _ _ rfl rfl (by omega) (by omega) (by omega) ?_; intro w1 hrow hbel hsz)
    have hne1 : l = [] ∨ b ≠ w.heap.size := ha.lt.imp id (fun h => by omega)
    have hne2 : l' = [] ∨ b' ≠ w.heap.size := ha'.lt.imp id (fun h => by omega)
    refine (addTimes_any _ w.heap.size 0 _ _ _ b o _ _ m _ l w1 (by simp) hl (by omega) (by omega) (Nat.le_refl _) hc m0 m1 (words_zero _) wl hrow.at (hrow.free _ _) (ha.keep hbel) hne1).mono ?_
    rintro e w2 ⟨rfl, lz, hlz, wz, hat, hwr, hvz⟩
    rw [val_zero_list] at hvz
    have HB : Below w.heap.size w w2 := hbel.trans (hwr.below (Nat.le_refl _))
    go_wp2_with fail
    refine (takeTimes_any _ w.heap.size 0 _ _ _ b' o' _ _ m' lz l' w2 hlz hl' (by omega) (by omega) (Nat.le_refl _) hc' m0' m1' wz wl' hat (hwr.free (hrow.free _ _)) (ha'.keep HB) hne2).mono ?_
    rintro e w3 ⟨owed, rfl, ho0, ho1, lz2, hlz2, wz2, hat2, hwr2, hvz2⟩
    have HF : IsN (norm lz2) (val l * m - val l' * m') := differ_fin wl (by omega) m0 m1 hvz hge wz2 hlz2 ho0 hvz2
    have HB2 : Below w.heap.size w w3 := HB.trans (hwr2.below (Nat.le_refl _))
    have hfz := hwr2.free (hwr.free (hrow.free 0 (N + 1)))
    have hz1 := nlen_le lz2
    have hz2 := norm_length lz2
    have hz3 := hat2.sub (nlen lz2)
    rw [show lz2.take (nlen lz2) = norm lz2 from rfl] at hz3
    have t3 := trim_any (some ⟨w.heap.size, 0, none⟩) (N + 1) (N + 1) lz2 w3 hlz2 (Nat.le_refl _) (by omega) hat2.cells
    clear hrow hbel hwr hat hwr2 hat2 hvz hvz2 HB
    generalize nlen lz2 = K at *
    generalize norm lz2 = R at *
    go_wp2_with fail
    refine t3.mono ?_
    rintro e w4 ⟨rfl, rfl⟩
    go_wp2
    go_ret
    exact ⟨_, R, rfl, NewV.of hz2.symm (Nat.le_refl _) (Nat.le_refl _) hz3 (fun i hi => hfz i (by omega)), HF, HB2⟩)
end Go.Proofs.YtjihgkanbhccpaaGreatDoor
