/- nat.raise, lower and guess: the parts of long division. -/
import Derived.Test.YtjihgkanbhccpaaGreatDoorDivOne
import Derived.Deep.RegionWith
namespace Go.Proofs.YtjihgkanbhccpaaGreatDoor
open Go.RowKit Lim

theorem pow2_bounds (s : Nat) (hs : s ≤ 63) : (0 : Int) < 2 ^ s ∧ (2 : Int) ^ s < 18446744073709551616 ∧ (2 : Int) ^ s * 2 ^ (64 - s) = 18446744073709551616 ∧ (0 : Int) < 2 ^ (64 - s) := by
  have h1 : (0 : Int) < 2 ^ s := Int.pow_pos (by decide)
  have h2 : (2 : Nat) ^ s ≤ 2 ^ 63 := Nat.pow_le_pow_right (by decide) hs
  have e : ((2 ^ s : Nat) : Int) = (2 : Int) ^ s := by rw [Int.natCast_pow]; rfl
  have e2 : (2 : Nat) ^ 63 = 9223372036854775808 := by decide
  refine ⟨h1, by omega, ?_, Int.pow_pos (by decide)⟩
  rw [← Int.pow_add, show s + (64 - s) = 64 from by omega]; rfl

set_option maxHeartbeats 1000000 in
set_option maxRecDepth 100000 in
theorem raise_any (ao : Option Addr) (n c b o s : Nat) (l : List Int) (w : World) (hl : l.length = n) (hc : n ≤ c) (hbig : n ≤ 1099511627776) (hs : s ≤ 63) (wl : Words l) (ha : At w ao b o l) :
    Calls Tryz.prog 143 #[.slice ao n c, .int .i64 s] w fun e w' => ∃ lz, e = .returned (.slice (some ⟨w.heap.size, 0, none⟩) (n + 1) (n + 1)) ∧ lz.length = n + 1 ∧ Words lz ∧ At w' (some ⟨w.heap.size, 0, none⟩) w.heap.size 0 lz ∧ Free w' w.heap.size 0 (n + 1) ∧ w.heap.size < w'.heap.size ∧ val lz = val l * 2 ^ s ∧ Below w.heap.size w w' := by
  obtain ⟨p1, p2, p3, p4⟩ := pow2_bounds s hs
  have hne : l = [] ∨ b ≠ w.heap.size := by
    rcases ha.lt with e | e
    · exact .inl e
    · exact .inr (by omega)
  have hv0 := val_nonneg wl
  have hv1 := val_lt wl
  have HV : Hid (0 ≤ val l * 2 ^ s ∧ val l * 2 ^ s < 18446744073709551616 ^ (n + 1)) := by
    refine ⟨Int.mul_nonneg hv0 (Int.le_of_lt p1), ?_⟩
    have h1 : val l * 2 ^ s ≤ val l * 18446744073709551616 := Int.mul_le_mul_of_nonneg_left (by omega) hv0
    rw [hl] at hv1
    rw [Int.pow_succ]; omega
  obtain ⟨S, hS⟩ : ∃ S, (2 : Int) ^ s = S := ⟨_, rfl⟩
  rw [hS] at p1 p2 HV ⊢
  have hwr : IntKind.u64.wrap S = S := IntWalk.u64_in _ ⟨by omega, by omega⟩
  clear p3 p4 hv0 hv1
  go_enter Tryz.func143, Tryz.ntmps143
  go_wp2_with (at_make; refine wpList_makeN rfl _ _ rfl (n + 1) _ _ rfl rfl (by omega) (by omega) (by omega) ?_; intro w1 hrow hbel hsz)
  have ha1 := ha.keep hbel
  refine (addTimes_any _ w.heap.size 0 (n + 1) (n + 1) ao b o n c S (List.replicate (n + 1) 0) l w1 (by simp) hl (by omega) (by omega) (Nat.le_refl _) hc (by omega) p2 (words_zero _) wl hrow.at (hrow.free _ _) ha1 hne).mono ?_
  rintro e w2 ⟨rfl, lz, hlz, hwz, hatz, hwr2, hvz⟩
  have hfz := hwr2.free (hrow.free 0 (n + 1))
  have hlt := hrow.lt
  have hsz2 := hwr2.size
  rw [val_zeros (l := List.replicate (n + 1) 0) (fun i => by simp [nth, List.getElem?_replicate]; split <;> rfl), Int.zero_add, Int.emod_eq_of_lt HV.out.1 HV.out.2] at hvz
  have HZ := (show Hid _ from hvz)
  have HB := hbel.trans (hwr2.below (Nat.le_refl _))
  have hlt2 : w.heap.size < w2.heap.size := by omega
  clear hvz hsz2 hsz hrow hwr2 hbel
  go_wp2
  go_ret
  exact ⟨lz, rfl, hlz, hwz, hatz, hfz, hlt2, HZ.out, HB⟩

structure LowInv (lz : List Int) (S : Int) (h : Nat) (lz1 : List Int) : Prop where
  len : lz1.length = lz.length
  words : Words lz1
  low : ∀ i, i < h → nth lz1 i = nth lz i
  val : Lim.val (lz1.drop h) = Lim.val (lz.drop h) / S
theorem top_mod {l : List Int} (S T : Int) (h : S * T = 18446744073709551616) (k : Nat) : val (l.drop k) % S = nth l k % S := by
  by_cases hk : k < l.length
  · rw [val_drop hk, ← h, Int.mul_assoc, Int.add_mul_emod_self_left]
  · rw [List.drop_of_length_le (by omega), nth_ge (by omega)]; rfl
theorem LowInv.step {lz lz1 : List Int} {S T z' : Int} {h : Nat} (hS : 0 < S) (hST : S * T = 18446744073709551616) (hv : LowInv lz S (h + 1) lz1) (hh : h < lz.length) (z0 : 0 ≤ z') (z1 : z' < 18446744073709551616)
    (e : z' = nth lz h / S + T * (nth lz (h + 1) % S)) : LowInv lz S h (lz1.set h z') := by
  have hl := hv.len
  refine ⟨by simp [hl], hv.words.set h z0 z1, fun i hi => by rw [nth_set (by omega), if_neg (by omega)]; exact hv.low i (by omega), ?_⟩
  rw [val_drop (by simp; omega), nth_set (by omega), if_pos rfl, List.drop_set, if_pos (by omega), hv.val, val_drop hh, e, ← top_mod S T hST (h + 1)]
  generalize Lim.val (lz.drop (h + 1)) = Y
  have e1 : nth lz h + 18446744073709551616 * Y = nth lz h + S * (T * Y) := by rw [← hST]; grind
  rw [e1, Int.add_mul_ediv_left _ _ (by omega)]
  have e2 := Int.mul_ediv_add_emod Y S
  have e3 : T * Y = T * (S * (Y / S) + Y % S) := by rw [e2]
  rw [e3, ← hST]
  grind
theorem low_limb {x y S T : Int} (s : Nat) (eS : S = 2 ^ s) (eT : T = 2 ^ (64 - s)) (hs : s ≤ 63) (hx : 0 ≤ x ∧ x < 18446744073709551616) :
    bits .or .u64 (x / S) (IntKind.u64.wrap (y * T)) = x / S + T * (y % S) ∧ 0 ≤ x / S + T * (y % S) ∧ x / S + T * (y % S) < 18446744073709551616 := by
  obtain ⟨p1, p2, p3, p4⟩ := pow2_bounds s hs
  rw [← eS] at p1 p2 p3
  rw [← eT] at p3 p4
  have hq0 : 0 ≤ x / S := Int.ediv_nonneg hx.1 (Int.le_of_lt p1)
  have hq1 : x / S < T := by rw [Int.ediv_lt_iff_lt_mul p1, Int.mul_comm, p3]; exact hx.2
  have hm0 := Int.emod_nonneg y (show S ≠ 0 by omega)
  have hm1 := Int.emod_lt_of_pos y p1
  have ew : IntKind.u64.wrap (y * T) = y % S * T := by
    rw [IntKind.wrap_u64, ← p3, Int.mul_comm y T, Int.mul_comm S T, Int.mul_emod_mul_of_pos _ _ p4, Int.mul_comm]
  have h0 : 0 ≤ y % S * T := Int.mul_nonneg hm0 (Int.le_of_lt p4)
  have h1 : (y % S + 1) * T ≤ S * T := Int.mul_le_mul_of_nonneg_right (by omega) (Int.le_of_lt p4)
  rw [Int.add_mul, Int.one_mul, p3] at h1
  have hT1 : T ≤ 18446744073709551616 := by
    have : 1 * T ≤ S * T := Int.mul_le_mul_of_nonneg_right (by omega) (Int.le_of_lt p4)
    omega
  rw [ew, Int.mul_comm T]
  refine ⟨?_, by omega, by omega⟩
  rw [u64_or _ _ hq0 (by omega) h0 (by omega), Nat.or_comm, ← u64_or _ _ h0 (by omega) hq0 (by omega)]
  rw [or_add _ _ (64 - s) (y % S) (by rw [eT]) hm0 (by omega) hq0 (by rw [← eT]; exact hq1) (by omega), Int.add_comm]

set_option maxHeartbeats 2000000 in
set_option maxRecDepth 100000 in
theorem lower_any (az : Option Addr) (bz oz nz cz s : Nat) (lz : List Int) (w : World) (hnz : lz.length = nz) (hbig : nz ≤ 2199023255552) (hcz : nz ≤ cz) (hs : s ≤ 63) (wz : Words lz) (hz : At w az bz oz lz) (hfz : Free w bz oz nz) :
    Calls Tryz.prog 145 #[.slice az nz cz, .int .i64 s] w fun e w' => e = .returned (.tuple #[]) ∧ ∃ lz', lz'.length = nz ∧ Words lz' ∧ At w' az bz oz lz' ∧ Wr bz oz nz w w' ∧ val lz' = val lz / 2 ^ s := by
  obtain ⟨p1, p2, p3, p4⟩ := pow2_bounds s hs
  go_enter Tryz.func145, Tryz.ntmps145
  go_wp2
  go_loopw [4, 10] (fun tc ti wr => ∃ (k : Nat) (lz1 : List Int), k ≤ nz ∧ ti = .int .i64 k ∧ tc = .int .u64 (nth lz (nz - k)) ∧ LowInv lz (2 ^ s) (nz - k) lz1 ∧ At wr az bz oz lz1 ∧ Wr bz oz nz w wr) (fun _ ti _ => nz - (intOf ti).toNat)
  case atStart => exact ⟨0, lz, Nat.zero_le _, rfl, by rw [nth_ge (by omega)], ⟨rfl, wz, fun _ _ => rfl, by rw [Nat.sub_zero, List.drop_of_length_le (by omega)]; simp [val]⟩, hz, Wr.refl _ _ _ _⟩
  case round =>
    obtain ⟨k, lz1, hk, rfl, rfl, hinv, hat, hwr⟩ := hrel
    have hlen1 := hinv.len
    by_cases hlt : k < nz
    · rcases hz.loc with e | rfl
      · subst e; simp at hnz; omega
      obtain ⟨h, hh⟩ : ∃ h : Nat, nz = h + 1 + k := ⟨nz - 1 - k, by omega⟩
      have hcz := hat.cell h (by omega)
      have hfr := hwr.free hfz h (by omega)
      rw [hinv.low h (by omega)] at hcz
      have hidx : (nz : Int) - 1 - k = h := by omega
      have hh0 : (h : Int) < nz := by omega
      have hab : nz - k = h + 1 := by omega
      rw [hab] at hinv ⊢
      obtain ⟨e1, e2, e3⟩ := low_limb (y := nth lz (h + 1)) s rfl rfl hs (wz.nth h)
      have HS : Hid (LowInv lz (2 ^ s) h (lz1.set h (nth lz h / 2 ^ s + 2 ^ (64 - s) * (nth lz (h + 1) % 2 ^ s)))) := hinv.step p1 p3 (by omega) e2 e3 rfl
      have HN : Hid (nz = h + 1 + k) := hh
      have HA := (show Hid _ from hat)
      have HW := (show Hid _ from hwr)
      have HX : Hid (nth lz (nz - (k + 1)) = nth lz h) := by show _ = _; rw [show nz - (k + 1) = h from by omega]
      have HY : Hid (nz - (k + 1) = h) := by show _ = _; omega
      clear hh hinv hz wz hat hwr hab
      generalize nth lz h = x at *
      generalize nth lz (h + 1) = y at *
      have hb64 : (64 : Int) - s = ((64 - s : Nat) : Int) := by omega
      go_wp2_with fail
      go_region
      go_wp2
      refine ⟨⟨k + 1, _, by omega, by go_num, by rw [HX.out], by rw [HY.out]; exact HS.out, ?_, ?_⟩, by simp [intOf]; omega⟩
      · exact (HA.out.setCell (by omega) _).drew
      · exact (HW.out.setCell (by omega) (by have := HN.out; omega) _).drew
    · have hkn : k = nz := by omega
      subst hkn
      have hv := hinv.val
      rw [Nat.sub_self, List.drop_zero, List.drop_zero] at hv
      have HV := (show Hid _ from hv)
      clear hv
      go_wp2
      go_end0
      exact ⟨rfl, lz1, by omega, hinv.words, hat, hwr, HV.out⟩

/-- a digit of long division: right, or one too great -/
def Near (u v g : Int) : Prop := 0 ≤ g ∧ g < 18446744073709551616 ∧ (g - 1) * v ≤ u ∧ u < (g + 1) * v
theorem near_top {u v v1 u0 R P : Int} (hP : 0 < P) (hv : v < (v1 + 1) * P) (h1 : 9223372036854775808 ≤ v1) (hu : u = u0 * 18446744073709551616 * P + R) (hR : 0 ≤ R) (h0 : v1 ≤ u0) (hlt : u < v * 18446744073709551616) : Near u v 18446744073709551615 := by
  refine ⟨by decide, by decide, ?_, by rw [show (18446744073709551615 + 1 : Int) = 18446744073709551616 from rfl, Int.mul_comm]; exact hlt⟩
  have k1 : v * 18446744073709551614 ≤ (v1 + 1) * P * 18446744073709551614 := Int.mul_le_mul_of_nonneg_right (by omega) (by decide)
  have k2 : v1 * P ≤ u0 * P := Int.mul_le_mul_of_nonneg_right h0 (by omega)
  have k3 : 9223372036854775808 * P ≤ v1 * P := Int.mul_le_mul_of_nonneg_right h1 (by omega)
  have e1 : (v1 + 1) * P * 18446744073709551614 = v1 * P * 18446744073709551614 + P * 18446744073709551614 := by grind
  have e2 : u0 * 18446744073709551616 * P = u0 * P * 18446744073709551616 := by grind
  rw [show (18446744073709551615 - 1 : Int) = 18446744073709551614 from rfl, Int.mul_comm]
  omega
theorem near_digit {u v v1 v2 u01 g rest hi Q : Int} (hQ : 0 < Q) (hv0 : v1 * 18446744073709551616 * Q + v2 * Q ≤ v) (hv : v < v1 * 18446744073709551616 * Q + (v2 + 1) * Q) (h1 : 9223372036854775808 ≤ v1) (h2 : 0 ≤ v2) (h2' : v2 < 18446744073709551616)
    (hu0 : u01 * (18446744073709551616 * Q) ≤ u) (hu : u < (u01 + 1) * (18446744073709551616 * Q)) (hg0 : 0 ≤ g) (hg1 : g < 18446744073709551616) (hr0 : 0 ≤ rest) (hr1 : rest < v1) (he : g * v1 + rest = u01)
    (lo : Int) (hl0 : 0 ≤ lo) (hl1 : lo < 18446744073709551616) (hm : hi * 18446744073709551616 + lo = g * v2) :
    (rest < hi → Near u v (g - 1)) ∧ (hi ≤ rest → Near u v g) := by
  have hgv2 : 0 ≤ g * v2 := Int.mul_nonneg hg0 h2
  have hgv2' : g * v2 ≤ g * 18446744073709551615 := Int.mul_le_mul_of_nonneg_left (by omega) hg0
  have hhi0 : 0 ≤ hi := by omega
  have hhi1 : hi ≤ 18446744073709551615 := by omega
  obtain ⟨X, hX⟩ : ∃ X, 18446744073709551616 * Q = X := ⟨_, rfl⟩
  have hXp : 0 < X := by omega
  have m1 : g * (v1 * 18446744073709551616 * Q + v2 * Q) ≤ g * v := Int.mul_le_mul_of_nonneg_left hv0 hg0
  have m2 : g * v ≤ g * (v1 * 18446744073709551616 * Q + (v2 + 1) * Q) := Int.mul_le_mul_of_nonneg_left (by omega) hg0
  have e1 : g * (v1 * 18446744073709551616 * Q + v2 * Q) = u01 * X - rest * X + hi * X + lo * Q := by
    rw [← hX, ← he]
    have : g * (v2 * Q) = (hi * 18446744073709551616 + lo) * Q := by rw [hm]; grind
    grind
  have e2 : g * (v1 * 18446744073709551616 * Q + (v2 + 1) * Q) = u01 * X - rest * X + hi * X + lo * Q + g * Q := by
    have : g * (v1 * 18446744073709551616 * Q + (v2 + 1) * Q) = g * (v1 * 18446744073709551616 * Q + v2 * Q) + g * Q := by grind
    rw [this, e1]
  rw [e1] at m1
  rw [e2] at m2
  have e3 : v1 * 18446744073709551616 * Q = v1 * X := by rw [← hX]; grind
  rw [e3] at hv0
  rw [hX] at hu0 hu
  rw [Int.add_mul, Int.one_mul] at hu
  have k1 : 9223372036854775808 * X ≤ v1 * X := Int.mul_le_mul_of_nonneg_right h1 (by omega)
  have k2 : (rest + 1) * X ≤ v1 * X := Int.mul_le_mul_of_nonneg_right (by omega) (by omega)
  have k3 : lo * Q ≤ 18446744073709551615 * Q := Int.mul_le_mul_of_nonneg_right (by omega) (by omega)
  have k3' : 0 ≤ lo * Q := Int.mul_nonneg hl0 (by omega)
  have k4 : g * Q ≤ 18446744073709551615 * Q := Int.mul_le_mul_of_nonneg_right (by omega) (by omega)
  have k5 : 0 ≤ v2 * Q := Int.mul_nonneg h2 (by omega)
  have k6 : 0 ≤ hi * X := Int.mul_nonneg hhi0 (by omega)
  have k7 : 0 ≤ rest * X := Int.mul_nonneg hr0 (by omega)
  have k8 : hi * X ≤ 18446744073709551615 * X := Int.mul_le_mul_of_nonneg_right hhi1 (by omega)
  rw [Int.add_mul, Int.one_mul] at k2
  constructor
  · intro hlt
    have k9 : (rest + 1) * X ≤ hi * X := Int.mul_le_mul_of_nonneg_right (by omega) (by omega)
    rw [Int.add_mul, Int.one_mul] at k9
    have hg1' : 1 ≤ g := by
      by_cases c : 1 ≤ g
      · exact c
      · have : g = 0 := by omega
        subst this; simp at hm; omega
    have hhi2 : hi ≤ 18446744073709551614 := by omega
    have k10 : hi * X ≤ 18446744073709551614 * X := Int.mul_le_mul_of_nonneg_right hhi2 (by omega)
    refine ⟨by omega, by omega, ?_, ?_⟩
    · rw [show (g - 1 - 1) * v = g * v - 2 * v from by grind]
      omega
    · rw [show (g - 1 + 1) * v = g * v from by grind]
      omega
  · intro hle
    have k9 : hi * X ≤ rest * X := Int.mul_le_mul_of_nonneg_right hle (by omega)
    refine ⟨hg0, hg1, ?_, ?_⟩
    · rw [Int.sub_mul, Int.one_mul]; omega
    · rw [Int.add_mul, Int.one_mul]; omega
end Go.Proofs.YtjihgkanbhccpaaGreatDoor
