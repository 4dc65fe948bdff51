/- nat.takeTimes takes b m from z in place, and tells what it would have to borrow. -/
import Derived.Test.YtjihgkanbhccpaaGreatDoorAddT
namespace Go.Proofs.YtjihgkanbhccpaaGreatDoor
open Go.RowKit Lim

theorem bor_01 (x y : Int) : 0 ≤ bor x y ∧ bor x y ≤ 1 := by unfold bor; split <;> decide
theorem sub_mod (x y : Int) (hx : 0 ≤ x ∧ x < 18446744073709551616) (hy : 0 ≤ y ∧ y < 18446744073709551616) : (x - y) % 18446744073709551616 = x - y + 18446744073709551616 * bor x y := by
  unfold bor; split <;> omega
theorem sub64_m (x y : Int) (hx : 0 ≤ x) (hx' : x < 18446744073709551616) (w : World) : (callFunc 167 #[.int .u64 x, .int .u64 (y % 18446744073709551616), .int .u64 0]).run Tryz.prog w =
    .ok (.value (.tuple #[.int .u64 ((x - y % 18446744073709551616) % 18446744073709551616), .int .u64 (bor x (y % 18446744073709551616))])) w :=
  sub64 x _ hx hx' (Int.emod_nonneg _ (by decide)) (Int.emod_lt_of_pos _ (by decide)) w

theorem take_step (z x m c hi lo : Int) (hz : 0 ≤ z ∧ z < 18446744073709551616) (hc : 0 ≤ c ∧ c < 18446744073709551616) (h1 : 0 ≤ hi) (h2 : hi ≤ 18446744073709551614) (h3 : 0 ≤ lo) (h4 : lo < 18446744073709551616) (h5 : hi * 18446744073709551616 + lo = x * m)
    (hb : x * m ≤ 340282366920938463426481119284349108225) :
    0 ≤ hi + (lo + c) / 18446744073709551616 ∧ hi + (lo + c) / 18446744073709551616 ≤ 18446744073709551615 ∧
    0 ≤ hi + (lo + c) / 18446744073709551616 + bor z ((lo + c) % 18446744073709551616) ∧
    hi + (lo + c) / 18446744073709551616 + bor z ((lo + c) % 18446744073709551616) ≤ 18446744073709551615 ∧
    (z - (lo + c) % 18446744073709551616) % 18446744073709551616 + 18446744073709551616 * (-(hi + (lo + c) / 18446744073709551616 + bor z ((lo + c) % 18446744073709551616))) = z + x * -m + -c := by
  rw [sub_mod z _ hz ⟨by omega, by omega⟩, show x * -m = -(x * m) from Int.mul_neg x m]
  have := bor_01 z ((lo + c) % 18446744073709551616)
  unfold bor at *
  split <;> omega

theorem AddInv.owed {lz lb lz1 : List Int} {m c : Int} {k n : Nat} (hn : lz.length = n) (h : AddInv lz lb m k lz1 c) (hc : c = 0 ∨ lz.length = k) (hk : lb.length ≤ k) (hkn : k ≤ n) :
    val lz1 + 18446744073709551616 ^ n * c = val lz + val lb * m := by
  obtain ⟨h1, h2, h3, h4⟩ := h
  rw [List.take_of_length_le (l := lb) (by omega)] at h4
  rcases hc with e | e
  · subst e
    have hd : lz1.drop k = lz.drop k := nth_ext (by simp [h1]) fun i hi => by rw [nth_drop, nth_drop]; exact h3 _ (by omega)
    have e1 := val_split lz1 k (by omega)
    have e2 := val_split lz k (by omega)
    rw [hd] at e1
    simp only [Int.mul_zero, Int.add_zero] at h4 ⊢
    rw [e1, e2]; omega
  · have ek : k = n := by omega
    subst ek
    rw [List.take_of_length_le (l := lz1) (by omega), List.take_of_length_le (l := lz) (by omega)] at h4
    exact h4

set_option maxHeartbeats 1000000 in
set_option maxRecDepth 100000 in
theorem takeTimes_any (az : Option Addr) (bz oz nz cz : Nat) (ab : Option Addr) (bb ob nb cb : Nat) (m : Int) (lz lb : List Int) (w : World)
    (hnz : lz.length = nz) (hnb : lb.length = nb) (hle : nb ≤ nz) (hbig : nz ≤ 2199023255552) (hcz : nz ≤ cz) (hcb : nb ≤ cb) (hm0 : 0 ≤ m) (hm1 : m < 18446744073709551616)
    (wz : Words lz) (wb : Words lb) (hz : At w az bz oz lz) (hfz : Free w bz oz nz) (hb : At w ab bb ob lb) (hne : lb = [] ∨ bb ≠ bz) :
    Calls Tryz.prog 128 #[.slice az nz cz, .slice ab nb cb, .int .u64 m] w fun e w' => ∃ owed : Int, e = .returned (.int .u64 owed) ∧ 0 ≤ owed ∧ owed < 18446744073709551616 ∧
      ∃ lz', lz'.length = nz ∧ Words lz' ∧ At w' az bz oz lz' ∧ Wr bz oz nz w w' ∧ val lz' = val lz - val lb * m + 18446744073709551616 ^ nz * owed := by
  have fin : ∀ (j : Nat) (d : Int) (lz2 : List Int) (wr : World), nb ≤ j → j ≤ nz → 0 ≤ d → d < 18446744073709551616 → AddInv lz lb (-m) j lz2 (-d) → At wr az bz oz lz2 → Wr bz oz nz w wr → (d = 0 ∨ nz = j) →
      ∃ owed : Int, Ending.returned (.int .u64 d) = .returned (.int .u64 owed) ∧ 0 ≤ owed ∧ owed < 18446744073709551616 ∧
      ∃ lz', lz'.length = nz ∧ Words lz' ∧ At wr az bz oz lz' ∧ Wr bz oz nz w wr ∧ val lz' = val lz - val lb * m + 18446744073709551616 ^ nz * owed := by
    intro j d lz2 wr h1 h2 h3 h4 h5 h6 h7 h8
    refine ⟨d, rfl, h3, h4, lz2, by rw [h5.1, hnz], h5.2.1, h6, h7, ?_⟩
    have := h5.owed hnz (by rcases h8 with e | e
                            · left; omega
                            · right; omega) (by omega) h2
    rw [Int.mul_neg, Int.mul_neg] at this
    omega
  have FIN := (show Hid _ from fin)
  clear fin
  go_enter Tryz.func128, Tryz.ntmps128
  go_wp2
  go_loopw [7, 15] (fun tc ti wr => ∃ (k : Nat) (c : Int) (lz1 : List Int), k ≤ nb ∧ ti = .int .i64 k ∧ tc = .int .u64 c ∧ 0 ≤ c ∧ c < 18446744073709551616 ∧ AddInv lz lb (-m) k lz1 (-c) ∧ At wr az bz oz lz1 ∧ Wr bz oz nz w wr) (fun _ ti _ => nb - (intOf ti).toNat)
  case atStart => exact ⟨0, 0, lz, Nat.zero_le _, rfl, rfl, by decide, by decide, ⟨rfl, wz, fun _ _ => rfl, by simp [val]⟩, hz, Wr.refl _ _ _ _⟩
  case round =>
    obtain ⟨k, c, lz1, hk, rfl, rfl, hc0, hc1, hinv, hat, hwr⟩ := hrel
    have hlen1 := hinv.1
    by_cases hlt : k < nb
    · rcases hb.loc with e | rfl
      · subst e; simp at hnb; omega
      rcases hz.loc with e | rfl
      · subst e; simp at hnz; omega
      have hb' := hb.wr hwr hne
      have hcb := hb'.cell k (by omega)
      have hcz := hat.cell k (by omega)
      have hfr := hwr.free hfz k (by omega)
      have hx := wb.nth k
      have hzz := wz.nth k
      rw [hinv.2.2.1 k (Nat.le_refl _)] at hcz
      obtain ⟨hx0, hx1⟩ := hx
      obtain ⟨hz0, hz1⟩ := hzz
      have HI : Hid (AddInv lz lb (-m) k lz1 (-c)) := hinv
      have HA : Hid (At wr (some ⟨bz, oz, none⟩) bz oz lz1) := hat
      have HW : Hid (Wr bz oz nz w wr) := hwr
      clear hinv hat hwr hb' hz hb hfz wz wb hne
      go_wp2_with (first
        | (go_at_call 122; refine (mul64_n _ _ hx0 hx1 hm0 hm1 _).mono ?_; rintro e w' ⟨hi, lo, rfl, h1, h2, h3, h4, h5, rfl⟩)
        | simp only [add64 _ _ h3 hc0]
        | simp only [sub64_m _ _ hz0 hz1])
      have hxm : nth lb k * m ≤ 340282366920938463426481119284349108225 := by
        have := Int.mul_le_mul (show nth lb k ≤ 18446744073709551615 by omega) (show m ≤ 18446744073709551615 by omega) hm0 (by decide)
        simpa using this
      obtain ⟨s1, s2, s3, s4, s5⟩ := take_step (nth lz k) (nth lb k) m c hi lo ⟨hz0, hz1⟩ ⟨hc0, hc1⟩ h1 h2 h3 h4 h5 hxm
      rw [Int.sub_emod_emod] at s5
      rw [IntWalk.u64_in _ ⟨s3, s4⟩]
      refine ⟨⟨k + 1, _, _, by omega, by go_num, rfl, s3, by omega, HI.out.step (by omega) (Int.emod_nonneg _ (by decide)) (Int.emod_lt_of_pos _ (by decide)) s5, HA.out.setCell (by omega) _, HW.out.setCell (by omega) (by omega) _⟩, by simp [intOf]; omega⟩
    · have hkn : k = nb := by omega
      subst hkn
      have HI : Hid (AddInv lz lb (-m) k lz1 (-c)) := hinv
      clear hinv
      go_wp2
      go_loopw [7, 12] (fun tc ti wr => ∃ (j : Nat) (c : Int) (lz1 : List Int), k ≤ j ∧ j ≤ nz ∧ ti = .int .i64 j ∧ tc = .int .u64 c ∧ 0 ≤ c ∧ c < 18446744073709551616 ∧ AddInv lz lb (-m) j lz1 (-c) ∧ At wr az bz oz lz1 ∧ Wr bz oz nz w wr) (fun _ ti _ => nz - (intOf ti).toNat)
      case atStart => exact ⟨k, c, lz1, Nat.le_refl _, by omega, rfl, rfl, hc0, hc1, HI.out, hat, hwr⟩
      case round =>
        clear hat hwr HI hlen1 hc0 hc1
        obtain ⟨j, d, lz2, hkj, hj, rfl, rfl, hd0, hd1, hinv, hat, hwr⟩ := hrel
        have hlen2 := hinv.1
        by_cases hlt2 : j < nz
        · by_cases hd : d = 0
          · subst hd
            go_wp2
            go_ret
            exact FIN.out j 0 lz2 _ hkj hj hd0 hd1 hinv hat hwr (.inl rfl)
          · rcases hz.loc with e | rfl
            · subst e; simp at hnz; omega
            have hcz := hat.cell j (by omega)
            have hfr := hwr.free hfz j (by omega)
            have hzz := wz.nth j
            rw [hinv.2.2.1 j (Nat.le_refl _)] at hcz
            obtain ⟨hz0, hz1⟩ := hzz
            have hdb : (d != 0) = true := by rw [bne_iff_ne]; exact hd
            have HI : Hid (AddInv lz lb (-m) j lz2 (-d)) := hinv
            have HA : Hid (At wr (some ⟨bz, oz, none⟩) bz oz lz2) := hat
            have HW : Hid (Wr bz oz nz w wr) := hwr
            clear hinv hat hwr hz hb hfz wz wb hne
            go_wp2_with (simp only [sub64 _ _ hz0 hz1 hd0 hd1])
            have hbb := bor_01 (nth lz j) d
            have s5 : (nth lz j - d) % 18446744073709551616 + 18446744073709551616 * -bor (nth lz j) d = nth lz j + nth lb j * -m + -d := by
              rw [nth_ge (l := lb) (by omega), sub_mod _ _ ⟨hz0, hz1⟩ ⟨hd0, hd1⟩]; omega
            refine ⟨⟨j + 1, _, _, by omega, by omega, by go_num, rfl, by omega, by omega, HI.out.step (by omega) (Int.emod_nonneg _ (by decide)) (Int.emod_lt_of_pos _ (by decide)) s5, HA.out.setCell (by omega) _, HW.out.setCell (by omega) (by omega) _⟩, by simp [intOf]; omega⟩
        · have hjn : j = nz := by omega
          subst hjn
          go_wp2
          go_ret
          exact FIN.out j d lz2 _ hkj hj hd0 hd1 hinv hat hwr (.inr rfl)
end Go.Proofs.YtjihgkanbhccpaaGreatDoor
