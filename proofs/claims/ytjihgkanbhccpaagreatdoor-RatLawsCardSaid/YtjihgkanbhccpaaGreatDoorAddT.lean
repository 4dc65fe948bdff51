/- nat.addTimes adds b m to z in place; what goes beyond z is lost. -/
import Derived.Test.YtjihgkanbhccpaaGreatDoorBits
import Derived.Test.YtjihgkanbhccpaaGreatDoorMem
namespace Go.Proofs.YtjihgkanbhccpaaGreatDoor
open Go.RowKit Lim

theorem add_step (z x m c hi lo : Int) (hz : 0 ≤ z ∧ z < 18446744073709551616) (hc : 0 ≤ c ∧ c < 18446744073709551616) (h1 : 0 ≤ hi) (h2 : hi ≤ 18446744073709551614) (h3 : 0 ≤ lo) (h4 : lo < 18446744073709551616) (h5 : hi * 18446744073709551616 + lo = x * m)
    (hb : x * m ≤ 340282366920938463426481119284349108225) :
    0 ≤ hi + (lo + c) / 18446744073709551616 ∧ hi + (lo + c) / 18446744073709551616 ≤ 18446744073709551615 ∧
    0 ≤ hi + (lo + c) / 18446744073709551616 + (z + (lo + c) % 18446744073709551616) / 18446744073709551616 ∧
    hi + (lo + c) / 18446744073709551616 + (z + (lo + c) % 18446744073709551616) / 18446744073709551616 ≤ 18446744073709551615 ∧
    (z + (lo + c) % 18446744073709551616) % 18446744073709551616 + 18446744073709551616 * (hi + (lo + c) / 18446744073709551616 + (z + (lo + c) % 18446744073709551616) / 18446744073709551616) = z + x * m + c := by
  omega

/-- what the first k limbs have become: loop's invariant -/
def AddInv (lz lb : List Int) (m : Int) (k : Nat) (lz1 : List Int) (c : Int) : Prop :=
  lz1.length = lz.length ∧ Words lz1 ∧ (∀ i, k ≤ i → nth lz1 i = nth lz i) ∧ val (lz1.take k) + 18446744073709551616 ^ k * c = val (lz.take k) + val (lb.take k) * m

theorem AddInv.step {lz lb lz1 : List Int} {m c z' c' : Int} {k : Nat} (h : AddInv lz lb m k lz1 c) (hk : k < lz.length) (hz0 : 0 ≤ z') (hz1 : z' < 18446744073709551616)
    (e : z' + 18446744073709551616 * c' = nth lz k + nth lb k * m + c) : AddInv lz lb m (k + 1) (lz1.set k z') c' := by
  obtain ⟨h1, h2, h3, h4⟩ := h
  refine ⟨by simp [h1], h2.set k hz0 hz1, fun i hi => ?_, ?_⟩
  · rw [nth_set (by omega), if_neg (by omega)]; exact h3 i (by omega)
  · have hb : val (lb.take (k + 1)) = val (lb.take k) + 18446744073709551616 ^ k * nth lb k := by
      by_cases hl : k < lb.length
      · exact val_take_succ hl
      · rw [List.take_of_length_le (by omega), List.take_of_length_le (by omega), nth_ge (by omega)]; simp
    rw [val_take_succ (by simp [h1]; omega), val_take_succ hk, hb, List.take_set_of_le (Nat.le_refl _), nth_set (by omega), if_pos rfl, Int.pow_succ]
    have : 18446744073709551616 ^ k * (z' + 18446744073709551616 * c') = 18446744073709551616 ^ k * (nth lz k + nth lb k * m + c) := by rw [e]
    grind

theorem AddInv.done {lz lb lz1 : List Int} {m c : Int} {k n : Nat} (hn : lz.length = n) (h : AddInv lz lb m k lz1 c) (hc : c = 0 ∨ lz.length = k) (hk : lb.length ≤ k) (hkn : k ≤ n) :
    val lz1 = (val lz + val lb * m) % 18446744073709551616 ^ n := by
  obtain ⟨h1, h2, h3, h4⟩ := h
  rw [List.take_of_length_le (l := lb) (by omega)] at h4
  have hlt := val_lt h2
  have h0 := val_nonneg h2
  rw [h1, hn] at hlt
  rcases hc with e | e
  · subst e
    have hd : lz1.drop k = lz.drop k := nth_ext (by simp [h1]) fun i hi => by rw [nth_drop, nth_drop]; exact h3 _ (by omega)
    have e1 := val_split lz1 k (by omega)
    have e2 := val_split lz k (by omega)
    rw [hd] at e1
    have : val lz + val lb * m = val lz1 := by rw [e1, e2]; simp only [Int.mul_zero, Int.add_zero] at h4; omega
    rw [this]
    exact (Int.emod_eq_of_lt h0 hlt).symm
  · have ek : k = n := by omega
    subst ek
    rw [List.take_of_length_le (l := lz1) (by omega), List.take_of_length_le (l := lz) (by omega)] at h4
    rw [← h4, Int.add_mul_emod_self_left]
    exact (Int.emod_eq_of_lt h0 hlt).symm

set_option maxHeartbeats 1000000 in
set_option maxRecDepth 100000 in
theorem addTimes_any (az : Option Addr) (bz oz nz cz : Nat) (ab : Option Addr) (bb ob nb cb : Nat) (m : Int) (lz lb : List Int) (w : World)
    (hnz : lz.length = nz) (hnb : lb.length = nb) (hle : nb ≤ nz) (hbig : nz ≤ 2199023255552) (hcz : nz ≤ cz) (hcb : nb ≤ cb) (hm0 : 0 ≤ m) (hm1 : m < 18446744073709551616)
    (wz : Words lz) (wb : Words lb) (hz : At w az bz oz lz) (hfz : Free w bz oz nz) (hb : At w ab bb ob lb) (hne : lb = [] ∨ bb ≠ bz) :
    Calls Tryz.prog 85 #[.slice az nz cz, .slice ab nb cb, .int .u64 m] w fun e w' => e = .returned (.tuple #[]) ∧
      ∃ lz', lz'.length = nz ∧ Words lz' ∧ At w' az bz oz lz' ∧ Wr bz oz nz w w' ∧ val lz' = (val lz + val lb * m) % 18446744073709551616 ^ nz := by
  go_enter Tryz.func85, Tryz.ntmps85
  go_wp2
  go_loopw [6, 14] (fun tc ti wr => ∃ (k : Nat) (c : Int) (lz1 : List Int), k ≤ nb ∧ ti = .int .i64 k ∧ tc = .int .u64 c ∧ 0 ≤ c ∧ c < 18446744073709551616 ∧ AddInv lz lb m k lz1 c ∧ At wr az bz oz lz1 ∧ Wr bz oz nz w wr) (fun _ ti _ => nb - (intOf ti).toNat)
  case atStart => exact ⟨0, 0, lz, Nat.zero_le _, rfl, rfl, by decide, by decide, ⟨rfl, wz, fun _ _ => rfl, by simp [val]⟩, hz, Wr.refl _ _ _ _⟩
  case round =>
    obtain ⟨k, c, lz1, hk, rfl, rfl, hc0, hc1, hinv, hat, hwr⟩ := hrel
    have hlen1 := hinv.1
    by_cases hlt : k < nb
    · rcases hb.loc with e | rfl
      · subst e; simp at hnb; omega
      rcases hz.loc with e | rfl
      · subst e; simp at hnz; omega
      have hb' := hb.wr hwr hne
      have hcb := hb'.cell k (by omega)
      have hcz := hat.cell k (by omega)
      have hfr := hwr.free hfz k (by omega)
      have hx := wb.nth k
      have hzz := wz.nth k
      rw [hinv.2.2.1 k (Nat.le_refl _)] at hcz
      obtain ⟨hx0, hx1⟩ := hx
      obtain ⟨hz0, hz1⟩ := hzz
      have HI : Hid (AddInv lz lb m k lz1 c) := hinv
      have HA : Hid (At wr (some ⟨bz, oz, none⟩) bz oz lz1) := hat
      have HW : Hid (Wr bz oz nz w wr) := hwr
      clear hinv hat hwr hb' hz hb hfz wz wb hne
      go_wp2_with (first
        | (go_at_call 122; refine (mul64_n _ _ hx0 hx1 hm0 hm1 _).mono ?_; rintro e w' ⟨hi, lo, rfl, h1, h2, h3, h4, h5, rfl⟩)
        | simp only [add64 _ _ h3 hc0]
        | simp only [add64_m _ _ hz0])
      have hxm : nth lb k * m ≤ 340282366920938463426481119284349108225 := by
        have := Int.mul_le_mul (show nth lb k ≤ 18446744073709551615 by omega) (show m ≤ 18446744073709551615 by omega) hm0 (by decide)
        simpa using this
      obtain ⟨s1, s2, s3, s4, s5⟩ := add_step (nth lz k) (nth lb k) m c hi lo ⟨hz0, hz1⟩ ⟨hc0, hc1⟩ h1 h2 h3 h4 h5 hxm
      rw [Int.add_emod_emod] at s5
      rw [IntWalk.u64_in _ ⟨s3, s4⟩]
      refine ⟨⟨k + 1, _, _, by omega, by go_num, rfl, s3, by omega, HI.out.step (by omega) (Int.emod_nonneg _ (by decide)) (Int.emod_lt_of_pos _ (by decide)) s5, HA.out.setCell (by omega) _, HW.out.setCell (by omega) (by omega) _⟩, by simp [intOf]; omega⟩
    · have hkn : k = nb := by omega
      subst hkn
      have HI : Hid (AddInv lz lb m k lz1 c) := hinv
      clear hinv
      go_wp2
      go_loopw [6, 11] (fun tc ti wr => ∃ (j : Nat) (c : Int) (lz1 : List Int), k ≤ j ∧ j ≤ nz ∧ ti = .int .i64 j ∧ tc = .int .u64 c ∧ 0 ≤ c ∧ c < 18446744073709551616 ∧ AddInv lz lb m j lz1 c ∧ At wr az bz oz lz1 ∧ Wr bz oz nz w wr) (fun _ ti _ => nz - (intOf ti).toNat)
      case atStart => exact ⟨k, c, lz1, Nat.le_refl _, by omega, rfl, rfl, hc0, hc1, HI.out, hat, hwr⟩
      case round =>
        clear hat hwr HI hlen1 hc0 hc1
        obtain ⟨j, d, lz2, hkj, hj, rfl, rfl, hd0, hd1, hinv, hat, hwr⟩ := hrel
        have hlen2 := hinv.1
        by_cases hlt2 : j < nz
        · by_cases hd : d = 0
          · subst hd
            go_wp2
            go_end0
            refine ⟨rfl, lz2, by omega, hinv.2.1, hat, hwr, ?_⟩
            exact AddInv.done (by omega) hinv (.inl rfl) (by omega) (by omega)
          · rcases hz.loc with e | rfl
            · subst e; simp at hnz; omega
            have hcz := hat.cell j (by omega)
            have hfr := hwr.free hfz j (by omega)
            have hzz := wz.nth j
            rw [hinv.2.2.1 j (Nat.le_refl _)] at hcz
            obtain ⟨hz0, hz1⟩ := hzz
            have hdb : (d != 0) = true := by rw [bne_iff_ne]; exact hd
            have HI : Hid (AddInv lz lb m j lz2 d) := hinv
            have HA : Hid (At wr (some ⟨bz, oz, none⟩) bz oz lz2) := hat
            have HW : Hid (Wr bz oz nz w wr) := hwr
            clear hinv hat hwr hz hb hfz wz wb hne
            go_wp2_with (simp only [add64 _ _ hz0 hd0])
            have s5 : (nth lz j + d) % 18446744073709551616 + 18446744073709551616 * ((nth lz j + d) / 18446744073709551616) = nth lz j + nth lb j * m + d := by
              rw [nth_ge (l := lb) (by omega)]; omega
            refine ⟨⟨j + 1, _, _, by omega, by omega, by go_num, rfl, by omega, by omega, HI.out.step (by omega) (Int.emod_nonneg _ (by decide)) (Int.emod_lt_of_pos _ (by decide)) s5, HA.out.setCell (by omega) _, HW.out.setCell (by omega) (by omega) _⟩, by simp [intOf]; omega⟩
        · have hjn : j = nz := by omega
          subst hjn
          go_wp2
          go_end0
          refine ⟨rfl, lz2, by omega, hinv.2.1, hat, hwr, ?_⟩
          exact AddInv.done (by omega) hinv (.inr hnz) (by omega) (by omega)
end Go.Proofs.YtjihgkanbhccpaaGreatDoor
