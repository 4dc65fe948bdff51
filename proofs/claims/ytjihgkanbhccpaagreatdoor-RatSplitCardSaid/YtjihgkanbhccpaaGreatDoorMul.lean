/- nat.Mul tells the product, normal, in new memory. -/
import Derived.Test.YtjihgkanbhccpaaGreatDoorAdd
import Derived.Deep.RegionWith
namespace Go.Proofs.YtjihgkanbhccpaaGreatDoor
open Go.RowKit Lim

/-- no limb is lost in a round of Mul -/
theorem mul_room {L L' lz : List Int} {k : Nat} (hL : Words L) (hL' : Words L') (hz : Words lz) (hk : k < L.length) (hl : lz.length = L.length + L'.length) (hv : val lz = val (L.take k) * val L') :
    0 ≤ val ((lz.drop k).take (L'.length + 1)) + val L' * nth L k ∧ val ((lz.drop k).take (L'.length + 1)) + val L' * nth L k < 18446744073709551616 ^ (L'.length + 1) := by
  have h1 := val_lt (hL.take k)
  have h2 := val_lt hL'
  have h3 := val_nonneg (hL.take k)
  have h4 := val_nonneg hL'
  have h5 := val_nonneg (hz.take k)
  have h6 := val_nonneg ((hz.drop k).take (L'.length + 1))
  have h7 := val_nonneg ((hz.drop k).drop (L'.length + 1))
  have h8 := hL.nth k
  rw [List.length_take, Nat.min_eq_left (by omega)] at h1
  have e1 := val_split lz k (by omega)
  have e2 := val_split (lz.drop k) (L'.length + 1) (by simp; omega)
  have hp := pow_pos k
  have hq := pow_pos L'.length
  have hr := pow_pos (L'.length + 1)
  have m1 : val (L.take k) * val L' ≤ 18446744073709551616 ^ k * val L' := Int.mul_le_mul_of_nonneg_right (by omega) h4
  have m2 : (18446744073709551616 : Int) ^ k * val (lz.drop k) ≤ 18446744073709551616 ^ k * val L' := by omega
  have m3 : val (lz.drop k) ≤ val L' := Int.le_of_mul_le_mul_left m2 hp
  have m4 : 0 ≤ 18446744073709551616 ^ (L'.length + 1) * val ((lz.drop k).drop (L'.length + 1)) := Int.mul_nonneg (Int.le_of_lt hr) h7
  have m5 : val L' * nth L k ≤ val L' * 18446744073709551615 := Int.mul_le_mul_of_nonneg_left (by omega) h4
  have m6 : 0 ≤ val L' * nth L k := Int.mul_nonneg h4 h8.1
  refine ⟨by omega, ?_⟩
  rw [Int.pow_succ]
  omega

structure MulInv (L L' lz : List Int) (k : Nat) : Prop where
  len : lz.length = L.length + L'.length
  words : Words lz
  val : Lim.val lz = Lim.val (L.take k) * Lim.val L'

theorem MulInv.step {L L' lz lw : List Int} {k : Nat} (hL : Words L) (hL' : Words L') (hk : k < L.length) (h : MulInv L L' lz k) (hw : Words lw) (hlw : lw.length = L'.length + 1)
    (hv : Lim.val lw = (Lim.val ((lz.drop k).take (L'.length + 1)) + Lim.val L' * nth L k) % 18446744073709551616 ^ (L'.length + 1)) : MulInv L L' (patch lz k lw) (k + 1) := by
  have hroom := mul_room hL hL' h.words hk h.len h.val
  rw [Int.emod_eq_of_lt hroom.1 hroom.2] at hv
  have hl := h.len
  refine ⟨by rw [patch_length (by omega)]; exact h.len, patch_words h.words hw, ?_⟩
  rw [patch_val (by omega), hlw, hv, h.val, val_take_succ hk]
  grind

set_option maxHeartbeats 1000000 in
set_option maxRecDepth 100000 in
theorem mul_any (ao : Option Addr) (n c b o : Nat) (ao' : Option Addr) (n' c' b' o' : Nat) (l l' : List Int) (w : World) (hl : l.length = n) (hl' : l'.length = n') (hc : n ≤ c) (hc' : n' ≤ c') (hbig : n ≤ 1099511627776) (hbig' : n' ≤ 1099511627776)
    (wl : Words l) (wl' : Words l') (ha : At w ao b o l) (ha' : At w ao' b' o' l') :
    Calls Tryz.prog 82 #[.slice ao n c, .slice ao' n' c'] w fun e w' => ∃ v r, e = .returned v ∧ NewV w w' v r ∧ IsN r (val l * val l') ∧ r.length ≤ n + n' ∧ Below w.heap.size w w' := by
  have hn := nlen_le l
  have hn' := nlen_le l'
  have t1 := trim_any ao n c l w hl hc (by omega) ha.cells
  have t2 := trim_any ao' n' c' l' w hl' hc' (by omega) ha'.cells
  have hs := ha.sub (nlen l)
  have hs' := ha'.sub (nlen l')
  have hnl := norm_length l
  have hnl' := norm_length l'
  have hI := isN_norm wl
  have hI' := isN_norm wl'
  rw [show l.take (nlen l) = norm l from rfl] at hs
  rw [show l'.take (nlen l') = norm l' from rfl] at hs'
  generalize nlen l = N at *
  generalize nlen l' = N' at *
  generalize norm l = L at *
  generalize norm l' = L' at *
  have hneL : L = [] ∨ b ≠ w.heap.size := by
    rcases hs.lt with e | e
    · exact .inl e
    · exact .inr (by omega)
  have hne : L' = [] ∨ b' ≠ w.heap.size := by
    rcases hs'.lt with e | e
    · exact .inl e
    · exact .inr (by omega)
  clear ha ha'
  go_enter Tryz.func82, Tryz.ntmps82
  go_wp2_with fail
  refine t1.mono ?_
  rintro e w1 ⟨rfl, rfl⟩
  go_wp2_with fail
  refine t2.mono ?_
  rintro e w2 ⟨rfl, rfl⟩
  clear t1 t2
  go_wp2_with (at_make; refine wpList_makeN rfl _ _ rfl (N + N') _ _ rfl rfl (by omega) (by omega) (by omega) ?_; intro w3 hrow hbel hsz)
  have hs3 := hs.keep hbel
  have hs4 := hs'.keep hbel
  have hat0 := hrow.at
  have hfr0 := hrow.free 0 (N + N')
  clear hs hs' hrow
  go_loopw [22] (fun ti wr => ∃ (k : Nat) (lz : List Int), k ≤ N ∧ ti = .int .i64 k ∧ MulInv L L' lz k ∧ At wr (some ⟨w2.heap.size, 0, none⟩) w2.heap.size 0 lz ∧ Wr w2.heap.size 0 (N + N') w3 wr) (fun ti _ => N - (intOf ti).toNat)
  case atStart => exact ⟨0, _, Nat.zero_le _, rfl, ⟨by simp [hnl, hnl'], words_zero _, by simp [val, val_zeros (l := List.replicate (N + N') 0) fun i => by simp [nth, List.getElem?_replicate]; split <;> rfl]⟩, hat0, Wr.refl _ _ _ _⟩
  case round =>
    clear hat0
    obtain ⟨k, lz, hk, rfl, hinv, hat, hwr⟩ := hrel
    by_cases hlt : k < N
    · have hlen := hinv.len
      rcases hs3.loc with e | rfl
      · subst e; simp at hnl; omega
      have hneL := hneL
      have hcx := (hs3.wr hwr hneL).cell k (by omega)
      have hat' := hs4.wr hwr hne
      have hx := hI.1.nth k
      have hfr := (hwr.free hfr0).window (k := k) (m := N' + 1) (by omega)
      have hwin := (hat.drew).window k (N' + 1)
      rw [Nat.zero_add] at hwin hfr
      have hkn : k + N' + 1 - k = N' + 1 := by omega
      have hcall := addTimes_any (some ⟨w2.heap.size, k, none⟩) w2.heap.size k (N' + 1) (N' + 1) ao' b' o' N' N' (nth L k) ((lz.drop k).take (N' + 1)) L' wr.drew (by simp; omega) hnl' (by omega) (by omega) (Nat.le_refl _) (Nat.le_refl _) hx.1 hx.2 ((hinv.words.drop k).take _) hI'.1 hwin hfr.drew hat'.drew hne
      have HX : Hid (∀ lw, Words lw → lw.length = N' + 1 → val lw = (val ((lz.drop k).take (N' + 1)) + val L' * nth L k) % 18446744073709551616 ^ (N' + 1) → MulInv L L' (patch lz k lw) (k + 1)) := by
        intro lw h1 h2 h3
        rw [← hnl'] at h2 h3
        exact MulInv.step hI.1 hI'.1 (by omega) hinv h1 h2 h3
      have HA : Hid (At wr.drew (some ⟨w2.heap.size, 0, none⟩) w2.heap.size 0 lz) := hat.drew
      have HW : Hid (Wr w2.heap.size 0 (N + N') w3 wr.drew) := hwr.drew
      clear hfr hwin hat' hinv hwr hat
      generalize nth L k = x at *
      go_wp2_with fail
      go_region_with (go_at_call 85; refine hcall.mono ?_; rintro e w5 ⟨rfl, lw, hlw, hww, hatw, hwrw, hvw⟩)
      all_goals go_wp2
      all_goals exact ⟨⟨k + 1, patch lz k lw, by omega, by go_num, HX.out lw hww hlw hvw, HA.out.patch (k := k) (n := N' + 1) (by rw [Nat.zero_add]; exact hwrw) (by rw [Nat.zero_add]; exact hatw) (by omega) (by omega), HW.out.trans (hwrw.mono (by omega) (by omega))⟩, by simp [intOf]; omega⟩
    · have hkN : k = N := by omega
      subst hkN
      have hv := hinv.val
      have hlen := hinv.len
      have hwz := hinv.words
      rw [List.take_of_length_le (by omega), hI.2.2, hI'.2.2] at hv
      have hfz := hwr.free hfr0
      have hz1 := nlen_le lz
      have hz2 := norm_length lz
      have hz3 := hat.sub (nlen lz)
      have HF : IsN (norm lz) (val l * val l') := by rw [← hv]; exact isN_norm hwz
      have HB := hbel.trans (hwr.below (Nat.le_refl _))
      rw [show lz.take (nlen lz) = norm lz from rfl] at hz3
      have t3 := trim_any (some ⟨w2.heap.size, 0, none⟩) (k + N') (k + N') lz wr (by omega) (Nat.le_refl _) (by omega) hat.cells
      clear hs3 hs4 hat hwr hbel hinv hv
      generalize nlen lz = K at *
      generalize norm lz = R at *
      go_wp2_with fail
      refine t3.mono ?_
      rintro e w6 ⟨rfl, rfl⟩
      go_wp2
      go_ret
      exact ⟨_, R, rfl, NewV.of hz2.symm (Nat.le_refl _) (Nat.le_refl _) hz3 (fun i hi => hfz i (by omega)), HF, by omega, HB⟩
end Go.Proofs.YtjihgkanbhccpaaGreatDoor
