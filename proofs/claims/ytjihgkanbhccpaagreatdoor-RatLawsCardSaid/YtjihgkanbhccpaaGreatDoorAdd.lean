/- nat.Add tells the sum, normal, in new memory. -/
import Derived.Test.YtjihgkanbhccpaaGreatDoorNorm
import Derived.Test.YtjihgkanbhccpaaGreatDoorAddT
namespace Go.Proofs.YtjihgkanbhccpaaGreatDoor
open Go.RowKit Lim

theorem isN_lt {l : List Int} {n : Int} (h : IsN l n) : 0 ≤ n ∧ n < 18446744073709551616 ^ l.length := by
  rw [← h.2.2]; exact ⟨val_nonneg h.1, val_lt h.1⟩
theorem pow_pos (k : Nat) : (0 : Int) < 18446744073709551616 ^ k := Int.pow_pos (by decide)
theorem add_fin {L L' lz : List Int} {x y : Int} (hL : IsN L x) (hL' : IsN L' y) (hle : L'.length ≤ L.length) (hw : Words lz) 
    (hv : val lz = (val (L ++ [0]) + val L' * 1) % 18446744073709551616 ^ (L.length + 1)) : IsN (norm lz) (x + y) := by
  have h1 := isN_lt hL
  have h2 := isN_lt hL'
  have h3 := pow_mono hle
  have hp := pow_pos L.length
  have e : val (L ++ [0]) + val L' * 1 = x + y := by rw [val_append, hL.2.2, hL'.2.2]; simp [val]
  rw [e, Int.emod_eq_of_lt (by omega) (by rw [Int.pow_succ]; omega)] at hv
  rw [← hv]
  exact isN_norm hw
theorem words_zero (n : Nat) : Words (List.replicate n 0) := fun x hx => by rw [List.eq_of_mem_replicate hx]; decide

set_option maxHeartbeats 1000000 in
set_option maxRecDepth 100000 in
theorem add_any (ao : Option Addr) (n c b o : Nat) (ao' : Option Addr) (n' c' b' o' : Nat) (l l' : List Int) (w : World) (hl : l.length = n) (hl' : l'.length = n') (hc : n ≤ c) (hc' : n' ≤ c') (hbig : n ≤ 1099511627776) (hbig' : n' ≤ 1099511627776)
    (wl : Words l) (wl' : Words l') (ha : At w ao b o l) (ha' : At w ao' b' o' l') :
    Calls Tryz.prog 22 #[.slice ao n c, .slice ao' n' c'] w fun e w' => ∃ v r, e = .returned v ∧ NewV w w' v r ∧ IsN r (val l + val l') ∧ r.length ≤ n + n' + 1 ∧ Below w.heap.size w w' := by
  have hn := nlen_le l
  have hn' := nlen_le l'
  have t1 := trim_any ao n c l w hl hc (by omega) ha.cells
  have t2 := trim_any ao' n' c' l' w hl' hc' (by omega) ha'.cells
  have hs := ha.sub (nlen l)
  have hs' := ha'.sub (nlen l')
  have hnl := norm_length l
  have hnl' := norm_length l'
  have hI := isN_norm wl
  have hI' := isN_norm wl'
  rw [show l.take (nlen l) = norm l from rfl] at hs
  rw [show l'.take (nlen l') = norm l' from rfl] at hs'
  generalize nlen l = N at *
  generalize nlen l' = N' at *
  generalize norm l = L at *
  generalize norm l' = L' at *
  clear ha ha'
  go_enter Tryz.func22, Tryz.ntmps22
  go_wp2_with fail
  refine t1.mono ?_
  rintro e w1 ⟨rfl, rfl⟩
  go_wp2_with fail
  refine t2.mono ?_
  rintro e w2 ⟨rfl, rfl⟩
  clear t1 t2
  by_cases hlt : N < N'
  · have hne : L = [] ∨ b ≠ w2.heap.size := by
      rcases hs.lt with e | e
      · exact .inl e
      · exact .inr (by omega)
    go_wp2_with (first
      | (at_make; refine wpList_makeN rfl _ _ rfl (N' + 1) _ _ rfl rfl (by omega) (by omega) (by omega) ?_; intro w3 hrow hbel hsz; have hs3 := hs'.keep hbel; have hs4 := hs.keep hbel)
      | (refine wpList_copyN rfl (.tmp 23) (.tmp 24) rfl _ _ _ _ _ _ rfl rfl _ _ hrow (by simp) _ _ hnl' (by omega) hs3 ?_; intro w4 hrow4 hwr4))
    have hr4 : Row w4 w2.heap.size (L' ++ [0]) := by
      have := hrow4; rw [List.drop_replicate, show N' + 1 - N' = 1 from by omega] at this; simpa using this
    have hs5 := hs4.wr hwr4 hne
    refine (addTimes_any _ w2.heap.size 0 _ _ _ b o _ _ 1 (L' ++ [0]) L w4 (by simp [hnl']) hnl (by omega) (by omega) (Nat.le_refl _) (Nat.le_refl _) (by decide) (by decide) (hI'.1.append (words_zero 1)) hI.1 hr4.at (hr4.free _ _) hs5 hne).mono ?_
    rintro e w5 ⟨rfl, lz, hlz, hwz, hatz, hwr5, hvz⟩
    have HF : IsN (norm lz) (_ + _) := add_fin hI' hI (by omega) hwz (by rw [hvz, hnl'])
    have hfz := hwr5.free (hr4.free 0 (N' + 1))
    have hz1 := nlen_le lz
    have hz2 := norm_length lz
    have hz3 := hatz.sub (nlen lz)
    have HB := (hbel.trans (hwr4.below (Nat.le_refl _))).trans (hwr5.below (Nat.le_refl _))
    rw [show lz.take (nlen lz) = norm lz from rfl] at hz3
    have t3 := trim_any (some ⟨w2.heap.size, 0, none⟩) (N' + 1) (N' + 1) lz w5 hlz (Nat.le_refl _) (by omega) hatz.cells
    clear hr4 hs5 hs4 hs3 hrow hrow4 hwr4 hwr5 hbel hatz hvz
    generalize nlen lz = K at *
    generalize norm lz = R at *
    go_wp2_with fail
    refine t3.mono ?_
    rintro e w6 ⟨rfl, rfl⟩
    go_wp2
    go_ret
    exact ⟨_, R, rfl, NewV.of hz2.symm (Nat.le_refl _) (Nat.le_refl _) hz3 (fun i hi => hfz i (by omega)), by rw [Int.add_comm]; exact HF, by omega, HB⟩
  · have hne : L' = [] ∨ b' ≠ w2.heap.size := by
      rcases hs'.lt with e | e
      · exact .inl e
      · exact .inr (by omega)
    go_wp2_with (first
      | (at_make; refine wpList_makeN rfl _ _ rfl (N + 1) _ _ rfl rfl (by omega) (by omega) (by omega) ?_; intro w3 hrow hbel hsz; have hs3 := hs.keep hbel; have hs4 := hs'.keep hbel)
      | (refine wpList_copyN rfl (.tmp 23) (.tmp 24) rfl _ _ _ _ _ _ rfl rfl _ _ hrow (by simp) _ _ hnl (by omega) hs3 ?_; intro w4 hrow4 hwr4))
    have hr4 : Row w4 w2.heap.size (L ++ [0]) := by
      have := hrow4; rw [List.drop_replicate, show N + 1 - N = 1 from by omega] at this; simpa using this
    have hs5 := hs4.wr hwr4 hne
    refine (addTimes_any _ w2.heap.size 0 _ _ _ b' o' _ _ 1 (L ++ [0]) L' w4 (by simp [hnl]) hnl' (by omega) (by omega) (Nat.le_refl _) (Nat.le_refl _) (by decide) (by decide) (hI.1.append (words_zero 1)) hI'.1 hr4.at (hr4.free _ _) hs5 hne).mono ?_
    rintro e w5 ⟨rfl, lz, hlz, hwz, hatz, hwr5, hvz⟩
    have HF : IsN (norm lz) (_ + _) := add_fin hI hI' (by omega) hwz (by rw [hvz, hnl])
    have hfz := hwr5.free (hr4.free 0 (N + 1))
    have hz1 := nlen_le lz
    have hz2 := norm_length lz
    have hz3 := hatz.sub (nlen lz)
    have HB := (hbel.trans (hwr4.below (Nat.le_refl _))).trans (hwr5.below (Nat.le_refl _))
    rw [show lz.take (nlen lz) = norm lz from rfl] at hz3
    have t3 := trim_any (some ⟨w2.heap.size, 0, none⟩) (N + 1) (N + 1) lz w5 hlz (Nat.le_refl _) (by omega) hatz.cells
    clear hr4 hs5 hs4 hs3 hrow hrow4 hwr4 hwr5 hbel hatz hvz
    generalize nlen lz = K at *
    generalize norm lz = R at *
    go_wp2_with fail
    refine t3.mono ?_
    rintro e w6 ⟨rfl, rfl⟩
    go_wp2
    go_ret
    exact ⟨_, R, rfl, NewV.of hz2.symm (Nat.le_refl _) (Nat.le_refl _) hz3 (fun i hi => hfz i (by omega)), HF, by omega, HB⟩
end Go.Proofs.YtjihgkanbhccpaaGreatDoor
