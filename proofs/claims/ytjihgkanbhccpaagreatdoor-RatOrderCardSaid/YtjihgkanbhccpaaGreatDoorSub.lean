/- nat.Sub tells the difference, normal, in new memory, or that it is below 0. -/
import Derived.Test.YtjihgkanbhccpaaGreatDoorAdd
import Derived.Test.YtjihgkanbhccpaaGreatDoorTakeT
import Derived.Test.YtjihgkanbhccpaaGreatDoorCmp
namespace Go.Proofs.YtjihgkanbhccpaaGreatDoor
open Go.RowKit Lim

theorem sub_fin {L L' lz : List Int} {x y owed : Int} (hL : IsN L x) (hL' : IsN L' y) (hle : y ≤ x) (hw : Words lz) (hl : lz.length = L.length) (h0 : 0 ≤ owed)
    (hv : val lz = val L - val L' * 1 + 18446744073709551616 ^ L.length * owed) : IsN (norm lz) (x - y) := by
  have h1 := isN_lt hL
  have h2 := isN_lt hL'
  have h3 := val_lt hw
  have h4 := val_nonneg hw
  have hp := pow_pos L.length
  rw [hL.2.2, hL'.2.2] at hv
  rw [hl] at h3
  have ho : owed = 0 := by
    by_cases h : 0 < owed
    · have : 18446744073709551616 ^ L.length * 1 ≤ 18446744073709551616 ^ L.length * owed := Int.mul_le_mul_of_nonneg_left (by omega) (Int.le_of_lt hp)
      omega
    · omega
  subst ho
  have : x - y = val lz := by rw [hv]; simp
  rw [this]
  exact isN_norm hw

set_option maxHeartbeats 1000000 in
set_option maxRecDepth 100000 in
theorem sub_lt (ao : Option Addr) (n c b o : Nat) (ao' : Option Addr) (n' c' b' o' : Nat) (l l' : List Int) (w : World) (hl : l.length = n) (hl' : l'.length = n') (hc : n ≤ c) (hc' : n' ≤ c') (hbig : n ≤ 1099511627776) (hbig' : n' ≤ 1099511627776)
    (wl : Words l) (wl' : Words l') (ha : At w ao b o l) (ha' : At w ao' b' o' l') (hlt : val l < val l') :
    Calls Tryz.prog 90 #[.slice ao n c, .slice ao' n' c'] w fun e w' => e = .returned (.tuple #[.slice none 0 0, .int .i64 10]) ∧ Below w.heap.size w w' := by
  have t1 := cmp_any ao n c b o ao' n' c' b' o' l l' w hl hl' hc hc' hbig hbig' wl wl' ha ha'
  rw [sgn_lt hlt] at t1
  go_enter Tryz.func90, Tryz.ntmps90
  go_wp2_with fail
  refine t1.mono ?_
  rintro e w1 ⟨rfl, hb1⟩
  go_wp2_with fail
  go_ret2
  exact ⟨rfl, hb1⟩

set_option maxHeartbeats 1000000 in
set_option maxRecDepth 100000 in
theorem sub_ge (ao : Option Addr) (n c b o : Nat) (ao' : Option Addr) (n' c' b' o' : Nat) (l l' : List Int) (w : World) (hl : l.length = n) (hl' : l'.length = n') (hc : n ≤ c) (hc' : n' ≤ c') (hbig : n ≤ 1099511627776) (hbig' : n' ≤ 1099511627776)
    (wl : Words l) (wl' : Words l') (ha : At w ao b o l) (ha' : At w ao' b' o' l') (hge : val l' ≤ val l) :
    Calls Tryz.prog 90 #[.slice ao n c, .slice ao' n' c'] w fun e w' => ∃ v r, e = .returned (.tuple #[v, .int .i64 0]) ∧ NewV w w' v r ∧ IsN r (val l - val l') ∧ r.length ≤ n ∧ Below w.heap.size w w' := by
  have t1 := cmp_any ao n c b o ao' n' c' b' o' l l' w hl hl' hc hc' hbig hbig' wl wl' ha ha'
  have hs0 : 0 ≤ sgn (val l) (val l') := by unfold sgn; split <;> (try split) <;> omega
  have hle : nlen l' ≤ nlen l := by
    rcases Nat.lt_or_ge (nlen l) (nlen l') with h | h
    · have := val_lt_of_nlen_lt wl wl' h; omega
    · exact h
  generalize hsg : sgn (val l) (val l') = sg at *
  clear hsg
  go_enter Tryz.func90, Tryz.ntmps90
  go_wp2_with fail
  refine t1.mono ?_
  rintro e w1 ⟨rfl, hb1⟩
  have ha1 := ha.keep hb1
  have ha1' := ha'.keep hb1
  clear t1
  go_wp2_with fail
  refine (norm_any ao n c b o l w1 hl hc hbig ha1).mono ?_
  rintro e w2 ⟨rfl, hrow, hb2⟩
  have ha2' := ha1'.keep hb2
  have hs' := ha2'.sub (nlen l')
  have hne : norm l' = [] ∨ b' ≠ w1.heap.size := by
    rcases (ha1'.sub (nlen l')).lt with e | e
    · exact .inl e
    · exact .inr (by omega)
  rw [show l'.take (nlen l') = norm l' from rfl] at hs'
  have t2 := trim_any ao' n' c' l' w2 hl' hc' (by omega) ha2'.cells
  have hn := nlen_le l
  have hn' := nlen_le l'
  have hnl := norm_length l
  have hnl' := norm_length l'
  have hI := isN_norm wl
  have hI' := isN_norm wl'
  clear ha ha' ha1 ha1' ha2'
  generalize nlen l = N at *
  generalize nlen l' = N' at *
  generalize norm l = L at *
  generalize norm l' = L' at *
  go_wp2_with fail
  refine t2.mono ?_
  rintro e w3 ⟨rfl, rfl⟩
  clear t2
  go_wp2_with fail
  refine (takeTimes_any _ w1.heap.size 0 _ _ _ b' o' _ _ 1 L L' w3 hnl hnl' hle (by omega) (Nat.le_refl _) (Nat.le_refl _) (by decide) (by decide) hI.1 hI'.1 hrow.at (hrow.free _ _) hs' hne).mono ?_
  rintro e w4 ⟨owed, rfl, ho0, ho1, lz, hlz, hwz, hatz, hwr, hvz⟩
  have HF : IsN (norm lz) (_ - _) := sub_fin hI hI' hge hwz (by omega) ho0 (by rw [hvz, hnl])
  have hfz := hwr.free (hrow.free 0 N)
  have hz1 := nlen_le lz
  have hz2 := norm_length lz
  have hz3 := hatz.sub (nlen lz)
  have hsz1 := hb1.size
  have HB : Below w.heap.size w w4 := (hb1.trans (hb2.mono hsz1)).trans (hwr.below hsz1)
  rw [show lz.take (nlen lz) = norm lz from rfl] at hz3
  have t3 := trim_any (some ⟨w1.heap.size, 0, none⟩) N N lz w4 hlz (Nat.le_refl _) (by omega) hatz.cells
  clear hs' hrow hwr hatz hvz hb1 hb2
  generalize nlen lz = K at *
  generalize norm lz = R at *
  go_wp2_with fail
  refine t3.mono ?_
  rintro e w5 ⟨rfl, rfl⟩
  go_wp2
  go_ret2
  exact ⟨_, R, rfl, NewV.of hz2.symm (Nat.le_refl _) hsz1 hz3 (fun i hi => hfz i (by omega)), HF, by omega, HB⟩
end Go.Proofs.YtjihgkanbhccpaaGreatDoor
