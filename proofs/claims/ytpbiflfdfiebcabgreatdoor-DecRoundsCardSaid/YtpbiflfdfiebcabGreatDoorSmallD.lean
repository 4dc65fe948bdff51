/- gleanlaw2.small: whether all have 40 limbs at most. -/
import Derived.Test.YtpbiflfdfiebcabGreatDoorSmall
namespace Go.Proofs.YtpbiflfdfiebcabGreatDoor
open Go.RowKit Lim

def smallD (vs : List (Option Addr × Nat × Nat)) : Bool := vs.all fun v => decide (v.2.1 ≤ 40)

set_option maxHeartbeats 1000000 in
set_option maxRecDepth 100000 in
theorem smallD_any (vs : List (Option Addr × Nat × Nat)) (g n c : Nat) (w : World) (hn : vs.length = n) (hbig : n ≤ 1000) (hlen : ∀ i, (theNth vs i).2.1 ≤ 9223372036854775807)
    (hcell : ∀ i, i < n → w.cell? ⟨g, i, none⟩ = some (.slice (theNth vs i).1 (theNth vs i).2.1 (theNth vs i).2.2)) :
    Calls Tryz.prog 15 #[.slice (some ⟨g, 0, none⟩) n c] w fun e w' => e = .returned (.bool (smallD vs)) ∧ w' = w := by
  have HF : Hid (∀ i, i < n → 40 < (theNth vs i).2.1 → smallD vs = false) := by
    intro i hi h40
    unfold smallD
    rw [Bool.eq_false_iff]
    intro hall
    rw [List.all_eq_true] at hall
    have e : theNth vs i = vs[i]'(by omega) := by simp [theNth, List.getElem?_eq_getElem (show i < vs.length by omega)]
    have := hall (theNth vs i) (by rw [e]; exact List.getElem_mem _)
    simp at this; omega
  have HT : Hid ((∀ i, i < n → (theNth vs i).2.1 ≤ 40) → smallD vs = true) := by
    intro h
    unfold smallD
    rw [List.all_eq_true]
    intro v hv
    obtain ⟨i, hi, rfl⟩ := List.getElem_of_mem hv
    have := h i (by omega)
    have e : theNth vs i = vs[i] := by simp [theNth, List.getElem?_eq_getElem hi]
    rw [e] at this
    simpa using this
  go_enter Tryz.func15, Tryz.ntmps15
  go_wp2
  go_loop [3] (fun ti => ∃ k : Nat, k ≤ n ∧ ti = .int .i64 k ∧ Hid (∀ i, i < k → (theNth vs i).2.1 ≤ 40)) (fun ti => n - (intOf ti).toNat)
  case atStart => exact ⟨0, Nat.zero_le _, rfl, fun i hi => by omega⟩
  case round =>
    obtain ⟨k, hk, rfl, hz⟩ := hrel
    by_cases hlt : k < n
    · have q1 := hcell k hlt
      have hl1 := hlen k
      have hk0 : (k : Int) < n := by omega
      have HF1 : Hid (40 < (theNth vs k).2.1 → smallD vs = false) := HF.out k hlt
      have HZ1 : Hid ((theNth vs k).2.1 ≤ 40 → ∀ i, i < k + 1 → (theNth vs i).2.1 ≤ 40) := by
        intro h i hi
        by_cases e : i = k
        · subst e; exact h
        · exact hz.out i (by omega)
      clear hcell hlen
      generalize (theNth vs k).1 = a at *
      generalize (theNth vs k).2.2 = c' at *
      generalize (theNth vs k).2.1 = m at *
      by_cases h40 : 40 < m
      · go_wp2
        go_ret
        exact ⟨retB (HF1.out h40).symm, rfl⟩
      · have h41 := HZ1.out (by omega)
        have H41 := (show Hid _ from h41)
        clear h41
        go_wp2
        go_round
        case rel => exact ⟨k + 1, by omega, by go_num, H41⟩
        case measure => simp [intOf]; omega
    · go_wp2
      go_ret
      exact ⟨retB (HT.out fun i hi => hz.out i (by omega)).symm, rfl⟩

end Go.Proofs.YtpbiflfdfiebcabGreatDoor
