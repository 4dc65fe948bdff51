/- gleanlaw3.RatSum returns true for every list of fractions. -/
import Derived.Test.YtjihgkanbhccpaaGreatDoorJrc
import Derived.Test.YtjihgkanbhccpaaGreatDoorJrb
namespace Go.Proofs.YtjihgkanbhccpaaGreatDoor
namespace ratSum
open Go.RowKit Lim

set_option maxHeartbeats 8000000 in
set_option maxRecDepth 100000 in
theorem walk (a0 : Option Addr) (len0 cap0 : Nat) (w : World) (w0 : RatsIn w a0 len0 cap0) :
    Calls Tryz.prog 9 #[.slice a0 len0 cap0] w fun e w' => e = .returned (.bool true) ∧ Below w.heap.size w w' := by
  obtain ⟨p, q, l, hl, hlen, hcell, hRL⟩ := w0.open
  have hmx := w0.most
  have HL := (show Hid (_ ∧ _ ∧ _) from ⟨hlen, hcell, hRL⟩)
  have HC : Hid (RatsIn w a0 len0 cap0) := w0
  clear hlen hcell hRL w0
  go_enter Tryz.func9, Tryz.ntmps9
  go_wp2_with fail
  refine (knownQ w).mono ?_
  rintro e u1 ⟨rfl, HB⟩
  by_cases h12 : len0 ≤ 12
  · obtain ⟨hlen, hcell, hRL⟩ := HL.out
    have hcell1 : ∀ i, i < len0 → ∃ b o, a0 = some ⟨b, o, none⟩ ∧ u1.cell? ⟨b, o + i * 2, none⟩ = some (.slice (p i).1 (p i).2.1 (p i).2.2) ∧ u1.cell? ⟨b, o + i * 2 + 1, none⟩ = some (.slice (q i).1 (q i).2.1 (q i).2.2) := by
      intro i hi
      obtain ⟨b, o, e, h1, h2⟩ := hcell i hi
      exact ⟨b, o, e, by rw [HB.cell (p := ⟨b, o + i * 2, none⟩) (cell_lt h1)]; exact h1, by rw [HB.cell (p := ⟨b, o + i * 2 + 1, none⟩) (cell_lt h2)]; exact h2⟩
    have tS := smallQ_any p q a0 len0 cap0 u1 (by omega) hlen hcell1
    have HS : Hid (smallQ len0 (fun i => (p i).2.1) (fun i => (q i).2.1) = true → RatL w a0 l 12) := fun h => hRL 12 fun i hi => smallQ_out h hi
    generalize smallQ len0 (fun i => (p i).2.1) (fun i => (q i).2.1) = sm at *
    clear hlen hcell hRL hcell1 HL HC
    have h12' : (len0 : Int) ≤ 12 := by omega
    cases sm with
    | false =>
      go_wp2_with fail
      refine tS.mono ?_
      rintro e u2 ⟨rfl, rfl⟩
      go_wp2
      go_ret
      exact ⟨rfl, HB⟩
    | true =>
      have RL := HS.out rfl
      clear HS
      replace RL := RL.keep HB
      go_wp2_with fail
      refine tS.mono ?_
      rintro e u2 ⟨rfl, rfl⟩
      clear tS
      go_wp2_with fail
      refine (cSum hl h12 RL).mono ?_
      rintro e u3 ⟨Aa, Na, Ca, Ba, Ma, Da, rfl, Qa, hB⟩
      replace RL := RL.keep hB
      replace HB := joinB HB hB
      clear hB
      go_wp2_with fail
      refine (tSum hl h12 RL).mono ?_
      rintro e u4 ⟨Ab, Nb, Cb, Bb, Mb, Db, rfl, Qb, hB⟩
      replace Qa := Qa.keep hB
      replace HB := joinB HB hB
      clear hB RL
      go_wp2_with fail
      refine (cSame Qa (Qb.up (C := 3000) (by omega)) (by omega) true (decide_eq_true rfl)).mono ?_
      rintro e u5 ⟨rfl, hB⟩
      replace HB := joinB HB hB
      clear hB Qa Qb
      go_wp2
      go_ret
      exact ⟨rfl, HB⟩
  · have h12' : (12 : Int) < len0 := by omega
    clear HL HC
    go_wp2
    go_ret
    exact ⟨rfl, HB⟩
end ratSum
end Go.Proofs.YtjihgkanbhccpaaGreatDoor
