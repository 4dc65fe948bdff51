/- nat.Small tells a number that fits one limb. -/
import Derived.Test.YtplmeahabddklaaDoorNm
namespace Go.Proofs.YtplmeahabddklaaDoor
open Go.RowKit Lim

theorem fits_iff {l : List Int} (wl : Words l) : val l < 18446744073709551616 ↔ nlen l ≤ 1 := by
  constructor
  · intro h
    rcases Nat.lt_or_ge 1 (nlen l) with e | e
    · have h5 := val_ge_of_nlen wl (by omega)
      have h6 := pow_mono (show 1 ≤ nlen l - 1 by omega)
      have h7 : (18446744073709551616 : Int) ^ 1 = 18446744073709551616 := by decide
      omega
    · exact e
  · intro h
    have h1 := val_lt_nlen wl
    have h2 := pow_mono h
    have h7 : (18446744073709551616 : Int) ^ 1 = 18446744073709551616 := by decide
    omega

set_option maxHeartbeats 1000000 in
set_option maxRecDepth 100000 in
theorem small_fits {w : World} {ao : Option Addr} {n c : Nat} {x : Int} (h : NatA w ao n c x) (hn : n ≤ 1099511627776) :
    Calls Tryd.prog 17 #[.slice ao n c] w fun e w' => e = .returned (.tuple #[.int .u64 (if x < 18446744073709551616 then x else 0), .bool (decide (x < 18446744073709551616))]) ∧ Below w.heap.size w w' := by
  obtain ⟨b, o, l, h1, h2, h3, h4, rfl⟩ := h.ex
  have t := trim_any ao n c l w h1 h2 (by omega) h4.cells
  have hf := fits_iff h3
  have hle := nlen_le l
  by_cases hx : val l < 18446744073709551616
  · rw [if_pos hx, decide_eq_true hx]
    have hn1 := hf.1 hx
    clear hf hx
    rcases (show nlen l = 0 ∨ nlen l = 1 by omega) with e | e
    · have hv := (nlen_eq_zero_iff_val h3).1 e
      rw [hv]
      rw [e] at t
      clear hv e hn1
      go_enter Tryd.func17, Tryd.ntmps17
      go_wp2_with fail
      refine t.mono ?_
      rintro e w' ⟨rfl, rfl⟩
      go_wp2
      go_ret2
      exact ⟨rfl, Below.refl _ _⟩
    · have hv : val l = nth l 0 := by
        rw [← val_norm l]
        have hl1 : (norm l).length = 1 := (norm_length l).trans e
        match hm : norm l, hl1 with
        | [y], _ =>
          have := norm_nth l 0
          rw [hm, nth_zero] at this
          rw [← this]; simp [val]
      have hc := h4.cell 0 (by omega)
      obtain rfl : ao = some ⟨b, o, none⟩ := by
        rcases h4.loc with e' | e'
        · rw [e'] at e; simp [nlen] at e
        · exact e'
      rw [Nat.add_zero] at hc
      rw [hv]
      rw [e] at t
      clear hv e hn1 h4
      generalize nth l 0 = y at *
      go_enter Tryd.func17, Tryd.ntmps17
      go_wp2_with fail
      refine t.mono ?_
      rintro e w' ⟨rfl, rfl⟩
      go_wp2
      go_ret2
      exact ⟨rfl, Below.refl _ _⟩
  · rw [if_neg hx, decide_eq_false hx]
    have hn2 : 2 ≤ nlen l := by
      rcases Nat.lt_or_ge (nlen l) 2 with e | e
      · exact absurd (hf.2 (by omega)) hx
      · exact e
    obtain ⟨m, hm⟩ : ∃ m, nlen l = m + 2 := ⟨nlen l - 2, by omega⟩
    rw [hm] at t
    clear hf hx hn2 hm
    go_enter Tryd.func17, Tryd.ntmps17
    go_wp2_with fail
    refine t.mono ?_
    rintro e w' ⟨rfl, rfl⟩
    go_wp2
    all_goals go_ret2
    all_goals exact ⟨rfl, Below.refl _ _⟩
end Go.Proofs.YtplmeahabddklaaDoor
