/- Package rat: tested for 0, made of a decimal, rounded down. -/
import Derived.Test.YtjihgkanbhccpaaGreatDoorRat2
namespace Go.Proofs.YtjihgkanbhccpaaGreatDoor
open Go.RowKit Lim

set_option maxHeartbeats 1000000 in
set_option maxRecDepth 100000 in
theorem qZero {w : World} {ao ao' : Option Addr} {n c n' c' : Nat} {x y : Int} (h : NatA w ao n c x) (h' : NatA w ao' n' c' y) (hn : n ≤ 1099511627776) (hn' : n' ≤ 1099511627776) :
    Calls Tryz.prog 24 #[.agg #[.slice ao n c, .slice ao' n' c']] w fun e w' => e = .returned (.bool (decide (x = 0 ∨ y = 0))) ∧ Below w.heap.size w w' := by
  have B0 := below_alloc w (.cells #[.slice ao n c, .slice ao' n' c'] 30)
  have SP := box_new w [.slice ao n c, .slice ao' n' c'] 30
  replace h := h.keep B0
  replace h' := h'.keep B0
  obtain ⟨p1, p2, p3, p4⟩ := SP.cells2
  have t := nBits h hn
  have hm := bitLen_zero x h.nonneg
  by_cases hx : x = 0
  · have hm := hm.2 hx
    rw [hm] at t
    rw [decide_eq_true (Or.inl hx)]
    clear hm hx h
    go_enter Tryz.func24, Tryz.ntmps24
    go_wp2_with fail
    refine t.mono ?_
    rintro e w1 ⟨rfl, hB⟩
    go_wp2
    go_ret
    exact ⟨rfl, joinB B0 hB⟩
  · have hm1 : bitLen x.toNat ≠ 0 := fun e => hx (hm.1 e)
    clear hm
    generalize bitLen x.toNat = m at *
    obtain ⟨j, rfl⟩ : ∃ j, m = j + 1 := ⟨m - 1, by omega⟩
    clear hm1
    have hz := bitLen_zero y h'.nonneg
    by_cases hy : y = 0
    · have hz := hz.2 hy
      rw [decide_eq_true (Or.inr hy)]
      clear hx hy h
      go_enter Tryz.func24, Tryz.ntmps24
      go_wp2_with fail
      refine t.mono ?_
      rintro e w1 ⟨rfl, hB⟩
      have t' := nBits (h'.keep hB) hn'
      rw [hz] at t'
      replace SP := SP.keep hB
      replace B0 := joinB B0 hB
      obtain ⟨p1, p2, p3, p4⟩ := SP.cells2
      clear hB t hz h'
      go_wp2_with fail
      refine t'.mono ?_
      rintro e w2 ⟨rfl, hB⟩
      clear t'
      go_wp2
      go_ret
      exact ⟨rfl, joinB B0 hB⟩
    · have hz1 : bitLen y.toNat ≠ 0 := fun e => hy (hz.1 e)
      rw [decide_eq_false (fun h => h.elim hx hy)]
      clear hx hy h hz
      generalize hq : bitLen y.toNat = q at *
      obtain ⟨i, rfl⟩ : ∃ i, q = i + 1 := ⟨q - 1, by omega⟩
      clear hz1
      go_enter Tryz.func24, Tryz.ntmps24
      go_wp2_with fail
      refine t.mono ?_
      rintro e w1 ⟨rfl, hB⟩
      have t' := nBits (h'.keep hB) hn'
      rw [hq] at t'
      replace SP := SP.keep hB
      replace B0 := joinB B0 hB
      obtain ⟨p1, p2, p3, p4⟩ := SP.cells2
      clear hB t hq h'
      go_wp2_with fail
      refine t'.mono ?_
      rintro e w2 ⟨rfl, hB⟩
      clear t'
      go_wp2
      go_ret
      refine ⟨?_, joinB B0 hB⟩
      congr 2
end Go.Proofs.YtjihgkanbhccpaaGreatDoor
