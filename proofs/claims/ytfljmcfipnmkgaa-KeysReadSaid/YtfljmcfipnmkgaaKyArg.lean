/- Arguments of the laws of package keys: bytes. -/
import Derived.Test.YtfljmcfipnmkgaaKyHl
import Derived.Deep.Slices
import Derived.ChangeSlices
import Derived.OpenShut
namespace Go.Proofs.Ytfljmcfipnmkgaa
namespace Pg
open Go.RowKit Go.ChangeShapes Go.WideShapes

theorem spot_none {w : World} {x : Addr} {v : Value} (hx : w.cell? x = some v) : x.spot = none := by
  simp only [World.cell?] at hx
  cases hh : w.heap[x.block]? with
  | none => rw [hh] at hx; simp at hx
  | some ob =>
    rw [hh] at hx
    cases ob with
    | cells c e f =>
      simp at hx
      cases hs : x.spot with
      | none => rfl
      | some s => rw [hs] at hx; simp at hx
    | _ => simp at hx
theorem adr (b o n : Nat) : (⟨b, o, none⟩ : Addr).add n = ⟨b, o + n, none⟩ := by
  by_cases h : n = 0
  · subst h; rfl
  · simp [Addr.add, h]
theorem row_by {H : Type} {enc : TypeId × Value → H} {W : World} {base fuel : Nat} {spare : Nat → Bool} {held : Bool} {c : Value} {x : DataW H × List MemPlace} (h : DataW.trod enc Try.prog W base spare held fuel 26 [c] = some x) (hs : ∀ b, spare b = true) (hw : ∀ k ∈ x.1.weights Try.prog 26, k ≤ reachBytes) : ∃ a m l, c = .slice a l.length m ∧ By W c l ∧ l.length ≤ 140737488355328 := by
  rcases open_ints Try.underlying26 Try.underlying5 (by kernel_rfl) h with ⟨hc1, _⟩ | ⟨x, n, c1, zs, hc1, _, hl, hm, hz, rfl, hcell, hwz⟩
  · have e := List.cons.inj hc1 |>.1
    subst e
    exact ⟨none, 0, [], rfl, By.nil W, by decide⟩
  · have e := List.cons.inj hc1 |>.1
    subst e
    have hz' : zs.length = c1 := by simpa [hs] using hz
    have hln : (zs.take n).length = n := by simp; omega
    have e9 := hw ((n + (c1 - n)) * 1) (by
      simp only [DataW.weights, Try.underlying26]
      refine List.mem_cons.2 (.inl ?_)
      have e8 : Try.prog.bytesOf 5 = 1 := by kernel_rfl
      simp only [lits, List.length_map, List.length_take, List.length_drop, e8, hz']
      rw [Nat.min_eq_left hl])
    unfold reachBytes at e9
    refine ⟨some x, c1, zs.take n, by rw [hln], ⟨some x, c1, by rw [hln], by omega, by unfold maxLen at hm; omega, (fun e => by cases e), fun y hy => ?_, ?_⟩, by omega⟩
    · have := bounds_u8 (hwz y (List.mem_of_mem_take hy))
      omega
    · by_cases h0 : n = 0
      · exact .inl (List.eq_nil_of_length_eq_zero (by omega))
      · refine .inr ?_
        have hx := hcell 0 (by omega)
        have hsp : x.spot = none := spot_none (by rw [show x.add 0 = x from rfl] at hx; exact hx)
        obtain ⟨b, o, sp⟩ := x
        simp at hsp
        subst hsp
        rw [show (⟨b, o, none⟩ : Addr).add 0 = ⟨b, o, none⟩ from rfl] at hx
        refine ⟨b, o, rfl, cell_lt hx, fun i y hi => ?_⟩
        have hil : i < n := by
          have := (List.getElem?_eq_some_iff.1 hi).1
          omega
        have h6 := hcell i (by omega)
        rw [adr] at h6
        rw [List.getElem?_take, if_pos hil] at hi
        rw [h6, List.getD_eq_getElem?_getD, hi]
        rfl
end Pg
end Go.Proofs.Ytfljmcfipnmkgaa
