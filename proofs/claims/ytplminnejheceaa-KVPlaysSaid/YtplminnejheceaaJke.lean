/- Several texts, joined: KvArg. -/
import Derived.Test.YtplminnejheceaaJkd
import Derived.Deep.Slices
import Derived.ChangeSlices
import Derived.OpenShut
namespace Go.Proofs.Ytplminnejheceaa
namespace Kv
open Go.RowKit Go.ChangeShapes Go.WideShapes Pg

theorem mem_weightsAll {H : Type} {P : Program} {e : TypeId} {d : DataW H} {k : Nat} : ∀ {l : List (DataW H)}, d ∈ l → k ∈ d.weights P e → k ∈ DataW.weightsAll P e l
  | [], h, _ => by simp at h
  | x :: r, h, hk => by
    unfold DataW.weightsAll
    rcases List.mem_cons.1 h with h | h
    · subst h; exact List.mem_append_left _ hk
    · exact List.mem_append_right _ (mem_weightsAll h hk)
theorem spot_none {w : World} {x : Addr} {v : Value} (hx : w.cell? x = some v) : x.spot = none := by
  simp only [World.cell?] at hx
  cases hh : w.heap[x.block]? with
  | none => rw [hh] at hx; simp at hx
  | some ob =>
    rw [hh] at hx
    cases ob with
    | cells c e f =>
      simp at hx
      cases hs : x.spot with
      | none => rfl
      | some s => rw [hs] at hx; simp at hx
    | _ => simp at hx
theorem adr (b o n : Nat) : (⟨b, o, none⟩ : Addr).add n = ⟨b, o + n, none⟩ := by
  by_cases h : n = 0
  · subst h; rfl
  · simp [Addr.add, h]
theorem row_by {H : Type} {enc : TypeId × Value → H} {W : World} {base fuel : Nat} {spare : Nat → Bool} {held : Bool} {c : Value} {x : DataW H × List MemPlace} (h : DataW.trod enc Try.prog W base spare held fuel 32 [c] = some x) (hs : ∀ b, spare b = true) (hw : ∀ k ∈ x.1.weights Try.prog 32, k ≤ reachBytes) : ∃ a m l, c = .slice a l.length m ∧ By W c l ∧ l.length ≤ 140737488355328 := by
  rcases open_ints Try.underlying32 Try.underlying5 (by kernel_rfl) h with ⟨hc1, _⟩ | ⟨x, n, c1, zs, hc1, _, hl, hm, hz, rfl, hcell, hwz⟩
  · have e := List.cons.inj hc1 |>.1
    subst e
    exact ⟨none, 0, [], rfl, By.nil W, by decide⟩
  · have e := List.cons.inj hc1 |>.1
    subst e
    have hz' : zs.length = c1 := by simpa [hs] using hz
    have hln : (zs.take n).length = n := by simp; omega
    have e9 := hw ((n + (c1 - n)) * 1) (by
      simp only [DataW.weights, Try.underlying32]
      refine List.mem_cons.2 (.inl ?_)
      have e8 : Try.prog.bytesOf 5 = 1 := by kernel_rfl
      simp only [lits, List.length_map, List.length_take, List.length_drop, e8, hz']
      rw [Nat.min_eq_left hl])
    unfold reachBytes at e9
    refine ⟨some x, c1, zs.take n, by rw [hln], ⟨some x, c1, by rw [hln], by omega, by unfold maxLen at hm; omega, (fun e => by cases e), fun y hy => ?_, ?_⟩, by omega⟩
    · have := bounds_u8 (hwz y (List.mem_of_mem_take hy))
      omega
    · by_cases h0 : n = 0
      · exact .inl (List.eq_nil_of_length_eq_zero (by omega))
      · refine .inr ?_
        have hx := hcell 0 (by omega)
        have hsp : x.spot = none := spot_none (by rw [show x.add 0 = x from rfl] at hx; exact hx)
        obtain ⟨b, o, sp⟩ := x
        simp at hsp
        subst hsp
        rw [show (⟨b, o, none⟩ : Addr).add 0 = ⟨b, o, none⟩ from rfl] at hx
        refine ⟨b, o, rfl, cell_lt hx, fun i y hi => ?_⟩
        have hil : i < n := by
          have := (List.getElem?_eq_some_iff.1 hi).1
          omega
        have h6 := hcell i (by omega)
        rw [adr] at h6
        rw [List.getElem?_take, if_pos hil] at hi
        rw [h6, List.getD_eq_getElem?_getD, hi]
        rfl
theorem four {α : Type} {l : List α} (h : l.length = 4) : ∃ a b c d, l = [a, b, c, d] := by
  match l, h with
  | [a, b, c, d], _ => exact ⟨a, b, c, d, rfl⟩
set_option maxRecDepth 100000 in
theorem ste_in {H : Type} {enc : TypeId × Value → H} {W : World} {base fuel : Nat} {spare : Nat → Bool} {held : Bool} {A : Addr} {cs : List Value} {x : DataW H × List MemPlace} (hs : ∀ b, spare b = true)
    (hc : W.cells? base A 4 = some cs) (h : DataW.trod enc Try.prog W base spare held fuel 34 cs = some x) (hw : ∀ k ∈ x.1.weights Try.prog 34, k ≤ reachBytes) : ∃ s, A.spot = none ∧ SteC W A.block A.off s ∧ SteA W s := by
  obtain ⟨_, hlen, hcell⟩ := World.cells?_some hc
  obtain ⟨xs, k, hk, rfl, _, hxl, hf⟩ := DataW.trod_struct Try.underlying34 h
  obtain ⟨y1, y2, y3, y4, rfl⟩ := four (show xs.length = 4 from hxl)
  obtain ⟨v1, v2, v3, v4, rfl⟩ := four hlen
  have g1 := hf 0 _ rfl
  have g2 := hf 1 _ rfl
  have g3 := hf 2 _ rfl
  have g4 := hf 3 _ rfl
  have q3 : Try.prog.cellsOf 3 = 1 := by kernel_rfl
  have q22 : Try.prog.cellsOf 32 = 1 := by kernel_rfl
  simp [q3, q22] at g1 g2 g3 g4
  have hW : ∀ k, (k ∈ y3.1.weights Try.prog 32 ∨ k ∈ y4.1.weights Try.prog 32) → k ≤ reachBytes := fun k hk => hw k (by
    simp only [DataW.weights, Try.underlying34, List.map_cons, List.map_nil, DataW.weightsEach, List.mem_append]
    rcases hk with hk | hk
    · exact .inr (.inr (.inl hk))
    · exact .inr (.inr (.inr (.inl hk))))
  obtain ⟨n1, e1, _, w1⟩ := DataW.trod_int Try.underlying3 g1
  obtain ⟨n2, e2, _, w2⟩ := DataW.trod_int Try.underlying3 g2
  obtain ⟨ka, kc, kl, e3, hK, hk1⟩ := row_by g3 hs fun k hk => hW k (.inl hk)
  obtain ⟨va, vc, vl, e4, hV, hv1⟩ := row_by g4 hs fun k hk => hW k (.inr hk)
  have c1 := hcell 0 (by decide)
  have c2 := hcell 1 (by decide)
  have c3 := hcell 2 (by decide)
  have c4 := hcell 3 (by decide)
  have hsp : A.spot = none := by
    rw [show A.add 0 = A from rfl] at c1
    exact spot_none c1
  obtain ⟨b, o, sp⟩ := A
  obtain rfl : sp = none := hsp
  rw [adr] at c1 c2 c3 c4
  simp at e1 e2 c1 c2 c3 c4
  subst e1 e2 e3 e4
  exact ⟨⟨n1, n2, ka, kc, kl, va, vc, vl⟩, rfl, ⟨c1, c2, c3, c4⟩, ⟨(bounds_i64 w1).1, (bounds_i64 w1).2, (bounds_i64 w2).1, (bounds_i64 w2).2, hK, hk1, hV, hv1⟩⟩
theorem stes_in {H : Type} {enc : TypeId × Value → H} {W : World} {base fuel : Nat} {spare : Nat → Bool} {held : Bool} {a : Option Addr} {len cap : Nat} {x : DataW H × List MemPlace} (hs : ∀ b, spare b = true)
    (h : DataW.trod enc Try.prog W base spare held fuel 22 [.slice a len cap] = some x) (hw : ∀ k ∈ x.1.weights Try.prog 22, k ≤ reachBytes) : ∃ ss, StesA W a len ss := by
  have _i:Inhabited Ste:=⟨⟨0, 0, none, 0, [], none, 0, []⟩⟩
  have q5 : Try.prog.cellsOf 34 = 4 := by kernel_rfl
  rcases Go.Deep.open_slice Try.underlying22 h with ⟨hcs, _⟩ | ⟨A, l, c, m, n, D, Pl, hcs, _, hl, hm, hmm, rfl, hx⟩
  · simp at hcs
    obtain ⟨rfl, rfl, rfl⟩ := hcs
    exact ⟨[], rfl, by decide, fun i s hs => by simp at hs⟩
  · simp at hcs
    obtain ⟨rfl, rfl, rfl⟩ := hcs
    have hmc : m = cap := by rw [hmm, hs]; rfl
    have each0 : ∀ i, i < len → ∃ s, (A.add (i * 4)).spot = none ∧ SteC W (A.add (i * 4)).block (A.add (i * 4)).off s ∧ SteA W s := fun i hi => by
      obtain ⟨cs', h1, h2⟩ := hx i (by omega)
      rw [q5] at h1
      exact ste_in hs h1 h2 (fun k hk => hw k (by
        simp only [DataW.weights, Try.underlying22]
        exact List.mem_cons.2 (.inr (List.mem_append_left _ (mem_weightsAll (d := D i) (List.mem_map.2 ⟨i, List.mem_range.2 hi, rfl⟩) hk)))))
    have hsp : 0 < len → A.spot = none := fun h0 => by
      obtain ⟨s, k1, _⟩ := each0 0 h0
      exact k1
    have each : ∀ i, i < len → ∃ s, A = ⟨A.block, A.off, none⟩ ∧ SteC W A.block (A.off + i * 4) s ∧ SteA W s := fun i hi => by
      obtain ⟨s, k1, k2, k3⟩ := each0 i hi
      have e := hsp (by omega)
      obtain ⟨b, o, sp⟩ := A
      obtain rfl : sp = none := e
      rw [adr] at k2
      exact ⟨s, rfl, k2, k3⟩
    obtain ⟨f, hf⟩ := Go.Deep.choose_lt each
    refine ⟨(List.range len).map f, by simp, by unfold maxLen at hm; omega, fun i s hi => ?_⟩
    have hil : i < len := by
      rcases Nat.lt_or_ge i len with h | h
      · exact h
      · rw [List.getElem?_eq_none (by simpa using h)] at hi; cases hi
    obtain ⟨k1, k2, k3⟩ := hf i hil
    rw [List.getElem?_map, List.getElem?_range hil] at hi
    cases hi
    exact ⟨A.block, A.off, congrArg some k1, k2, k3⟩
end Kv
end Go.Proofs.Ytplminnejheceaa
