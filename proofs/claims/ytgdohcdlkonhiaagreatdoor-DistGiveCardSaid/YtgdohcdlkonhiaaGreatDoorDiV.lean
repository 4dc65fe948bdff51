/- A Validator, a Dec as arguments. -/
import Derived.Test.YtgdohcdlkonhiaaGreatDoorLDistGive
import Derived.ChangeArms
import Derived.SizedLaws
import Derived.WalkKit
import Derived.ProofKit
import Derived.OpenShut
namespace Go.Proofs.YtgdohcdlkonhiaaGreatDoor
namespace Fo
open Go.RowKit Go.Lib Pg Lim Go.ChangeShapes Go.WideShapes
set_option maxRecDepth 100000
set_option linter.unusedVariables false
section
variable {H : Type} {enc : TypeId × Value → H} {W : World} {base fuel : Nat} {spare : Nat → Bool} {held : Bool} {cs : List Value} {x : DataW H × List MemPlace}
theorem open_field {t T : TypeId} {fs : Array Field} {f : Field} (i o n : Nat) (ht : Tryz.prog.underlying t = some (.struct fs)) (hf : fs[i]? = some f) (hT : f.type = T) (ho : f.offset = o) (hn : Tryz.prog.cellsOf T = n) (h : DataW.trod enc Tryz.prog W base spare held fuel t cs = some x) (hw : ∀ k ∈ x.1.weights Tryz.prog t, k ≤ reachBytes) :
    ∃ y m, DataW.trod enc Tryz.prog W base spare held m T ((cs.drop o).take n) = some y ∧ ∀ k ∈ y.1.weights Tryz.prog T, k ≤ reachBytes := by
  obtain ⟨xs, m, _, rfl, _, hxl, hx⟩ := DataW.trod_struct ht h
  have h1 := hx i f hf
  have hlt : i < xs.length := by
    have := (Array.getElem?_eq_some_iff.1 hf).1
    omega
  have h2 : xs[i]? = some xs[i] := List.getElem?_eq_getElem hlt
  rw [h2, hT, ho, hn] at h1
  refine ⟨xs[i], m, h1, fun k hk => hw k ?_⟩
  simp only [DataW.weights, ht]
  refine DataW.weights_mem_each (j := i) (t := T) (d := xs[i].1) ?_ ?_ k hk
  · rw [List.getElem?_map, Array.getElem?_toList, hf, ← hT]; rfl
  · rw [List.getElem?_map, h2]; rfl
theorem u64b {v : Int} (b : (Lit.int .u64 v).wf = true) : 0 ≤ v ∧ v < 18446744073709551616 := by
  have := bounds_u64 b
  omega
theorem get1 {o : Nat} {v : Value} (h : (cs.drop o).take 1 = [v]) : cs[o]? = some v := by
  have := congrArg (·[0]?) h
  simpa [List.getElem?_take, List.getElem?_drop] using this
end
theorem row_nat {H : Type} {enc : TypeId × Value → H} {W : World} {base fuel : Nat} {spare : Nat → Bool} {held : Bool} {c : Value} {x : DataW H × List MemPlace} (h : DataW.trod enc Tryz.prog W base spare held fuel 24 [c] = some x) (hs : ∀ b, spare b = true) (hw : ∀ k ∈ x.1.weights Tryz.prog 24, k ≤ reachBytes) : ∃ a n m V, c = .slice a n m ∧ NatA W a n m V ∧ n ≤ 17592186044416 := by
  rcases open_ints Tryz.underlying24 Tryz.underlying22 (by kernel_rfl) h with ⟨hc1, _⟩ | ⟨x, l, c1, zs, hc1, _, hl, hm, hz, rfl, hcell, hwz⟩
  · exact ⟨none, 0, 0, 0, List.cons.inj hc1 |>.1, (natO_nil W).a, by decide⟩
  · have hrow : IsRow W (some x) l c1 zs := .inr ⟨_, rfl, hl, hm, by simpa [hs] using hz, hcell, hwz⟩
    obtain ⟨b, o, ls, h1, h2, _, h4, h5⟩ := hrow.open
    refine ⟨some x, l, c1, _, List.cons.inj hc1 |>.1, ⟨b, o, ls, h1, h2, h4, h5, rfl⟩, ?_⟩
    have e := hw ((l + (c1 - l)) * 8) (by
      simp only [DataW.weights, Tryz.underlying24]
      refine List.mem_cons.2 (.inl ?_)
      have e8 : Tryz.prog.bytesOf 22 = 8 := by kernel_rfl
      have hz' : zs.length = c1 := by simpa [hs] using hz
      simp only [lits, List.length_map, List.length_take, List.length_drop, e8, hz']
      rw [Nat.min_eq_left hl])
    unfold reachBytes at e
    omega
section
variable {H : Type} {enc : TypeId × Value → H} {W : World} {base fuel : Nat} {spare : Nat → Bool} {held : Bool} {cs : List Value} {x : DataW H × List MemPlace}
theorem trod_b (h : DataW.trod enc Tryz.prog W base spare held fuel 4 cs = some x) : ∃ b, cs = [.bool b] ∧ True := by
  obtain ⟨b, e, _⟩ := DataW.trod_bool Tryz.underlying4 h
  exact ⟨b, e, trivial⟩
theorem dec_in (h : DataW.trod enc Tryz.prog W base spare held fuel 26 cs = some x) (hs : ∀ b, spare b = true) (hw : ∀ k ∈ x.1.weights Tryz.prog 26, k ≤ reachBytes) : ∃ a n c V, cs = [.slice a n c] ∧ NatA W a n c V ∧ n ≤ 17592186044416 := by
  have cN : Tryz.prog.cellsOf 24 = 1 := by kernel_rfl
  obtain ⟨y, m, g, gw⟩ := open_field 0 0 1 Tryz.underlying26 rfl rfl rfl cN h hw
  obtain ⟨xs, k, hk, rfl, hl, hxl, hf⟩ := DataW.trod_struct Tryz.underlying26 h
  have hlen : cs.length = 1 := hl.trans (by kernel_rfl)
  obtain ⟨c, rfl⟩ : ∃ c, cs = [c] := by
    match cs, hlen with
    | [c], _ => exact ⟨c, rfl⟩
  obtain ⟨a, n, d, V, e, N, l⟩ := row_nat (c := c) g hs gw
  exact ⟨a, n, d, V, by rw [e], N, l⟩
set_option maxRecDepth 100000 in
set_option maxHeartbeats 4000000 in
theorem val_in (hs : ∀ b, spare b = true) (hlen : cs.length = 10) (h : DataW.trod enc Tryz.prog W base spare held fuel 28 cs = some x) (hw : ∀ k ∈ x.1.weights Tryz.prog 28, k ≤ reachBytes) : ∃ rt tk un pe x0 x1 x2 x3 jl bo a0 n0 c0 a1 n1 c1 a2 n2 c2 a3 n3 c3, cs = [.int .u64 rt, .int .u64 tk, .slice a0 n0 c0, .bool jl, .int .u64 un, .bool bo, .int .u64 pe, .slice a1 n1 c1, .slice a2 n2 c2, .slice a3 n3 c3] ∧ (0 ≤ rt ∧ rt < 18446744073709551616) ∧ (NatA W a0 n0 c0 x0 ∧ n0 ≤ 17592186044416) ∧ (NatA W a1 n1 c1 x1 ∧ n1 ≤ 17592186044416) ∧ (NatA W a2 n2 c2 x2 ∧ n2 ≤ 17592186044416) ∧ (NatA W a3 n3 c3 x3 ∧ n3 ≤ 17592186044416) := by
  have cU : Tryz.prog.cellsOf 22 = 1 := by kernel_rfl
  have cD : Tryz.prog.cellsOf 26 = 1 := by kernel_rfl
  have cB : Tryz.prog.cellsOf 4 = 1 := by kernel_rfl
  obtain ⟨y1, m1, g1, -⟩ := open_field 0 0 1 Tryz.underlying28 rfl rfl rfl cU h hw
  obtain ⟨rt, e, _, b0⟩ := DataW.trod_int Tryz.underlying22 g1
  have q0 := get1 e
  clear g1 e
  obtain ⟨y1, m1, g1, -⟩ := open_field 1 1 1 Tryz.underlying28 rfl rfl rfl cU h hw
  obtain ⟨tk, e, _, b1⟩ := DataW.trod_int Tryz.underlying22 g1
  have q1 := get1 e
  clear g1 e
  obtain ⟨y1, m1, g1, w1⟩ := open_field 2 2 1 Tryz.underlying28 rfl rfl rfl cD h hw
  obtain ⟨a0, n0, c0, x0, e, N0, l0⟩ := dec_in g1 hs w1
  have q2 := get1 e
  clear g1 w1 e
  obtain ⟨y1, m1, g1, -⟩ := open_field 3 3 1 Tryz.underlying28 rfl rfl rfl cB h hw
  obtain ⟨jl, e, -⟩ := trod_b g1
  have q3 := get1 e
  clear g1 e
  obtain ⟨y1, m1, g1, -⟩ := open_field 4 4 1 Tryz.underlying28 rfl rfl rfl cU h hw
  obtain ⟨un, e, _, b4⟩ := DataW.trod_int Tryz.underlying22 g1
  have q4 := get1 e
  clear g1 e
  obtain ⟨y1, m1, g1, -⟩ := open_field 5 5 1 Tryz.underlying28 rfl rfl rfl cB h hw
  obtain ⟨bo, e, -⟩ := trod_b g1
  have q5 := get1 e
  clear g1 e
  obtain ⟨y1, m1, g1, -⟩ := open_field 6 6 1 Tryz.underlying28 rfl rfl rfl cU h hw
  obtain ⟨pe, e, _, b6⟩ := DataW.trod_int Tryz.underlying22 g1
  have q6 := get1 e
  clear g1 e
  obtain ⟨y1, m1, g1, w1⟩ := open_field 7 7 1 Tryz.underlying28 rfl rfl rfl cD h hw
  obtain ⟨a1, n1, c1, x1, e, N1, l1⟩ := dec_in g1 hs w1
  have q7 := get1 e
  clear g1 w1 e
  obtain ⟨y1, m1, g1, w1⟩ := open_field 8 8 1 Tryz.underlying28 rfl rfl rfl cD h hw
  obtain ⟨a2, n2, c2, x2, e, N2, l2⟩ := dec_in g1 hs w1
  have q8 := get1 e
  clear g1 w1 e
  obtain ⟨y1, m1, g1, w1⟩ := open_field 9 9 1 Tryz.underlying28 rfl rfl rfl cD h hw
  obtain ⟨a3, n3, c3, x3, e, N3, l3⟩ := dec_in g1 hs w1
  have q9 := get1 e
  clear g1 w1 e
  refine ⟨rt, tk, un, pe, x0, x1, x2, x3, jl, bo, a0, n0, c0, a1, n1, c1, a2, n2, c2, a3, n3, c3, ?_, u64b b0, ⟨N0, l0⟩, ⟨N1, l1⟩, ⟨N2, l2⟩, ⟨N3, l3⟩⟩
  match cs, hlen with
  | [v0, v1, v2, v3, v4, v5, v6, v7, v8, v9], _ =>
    simp at q0 q1 q2 q3 q4 q5 q6 q7 q8 q9
    rw [q0, q1, q2, q3, q4, q5, q6, q7, q8, q9]
end
end Fo
end Go.Proofs.YtgdohcdlkonhiaaGreatDoor
