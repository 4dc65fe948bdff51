/- A genesis as an argument. -/
import Derived.Test.YtpoifdokmjhclaaGreatJyn
import Derived.Test.YtpoifdokmjhclaaGreatJyb
import Derived.Deep.Slices
import Derived.ChangeSlices
import Derived.OpenShut
namespace Go.Proofs.YtpoifdokmjhclaaGreat
namespace Ga
open Go.RowKit Lim Go.ChangeShapes Go.WideShapes
theorem u64i {v : Int} (b : (Lit.int .u64 v).wf = true) : Mg.In8 v := by
  have := bounds_u64 b
  unfold Mg.In8
  omega
theorem list2 {α : Type} {l : List α} (h : l.length = 2) : ∃ a b, l = [a, b] := by
  match l, h with
  | [a, b], _ => exact ⟨a, b, rfl⟩
theorem list3 {α : Type} {l : List α} (h : l.length = 3) : ∃ a b c, l = [a, b, c] := by
  match l, h with
  | [a, b, c], _ => exact ⟨a, b, c, rfl⟩
theorem list12 {α : Type} {l : List α} (h : l.length = 12) : ∃ a b c d e f g i j k m n, l = [a, b, c, d, e, f, g, i, j, k, m, n] := by
  match l, h with
  | [a, b, c, d, e, f, g, i, j, k, m, n], _ => exact ⟨a, b, c, d, e, f, g, i, j, k, m, n, rfl⟩
theorem addr_add (b o j : Nat) : (⟨b, o, none⟩ : Addr).add j = ⟨b, o + j, none⟩ := by
  by_cases e : j = 0
  · subst e; rfl
  · simp [Addr.add, e]
theorem spot_n {w : World} {x : Addr} {v : Value} (hx : w.cell? x = some v) : x.spot = none := by
  simp only [World.cell?] at hx
  cases hh : w.heap[x.block]? with
  | none => rw [hh] at hx; simp at hx
  | some ob =>
    rw [hh] at hx
    cases ob with
    | cells c e f =>
      simp at hx
      cases hs : x.spot with
      | none => rfl
      | some s => rw [hs] at hx; simp at hx
    | _ => simp at hx
set_option maxRecDepth 100000 in
theorem pur_in {H : Type} {enc : TypeId × Value → H} {W : World} {base fuel : Nat} {spare : Nat → Bool} {held : Bool} {A : Addr} {cs : List Value} {x : DataW H × List MemPlace} (hc : W.cells? base A 2 = some cs) (h : DataW.trod enc Tryz.prog W base spare held fuel 43 cs = some x) : ∃ f : Nat → Int, A.spot = none ∧ ∀ q, q < 2 → W.cell? ⟨A.block, A.off + q, none⟩ = some (.int .u64 (f q)) ∧ Mg.In8 (f q) := by
  obtain ⟨_, hlen, hcell⟩ := World.cells?_some hc
  obtain ⟨xs, k, hk, rfl, _, hxl, hf⟩ := DataW.trod_struct Tryz.underlying43 h
  obtain ⟨y0, y1, rfl⟩ := list2 (show xs.length = 2 from hxl)
  obtain ⟨v0, v1, rfl⟩ := list2 hlen
  have g0 := hf 0 _ rfl
  have g1 := hf 1 _ rfl
  have q28 : Tryz.prog.cellsOf 22 = 1 := by kernel_rfl
  simp [q28] at g0 g1
  obtain ⟨n0, e0, _, w0⟩ := DataW.trod_int Tryz.underlying22 g0
  obtain ⟨n1, e1, _, w1⟩ := DataW.trod_int Tryz.underlying22 g1
  have c0 := hcell 0 (by decide)
  have c1 := hcell 1 (by decide)
  have hsp : A.spot = none := by
    rw [show A.add 0 = A from rfl] at c0
    exact spot_n c0
  obtain ⟨b, o, sp⟩ := A
  obtain rfl : sp = none := hsp
  rw [addr_add] at c0 c1
  simp at e0 e1
  subst e0 e1
  refine ⟨fun q => nth [n0, n1] q, rfl, fun q hq => ?_⟩
  rcases (show q = 0 ∨ q = 1 by omega) with rfl | rfl
  · exact ⟨c0, u64i w0⟩
  · exact ⟨c1, u64i w1⟩
set_option maxRecDepth 100000 in
theorem fou_in {H : Type} {enc : TypeId × Value → H} {W : World} {base fuel : Nat} {spare : Nat → Bool} {held : Bool} {A : Addr} {cs : List Value} {x : DataW H × List MemPlace} (hc : W.cells? base A 3 = some cs) (h : DataW.trod enc Tryz.prog W base spare held fuel 45 cs = some x) : ∃ f : Nat → Int, A.spot = none ∧ ∀ q, q < 3 → W.cell? ⟨A.block, A.off + q, none⟩ = some (.int .u64 (f q)) ∧ Mg.In8 (f q) := by
  obtain ⟨_, hlen, hcell⟩ := World.cells?_some hc
  obtain ⟨xs, k, hk, rfl, _, hxl, hf⟩ := DataW.trod_struct Tryz.underlying45 h
  obtain ⟨y0, y1, y2, rfl⟩ := list3 (show xs.length = 3 from hxl)
  obtain ⟨v0, v1, v2, rfl⟩ := list3 hlen
  have g0 := hf 0 _ rfl
  have g1 := hf 1 _ rfl
  have g2 := hf 2 _ rfl
  have q28 : Tryz.prog.cellsOf 22 = 1 := by kernel_rfl
  simp [q28] at g0 g1 g2
  obtain ⟨n0, e0, _, w0⟩ := DataW.trod_int Tryz.underlying22 g0
  obtain ⟨n1, e1, _, w1⟩ := DataW.trod_int Tryz.underlying22 g1
  obtain ⟨n2, e2, _, w2⟩ := DataW.trod_int Tryz.underlying22 g2
  have c0 := hcell 0 (by decide)
  have c1 := hcell 1 (by decide)
  have c2 := hcell 2 (by decide)
  have hsp : A.spot = none := by
    rw [show A.add 0 = A from rfl] at c0
    exact spot_n c0
  obtain ⟨b, o, sp⟩ := A
  obtain rfl : sp = none := hsp
  rw [addr_add] at c0 c1 c2
  simp at e0 e1 e2
  subst e0 e1 e2
  refine ⟨fun q => nth [n0, n1, n2] q, rfl, fun q hq => ?_⟩
  rcases (show q = 0 ∨ q = 1 ∨ q = 2 by omega) with rfl | rfl | rfl
  · exact ⟨c0, u64i w0⟩
  · exact ⟨c1, u64i w1⟩
  · exact ⟨c2, u64i w2⟩
theorem purs_in {H : Type} {enc : TypeId × Value → H} {W : World} {base fuel : Nat} {spare : Nat → Bool} {held : Bool} {a : Option Addr} {len cap : Nat} {x : DataW H × List MemPlace} (hs : ∀ b, spare b = true) (h : DataW.trod enc Tryz.prog W base spare held fuel 25 [.slice a len cap] = some x) : ∃ b o A, Gn.Nl W a len 2 b o A ∧ len ≤ 9223372036854775807 := by
  have q5 : Tryz.prog.cellsOf 43 = 2 := by kernel_rfl
  rcases Go.Deep.open_slice Tryz.underlying25 h with ⟨hcs, _⟩ | ⟨A, l, c, m, n, D, Pl, hcs, _, hl, hm, hmm, rfl, hx⟩
  · simp at hcs
    obtain ⟨rfl, rfl, rfl⟩ := hcs
    exact ⟨0, 0, [], ⟨rfl, fun h => absurd h (by decide), fun i h => absurd h (by omega), fun _ h => absurd h List.not_mem_nil⟩, by decide⟩
  · simp at hcs
    obtain ⟨rfl, rfl, rfl⟩ := hcs
    have hmc : m = cap := by rw [hmm, hs]; rfl
    have each0 : ∀ i, i < len → ∃ f : Nat → Int, (A.add (i * 2)).spot = none ∧ ∀ q, q < 2 → W.cell? ⟨(A.add (i * 2)).block, (A.add (i * 2)).off + q, none⟩ = some (.int .u64 (f q)) ∧ Mg.In8 (f q) := fun i hi => by
      obtain ⟨cs', h1, h2⟩ := hx i (by omega)
      rw [q5] at h1
      exact pur_in h1 h2
    have hsp : 0 < len → A.spot = none := fun h0 => by
      obtain ⟨s, k1, _⟩ := each0 0 h0
      rw [Nat.zero_mul] at k1
      exact k1
    have each : ∀ j, j < len * 2 → ∃ v, A = ⟨A.block, A.off, none⟩ ∧ W.cell? ⟨A.block, A.off + j, none⟩ = some (.int .u64 v) ∧ Mg.In8 v := fun j hj => by
      obtain ⟨f, k1, k2⟩ := each0 (j / 2) (by omega)
      have e := hsp (by omega)
      obtain ⟨b, o, sp⟩ := A
      obtain rfl : sp = none := e
      obtain ⟨k3, k4⟩ := k2 (j % 2) (by omega)
      rw [addr_add] at k3
      simp only at k3
      rw [show o + j / 2 * 2 + j % 2 = o + j by omega] at k3
      exact ⟨_, rfl, k3, k4⟩
    obtain ⟨f, hf⟩ := Go.Deep.choose_lt each
    refine ⟨A.block, A.off, (List.range (len * 2)).map f, ⟨by simp, fun h0 => congrArg some (hf 0 (by omega)).1, fun i hi => ?_, fun y hy => ?_⟩, by unfold maxLen at hm; omega⟩
    · rw [show nth ((List.range (len * 2)).map f) i = f i by simp [nth, List.getD_eq_getElem?_getD, List.getElem?_range hi]]
      exact (hf i hi).2.1
    · obtain ⟨j, hj, rfl⟩ := List.mem_map.1 hy
      exact (hf j (List.mem_range.1 hj)).2.2
theorem fous_in {H : Type} {enc : TypeId × Value → H} {W : World} {base fuel : Nat} {spare : Nat → Bool} {held : Bool} {a : Option Addr} {len cap : Nat} {x : DataW H × List MemPlace} (hs : ∀ b, spare b = true) (h : DataW.trod enc Tryz.prog W base spare held fuel 26 [.slice a len cap] = some x) : ∃ b o A, Gn.Nl W a len 3 b o A ∧ len ≤ 9223372036854775807 := by
  have q5 : Tryz.prog.cellsOf 45 = 3 := by kernel_rfl
  rcases Go.Deep.open_slice Tryz.underlying26 h with ⟨hcs, _⟩ | ⟨A, l, c, m, n, D, Pl, hcs, _, hl, hm, hmm, rfl, hx⟩
  · simp at hcs
    obtain ⟨rfl, rfl, rfl⟩ := hcs
    exact ⟨0, 0, [], ⟨rfl, fun h => absurd h (by decide), fun i h => absurd h (by omega), fun _ h => absurd h List.not_mem_nil⟩, by decide⟩
  · simp at hcs
    obtain ⟨rfl, rfl, rfl⟩ := hcs
    have hmc : m = cap := by rw [hmm, hs]; rfl
    have each0 : ∀ i, i < len → ∃ f : Nat → Int, (A.add (i * 3)).spot = none ∧ ∀ q, q < 3 → W.cell? ⟨(A.add (i * 3)).block, (A.add (i * 3)).off + q, none⟩ = some (.int .u64 (f q)) ∧ Mg.In8 (f q) := fun i hi => by
      obtain ⟨cs', h1, h2⟩ := hx i (by omega)
      rw [q5] at h1
      exact fou_in h1 h2
    have hsp : 0 < len → A.spot = none := fun h0 => by
      obtain ⟨s, k1, _⟩ := each0 0 h0
      rw [Nat.zero_mul] at k1
      exact k1
    have each : ∀ j, j < len * 3 → ∃ v, A = ⟨A.block, A.off, none⟩ ∧ W.cell? ⟨A.block, A.off + j, none⟩ = some (.int .u64 v) ∧ Mg.In8 v := fun j hj => by
      obtain ⟨f, k1, k2⟩ := each0 (j / 3) (by omega)
      have e := hsp (by omega)
      obtain ⟨b, o, sp⟩ := A
      obtain rfl : sp = none := e
      obtain ⟨k3, k4⟩ := k2 (j % 3) (by omega)
      rw [addr_add] at k3
      simp only at k3
      rw [show o + j / 3 * 3 + j % 3 = o + j by omega] at k3
      exact ⟨_, rfl, k3, k4⟩
    obtain ⟨f, hf⟩ := Go.Deep.choose_lt each
    refine ⟨A.block, A.off, (List.range (len * 3)).map f, ⟨by simp, fun h0 => congrArg some (hf 0 (by omega)).1, fun i hi => ?_, fun y hy => ?_⟩, by unfold maxLen at hm; omega⟩
    · rw [show nth ((List.range (len * 3)).map f) i = f i by simp [nth, List.getD_eq_getElem?_getD, List.getElem?_range hi]]
      exact (hf i hi).2.1
    · obtain ⟨j, hj, rfl⟩ := List.mem_map.1 hy
      exact (hf j (List.mem_range.1 hj)).2.2
theorem ten_list {α : Type} {l : List α} (h : l.length = 10) : ∃ a b c d e f g i j k, l = [a, b, c, d, e, f, g, i, j, k] := by
  match l, h with
  | [a, b, c, d, e, f, g, i, j, k], _ => exact ⟨a, b, c, d, e, f, g, i, j, k, rfl⟩
theorem par_in {H : Type} {enc : TypeId × Value → H} {W : World} {base fuel : Nat} {spare : Nat → Bool} {held : Bool} {cs : List Value} {x : DataW H × List MemPlace} (hlen : cs.length = 10) (h : DataW.trod enc Tryz.prog W base spare held fuel 24 cs = some x) : ∃ p0 p1 p2 p3 p4 p5 p6 p7 p8 p9, cs = [.int .u64 p0, .int .u64 p1, .int .u64 p2, .int .u64 p3, .int .u64 p4, .int .u64 p5, .int .u64 p6, .int .u64 p7, .int .u64 p8, .int .u64 p9] ∧ ∀ y ∈ ([p0, p1, p2, p3, p4, p5, p6, p7, p8, p9] : List Int), Mg.In8 y := by
  obtain ⟨xs, k, hk, rfl, _, hxl, hf⟩ := DataW.trod_struct Tryz.underlying24 h
  obtain ⟨y0, y1, y2, y3, y4, y5, y6, y7, y8, y9, rfl⟩ := ten_list (show xs.length = 10 from hxl)
  obtain ⟨v0, v1, v2, v3, v4, v5, v6, v7, v8, v9, rfl⟩ := ten_list hlen
  have g0 := hf 0 _ rfl
  have g1 := hf 1 _ rfl
  have g2 := hf 2 _ rfl
  have g3 := hf 3 _ rfl
  have g4 := hf 4 _ rfl
  have g5 := hf 5 _ rfl
  have g6 := hf 6 _ rfl
  have g7 := hf 7 _ rfl
  have g8 := hf 8 _ rfl
  have g9 := hf 9 _ rfl
  have q28 : Tryz.prog.cellsOf 22 = 1 := by kernel_rfl
  simp [q28] at g0 g1 g2 g3 g4 g5 g6 g7 g8 g9
  obtain ⟨n0, e0, _, w0⟩ := DataW.trod_int Tryz.underlying22 g0
  obtain ⟨n1, e1, _, w1⟩ := DataW.trod_int Tryz.underlying22 g1
  obtain ⟨n2, e2, _, w2⟩ := DataW.trod_int Tryz.underlying22 g2
  obtain ⟨n3, e3, _, w3⟩ := DataW.trod_int Tryz.underlying22 g3
  obtain ⟨n4, e4, _, w4⟩ := DataW.trod_int Tryz.underlying22 g4
  obtain ⟨n5, e5, _, w5⟩ := DataW.trod_int Tryz.underlying22 g5
  obtain ⟨n6, e6, _, w6⟩ := DataW.trod_int Tryz.underlying22 g6
  obtain ⟨n7, e7, _, w7⟩ := DataW.trod_int Tryz.underlying22 g7
  obtain ⟨n8, e8, _, w8⟩ := DataW.trod_int Tryz.underlying22 g8
  obtain ⟨n9, e9, _, w9⟩ := DataW.trod_int Tryz.underlying22 g9
  simp at e0 e1 e2 e3 e4 e5 e6 e7 e8 e9
  subst e0 e1 e2 e3 e4 e5 e6 e7 e8 e9
  refine ⟨n0, n1, n2, n3, n4, n5, n6, n7, n8, n9, rfl, ?_⟩
  simp only [List.forall_mem_cons]
  exact ⟨u64i w0, u64i w1, u64i w2, u64i w3, u64i w4, u64i w5, u64i w6, u64i w7, u64i w8, u64i w9, fun _ h => absurd h List.not_mem_nil⟩
/-- a genesis as an argument -/
theorem gen_in {H : Type} {enc : TypeId × Value → H} {W : World} {base fuel : Nat} {spare : Nat → Bool} {held : Bool} {cs : List Value} {x : DataW H × List MemPlace} (hs : ∀ b, spare b = true) (hlen : cs.length = 12) (hu1 : ∀ v y m, DataW.trod enc Tryz.prog W base spare held m 25 [v] = some y → ∃ a n c, v = .slice a n c) (hu2 : ∀ v y m, DataW.trod enc Tryz.prog W base spare held m 26 [v] = some y → ∃ a n c, v = .slice a n c) (h : DataW.trod enc Tryz.prog W base spare held fuel 28 cs = some x) : ∃ p0 p1 p2 p3 p4 p5 p6 p7 p8 p9 a1 na c1 a2 nv c2 b1 o1 b2 o2 A V, cs = [.int .u64 p0, .int .u64 p1, .int .u64 p2, .int .u64 p3, .int .u64 p4, .int .u64 p5, .int .u64 p6, .int .u64 p7, .int .u64 p8, .int .u64 p9, .slice a1 na c1, .slice a2 nv c2] ∧ (∀ y ∈ ([p0, p1, p2, p3, p4, p5, p6, p7, p8, p9] : List Int), Mg.In8 y) ∧ Gn.Nl W a1 na 2 b1 o1 A ∧ Gn.Nl W a2 nv 3 b2 o2 V ∧ na ≤ 9223372036854775807 ∧ nv ≤ 9223372036854775807 := by
  obtain ⟨xs, k, hk, rfl, _, hxl, hf⟩ := DataW.trod_struct Tryz.underlying28 h
  obtain ⟨y0, y1, y2, rfl⟩ := list3 (show xs.length = 3 from hxl)
  obtain ⟨v0, v1, v2, v3, v4, v5, v6, v7, v8, v9, v10, v11, rfl⟩ := list12 hlen
  have g0 := hf 0 _ rfl
  have g1 := hf 1 _ rfl
  have g2 := hf 2 _ rfl
  have q24 : Tryz.prog.cellsOf 24 = 10 := by kernel_rfl
  have q25 : Tryz.prog.cellsOf 25 = 1 := by kernel_rfl
  have q26 : Tryz.prog.cellsOf 26 = 1 := by kernel_rfl
  simp [q24, q25, q26] at g0 g1 g2
  obtain ⟨p0, p1, p2, p3, p4, p5, p6, p7, p8, p9, e, hp⟩ := par_in rfl g0
  cases e
  obtain ⟨a1, na, c1, rfl⟩ := hu1 _ _ _ g1
  obtain ⟨a2, nv, c2, rfl⟩ := hu2 _ _ _ g2
  obtain ⟨b1, o1, A, N1, k1⟩ := purs_in hs g1
  obtain ⟨b2, o2, V, N2, k2⟩ := fous_in hs g2
  exact ⟨p0, p1, p2, p3, p4, p5, p6, p7, p8, p9, a1, na, c1, a2, nv, c2, b1, o1, b2, o2, A, V, rfl, hp, N1, N2, k1, k2⟩
theorem slP_in {H : Type} {enc : TypeId × Value → H} {W : World} {base fuel : Nat} {spare : Nat → Bool} {held : Bool} {v : Value} {x : DataW H × List MemPlace} (h : DataW.trod enc Tryz.prog W base spare held fuel 25 [v] = some x) : ∃ a n c, v = .slice a n c := by
  rcases Go.Deep.open_slice Tryz.underlying25 h with ⟨hcs, _⟩ | ⟨A, l, c, m, n, D, Pl, hcs, _⟩
  · cases hcs; exact ⟨_, _, _, rfl⟩
  · cases hcs; exact ⟨_, _, _, rfl⟩
theorem slF_in {H : Type} {enc : TypeId × Value → H} {W : World} {base fuel : Nat} {spare : Nat → Bool} {held : Bool} {v : Value} {x : DataW H × List MemPlace} (h : DataW.trod enc Tryz.prog W base spare held fuel 26 [v] = some x) : ∃ a n c, v = .slice a n c := by
  rcases Go.Deep.open_slice Tryz.underlying26 h with ⟨hcs, _⟩ | ⟨A, l, c, m, n, D, Pl, hcs, _⟩
  · cases hcs; exact ⟨_, _, _, rfl⟩
  · cases hcs; exact ⟨_, _, _, rfl⟩
end Ga
end Go.Proofs.YtpoifdokmjhclaaGreat
