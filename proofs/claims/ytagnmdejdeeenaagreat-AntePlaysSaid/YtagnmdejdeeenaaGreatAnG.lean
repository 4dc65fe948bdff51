/- Purses and transactions as arguments. -/
import Derived.Test.YtagnmdejdeeenaaGreatJao
import Derived.Test.YtagnmdejdeeenaaGreatJaj
import Derived.Deep.Slices
import Derived.ChangeSlices
import Derived.OpenShut
namespace Go.Proofs.YtagnmdejdeeenaaGreat
namespace Bk
open Go.RowKit Lim Go.ChangeShapes Go.WideShapes
theorem spot_n {w : World} {x : Addr} {v : Value} (hx : w.cell? x = some v) : x.spot = none := by
  simp only [World.cell?] at hx
  cases hh : w.heap[x.block]? with
  | none => rw [hh] at hx; simp at hx
  | some ob =>
    rw [hh] at hx
    cases ob with
    | cells c e f =>
      simp at hx
      cases hs : x.spot with
      | none => rfl
      | some s => rw [hs] at hx; simp at hx
    | _ => simp at hx
theorem u64w {v : Int} (b : (Lit.int .u64 v).wf = true) : U64 v := by
  have := bounds_u64 b
  unfold U64
  omega
theorem two_list {α : Type} {l : List α} (h : l.length = 2) : ∃ a b, l = [a, b] := by
  match l, h with
  | [a, b], _ => exact ⟨a, b, rfl⟩
theorem four_list {α : Type} {l : List α} (h : l.length = 4) : ∃ a b c d, l = [a, b, c, d] := by
  match l, h with
  | [a, b, c, d], _ => exact ⟨a, b, c, d, rfl⟩
theorem seven_list {α : Type} {l : List α} (h : l.length = 7) : ∃ a b c d e f g, l = [a, b, c, d, e, f, g] := by
  match l, h with
  | [a, b, c, d, e, f, g], _ => exact ⟨a, b, c, d, e, f, g, rfl⟩
structure Pur (W : World) (b o : Nat) (s : Int × Int) : Prop where
  cell : W.cell? ⟨b, o, none⟩ = some (.int .u64 s.1) ∧ W.cell? ⟨b, o + 1, none⟩ = some (.int .u64 s.2)
  rng : U64 s.1 ∧ U64 s.2
structure Txq (W : World) (b o : Nat) (s : Int × Int × Int × Int × Int × Int × Int) : Prop where
  cell : W.cell? ⟨b, o, none⟩ = some (.int .u64 s.1) ∧ W.cell? ⟨b, o + 1, none⟩ = some (.int .u64 s.2.1) ∧ W.cell? ⟨b, o + 2, none⟩ = some (.int .u64 s.2.2.1) ∧ W.cell? ⟨b, o + 3, none⟩ = some (.int .i64 s.2.2.2.1) ∧ W.cell? ⟨b, o + 4, none⟩ = some (.int .u64 s.2.2.2.2.1) ∧ W.cell? ⟨b, o + 5, none⟩ = some (.int .u64 s.2.2.2.2.2.1) ∧ W.cell? ⟨b, o + 6, none⟩ = some (.int .u64 s.2.2.2.2.2.2)
  rng : U64 s.1 ∧ U64 s.2.1 ∧ U64 s.2.2.1
set_option maxRecDepth 100000 in
theorem pur_in {H : Type} {enc : TypeId × Value → H} {W : World} {base fuel : Nat} {spare : Nat → Bool} {held : Bool} {A : Addr} {cs : List Value} {x : DataW H × List MemPlace}
    (hc : W.cells? base A 2 = some cs) (h : DataW.trod enc Tryz.prog W base spare held fuel 40 cs = some x) : ∃ s, A.spot = none ∧ Pur W A.block A.off s := by
  obtain ⟨_, hlen, hcell⟩ := World.cells?_some hc
  obtain ⟨xs, k, hk, rfl, _, hxl, hf⟩ := DataW.trod_struct Tryz.underlying40 h
  obtain ⟨y0, y1, rfl⟩ := two_list (show xs.length = 2 from hxl)
  obtain ⟨v0, v1, rfl⟩ := two_list hlen
  have g0 := hf 0 _ rfl
  have g1 := hf 1 _ rfl
  have q28 : Tryz.prog.cellsOf 22 = 1 := by kernel_rfl
  simp [q28] at g0 g1
  obtain ⟨n0, e0, _, w0⟩ := DataW.trod_int Tryz.underlying22 g0
  obtain ⟨n1, e1, _, w1⟩ := DataW.trod_int Tryz.underlying22 g1
  have c0 := hcell 0 (by decide)
  have c1 := hcell 1 (by decide)
  have hsp : A.spot = none := by
    rw [show A.add 0 = A from rfl] at c0
    exact spot_n c0
  obtain ⟨b, o, sp⟩ := A
  obtain rfl : sp = none := hsp
  rw [addr_add] at c0 c1
  simp at e0 e1 c0 c1
  subst e0 e1
  exact ⟨(n0, n1), rfl, ⟨c0, c1⟩, u64w w0, u64w w1⟩
set_option maxRecDepth 100000 in
theorem tx_in {H : Type} {enc : TypeId × Value → H} {W : World} {base fuel : Nat} {spare : Nat → Bool} {held : Bool} {A : Addr} {cs : List Value} {x : DataW H × List MemPlace}
    (hc : W.cells? base A 7 = some cs) (h : DataW.trod enc Tryz.prog W base spare held fuel 46 cs = some x) : ∃ s, A.spot = none ∧ Txq W A.block A.off s := by
  obtain ⟨_, hlen, hcell⟩ := World.cells?_some hc
  obtain ⟨xs, k, hk, rfl, _, hxl, hf⟩ := DataW.trod_struct Tryz.underlying46 h
  obtain ⟨y0, y1, y2, y3, rfl⟩ := four_list (show xs.length = 4 from hxl)
  obtain ⟨v0, v1, v2, v3, v4, v5, v6, rfl⟩ := seven_list hlen
  have g0 := hf 0 _ rfl
  have g1 := hf 1 _ rfl
  have g2 := hf 2 _ rfl
  have g3 := hf 3 _ rfl
  have q3 : Tryz.prog.cellsOf 3 = 1 := by kernel_rfl
  have q28 : Tryz.prog.cellsOf 22 = 1 := by kernel_rfl
  have qM : Tryz.prog.cellsOf 44 = 4 := by kernel_rfl
  simp [q28, qM] at g0 g1 g2 g3
  obtain ⟨n0, e0, _, w0⟩ := DataW.trod_int Tryz.underlying22 g0
  obtain ⟨n1, e1, _, w1⟩ := DataW.trod_int Tryz.underlying22 g1
  obtain ⟨n2, e2, _, w2⟩ := DataW.trod_int Tryz.underlying22 g2
  obtain ⟨zs, k', hk', _, _, hzl, hz⟩ := DataW.trod_struct Tryz.underlying44 g3
  obtain ⟨z0, z1, z2, z3, rfl⟩ := four_list (show zs.length = 4 from hzl)
  have f0 := hz 0 _ rfl
  have f1 := hz 1 _ rfl
  have f2 := hz 2 _ rfl
  have f3 := hz 3 _ rfl
  simp [q3, q28] at f0 f1 f2 f3
  obtain ⟨n3, e3, _, w3⟩ := DataW.trod_int Tryz.underlying3 f0
  obtain ⟨n4, e4, _, w4⟩ := DataW.trod_int Tryz.underlying22 f1
  obtain ⟨n5, e5, _, w5⟩ := DataW.trod_int Tryz.underlying22 f2
  obtain ⟨n6, e6, _, w6⟩ := DataW.trod_int Tryz.underlying22 f3
  have c0 := hcell 0 (by decide)
  have c1 := hcell 1 (by decide)
  have c2 := hcell 2 (by decide)
  have c3 := hcell 3 (by decide)
  have c4 := hcell 4 (by decide)
  have c5 := hcell 5 (by decide)
  have c6 := hcell 6 (by decide)
  have hsp : A.spot = none := by
    rw [show A.add 0 = A from rfl] at c0
    exact spot_n c0
  obtain ⟨b, o, sp⟩ := A
  obtain rfl : sp = none := hsp
  rw [addr_add] at c0 c1 c2 c3 c4 c5 c6
  simp at e0 e1 e2 e3 e4 e5 e6 c0 c1 c2 c3 c4 c5 c6
  subst e0 e1 e2 e3 e4 e5 e6
  exact ⟨(n0, n1, n2, n3, n4, n5, n6), rfl, ⟨c0, c1, c2, c3, c4, c5, c6⟩, u64w w0, u64w w1, u64w w2⟩
theorem purs_in {H : Type} {enc : TypeId × Value → H} {W : World} {base fuel : Nat} {spare : Nat → Bool} {held : Bool} {a : Option Addr} {len cap : Nat} {x : DataW H × List MemPlace} (hs : ∀ b, spare b = true)
    (h : DataW.trod enc Tryz.prog W base spare held fuel 23 [.slice a len cap] = some x) : ∃ b o cI cC, PrsA W a len b o cI cC := by
  have q5 : Tryz.prog.cellsOf 40 = 2 := by kernel_rfl
  rcases Go.Deep.open_slice Tryz.underlying23 h with ⟨hcs, _⟩ | ⟨A, l, c, m, n, D, Pl, hcs, _, hl, hm, hmm, rfl, hx⟩
  · simp at hcs
    obtain ⟨rfl, rfl, rfl⟩ := hcs
    exact ⟨0, 0, fun _ => 0, fun _ => 0, fun h => absurd h (by decide), fun i h => absurd h (by omega), fun i h => absurd h (by omega)⟩
  · simp at hcs
    obtain ⟨rfl, rfl, rfl⟩ := hcs
    have hmc : m = cap := by rw [hmm, hs]; rfl
    have each0 : ∀ i, i < len → ∃ s, (A.add (i * 2)).spot = none ∧ Pur W (A.add (i * 2)).block (A.add (i * 2)).off s := fun i hi => by
      obtain ⟨cs', h1, h2⟩ := hx i (by omega)
      rw [q5] at h1
      exact pur_in h1 h2
    have hsp : 0 < len → A.spot = none := fun h0 => by
      obtain ⟨s, k1, _⟩ := each0 0 h0
      exact k1
    have each : ∀ i, i < len → ∃ s, A = ⟨A.block, A.off, none⟩ ∧ Pur W A.block (A.off + i * 2) s := fun i hi => by
      obtain ⟨s, k1, k2⟩ := each0 i hi
      have e := hsp (by omega)
      obtain ⟨b, o, sp⟩ := A
      obtain rfl : sp = none := e
      rw [addr_add] at k2
      exact ⟨s, rfl, k2⟩
    obtain ⟨f, hf⟩ := Go.Deep.choose_lt each
    exact ⟨A.block, A.off, fun i => (f i).1, fun i => (f i).2, fun h0 => congrArg some (hf 0 h0).1, fun i hi => (hf i hi).2.cell, fun i hi => (hf i hi).2.rng⟩
theorem txs_in {H : Type} {enc : TypeId × Value → H} {W : World} {base fuel : Nat} {spare : Nat → Bool} {held : Bool} {a : Option Addr} {len cap : Nat} {x : DataW H × List MemPlace} (hs : ∀ b, spare b = true)
    (h : DataW.trod enc Tryz.prog W base spare held fuel 24 [.slice a len cap] = some x) : ∃ b o xS xQ xF xM xA xB xC, TxsA W a len b o xS xQ xF xM xA xB xC := by
  have q5 : Tryz.prog.cellsOf 46 = 7 := by kernel_rfl
  rcases Go.Deep.open_slice Tryz.underlying24 h with ⟨hcs, _⟩ | ⟨A, l, c, m, n, D, Pl, hcs, _, hl, hm, hmm, rfl, hx⟩
  · simp at hcs
    obtain ⟨rfl, rfl, rfl⟩ := hcs
    exact ⟨0, 0, fun _ => 0, fun _ => 0, fun _ => 0, fun _ => 0, fun _ => 0, fun _ => 0, fun _ => 0, fun h => absurd h (by decide), fun i h => absurd h (by omega), fun i h => absurd h (by omega)⟩
  · simp at hcs
    obtain ⟨rfl, rfl, rfl⟩ := hcs
    have hmc : m = cap := by rw [hmm, hs]; rfl
    have each0 : ∀ i, i < len → ∃ s, (A.add (i * 7)).spot = none ∧ Txq W (A.add (i * 7)).block (A.add (i * 7)).off s := fun i hi => by
      obtain ⟨cs', h1, h2⟩ := hx i (by omega)
      rw [q5] at h1
      exact tx_in h1 h2
    have hsp : 0 < len → A.spot = none := fun h0 => by
      obtain ⟨s, k1, _⟩ := each0 0 h0
      exact k1
    have each : ∀ i, i < len → ∃ s, A = ⟨A.block, A.off, none⟩ ∧ Txq W A.block (A.off + i * 7) s := fun i hi => by
      obtain ⟨s, k1, k2⟩ := each0 i hi
      have e := hsp (by omega)
      obtain ⟨b, o, sp⟩ := A
      obtain rfl : sp = none := e
      rw [addr_add] at k2
      exact ⟨s, rfl, k2⟩
    obtain ⟨f, hf⟩ := Go.Deep.choose_lt each
    exact ⟨A.block, A.off, fun i => (f i).1, fun i => (f i).2.1, fun i => (f i).2.2.1, fun i => (f i).2.2.2.1, fun i => (f i).2.2.2.2.1, fun i => (f i).2.2.2.2.2.1, fun i => (f i).2.2.2.2.2.2, fun h0 => congrArg some (hf 0 h0).1, fun i hi => (hf i hi).2.cell, fun i hi => (hf i hi).2.rng⟩
end Bk
end Go.Proofs.YtagnmdejdeeenaaGreat
