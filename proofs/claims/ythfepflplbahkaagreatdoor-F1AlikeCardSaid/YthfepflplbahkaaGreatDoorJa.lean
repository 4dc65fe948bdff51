/- Several texts, joined: FoQ. -/
import Derived.Test.YthfepflplbahkaaGreatDoorJa~
import Derived.Test.YthfepflplbahkaaGreatDoorJa
namespace Go.Proofs.YthfepflplbahkaaGreatDoor
namespace Fo
open Go.RowKit Go.Lib Pg Lim Gl Kv Bk Pw
attribute [local go_sem] Oper.semAt_some
set_option maxRecDepth 100000
set_option linter.unusedVariables false
set_option linter.unusedSimpArgs false
set_option maxHeartbeats 2000000
theorem gval_top {g : List Int} (h : GroupsOk g) (h0 : g ≠ []) : nth g (g.length - 1) ≤ gval g := by
  induction g with
  | nil => exact absurd rfl h0
  | cons x l ih =>
    have hx := h x List.mem_cons_self
    by_cases e : l = []
    · subst e
      simp [gval, nth]
    · have := ih (fun y hy => h y (List.mem_cons_of_mem _ hy)) e
      have hl : 0 < l.length := List.length_pos_iff.2 e
      rw [show (x :: l).length - 1 = (l.length - 1) + 1 by simp; omega, nth_succ, gval]
      have h1 := (h _ (List.mem_cons_of_mem _ (nth_mem (l := l) (i := l.length - 1) (by omega)))).1
      omega
theorem appAll_small {w : World} {x : Int} (hx : x < 100) : AppAll w x := fun g h1 h2 h3 h4 wx _ => by
  have h5 := gval_top h1 h3
  obtain ⟨n, hn⟩ : ∃ n : Nat, nth g (g.length - 1) = (n : Int) := ⟨(nth g (g.length - 1)).toNat, by omega⟩
  rw [hn]
  exact app_small n (by omega) (by omega) wx
theorem dtext_is {S : ByteArray} {x : Int} (h : DText S x) (l wl : List UInt8) (hd : (wl.map (fun c => (c.toNat : Int))).all (fun c => decide (48 ≤ c ∧ c ≤ 57)) = true) (hv : dvI (wl.map (fun c => (c.toNat : Int))) = x / U36) (h0 : 0 < wl.length) (h1 : wl.length = 1 ∨ nth (wl.map (fun c => (c.toNat : Int))) 0 ≠ 48) (hl : l = wl ++ fracT (x % U36)) : S = ⟨l.toArray⟩ := by
  obtain ⟨Sw, hw, hS⟩ := h.ex
  have e := text_is hw wl hd hv h0 h1
  rw [hl]
  cases S with
  | mk arr =>
    simp at hS
    rw [e] at hS
    simp [← hS]
theorem pow64_m {s t : Nat} (h : s ≤ t) : (18446744073709551616 : Int) ^ s ≤ 18446744073709551616 ^ t := by
  have := Nat.pow_le_pow_right (show 0 < 18446744073709551616 by decide) h
  have h2 : ((18446744073709551616 ^ s : Nat) : Int) ≤ ((18446744073709551616 ^ t : Nat) : Int) := Int.ofNat_le.2 this
  rw [Int.natCast_pow, Int.natCast_pow] at h2
  exact h2
theorem nO_len {w : World} {a : Option Addr} {k d : Nat} {x : Int} (h : NatO w a k d x) {s : Nat} (hs : x < 18446744073709551616 ^ s) : k ≤ s := by
  obtain ⟨b, o, l, h1, h2, h3, h4⟩ := h.ex
  obtain ⟨g1, g2, g3⟩ := h3
  by_cases h0 : k = 0
  · omega
  · have := val_ge_of_nlen g1 (by omega)
    rw [g3] at this
    rcases Nat.lt_or_ge s k with c | c
    · have hp : (18446744073709551616 : Int) ^ s ≤ 18446744073709551616 ^ (nlen l - 1) := pow64_m (by omega)
      omega
    · exact c
theorem belowO {w V V' : World} {K : Nat → Prop} (h : Below w.heap.size w V) (hC : Chg K V V') (hk : ∀ b, K b → w.heap.size ≤ b) : Below w.heap.size w V' :=
  ((Chg.of (F := fun _ => False) h).trans hC (fun b hl hb => by have := hk b hb; omega)).nothing
theorem snewF {w : World} (Bz : Nat) (hb : Bz = w.heap.size) : Calls Tryz.prog 16 #[] w fun e w' => ∃ g K, e = .returned (pg g) ∧ Sx Bz w' K g [] [] 0 0 ∧ (∀ b, K b → Bz ≤ b) ∧ Below w.heap.size w w' := by
  subst hb
  refine snew.mono ?_
  rintro e w' ⟨g, K, rfl, S, hK, B⟩
  exact ⟨g, K, rfl, ⟨S.mono (fun _ _ h => h.elim), B.size, hK⟩, hK, B⟩
section
variable {B : Nat} {w : World} {K : Nat → Prop} {g : Nat} {E E' : Ents} {W : List Ents} {n N P : Nat}
theorem dumpF {m : Nat} (h : Sx B w K g E W n N) (hN : N ≤ 100000000) (hm : E.length = m) : Calls Tryz.prog 15 #[pg g] w fun e w' => ∃ a c, e = .returned (.slice a m c) ∧ Below w.heap.size w w' := by
  refine (sdump h.sa hN).mono ?_
  rintro e w' ⟨v, es, rfl, P, he, B⟩
  obtain ⟨a, c, rfl⟩ := P.shape
  have hl : es.length = m := by rw [← hm, ← he, List.length_map]
  rw [hl]
  exact ⟨a, c, rfl, B⟩
end
/-- a number's block is another one -/
def Ap (n z g : Nat) : Prop := n = 0 ∨ z ≠ g
def Fh (k s y : Nat) : Prop := k = 0 ∨ s ≤ y
def Fr (k s y z n : Nat) : Prop := k = 0 ∨ s ≤ y ∨ (y = z ∧ k = n)
theorem Fh.fr {k s y z n : Nat} (h : Fh k s y) : Fr k s y z n := h.imp_right .inl
/-- the store, as a law carries it -/
structure Al (B : Nat) (w : World) (K : Nat → Prop) (g : Nat) (E : Ents) (W : List Ents) (n N : Nat) : Prop where
  sx : Sx B w K g E W n N
section
variable {B : Nat} {w w' : World} {K K' : Nat → Prop} {g x : Nat} {E E' : Ents} {W : List Ents} {n N n' N' : Nat}
theorem Al.keep (h : Al B w K g E W n N) (b : Below w.heap.size w w') : Al B w' K g E W n N := ⟨h.sx.keep b⟩
theorem Al.drew (h : Al B w K g E W n N) : Al B w.drew K g E W n N := h.keep (Below.refl _ _).drew
theorem Al.lt (h : Al B w K g E W n N) {b : Nat} (hb : K b) : b < w.heap.size := h.sx.sa.lt hb
theorem Al.new (h : Al B w K g E W n N) (hx : w.heap.size ≤ x) : ¬ K x := fun hk => by have := h.lt hk; omega
theorem Al.cell {cs : List Value} {t : TypeId} (h : Al B w K g E W n N) (hX : Blk w x cs t) (C : Chg (· = x) w w') (hk : ¬ K x) (ht : t ≠ 5) : Al B w' K g E W n N := by
  have r := Rg.cell (rg_of (X := fun _ => True) h.sx trivial) hX C (.inr trivial) hk ht
  exact ⟨r.sx⟩
end
theorem not_opF {w : World} {K K' : Nat → Prop} {x : Nat} {cs : List Value} {t : TypeId} (X : Blk w x cs t) (h : ¬ K x) (hK : ∀ b, K' b → K b ∨ w.heap.size ≤ b) : ¬ K' x := fun q => (hK x q).elim h (fun q => by have := X.lt; omega)
theorem nk_out {w V : World} {K : Nat → Prop} {z n c : Nat} {ao : Option Addr} {x : Int} (h : Nk w (fun b => w.heap.size ≤ b) z ao n c x) (hB : Below w.heap.size w V) (hK : ∀ b, K b → w.heap.size ≤ b) : Nk V K z ao n c x := by
  have q := h.keep hB
  exact ⟨q.lt, q.out.imp_right fun h1 h2 => h1 (hK _ h2), q.to⟩
theorem nk_nat {w : World} {n c : Nat} {ao : Option Addr} {x : Int} (h : NatA w ao n c x) : ∃ z, Nk w (fun b => w.heap.size ≤ b) z ao n c x := by
  obtain ⟨b, o, l, h1, h2, h3, h4, h5⟩ := h
  have hlt : n = 0 ∨ b < w.heap.size := by
    rcases Nat.eq_zero_or_pos n with q | q
    · exact .inl q
    · exact .inr (cell_lt (h4.cell 0 (by omega)))
  refine ⟨b, hlt, hlt.imp_right fun q => by show ¬ (w.heap.size ≤ b); omega, fun w2 hw => ⟨b, o, l, h1, h2, h3, ⟨h4.loc, fun i hi => ?_⟩, h5⟩⟩
  rw [World.cell?_of_block (w := w) (hw (by omega))]
  exact h4.cell i hi
theorem NatA.ltF {w : World} {ao : Option Addr} {n c : Nat} {x : Int} (h : NatA w ao n c x) : x < 18446744073709551616 ^ n := by
  obtain ⟨b, o, l, h1, h2, h3, h4, h5⟩ := h
  have := val_lt h3
  rw [h1, h5] at this
  exact this
structure HoV (B : Nat) (w : World) (K : Nat → Prop) (g : Nat) (E' : Ents) (W : List Ents) (n N : Nat) (p x4 xs : Int) (n0 n4 : Nat) (e : Ending) (w' : World) : Prop where
  ex : ∃ b0 k0 d0 y0 b1 k1 d1 y1 K' n' N', e = .returned (.agg #[.slice b0 k0 d0, .int .u64 p, .slice b1 k1 d1]) ∧ Sx B w' K' g E' W n' N' ∧ n' ≤ n + 10 ∧ N' ≤ N + 10 ∧ (∀ b, K' b → K b ∨ w.heap.size ≤ b) ∧ Chg K w w' ∧ Nq w' K' y0 b0 k0 d0 (x4) ∧ k0 ≤ n4 + 1 ∧ (k0 = 0 ∨ w.heap.size ≤ y0) ∧ Nq w' K' y1 b1 k1 d1 (xs) ∧ k1 ≤ n0 + n4 + 40 ∧ (k1 = 0 ∨ w.heap.size ≤ y1)
theorem HoE.cast {B : Nat} {w : World} {K : Nat → Prop} {g : Nat} {E : Ents} {W : List Ents} {n N : Nat} {tk pe id x0 x4 p xs : Int} {n0 n4 P : Nat} {args : Array Value} {E' : Ents} (h : Calls Tryz.prog P args w (HoE B w K g E W n N tk pe id x0 x4 n0 n4)) (hp : (pe - 1) % 18446744073709551616 = p) (hE : referE E id p = E') (hx : x4 * (tk * U36) / x0 = xs) : Calls Tryz.prog P args w (HoV B w K g E' W n N p x4 xs n0 n4) := by
  subst hp hE hx
  exact h.mono fun e w' h => ⟨h.ex⟩
structure ClV (B : Nat) (w : World) (K : Nat → Prop) (g : Nat) (E' : Ents) (W : List Ents) (n N : Nat) (rt tk : Int) (jl : Bool) (un : Int) (bo : Bool) (pq x0 x1 x2 x3 : Int) (n0 n1 n2 n3 : Nat) (e : Ending) (w' : World) : Prop where
  ex : ∃ b0 k0 d0 y0 b1 k1 d1 y1 b2 k2 d2 y2 b3 k3 d3 y3 K' n' N', e = .returned (.tuple #[.agg #[.int .u64 rt, .int .u64 tk, .slice b0 k0 d0, .bool jl, .int .u64 un, .bool bo, .int .u64 pq, .slice none 0 0, .slice b2 k2 d2, .slice b3 k3 d3], .agg #[.slice b1 k1 d1]]) ∧ Sx B w' K' g E' W n' N' ∧ n' ≤ n + 20 ∧ N' ≤ N + 20 ∧ (∀ b, K' b → K b ∨ w.heap.size ≤ b) ∧ Chg K w w' ∧ Nq w' K' y0 b0 k0 d0 (x0) ∧ k0 ≤ n0 + 1 ∧ (k0 = 0 ∨ w.heap.size ≤ y0) ∧ Nq w' K' y1 b1 k1 d1 ((if tk = 0 then x1 else 0)) ∧ k1 ≤ n1 + 1 ∧ (k1 = 0 ∨ w.heap.size ≤ y1) ∧ Nq w' K' y2 b2 k2 d2 ((if tk = 0 then subV x2 x1 else x2)) ∧ k2 ≤ n2 + 1 ∧ (k2 = 0 ∨ w.heap.size ≤ y2) ∧ Nq w' K' y3 b3 k3 d3 (x3) ∧ k3 ≤ n3 + 1 ∧ (k3 = 0 ∨ w.heap.size ≤ y3)
theorem ClE.cast {B : Nat} {w : World} {K : Nat → Prop} {g : Nat} {E : Ents} {W : List Ents} {n N : Nat} {rt tk un pe id x0 x1 x2 x3 pq : Int} {jl bo : Bool} {n0 n1 n2 n3 P : Nat} {args : Array Value} {E' : Ents} (h : Calls Tryz.prog P args w (ClE B w K g E W n N rt tk jl un bo pe id x0 x1 x2 x3 n0 n1 n2 n3)) (hp : (pe + 1) % 18446744073709551616 = pq) (hE : closeE E id pe tk x1 = E') : Calls Tryz.prog P args w (ClV B w K g E' W n N rt tk jl un bo pq x0 x1 x2 x3 n0 n1 n2 n3) := by
  subst hp hE
  exact h.mono fun e w' h => ⟨h.ex⟩
structure CuV (B : Nat) (w : World) (K : Nat → Prop) (g : Nat) (E' : Ents) (W : List Ents) (n N : Nat) (rt tk : Int) (jl : Bool) (un : Int) (bo : Bool) (pe af x0 x1 x2 x3 : Int) (n0 n1 n2 n3 : Nat) (e : Ending) (w' : World) : Prop where
  ex : ∃ b0 k0 d0 y0 b1 k1 d1 y1 b2 k2 d2 y2 b3 k3 d3 y3 K' n' N', e = .returned (.agg #[.int .u64 rt, .int .u64 af, .slice b0 k0 d0, .bool jl, .int .u64 un, .bool bo, .int .u64 pe, .slice b1 k1 d1, .slice b2 k2 d2, .slice b3 k3 d3]) ∧ Sx B w' K' g E' W n' N' ∧ n' ≤ n + 10 ∧ N' ≤ N + 10 ∧ (∀ b, K' b → K b ∨ w.heap.size ≤ b) ∧ Chg K w w' ∧ Nq w' K' y0 b0 k0 d0 (x0) ∧ k0 ≤ n0 + 1 ∧ (k0 = 0 ∨ w.heap.size ≤ y0) ∧ Nq w' K' y1 b1 k1 d1 (x1) ∧ k1 ≤ n1 + 1 ∧ (k1 = 0 ∨ w.heap.size ≤ y1) ∧ Nq w' K' y2 b2 k2 d2 (x2) ∧ k2 ≤ n2 + 1 ∧ (k2 = 0 ∨ w.heap.size ≤ y2) ∧ Nq w' K' y3 b3 k3 d3 (x3) ∧ k3 ≤ n3 + 1 ∧ (k3 = 0 ∨ w.heap.size ≤ y3)
theorem CuE.cast {B : Nat} {w : World} {K : Nat → Prop} {g : Nat} {E : Ents} {W : List Ents} {n N : Nat} {rt tk un pe id af x0 x1 x2 x3 p : Int} {jl bo : Bool} {n0 n1 n2 n3 P : Nat} {args : Array Value} {E' : Ents} (h : Calls Tryz.prog P args w (CuE B w K g E W n N rt tk jl un bo pe id af x0 x1 x2 x3 n0 n1 n2 n3)) (hp : (pe - 1) % 18446744073709551616 = p) (hE : cutE E id p tk af = E') : Calls Tryz.prog P args w (CuV B w K g E' W n N rt tk jl un bo pe af x0 x1 x2 x3 n0 n1 n2 n3) := by
  subst hp hE
  exact h.mono fun e w' h => ⟨h.ex⟩
theorem ClmE.cast {B : Nat} {w : World} {K : Nat → Prop} {g : Nat} {E : Ents} {W : List Ents} {n N : Nat} {c c' P : Nat} {V V' : Int} {args : Array Value} (h : Calls Tryz.prog P args w (ClmE B w K g E W n N c V)) (hc : c = c') (hV : V = V') : Calls Tryz.prog P args w (ClmE B w K g E W n N c' V') := by
  subst hc hV
  exact h
theorem SxF.castE {B : Nat} {w : World} {K : Nat → Prop} {g : Nat} {E : Ents} {W : List Ents} {n N : Nat} {P : Nat} {args : Array Value} {r : Value} {E' : Ents} (h : Calls Tryz.prog P args w (SxF B w K g E W n N r)) (hE : E = E') : Calls Tryz.prog P args w (SxF B w K g E' W n N r) := by
  subst hE
  exact h
theorem count_v {B : Nat} {w : World} {K : Nat → Prop} {g : Nat} {E : Ents} {W : List Ents} {n N : Nat} {id : Int} {a b : Nat} (h : Sx B w K g E W n N) (hid : 0 ≤ id ∧ id < 18446744073709551616) (hN : N ≤ 30000000) (hn : n + 3 * N + 10 ≤ 2000000000000000000) (h7 : numK E 7 id = a) (h8 : numK E 8 id = b) : Calls Tryz.prog 12 #[pg g, .int .u64 id] w fun e w' => ∃ K' n', e = .returned (.tuple #[.int .i64 (a : Int), .int .i64 (b : Int)]) ∧ Sx B w' K' g E W n' N ∧ n' ≤ n + 2 + 2 * N ∧ (∀ b, K' b → K b ∨ w.heap.size ≤ b) ∧ Chg K w w' := by
  subst h7 h8
  exact count_x h hid hN hn
theorem gone_v {B : Nat} {w : World} {K : Nat → Prop} {g : Nat} {E : Ents} {W : List Ents} {n N : Nat} {id : Int} {E' : Ents} (h : Sx B w K g E W n N) (hid : 0 ≤ id ∧ id < 18446744073709551616) (hN : N ≤ 10000000) (hn : n + 30 * N + 10 ≤ 2000000000000000000) (hE : delK (delK E 7 id) 8 id = E') : Calls Tryz.prog 14 #[pg g, .int .u64 id] w fun e w' => ∃ K' n' N', e = .returned (.tuple #[]) ∧ Sx B w' K' g E' W n' N' ∧ n' ≤ n + 20 * N + 10 ∧ N' ≤ 9 * N ∧ (∀ b, K' b → K b ∨ w.heap.size ≤ b) ∧ Chg K w w' := by
  subst hE
  exact gone_x h hid hN hn
end Fo
end Go.Proofs.YthfepflplbahkaaGreatDoor
