/- Several texts, joined: FoQ, FoY, FoR, FoS. -/
import Derived.Test.YtjejmkcjflhoiaaGreatDoorJax
import Derived.Test.YtjejmkcjflhoiaaGreatDoorJaz
namespace Go.Proofs.YtjejmkcjflhoiaaGreatDoor
namespace Fo
open Go.RowKit Go.Lib Pg Lim Gl Kv Bk Pw
attribute [local go_sem] Oper.semAt_some
set_option maxRecDepth 100000
set_option linter.unusedVariables false
set_option linter.unusedSimpArgs false
set_option maxHeartbeats 2000000
theorem gval_top {g : List Int} (h : GroupsOk g) (h0 : g ≠ []) : nth g (g.length - 1) ≤ gval g := by
  induction g with
  | nil => exact absurd rfl h0
  | cons x l ih =>
    have hx := h x List.mem_cons_self
    by_cases e : l = []
    · subst e
      simp [gval, nth]
    · have := ih (fun y hy => h y (List.mem_cons_of_mem _ hy)) e
      have hl : 0 < l.length := List.length_pos_iff.2 e
      rw [show (x :: l).length - 1 = (l.length - 1) + 1 by simp; omega, nth_succ, gval]
      have h1 := (h _ (List.mem_cons_of_mem _ (nth_mem (l := l) (i := l.length - 1) (by omega)))).1
      omega
theorem appAll_small {w : World} {x : Int} (hx : x < 100) : AppAll w x := fun g h1 h2 h3 h4 wx _ => by
  have h5 := gval_top h1 h3
  obtain ⟨n, hn⟩ : ∃ n : Nat, nth g (g.length - 1) = (n : Int) := ⟨(nth g (g.length - 1)).toNat, by omega⟩
  rw [hn]
  exact app_small n (by omega) (by omega) wx
theorem dtext_is {S : ByteArray} {x : Int} (h : DText S x) (l wl : List UInt8) (hd : (wl.map (fun c => (c.toNat : Int))).all (fun c => decide (48 ≤ c ∧ c ≤ 57)) = true) (hv : dvI (wl.map (fun c => (c.toNat : Int))) = x / U36) (h0 : 0 < wl.length) (h1 : wl.length = 1 ∨ nth (wl.map (fun c => (c.toNat : Int))) 0 ≠ 48) (hl : l = wl ++ fracT (x % U36)) : S = ⟨l.toArray⟩ := by
  obtain ⟨Sw, hw, hS⟩ := h.ex
  have e := text_is hw wl hd hv h0 h1
  rw [hl]
  cases S with
  | mk arr =>
    simp at hS
    rw [e] at hS
    simp [← hS]
theorem pow64_m {s t : Nat} (h : s ≤ t) : (18446744073709551616 : Int) ^ s ≤ 18446744073709551616 ^ t := by
  have := Nat.pow_le_pow_right (show 0 < 18446744073709551616 by decide) h
  have h2 : ((18446744073709551616 ^ s : Nat) : Int) ≤ ((18446744073709551616 ^ t : Nat) : Int) := Int.ofNat_le.2 this
  rw [Int.natCast_pow, Int.natCast_pow] at h2
  exact h2
theorem nO_len {w : World} {a : Option Addr} {k d : Nat} {x : Int} (h : NatO w a k d x) {s : Nat} (hs : x < 18446744073709551616 ^ s) : k ≤ s := by
  obtain ⟨b, o, l, h1, h2, h3, h4⟩ := h.ex
  obtain ⟨g1, g2, g3⟩ := h3
  by_cases h0 : k = 0
  · omega
  · have := val_ge_of_nlen g1 (by omega)
    rw [g3] at this
    rcases Nat.lt_or_ge s k with c | c
    · have hp : (18446744073709551616 : Int) ^ s ≤ 18446744073709551616 ^ (nlen l - 1) := pow64_m (by omega)
      omega
    · exact c
theorem belowO {w V V' : World} {K : Nat → Prop} (h : Below w.heap.size w V) (hC : Chg K V V') (hk : ∀ b, K b → w.heap.size ≤ b) : Below w.heap.size w V' :=
  ((Chg.of (F := fun _ => False) h).trans hC (fun b hl hb => by have := hk b hb; omega)).nothing
theorem snewF {w : World} (Bz : Nat) (hb : Bz = w.heap.size) : Calls Tryz.prog 16 #[] w fun e w' => ∃ g K, e = .returned (pg g) ∧ Sx Bz w' K g [] [] 0 0 ∧ (∀ b, K b → Bz ≤ b) ∧ Below w.heap.size w w' := by
  subst hb
  refine snew.mono ?_
  rintro e w' ⟨g, K, rfl, S, hK, B⟩
  exact ⟨g, K, rfl, ⟨S.mono (fun _ _ h => h.elim), B.size, hK⟩, hK, B⟩
section
variable {B : Nat} {w : World} {K : Nat → Prop} {g : Nat} {E E' : Ents} {W : List Ents} {n N P : Nat}
theorem dumpF {m : Nat} (h : Sx B w K g E W n N) (hN : N ≤ 100000000) (hm : E.length = m) : Calls Tryz.prog 12 #[pg g] w fun e w' => ∃ a c, e = .returned (.slice a m c) ∧ Below w.heap.size w w' := by
  refine (sdump h.sa hN).mono ?_
  rintro e w' ⟨v, es, rfl, P, he, B⟩
  obtain ⟨a, c, rfl⟩ := P.shape
  have hl : es.length = m := by rw [← hm, ← he, List.length_map]
  rw [hl]
  exact ⟨a, c, rfl, B⟩
end
/-- the store, as a law carries it -/
structure Al (B : Nat) (w : World) (K : Nat → Prop) (g : Nat) (E : Ents) (W : List Ents) (n N : Nat) : Prop where
  sx : Sx B w K g E W n N
section
variable {B : Nat} {w w' : World} {K K' : Nat → Prop} {g x : Nat} {E E' : Ents} {W : List Ents} {n N n' N' : Nat}
theorem Al.cell {cs : List Value} {t : TypeId} (h : Al B w K g E W n N) (hX : Blk w x cs t) (C : Chg (· = x) w w') (hk : ¬ K x) (ht : t ≠ 5) : Al B w' K g E W n N := by
  have r := Rg.cell (rg_of (X := fun _ => True) h.sx trivial) hX C (.inr trivial) hk ht
  exact ⟨r.sx⟩
end
theorem nk_out {w V : World} {K : Nat → Prop} {z n c : Nat} {ao : Option Addr} {x : Int} (h : Nk w (fun b => w.heap.size ≤ b) z ao n c x) (hB : Below w.heap.size w V) (hK : ∀ b, K b → w.heap.size ≤ b) : Nk V K z ao n c x := by
  have q := h.keep hB
  exact ⟨q.lt, q.out.imp_right fun h1 h2 => h1 (hK _ h2), q.to⟩
theorem nk_nat {w : World} {n c : Nat} {ao : Option Addr} {x : Int} (h : NatA w ao n c x) : ∃ z, Nk w (fun b => w.heap.size ≤ b) z ao n c x := by
  obtain ⟨b, o, l, h1, h2, h3, h4, h5⟩ := h
  have hlt : n = 0 ∨ b < w.heap.size := by
    rcases Nat.eq_zero_or_pos n with q | q
    · exact .inl q
    · exact .inr (cell_lt (h4.cell 0 (by omega)))
  refine ⟨b, hlt, hlt.imp_right fun q => by show ¬ (w.heap.size ≤ b); omega, fun w2 hw => ⟨b, o, l, h1, h2, h3, ⟨h4.loc, fun i hi => ?_⟩, h5⟩⟩
  rw [World.cell?_of_block (w := w) (hw (by omega))]
  exact h4.cell i hi
structure HoV (B : Nat) (w : World) (K : Nat → Prop) (g : Nat) (E' : Ents) (W : List Ents) (n N : Nat) (p x4 xs : Int) (n0 n4 : Nat) (e : Ending) (w' : World) : Prop where
  ex : ∃ b0 k0 d0 y0 b1 k1 d1 y1 K' n' N', e = .returned (.agg #[.slice b0 k0 d0, .int .u64 p, .slice b1 k1 d1]) ∧ Sx B w' K' g E' W n' N' ∧ n' ≤ n + 10 ∧ N' ≤ N + 10 ∧ (∀ b, K' b → K b ∨ w.heap.size ≤ b) ∧ Chg K w w' ∧ Nq w' K' y0 b0 k0 d0 (x4) ∧ k0 ≤ n4 + 1 ∧ (k0 = 0 ∨ w.heap.size ≤ y0) ∧ Nq w' K' y1 b1 k1 d1 (xs) ∧ k1 ≤ n0 + n4 + 40 ∧ (k1 = 0 ∨ w.heap.size ≤ y1)
theorem HoE.cast {B : Nat} {w : World} {K : Nat → Prop} {g : Nat} {E : Ents} {W : List Ents} {n N : Nat} {tk pe id x0 x4 p xs : Int} {n0 n4 P : Nat} {args : Array Value} {E' : Ents} (h : Calls Tryz.prog P args w (HoE B w K g E W n N tk pe id x0 x4 n0 n4)) (hp : (pe - 1) % 18446744073709551616 = p) (hE : referE E id p = E') (hx : x4 * (tk * U36) / x0 = xs) : Calls Tryz.prog P args w (HoV B w K g E' W n N p x4 xs n0 n4) := by
  subst hp hE hx
  exact h.mono fun e w' h => ⟨h.ex⟩
structure ClV (B : Nat) (w : World) (K : Nat → Prop) (g : Nat) (E' : Ents) (W : List Ents) (n N : Nat) (rt tk : Int) (jl : Bool) (un : Int) (bo : Bool) (pq x0 x1 x2 x3 : Int) (n0 n1 n2 n3 : Nat) (e : Ending) (w' : World) : Prop where
  ex : ∃ b0 k0 d0 y0 b1 k1 d1 y1 b2 k2 d2 y2 b3 k3 d3 y3 K' n' N', e = .returned (.tuple #[.agg #[.int .u64 rt, .int .u64 tk, .slice b0 k0 d0, .bool jl, .int .u64 un, .bool bo, .int .u64 pq, .slice none 0 0, .slice b2 k2 d2, .slice b3 k3 d3], .agg #[.slice b1 k1 d1]]) ∧ Sx B w' K' g E' W n' N' ∧ n' ≤ n + 20 ∧ N' ≤ N + 20 ∧ (∀ b, K' b → K b ∨ w.heap.size ≤ b) ∧ Chg K w w' ∧ Nq w' K' y0 b0 k0 d0 (x0) ∧ k0 ≤ n0 + 1 ∧ (k0 = 0 ∨ w.heap.size ≤ y0) ∧ Nq w' K' y1 b1 k1 d1 ((if tk = 0 then x1 else 0)) ∧ k1 ≤ n1 + 1 ∧ (k1 = 0 ∨ w.heap.size ≤ y1) ∧ Nq w' K' y2 b2 k2 d2 ((if tk = 0 then subV x2 x1 else x2)) ∧ k2 ≤ n2 + 1 ∧ (k2 = 0 ∨ w.heap.size ≤ y2) ∧ Nq w' K' y3 b3 k3 d3 (x3) ∧ k3 ≤ n3 + 1 ∧ (k3 = 0 ∨ w.heap.size ≤ y3)
theorem ClE.cast {B : Nat} {w : World} {K : Nat → Prop} {g : Nat} {E : Ents} {W : List Ents} {n N : Nat} {rt tk un pe id x0 x1 x2 x3 pq : Int} {jl bo : Bool} {n0 n1 n2 n3 P : Nat} {args : Array Value} {E' : Ents} (h : Calls Tryz.prog P args w (ClE B w K g E W n N rt tk jl un bo pe id x0 x1 x2 x3 n0 n1 n2 n3)) (hp : (pe + 1) % 18446744073709551616 = pq) (hE : closeE E id pe tk x1 = E') : Calls Tryz.prog P args w (ClV B w K g E' W n N rt tk jl un bo pq x0 x1 x2 x3 n0 n1 n2 n3) := by
  subst hp hE
  exact h.mono fun e w' h => ⟨h.ex⟩
structure CuV (B : Nat) (w : World) (K : Nat → Prop) (g : Nat) (E' : Ents) (W : List Ents) (n N : Nat) (rt tk : Int) (jl : Bool) (un : Int) (bo : Bool) (pe af x0 x1 x2 x3 : Int) (n0 n1 n2 n3 : Nat) (e : Ending) (w' : World) : Prop where
  ex : ∃ b0 k0 d0 y0 b1 k1 d1 y1 b2 k2 d2 y2 b3 k3 d3 y3 K' n' N', e = .returned (.agg #[.int .u64 rt, .int .u64 af, .slice b0 k0 d0, .bool jl, .int .u64 un, .bool bo, .int .u64 pe, .slice b1 k1 d1, .slice b2 k2 d2, .slice b3 k3 d3]) ∧ Sx B w' K' g E' W n' N' ∧ n' ≤ n + 10 ∧ N' ≤ N + 10 ∧ (∀ b, K' b → K b ∨ w.heap.size ≤ b) ∧ Chg K w w' ∧ Nq w' K' y0 b0 k0 d0 (x0) ∧ k0 ≤ n0 + 1 ∧ (k0 = 0 ∨ w.heap.size ≤ y0) ∧ Nq w' K' y1 b1 k1 d1 (x1) ∧ k1 ≤ n1 + 1 ∧ (k1 = 0 ∨ w.heap.size ≤ y1) ∧ Nq w' K' y2 b2 k2 d2 (x2) ∧ k2 ≤ n2 + 1 ∧ (k2 = 0 ∨ w.heap.size ≤ y2) ∧ Nq w' K' y3 b3 k3 d3 (x3) ∧ k3 ≤ n3 + 1 ∧ (k3 = 0 ∨ w.heap.size ≤ y3)
theorem CuE.cast {B : Nat} {w : World} {K : Nat → Prop} {g : Nat} {E : Ents} {W : List Ents} {n N : Nat} {rt tk un pe id af x0 x1 x2 x3 p : Int} {jl bo : Bool} {n0 n1 n2 n3 P : Nat} {args : Array Value} {E' : Ents} (h : Calls Tryz.prog P args w (CuE B w K g E W n N rt tk jl un bo pe id af x0 x1 x2 x3 n0 n1 n2 n3)) (hp : (pe - 1) % 18446744073709551616 = p) (hE : cutE E id p tk af = E') : Calls Tryz.prog P args w (CuV B w K g E' W n N rt tk jl un bo pe af x0 x1 x2 x3 n0 n1 n2 n3) := by
  subst hp hE
  exact h.mono fun e w' h => ⟨h.ex⟩
theorem ClmE.cast {B : Nat} {w : World} {K : Nat → Prop} {g : Nat} {E : Ents} {W : List Ents} {n N : Nat} {c c' P : Nat} {V V' : Int} {args : Array Value} (h : Calls Tryz.prog P args w (ClmE B w K g E W n N c V)) (hc : c = c') (hV : V = V') : Calls Tryz.prog P args w (ClmE B w K g E W n N c' V') := by
  subst hc hV
  exact h
theorem SxF.castE {B : Nat} {w : World} {K : Nat → Prop} {g : Nat} {E : Ents} {W : List Ents} {n N : Nat} {P : Nat} {args : Array Value} {r : Value} {E' : Ents} (h : Calls Tryz.prog P args w (SxF B w K g E W n N r)) (hE : E = E') : Calls Tryz.prog P args w (SxF B w K g E' W n N r) := by
  subst hE
  exact h
theorem count_v {B : Nat} {w : World} {K : Nat → Prop} {g : Nat} {E : Ents} {W : List Ents} {n N : Nat} {id : Int} {a b : Nat} (h : Sx B w K g E W n N) (hid : 0 ≤ id ∧ id < 18446744073709551616) (hN : N ≤ 30000000) (hn : n + 3 * N + 10 ≤ 2000000000000000000) (h7 : numK E 7 id = a) (h8 : numK E 8 id = b) : Calls Tryz.prog 9 #[pg g, .int .u64 id] w fun e w' => ∃ K' n', e = .returned (.tuple #[.int .i64 (a : Int), .int .i64 (b : Int)]) ∧ Sx B w' K' g E W n' N ∧ n' ≤ n + 2 + 2 * N ∧ (∀ b, K' b → K b ∨ w.heap.size ≤ b) ∧ Chg K w w' := by
  subst h7 h8
  exact count_x h hid hN hn
theorem gone_v {B : Nat} {w : World} {K : Nat → Prop} {g : Nat} {E : Ents} {W : List Ents} {n N : Nat} {id : Int} {E' : Ents} (h : Sx B w K g E W n N) (hid : 0 ≤ id ∧ id < 18446744073709551616) (hN : N ≤ 10000000) (hn : n + 30 * N + 10 ≤ 2000000000000000000) (hE : delK (delK E 7 id) 8 id = E') : Calls Tryz.prog 11 #[pg g, .int .u64 id] w fun e w' => ∃ K' n' N', e = .returned (.tuple #[]) ∧ Sx B w' K' g E' W n' N' ∧ n' ≤ n + 20 * N + 10 ∧ N' ≤ 9 * N ∧ (∀ b, K' b → K b ∨ w.heap.size ≤ b) ∧ Chg K w w' := by
  subst hE
  exact gone_x h hid hN hn
end Fo
end Go.Proofs.YtjejmkcjflhoiaaGreatDoor

namespace Go.Proofs.YtjejmkcjflhoiaaGreatDoor
namespace Fo
open Go.RowKit Go.Lib Pg Lim Gl Kv Bk Pw
set_option maxRecDepth 100000
set_option linter.unusedVariables false
set_option maxHeartbeats 1000000
/-- from w0 on: the store, blocks of one's own, numbers beside them -/
structure Un (w0 : World) (B g0 : Nat) (w : World) (K : Nat → Prop) (E : Ents) (n N : Nat) (bs : List Bx) (qs : List Nx) : Prop where
  bb : Below w0.heap.size w0 w
  lo : w0.heap.size ≤ B
  sx : Sx B w K g0 E [] n N
  b : ∀ p ∈ bs, Blk w p.1 p.2.1 p.2.2 ∧ ¬ K p.1 ∧ w0.heap.size ≤ p.1
  q : ∀ r ∈ qs, Nq w K r.1 r.2.1 r.2.2.1 r.2.2.2.1 r.2.2.2.2
  e : ∀ p ∈ bs, ∀ r ∈ qs, r.2.2.1 = 0 ∨ r.1 ≠ p.1
  d : bs.Pairwise (fun a b => a.1 ≠ b.1)
section
variable {w0 w w' : World} {B g0 n N n' N' g i : Nat} {K K' : Nat → Prop} {E E' : Ents} {bs : List Bx} {qs : List Nx} {cs cs' : List Value} {t : TypeId}
theorem Un.lt (h : Un w0 B g0 w K E n N bs qs) : ∀ p ∈ bs, p.1 < w.heap.size := fun p hp => (h.b p hp).1.lt
theorem Un.out (h : Un w0 B g0 w K E n N bs qs) : ∀ b, K b → w0.heap.size ≤ b := fun b hb => Nat.le_trans h.lo (h.sx.kb b hb)
theorem un_of (bb : Below w0.heap.size w0 w) (lo : w0.heap.size ≤ B) (sx : Sx B w K g0 E [] n N) : Un w0 B g0 w K E n N [] [] := ⟨bb, lo, sx, fun _ h => (List.not_mem_nil h).elim, fun _ h => (List.not_mem_nil h).elim, fun _ h => (List.not_mem_nil h).elim, List.Pairwise.nil⟩
theorem Un.keep (h : Un w0 B g0 w K E n N bs qs) (b : Below w.heap.size w w') : Un w0 B g0 w' K E n N bs qs := ⟨joinB h.bb b, h.lo, h.sx.keep b, fun p hp => ⟨(h.b p hp).1.keep b, (h.b p hp).2⟩, fun r hr => (h.q r hr).keep b, h.e, h.d⟩
theorem Un.drew (h : Un w0 B g0 w K E n N bs qs) : Un w0 B g0 w.drew K E n N bs qs := h.keep (Below.refl _ _).drew
theorem Un.op (h : Un w0 B g0 w K E n N bs qs) (S : Sx B w' K' g0 E' [] n' N') (hK : ∀ b, K' b → K b ∨ w.heap.size ≤ b) (hC : Chg K w w') : Un w0 B g0 w' K' E' n' N' bs qs := ⟨belowO h.bb hC h.out, h.lo, S, fun p hp => ⟨(h.b p hp).1.chg hC (h.b p hp).2.1, not_opF (h.b p hp).1 (h.b p hp).2.1 hK, (h.b p hp).2.2⟩, fun r hr => (h.q r hr).op hK hC, h.e, h.d⟩
theorem Un.ask (h : Un w0 B g0 w K E n N bs qs) (S : Sx B w' K g0 E' [] n' N') (C : Chg (· = g0) w w') : Un w0 B g0 w' K E' n' N' bs qs := h.op S (fun _ h => .inl h) (C.mono (fun b _ (e : b = g0) => e ▸ h.sx.sa.top))
theorem Un.add {z k d : Nat} {a : Option Addr} {x : Int} {s : Nat} (h : Un w0 B g0 w K E n N bs qs) (L : ∀ p ∈ bs, p.1 < s) (Q : Nq w K z a k d x) (hz : k = 0 ∨ s ≤ z) : Un w0 B g0 w K E n N bs ((z, a, k, d, x) :: qs) := ⟨h.bb, h.lo, h.sx, h.b, List.forall_mem_cons.2 ⟨Q, h.q⟩, fun p hp => List.forall_mem_cons.2 ⟨hz.imp_right (fun q e => by have := L p hp; have e' : z = p.1 := e; omega), h.e p hp⟩, h.d⟩
theorem Un.num {z k d : Nat} {a : Option Addr} {x : Int} (h : Un w0 B g0 w K E n N bs qs) (M : Nf w' z a k d x) (hz : k = 0 ∨ w.heap.size ≤ z) (b : Below w.heap.size w w') : Un w0 B g0 w' K E n N bs ((z, a, k, d, x) :: qs) := (h.keep b).add h.lt (nq_of h.sx M hz) hz
theorem Un.new (h : Un w0 B g0 w K E n N bs qs) (X : Blk w' g cs t) (hg : w.heap.size ≤ g) (b : Below w.heap.size w w') : Un w0 B g0 w' K E n N ((g, cs, t) :: bs) qs := by
  have u := h.keep b
  refine ⟨u.bb, u.lo, u.sx, List.forall_mem_cons.2 ⟨⟨X, fun q => by have := h.sx.sa.lt q; omega, Nat.le_trans h.bb.size hg⟩, u.b⟩, u.q, List.forall_mem_cons.2 ⟨fun r hr => ne1 (h.q r hr).lt hg, u.e⟩, List.pairwise_cons.2 ⟨fun p hp e => by have := h.lt p hp; have e' : g = p.1 := e; omega, u.d⟩⟩
theorem Un.bk (h : Un w0 B g0 w K E n N bs qs) (i : Nat) (hi : bs[i]? = some (g, cs, t)) : Blk w g cs t := (h.b _ (List.mem_of_getElem? hi)).1
theorem Un.nq {z k d : Nat} {a : Option Addr} {x : Int} (h : Un w0 B g0 w K E n N bs qs) (i : Nat) (hi : qs[i]? = some (z, a, k, d, x)) : Nq w K z a k d x := h.q _ (List.mem_of_getElem? hi)
theorem Un.put (h : Un w0 B g0 w K E n N bs qs) (i : Nat) (hi : bs[i]? = some (g, cs, t)) (C : Chg (· = g) w w') (Y : Blk w' g cs' t) (ht : t ≠ 5 := by decide) : Un w0 B g0 w' K E n N (bs.set i (g, cs', t)) qs := by
  have hm := List.mem_of_getElem? hi
  obtain ⟨X, nk, y⟩ := h.b _ hm
  obtain ⟨r1, r2⟩ := set_ne (q := (g, cs', t)) h.d hi rfl
  have A := Al.cell ⟨h.sx⟩ X C nk ht
  refine ⟨belowC h.bb C y, h.lo, A.sx, fun p hp => ?_, fun r hr => (h.q r hr).cell C (h.e _ hm r hr), fun p hp => ?_, r1⟩
  · by_cases e : p = (g, cs', t)
    · subst e
      exact ⟨Y, nk, y⟩
    · rcases mem_setB hp with q | q
      · exact absurd q e
      · exact ⟨(h.b p q).1.chg C (r2 p hp e), (h.b p q).2⟩
  · rcases mem_setB hp with q | q
    · rw [q]
      show ∀ r ∈ qs, r.2.2.1 = 0 ∨ r.1 ≠ g
      exact h.e _ hm
    · exact h.e p q
theorem Un.val {z k d : Nat} {a : Option Addr} {x y : Int} (h : Un w0 B g0 w K E n N bs qs) (i : Nat) (hi : qs[i]? = some (z, a, k, d, x)) (e : x = y) : Un w0 B g0 w K E n N bs (qs.set i (z, a, k, d, y)) := by
  subst e
  rw [show qs.set i (z, a, k, d, x) = qs from List.ext_getElem? fun j => by
    rw [List.getElem?_set]
    split
    · rename_i e
      subst e
      split
      · exact hi.symm
      · rename_i hl
        rw [List.getElem?_eq_none (by omega)]
    · rfl]
  exact h
theorem Un.sel (h : Un w0 B g0 w K E n N bs qs) (is js : List Nat) (hn : is.Nodup := by decide) : Un w0 B g0 w K E n N (is.filterMap (bs[·]?)) (js.filterMap (qs[·]?)) := by
  have mb : ∀ p ∈ is.filterMap (bs[·]?), p ∈ bs := fun p hp => by
    obtain ⟨i, _, e⟩ := List.mem_filterMap.1 hp
    exact List.mem_of_getElem? e
  have mq : ∀ p ∈ js.filterMap (qs[·]?), p ∈ qs := fun p hp => by
    obtain ⟨i, _, e⟩ := List.mem_filterMap.1 hp
    exact List.mem_of_getElem? e
  refine ⟨h.bb, h.lo, h.sx, fun p hp => h.b p (mb p hp), fun r hr => h.q r (mq r hr), fun p hp r hr => h.e p (mb p hp) r (mq r hr), ?_⟩
  have hd := h.d
  clear mb mq h
  induction is with
  | nil => exact List.Pairwise.nil
  | cons i is ih =>
    have nd := List.nodup_cons.1 hn
    rw [List.filterMap_cons]
    split
    · exact ih nd.2
    · rename_i p e
      refine List.pairwise_cons.2 ⟨fun q hq e2 => ?_, ih nd.2⟩
      obtain ⟨j, hj, e3⟩ := List.mem_filterMap.1 hq
      have hij : i ≠ j := fun c => nd.1 (c ▸ hj)
      obtain ⟨li, ei⟩ := List.getElem?_eq_some_iff.1 e
      obtain ⟨lj, ej⟩ := List.getElem?_eq_some_iff.1 e3
      have pw := List.pairwise_iff_getElem.1 hd
      rcases Nat.lt_or_gt_of_ne hij with c | c
      · exact pw i j li lj c (by rw [ei, ej]; exact e2)
      · exact pw j i lj li c (by rw [ei, ej]; exact e2.symm)
theorem Un.nil (h : Un w0 B g0 w K E n N bs qs) : Un w0 B g0 w K E n N bs ((0, none, 0, 0, 0) :: qs) := ⟨h.bb, h.lo, h.sx, h.b, List.forall_mem_cons.2 ⟨nq_nil _ _, h.q⟩, fun p hp => List.forall_mem_cons.2 ⟨.inl rfl, h.e p hp⟩, h.d⟩
theorem Un.raw {z k d : Nat} {a : Option Addr} {x : Int} (h : Un w0 B g0 w K E n N bs qs) (r : Nk w0 (fun b => w0.heap.size ≤ b) z a k d x) : Nk w K z a k d x := nk_out r h.bb h.out
end
end Fo
end Go.Proofs.YtjejmkcjflhoiaaGreatDoor

namespace Go.Proofs.YtjejmkcjflhoiaaGreatDoor
namespace Fo
open Go.RowKit Go.Lib Pg Lim Gl Kv Bk Pw
attribute [local go_sem] Oper.semAt_some
set_option maxRecDepth 100000
set_option linter.unusedVariables false
set_option linter.unusedSimpArgs false
set_option maxHeartbeats 4000000
def kE1 : Ents := referE [] 16 0
def kE2 : Ents := referE kE1 16 0
def kE3 : Ents := closeE kE2 16 1 4 (10 * U36)
def kE4 : Ents := closeE kE3 16 2 4 0
def kE5 : Ents := cutE kE4 16 2 4 2
def kE6 : Ents := closeE kE5 16 3 2 (10 * U36)
def kE7 : Ents := letE kE6 16 0
def kE8 : Ents := delK (delK kE7 7 16) 8 16
theorem kq2 : referE kE1 16 0 = kE2 := rfl
theorem kq3 : closeE kE2 16 1 4 (10 * U36) = kE3 := rfl
theorem kq4 : closeE kE3 16 2 4 0 = kE4 := rfl
theorem kq5 : cutE kE4 16 2 4 2 = kE5 := rfl
theorem kq6 : closeE kE5 16 3 2 (10 * U36) = kE6 := rfl
theorem kq7 : letE kE6 16 0 = kE7 := rfl
theorem kq8 : delK (delK kE7 7 16) 8 16 = kE8 := rfl
structure J5 where
  K : Nat → Prop
  n : Nat
  N : Nat
  gd : Nat
  a0 : Option Addr
  k0 : Nat
  c0 : Nat
  z0 : Nat
  a1 : Option Addr
  k1 : Nat
  c1 : Nat
  z1 : Nat
theorem known13 {w : World} : Calls Tryz.prog 5 #[] w fun e w' => e = .returned (.bool true) ∧ Below w.heap.size w w' := by
  have BB := Below.refl w.heap.size w
  refine gc_enter (n := 137) Tryz.func5 rfl (by kernel_rfl) (by kernel_rfl) ?_
  refine gc_seq ?_
  refine gc_reg ?_
  refine t 0 (.bool false) ?_
  refine gl_nil ?_
  refine ge_then ?_
  refine gc_seq ?_
  refine gc_reg ?_
  obtain ⟨Bz, hBz⟩ : ∃ Bz, Bz = (w).heap.size := ⟨_, rfl⟩
  have hwB : w.heap.size ≤ Bz := by rw [hBz]; exact BB.size
  refine tc 13 16 #[] (snewF Bz hBz) ?_
  rintro _ v1 ⟨g0, K0, rfl, S0, hK0, B0⟩
  refine ⟨_, rfl, ?_⟩
  replace BB := joinB BB B0
  clear B0
  have U := un_of BB (B := Bz) hwB S0
  clear BB S0
  refine t 1 (pg g0) ?_
  refine gl_nil ?_
  refine ge_then ?_
  refine gc_seq ?_
  refine gc_seq ?_
  refine gc_reg ?_
  refine t 14 (pg g0) ?_
  refine t 15 (.bool false) ?_
  refine gl_nil ?_
  refine ge_then ?_
  refine gc_no ?_
  refine gc_skip ?_
  refine ge_then ?_
  refine gc_seq ?_
  refine gc_reg ?_
  refine t 16 (pg g0) ?_
  refine tc 17 18 #[.int .u64 4] (eOf (y := 4) ⟨by decide, by decide⟩) ?_
  rintro _ v3 ⟨aq2, nq2, cq2, zq2, rfl, M, h, mq2, B⟩
  refine ⟨_, rfl, ?_⟩
  replace U := U.num M h B
  clear M h B
  refine t 18 (.agg #[.int .u64 0, .int .u64 4, .slice aq2 nq2 cq2, .bool false, .int .u64 0, .bool false, .int .u64 0, .slice none 0 0, .slice none 0 0, .slice none 0 0]) ?_
  refine tc 19 17 #[pg g0, .int .u64 16, .agg #[.int .u64 0, .int .u64 4, .slice aq2 nq2 cq2, .bool false, .int .u64 0, .bool false, .int .u64 0, .slice none 0 0, .slice none 0 0, .slice none 0 0]] (start_any U.sx (id := 16) ⟨by decide, by decide⟩ (U.nq 0 rfl).nk (by omega) (nq_nil _ _).nk (by omega) (nq_nil _ _).nk (by omega) (nq_nil _ _).nk (by omega) (by omega) (by omega)) ?_
  rintro _ v10 ⟨aq4, nq4, cq4, zq4, aq5, nq5, cq5, zq5, aq6, nq6, cq6, zq6, K7, n8, N9, rfl, S, qn8, qN9, hK, hC, Q0, mq4, h0, Q1, mq5, h1, Q2, mq6, h2⟩
  refine ⟨_, rfl, ?_⟩
  have L := U.lt
  replace U := (((U.op S hK hC).add L Q0 h0).add L Q1 h1).add L Q2 h2
  clear L S hK hC Q0 h0 Q1 h1 Q2 h2
  refine ta 2 [.int .u64 0, .int .u64 0, .slice none 0 0, .bool false, .int .u64 0, .bool false, .int .u64 0, .slice none 0 0, .slice none 0 0, .slice none 0 0] 39 (pg) ?_
  intro v11 g12 Xg12 hg12 B
  replace U := U.new Xg12 hg12 B
  clear Xg12 hg12 B
  refine ts (U.bk 0 rfl) 0 (.agg #[.int .u64 0, .int .u64 4, .slice aq4 nq4 cq4, .bool false, .int .u64 0, .bool false, .int .u64 1, .slice none 0 0, .slice aq5 nq5 cq5, .slice aq6 nq6 cq6]) [.int .u64 0, .int .u64 4, .slice aq4 nq4 cq4, .bool false, .int .u64 0, .bool false, .int .u64 1, .slice none 0 0, .slice aq5 nq5 cq5, .slice aq6 nq6 cq6] [.int .u64 0, .int .u64 4, .slice aq4 nq4 cq4, .bool false, .int .u64 0, .bool false, .int .u64 1, .slice none 0 0, .slice aq5 nq5 cq5, .slice aq6 nq6 cq6] ?_
  intro v13 Y C
  replace U := U.put 0 rfl C Y
  clear Y C
  refine gl_nil ?_
  refine ge_then ?_
  refine gc_join (fun (s : J5) => [(1, pg g0), (2, pg g12), (3, pg s.gd)]) (fun s w' => Un w Bz g0 w' s.K kE2 s.n s.N ((s.gd, [.slice s.a0 s.k0 s.c0, .int .u64 0, .slice s.a1 s.k1 s.c1], 53) :: [(g12, [.int .u64 0, .int .u64 4, .slice aq4 nq4 cq4, .bool false, .int .u64 0, .bool false, .int .u64 1, .slice none 0 0, .slice aq5 nq5 cq5, .slice aq6 nq6 cq6], 39)]) ((s.z0, s.a0, s.k0, s.c0, 1 * U36) :: (s.z1, s.a1, s.k1, s.c1, U36) :: [(zq6, aq6, nq6, cq6, 0), (zq5, aq5, nq5, cq5, 0), (zq4, aq4, nq4, cq4, 4 * U36), (zq2, aq2, nq2, cq2, 4 * U36)]) ∧ s.n ≤ 60 ∧ s.N ≤ 60 ∧ s.k0 ≤ 100 ∧ s.k1 ≤ 200) ?_ ?_
  · replace U := U.drew
    refine gc_draw (fun w' => Blk w' g12 [.int .u64 0, .int .u64 4, .slice aq4 nq4 cq4, .bool false, .int .u64 0, .bool false, .int .u64 1, .slice none 0 0, .slice aq5 nq5 cq5, .slice aq6 nq6 cq6] 39) (fun _ => false) (U.bk 0 rfl) ?_
    refine z 0 20 (pg g0) ?_
    refine zlr 1 21 [.int .u64 0, .int .u64 4, .slice aq4 nq4 cq4, .bool false, .int .u64 0, .bool false, .int .u64 1, .slice none 0 0, .slice aq5 nq5 cq5, .slice aq6 nq6 cq6] (fun _ h => h) 0 ?_
    refine gz_ready [2, 5] ?_
    refine ga_call 2 (some 22) 18 #[.int .u64 1] (eOf (y := 1) ⟨by decide, by decide⟩) ?_ ?_
    · rintro _ v15 ⟨aq14, nq14, cq14, zq14, rfl, M, h, mq14, B⟩
      replace U := U.num M h B
      clear M h B
      refine ⟨_, rfl, (U.bk 0 rfl), ?_⟩
      refine zr 3 23 (.agg #[.slice aq14 nq14 cq14, .int .u64 0, .slice none 0 0]) (by intro _ _; kernel_rfl) ?_
      refine gz_ready [4, 5] ?_
      refine ga_call 4 (some 24) 19 #[pg g0, .int .u64 16, .agg #[.int .u64 0, .int .u64 4, .slice aq4 nq4 cq4, .bool false, .int .u64 0, .bool false, .int .u64 1, .slice none 0 0, .slice aq5 nq5 cq5, .slice aq6 nq6 cq6], .agg #[.slice aq14 nq14 cq14, .int .u64 0, .slice none 0 0]] (HoE.cast (E' := kE2) (p := 0) (xs := U36) (hold_any (E := kE1) U.sx (id := 16) ⟨by decide, by decide⟩ ⟨by decide, by decide⟩ (U.nq 3 rfl).nk (by omega) (nq_nil _ _).nk (by omega) (U.nq 2 rfl).nk (by omega) (U.nq 1 rfl).nk (by omega) (U.nq 0 rfl).nk (by omega) (nq_nil _ _).nk (by omega) (by omega) (by omega)) (by decide) kq2 (by decide +kernel)) ?_ ?_
      · rintro _ v21 ⟨aq16, nq16, cq16, zq16, aq17, nq17, cq17, zq17, K18, n19, N20, rfl, S, qn19, qN20, hK, hC, Q0, mq16, h0, Q1, mq17, h1⟩
        have L := U.lt
        replace U := ((U.op S hK hC).add L Q0 h0).add L Q1 h1
        clear L S hK hC Q0 h0 Q1 h1
        refine ⟨_, rfl, (U.bk 0 rfl), ?_⟩
        refine za 5 3 [.slice none 0 0, .int .u64 0, .slice none 0 0] 53 (pg) ?_
        intro v22 g23 Xg23 hg23 B
        replace U := U.new Xg23 hg23 B
        clear Xg23 hg23 B
        refine ⟨(U.bk 1 rfl), ?_⟩
        refine zs 6 (U.bk 0 rfl) 0 (.agg #[.slice aq16 nq16 cq16, .int .u64 0, .slice aq17 nq17 cq17]) [.slice aq16 nq16 cq16, .int .u64 0, .slice aq17 nq17 cq17] [.slice aq16 nq16 cq16, .int .u64 0, .slice aq17 nq17 cq17] ?_
        intro v24 Y C
        replace U := U.put 0 rfl C Y
        clear Y C
        refine ⟨(U.bk 1 rfl), ?_⟩
        refine gz_done ?_
        exact ge_join (⟨_, _, _, g23, aq16, nq16, cq16, zq16, aq17, nq17, cq17, zq17⟩ : J5) ⟨U.sel [0, 1] [1, 0, 3, 4, 5, 6], by (try dsimp only); omega, by (try dsimp only); omega, by (try dsimp only); omega, by (try dsimp only); omega⟩ (by kernel_rfl)
      refine zaa 5 3 [.slice none 0 0, .int .u64 0, .slice none 0 0] 53 (pg) ?_ ?_
      · intro v25 g26 Xg26 hg26 B
        replace U := U.new Xg26 hg26 B
        clear Xg26 hg26 B
        refine ⟨(U.bk 1 rfl), ?_⟩
        refine zc 4 24 19 #[pg g0, .int .u64 16, .agg #[.int .u64 0, .int .u64 4, .slice aq4 nq4 cq4, .bool false, .int .u64 0, .bool false, .int .u64 1, .slice none 0 0, .slice aq5 nq5 cq5, .slice aq6 nq6 cq6], .agg #[.slice aq14 nq14 cq14, .int .u64 0, .slice none 0 0]] (HoE.cast (E' := kE2) (p := 0) (xs := U36) (hold_any (E := kE1) U.sx (id := 16) ⟨by decide, by decide⟩ ⟨by decide, by decide⟩ (U.nq 3 rfl).nk (by omega) (nq_nil _ _).nk (by omega) (U.nq 2 rfl).nk (by omega) (U.nq 1 rfl).nk (by omega) (U.nq 0 rfl).nk (by omega) (nq_nil _ _).nk (by omega) (by omega) (by omega)) (by decide) kq2 (by decide +kernel)) ?_
        rintro _ v32 ⟨aq27, nq27, cq27, zq27, aq28, nq28, cq28, zq28, K29, n30, N31, rfl, S, qn30, qN31, hK, hC, Q0, mq27, h0, Q1, mq28, h1⟩
        have L := U.lt
        replace U := ((U.op S hK hC).add L Q0 h0).add L Q1 h1
        clear L S hK hC Q0 h0 Q1 h1
        refine ⟨_, rfl, (U.bk 1 rfl), ?_⟩
        refine zs 6 (U.bk 0 rfl) 0 (.agg #[.slice aq27 nq27 cq27, .int .u64 0, .slice aq28 nq28 cq28]) [.slice aq27 nq27 cq27, .int .u64 0, .slice aq28 nq28 cq28] [.slice aq27 nq27 cq27, .int .u64 0, .slice aq28 nq28 cq28] ?_
        intro v33 Y C
        replace U := U.put 0 rfl C Y
        clear Y C
        refine ⟨(U.bk 1 rfl), ?_⟩
        refine gz_done ?_
        exact ge_join (⟨_, _, _, g26, aq27, nq27, cq27, zq27, aq28, nq28, cq28, zq28⟩ : J5) ⟨U.sel [0, 1] [1, 0, 3, 4, 5, 6], by (try dsimp only); omega, by (try dsimp only); omega, by (try dsimp only); omega, by (try dsimp only); omega⟩ (by kernel_rfl)
      exact ga_nil
    refine zaa 5 3 [.slice none 0 0, .int .u64 0, .slice none 0 0] 53 (pg) ?_ ?_
    · intro v34 g35 Xg35 hg35 B
      replace U := U.new Xg35 hg35 B
      clear Xg35 hg35 B
      refine ⟨(U.bk 1 rfl), ?_⟩
      refine zc 2 22 18 #[.int .u64 1] (eOf (y := 1) ⟨by decide, by decide⟩) ?_
      rintro _ v37 ⟨aq36, nq36, cq36, zq36, rfl, M, h, mq36, B⟩
      replace U := U.num M h B
      clear M h B
      refine ⟨_, rfl, (U.bk 1 rfl), ?_⟩
      refine zr 3 23 (.agg #[.slice aq36 nq36 cq36, .int .u64 0, .slice none 0 0]) (by intro _ _; kernel_rfl) ?_
      refine zc 4 24 19 #[pg g0, .int .u64 16, .agg #[.int .u64 0, .int .u64 4, .slice aq4 nq4 cq4, .bool false, .int .u64 0, .bool false, .int .u64 1, .slice none 0 0, .slice aq5 nq5 cq5, .slice aq6 nq6 cq6], .agg #[.slice aq36 nq36 cq36, .int .u64 0, .slice none 0 0]] (HoE.cast (E' := kE2) (p := 0) (xs := U36) (hold_any (E := kE1) U.sx (id := 16) ⟨by decide, by decide⟩ ⟨by decide, by decide⟩ (U.nq 3 rfl).nk (by omega) (nq_nil _ _).nk (by omega) (U.nq 2 rfl).nk (by omega) (U.nq 1 rfl).nk (by omega) (U.nq 0 rfl).nk (by omega) (nq_nil _ _).nk (by omega) (by omega) (by omega)) (by decide) kq2 (by decide +kernel)) ?_
      rintro _ v43 ⟨aq38, nq38, cq38, zq38, aq39, nq39, cq39, zq39, K40, n41, N42, rfl, S, qn41, qN42, hK, hC, Q0, mq38, h0, Q1, mq39, h1⟩
      have L := U.lt
      replace U := ((U.op S hK hC).add L Q0 h0).add L Q1 h1
      clear L S hK hC Q0 h0 Q1 h1
      refine ⟨_, rfl, (U.bk 1 rfl), ?_⟩
      refine zs 6 (U.bk 0 rfl) 0 (.agg #[.slice aq38 nq38 cq38, .int .u64 0, .slice aq39 nq39 cq39]) [.slice aq38 nq38 cq38, .int .u64 0, .slice aq39 nq39 cq39] [.slice aq38 nq38 cq38, .int .u64 0, .slice aq39 nq39 cq39] ?_
      intro v44 Y C
      replace U := U.put 0 rfl C Y
      clear Y C
      refine ⟨(U.bk 1 rfl), ?_⟩
      refine gz_done ?_
      exact ge_join (⟨_, _, _, g35, aq38, nq38, cq38, zq38, aq39, nq39, cq39, zq39⟩ : J5) ⟨U.sel [0, 1] [1, 0, 3, 4, 5, 6], by (try dsimp only); omega, by (try dsimp only); omega, by (try dsimp only); omega, by (try dsimp only); omega⟩ (by kernel_rfl)
    exact ga_nil
  clear U
  rintro ⟨KJ, nJ, NJ, gd, a0, k0, c0, z0, a1, k1, c1, z1⟩ v45 ⟨U, qnJ, qNJ, mk0, mk1⟩
  dsimp only at *
  refine gc_seq ?_
  refine gc_reg ?_
  refine tc 25 18 #[.int .u64 10] (eOf (y := 10) ⟨by decide, by decide⟩) ?_
  rintro _ v47 ⟨aq46, nq46, cq46, zq46, rfl, M, h, mq46, B⟩
  refine ⟨_, rfl, ?_⟩
  replace U := U.num M h B
  clear M h B
  refine t 26 (pq g12 7) ?_
  refine ts (U.bk 1 rfl) 7 (.agg #[.slice aq46 nq46 cq46]) [.slice aq46 nq46 cq46] [.int .u64 0, .int .u64 4, .slice aq4 nq4 cq4, .bool false, .int .u64 0, .bool false, .int .u64 1, .slice aq46 nq46 cq46, .slice aq5 nq5 cq5, .slice aq6 nq6 cq6] ?_
  intro v48 Y C
  replace U := U.put 1 rfl C Y
  clear Y C
  refine gl_nil ?_
  refine ge_then ?_
  refine gc_seq ?_
  refine gc_reg ?_
  refine t 28 (pg g0) ?_
  refine tlr 29 [.int .u64 0, .int .u64 4, .slice aq4 nq4 cq4, .bool false, .int .u64 0, .bool false, .int .u64 1, .slice aq46 nq46 cq46, .slice aq5 nq5 cq5, .slice aq6 nq6 cq6] (U.bk 1 rfl) 0 ?_
  refine tc 30 20 #[pg g0, .int .u64 16, .agg #[.int .u64 0, .int .u64 4, .slice aq4 nq4 cq4, .bool false, .int .u64 0, .bool false, .int .u64 1, .slice aq46 nq46 cq46, .slice aq5 nq5 cq5, .slice aq6 nq6 cq6]] (ClE.cast (E' := kE3) (pq := 2) (close_any (E := kE2) U.sx (id := 16) ⟨by decide, by decide⟩ ⟨by decide, by decide⟩ (U.nq 5 rfl).nk (by omega) (U.nq 0 rfl).nk (by omega) (U.nq 4 rfl).nk (by omega) (U.nq 3 rfl).nk (by omega) (by omega) (by omega)) (by decide) kq3) ?_
  rintro _ v56 ⟨aq49, nq49, cq49, zq49, aq50, nq50, cq50, zq50, aq51, nq51, cq51, zq51, aq52, nq52, cq52, zq52, K53, n54, N55, rfl, S, qn54, qN55, hK, hC, Q0, mq49, h0, Q1, mq50, h1, Q2, mq51, h2, Q3, mq52, h3⟩
  refine ⟨_, rfl, ?_⟩
  have L := U.lt
  replace U := ((((U.op S hK hC).add L Q0 h0).add L Q1 h1).add L Q2 h2).add L Q3 h3
  clear L S hK hC Q0 h0 Q1 h1 Q2 h2 Q3 h3
  refine t 27 (.tuple #[.agg #[.int .u64 0, .int .u64 4, .slice aq49 nq49 cq49, .bool false, .int .u64 0, .bool false, .int .u64 2, .slice none 0 0, .slice aq51 nq51 cq51, .slice aq52 nq52 cq52], .agg #[.slice aq50 nq50 cq50]]) ?_
  refine t 31 (.agg #[.int .u64 0, .int .u64 4, .slice aq49 nq49 cq49, .bool false, .int .u64 0, .bool false, .int .u64 2, .slice none 0 0, .slice aq51 nq51 cq51, .slice aq52 nq52 cq52]) ?_
  refine t 32 (.agg #[.slice aq50 nq50 cq50]) ?_
  refine ta 4 [.slice none 0 0] 32 (pg) ?_
  intro v57 g58 Xg58 hg58 B
  replace U := U.new Xg58 hg58 B
  clear Xg58 hg58 B
  refine ts (U.bk 2 rfl) 0 (.agg #[.int .u64 0, .int .u64 4, .slice aq49 nq49 cq49, .bool false, .int .u64 0, .bool false, .int .u64 2, .slice none 0 0, .slice aq51 nq51 cq51, .slice aq52 nq52 cq52]) [.int .u64 0, .int .u64 4, .slice aq49 nq49 cq49, .bool false, .int .u64 0, .bool false, .int .u64 2, .slice none 0 0, .slice aq51 nq51 cq51, .slice aq52 nq52 cq52] [.int .u64 0, .int .u64 4, .slice aq49 nq49 cq49, .bool false, .int .u64 0, .bool false, .int .u64 2, .slice none 0 0, .slice aq51 nq51 cq51, .slice aq52 nq52 cq52] ?_
  intro v59 Y C
  replace U := U.put 2 rfl C Y
  clear Y C
  refine ts (U.bk 0 rfl) 0 (.agg #[.slice aq50 nq50 cq50]) [.slice aq50 nq50 cq50] [.slice aq50 nq50 cq50] ?_
  intro v60 Y C
  replace U := U.put 0 rfl C Y
  clear Y C
  refine gl_nil ?_
  refine ge_then ?_
  refine gc_seq ?_
  refine gc_reg ?_
  refine t 34 (pg g0) ?_
  refine tlr 35 [.int .u64 0, .int .u64 4, .slice aq49 nq49 cq49, .bool false, .int .u64 0, .bool false, .int .u64 2, .slice none 0 0, .slice aq51 nq51 cq51, .slice aq52 nq52 cq52] (U.bk 2 rfl) 0 ?_
  refine tlr 36 [.slice a0 k0 c0, .int .u64 0, .slice a1 k1 c1] (U.bk 1 rfl) 0 ?_
  refine tc 37 14 #[pg g0, .int .u64 16, .agg #[.int .u64 0, .int .u64 4, .slice aq49 nq49 cq49, .bool false, .int .u64 0, .bool false, .int .u64 2, .slice none 0 0, .slice aq51 nq51 cq51, .slice aq52 nq52 cq52], .agg #[.slice a0 k0 c0, .int .u64 0, .slice a1 k1 c1]] (ClmE.cast (c' := 0) (V' := (25 * 10 ^ 35)) (claim_any (x0 := 0) (z0 := 0) (x1 := 0) (z1 := 0) (x2 := 0) (z2 := 0) (x3 := 0) (z3 := 0) (x4 := 0) (z4 := 0) (E := kE3) U.sx (id := 16) ⟨by decide, by decide⟩ (U.nq 6 rfl) (by omega) (by decide +kernel) (by omega) (by decide +kernel) (by omega) (by omega)) (by decide +kernel) (by decide +kernel)) ?_
  rintro _ v62 ⟨aq61, nq61, cq61, zq61, rfl, S, C, Q, mq61, h⟩
  refine ⟨_, rfl, ?_⟩
  have L := U.lt
  replace U := (U.ask S C).add L Q h
  clear L S C Q h
  refine t 33 (.tuple #[.agg #[.slice aq61 nq61 cq61], .int .i64 0]) ?_
  refine t 38 (.agg #[.slice aq61 nq61 cq61]) ?_
  refine t 39 (.int .i64 0) ?_
  refine ta 5 [.slice none 0 0] 32 (pg) ?_
  intro v63 g64 Xg64 hg64 B
  replace U := U.new Xg64 hg64 B
  clear Xg64 hg64 B
  refine ts (U.bk 0 rfl) 0 (.agg #[.slice aq61 nq61 cq61]) [.slice aq61 nq61 cq61] [.slice aq61 nq61 cq61] ?_
  intro v65 Y C
  replace U := U.put 0 rfl C Y
  clear Y C
  refine t 6 (.int .i64 0) ?_
  refine gl_nil ?_
  refine ge_then ?_
  refine gc_fr [(1, pg g0), (2, pg g12), (3, pg gd), (4, pg g58), (5, pg g64), (6, .int .i64 0)] (by kernel_rfl) ?_
  refine gc_seq ?_
  refine gc_seq ?_
  refine gc_reg ?_
  refine t 40 (pq g12 6) ?_
  refine tl 41 (.int .u64 2) (U.bk 3 rfl) 6 ?_
  refine t 42 (.bool false) ?_
  refine t 43 (.bool false) ?_
  refine t 44 (pq gd 1) ?_
  refine tl 45 (.int .u64 0) (U.bk 2 rfl) 1 ?_
  refine t 46 (.bool false) ?_
  refine t 47 (.bool false) ?_
  refine t 48 (.bool false) ?_
  refine t 49 (pq gd 2) ?_
  refine tlr 50 [.slice a1 k1 c1] (U.bk 2 rfl) 2 ?_
  refine tc 51 21 #[.agg #[.slice a1 k1 c1]] (dText (U.nq 7 rfl).nat (by omega) (appAll_small (by decide +kernel))) ?_
  rintro _ v66 ⟨T, rfl, D, hT, B⟩
  refine ⟨_, rfl, ?_⟩
  obtain rfl := dtext_is D [49] [49] (by decide) (by decide +kernel) (by decide) (.inl rfl) (by decide +kernel)
  clear D hT
  replace U := U.keep B
  clear B
  refine t 52 (.bool false) ?_
  refine t 53 (.bool false) ?_
  refine t 54 (.bool false) ?_
  refine tlr 55 [.slice aq50 nq50 cq50] (U.bk 1 rfl) 0 ?_
  refine tc 56 22 #[.agg #[.slice aq50 nq50 cq50]] (dZ (b := true) (U.nq 3 rfl).nat (by omega) (by decide +kernel)) ?_
  rintro _ v67 ⟨rfl, B⟩
  refine ⟨_, rfl, ?_⟩
  replace U := U.keep B
  clear B
  refine t 57 (.bool false) ?_
  refine t 58 (.bool false) ?_
  refine t 59 (.bool false) ?_
  refine tlr 60 [.slice aq61 nq61 cq61] (U.bk 0 rfl) 0 ?_
  refine tc 61 21 #[.agg #[.slice aq61 nq61 cq61]] (dText (U.nq 0 rfl).nat (by omega) (appAll_small (by decide +kernel))) ?_
  rintro _ v68 ⟨T, rfl, D, hT, B⟩
  refine ⟨_, rfl, ?_⟩
  obtain rfl := dtext_is D [50, 46, 53] [50] (by decide) (by decide +kernel) (by decide) (.inl rfl) (by decide +kernel)
  clear D hT
  replace U := U.keep B
  clear B
  refine t 62 (.bool false) ?_
  refine t 63 (.bool false) ?_
  refine t 64 (.bool false) ?_
  refine t 65 (.int .i64 0) ?_
  refine t 66 (.bool false) ?_
  refine t 67 (.bool false) ?_
  refine gl_nil ?_
  refine ge_then ?_
  refine gc_fr [(1, pg g0), (2, pg g12), (3, pg gd), (67, .bool false)] (by kernel_rfl) ?_
  refine gc_no ?_
  refine gc_skip ?_
  refine ge_then ?_
  refine gc_seq ?_
  refine gc_reg ?_
  refine t 69 (pg g0) ?_
  refine tlr 70 [.int .u64 0, .int .u64 4, .slice aq49 nq49 cq49, .bool false, .int .u64 0, .bool false, .int .u64 2, .slice none 0 0, .slice aq51 nq51 cq51, .slice aq52 nq52 cq52] (U.bk 3 rfl) 0 ?_
  refine tc 71 20 #[pg g0, .int .u64 16, .agg #[.int .u64 0, .int .u64 4, .slice aq49 nq49 cq49, .bool false, .int .u64 0, .bool false, .int .u64 2, .slice none 0 0, .slice aq51 nq51 cq51, .slice aq52 nq52 cq52]] (ClE.cast (E' := kE4) (pq := 3) (close_any (E := kE3) U.sx (id := 16) ⟨by decide, by decide⟩ ⟨by decide, by decide⟩ (U.nq 4 rfl).nk (by omega) (nq_nil _ _).nk (by omega) (U.nq 2 rfl).nk (by omega) (U.nq 1 rfl).nk (by omega) (by omega) (by omega)) (by decide) kq4) ?_
  rintro _ v76 ⟨aq69, nq69, cq69, zq69, aq70, nq70, cq70, zq70, aq71, nq71, cq71, zq71, aq72, nq72, cq72, zq72, K73, n74, N75, rfl, S, qn74, qN75, hK, hC, Q0, mq69, h0, Q1, mq70, h1, Q2, mq71, h2, Q3, mq72, h3⟩
  refine ⟨_, rfl, ?_⟩
  have L := U.lt
  replace U := ((((U.op S hK hC).add L Q0 h0).add L Q1 h1).add L Q2 h2).add L Q3 h3
  clear L S hK hC Q0 h0 Q1 h1 Q2 h2 Q3 h3
  refine t 68 (.tuple #[.agg #[.int .u64 0, .int .u64 4, .slice aq69 nq69 cq69, .bool false, .int .u64 0, .bool false, .int .u64 3, .slice none 0 0, .slice aq71 nq71 cq71, .slice aq72 nq72 cq72], .agg #[.slice aq70 nq70 cq70]]) ?_
  refine t 72 (.agg #[.int .u64 0, .int .u64 4, .slice aq69 nq69 cq69, .bool false, .int .u64 0, .bool false, .int .u64 3, .slice none 0 0, .slice aq71 nq71 cq71, .slice aq72 nq72 cq72]) ?_
  refine t 73 (.agg #[.slice aq70 nq70 cq70]) ?_
  refine ts (U.bk 3 rfl) 0 (.agg #[.int .u64 0, .int .u64 4, .slice aq69 nq69 cq69, .bool false, .int .u64 0, .bool false, .int .u64 3, .slice none 0 0, .slice aq71 nq71 cq71, .slice aq72 nq72 cq72]) [.int .u64 0, .int .u64 4, .slice aq69 nq69 cq69, .bool false, .int .u64 0, .bool false, .int .u64 3, .slice none 0 0, .slice aq71 nq71 cq71, .slice aq72 nq72 cq72] [.int .u64 0, .int .u64 4, .slice aq69 nq69 cq69, .bool false, .int .u64 0, .bool false, .int .u64 3, .slice none 0 0, .slice aq71 nq71 cq71, .slice aq72 nq72 cq72] ?_
  intro v77 Y C
  replace U := U.put 3 rfl C Y
  clear Y C
  refine gl_nil ?_
  refine ge_then ?_
  refine gc_seq ?_
  refine gc_reg ?_
  refine t 74 (pg g0) ?_
  refine tlr 75 [.int .u64 0, .int .u64 4, .slice aq69 nq69 cq69, .bool false, .int .u64 0, .bool false, .int .u64 3, .slice none 0 0, .slice aq71 nq71 cq71, .slice aq72 nq72 cq72] (U.bk 3 rfl) 0 ?_
  refine tc 76 23 #[pg g0, .int .u64 16, .agg #[.int .u64 0, .int .u64 4, .slice aq69 nq69 cq69, .bool false, .int .u64 0, .bool false, .int .u64 3, .slice none 0 0, .slice aq71 nq71 cq71, .slice aq72 nq72 cq72], .int .u64 2] (CuE.cast (E' := kE5) (p := 2) (cut_any (E := kE4) (af := 2) U.sx (id := 16) ⟨by decide, by decide⟩ (U.nq 3 rfl).nk (by omega) (nq_nil _ _).nk (by omega) (U.nq 1 rfl).nk (by omega) (U.nq 0 rfl).nk (by omega) (by omega) (by omega)) (by decide) kq5) ?_
  rintro _ v85 ⟨aq78, nq78, cq78, zq78, aq79, nq79, cq79, zq79, aq80, nq80, cq80, zq80, aq81, nq81, cq81, zq81, K82, n83, N84, rfl, S, qn83, qN84, hK, hC, Q0, mq78, h0, Q1, mq79, h1, Q2, mq80, h2, Q3, mq81, h3⟩
  refine ⟨_, rfl, ?_⟩
  have L := U.lt
  replace U := ((((U.op S hK hC).add L Q0 h0).add L Q1 h1).add L Q2 h2).add L Q3 h3
  clear L S hK hC Q0 h0 Q1 h1 Q2 h2 Q3 h3
  refine ts (U.bk 3 rfl) 0 (.agg #[.int .u64 0, .int .u64 2, .slice aq78 nq78 cq78, .bool false, .int .u64 0, .bool false, .int .u64 3, .slice aq79 nq79 cq79, .slice aq80 nq80 cq80, .slice aq81 nq81 cq81]) [.int .u64 0, .int .u64 2, .slice aq78 nq78 cq78, .bool false, .int .u64 0, .bool false, .int .u64 3, .slice aq79 nq79 cq79, .slice aq80 nq80 cq80, .slice aq81 nq81 cq81] [.int .u64 0, .int .u64 2, .slice aq78 nq78 cq78, .bool false, .int .u64 0, .bool false, .int .u64 3, .slice aq79 nq79 cq79, .slice aq80 nq80 cq80, .slice aq81 nq81 cq81] ?_
  intro v86 Y C
  replace U := U.put 3 rfl C Y
  clear Y C
  refine gl_nil ?_
  refine ge_then ?_
  refine gc_seq ?_
  refine gc_reg ?_
  refine tc 77 18 #[.int .u64 10] (eOf (y := 10) ⟨by decide, by decide⟩) ?_
  rintro _ v88 ⟨aq87, nq87, cq87, zq87, rfl, M, h, mq87, B⟩
  refine ⟨_, rfl, ?_⟩
  replace U := U.num M h B
  clear M h B
  refine t 78 (pq g12 7) ?_
  refine ts (U.bk 3 rfl) 7 (.agg #[.slice aq87 nq87 cq87]) [.slice aq87 nq87 cq87] [.int .u64 0, .int .u64 2, .slice aq78 nq78 cq78, .bool false, .int .u64 0, .bool false, .int .u64 3, .slice aq87 nq87 cq87, .slice aq80 nq80 cq80, .slice aq81 nq81 cq81] ?_
  intro v89 Y C
  replace U := U.put 3 rfl C Y
  clear Y C
  refine gl_nil ?_
  refine ge_then ?_
  refine gc_seq ?_
  refine gc_reg ?_
  refine t 80 (pg g0) ?_
  refine tlr 81 [.int .u64 0, .int .u64 2, .slice aq78 nq78 cq78, .bool false, .int .u64 0, .bool false, .int .u64 3, .slice aq87 nq87 cq87, .slice aq80 nq80 cq80, .slice aq81 nq81 cq81] (U.bk 3 rfl) 0 ?_
  refine tc 82 20 #[pg g0, .int .u64 16, .agg #[.int .u64 0, .int .u64 2, .slice aq78 nq78 cq78, .bool false, .int .u64 0, .bool false, .int .u64 3, .slice aq87 nq87 cq87, .slice aq80 nq80 cq80, .slice aq81 nq81 cq81]] (ClE.cast (E' := kE6) (pq := 4) (close_any (E := kE5) U.sx (id := 16) ⟨by decide, by decide⟩ ⟨by decide, by decide⟩ (U.nq 4 rfl).nk (by omega) (U.nq 0 rfl).nk (by omega) (U.nq 2 rfl).nk (by omega) (U.nq 1 rfl).nk (by omega) (by omega) (by omega)) (by decide) kq6) ?_
  rintro _ v97 ⟨aq90, nq90, cq90, zq90, aq91, nq91, cq91, zq91, aq92, nq92, cq92, zq92, aq93, nq93, cq93, zq93, K94, n95, N96, rfl, S, qn95, qN96, hK, hC, Q0, mq90, h0, Q1, mq91, h1, Q2, mq92, h2, Q3, mq93, h3⟩
  refine ⟨_, rfl, ?_⟩
  have L := U.lt
  replace U := ((((U.op S hK hC).add L Q0 h0).add L Q1 h1).add L Q2 h2).add L Q3 h3
  clear L S hK hC Q0 h0 Q1 h1 Q2 h2 Q3 h3
  refine t 79 (.tuple #[.agg #[.int .u64 0, .int .u64 2, .slice aq90 nq90 cq90, .bool false, .int .u64 0, .bool false, .int .u64 4, .slice none 0 0, .slice aq92 nq92 cq92, .slice aq93 nq93 cq93], .agg #[.slice aq91 nq91 cq91]]) ?_
  refine t 83 (.agg #[.int .u64 0, .int .u64 2, .slice aq90 nq90 cq90, .bool false, .int .u64 0, .bool false, .int .u64 4, .slice none 0 0, .slice aq92 nq92 cq92, .slice aq93 nq93 cq93]) ?_
  refine t 84 (.agg #[.slice aq91 nq91 cq91]) ?_
  refine ts (U.bk 3 rfl) 0 (.agg #[.int .u64 0, .int .u64 2, .slice aq90 nq90 cq90, .bool false, .int .u64 0, .bool false, .int .u64 4, .slice none 0 0, .slice aq92 nq92 cq92, .slice aq93 nq93 cq93]) [.int .u64 0, .int .u64 2, .slice aq90 nq90 cq90, .bool false, .int .u64 0, .bool false, .int .u64 4, .slice none 0 0, .slice aq92 nq92 cq92, .slice aq93 nq93 cq93] [.int .u64 0, .int .u64 2, .slice aq90 nq90 cq90, .bool false, .int .u64 0, .bool false, .int .u64 4, .slice none 0 0, .slice aq92 nq92 cq92, .slice aq93 nq93 cq93] ?_
  intro v98 Y C
  replace U := U.put 3 rfl C Y
  clear Y C
  refine gl_nil ?_
  refine ge_then ?_
  refine gc_fr [(1, pg g0), (2, pg g12), (3, pg gd)] (by kernel_rfl) ?_
  refine gc_seq ?_
  refine gc_reg ?_
  refine t 86 (pg g0) ?_
  refine tlr 87 [.int .u64 0, .int .u64 2, .slice aq90 nq90 cq90, .bool false, .int .u64 0, .bool false, .int .u64 4, .slice none 0 0, .slice aq92 nq92 cq92, .slice aq93 nq93 cq93] (U.bk 3 rfl) 0 ?_
  refine tlr 88 [.slice a0 k0 c0, .int .u64 0, .slice a1 k1 c1] (U.bk 2 rfl) 0 ?_
  refine tc 89 14 #[pg g0, .int .u64 16, .agg #[.int .u64 0, .int .u64 2, .slice aq90 nq90 cq90, .bool false, .int .u64 0, .bool false, .int .u64 4, .slice none 0 0, .slice aq92 nq92 cq92, .slice aq93 nq93 cq93], .agg #[.slice a0 k0 c0, .int .u64 0, .slice a1 k1 c1]] (ClmE.cast (c' := 1) (V' := (5 * 10 ^ 36)) (claim_any (x0 := 0) (z0 := 0) (x1 := 0) (z1 := 0) (x2 := 0) (z2 := 0) (x3 := 0) (z3 := 0) (x4 := 0) (z4 := 0) (E := kE6) U.sx (id := 16) ⟨by decide, by decide⟩ (U.nq 20 rfl) (by omega) (by decide +kernel) (by omega) (by decide +kernel) (by omega) (by omega)) (by decide +kernel) (by decide +kernel)) ?_
  rintro _ v100 ⟨aq99, nq99, cq99, zq99, rfl, S, C, Q, mq99, h⟩
  refine ⟨_, rfl, ?_⟩
  have L := U.lt
  replace U := (U.ask S C).add L Q h
  clear L S C Q h
  refine t 85 (.tuple #[.agg #[.slice aq99 nq99 cq99], .int .i64 1]) ?_
  refine t 90 (.agg #[.slice aq99 nq99 cq99]) ?_
  refine t 91 (.int .i64 1) ?_
  refine ta 7 [.slice none 0 0] 32 (pg) ?_
  intro v101 g102 Xg102 hg102 B
  replace U := U.new Xg102 hg102 B
  clear Xg102 hg102 B
  refine ts (U.bk 0 rfl) 0 (.agg #[.slice aq99 nq99 cq99]) [.slice aq99 nq99 cq99] [.slice aq99 nq99 cq99] ?_
  intro v103 Y C
  replace U := U.put 0 rfl C Y
  clear Y C
  refine t 8 (.int .i64 1) ?_
  refine gl_nil ?_
  refine ge_then ?_
  refine gc_seq ?_
  refine gc_reg ?_
  refine t 93 (pg g0) ?_
  refine tc 94 9 #[pg g0, .int .u64 16] (count_v (E := kE6) (a := 3) (b := 1) U.sx (id := 16) ⟨by decide, by decide⟩ (by omega) (by omega) (by decide +kernel) (by decide +kernel)) ?_
  rintro _ v106 ⟨K104, n105, rfl, S, qn105, hK, hC⟩
  refine ⟨_, rfl, ?_⟩
  replace U := U.op S hK hC
  clear S hK hC
  refine t 92 (.tuple #[.int .i64 3, .int .i64 1]) ?_
  refine t 95 (.int .i64 3) ?_
  refine t 96 (.int .i64 1) ?_
  refine t 9 (.int .i64 3) ?_
  refine t 10 (.int .i64 1) ?_
  refine gl_nil ?_
  refine ge_then ?_
  refine gc_fr [(1, pg g0), (2, pg g12), (3, pg gd), (7, pg g102), (8, .int .i64 1), (9, .int .i64 3), (10, .int .i64 1)] (by kernel_rfl) ?_
  refine gc_seq ?_
  refine gc_reg ?_
  refine t 97 (pg g0) ?_
  refine tlr 98 [.slice a0 k0 c0, .int .u64 0, .slice a1 k1 c1] (U.bk 3 rfl) 0 ?_
  refine tc 99 24 #[pg g0, .int .u64 16, .agg #[.slice a0 k0 c0, .int .u64 0, .slice a1 k1 c1]] (SxF.castE (E' := kE7) (free_any (E := kE6) U.sx (id := 16) ⟨by decide, by decide⟩ (U.nq 20 rfl).nk (by omega) (U.nq 21 rfl).nk (by omega) (by omega) (by omega)) kq7) ?_
  rintro _ v110 ⟨rfl, K107, n108, N109, S, qn108, qN109, hK, hC⟩
  refine ⟨_, rfl, ?_⟩
  replace U := U.op S hK hC
  clear S hK hC
  refine gl_nil ?_
  refine ge_then ?_
  refine gc_seq ?_
  refine gc_reg ?_
  refine t 101 (pg g0) ?_
  refine tc 102 9 #[pg g0, .int .u64 16] (count_v (E := kE7) (a := 2) (b := 1) U.sx (id := 16) ⟨by decide, by decide⟩ (by omega) (by omega) (by decide +kernel) (by decide +kernel)) ?_
  rintro _ v113 ⟨K111, n112, rfl, S, qn112, hK, hC⟩
  refine ⟨_, rfl, ?_⟩
  replace U := U.op S hK hC
  clear S hK hC
  refine t 100 (.tuple #[.int .i64 2, .int .i64 1]) ?_
  refine t 103 (.int .i64 2) ?_
  refine t 104 (.int .i64 1) ?_
  refine t 11 (.int .i64 2) ?_
  refine t 12 (.int .i64 1) ?_
  refine gl_nil ?_
  refine ge_then ?_
  refine gc_seq ?_
  refine gc_reg ?_
  refine t 105 (pg g0) ?_
  refine tc 106 11 #[pg g0, .int .u64 16] (gone_v (E' := kE8) (E := kE7) U.sx (id := 16) ⟨by decide, by decide⟩ (by omega) (by omega) kq8) ?_
  rintro _ v120 ⟨K114, n115, N116, rfl, S, qn115, qN116, hK, hC⟩
  refine ⟨_, rfl, ?_⟩
  replace U := U.op S hK hC
  clear S hK hC
  refine gl_nil ?_
  refine ge_then ?_
  refine gc_fr [(1, pg g0), (2, pg g12), (7, pg g102), (8, .int .i64 1), (9, .int .i64 3), (10, .int .i64 1), (11, .int .i64 2)] (by kernel_rfl) ?_
  refine gc_seq ?_
  refine gc_reg ?_
  refine t 107 (pq g12 1) ?_
  refine tl 108 (.int .u64 2) (U.bk 4 rfl) 1 ?_
  refine t 109 (.bool true) ?_
  refine t 110 (.bool true) ?_
  refine tlr 111 [.slice aq99 nq99 cq99] (U.bk 0 rfl) 0 ?_
  refine tc 112 21 #[.agg #[.slice aq99 nq99 cq99]] (dText (U.nq 0 rfl).nat (by omega) (appAll_small (by decide +kernel))) ?_
  rintro _ v121 ⟨T, rfl, D, hT, B⟩
  refine ⟨_, rfl, ?_⟩
  obtain rfl := dtext_is D [53] [53] (by decide) (by decide +kernel) (by decide) (.inl rfl) (by decide +kernel)
  clear D hT
  replace U := U.keep B
  clear B
  refine t 113 (.bool true) ?_
  refine t 114 (.bool true) ?_
  refine t 115 (.bool true) ?_
  refine t 116 (.int .i64 1) ?_
  refine t 117 (.bool true) ?_
  refine t 118 (.bool true) ?_
  refine t 119 (.bool true) ?_
  refine t 120 (.int .i64 3) ?_
  refine t 121 (.bool true) ?_
  refine t 122 (.bool true) ?_
  refine t 123 (.bool true) ?_
  refine t 124 (.int .i64 1) ?_
  refine t 125 (.bool true) ?_
  refine t 126 (.bool true) ?_
  refine t 127 (.bool true) ?_
  refine t 128 (.int .i64 2) ?_
  refine t 129 (.bool true) ?_
  refine t 130 (.bool true) ?_
  refine t 131 (.bool true) ?_
  refine t 132 (pg g0) ?_
  refine tc 133 12 #[pg g0] (dumpF (E := kE8) (m := 0) U.sx (by omega) (by decide +kernel)) ?_
  rintro _ v122 ⟨da, dc, rfl, B⟩
  refine ⟨_, rfl, ?_⟩
  replace U := U.keep B
  clear B
  refine t 134 (.int .i64 0) ?_
  refine t 135 (.bool true) ?_
  refine t 136 (.bool true) ?_
  refine t 0 (.bool true) ?_
  refine gl_nil ?_
  refine ge_then ?_
  refine gc_fr [(0, .bool true)] (by kernel_rfl) ?_
  refine gc_ret ?_
  refine ge_ret (.bool true) (rs1 0 (by kernel_rfl) (by kernel_rfl)) ?_
  exact ⟨rfl, U.bb⟩
end Fo
end Go.Proofs.YtjejmkcjflhoiaaGreatDoor

namespace Go.Proofs.YtjejmkcjflhoiaaGreatDoor
namespace Fo
open Go.RowKit Go.Lib Pg Lim Gl Kv Bk Pw
attribute [local go_sem] Oper.semAt_some
set_option maxRecDepth 100000
set_option linter.unusedVariables false
set_option linter.unusedSimpArgs false
set_option maxHeartbeats 4000000
theorem cellB {w W : World} {b o : Nat} {v : Value} (B : Below w.heap.size w W) (h : w.cell? ⟨b, o, none⟩ = some v) : W.cell? ⟨b, o, none⟩ = some v := by
  rw [World.cell?_of_block (w := w) (B.block b (cell_lt h))]; exact h
theorem run_ixa {P : Program} {ρ : Operand → Value} {o : Oper} {w : World} {ao : Option Addr} (sz b off n c k : Nat) (hk : k < n) (hao : 0 < n → ao = some ⟨b, off, none⟩) (ho : ∃ T x y, o.op = .indexAddr T x y ∧ slT P T sz = true ∧ ρ x = .slice ao n c ∧ ρ y = .int .i64 (k : Int) := by exact ⟨_, _, _, rfl, by kernel_rfl, by kernel_rfl, by kernel_rfl⟩) : (execOp ρ o).run P w = .ok (.value (.pointer (some ⟨b, off + k * sz, none⟩))) w := by
  rw [hao (by omega)] at ho
  exact run_ixs sz b off n c k hk ho
theorem ld_nat {w : World} {g o : Nat} {v : Value} (c : w.cell? ⟨g, o, none⟩ = some v) : (loadVar 30 ⟨g, o, none⟩).run Tryz.prog w = .ok v w := by go_simp
theorem run_ldn {ρ : Operand → Value} {o : Oper} {w : World} {b off : Nat} {v : Value} (hc : w.cell? ⟨b, off, none⟩ = some v) (ho : ∃ p, o.op = .load 30 p ∧ ρ p = .pointer (some ⟨b, off, none⟩) := by exact ⟨_, rfl, by kernel_rfl⟩) : (execOp ρ o).run Tryz.prog w = .ok (.value v) w := by
  obtain ⟨p, h, hp⟩ := ho
  have := ld_nat hc
  simp only [execOp, h, hp]
  simp [Instr.loadAt, Instr.sureAddr, Result.andThen, this]
theorem run_remu {ρ : Operand → Value} {w : World} {o : Oper} (p q : Int) (hp : 0 ≤ p ∧ p < 18446744073709551616) (hq : 0 < q ∧ q < 18446744073709551616) (ho : ∃ u v, o.op = .binOp .rem 22 u v 22 ∧ ρ u = .int .u64 p ∧ ρ v = .int .u64 q := by exact ⟨_, _, rfl, by kernel_rfl, by kernel_rfl⟩) : (execOp ρ o).run Tryz.prog w = .ok (.value (.int .u64 (p % q))) w := by
  obtain ⟨u, v, h, h1, h2⟩ := ho
  have e : p.tmod q = p % q := Int.tmod_eq_emod_of_nonneg hp.1
  have e1 := Int.emod_nonneg p (show q ≠ 0 by omega)
  have e2 := Int.emod_lt_of_pos p hq.1
  have e3 : p % q % 18446744073709551616 = p % q := Int.emod_eq_of_lt e1 (by omega)
  have e4 : ¬ q = 0 := by omega
  simp only [execOp, h, h1, h2]
  go_simp
  try simp [e, e3, e4]
theorem dCmpLe {w : World} {ao ao' : Option Addr} {n c n' c' : Nat} {x y : Int} (h : NatA w ao n c x) (h' : NatA w ao' n' c' y) (hn : n ≤ 1099511627776) (hn' : n' ≤ 1099511627776) (hxy : x ≤ y) : Calls Tryz.prog 15 #[.agg #[.slice ao n c], .agg #[.slice ao' n' c']] w fun e w' => ∃ r, e = .returned (.int .i64 r) ∧ r ≤ 0 ∧ Below w.heap.size w w' := by
  refine (dCmp h h' hn hn').mono ?_
  rintro e w' ⟨rfl, B⟩
  exact ⟨_, rfl, by unfold sgn; split <;> (try split) <;> omega, B⟩
theorem u64r {v : Int} (b : (Lit.int .u64 v).wf = true) : 0 ≤ v ∧ v < 18446744073709551616 := by
  have := bounds_u64 b
  omega
theorem row_nat {w : World} {a0 : Option Addr} {n0 c0 : Nat} {z0 : List Int} (h : IsRow w a0 n0 c0 z0) : ∃ x, NatA w a0 n0 c0 x ∧ n0 ≤ 9223372036854775807 := by
  obtain ⟨g1, o1, l1, hl1, hc1, hm1, W1, h3⟩ := h.open
  exact ⟨val l1, ⟨g1, o1, l1, hl1, hc1, W1, h3, rfl⟩, hm1⟩
theorem claim_fs {B : Nat} {w : World} {K : Nat → Prop} {g : Nat} {E : Ents} {W : List Ents} {n N : Nat} {rt tk un pe la fr : Int} {jl bo : Bool} {R : Int → Int} {L : List Int} {C : List (Int × Int × Int)} {a0 a1 a2 a3 a4 a5 : Option Addr} {n0 c0 n1 c1 n2 c2 n3 c3 n4 c4 n5 c5 z5 : Nat} {x5 : Int} (h : Sx B w K g E W n N) (F : Fs E 16 la R L C) (Q5 : Nq w K z5 a5 n5 c5 x5) (m5 : n5 ≤ 1000000) (hf : fr ∈ L) (hp : (pe - 1) % 18446744073709551616 = la) (hC : C.length ≤ 1000) (hn2 : n ≤ 1000000000000000000) (hN : N + 3000 ≤ 100000000) : Calls Tryz.prog 14 #[pg g, .int .u64 16, .agg #[.int .u64 rt, .int .u64 tk, .slice a0 n0 c0, .bool jl, .int .u64 un, .bool bo, .int .u64 pe, .slice a1 n1 c1, .slice a2 n2 c2, .slice a3 n3 c3], .agg #[.slice a4 n4 c4, .int .u64 fr, .slice a5 n5 c5]] w (ClmE B w K g E W n N (aft C fr).length (cmV R (aft C fr) fr la x5)) := by
  subst hp
  have hu := (F.hL fr hf).1
  have e1 := F.cutsA hu
  have e2 := F.claim (x := x5) hf
  have hl : (cutsL E 16 fr ((pe - 1) % 18446744073709551616)).length ≤ 1000 := by
    rw [e1]
    exact Nat.le_trans (List.length_filter_le _ _) hC
  have t := claim_any (x0 := 0) (z0 := 0) (x1 := 0) (z1 := 0) (x2 := 0) (z2 := 0) (x3 := 0) (z3 := 0) (x4 := 0) (z4 := 0) (rt := rt) (tk := tk) (un := un) (jl := jl) (bo := bo) (a0 := a0) (n0 := n0) (c0 := c0) (a1 := a1) (n1 := n1) (c1 := c1) (a2 := a2) (n2 := n2) (c2 := c2) (a3 := a3) (n3 := n3) (c3 := c3) (a4 := a4) (n4 := n4) (c4 := c4) h ⟨by decide, by decide⟩ Q5 m5 (F.frm8 hu F.ul) hn2 hl (by omega) hN
  rw [e1, e2] at t
  exact t
theorem lim_256 {k : Int} (h : k ≤ 1000000 * 18446744073709551616 ^ 4) : k < LIM := by
  have : (1000000 * 18446744073709551616 ^ 4 : Int) < LIM := by unfold LIM; decide +kernel
  omega
end Fo
end Go.Proofs.YtjejmkcjflhoiaaGreatDoor
