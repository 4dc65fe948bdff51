/- Several texts, joined: FoW, FoD, DiB. -/
import Derived.Test.YtpoifdokmjhclaaGreatJyz
namespace Go.Proofs.YtpoifdokmjhclaaGreat
namespace Fo
open Go.RowKit Go.Lib Pg Lim Gl Kv Bk Pw
set_option maxRecDepth 100000
set_option linter.unusedVariables false
set_option maxHeartbeats 1000000
theorem not_opF {w : World} {K K' : Nat → Prop} {x : Nat} {cs : List Value} {t : TypeId} (X : Blk w x cs t) (h : ¬ K x) (hK : ∀ b, K' b → K b ∨ w.heap.size ≤ b) : ¬ K' x := fun q => (hK x q).elim h (fun q => by have := X.lt; omega)
abbrev Bx := Nat × List Value × TypeId
abbrev Nx := Nat × Option Addr × Nat × Nat × Int
/-- from w0 on, within a function: the store, blocks of one's own, numbers beside them -/
structure Ut (w0 : World) (K0 : Nat → Prop) (B g0 : Nat) (W : List Ents) (w : World) (K : Nat → Prop) (E : Ents) (n N : Nat) (bs : List Bx) (qs : List Nx) : Prop where
  ta : Bk.At B w0 K0 w K g0 E W n N
  b : ∀ p ∈ bs, Blk w p.1 p.2.1 p.2.2 ∧ ¬ K p.1 ∧ w0.heap.size ≤ p.1
  q : ∀ r ∈ qs, Nq w K r.1 r.2.1 r.2.2.1 r.2.2.2.1 r.2.2.2.2
  e : ∀ p ∈ bs, ∀ r ∈ qs, r.2.2.1 = 0 ∨ r.1 ≠ p.1
  d : bs.Pairwise (fun a b => a.1 ≠ b.1)
section
variable {w0 w w' : World} {B g0 n N n' N' g i : Nat} {K0 K K' : Nat → Prop} {W : List Ents} {E E' : Ents} {bs : List Bx} {qs : List Nx} {cs cs' : List Value} {t : TypeId}
theorem Ut.lt (h : Ut w0 K0 B g0 W w K E n N bs qs) : ∀ p ∈ bs, p.1 < w.heap.size := fun p hp => (h.b p hp).1.lt
theorem ut_of (h : Sx B w K g0 E W n N) : Ut w K B g0 W w K E n N [] [] := ⟨h.at, fun _ h => (List.not_mem_nil h).elim, fun _ h => (List.not_mem_nil h).elim, fun _ h => (List.not_mem_nil h).elim, List.Pairwise.nil⟩
theorem Ut.keep (h : Ut w0 K0 B g0 W w K E n N bs qs) (b : Below w.heap.size w w') : Ut w0 K0 B g0 W w' K E n N bs qs := ⟨h.ta.keep b, fun p hp => ⟨(h.b p hp).1.keep b, (h.b p hp).2⟩, fun r hr => (h.q r hr).keep b, h.e, h.d⟩
theorem Ut.drew (h : Ut w0 K0 B g0 W w K E n N bs qs) : Ut w0 K0 B g0 W w.drew K E n N bs qs := h.keep (Below.refl _ _).drew
theorem Ut.op (h : Ut w0 K0 B g0 W w K E n N bs qs) (S : Sx B w' K' g0 E' W n' N') (hK : ∀ b, K' b → K b ∨ w.heap.size ≤ b) (hC : Chg K w w') : Ut w0 K0 B g0 W w' K' E' n' N' bs qs := ⟨h.ta.op S hK hC, fun p hp => ⟨(h.b p hp).1.chg hC (h.b p hp).2.1, not_opF (h.b p hp).1 (h.b p hp).2.1 hK, (h.b p hp).2.2⟩, fun r hr => (h.q r hr).op hK hC, h.e, h.d⟩
theorem Ut.add {z k d : Nat} {a : Option Addr} {x : Int} {s : Nat} (h : Ut w0 K0 B g0 W w K E n N bs qs) (L : ∀ p ∈ bs, p.1 < s) (Q : Nq w K z a k d x) (hz : k = 0 ∨ s ≤ z) : Ut w0 K0 B g0 W w K E n N bs ((z, a, k, d, x) :: qs) := ⟨h.ta, h.b, List.forall_mem_cons.2 ⟨Q, h.q⟩, fun p hp => List.forall_mem_cons.2 ⟨hz.imp_right (fun q e => by have := L p hp; have e' : z = p.1 := e; omega), h.e p hp⟩, h.d⟩
theorem Ut.num {z k d : Nat} {a : Option Addr} {x : Int} (h : Ut w0 K0 B g0 W w K E n N bs qs) (M : Nf w' z a k d x) (hz : k = 0 ∨ w.heap.size ≤ z) (b : Below w.heap.size w w') : Ut w0 K0 B g0 W w' K E n N bs ((z, a, k, d, x) :: qs) := (h.keep b).add h.lt (nq_of h.ta.sx M hz) hz
theorem Ut.new (h : Ut w0 K0 B g0 W w K E n N bs qs) (X : Blk w' g cs t) (hg : w.heap.size ≤ g) (b : Below w.heap.size w w') : Ut w0 K0 B g0 W w' K E n N ((g, cs, t) :: bs) qs := by
  have u := h.keep b
  refine ⟨u.ta, List.forall_mem_cons.2 ⟨⟨X, fun q => by have := h.ta.sx.sa.lt q; omega, Nat.le_trans h.ta.size hg⟩, u.b⟩, u.q, List.forall_mem_cons.2 ⟨fun r hr => ne1 (h.q r hr).lt hg, u.e⟩, List.pairwise_cons.2 ⟨fun p hp e => by have := h.lt p hp; have e' : g = p.1 := e; omega, u.d⟩⟩
theorem Ut.bk (h : Ut w0 K0 B g0 W w K E n N bs qs) (i : Nat) (hi : bs[i]? = some (g, cs, t)) : Blk w g cs t := (h.b _ (List.mem_of_getElem? hi)).1
theorem Ut.nq {z k d : Nat} {a : Option Addr} {x : Int} (h : Ut w0 K0 B g0 W w K E n N bs qs) (i : Nat) (hi : qs[i]? = some (z, a, k, d, x)) : Nq w K z a k d x := h.q _ (List.mem_of_getElem? hi)
theorem mem_setB {p q : Bx} : ∀ {bs : List Bx} {i : Nat}, p ∈ bs.set i q → p = q ∨ p ∈ bs
  | [], _, h => .inr h
  | b :: bs, 0, h => (List.mem_cons.1 h).imp id (List.mem_cons_of_mem _)
  | b :: bs, i + 1, h => (List.mem_cons.1 h).elim (fun e => .inr (e ▸ List.mem_cons_self)) (fun h => (mem_setB h).imp id (List.mem_cons_of_mem _))
theorem set_ne {q : Bx} : ∀ {bs : List Bx} {i : Nat}, bs.Pairwise (fun a b => a.1 ≠ b.1) → (hi : bs[i]? = some (g, cs, t)) → q.1 = g → (bs.set i q).Pairwise (fun a b => a.1 ≠ b.1) ∧ ∀ p ∈ bs.set i q, p ≠ q → p.1 ≠ g
  | [], _, _, hi, _ => by simp at hi
  | b :: bs, 0, hd, hi, hq => by
    have e : b = (g, cs, t) := by simpa using hi
    have pd := List.pairwise_cons.1 hd
    subst e
    refine ⟨List.pairwise_cons.2 ⟨fun p hp => by rw [hq]; exact pd.1 p hp, pd.2⟩, fun p hp hn => ?_⟩
    rcases List.mem_cons.1 hp with h | h
    · exact absurd h hn
    · exact (pd.1 p h).symm
  | b :: bs, i + 1, hd, hi, hq => by
    have pd := List.pairwise_cons.1 hd
    have hi2 : bs[i]? = some (g, cs, t) := by simpa using hi
    obtain ⟨r1, r2⟩ := set_ne pd.2 hi2 hq
    have hb : b.1 ≠ g := pd.1 _ (List.mem_of_getElem? hi2)
    refine ⟨List.pairwise_cons.2 ⟨fun p hp => ?_, r1⟩, fun p hp hn => ?_⟩
    · rcases mem_setB hp with h | h
      · rw [h, hq]; exact hb
      · exact pd.1 p h
    · rcases List.mem_cons.1 hp with h | h
      · rw [h]; exact hb
      · exact r2 p h hn
theorem Ut.put (h : Ut w0 K0 B g0 W w K E n N bs qs) (i : Nat) (hi : bs[i]? = some (g, cs, t)) (C : Chg (· = g) w w') (Y : Blk w' g cs' t) (ht : t ≠ 5) : Ut w0 K0 B g0 W w' K E n N (bs.set i (g, cs', t)) qs := by
  have hm := List.mem_of_getElem? hi
  obtain ⟨X, nk, y⟩ := h.b _ hm
  obtain ⟨r1, r2⟩ := set_ne (q := (g, cs', t)) h.d hi rfl
  refine ⟨Bk.At.cell h.ta X C y nk ht, fun p hp => ?_, fun r hr => (h.q r hr).cell C (h.e _ hm r hr), fun p hp => ?_, r1⟩
  · by_cases e : p = (g, cs', t)
    · subst e
      exact ⟨Y, nk, y⟩
    · rcases mem_setB hp with q | q
      · exact absurd q e
      · exact ⟨(h.b p q).1.chg C (r2 p hp e), (h.b p q).2⟩
  · rcases mem_setB hp with q | q
    · rw [q]
      show ∀ r ∈ qs, r.2.2.1 = 0 ∨ r.1 ≠ g
      exact h.e _ hm
    · exact h.e p q
theorem Ut.val {z k d : Nat} {a : Option Addr} {x y : Int} (h : Ut w0 K0 B g0 W w K E n N bs qs) (i : Nat) (hi : qs[i]? = some (z, a, k, d, x)) (e : x = y) : Ut w0 K0 B g0 W w K E n N bs (qs.set i (z, a, k, d, y)) := by
  subst e
  rw [show qs.set i (z, a, k, d, x) = qs from List.ext_getElem? fun j => by
    rw [List.getElem?_set]
    split
    · rename_i e
      subst e
      split
      · exact hi.symm
      · rename_i hl
        rw [List.getElem?_eq_none (by omega)]
    · rfl]
  exact h
theorem Ut.sel (h : Ut w0 K0 B g0 W w K E n N bs qs) (is js : List Nat) (hn : is.Nodup := by decide) : Ut w0 K0 B g0 W w K E n N (is.filterMap (bs[·]?)) (js.filterMap (qs[·]?)) := by
  have mb : ∀ p ∈ is.filterMap (bs[·]?), p ∈ bs := fun p hp => by
    obtain ⟨i, _, e⟩ := List.mem_filterMap.1 hp
    exact List.mem_of_getElem? e
  have mq : ∀ p ∈ js.filterMap (qs[·]?), p ∈ qs := fun p hp => by
    obtain ⟨i, _, e⟩ := List.mem_filterMap.1 hp
    exact List.mem_of_getElem? e
  refine ⟨h.ta, fun p hp => h.b p (mb p hp), fun r hr => h.q r (mq r hr), fun p hp r hr => h.e p (mb p hp) r (mq r hr), ?_⟩
  have hd := h.d
  clear mb mq h
  induction is with
  | nil => exact List.Pairwise.nil
  | cons i is ih =>
    have nd := List.nodup_cons.1 hn
    rw [List.filterMap_cons]
    split
    · exact ih nd.2
    · rename_i p e
      refine List.pairwise_cons.2 ⟨fun q hq e2 => ?_, ih nd.2⟩
      obtain ⟨j, hj, e3⟩ := List.mem_filterMap.1 hq
      have hij : i ≠ j := fun c => nd.1 (c ▸ hj)
      obtain ⟨li, ei⟩ := List.getElem?_eq_some_iff.1 e
      obtain ⟨lj, ej⟩ := List.getElem?_eq_some_iff.1 e3
      have pw := List.pairwise_iff_getElem.1 hd
      rcases Nat.lt_or_gt_of_ne hij with c | c
      · exact pw i j li lj c (by rw [ei, ej]; exact e2)
      · exact pw j i lj li c (by rw [ei, ej]; exact e2.symm)
end
end Fo
end Go.Proofs.YtpoifdokmjhclaaGreat

namespace Go.Proofs.YtpoifdokmjhclaaGreat
namespace Fo
open Go.RowKit Go.Lib Pg Lim Gl Kv Bk Pw
attribute [local go_sem] Oper.semAt_some
set_option maxRecDepth 100000
set_option linter.unusedVariables false
set_option linter.unusedSimpArgs false
set_option maxHeartbeats 4000000
theorem rscc {n : Nat} {l : Fr} {P : Program} {w : World} {fn : Func} (j k : Nat) {T T2 : TypeId} {g g2 : Nat} {u v : Value} (h : fn.results = #[.cell j T, .cell k T2]) (hu : lk l j = some (.pointer (some ⟨g, 0, none⟩))) (hv : lk l k = some (.pointer (some ⟨g2, 0, none⟩))) (hl : (loadVar T ⟨g, 0, none⟩).run P w = .ok u w) (hl2 : (loadVar T2 ⟨g2, 0, none⟩).run P w = .ok v w) (a : Act) (r : Rd n [] l a) : (results fn a.tmps).run P w = .ok (.tuple #[u, v]) w := by
  have h1 := r.gD hu
  have h2 := r.gD hv
  simp at h1 h2
  simp [results, h, h1, h2, asAddr, hl, hl2]
theorem nq_nil (w : World) (K : Nat → Prop) : Nq w K 0 none 0 0 0 := ⟨.inl rfl, .inl rfl, (nf_nil w 0).to⟩
structure StE (B : Nat) (w : World) (K : Nat → Prop) (g : Nat) (E : Ents) (W : List Ents) (n N : Nat) (rt tk : Int) (jl : Bool) (un : Int) (bo : Bool) (id x0 x2 x3 : Int) (n0 n2 n3 : Nat) (e : Ending) (w' : World) : Prop where
  ex : ∃ b0 k0 d0 y0 b2 k2 d2 y2 b3 k3 d3 y3 K' n' N', e = .returned (.agg #[.int .u64 rt, .int .u64 tk, .slice b0 k0 d0, .bool jl, .int .u64 un, .bool bo, .int .u64 1, .slice none 0 0, .slice b2 k2 d2, .slice b3 k3 d3]) ∧ Sx B w' K' g (referE E id 0) W n' N' ∧ n' ≤ n + 10 ∧ N' ≤ N + 10 ∧ (∀ b, K' b → K b ∨ w.heap.size ≤ b) ∧ Chg K w w' ∧ Nq w' K' y0 b0 k0 d0 (x0) ∧ k0 ≤ n0 + 1 ∧ (k0 = 0 ∨ w.heap.size ≤ y0) ∧ Nq w' K' y2 b2 k2 d2 (x2) ∧ k2 ≤ n2 + 1 ∧ (k2 = 0 ∨ w.heap.size ≤ y2) ∧ Nq w' K' y3 b3 k3 d3 (x3) ∧ k3 ≤ n3 + 1 ∧ (k3 = 0 ∨ w.heap.size ≤ y3)
theorem start_any {B : Nat} {w : World} {K : Nat → Prop} {g : Nat} {E : Ents} {W : List Ents} {n N : Nat} {rt tk un pe id : Int} {jl bo : Bool} {a0 : Option Addr} {n0 c0 z0 : Nat} {x0 : Int} {a1 : Option Addr} {n1 c1 z1 : Nat} {x1 : Int} {a2 : Option Addr} {n2 c2 z2 : Nat} {x2 : Int} {a3 : Option Addr} {n3 c3 z3 : Nat} {x3 : Int} (h : Sx B w K g E W n N) (hid : 0 ≤ id ∧ id < 18446744073709551616) (Q0 : Nk w K z0 a0 n0 c0 x0) (m0 : n0 ≤ 100000) (Q1 : Nk w K z1 a1 n1 c1 x1) (m1 : n1 ≤ 100000) (Q2 : Nk w K z2 a2 n2 c2 x2) (m2 : n2 ≤ 100000) (Q3 : Nk w K z3 a3 n3 c3 x3) (m3 : n3 ≤ 100000) (hn : n + 40 ≤ 4000000000000000000) (hN : N + 40 ≤ 100000000) : Calls Tryz.prog 95 #[pg g, .int .u64 id, .agg #[.int .u64 rt, .int .u64 tk, .slice a0 n0 c0, .bool jl, .int .u64 un, .bool bo, .int .u64 pe, .slice a1 n1 c1, .slice a2 n2 c2, .slice a3 n3 c3]] w (StE B w K g E W n N rt tk jl un bo id x0 x2 x3 n0 n2 n3) := by
  have U := ut_of h
  refine gc_enter (n := 16) Tryz.func95 rfl (by kernel_rfl) (by kernel_rfl) ?_
  refine gc_seq ?_
  refine gc_reg ?_
  refine ta 5 [.int .u64 rt, .int .u64 tk, .slice a0 n0 c0, .bool jl, .int .u64 un, .bool bo, .int .u64 pe, .slice a1 n1 c1, .slice a2 n2 c2, .slice a3 n3 c3] 57 (pg) ?_
  intro v1 g2 Xg2 hg2 B
  replace U := U.new Xg2 hg2 B
  clear Xg2 hg2 B
  refine ta 6 [.int .u64 0, .int .u64 0, .slice none 0 0, .bool false, .int .u64 0, .bool false, .int .u64 0, .slice none 0 0, .slice none 0 0, .slice none 0 0] 57 (pg) ?_
  intro v3 g4 Xg4 hg4 B
  replace U := U.new Xg4 hg4 B
  clear Xg4 hg4 B
  refine gl_nil ?_
  refine ge_then ?_
  refine gc_seq ?_
  refine gc_reg ?_
  refine tlr 7 [.int .u64 rt, .int .u64 tk, .slice a0 n0 c0, .bool jl, .int .u64 un, .bool bo, .int .u64 pe, .slice a1 n1 c1, .slice a2 n2 c2, .slice a3 n3 c3] (U.bk 1 rfl) 0 ?_
  refine tc 8 139 #[.agg #[.int .u64 rt, .int .u64 tk, .slice a0 n0 c0, .bool jl, .int .u64 un, .bool bo, .int .u64 pe, .slice a1 n1 c1, .slice a2 n2 c2, .slice a3 n3 c3]] (ownVal_any (Q0.op U.ta.km U.ta.cc).nat (by omega) (Q1.op U.ta.km U.ta.cc).nat (by omega) (Q2.op U.ta.km U.ta.cc).nat (by omega) (Q3.op U.ta.km U.ta.cc).nat (by omega)) ?_
  rintro _ v9 ⟨av5, nv5, cv5, zv5, av6, nv6, cv6, zv6, av7, nv7, cv7, zv7, av8, nv8, cv8, zv8, rfl, M0, h0, mv5, M1, h1, mv6, M2, h2, mv7, M3, h3, mv8, B⟩
  refine ⟨_, rfl, ?_⟩
  have fv5 := ne3 h0 U.ta.size
  have fv6 := ne3 h1 U.ta.size
  have fv7 := ne3 h2 U.ta.size
  have fv8 := ne3 h3 U.ta.size
  have L := U.lt
  replace U := ((((U.keep B).add L (nq_of U.ta.sx M0 h0) h0).add L (nq_of U.ta.sx M1 h1) h1).add L (nq_of U.ta.sx M2 h2) h2).add L (nq_of U.ta.sx M3 h3) h3
  clear L B M0 h0 M1 h1 M2 h2 M3 h3
  refine ts (U.bk 1 rfl) 0 (.agg #[.int .u64 rt, .int .u64 tk, .slice av5 nv5 cv5, .bool jl, .int .u64 un, .bool bo, .int .u64 pe, .slice av6 nv6 cv6, .slice av7 nv7 cv7, .slice av8 nv8 cv8]) [.int .u64 rt, .int .u64 tk, .slice av5 nv5 cv5, .bool jl, .int .u64 un, .bool bo, .int .u64 pe, .slice av6 nv6 cv6, .slice av7 nv7 cv7, .slice av8 nv8 cv8] [.int .u64 rt, .int .u64 tk, .slice av5 nv5 cv5, .bool jl, .int .u64 un, .bool bo, .int .u64 pe, .slice av6 nv6 cv6, .slice av7 nv7 cv7, .slice av8 nv8 cv8] ?_
  intro v10 Y C
  replace U := U.put 1 rfl C Y (by decide)
  clear Y C
  refine gl_nil ?_
  refine ge_then ?_
  refine gc_seq ?_
  refine gc_reg ?_
  refine t 9 (.agg #[.slice none 0 0]) ?_
  refine t 10 (pq g2 6) ?_
  refine ts (U.bk 1 rfl) 6 (.int .u64 1) [.int .u64 1] [.int .u64 rt, .int .u64 tk, .slice av5 nv5 cv5, .bool jl, .int .u64 un, .bool bo, .int .u64 1, .slice av6 nv6 cv6, .slice av7 nv7 cv7, .slice av8 nv8 cv8] ?_
  intro v11 Y C
  replace U := U.put 1 rfl C Y (by decide)
  clear Y C
  refine t 11 (pq g2 7) ?_
  refine ts (U.bk 1 rfl) 7 (.agg #[.slice none 0 0]) [.slice none 0 0] [.int .u64 rt, .int .u64 tk, .slice av5 nv5 cv5, .bool jl, .int .u64 un, .bool bo, .int .u64 1, .slice none 0 0, .slice av7 nv7 cv7, .slice av8 nv8 cv8] ?_
  intro v12 Y C
  replace U := U.put 1 rfl C Y (by decide)
  clear Y C
  refine gl_nil ?_
  refine ge_then ?_
  refine gc_seq ?_
  refine gc_reg ?_
  refine t 12 (pg g) ?_
  refine t 13 (.int .u64 id) ?_
  refine tc 14 140 #[pg g, .int .u64 id, .int .u64 0] (refer_any U.ta.sx hid (by omega) (by omega)) ?_
  rintro _ v14 ⟨rfl, K13, S, hK, hC⟩
  refine ⟨_, rfl, ?_⟩
  replace U := U.op S hK hC
  clear S hK hC
  refine gl_nil ?_
  refine ge_then ?_
  refine gc_fr [(5, pg g2), (6, pg g4)] (by kernel_rfl) ?_
  refine gc_seq ?_
  refine gc_reg ?_
  refine tlr 15 [.int .u64 rt, .int .u64 tk, .slice av5 nv5 cv5, .bool jl, .int .u64 un, .bool bo, .int .u64 1, .slice none 0 0, .slice av7 nv7 cv7, .slice av8 nv8 cv8] (U.bk 1 rfl) 0 ?_
  refine ts (U.bk 0 rfl) 0 (.agg #[.int .u64 rt, .int .u64 tk, .slice av5 nv5 cv5, .bool jl, .int .u64 un, .bool bo, .int .u64 1, .slice none 0 0, .slice av7 nv7 cv7, .slice av8 nv8 cv8]) [.int .u64 rt, .int .u64 tk, .slice av5 nv5 cv5, .bool jl, .int .u64 un, .bool bo, .int .u64 1, .slice none 0 0, .slice av7 nv7 cv7, .slice av8 nv8 cv8] [.int .u64 rt, .int .u64 tk, .slice av5 nv5 cv5, .bool jl, .int .u64 un, .bool bo, .int .u64 1, .slice none 0 0, .slice av7 nv7 cv7, .slice av8 nv8 cv8] ?_
  intro v15 Y C
  replace U := U.put 0 rfl C Y (by decide)
  clear Y C
  refine gl_nil ?_
  refine ge_then ?_
  refine gc_ret ?_
  refine ge_ret (.agg #[.int .u64 rt, .int .u64 tk, .slice av5 nv5 cv5, .bool jl, .int .u64 un, .bool bo, .int .u64 1, .slice none 0 0, .slice av7 nv7 cv7, .slice av8 nv8 cv8]) (rsc 6 (T := 57) (by kernel_rfl) (by kernel_rfl) (lr (U.bk 0 rfl) 0)) ?_
  exact ⟨_, _, _, _, _, _, _, _, _, _, _, _, _, _, _, rfl, U.ta.sx, by omega, by omega, U.ta.km, U.ta.cc, (U.nq 3 rfl), by omega, fv5, (U.nq 1 rfl), by omega, fv7, (U.nq 0 rfl), by omega, fv8⟩
structure HoE (B : Nat) (w : World) (K : Nat → Prop) (g : Nat) (E : Ents) (W : List Ents) (n N : Nat) (tk pe id x0 x4 : Int) (n0 n4 : Nat) (e : Ending) (w' : World) : Prop where
  ex : ∃ b0 k0 d0 y0 b1 k1 d1 y1 K' n' N', e = .returned (.agg #[.slice b0 k0 d0, .int .u64 ((pe - 1) % 18446744073709551616), .slice b1 k1 d1]) ∧ Sx B w' K' g (referE E id ((pe - 1) % 18446744073709551616)) W n' N' ∧ n' ≤ n + 10 ∧ N' ≤ N + 10 ∧ (∀ b, K' b → K b ∨ w.heap.size ≤ b) ∧ Chg K w w' ∧ Nq w' K' y0 b0 k0 d0 (x4) ∧ k0 ≤ n4 + 1 ∧ (k0 = 0 ∨ w.heap.size ≤ y0) ∧ Nq w' K' y1 b1 k1 d1 (x4 * (tk * U36) / x0) ∧ k1 ≤ n0 + n4 + 40 ∧ (k1 = 0 ∨ w.heap.size ≤ y1)
theorem hold_any {B : Nat} {w : World} {K : Nat → Prop} {g : Nat} {E : Ents} {W : List Ents} {n N : Nat} {rt tk un pe id dp : Int} {jl bo : Bool} {a0 : Option Addr} {n0 c0 z0 : Nat} {x0 : Int} {a1 : Option Addr} {n1 c1 z1 : Nat} {x1 : Int} {a2 : Option Addr} {n2 c2 z2 : Nat} {x2 : Int} {a3 : Option Addr} {n3 c3 z3 : Nat} {x3 : Int} {a4 : Option Addr} {n4 c4 z4 : Nat} {x4 : Int} {a5 : Option Addr} {n5 c5 z5 : Nat} {x5 : Int} (h : Sx B w K g E W n N) (hid : 0 ≤ id ∧ id < 18446744073709551616) (htk : 0 ≤ tk ∧ tk < 18446744073709551616) (Q0 : Nk w K z0 a0 n0 c0 x0) (m0 : n0 ≤ 100000) (Q1 : Nk w K z1 a1 n1 c1 x1) (m1 : n1 ≤ 100000) (Q2 : Nk w K z2 a2 n2 c2 x2) (m2 : n2 ≤ 100000) (Q3 : Nk w K z3 a3 n3 c3 x3) (m3 : n3 ≤ 100000) (Q4 : Nk w K z4 a4 n4 c4 x4) (m4 : n4 ≤ 100000) (Q5 : Nk w K z5 a5 n5 c5 x5) (m5 : n5 ≤ 100000) (hn : n + 40 ≤ 4000000000000000000) (hN : N + 40 ≤ 100000000) : Calls Tryz.prog 236 #[pg g, .int .u64 id, .agg #[.int .u64 rt, .int .u64 tk, .slice a0 n0 c0, .bool jl, .int .u64 un, .bool bo, .int .u64 pe, .slice a1 n1 c1, .slice a2 n2 c2, .slice a3 n3 c3], .agg #[.slice a4 n4 c4, .int .u64 dp, .slice a5 n5 c5]] w (HoE B w K g E W n N tk pe id x0 x4 n0 n4) := by
  have U := ut_of h
  refine gc_enter (n := 29) Tryz.func236 rfl (by kernel_rfl) (by kernel_rfl) ?_
  refine gc_seq ?_
  refine gc_reg ?_
  refine ta 6 [.int .u64 rt, .int .u64 tk, .slice a0 n0 c0, .bool jl, .int .u64 un, .bool bo, .int .u64 pe, .slice a1 n1 c1, .slice a2 n2 c2, .slice a3 n3 c3] 57 (pg) ?_
  intro v1 g2 Xg2 hg2 B
  replace U := U.new Xg2 hg2 B
  clear Xg2 hg2 B
  refine ta 7 [.slice a4 n4 c4, .int .u64 dp, .slice a5 n5 c5] 181 (pg) ?_
  intro v3 g4 Xg4 hg4 B
  replace U := U.new Xg4 hg4 B
  clear Xg4 hg4 B
  refine ta 8 [.slice none 0 0, .int .u64 0, .slice none 0 0] 181 (pg) ?_
  intro v5 g6 Xg6 hg6 B
  replace U := U.new Xg6 hg6 B
  clear Xg6 hg6 B
  refine gl_nil ?_
  refine ge_then ?_
  refine gc_seq ?_
  refine gc_reg ?_
  refine t 10 (pq g2 6) ?_
  refine tl 11 (.int .u64 pe) (U.bk 2 rfl) 6 ?_
  refine tq 12 (.int .u64 (IntKind.u64.wrap (pe - 1))) (.int .u64 ((pe - 1) % 18446744073709551616)) (congrArg (Value.int .u64) (IntKind.wrap_u64 _)) ?_
  refine t 9 (.int .u64 ((pe - 1) % 18446744073709551616)) ?_
  refine gl_nil ?_
  refine ge_then ?_
  refine gc_seq ?_
  refine gc_reg ?_
  refine t 13 (pg g) ?_
  refine t 14 (.int .u64 id) ?_
  refine t 15 (.int .u64 ((pe - 1) % 18446744073709551616)) ?_
  refine tc 16 140 #[pg g, .int .u64 id, .int .u64 ((pe - 1) % 18446744073709551616)] (refer_any U.ta.sx hid (by omega) (by omega)) ?_
  rintro _ v8 ⟨rfl, K7, S, hK, hC⟩
  refine ⟨_, rfl, ?_⟩
  replace U := U.op S hK hC
  clear S hK hC
  refine gl_nil ?_
  refine ge_then ?_
  refine gc_fr [(6, pg g2), (7, pg g4), (8, pg g6), (9, .int .u64 ((pe - 1) % 18446744073709551616))] (by kernel_rfl) ?_
  refine gc_seq ?_
  replace U := U.drew
  refine gc_draw (fun w' => Blk w' g4 [.slice a4 n4 c4, .int .u64 dp, .slice a5 n5 c5] 181 ∧ Blk w' g2 [.int .u64 rt, .int .u64 tk, .slice a0 n0 c0, .bool jl, .int .u64 un, .bool bo, .int .u64 pe, .slice a1 n1 c1, .slice a2 n2 c2, .slice a3 n3 c3] 57) (fun _ => false) ⟨(U.bk 1 rfl), (U.bk 2 rfl)⟩ ?_
  refine z 0 17 (pg g4) ?_
  refine zlr 1 18 [.slice a4 n4 c4] (fun _ h => h.1) 0 ?_
  refine z 3 20 (.int .u64 ((pe - 1) % 18446744073709551616)) ?_
  refine z 4 21 (pq g2 1) ?_
  refine zl 5 22 (.int .u64 tk) (fun _ h => h.2) 1 ?_
  refine z 6 23 (pq g2 2) ?_
  refine zlr 7 24 [.slice a0 n0 c0] (fun _ h => h.2) 2 ?_
  refine z 8 25 (pg g4) ?_
  refine zlr 9 26 [.slice a4 n4 c4] (fun _ h => h.1) 0 ?_
  refine zc 2 19 178 #[.agg #[.slice a4 n4 c4]] (own_any (Q4.op U.ta.km U.ta.cc).nat (by omega)) ?_
  rintro _ v10 ⟨aq9, nq9, cq9, zq9, rfl, M, h, mq9, B⟩
  have fq9 := ne3 h U.ta.size
  replace U := U.num M h B
  clear M h B
  refine ⟨_, rfl, ⟨(U.bk 1 rfl), (U.bk 2 rfl)⟩, ?_⟩
  refine zc 10 27 290 #[.int .u64 tk, .agg #[.slice a0 n0 c0], .agg #[.slice a4 n4 c4]] (worth_any (Q0.op U.ta.km U.ta.cc).nat (by omega) (Q4.op U.ta.km U.ta.cc).nat (by omega) htk) ?_
  rintro _ v12 ⟨aq11, nq11, cq11, zq11, rfl, M, h, mq11, B⟩
  have fq11 := ne3 h U.ta.size
  replace U := U.num M h B
  clear M h B
  refine ⟨_, rfl, ⟨(U.bk 1 rfl), (U.bk 2 rfl)⟩, ?_⟩
  refine zr 11 28 (.agg #[.slice aq9 nq9 cq9, .int .u64 ((pe - 1) % 18446744073709551616), .slice aq11 nq11 cq11]) (by intro _ _; kernel_rfl) ?_
  refine zs 12 (U.bk 0 rfl) 0 (.agg #[.slice aq9 nq9 cq9, .int .u64 ((pe - 1) % 18446744073709551616), .slice aq11 nq11 cq11]) [.slice aq9 nq9 cq9, .int .u64 ((pe - 1) % 18446744073709551616), .slice aq11 nq11 cq11] [.slice aq9 nq9 cq9, .int .u64 ((pe - 1) % 18446744073709551616), .slice aq11 nq11 cq11] ?_
  intro v13 Y C
  replace U := U.put 0 rfl C Y (by decide)
  clear Y C
  refine ⟨⟨(U.bk 1 rfl), (U.bk 2 rfl)⟩, ?_⟩
  refine gz_done ?_
  refine ge_then ?_
  refine gc_fr [(8, pg g6)] (by kernel_rfl) ?_
  refine gc_ret ?_
  refine ge_ret (.agg #[.slice aq9 nq9 cq9, .int .u64 ((pe - 1) % 18446744073709551616), .slice aq11 nq11 cq11]) (rsc 8 (T := 181) (by kernel_rfl) (by kernel_rfl) (lr (U.bk 0 rfl) 0)) ?_
  exact ⟨_, _, _, _, _, _, _, _, _, _, _, rfl, U.ta.sx, by omega, by omega, U.ta.km, U.ta.cc, (U.nq 1 rfl), by omega, fq9, (U.nq 0 rfl), by omega, fq11⟩
def closeE (E : Ents) (id pe tk cur : Int) : Ents := letE (layH E id pe (hX (got E (Ky.mk 7 id ((pe - 1) % 18446744073709551616))) 0 + cur / tk) 1) id ((pe - 1) % 18446744073709551616)
structure ClE (B : Nat) (w : World) (K : Nat → Prop) (g : Nat) (E : Ents) (W : List Ents) (n N : Nat) (rt tk : Int) (jl : Bool) (un : Int) (bo : Bool) (pe id x0 x1 x2 x3 : Int) (n0 n1 n2 n3 : Nat) (e : Ending) (w' : World) : Prop where
  ex : ∃ b0 k0 d0 y0 b1 k1 d1 y1 b2 k2 d2 y2 b3 k3 d3 y3 K' n' N', e = .returned (.tuple #[.agg #[.int .u64 rt, .int .u64 tk, .slice b0 k0 d0, .bool jl, .int .u64 un, .bool bo, .int .u64 ((pe + 1) % 18446744073709551616), .slice none 0 0, .slice b2 k2 d2, .slice b3 k3 d3], .agg #[.slice b1 k1 d1]]) ∧ Sx B w' K' g (closeE E id pe tk x1) W n' N' ∧ n' ≤ n + 20 ∧ N' ≤ N + 20 ∧ (∀ b, K' b → K b ∨ w.heap.size ≤ b) ∧ Chg K w w' ∧ Nq w' K' y0 b0 k0 d0 (x0) ∧ k0 ≤ n0 + 1 ∧ (k0 = 0 ∨ w.heap.size ≤ y0) ∧ Nq w' K' y1 b1 k1 d1 ((if tk = 0 then x1 else 0)) ∧ k1 ≤ n1 + 1 ∧ (k1 = 0 ∨ w.heap.size ≤ y1) ∧ Nq w' K' y2 b2 k2 d2 ((if tk = 0 then subV x2 x1 else x2)) ∧ k2 ≤ n2 + 1 ∧ (k2 = 0 ∨ w.heap.size ≤ y2) ∧ Nq w' K' y3 b3 k3 d3 (x3) ∧ k3 ≤ n3 + 1 ∧ (k3 = 0 ∨ w.heap.size ≤ y3)
theorem Nq.eqv {w : World} {K : Nat → Prop} {z n c : Nat} {ao : Option Addr} {x y : Int} (h : Nq w K z ao n c x) (e : x = y) : Nq w K z ao n c y := e ▸ h
theorem close_any {B : Nat} {w : World} {K : Nat → Prop} {g : Nat} {E : Ents} {W : List Ents} {n N : Nat} {rt tk un pe id : Int} {jl bo : Bool} {a0 : Option Addr} {n0 c0 z0 : Nat} {x0 : Int} {a1 : Option Addr} {n1 c1 z1 : Nat} {x1 : Int} {a2 : Option Addr} {n2 c2 z2 : Nat} {x2 : Int} {a3 : Option Addr} {n3 c3 z3 : Nat} {x3 : Int} (h : Sx B w K g E W n N) (hid : 0 ≤ id ∧ id < 18446744073709551616) (htk : 0 ≤ tk ∧ tk < 18446744073709551616) (Q0 : Nk w K z0 a0 n0 c0 x0) (m0 : n0 ≤ 100000) (Q1 : Nk w K z1 a1 n1 c1 x1) (m1 : n1 ≤ 100000) (Q2 : Nk w K z2 a2 n2 c2 x2) (m2 : n2 ≤ 100000) (Q3 : Nk w K z3 a3 n3 c3 x3) (m3 : n3 ≤ 100000) (hn : n + 60 ≤ 4000000000000000000) (hN : N + 60 ≤ 100000000) : Calls Tryz.prog 232 #[pg g, .int .u64 id, .agg #[.int .u64 rt, .int .u64 tk, .slice a0 n0 c0, .bool jl, .int .u64 un, .bool bo, .int .u64 pe, .slice a1 n1 c1, .slice a2 n2 c2, .slice a3 n3 c3]] w (ClE B w K g E W n N rt tk jl un bo pe id x0 x1 x2 x3 n0 n1 n2 n3) := by
  have U := ut_of h
  refine gc_enter (n := 60) Tryz.func232 rfl (by kernel_rfl) (by kernel_rfl) ?_
  refine gc_seq ?_
  refine gc_reg ?_
  refine ta 5 [.int .u64 rt, .int .u64 tk, .slice a0 n0 c0, .bool jl, .int .u64 un, .bool bo, .int .u64 pe, .slice a1 n1 c1, .slice a2 n2 c2, .slice a3 n3 c3] 57 (pg) ?_
  intro v1 g2 Xg2 hg2 B
  replace U := U.new Xg2 hg2 B
  clear Xg2 hg2 B
  refine ta 6 [.int .u64 0, .int .u64 0, .slice none 0 0, .bool false, .int .u64 0, .bool false, .int .u64 0, .slice none 0 0, .slice none 0 0, .slice none 0 0] 57 (pg) ?_
  intro v3 g4 Xg4 hg4 B
  replace U := U.new Xg4 hg4 B
  clear Xg4 hg4 B
  refine ta 7 [.slice none 0 0] 55 (pg) ?_
  intro v5 g6 Xg6 hg6 B
  replace U := U.new Xg6 hg6 B
  clear Xg6 hg6 B
  refine gl_nil ?_
  refine ge_then ?_
  refine gc_seq ?_
  refine gc_reg ?_
  refine tlr 12 [.int .u64 rt, .int .u64 tk, .slice a0 n0 c0, .bool jl, .int .u64 un, .bool bo, .int .u64 pe, .slice a1 n1 c1, .slice a2 n2 c2, .slice a3 n3 c3] (U.bk 2 rfl) 0 ?_
  refine tc 13 139 #[.agg #[.int .u64 rt, .int .u64 tk, .slice a0 n0 c0, .bool jl, .int .u64 un, .bool bo, .int .u64 pe, .slice a1 n1 c1, .slice a2 n2 c2, .slice a3 n3 c3]] (ownVal_any (Q0.op U.ta.km U.ta.cc).nat (by omega) (Q1.op U.ta.km U.ta.cc).nat (by omega) (Q2.op U.ta.km U.ta.cc).nat (by omega) (Q3.op U.ta.km U.ta.cc).nat (by omega)) ?_
  rintro _ v11 ⟨av7, nv7, cv7, zv7, av8, nv8, cv8, zv8, av9, nv9, cv9, zv9, av10, nv10, cv10, zv10, rfl, M0, h0, mv7, M1, h1, mv8, M2, h2, mv9, M3, h3, mv10, B⟩
  refine ⟨_, rfl, ?_⟩
  have fv7 := ne3 h0 U.ta.size
  have fv8 := ne3 h1 U.ta.size
  have fv9 := ne3 h2 U.ta.size
  have fv10 := ne3 h3 U.ta.size
  have L := U.lt
  replace U := ((((U.keep B).add L (nq_of U.ta.sx M0 h0) h0).add L (nq_of U.ta.sx M1 h1) h1).add L (nq_of U.ta.sx M2 h2) h2).add L (nq_of U.ta.sx M3 h3) h3
  clear L B M0 h0 M1 h1 M2 h2 M3 h3
  refine ts (U.bk 2 rfl) 0 (.agg #[.int .u64 rt, .int .u64 tk, .slice av7 nv7 cv7, .bool jl, .int .u64 un, .bool bo, .int .u64 pe, .slice av8 nv8 cv8, .slice av9 nv9 cv9, .slice av10 nv10 cv10]) [.int .u64 rt, .int .u64 tk, .slice av7 nv7 cv7, .bool jl, .int .u64 un, .bool bo, .int .u64 pe, .slice av8 nv8 cv8, .slice av9 nv9 cv9, .slice av10 nv10 cv10] [.int .u64 rt, .int .u64 tk, .slice av7 nv7 cv7, .bool jl, .int .u64 un, .bool bo, .int .u64 pe, .slice av8 nv8 cv8, .slice av9 nv9 cv9, .slice av10 nv10 cv10] ?_
  intro v12 Y C
  replace U := U.put 2 rfl C Y (by decide)
  clear Y C
  refine gl_nil ?_
  refine ge_then ?_
  refine gc_seq ?_
  refine gc_reg ?_
  refine t 14 (pq g2 6) ?_
  refine tl 15 (.int .u64 pe) (U.bk 2 rfl) 6 ?_
  refine tq 16 (.int .u64 (IntKind.u64.wrap (pe - 1))) (.int .u64 ((pe - 1) % 18446744073709551616)) (congrArg (Value.int .u64) (IntKind.wrap_u64 _)) ?_
  refine t 8 (.int .u64 ((pe - 1) % 18446744073709551616)) ?_
  refine gl_nil ?_
  refine ge_then ?_
  refine gc_fr [(0, pg g), (1, .int .u64 id), (5, pg g2), (6, pg g4), (7, pg g6), (8, .int .u64 ((pe - 1) % 18446744073709551616))] (by kernel_rfl) ?_
  refine gc_seq ?_
  refine gc_reg ?_
  refine t 18 (pq g2 7) ?_
  refine tlr 19 [.slice av8 nv8 cv8] (U.bk 2 rfl) 7 ?_
  refine t 20 (pq g2 1) ?_
  refine tl 21 (.int .u64 tk) (U.bk 2 rfl) 1 ?_
  refine tc 22 283 #[.agg #[.slice av8 nv8 cv8], .int .u64 tk] (eOver (U.nq 2 rfl).nat (by omega) htk) ?_
  rintro _ v14 ⟨aq13, nq13, cq13, zq13, rfl, M, h, mq13, B⟩
  refine ⟨_, rfl, ?_⟩
  have fq13 := ne3 h U.ta.size
  replace U := U.num M h B
  clear M h B
  refine t 17 (.tuple #[.agg #[.slice aq13 nq13 cq13], .int .i64 (dvZ tk)]) ?_
  refine t 23 (.agg #[.slice aq13 nq13 cq13]) ?_
  refine t 24 (.int .i64 (dvZ tk)) ?_
  refine ta 9 [.slice none 0 0] 55 (pg) ?_
  intro v15 g16 Xg16 hg16 B
  replace U := U.new Xg16 hg16 B
  clear Xg16 hg16 B
  refine ts (U.bk 0 rfl) 0 (.agg #[.slice aq13 nq13 cq13]) [.slice aq13 nq13 cq13] [.slice aq13 nq13 cq13] ?_
  intro v17 Y C
  replace U := U.put 0 rfl C Y (by decide)
  clear Y C
  refine t 10 (.int .i64 (dvZ tk)) ?_
  refine gl_nil ?_
  refine ge_then ?_
  refine gc_seq ?_
  replace U := U.drew
  refine gc_draw (fun w' => Blk w' g2 [.int .u64 rt, .int .u64 tk, .slice av7 nv7 cv7, .bool jl, .int .u64 un, .bool bo, .int .u64 pe, .slice av8 nv8 cv8, .slice av9 nv9 cv9, .slice av10 nv10 cv10] 57 ∧ Blk w' g16 [.slice aq13 nq13 cq13] 55) (fun _ => false) ⟨(U.bk 3 rfl), (U.bk 0 rfl)⟩ ?_
  refine z 0 25 (pg g) ?_
  refine z 1 26 (.int .u64 id) ?_
  refine z 2 27 (pq g2 6) ?_
  refine zl 3 28 (.int .u64 pe) (fun _ h => h.1) 6 ?_
  refine z 4 29 (pg g) ?_
  refine z 5 30 (.int .u64 id) ?_
  refine z 6 31 (.int .u64 ((pe - 1) % 18446744073709551616)) ?_
  refine zlr 8 33 [.slice aq13 nq13 cq13] (fun _ h => h.2) 0 ?_
  refine zc 7 32 284 #[pg g, .int .u64 id, .int .u64 ((pe - 1) % 18446744073709551616)] (ratio_any U.ta.sx hid (by omega) (by omega)) ?_
  rintro _ v20 ⟨ar18, nr18, cr18, rfl, zr18, K19, S, hK, hC, Q, mr18, h⟩
  have L := U.lt
  replace U := (U.op S hK hC).add L Q h
  clear L S hK hC Q h
  refine ⟨_, rfl, ⟨(U.bk 3 rfl), (U.bk 0 rfl)⟩, ?_⟩
  refine zc 9 34 185 #[.agg #[.slice ar18 nr18 cr18], .agg #[.slice aq13 nq13 cq13]] (eAdd (U.nq 0 rfl).nat (by omega) (U.nq 1 rfl).nat (by omega)) ?_
  rintro _ v22 ⟨aq21, nq21, cq21, zq21, rfl, M, h, mq21, B⟩
  have fq21 := ne3 h U.ta.size
  replace U := U.num M h B
  clear M h B
  refine ⟨_, rfl, ⟨(U.bk 3 rfl), (U.bk 0 rfl)⟩, ?_⟩
  refine zr 10 35 (.agg #[.slice aq21 nq21 cq21, .int .u64 1]) (by intro _ _; kernel_rfl) ?_
  refine zc 11 36 180 #[pg g, .int .u64 id, .int .u64 pe, .agg #[.slice aq21 nq21 cq21, .int .u64 1]] (lay_any U.ta.sx hid (U.nq 0 rfl).nk (by omega) (by omega) (by omega)) ?_
  rintro _ v24 ⟨rfl, K23, S, hK, hC⟩
  replace U := U.op S hK hC
  clear S hK hC
  refine ⟨_, rfl, ⟨(U.bk 3 rfl), (U.bk 0 rfl)⟩, ?_⟩
  refine gz_done ?_
  refine ge_then ?_
  refine gc_fr [(0, pg g), (1, .int .u64 id), (5, pg g2), (6, pg g4), (7, pg g6), (8, .int .u64 ((pe - 1) % 18446744073709551616))] (by kernel_rfl) ?_
  refine gc_seq ?_
  refine gc_reg ?_
  refine t 37 (pg g) ?_
  refine t 38 (.int .u64 id) ?_
  refine t 39 (.int .u64 ((pe - 1) % 18446744073709551616)) ?_
  refine tc 40 285 #[pg g, .int .u64 id, .int .u64 ((pe - 1) % 18446744073709551616)] (let_any U.ta.sx hid (by omega) (by omega)) ?_
  rintro _ v29 ⟨rfl, K25, n26, N27, S, qn26, qN27, hK, hC⟩
  refine ⟨_, rfl, ?_⟩
  replace U := U.op S hK hC
  clear S hK hC
  refine gl_nil ?_
  refine ge_then ?_
  refine gc_seq ?_
  refine gc_reg ?_
  refine ta 11 [.slice none 0 0] 55 (pg) ?_
  intro v30 g31 Xg31 hg31 B
  replace U := U.new Xg31 hg31 B
  clear Xg31 hg31 B
  refine gl_nil ?_
  refine ge_then ?_
  refine gc_seq ?_
  refine gc_seq ?_
  refine gc_reg ?_
  refine t 41 (pq g2 1) ?_
  refine tl 42 (.int .u64 tk) (U.bk 4 rfl) 1 ?_
  by_cases c32 : (tk : Int) = 0
  · refine tq 43 (.bool ((tk : Int) == 0)) (.bool true) (congrArg Value.bool (beq_iff_eq.2 c32)) ?_
    refine gl_nil ?_
    refine ge_then ?_
    refine gc_yes ?_
    refine gc_seq ?_
    refine gc_reg ?_
    refine t 44 (pq g2 7) ?_
    refine tlr 45 [.slice av8 nv8 cv8] (U.bk 4 rfl) 7 ?_
    refine ts (U.bk 0 rfl) 0 (.agg #[.slice av8 nv8 cv8]) [.slice av8 nv8 cv8] [.slice av8 nv8 cv8] ?_
    intro v33 Y C
    replace U := U.put 0 rfl C Y (by decide)
    clear Y C
    refine gl_nil ?_
    refine ge_then ?_
    refine gc_reg ?_
    refine t 46 (pq g2 8) ?_
    refine tlr 47 [.slice av9 nv9 cv9] (U.bk 4 rfl) 8 ?_
    refine t 48 (pq g2 7) ?_
    refine tlr 49 [.slice av8 nv8 cv8] (U.bk 4 rfl) 7 ?_
    refine tc 50 286 #[.agg #[.slice av9 nv9 cv9], .agg #[.slice av8 nv8 cv8]] (less_any (U.nq 4 rfl).nat (by omega) (U.nq 5 rfl).nat (by omega)) ?_
    rintro _ v35 ⟨aq34, nq34, cq34, zq34, rfl, M, h, mq34, B⟩
    refine ⟨_, rfl, ?_⟩
    have fq34 := ne3 h U.ta.size
    replace U := U.num M h B
    clear M h B
    refine t 51 (pq g2 8) ?_
    refine ts (U.bk 4 rfl) 8 (.agg #[.slice aq34 nq34 cq34]) [.slice aq34 nq34 cq34] [.int .u64 rt, .int .u64 tk, .slice av7 nv7 cv7, .bool jl, .int .u64 un, .bool bo, .int .u64 pe, .slice av8 nv8 cv8, .slice aq34 nq34 cq34, .slice av10 nv10 cv10] ?_
    intro v36 Y C
    replace U := U.put 4 rfl C Y (by decide)
    clear Y C
    refine gl_nil ?_
    refine ge_then ?_
    refine gc_fr [(5, pg g2), (6, pg g4), (7, pg g6), (11, pg g31)] (by kernel_rfl) ?_
    refine gc_seq ?_
    refine gc_reg ?_
    refine t 52 (pq g2 6) ?_
    refine tl 53 (.int .u64 pe) (U.bk 4 rfl) 6 ?_
    refine tq 54 (.int .u64 (IntKind.u64.wrap (pe + 1))) (.int .u64 ((pe + 1) % 18446744073709551616)) (congrArg (Value.int .u64) (IntKind.wrap_u64 _)) ?_
    refine t 55 (pq g2 6) ?_
    refine ts (U.bk 4 rfl) 6 (.int .u64 ((pe + 1) % 18446744073709551616)) [.int .u64 ((pe + 1) % 18446744073709551616)] [.int .u64 rt, .int .u64 tk, .slice av7 nv7 cv7, .bool jl, .int .u64 un, .bool bo, .int .u64 ((pe + 1) % 18446744073709551616), .slice av8 nv8 cv8, .slice aq34 nq34 cq34, .slice av10 nv10 cv10] ?_
    intro v37 Y C
    replace U := U.put 4 rfl C Y (by decide)
    clear Y C
    refine gl_nil ?_
    refine ge_then ?_
    refine gc_seq ?_
    refine gc_reg ?_
    refine t 56 (.agg #[.slice none 0 0]) ?_
    refine t 57 (pq g2 7) ?_
    refine ts (U.bk 4 rfl) 7 (.agg #[.slice none 0 0]) [.slice none 0 0] [.int .u64 rt, .int .u64 tk, .slice av7 nv7 cv7, .bool jl, .int .u64 un, .bool bo, .int .u64 ((pe + 1) % 18446744073709551616), .slice none 0 0, .slice aq34 nq34 cq34, .slice av10 nv10 cv10] ?_
    intro v38 Y C
    replace U := U.put 4 rfl C Y (by decide)
    clear Y C
    refine gl_nil ?_
    refine ge_then ?_
    refine gc_seq ?_
    replace U := U.drew
    refine gc_draw (fun w' => Blk w' g2 [.int .u64 rt, .int .u64 tk, .slice av7 nv7 cv7, .bool jl, .int .u64 un, .bool bo, .int .u64 ((pe + 1) % 18446744073709551616), .slice none 0 0, .slice aq34 nq34 cq34, .slice av10 nv10 cv10] 57 ∧ Blk w' g31 [.slice av8 nv8 cv8] 55) (fun _ => false) ⟨(U.bk 4 rfl), (U.bk 0 rfl)⟩ ?_
    refine zlr 0 58 [.int .u64 rt, .int .u64 tk, .slice av7 nv7 cv7, .bool jl, .int .u64 un, .bool bo, .int .u64 ((pe + 1) % 18446744073709551616), .slice none 0 0, .slice aq34 nq34 cq34, .slice av10 nv10 cv10] (fun _ h => h.1) 0 ?_
    refine zlr 1 59 [.slice av8 nv8 cv8] (fun _ h => h.2) 0 ?_
    refine zs 2 (U.bk 3 rfl) 0 (.agg #[.int .u64 rt, .int .u64 tk, .slice av7 nv7 cv7, .bool jl, .int .u64 un, .bool bo, .int .u64 ((pe + 1) % 18446744073709551616), .slice none 0 0, .slice aq34 nq34 cq34, .slice av10 nv10 cv10]) [.int .u64 rt, .int .u64 tk, .slice av7 nv7 cv7, .bool jl, .int .u64 un, .bool bo, .int .u64 ((pe + 1) % 18446744073709551616), .slice none 0 0, .slice aq34 nq34 cq34, .slice av10 nv10 cv10] [.int .u64 rt, .int .u64 tk, .slice av7 nv7 cv7, .bool jl, .int .u64 un, .bool bo, .int .u64 ((pe + 1) % 18446744073709551616), .slice none 0 0, .slice aq34 nq34 cq34, .slice av10 nv10 cv10] ?_
    intro v39 Y C
    replace U := U.put 3 rfl C Y (by decide)
    clear Y C
    refine ⟨⟨(U.bk 4 rfl), (U.bk 0 rfl)⟩, ?_⟩
    refine zs 3 (U.bk 2 rfl) 0 (.agg #[.slice av8 nv8 cv8]) [.slice av8 nv8 cv8] [.slice av8 nv8 cv8] ?_
    intro v40 Y C
    replace U := U.put 2 rfl C Y (by decide)
    clear Y C
    refine ⟨⟨(U.bk 4 rfl), (U.bk 0 rfl)⟩, ?_⟩
    refine gz_done ?_
    refine ge_then ?_
    refine gc_ret ?_
    refine ge_ret (.tuple #[.agg #[.int .u64 rt, .int .u64 tk, .slice av7 nv7 cv7, .bool jl, .int .u64 un, .bool bo, .int .u64 ((pe + 1) % 18446744073709551616), .slice none 0 0, .slice aq34 nq34 cq34, .slice av10 nv10 cv10], .agg #[.slice av8 nv8 cv8]]) (rscc 6 7 (T := 57) (T2 := 55) (by kernel_rfl) (by kernel_rfl) (by kernel_rfl) (lr (U.bk 3 rfl) 0) (lr (U.bk 2 rfl) 0)) ?_
    exact ⟨_, _, _, _, _, _, _, _, _, _, _, _, _, _, _, _, _, _, _, rfl, U.ta.sx, by omega, by omega, U.ta.km, U.ta.cc, (U.nq 7 rfl), by omega, fv7, (U.nq 6 rfl).eqv (if_pos c32).symm, by omega, fv8, (U.nq 0 rfl).eqv (if_pos c32).symm, by omega, fq34, (U.nq 4 rfl), by omega, fv10⟩
  · refine tq 43 (.bool ((tk : Int) == 0)) (.bool false) (congrArg Value.bool (beq_eq_false_iff_ne.2 c32)) ?_
    refine gl_nil ?_
    refine ge_then ?_
    refine gc_no ?_
    refine gc_skip ?_
    refine ge_then ?_
    refine gc_seq ?_
    refine gc_reg ?_
    refine t 52 (pq g2 6) ?_
    refine tl 53 (.int .u64 pe) (U.bk 4 rfl) 6 ?_
    refine tq 54 (.int .u64 (IntKind.u64.wrap (pe + 1))) (.int .u64 ((pe + 1) % 18446744073709551616)) (congrArg (Value.int .u64) (IntKind.wrap_u64 _)) ?_
    refine t 55 (pq g2 6) ?_
    refine ts (U.bk 4 rfl) 6 (.int .u64 ((pe + 1) % 18446744073709551616)) [.int .u64 ((pe + 1) % 18446744073709551616)] [.int .u64 rt, .int .u64 tk, .slice av7 nv7 cv7, .bool jl, .int .u64 un, .bool bo, .int .u64 ((pe + 1) % 18446744073709551616), .slice av8 nv8 cv8, .slice av9 nv9 cv9, .slice av10 nv10 cv10] ?_
    intro v41 Y C
    replace U := U.put 4 rfl C Y (by decide)
    clear Y C
    refine gl_nil ?_
    refine ge_then ?_
    refine gc_fr [(5, pg g2), (6, pg g4), (7, pg g6), (11, pg g31)] (by kernel_rfl) ?_
    refine gc_seq ?_
    refine gc_reg ?_
    refine t 56 (.agg #[.slice none 0 0]) ?_
    refine t 57 (pq g2 7) ?_
    refine ts (U.bk 4 rfl) 7 (.agg #[.slice none 0 0]) [.slice none 0 0] [.int .u64 rt, .int .u64 tk, .slice av7 nv7 cv7, .bool jl, .int .u64 un, .bool bo, .int .u64 ((pe + 1) % 18446744073709551616), .slice none 0 0, .slice av9 nv9 cv9, .slice av10 nv10 cv10] ?_
    intro v42 Y C
    replace U := U.put 4 rfl C Y (by decide)
    clear Y C
    refine gl_nil ?_
    refine ge_then ?_
    refine gc_seq ?_
    replace U := U.drew
    refine gc_draw (fun w' => Blk w' g2 [.int .u64 rt, .int .u64 tk, .slice av7 nv7 cv7, .bool jl, .int .u64 un, .bool bo, .int .u64 ((pe + 1) % 18446744073709551616), .slice none 0 0, .slice av9 nv9 cv9, .slice av10 nv10 cv10] 57 ∧ Blk w' g31 [.slice none 0 0] 55) (fun _ => false) ⟨(U.bk 4 rfl), (U.bk 0 rfl)⟩ ?_
    refine zlr 0 58 [.int .u64 rt, .int .u64 tk, .slice av7 nv7 cv7, .bool jl, .int .u64 un, .bool bo, .int .u64 ((pe + 1) % 18446744073709551616), .slice none 0 0, .slice av9 nv9 cv9, .slice av10 nv10 cv10] (fun _ h => h.1) 0 ?_
    refine zlr 1 59 [.slice none 0 0] (fun _ h => h.2) 0 ?_
    refine zs 2 (U.bk 3 rfl) 0 (.agg #[.int .u64 rt, .int .u64 tk, .slice av7 nv7 cv7, .bool jl, .int .u64 un, .bool bo, .int .u64 ((pe + 1) % 18446744073709551616), .slice none 0 0, .slice av9 nv9 cv9, .slice av10 nv10 cv10]) [.int .u64 rt, .int .u64 tk, .slice av7 nv7 cv7, .bool jl, .int .u64 un, .bool bo, .int .u64 ((pe + 1) % 18446744073709551616), .slice none 0 0, .slice av9 nv9 cv9, .slice av10 nv10 cv10] [.int .u64 rt, .int .u64 tk, .slice av7 nv7 cv7, .bool jl, .int .u64 un, .bool bo, .int .u64 ((pe + 1) % 18446744073709551616), .slice none 0 0, .slice av9 nv9 cv9, .slice av10 nv10 cv10] ?_
    intro v43 Y C
    replace U := U.put 3 rfl C Y (by decide)
    clear Y C
    refine ⟨⟨(U.bk 4 rfl), (U.bk 0 rfl)⟩, ?_⟩
    refine zs 3 (U.bk 2 rfl) 0 (.agg #[.slice none 0 0]) [.slice none 0 0] [.slice none 0 0] ?_
    intro v44 Y C
    replace U := U.put 2 rfl C Y (by decide)
    clear Y C
    refine ⟨⟨(U.bk 4 rfl), (U.bk 0 rfl)⟩, ?_⟩
    refine gz_done ?_
    refine ge_then ?_
    refine gc_ret ?_
    refine ge_ret (.tuple #[.agg #[.int .u64 rt, .int .u64 tk, .slice av7 nv7 cv7, .bool jl, .int .u64 un, .bool bo, .int .u64 ((pe + 1) % 18446744073709551616), .slice none 0 0, .slice av9 nv9 cv9, .slice av10 nv10 cv10], .agg #[.slice none 0 0]]) (rscc 6 7 (T := 57) (T2 := 55) (by kernel_rfl) (by kernel_rfl) (by kernel_rfl) (lr (U.bk 3 rfl) 0) (lr (U.bk 2 rfl) 0)) ?_
    exact ⟨_, _, _, _, none, 0, 0, 0, _, _, _, _, _, _, _, _, _, _, _, rfl, U.ta.sx, by omega, by omega, U.ta.km, U.ta.cc, (U.nq 6 rfl), by omega, fv7, (nq_nil _ _).eqv (if_neg c32).symm, by omega, .inl rfl, (U.nq 4 rfl).eqv (if_neg c32).symm, by omega, fv9, (U.nq 3 rfl), by omega, fv10⟩
end Fo
end Go.Proofs.YtpoifdokmjhclaaGreat

namespace Go.Proofs.YtpoifdokmjhclaaGreat
namespace Fo
open Go.RowKit Go.Lib Pg Lim Gl
attribute [local go_sem] Oper.semAt_some
set_option maxRecDepth 100000
set_option linter.unusedVariables false
set_option linter.unusedSimpArgs false
set_option maxHeartbeats 2000000
end Fo
end Go.Proofs.YtpoifdokmjhclaaGreat
