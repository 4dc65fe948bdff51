/- Several texts, joined: DiG, SmallN. -/
import Derived.Test.YtgdohcdlkonhiaaGreatDoorJaB
import Derived.Test.YtgdohcdlkonhiaaGreatDoorJaw
import Derived.Test.YtgdohcdlkonhiaaGreatDoorJai
namespace Go.Proofs.YtgdohcdlkonhiaaGreatDoor
namespace Fo
open Go.RowKit Go.Lib Pg Lim Gl Kv Bk Pw Sd Di
attribute [local go_sem] Oper.semAt_some
set_option maxRecDepth 100000
set_option linter.unusedVariables false
set_option linter.unusedSimpArgs false
set_option maxHeartbeats 2000000
section
variable {w0 w w' w1 : World} {B g0 n N n' N' g b b' C : Nat} {K0 K K' : Nat → Prop} {W : List Ents} {E E' : Ents} {bs bs' : List Bx} {qs qs' : List Nx} {cs cs' : List Value} {t : TypeId}
/-- a list is appended to, in place or not -/
theorem Ut.app (h : Ut w0 K0 B g0 W w K E n N ((b, cs, t) :: bs) qs) (D : Chg (· = b) w w') (X : Blk w' b' cs' t) (hb : b' = b ∨ w.heap.size ≤ b') (ht : t ≠ 5) : Ut w0 K0 B g0 W w' K E n N ((b', cs', t) :: bs) qs := by
  have hm := List.forall_mem_cons.1 h.b
  have he := List.forall_mem_cons.1 h.e
  have hd := List.pairwise_cons.1 h.d
  obtain ⟨X0, nk, y⟩ := hm.1
  refine ⟨Bk.At.cell h.ta X0 D y nk ht, List.forall_mem_cons.2 ⟨⟨X, ?_, ?_⟩, fun p hp => ⟨(hm.2 p hp).1.chg D (fun e => hd.1 p hp (show b = p.1 from e.symm)), (hm.2 p hp).2⟩⟩, fun r hr => (h.q r hr).cell D (he.1 r hr), List.forall_mem_cons.2 ⟨fun r hr => ?_, he.2⟩, List.pairwise_cons.2 ⟨fun p hp e => ?_, hd.2⟩⟩
  · rcases hb with rfl | hb
    · exact nk
    · exact fun q => by have := h.ta.sx.sa.lt q; have hb' : w.heap.size ≤ b' := hb; omega
  · rcases hb with rfl | hb
    · exact y
    · exact Nat.le_trans h.ta.size hb
  · rcases hb with rfl | hb
    · exact he.1 r hr
    · exact ne1 (h.q r hr).lt hb
  · rcases hb with rfl | hb
    · exact hd.1 p hp e
    · have := (hm.2 p hp).1.lt
      have e' : b' = p.1 := e
      omega
theorem Uy.app (h : Uy w1 C w0 K0 B g0 W w K E n N ((b, cs, t) :: bs) qs) (D : Chg (· = b) w w') (X : Blk w' b' cs' t) (hb : b' = b ∨ w.heap.size ≤ b') (ht : t ≠ 5) : Uy w1 C w0 K0 B g0 W w' K E n N ((b', cs', t) :: bs) qs := ⟨h.u.app D X hb ht, h.k.trans (Rs.chg D (fun x e => ⟨cs, t, (show x = b from e) ▸ h.u.bk 0 rfl⟩))⟩
/-- what a function leaves, beside what was there -/
theorem Ut.merge (h : Ut w0 K0 B g0 W w K E n N bs qs) (V : Ut w K B g0 W w' K' E' n' N' bs' qs') (hz : ∀ r ∈ qs', r.2.2.1 = 0 ∨ w.heap.size ≤ r.1) : Ut w0 K0 B g0 W w' K' E' n' N' (bs' ++ bs) (qs' ++ qs) := by
  have u := h.op V.ta.sx V.ta.km V.ta.cc
  refine ⟨u.ta, fun p hp => ?_, fun r hr => ?_, fun p hp r hr => ?_, List.pairwise_append.2 ⟨V.d, h.d, fun p hp q hq e => ?_⟩⟩
  · rcases List.mem_append.1 hp with hp | hp
    · exact ⟨(V.b p hp).1, (V.b p hp).2.1, Nat.le_trans h.ta.size (V.b p hp).2.2⟩
    · exact u.b p hp
  · rcases List.mem_append.1 hr with hr | hr
    · exact V.q r hr
    · exact u.q r hr
  · rcases List.mem_append.1 hp with hp | hp <;> rcases List.mem_append.1 hr with hr | hr
    · exact V.e p hp r hr
    · exact ne1 (h.q r hr).lt (V.b p hp).2.2
    · exact ne2 (hz r hr) (h.lt p hp)
    · exact h.e p hp r hr
  · have h1 := (V.b p hp).2.2
    have h2 := h.lt q hq
    omega
end
theorem SxE.castE {B : Nat} {w : World} {K : Nat → Prop} {g : Nat} {E : Ents} {W : List Ents} {P m M : Nat} {args : Array Value} {r : Value} {E' : Ents} (h : Calls Tryz.prog P args w (SxE B w K g E W m M r)) (hE : E = E') : Calls Tryz.prog P args w (SxE B w K g E' W m M r) := by
  subst hE
  exact h
theorem chgN {b g : Nat} {w w1 w2 : World} (h : Chg (· = b) w w1) (C : Chg (· = g) w1 w2) (hg : w.heap.size ≤ g) : Chg (· = b) w w2 := ⟨C.os.trans h.os, C.tape.trans h.tape, C.output.trans h.output, Nat.le_trans h.size C.size, fun k hk hn => (C.same k (Nat.lt_of_lt_of_le hk h.size) (fun e => by have e' : k = g := e; omega)).trans (h.same k hk hn)⟩
/-- the part of one, and all that was given -/
structure DuE (b3 : Nat) (w : World) (n1 n2 n3 : Nat) (p q : Int) (e : Ending) (w' : World) : Prop where
  ex : ∃ a k d z a' k' d' z', e = .returned (.agg #[.slice a k d]) ∧ Nf w' z a k d p ∧ Nf w' z' a' k' d' q ∧ (k = 0 ∨ w.heap.size ≤ z) ∧ (k' = 0 ∨ w.heap.size ≤ z') ∧ k ≤ n1 + n2 + 60 ∧ k' ≤ n1 + n2 + n3 + 70 ∧ Blk w' b3 [.slice a' k' d'] 26 ∧ Chg (· = b3) w w'
set_option maxHeartbeats 4000000 in
theorem due_any {w : World} {rt tk un pe : Int} {jl bo : Bool} {a0 a4 a5 a6 : Option Addr} {n0 c0 n4 c4 n5 c5 n6 c6 : Nat} {a1 a2 a3 : Option Addr} {n1 c1 z1 n2 c2 z2 n3 c3 z3 b1 b2 b3 : Nat} {x1 x2 x3 : Int} (N1 : Nf w z1 a1 n1 c1 x1) (N2 : Nf w z2 a2 n2 c2 x2) (N3 : Nf w z3 a3 n3 c3 x3) (k1 : n1 ≤ 100000) (k2 : n2 ≤ 100000) (k3 : n3 ≤ 100000) (X1 : Blk w b1 [.slice a1 n1 c1] 26) (X2 : Blk w b2 [.slice a2 n2 c2] 26) (X3 : Blk w b3 [.slice a3 n3 c3] 26) (d1 : b1 ≠ b3) (d2 : b2 ≠ b3) (e1 : n1 = 0 ∨ z1 ≠ b3) (e2 : n2 = 0 ∨ z2 ≠ b3) (e3 : n3 = 0 ∨ z3 ≠ b3) (htk : 0 ≤ tk ∧ tk < 18446744073709551616) : Calls Tryz.prog 125 #[.agg #[.int .u64 rt, .int .u64 tk, .slice a0 n0 c0, .bool jl, .int .u64 un, .bool bo, .int .u64 pe, .slice a4 n4 c4, .slice a5 n5 c5, .slice a6 n6 c6], pg b1, pg b2, pg b3] w (DuE b3 w n1 n2 n3 (x1 * (tk * U36) / x2) (x3 + x1 * (tk * U36) / x2)) := by
  have lX1 := X1.lt
  have lX2 := X2.lt
  have lX3 := X3.lt
  have lN1 := N1.lt
  have lN2 := N2.lt
  have lN3 := N3.lt
  have CC := Chg.refl (· = b3) w
  refine gc_enter (n := 21) Tryz.func125 rfl (by kernel_rfl) (by kernel_rfl) ?_
  refine gc_seq ?_
  refine gc_reg ?_
  have lN1 := N1.lt
  have lX1 := X1.lt
  have lN2 := N2.lt
  have lX2 := X2.lt
  have lN3 := N3.lt
  have lX3 := X3.lt
  refine ta 4 [.int .u64 rt, .int .u64 tk, .slice a0 n0 c0, .bool jl, .int .u64 un, .bool bo, .int .u64 pe, .slice a4 n4 c4, .slice a5 n5 c5, .slice a6 n6 c6] 28 (pg) ?_
  intro v1 g2 Xg2 hg2 B
  have zg2 := Nat.le_trans CC.size hg2
  replace CC := CC.trans (Chg.of (F := fun _ => False) B) (fun _ _ h => h.elim)
  replace N1 := N1.keep B
  replace X1 := X1.keep B
  replace N2 := N2.keep B
  replace X2 := X2.keep B
  replace N3 := N3.keep B
  replace X3 := X3.keep B
  clear B
  have lN1 := N1.lt
  have lX1 := X1.lt
  have lN2 := N2.lt
  have lX2 := X2.lt
  have lN3 := N3.lt
  have lX3 := X3.lt
  have lXg2 := Xg2.lt
  refine ta 5 [.slice none 0 0] 26 (pg) ?_
  intro v3 g4 Xg4 hg4 B
  have zg4 := Nat.le_trans CC.size hg4
  replace CC := CC.trans (Chg.of (F := fun _ => False) B) (fun _ _ h => h.elim)
  replace N1 := N1.keep B
  replace X1 := X1.keep B
  replace N2 := N2.keep B
  replace X2 := X2.keep B
  replace N3 := N3.keep B
  replace X3 := X3.keep B
  replace Xg2 := Xg2.keep B
  clear B
  refine gl_nil ?_
  refine ge_then ?_
  refine gc_seq ?_
  replace CC := CC.trans (Chg.of (F := fun _ => False) (Below.refl _ _).drew) (fun _ _ h => h.elim)
  replace N1 := N1.drew
  replace X1 := X1.drew
  replace N2 := N2.drew
  replace X2 := X2.drew
  replace N3 := N3.drew
  replace X3 := X3.drew
  replace Xg2 := Xg2.drew
  replace Xg4 := Xg4.drew
  refine gc_draw (fun w' => Blk w' b1 [.slice a1 n1 c1] 26 ∧ Blk w' g2 [.int .u64 rt, .int .u64 tk, .slice a0 n0 c0, .bool jl, .int .u64 un, .bool bo, .int .u64 pe, .slice a4 n4 c4, .slice a5 n5 c5, .slice a6 n6 c6] 28 ∧ Blk w' b2 [.slice a2 n2 c2] 26) (fun _ => false) ⟨X1, Xg2, X2⟩ ?_
  refine zlr 0 9 [.slice a1 n1 c1] (fun _ h => h.1) 0 ?_
  refine z 1 10 (pq g2 1) ?_
  refine zl 2 11 (.int .u64 tk) (fun _ h => h.2.1) 1 ?_
  refine zlr 4 13 [.slice a2 n2 c2] (fun _ h => h.2.2) 0 ?_
  refine gz_ready [3, 9] ?_
  have lX1 := X1.lt
  have lX2 := X2.lt
  have lX3 := X3.lt
  have lXg2 := Xg2.lt
  have lXg4 := Xg4.lt
  refine ga_call 3 (some 12) 19 #[.int .u64 tk] (eOf htk) ?_ ?_
  · rintro _ v6 ⟨aq5, nq5, cq5, zq5, rfl, Nq5, hq5, mq5, B⟩
    replace CC := CC.trans (Chg.of (F := fun _ => False) B) (fun _ _ h => h.elim)
    replace N1 := N1.keep B
    replace X1 := X1.keep B
    replace N2 := N2.keep B
    replace X2 := X2.keep B
    replace N3 := N3.keep B
    replace X3 := X3.keep B
    replace Xg2 := Xg2.keep B
    replace Xg4 := Xg4.keep B
    clear B
    refine ⟨_, rfl, ⟨X1, Xg2, X2⟩, ?_⟩
    refine gz_ready [5, 9] ?_
    have lX1 := X1.lt
    have lX2 := X2.lt
    have lX3 := X3.lt
    have lXg2 := Xg2.lt
    have lXg4 := Xg4.lt
    refine ga_call 5 (some 14) 126 #[.agg #[.slice a1 n1 c1], .agg #[.slice aq5 nq5 cq5], .agg #[.slice a2 n2 c2]] (eMulDiv N1.nat (by omega) Nq5.nat (by omega) N2.nat (by omega)) ?_ ?_
    · rintro _ v8 ⟨aq7, nq7, cq7, zq7, rfl, Nq7, hq7, mq7, B⟩
      replace CC := CC.trans (Chg.of (F := fun _ => False) B) (fun _ _ h => h.elim)
      replace N1 := N1.keep B
      replace X1 := X1.keep B
      replace N2 := N2.keep B
      replace X2 := X2.keep B
      replace N3 := N3.keep B
      replace X3 := X3.keep B
      replace Xg2 := Xg2.keep B
      replace Xg4 := Xg4.keep B
      replace Nq5 := Nq5.keep B
      clear B
      refine ⟨_, rfl, ⟨X1, Xg2, X2⟩, ?_⟩
      refine z 6 8 (.tuple #[.agg #[.slice aq7 nq7 cq7], .int .i64 (dvZ x2)]) ?_
      refine z 7 15 (.agg #[.slice aq7 nq7 cq7]) ?_
      refine z 8 16 (.int .i64 (dvZ x2)) ?_
      have lN1 := N1.lt
      have lX1 := X1.lt
      have lN2 := N2.lt
      have lX2 := X2.lt
      have lN3 := N3.lt
      have lX3 := X3.lt
      have lXg2 := Xg2.lt
      have lXg4 := Xg4.lt
      have lNq5 := Nq5.lt
      have lNq7 := Nq7.lt
      refine za 9 6 [.slice none 0 0] 26 (pg) ?_
      intro v9 g10 Xg10 hg10 B
      have zg10 := Nat.le_trans CC.size hg10
      replace CC := CC.trans (Chg.of (F := fun _ => False) B) (fun _ _ h => h.elim)
      replace N1 := N1.keep B
      replace X1 := X1.keep B
      replace N2 := N2.keep B
      replace X2 := X2.keep B
      replace N3 := N3.keep B
      replace X3 := X3.keep B
      replace Xg2 := Xg2.keep B
      replace Xg4 := Xg4.keep B
      replace Nq5 := Nq5.keep B
      replace Nq7 := Nq7.keep B
      clear B
      refine ⟨⟨X1, Xg2, X2⟩, ?_⟩
      refine zs 10 Xg10 0 (.agg #[.slice aq7 nq7 cq7]) [.slice aq7 nq7 cq7] [.slice aq7 nq7 cq7] ?_
      intro v11 Y C
      replace CC := chgN CC C zg10
      replace N1 := N1.cell C (show n1 = 0 ∨ z1 ≠ g10 by omega)
      replace X1 := X1.chg C (show b1 ≠ g10 by omega)
      replace N2 := N2.cell C (show n2 = 0 ∨ z2 ≠ g10 by omega)
      replace X2 := X2.chg C (show b2 ≠ g10 by omega)
      replace N3 := N3.cell C (show n3 = 0 ∨ z3 ≠ g10 by omega)
      replace X3 := X3.chg C (show b3 ≠ g10 by omega)
      replace Xg2 := Xg2.chg C (show g2 ≠ g10 by omega)
      replace Xg4 := Xg4.chg C (show g4 ≠ g10 by omega)
      replace Nq5 := Nq5.cell C (show nq5 = 0 ∨ zq5 ≠ g10 by omega)
      replace Nq7 := Nq7.cell C (show nq7 = 0 ∨ zq7 ≠ g10 by omega)
      clear C Xg10
      have Xg10 := Y
      clear Y
      refine ⟨⟨X1, Xg2, X2⟩, ?_⟩
      refine z 11 7 (.int .i64 (dvZ x2)) ?_
      refine gz_done ?_
      refine ge_then ?_
      refine gc_fr [(3, pg b3), (5, pg g4), (6, pg g10)] (by kernel_rfl) ?_
      refine gc_seq ?_
      refine gc_reg ?_
      refine tlr 17 [.slice a3 n3 c3] X3 0 ?_
      refine tlr 18 [.slice aq7 nq7 cq7] Xg10 0 ?_
      have lX1 := X1.lt
      have lX2 := X2.lt
      have lX3 := X3.lt
      have lXg2 := Xg2.lt
      have lXg4 := Xg4.lt
      have lXg10 := Xg10.lt
      refine tc 19 8 #[.agg #[.slice a3 n3 c3], .agg #[.slice aq7 nq7 cq7]] (eAdd N3.nat (by omega) Nq7.nat (by omega)) ?_
      rintro _ v13 ⟨aq12, nq12, cq12, zq12, rfl, Nq12, hq12, mq12, B⟩
      refine ⟨_, rfl, ?_⟩
      replace CC := CC.trans (Chg.of (F := fun _ => False) B) (fun _ _ h => h.elim)
      replace N1 := N1.keep B
      replace X1 := X1.keep B
      replace N2 := N2.keep B
      replace X2 := X2.keep B
      replace N3 := N3.keep B
      replace X3 := X3.keep B
      replace Xg2 := Xg2.keep B
      replace Xg4 := Xg4.keep B
      replace Nq5 := Nq5.keep B
      replace Nq7 := Nq7.keep B
      replace Xg10 := Xg10.keep B
      clear B
      refine ts X3 0 (.agg #[.slice aq12 nq12 cq12]) [.slice aq12 nq12 cq12] [.slice aq12 nq12 cq12] ?_
      intro v14 Y C
      replace CC := CC.trans C (fun _ _ h => h)
      replace N1 := N1.cell C (show n1 = 0 ∨ z1 ≠ b3 by omega)
      replace X1 := X1.chg C (show b1 ≠ b3 by omega)
      replace N2 := N2.cell C (show n2 = 0 ∨ z2 ≠ b3 by omega)
      replace X2 := X2.chg C (show b2 ≠ b3 by omega)
      replace N3 := N3.cell C (show n3 = 0 ∨ z3 ≠ b3 by omega)
      replace Xg2 := Xg2.chg C (show g2 ≠ b3 by omega)
      replace Xg4 := Xg4.chg C (show g4 ≠ b3 by omega)
      replace Nq5 := Nq5.cell C (show nq5 = 0 ∨ zq5 ≠ b3 by omega)
      replace Nq7 := Nq7.cell C (show nq7 = 0 ∨ zq7 ≠ b3 by omega)
      replace Xg10 := Xg10.chg C (show g10 ≠ b3 by omega)
      replace Nq12 := Nq12.cell C (show nq12 = 0 ∨ zq12 ≠ b3 by omega)
      clear C X3
      have X3 := Y
      clear Y
      refine gl_nil ?_
      refine ge_then ?_
      refine gc_seq ?_
      refine gc_reg ?_
      refine tlr 20 [.slice aq7 nq7 cq7] Xg10 0 ?_
      refine ts Xg4 0 (.agg #[.slice aq7 nq7 cq7]) [.slice aq7 nq7 cq7] [.slice aq7 nq7 cq7] ?_
      intro v15 Y C
      replace CC := chgN CC C zg4
      replace N1 := N1.cell C (show n1 = 0 ∨ z1 ≠ g4 by omega)
      replace X1 := X1.chg C (show b1 ≠ g4 by omega)
      replace N2 := N2.cell C (show n2 = 0 ∨ z2 ≠ g4 by omega)
      replace X2 := X2.chg C (show b2 ≠ g4 by omega)
      replace N3 := N3.cell C (show n3 = 0 ∨ z3 ≠ g4 by omega)
      replace X3 := X3.chg C (show b3 ≠ g4 by omega)
      replace Xg2 := Xg2.chg C (show g2 ≠ g4 by omega)
      replace Nq5 := Nq5.cell C (show nq5 = 0 ∨ zq5 ≠ g4 by omega)
      replace Nq7 := Nq7.cell C (show nq7 = 0 ∨ zq7 ≠ g4 by omega)
      replace Xg10 := Xg10.chg C (show g10 ≠ g4 by omega)
      replace Nq12 := Nq12.cell C (show nq12 = 0 ∨ zq12 ≠ g4 by omega)
      clear C Xg4
      have Xg4 := Y
      clear Y
      refine gl_nil ?_
      refine ge_then ?_
      refine gc_ret ?_
      refine ge_ret (.agg #[.slice aq7 nq7 cq7]) (rsc 5 (T := 26) (by kernel_rfl) (by kernel_rfl) (lr Xg4 0)) ?_
      exact ⟨_, _, _, _, _, _, _, _, rfl, Nq7, Nq12, by omega, by omega, by omega, by omega, X3, CC⟩
    have lN1 := N1.lt
    have lX1 := X1.lt
    have lN2 := N2.lt
    have lX2 := X2.lt
    have lN3 := N3.lt
    have lX3 := X3.lt
    have lXg2 := Xg2.lt
    have lXg4 := Xg4.lt
    have lNq5 := Nq5.lt
    refine zaa 9 6 [.slice none 0 0] 26 (pg) ?_ ?_
    · intro v16 g17 Xg17 hg17 B
      have zg17 := Nat.le_trans CC.size hg17
      replace CC := CC.trans (Chg.of (F := fun _ => False) B) (fun _ _ h => h.elim)
      replace N1 := N1.keep B
      replace X1 := X1.keep B
      replace N2 := N2.keep B
      replace X2 := X2.keep B
      replace N3 := N3.keep B
      replace X3 := X3.keep B
      replace Xg2 := Xg2.keep B
      replace Xg4 := Xg4.keep B
      replace Nq5 := Nq5.keep B
      clear B
      refine ⟨⟨X1, Xg2, X2⟩, ?_⟩
      have lX1 := X1.lt
      have lX2 := X2.lt
      have lX3 := X3.lt
      have lXg2 := Xg2.lt
      have lXg4 := Xg4.lt
      have lXg17 := Xg17.lt
      refine zc 5 14 126 #[.agg #[.slice a1 n1 c1], .agg #[.slice aq5 nq5 cq5], .agg #[.slice a2 n2 c2]] (eMulDiv N1.nat (by omega) Nq5.nat (by omega) N2.nat (by omega)) ?_
      rintro _ v19 ⟨aq18, nq18, cq18, zq18, rfl, Nq18, hq18, mq18, B⟩
      replace CC := CC.trans (Chg.of (F := fun _ => False) B) (fun _ _ h => h.elim)
      replace N1 := N1.keep B
      replace X1 := X1.keep B
      replace N2 := N2.keep B
      replace X2 := X2.keep B
      replace N3 := N3.keep B
      replace X3 := X3.keep B
      replace Xg2 := Xg2.keep B
      replace Xg4 := Xg4.keep B
      replace Nq5 := Nq5.keep B
      replace Xg17 := Xg17.keep B
      clear B
      refine ⟨_, rfl, ⟨X1, Xg2, X2⟩, ?_⟩
      refine z 6 8 (.tuple #[.agg #[.slice aq18 nq18 cq18], .int .i64 (dvZ x2)]) ?_
      refine z 7 15 (.agg #[.slice aq18 nq18 cq18]) ?_
      refine z 8 16 (.int .i64 (dvZ x2)) ?_
      refine zs 10 Xg17 0 (.agg #[.slice aq18 nq18 cq18]) [.slice aq18 nq18 cq18] [.slice aq18 nq18 cq18] ?_
      intro v20 Y C
      replace CC := chgN CC C zg17
      replace N1 := N1.cell C (show n1 = 0 ∨ z1 ≠ g17 by omega)
      replace X1 := X1.chg C (show b1 ≠ g17 by omega)
      replace N2 := N2.cell C (show n2 = 0 ∨ z2 ≠ g17 by omega)
      replace X2 := X2.chg C (show b2 ≠ g17 by omega)
      replace N3 := N3.cell C (show n3 = 0 ∨ z3 ≠ g17 by omega)
      replace X3 := X3.chg C (show b3 ≠ g17 by omega)
      replace Xg2 := Xg2.chg C (show g2 ≠ g17 by omega)
      replace Xg4 := Xg4.chg C (show g4 ≠ g17 by omega)
      replace Nq5 := Nq5.cell C (show nq5 = 0 ∨ zq5 ≠ g17 by omega)
      replace Nq18 := Nq18.cell C (show nq18 = 0 ∨ zq18 ≠ g17 by omega)
      clear C Xg17
      have Xg17 := Y
      clear Y
      refine ⟨⟨X1, Xg2, X2⟩, ?_⟩
      refine z 11 7 (.int .i64 (dvZ x2)) ?_
      refine gz_done ?_
      refine ge_then ?_
      refine gc_fr [(3, pg b3), (5, pg g4), (6, pg g17)] (by kernel_rfl) ?_
      refine gc_seq ?_
      refine gc_reg ?_
      refine tlr 17 [.slice a3 n3 c3] X3 0 ?_
      refine tlr 18 [.slice aq18 nq18 cq18] Xg17 0 ?_
      have lX1 := X1.lt
      have lX2 := X2.lt
      have lX3 := X3.lt
      have lXg2 := Xg2.lt
      have lXg4 := Xg4.lt
      have lXg17 := Xg17.lt
      refine tc 19 8 #[.agg #[.slice a3 n3 c3], .agg #[.slice aq18 nq18 cq18]] (eAdd N3.nat (by omega) Nq18.nat (by omega)) ?_
      rintro _ v22 ⟨aq21, nq21, cq21, zq21, rfl, Nq21, hq21, mq21, B⟩
      refine ⟨_, rfl, ?_⟩
      replace CC := CC.trans (Chg.of (F := fun _ => False) B) (fun _ _ h => h.elim)
      replace N1 := N1.keep B
      replace X1 := X1.keep B
      replace N2 := N2.keep B
      replace X2 := X2.keep B
      replace N3 := N3.keep B
      replace X3 := X3.keep B
      replace Xg2 := Xg2.keep B
      replace Xg4 := Xg4.keep B
      replace Nq5 := Nq5.keep B
      replace Xg17 := Xg17.keep B
      replace Nq18 := Nq18.keep B
      clear B
      refine ts X3 0 (.agg #[.slice aq21 nq21 cq21]) [.slice aq21 nq21 cq21] [.slice aq21 nq21 cq21] ?_
      intro v23 Y C
      replace CC := CC.trans C (fun _ _ h => h)
      replace N1 := N1.cell C (show n1 = 0 ∨ z1 ≠ b3 by omega)
      replace X1 := X1.chg C (show b1 ≠ b3 by omega)
      replace N2 := N2.cell C (show n2 = 0 ∨ z2 ≠ b3 by omega)
      replace X2 := X2.chg C (show b2 ≠ b3 by omega)
      replace N3 := N3.cell C (show n3 = 0 ∨ z3 ≠ b3 by omega)
      replace Xg2 := Xg2.chg C (show g2 ≠ b3 by omega)
      replace Xg4 := Xg4.chg C (show g4 ≠ b3 by omega)
      replace Nq5 := Nq5.cell C (show nq5 = 0 ∨ zq5 ≠ b3 by omega)
      replace Xg17 := Xg17.chg C (show g17 ≠ b3 by omega)
      replace Nq18 := Nq18.cell C (show nq18 = 0 ∨ zq18 ≠ b3 by omega)
      replace Nq21 := Nq21.cell C (show nq21 = 0 ∨ zq21 ≠ b3 by omega)
      clear C X3
      have X3 := Y
      clear Y
      refine gl_nil ?_
      refine ge_then ?_
      refine gc_seq ?_
      refine gc_reg ?_
      refine tlr 20 [.slice aq18 nq18 cq18] Xg17 0 ?_
      refine ts Xg4 0 (.agg #[.slice aq18 nq18 cq18]) [.slice aq18 nq18 cq18] [.slice aq18 nq18 cq18] ?_
      intro v24 Y C
      replace CC := chgN CC C zg4
      replace N1 := N1.cell C (show n1 = 0 ∨ z1 ≠ g4 by omega)
      replace X1 := X1.chg C (show b1 ≠ g4 by omega)
      replace N2 := N2.cell C (show n2 = 0 ∨ z2 ≠ g4 by omega)
      replace X2 := X2.chg C (show b2 ≠ g4 by omega)
      replace N3 := N3.cell C (show n3 = 0 ∨ z3 ≠ g4 by omega)
      replace X3 := X3.chg C (show b3 ≠ g4 by omega)
      replace Xg2 := Xg2.chg C (show g2 ≠ g4 by omega)
      replace Nq5 := Nq5.cell C (show nq5 = 0 ∨ zq5 ≠ g4 by omega)
      replace Xg17 := Xg17.chg C (show g17 ≠ g4 by omega)
      replace Nq18 := Nq18.cell C (show nq18 = 0 ∨ zq18 ≠ g4 by omega)
      replace Nq21 := Nq21.cell C (show nq21 = 0 ∨ zq21 ≠ g4 by omega)
      clear C Xg4
      have Xg4 := Y
      clear Y
      refine gl_nil ?_
      refine ge_then ?_
      refine gc_ret ?_
      refine ge_ret (.agg #[.slice aq18 nq18 cq18]) (rsc 5 (T := 26) (by kernel_rfl) (by kernel_rfl) (lr Xg4 0)) ?_
      exact ⟨_, _, _, _, _, _, _, _, rfl, Nq18, Nq21, by omega, by omega, by omega, by omega, X3, CC⟩
    exact ga_nil
  have lN1 := N1.lt
  have lX1 := X1.lt
  have lN2 := N2.lt
  have lX2 := X2.lt
  have lN3 := N3.lt
  have lX3 := X3.lt
  have lXg2 := Xg2.lt
  have lXg4 := Xg4.lt
  refine zaa 9 6 [.slice none 0 0] 26 (pg) ?_ ?_
  · intro v25 g26 Xg26 hg26 B
    have zg26 := Nat.le_trans CC.size hg26
    replace CC := CC.trans (Chg.of (F := fun _ => False) B) (fun _ _ h => h.elim)
    replace N1 := N1.keep B
    replace X1 := X1.keep B
    replace N2 := N2.keep B
    replace X2 := X2.keep B
    replace N3 := N3.keep B
    replace X3 := X3.keep B
    replace Xg2 := Xg2.keep B
    replace Xg4 := Xg4.keep B
    clear B
    refine ⟨⟨X1, Xg2, X2⟩, ?_⟩
    have lX1 := X1.lt
    have lX2 := X2.lt
    have lX3 := X3.lt
    have lXg2 := Xg2.lt
    have lXg4 := Xg4.lt
    have lXg26 := Xg26.lt
    refine zc 3 12 19 #[.int .u64 tk] (eOf htk) ?_
    rintro _ v28 ⟨aq27, nq27, cq27, zq27, rfl, Nq27, hq27, mq27, B⟩
    replace CC := CC.trans (Chg.of (F := fun _ => False) B) (fun _ _ h => h.elim)
    replace N1 := N1.keep B
    replace X1 := X1.keep B
    replace N2 := N2.keep B
    replace X2 := X2.keep B
    replace N3 := N3.keep B
    replace X3 := X3.keep B
    replace Xg2 := Xg2.keep B
    replace Xg4 := Xg4.keep B
    replace Xg26 := Xg26.keep B
    clear B
    refine ⟨_, rfl, ⟨X1, Xg2, X2⟩, ?_⟩
    have lX1 := X1.lt
    have lX2 := X2.lt
    have lX3 := X3.lt
    have lXg2 := Xg2.lt
    have lXg4 := Xg4.lt
    have lXg26 := Xg26.lt
    refine zc 5 14 126 #[.agg #[.slice a1 n1 c1], .agg #[.slice aq27 nq27 cq27], .agg #[.slice a2 n2 c2]] (eMulDiv N1.nat (by omega) Nq27.nat (by omega) N2.nat (by omega)) ?_
    rintro _ v30 ⟨aq29, nq29, cq29, zq29, rfl, Nq29, hq29, mq29, B⟩
    replace CC := CC.trans (Chg.of (F := fun _ => False) B) (fun _ _ h => h.elim)
    replace N1 := N1.keep B
    replace X1 := X1.keep B
    replace N2 := N2.keep B
    replace X2 := X2.keep B
    replace N3 := N3.keep B
    replace X3 := X3.keep B
    replace Xg2 := Xg2.keep B
    replace Xg4 := Xg4.keep B
    replace Xg26 := Xg26.keep B
    replace Nq27 := Nq27.keep B
    clear B
    refine ⟨_, rfl, ⟨X1, Xg2, X2⟩, ?_⟩
    refine z 6 8 (.tuple #[.agg #[.slice aq29 nq29 cq29], .int .i64 (dvZ x2)]) ?_
    refine z 7 15 (.agg #[.slice aq29 nq29 cq29]) ?_
    refine z 8 16 (.int .i64 (dvZ x2)) ?_
    refine zs 10 Xg26 0 (.agg #[.slice aq29 nq29 cq29]) [.slice aq29 nq29 cq29] [.slice aq29 nq29 cq29] ?_
    intro v31 Y C
    replace CC := chgN CC C zg26
    replace N1 := N1.cell C (show n1 = 0 ∨ z1 ≠ g26 by omega)
    replace X1 := X1.chg C (show b1 ≠ g26 by omega)
    replace N2 := N2.cell C (show n2 = 0 ∨ z2 ≠ g26 by omega)
    replace X2 := X2.chg C (show b2 ≠ g26 by omega)
    replace N3 := N3.cell C (show n3 = 0 ∨ z3 ≠ g26 by omega)
    replace X3 := X3.chg C (show b3 ≠ g26 by omega)
    replace Xg2 := Xg2.chg C (show g2 ≠ g26 by omega)
    replace Xg4 := Xg4.chg C (show g4 ≠ g26 by omega)
    replace Nq27 := Nq27.cell C (show nq27 = 0 ∨ zq27 ≠ g26 by omega)
    replace Nq29 := Nq29.cell C (show nq29 = 0 ∨ zq29 ≠ g26 by omega)
    clear C Xg26
    have Xg26 := Y
    clear Y
    refine ⟨⟨X1, Xg2, X2⟩, ?_⟩
    refine z 11 7 (.int .i64 (dvZ x2)) ?_
    refine gz_done ?_
    refine ge_then ?_
    refine gc_fr [(3, pg b3), (5, pg g4), (6, pg g26)] (by kernel_rfl) ?_
    refine gc_seq ?_
    refine gc_reg ?_
    refine tlr 17 [.slice a3 n3 c3] X3 0 ?_
    refine tlr 18 [.slice aq29 nq29 cq29] Xg26 0 ?_
    have lX1 := X1.lt
    have lX2 := X2.lt
    have lX3 := X3.lt
    have lXg2 := Xg2.lt
    have lXg4 := Xg4.lt
    have lXg26 := Xg26.lt
    refine tc 19 8 #[.agg #[.slice a3 n3 c3], .agg #[.slice aq29 nq29 cq29]] (eAdd N3.nat (by omega) Nq29.nat (by omega)) ?_
    rintro _ v33 ⟨aq32, nq32, cq32, zq32, rfl, Nq32, hq32, mq32, B⟩
    refine ⟨_, rfl, ?_⟩
    replace CC := CC.trans (Chg.of (F := fun _ => False) B) (fun _ _ h => h.elim)
    replace N1 := N1.keep B
    replace X1 := X1.keep B
    replace N2 := N2.keep B
    replace X2 := X2.keep B
    replace N3 := N3.keep B
    replace X3 := X3.keep B
    replace Xg2 := Xg2.keep B
    replace Xg4 := Xg4.keep B
    replace Xg26 := Xg26.keep B
    replace Nq27 := Nq27.keep B
    replace Nq29 := Nq29.keep B
    clear B
    refine ts X3 0 (.agg #[.slice aq32 nq32 cq32]) [.slice aq32 nq32 cq32] [.slice aq32 nq32 cq32] ?_
    intro v34 Y C
    replace CC := CC.trans C (fun _ _ h => h)
    replace N1 := N1.cell C (show n1 = 0 ∨ z1 ≠ b3 by omega)
    replace X1 := X1.chg C (show b1 ≠ b3 by omega)
    replace N2 := N2.cell C (show n2 = 0 ∨ z2 ≠ b3 by omega)
    replace X2 := X2.chg C (show b2 ≠ b3 by omega)
    replace N3 := N3.cell C (show n3 = 0 ∨ z3 ≠ b3 by omega)
    replace Xg2 := Xg2.chg C (show g2 ≠ b3 by omega)
    replace Xg4 := Xg4.chg C (show g4 ≠ b3 by omega)
    replace Xg26 := Xg26.chg C (show g26 ≠ b3 by omega)
    replace Nq27 := Nq27.cell C (show nq27 = 0 ∨ zq27 ≠ b3 by omega)
    replace Nq29 := Nq29.cell C (show nq29 = 0 ∨ zq29 ≠ b3 by omega)
    replace Nq32 := Nq32.cell C (show nq32 = 0 ∨ zq32 ≠ b3 by omega)
    clear C X3
    have X3 := Y
    clear Y
    refine gl_nil ?_
    refine ge_then ?_
    refine gc_seq ?_
    refine gc_reg ?_
    refine tlr 20 [.slice aq29 nq29 cq29] Xg26 0 ?_
    refine ts Xg4 0 (.agg #[.slice aq29 nq29 cq29]) [.slice aq29 nq29 cq29] [.slice aq29 nq29 cq29] ?_
    intro v35 Y C
    replace CC := chgN CC C zg4
    replace N1 := N1.cell C (show n1 = 0 ∨ z1 ≠ g4 by omega)
    replace X1 := X1.chg C (show b1 ≠ g4 by omega)
    replace N2 := N2.cell C (show n2 = 0 ∨ z2 ≠ g4 by omega)
    replace X2 := X2.chg C (show b2 ≠ g4 by omega)
    replace N3 := N3.cell C (show n3 = 0 ∨ z3 ≠ g4 by omega)
    replace X3 := X3.chg C (show b3 ≠ g4 by omega)
    replace Xg2 := Xg2.chg C (show g2 ≠ g4 by omega)
    replace Xg26 := Xg26.chg C (show g26 ≠ g4 by omega)
    replace Nq27 := Nq27.cell C (show nq27 = 0 ∨ zq27 ≠ g4 by omega)
    replace Nq29 := Nq29.cell C (show nq29 = 0 ∨ zq29 ≠ g4 by omega)
    replace Nq32 := Nq32.cell C (show nq32 = 0 ∨ zq32 ≠ g4 by omega)
    clear C Xg4
    have Xg4 := Y
    clear Y
    refine gl_nil ?_
    refine ge_then ?_
    refine gc_ret ?_
    refine ge_ret (.agg #[.slice aq29 nq29 cq29]) (rsc 5 (T := 26) (by kernel_rfl) (by kernel_rfl) (lr Xg4 0)) ?_
    exact ⟨_, _, _, _, _, _, _, _, rfl, Nq29, Nq32, by omega, by omega, by omega, by omega, X3, CC⟩
  exact ga_nil
theorem DuE.cast {b3 n1 n2 n3 P : Nat} {w : World} {args : Array Value} {p p' x : Int} (h : Calls Tryz.prog P args w (DuE b3 w n1 n2 n3 p (x + p))) (e : p = p') : Calls Tryz.prog P args w (DuE b3 w n1 n2 n3 p' (x + p')) := by
  subst e
  exact h
theorem Uy.lput {w0 w w1 : World} {B g0 n N g C : Nat} {K0 K : Nat → Prop} {W : List Ents} {E : Ents} {bs : List Bx} {qs : List Nx} {cs cs' : List Value} {t : TypeId} (h : Uy w1 C w0 K0 B g0 W w K E n N bs qs) (i : Nat) (hi : bs[i]? = some (g, cs, t)) : ∀ p ∈ bs.set i (g, cs', t), p.1 < w.heap.size := fun p hp => (mem_setB hp).elim (fun e => by rw [e]; exact h.lt (g, cs, t) (List.mem_of_getElem? hi)) (h.lt p)
theorem KPd : Kd Tryz.prog 60 63 7 104 (.agg #[.int .u64 0, .int .u64 0, .int .u64 0, .slice none 0 0, .slice none 0 0, .slice none 0 0, .int .u64 0]) := ⟨by kernel_rfl, by kernel_rfl, rfl, by simp [Value.cells, Value.oneCell'], by decide⟩
theorem blk_cells {w : World} {g : Nat} {cs : List Value} {t : TypeId} (X : Blk w g cs t) : ∀ j u, cs[j]? = some u → w.cell? ((⟨g, 0, none⟩ : Addr).add j) = some u := fun j u hj => by
  have := X.cell (i := j) hj
  cases j <;> simpa [Addr.add] using this
theorem app_p0 {w : World} {gx : Nat} {cs : List Value} (X : Blk w gx cs 63) (hl : cs.length = 7) : ∃ gp cp w' sp, (Builtin.append_ #[60, 60] 60 #[.slice none 0 0, .slice (some ⟨gx, 0, none⟩) 1 1]).run Tryz.prog w = .ok (.slice (some ⟨gp, 0, none⟩) 1 cp) w' ∧ Blk w' gp (cs ++ sp) 63 ∧ w.heap.size ≤ gp ∧ (cs ++ sp).length = cp * 7 ∧ 1 ≤ cp ∧ cp ≤ maxLen ∧ Below w.heap.size w w' := by
  obtain ⟨c', w', hr, R, hw⟩ := app_nil (w := w) KPd 60 ⟨gx, 0, none⟩ 1 1 cs (by omega) (blk_cells X) (by omega) (by omega) (by omega)
  obtain ⟨sp, Y, _, h1, h2, h3⟩ := R.ex
  exact ⟨_, c', w', sp, hr, Y, Nat.le_refl _, h1, h2, h3, hw⟩
theorem app_p1 {w : World} {gx gp cp : Nat} {xs sp cs : List Value} (Y : Blk w gp (xs ++ sp) 63) (h7 : xs.length = 7) (h1 : (xs ++ sp).length = cp * 7) (h2 : 1 ≤ cp) (h3 : cp ≤ maxLen) (X : Blk w gx cs 63) (hl : cs.length = 7) (h5 : ∀ u ∈ cs, u.oneCell' = true) : ∃ gp' cp' w' sp', (Builtin.append_ #[60, 60] 60 #[.slice (some ⟨gp, 0, none⟩) 1 cp, .slice (some ⟨gx, 0, none⟩) 1 1]).run Tryz.prog w = .ok (.slice (some ⟨gp', 0, none⟩) 2 cp') w' ∧ Blk w' gp' (xs ++ cs ++ sp') 63 ∧ (gp' = gp ∨ w.heap.size ≤ gp') ∧ Chg (· = gp) w w' := by
  obtain ⟨b', c', w', hr, hb', R, C⟩ := app_row KPd 60 (n := 1) (c := cp) (xs := xs) ⟨sp, Y, by omega, h1, h2, h3⟩ ⟨gx, 0, none⟩ 1 1 cs (by omega) (blk_cells X) h5 (by omega) (by omega)
  obtain ⟨sp', Y', _⟩ := R.ex
  exact ⟨b', c', w', sp', hr, Y', hb'.imp_right (fun e => by omega), C⟩
theorem run_apL {ρ : Operand → Value} {w w' : World} {o : Oper} {u v r : Value} (hr : (Builtin.append_ #[60, 60] 60 #[u, v]).run Tryz.prog w = .ok r w') (ho : ∃ x y, o.op = .call { callee := .builtin .append, args := #[x, y], argTypes := #[60, 60] } ∧ o.type = 60 ∧ ρ x = u ∧ ρ y = v := by exact ⟨_, _, rfl, rfl, by kernel_rfl, by kernel_rfl⟩) : (execOp ρ o).run Tryz.prog w = .ok (.value r) w' := by
  obtain ⟨x, y, h, ht, h1, h2⟩ := ho
  unfold execOp
  simp only [h, ht, resolve, invoke, builtin, Sem.run_bind, Sem.run_pure, Result.andThen_ok, List.map_toArray, List.map_cons, List.map_nil, h1, h2, hr]
/-- how shareOut stands: what was given; the list; what it tells of -/
structure Sg where
  a : Option Addr
  k : Nat
  c : Nat
  z : Nat
  gp : Nat
  cp : Nat
  sp : List Value
  aq : Option Addr
  kq : Nat
  cq : Nat
  zq : Nat
  ar : Option Addr
  kr : Nat
  cr : Nat
  zr : Nat
structure Jn where
  gd : Nat
  a0 : Option Addr
  k0 : Nat
  c0 : Nat
  z0 : Nat
  a1 : Option Addr
  k1 : Nat
  c1 : Nat
  z1 : Nat
  a2 : Option Addr
  k2 : Nat
  c2 : Nat
  z2 : Nat
  a3 : Option Addr
  k3 : Nat
  c3 : Nat
  z3 : Nat
  a4 : Option Addr
  k4 : Nat
  c4 : Nat
  z4 : Nat
/-- shareOut's answer: the list, what it tells, and the sum -/
structure ShE (B : Nat) (w : World) (K : Nat → Prop) (g : Nat) (E : Ents) (n N : Nat) (v0 y1 y0 : Int) (e : Ending) (w' : World) : Prop where
  ex : ∃ gp cp sp b0 k0 d0 u0 b1 k1 d1 u1 b2 k2 d2 u2 K' n' N', e = .returned (.tuple #[.slice (some ⟨gp, 0, none⟩) 2 cp, .agg #[.slice b0 k0 d0]]) ∧ n' ≤ n + 200 ∧ N' ≤ N + 200 ∧ Ut w K B g [] w' K' E n' N' [(gp, .int .u64 16 :: .int .u64 0 :: .int .u64 0 :: .slice b2 k2 d2 :: .slice none 0 0 :: .slice none 0 0 :: .int .u64 0 :: .int .u64 17 :: .int .u64 0 :: .int .u64 0 :: .slice b1 k1 d1 :: .slice none 0 0 :: .slice none 0 0 :: .int .u64 0 :: sp, 63)] [(u0, b0, k0, d0, v0), (u1, b1, k1, d1, y1), (u2, b2, k2, d2, y0)] ∧ k0 ≤ 3000 ∧ (k0 = 0 ∨ w.heap.size ≤ u0) ∧ k1 ≤ 3000 ∧ (k1 = 0 ∨ w.heap.size ≤ u1) ∧ k2 ≤ 3000 ∧ (k2 = 0 ∨ w.heap.size ≤ u2)
theorem Ut.ne {w0 w : World} {B g0 n N g g' : Nat} {K0 K : Nat → Prop} {W : List Ents} {E : Ents} {bs : List Bx} {qs : List Nx} {cs cs' : List Value} {t t' : TypeId} (h : Ut w0 K0 B g0 W w K E n N bs qs) (i j : Nat) (hi : bs[i]? = some (g, cs, t)) (hj : bs[j]? = some (g', cs', t')) (hij : i ≠ j) : g ≠ g' := by
  obtain ⟨li, ei⟩ := List.getElem?_eq_some_iff.1 hi
  obtain ⟨lj, ej⟩ := List.getElem?_eq_some_iff.1 hj
  have pw := List.pairwise_iff_getElem.1 h.d
  rcases Nat.lt_or_gt_of_ne hij with c | c
  · have := pw i j li lj c
    rw [ei, ej] at this
    exact this
  · have := pw j i lj li c
    rw [ei, ej] at this
    exact fun e => this e.symm
theorem Ut.addR {w0 w : World} {B g0 n N z k d : Nat} {K0 K : Nat → Prop} {W : List Ents} {E : Ents} {bs : List Bx} {qs : List Nx} {a : Option Addr} {x : Int} (h : Ut w0 K0 B g0 W w K E n N bs qs) (Q : Nq w K z a k d x) (hz : k = 0 ∨ z < w0.heap.size) : Ut w0 K0 B g0 W w K E n N bs ((z, a, k, d, x) :: qs) := ⟨h.ta, h.b, List.forall_mem_cons.2 ⟨Q, h.q⟩, fun p hp => List.forall_mem_cons.2 ⟨hz.imp_right (fun q e => by have := (h.b p hp).2.2; have e' : z = p.1 := e; omega), h.e p hp⟩, h.d⟩
set_option maxHeartbeats 8000000 in
theorem share_any {B : Nat} {w : World} {K : Nat → Prop} {g : Nat} {E0 E1 E2 : Ents} {n N : Nat} {rt0 tk0 un0 pe0 x00 x01 x02 x03 : Int} {jl0 bo0 : Bool} {rt1 tk1 un1 pe1 x10 x11 x12 x13 : Int} {jl1 bo1 : Bool} {p0 p1 y0 y1 x4 : Int} {a4 : Option Addr} {n4 c4 z4 : Nat} (h : Sx B w K g E0 [] n N) (Q4 : Nq w K z4 a4 n4 c4 x4) (m4 : n4 ≤ 300) (hp : (pks 11 98 E0).map Prod.fst = [16, 17]) (hRk : ∀ x ∈ E0, [98] <+: x.1 → Ky.frm (11 : Nat) = Ky.fIn x.1) (hv0 : qVal (got E0 (Ky.mk 5 16 0)) = ([rt0, tk0, x00, (bi jl0), un0, (bi bo0), pe0, x01, x02, x03], 0)) (hv1 : qVal (got E1 (Ky.mk 5 17 0)) = ([rt1, tk1, x10, (bi jl1), un1, (bi bo1), pe1, x11, x12, x13], 0)) (hv10 : qVal (got E0 (Ky.mk 5 17 0)) = ([rt1, tk1, x10, (bi jl1), un1, (bi bo1), pe1, x11, x12, x13], 0)) (htk0 : 0 ≤ tk0 ∧ tk0 < 18446744073709551616) (htk1 : 0 ≤ tk1 ∧ tk1 < 18446744073709551616) (hrt0 : 0 ≤ rt0 ∧ rt0 < 18446744073709551616) (hrt1 : 0 ≤ rt1 ∧ rt1 < 18446744073709551616) (hal : ¬ (0 + tk0 + tk1) * U36 = 0)
    (hp0 : x4 * (tk0 * U36) / ((0 + tk0 + tk1) * U36) = p0) (hp1 : x4 * (tk1 * U36) / ((0 + tk0 + tk1) * U36) = p1) (hq0 : subV (x01 + subV p0 (por p0 rt0)) x01 = y0) (hq1 : subV (x11 + subV p1 (por p1 rt1)) x11 = y1) (hE1 : put E0 (Ky.mk 5 16 0) (vv rt0 tk0 x00 jl0 un0 bo0 pe0 (x01 + subV p0 (por p0 rt0)) (x02 + p0) (x03 + por p0 rt0)) = E1) (hE2 : put E1 (Ky.mk 5 17 0) (vv rt1 tk1 x10 jl1 un1 bo1 pe1 (x11 + subV p1 (por p1 rt1)) (x12 + p1) (x13 + por p1 rt1)) = E2) (hn : n ≤ 100000) (hN : N ≤ 100000) : Calls Tryz.prog 68 #[pg g, .agg #[.slice a4 n4 c4]] w (ShE B w K g E2 n N (0 + p0 + p1) y1 y0) := by
  have l4 := Q4.lt
  have U := ut_of h
  refine gc_enterM (n := 46) Tryz.func68 rfl (by kernel_rfl) (by kernel_rfl) ?_
  refine gc_seq ?_
  refine gc_reg ?_
  refine ta 2 [pg g] 40 (pg) ?_
  intro v1 g2 Xg2 hg2 B
  replace U := U.new Xg2 hg2 B
  clear Xg2 hg2 B
  refine ta 3 [.slice a4 n4 c4] 26 (pg) ?_
  intro v3 g4 Xg4 hg4 B
  replace U := U.new Xg4 hg4 B
  clear Xg4 hg4 B
  refine t 4 (.slice none 0 0) ?_
  refine ta 5 [.slice none 0 0] 26 (pg) ?_
  intro v5 g6 Xg6 hg6 B
  replace U := U.new Xg6 hg6 B
  clear Xg6 hg6 B
  refine gl_nil ?_
  refine ge_then ?_
  refine gc_seq ?_
  refine gc_reg ?_
  refine ta 6 [.slice none 0 0] 60 (pg) ?_
  intro v7 g8 Xg8 hg8 B
  replace U := U.new Xg8 hg8 B
  clear Xg8 hg8 B
  refine gl_nil ?_
  refine ge_then ?_
  refine gc_seq ?_
  refine gc_reg ?_
  refine ta 7 [.slice none 0 0] 26 (pg) ?_
  intro v9 g10 Xg10 hg10 B
  replace U := U.new Xg10 hg10 B
  clear Xg10 hg10 B
  refine gl_nil ?_
  refine ge_then ?_
  refine gc_seq ?_
  refine gc_reg ?_
  refine tl 13 (pg g) (U.bk 4 rfl) 0 ?_
  refine tc 14 124 #[pg g] (tok_any U.ta.sx hp hRk hv0 hv10 htk0 htk1 (by omega) (by omega)) ?_
  rintro _ v15 ⟨ar11, nr11, cr11, zr11, K12, n13, N14, rfl, S, qn13, qN14, hK, hC, Q, mr11, h⟩
  refine ⟨_, rfl, ?_⟩
  have fr11 := ne3 h U.ta.size
  have L := U.lt
  replace U := (U.op S hK hC).add L Q h
  clear L S hK hC Q h
  refine tc 15 58 #[.slice ar11 nr11 cr11] (eOfNat (U.nq 0 rfl).nat (by omega)) ?_
  rintro _ v17 ⟨aq16, nq16, cq16, zq16, rfl, M, h, mq16, B⟩
  refine ⟨_, rfl, ?_⟩
  have fq16 := ne3 h U.ta.size
  replace U := U.num M h B
  clear M h B
  refine ta 8 [.slice none 0 0] 26 (pg) ?_
  intro v18 g19 Xg19 hg19 B
  replace U := U.new Xg19 hg19 B
  clear Xg19 hg19 B
  refine ts (U.bk 0 rfl) 0 (.agg #[.slice aq16 nq16 cq16]) [.slice aq16 nq16 cq16] [.slice aq16 nq16 cq16] ?_
  intro v20 Y C
  replace U := U.put 0 rfl C Y (by decide)
  clear Y C
  refine gl_nil ?_
  refine ge_then ?_
  refine gc_fr [(2, pg g2), (3, pg g4), (4, .slice none 0 0), (5, pg g6), (6, pg g8), (7, pg g10), (8, pg g19)] (by kernel_rfl) ?_
  refine gc_seq ?_
  refine gc_seq ?_
  refine gc_reg ?_
  refine tlr 16 [.slice aq16 nq16 cq16] (U.bk 0 rfl) 0 ?_
  refine tc 17 72 #[.agg #[.slice aq16 nq16 cq16]] (dZ (b := false) (U.nq 0 rfl).nat (by omega) (decide_eq_false hal)) ?_
  rintro _ v21 ⟨rfl, B⟩
  refine ⟨_, rfl, ?_⟩
  replace U := U.keep B
  clear B
  refine gl_nil ?_
  refine ge_then ?_
  refine gc_no ?_
  refine gc_skip ?_
  refine ge_then ?_
  refine gc_seq ?_
  refine gc_reg ?_
  refine t 20 (.func (.func 125) #[] #[pg g4, pg g19, pg g10]) ?_
  refine ta 9 [.nilFunc] 202 (pg) ?_
  intro v22 g23 Xg23 hg23 B
  replace U := U.new Xg23 hg23 B
  clear Xg23 hg23 B
  refine ts (U.bk 0 rfl) 0 (.func (.func 125) #[] #[pg g4, pg g19, pg g10]) [.func (.func 125) #[] #[pg g4, pg g19, pg g10]] [.func (.func 125) #[] #[pg g4, pg g19, pg g10]] ?_
  intro v24 Y C
  replace U := U.put 0 rfl C Y (by decide)
  clear Y C
  refine gl_nil ?_
  refine ge_then ?_
  refine gc_seq ?_
  refine gc_seq ?_
  refine gc_reg ?_
  refine tl 21 (pg g) (U.bk 6 rfl) 0 ?_
  refine tc 22 127 #[pg g] (bonded_mk) ?_
  rintro _ v26 ⟨g25, rfl, X, hb, B⟩
  refine ⟨_, rfl, ?_⟩
  replace U := U.new X hb B
  clear X hb B
  refine gl_nil ?_
  refine ge_then ?_
  refine gc_block ?_
  replace U := U.addR (Q4.op U.ta.km U.ta.cc) (by omega)
  refine gc_fr [(2, pg g2), (4, .slice none 0 0), (5, pg g6), (6, pg g8), (7, pg g10), (9, pg g23), (22, .func (.func 192) #[] #[pg g25])] (by kernel_rfl) ?_
  have hw0 := U.ta.size
  have ltw := U.lt
  refine gc_rngI (lb := #[pg g25]) (fun V => ∃ (s : Sg) (K' : Nat → Prop) (n' N' : Nat), (s.k ≤ 2000 ∧ (s.k = 0 ∨ w.heap.size ≤ s.z) ∧ s.kq ≤ 3000 ∧ (s.kq = 0 ∨ w.heap.size ≤ s.zq) ∧ s.kr ≤ 3000 ∧ (s.kr = 0 ∨ w.heap.size ≤ s.zr)) ∧ n' ≤ (n + 100) + 60 ∧ N' ≤ (N + 100) + 60 ∧ Ut w K B g [] V K' E2 n' N' ((g25, [pg g], 40) :: [(g8, [.slice (some ⟨s.gp, 0, none⟩) 2 s.cp], 60), (g10, [.slice s.a s.k s.c], 26), (g19, [.slice aq16 nq16 cq16], 26), (g23, [.func (.func 125) #[] #[pg g4, pg g19, pg g10]], 202), (g4, [.slice a4 n4 c4], 26), (g2, [pg g], 40), (g6, [.slice none 0 0], 26), (s.gp, .int .u64 16 :: .int .u64 0 :: .int .u64 0 :: .slice s.aq s.kq s.cq :: .slice none 0 0 :: .slice none 0 0 :: .int .u64 0 :: .int .u64 17 :: .int .u64 0 :: .int .u64 0 :: .slice s.ar s.kr s.cr :: .slice none 0 0 :: .slice none 0 0 :: .int .u64 0 :: s.sp, 63)]) [(s.z, s.a, s.k, s.c, 0 + p0 + p1), (zq16, aq16, nq16, cq16, (0 + tk0 + tk1) * U36), (z4, a4, n4, c4, x4), (s.zq, s.aq, s.kq, s.cq, y0), (s.zr, s.ar, s.kr, s.cr, y1)]) (enters_of Tryz.func192 (by kernel_rfl) rfl) ?_ ?_ ?_
  · intro a fn ra V0 hB hs mk
    refine (bonded_run (E2 := E2) (fun i (s : Sg) => match i with | 0 => True ∧ True | 1 => s.k ≤ 1000 ∧ (s.k = 0 ∨ w.heap.size ≤ s.z) ∧ s.kq ≤ 3000 ∧ (s.kq = 0 ∨ w.heap.size ≤ s.zq) ∧ (.int .u64 16 :: .int .u64 0 :: .int .u64 0 :: .slice s.aq s.kq s.cq :: .slice none 0 0 :: .slice none 0 0 :: .int .u64 0 :: s.sp).length = s.cp * 7 ∧ 1 ≤ s.cp ∧ s.cp ≤ maxLen | _ => s.k ≤ 2000 ∧ (s.k = 0 ∨ w.heap.size ≤ s.z) ∧ s.kq ≤ 3000 ∧ (s.kq = 0 ∨ w.heap.size ≤ s.zq) ∧ s.kr ≤ 3000 ∧ (s.kr = 0 ∨ w.heap.size ≤ s.zr)) (fun i (s : Sg) => match i with | 0 => [(g8, [.slice none 0 0], 60), (g10, [.slice none 0 0], 26), (g19, [.slice aq16 nq16 cq16], 26), (g23, [.func (.func 125) #[] #[pg g4, pg g19, pg g10]], 202), (g4, [.slice a4 n4 c4], 26), (g2, [pg g], 40), (g6, [.slice none 0 0], 26)] | 1 => [(g8, [.slice (some ⟨s.gp, 0, none⟩) 1 s.cp], 60), (g10, [.slice s.a s.k s.c], 26), (g19, [.slice aq16 nq16 cq16], 26), (g23, [.func (.func 125) #[] #[pg g4, pg g19, pg g10]], 202), (g4, [.slice a4 n4 c4], 26), (g2, [pg g], 40), (g6, [.slice none 0 0], 26), (s.gp, .int .u64 16 :: .int .u64 0 :: .int .u64 0 :: .slice s.aq s.kq s.cq :: .slice none 0 0 :: .slice none 0 0 :: .int .u64 0 :: s.sp, 63)] | _ => [(g8, [.slice (some ⟨s.gp, 0, none⟩) 2 s.cp], 60), (g10, [.slice s.a s.k s.c], 26), (g19, [.slice aq16 nq16 cq16], 26), (g23, [.func (.func 125) #[] #[pg g4, pg g19, pg g10]], 202), (g4, [.slice a4 n4 c4], 26), (g2, [pg g], 40), (g6, [.slice none 0 0], 26), (s.gp, .int .u64 16 :: .int .u64 0 :: .int .u64 0 :: .slice s.aq s.kq s.cq :: .slice none 0 0 :: .slice none 0 0 :: .int .u64 0 :: .int .u64 17 :: .int .u64 0 :: .int .u64 0 :: .slice s.ar s.kr s.cr :: .slice none 0 0 :: .slice none 0 0 :: .int .u64 0 :: s.sp, 63)]) (fun i (s : Sg) => match i with | 0 => [(zq16, aq16, nq16, cq16, (0 + tk0 + tk1) * U36), (z4, a4, n4, c4, x4)] | 1 => [(s.z, s.a, s.k, s.c, 0 + p0), (zq16, aq16, nq16, cq16, (0 + tk0 + tk1) * U36), (z4, a4, n4, c4, x4), (s.zq, s.aq, s.kq, s.cq, y0)] | _ => [(s.z, s.a, s.k, s.c, 0 + p0 + p1), (zq16, aq16, nq16, cq16, (0 + tk0 + tk1) * U36), (z4, a4, n4, c4, x4), (s.zq, s.aq, s.kq, s.cq, y0), (s.zr, s.ar, s.kr, s.cr, y1)]) hp hRk hv0 hv1 ⟨none, 0, 0, 0, 0, 0, [], none, 0, 0, 0, none, 0, 0, 0⟩ ⟨trivial, trivial⟩ ((U.sel [0, 4, 3, 2, 1, 6, 7, 5] [1, 0]).keep hB) (by omega) (by omega) mk (by omega) (by omega) ?_ ?_).mono ?_
    · rintro ⟨aS, kS, cS, zS, gpS, cpS, spS, aqS, kqS, cqS, zqS, arS, krS, crS, zrS⟩ VY KY nY NY ib sp a0 n0 c0 z0 a1 n1 c1 z1 a2 n2 c2 z2 a3 n3 c3 z3 hPY hnY hNY m0 m1 m2 m3 UY mkY
      have hloY := lt_of_block mkY.l
      replace hPY : True ∧ True := hPY
      obtain ⟨hP1, hP2⟩ := hPY
      dsimp only at UY
      refine yield_go (n := 46) (B0 := v26.heap.size) (by omega) (by omega) (by omega) mkY rfl (Rz.st hw0) (rd_round ra (.int .u64 16) (.agg #[.int .u64 rt0, .int .u64 tk0, .slice a0 n0 c0, .bool jl0, .int .u64 un0, .bool bo0, .int .u64 pe0, .slice a1 n1 c1, .slice a2 n2 c2, .slice a3 n3 c3]) (by decide) (by decide)) ?_
      refine gr_seq ?_
      refine gr_reg ?_
      refine t 10 (.int .u64 16) ?_
      refine gl_nil ?_
      refine gr_then ?_
      refine gr_reg ?_
      refine ta 11 [.int .u64 0, .int .u64 0, .slice none 0 0, .bool false, .int .u64 0, .bool false, .int .u64 0, .slice none 0 0, .slice none 0 0, .slice none 0 0] 28 (pg) ?_
      intro v28 g27 X hg27 B
      refine ts X 0 (.agg #[.int .u64 rt0, .int .u64 tk0, .slice a0 n0 c0, .bool jl0, .int .u64 un0, .bool bo0, .int .u64 pe0, .slice a1 n1 c1, .slice a2 n2 c2, .slice a3 n3 c3]) [.int .u64 rt0, .int .u64 tk0, .slice a0 n0 c0, .bool jl0, .int .u64 un0, .bool bo0, .int .u64 pe0, .slice a1 n1 c1, .slice a2 n2 c2, .slice a3 n3 c3] [.int .u64 rt0, .int .u64 tk0, .slice a0 n0 c0, .bool jl0, .int .u64 un0, .bool bo0, .int .u64 pe0, .slice a1 n1 c1, .slice a2 n2 c2, .slice a3 n3 c3] ?_
      intro v29 Y C
      have HB := belowC B C hg27
      clear B C X
      refine gl_nil ?_
      refine ge_asn HB ?_
      intro V2 W2 hr2 hs2 hb2 ho2
      have X5 : Blk W2 g27 [.int .u64 rt0, .int .u64 tk0, .slice a0 n0 c0, .bool jl0, .int .u64 un0, .bool bo0, .int .u64 pe0, .slice a1 n1 c1, .slice a2 n2 c2, .slice a3 n3 c3] 28 := ⟨(ho2 g27 (by omega)).trans Y.blk⟩
      have U := uy_of (C := v26.heap.size) ((UY.rcd hr2 hw0).new X5 (by omega) hb2)
      have hsW : v26.heap.size ≤ W2.heap.size := by have := hb2.size; omega
      clear X5 Y HB UY ho2
      refine gr_block ?_
      refine gr_join (fun (s : Jn) => [(2, pg g2), (4, .slice none 0 0), (5, pg g6), (6, pg g8), (9, pg g23), (10, .int .u64 16), (11, pg g27), (12, pg s.gd)]) (fun s w' => Uy W2 v26.heap.size w K B g [] w' KY E0 nY NY ((s.gd, [.int .u64 rt0, .int .u64 tk0, .slice s.a0 s.k0 s.c0, .bool jl0, .int .u64 un0, .bool bo0, .int .u64 pe0, .slice s.a1 s.k1 s.c1, .slice s.a2 s.k2 s.c2, .slice s.a3 s.k3 s.c3], 28) :: [(g27, [.int .u64 rt0, .int .u64 tk0, .slice a0 n0 c0, .bool jl0, .int .u64 un0, .bool bo0, .int .u64 pe0, .slice a1 n1 c1, .slice a2 n2 c2, .slice a3 n3 c3], 28), (ib, .int .u64 16 :: .int .u64 17 :: sp, 22), (g25, [pg g], 40), (g8, [.slice none 0 0], 60), (g10, [.slice s.a4 s.k4 s.c4], 26), (g19, [.slice aq16 nq16 cq16], 26), (g23, [.func (.func 125) #[] #[pg g4, pg g19, pg g10]], 202), (g4, [.slice a4 n4 c4], 26), (g2, [pg g], 40), (g6, [.slice none 0 0], 26)]) [(s.z0, s.a0, s.k0, s.c0, x00), (s.z1, s.a1, s.k1, s.c1, x01 + subV p0 (por p0 rt0)), (s.z2, s.a2, s.k2, s.c2, x02 + p0), (s.z3, s.a3, s.k3, s.c3, x03 + por p0 rt0), (s.z4, s.a4, s.k4, s.c4, 0 + p0), (z3, a3, n3, c3, x03), (z2, a2, n2, c2, x02), (z1, a1, n1, c1, x01), (z0, a0, n0, c0, x00), (zq16, aq16, nq16, cq16, (0 + tk0 + tk1) * U36), (z4, a4, n4, c4, x4)] ∧ (s.k0 ≤ 3000 ∧ s.k1 ≤ 3000 ∧ s.k2 ≤ 3000 ∧ s.k3 ≤ 3000 ∧ s.k4 ≤ 1000) ∧ (s.k4 = 0 ∨ w.heap.size ≤ s.z4)) ?_ ?_
      · replace U := U.drew
        refine gr_draw (fun w' => Blk w' g27 [.int .u64 rt0, .int .u64 tk0, .slice a0 n0 c0, .bool jl0, .int .u64 un0, .bool bo0, .int .u64 pe0, .slice a1 n1 c1, .slice a2 n2 c2, .slice a3 n3 c3] 28 ∧ Blk w' g23 [.func (.func 125) #[] #[pg g4, pg g19, pg g10]] 202) (fun _ => false) ⟨(U.bk 0 rfl), (U.bk 6 rfl)⟩ ?_
        refine zlr 0 25 [.int .u64 rt0, .int .u64 tk0, .slice a0 n0 c0, .bool jl0, .int .u64 un0, .bool bo0, .int .u64 pe0, .slice a1 n1 c1, .slice a2 n2 c2, .slice a3 n3 c3] (fun _ h => h.1) 0 ?_
        refine zl 1 26 (.func (.func 125) #[] #[pg g4, pg g19, pg g10]) (fun _ h => h.2) 0 ?_
        refine zlr 2 27 [.int .u64 rt0, .int .u64 tk0, .slice a0 n0 c0, .bool jl0, .int .u64 un0, .bool bo0, .int .u64 pe0, .slice a1 n1 c1, .slice a2 n2 c2, .slice a3 n3 c3] (fun _ h => h.1) 0 ?_
        refine gz_ready [3, 5] ?_
        refine ga_call 3 (some 28) 125 #[.agg #[.int .u64 rt0, .int .u64 tk0, .slice a0 n0 c0, .bool jl0, .int .u64 un0, .bool bo0, .int .u64 pe0, .slice a1 n1 c1, .slice a2 n2 c2, .slice a3 n3 c3], pg g4, pg g19, pg g10] (DuE.cast (due_any (U.nq 5 rfl).f (U.nq 4 rfl).f (nf_nil _ 0) (by omega) (by omega) (by omega) (U.bk 7 rfl) (U.bk 5 rfl) (U.bk 4 rfl) (U.u.ne 7 4 rfl rfl (by decide)) (U.u.ne 5 4 rfl rfl (by decide)) (U.u.e _ (List.mem_of_getElem? (i := 4) rfl) _ (List.mem_of_getElem? (i := 5) rfl)) (U.u.e _ (List.mem_of_getElem? (i := 4) rfl) _ (List.mem_of_getElem? (i := 4) rfl)) (.inl rfl) htk0) hp0) ?_ ?_
        · rintro _ v32 ⟨aq30, nq30, cq30, zq30, aq31, nq31, cq31, zq31, rfl, M, M', h, h', mq30, mq31, Y, C⟩
          have fq30 := ne3 h U.ta.size
          have fq31 := ne3 h' U.ta.size
          have Q := nq_of U.ta.sx M h
          have Q' := nq_of U.ta.sx M' h'
          have L := U.lput (cs' := [.slice aq31 nq31 cq31]) 4 rfl
          replace U := ((U.put 4 rfl C Y (by decide)).add L Q h).add L Q' h'
          clear L Q Q' M M' h h' C Y
          refine ⟨_, rfl, ⟨(U.bk 0 rfl), (U.bk 6 rfl)⟩, ?_⟩
          refine gz_ready [4, 5] ?_
          refine ga_call 4 (some 29) 5 #[.agg #[.int .u64 rt0, .int .u64 tk0, .slice a0 n0 c0, .bool jl0, .int .u64 un0, .bool bo0, .int .u64 pe0, .slice a1 n1 c1, .slice a2 n2 c2, .slice a3 n3 c3], .agg #[.slice aq30 nq30 cq30]] (dGive (U.nq 5 rfl).nat (by omega) (U.nq 4 rfl).nat (by omega) (U.nq 3 rfl).nat (by omega) (U.nq 2 rfl).nat (by omega) (U.nq 1 rfl).nat (by omega) hrt0) ?_ ?_
          · rintro _ v37 ⟨av33, nv33, cv33, zv33, av34, nv34, cv34, zv34, av35, nv35, cv35, zv35, av36, nv36, cv36, zv36, rfl, M0, h0, mv33, M1, h1, mv34, M2, h2, mv35, M3, h3, mv36, B⟩
            have fv33 := ne3 h0 U.ta.size
            have fv34 := ne3 h1 U.ta.size
            have fv35 := ne3 h2 U.ta.size
            have fv36 := ne3 h3 U.ta.size
            have L := U.lt
            replace U := ((((U.keep B).add L (nq_of U.ta.sx M0 h0) h0).add L (nq_of U.ta.sx M1 h1) h1).add L (nq_of U.ta.sx M2 h2) h2).add L (nq_of U.ta.sx M3 h3) h3
            clear L B M0 h0 M1 h1 M2 h2 M3 h3
            refine ⟨_, rfl, ⟨(U.bk 0 rfl), (U.bk 6 rfl)⟩, ?_⟩
            refine za 5 12 [.int .u64 0, .int .u64 0, .slice none 0 0, .bool false, .int .u64 0, .bool false, .int .u64 0, .slice none 0 0, .slice none 0 0, .slice none 0 0] 28 (pg) ?_
            intro v38 g39 Xg39 hg39 B
            replace U := U.new Xg39 hg39 B
            clear Xg39 hg39 B
            refine ⟨⟨(U.bk 1 rfl), (U.bk 7 rfl)⟩, ?_⟩
            refine zs 6 (U.bk 0 rfl) 0 (.agg #[.int .u64 rt0, .int .u64 tk0, .slice av33 nv33 cv33, .bool jl0, .int .u64 un0, .bool bo0, .int .u64 pe0, .slice av34 nv34 cv34, .slice av35 nv35 cv35, .slice av36 nv36 cv36]) [.int .u64 rt0, .int .u64 tk0, .slice av33 nv33 cv33, .bool jl0, .int .u64 un0, .bool bo0, .int .u64 pe0, .slice av34 nv34 cv34, .slice av35 nv35 cv35, .slice av36 nv36 cv36] [.int .u64 rt0, .int .u64 tk0, .slice av33 nv33 cv33, .bool jl0, .int .u64 un0, .bool bo0, .int .u64 pe0, .slice av34 nv34 cv34, .slice av35 nv35 cv35, .slice av36 nv36 cv36] ?_
            intro v40 Y C
            replace U := U.put 0 rfl C Y (by decide)
            clear Y C
            refine ⟨⟨(U.bk 1 rfl), (U.bk 7 rfl)⟩, ?_⟩
            refine gz_done ?_
            exact ge_join (⟨g39, av33, nv33, cv33, zv33, av34, nv34, cv34, zv34, av35, nv35, cv35, zv35, av36, nv36, cv36, zv36, aq31, nq31, cq31, zq31⟩ : Jn) ⟨U.sel [0, 1, 2, 3, 4, 5, 6, 7, 8, 9, 10] [3, 2, 1, 0, 4, 6, 7, 8, 9, 10, 11], ⟨by (try dsimp only); omega, by (try dsimp only); omega, by (try dsimp only); omega, by (try dsimp only); omega, by (try dsimp only); omega⟩, fq31⟩ (by kernel_rfl)
          refine zaa 5 12 [.int .u64 0, .int .u64 0, .slice none 0 0, .bool false, .int .u64 0, .bool false, .int .u64 0, .slice none 0 0, .slice none 0 0, .slice none 0 0] 28 (pg) ?_ ?_
          · intro v41 g42 Xg42 hg42 B
            replace U := U.new Xg42 hg42 B
            clear Xg42 hg42 B
            refine ⟨⟨(U.bk 1 rfl), (U.bk 7 rfl)⟩, ?_⟩
            refine zc 4 29 5 #[.agg #[.int .u64 rt0, .int .u64 tk0, .slice a0 n0 c0, .bool jl0, .int .u64 un0, .bool bo0, .int .u64 pe0, .slice a1 n1 c1, .slice a2 n2 c2, .slice a3 n3 c3], .agg #[.slice aq30 nq30 cq30]] (dGive (U.nq 5 rfl).nat (by omega) (U.nq 4 rfl).nat (by omega) (U.nq 3 rfl).nat (by omega) (U.nq 2 rfl).nat (by omega) (U.nq 1 rfl).nat (by omega) hrt0) ?_
            rintro _ v47 ⟨av43, nv43, cv43, zv43, av44, nv44, cv44, zv44, av45, nv45, cv45, zv45, av46, nv46, cv46, zv46, rfl, M0, h0, mv43, M1, h1, mv44, M2, h2, mv45, M3, h3, mv46, B⟩
            have fv43 := ne3 h0 U.ta.size
            have fv44 := ne3 h1 U.ta.size
            have fv45 := ne3 h2 U.ta.size
            have fv46 := ne3 h3 U.ta.size
            have L := U.lt
            replace U := ((((U.keep B).add L (nq_of U.ta.sx M0 h0) h0).add L (nq_of U.ta.sx M1 h1) h1).add L (nq_of U.ta.sx M2 h2) h2).add L (nq_of U.ta.sx M3 h3) h3
            clear L B M0 h0 M1 h1 M2 h2 M3 h3
            refine ⟨_, rfl, ⟨(U.bk 1 rfl), (U.bk 7 rfl)⟩, ?_⟩
            refine zs 6 (U.bk 0 rfl) 0 (.agg #[.int .u64 rt0, .int .u64 tk0, .slice av43 nv43 cv43, .bool jl0, .int .u64 un0, .bool bo0, .int .u64 pe0, .slice av44 nv44 cv44, .slice av45 nv45 cv45, .slice av46 nv46 cv46]) [.int .u64 rt0, .int .u64 tk0, .slice av43 nv43 cv43, .bool jl0, .int .u64 un0, .bool bo0, .int .u64 pe0, .slice av44 nv44 cv44, .slice av45 nv45 cv45, .slice av46 nv46 cv46] [.int .u64 rt0, .int .u64 tk0, .slice av43 nv43 cv43, .bool jl0, .int .u64 un0, .bool bo0, .int .u64 pe0, .slice av44 nv44 cv44, .slice av45 nv45 cv45, .slice av46 nv46 cv46] ?_
            intro v48 Y C
            replace U := U.put 0 rfl C Y (by decide)
            clear Y C
            refine ⟨⟨(U.bk 1 rfl), (U.bk 7 rfl)⟩, ?_⟩
            refine gz_done ?_
            exact ge_join (⟨g42, av43, nv43, cv43, zv43, av44, nv44, cv44, zv44, av45, nv45, cv45, zv45, av46, nv46, cv46, zv46, aq31, nq31, cq31, zq31⟩ : Jn) ⟨U.sel [0, 1, 2, 3, 4, 5, 6, 7, 8, 9, 10] [3, 2, 1, 0, 4, 6, 7, 8, 9, 10, 11], ⟨by (try dsimp only); omega, by (try dsimp only); omega, by (try dsimp only); omega, by (try dsimp only); omega, by (try dsimp only); omega⟩, fq31⟩ (by kernel_rfl)
          exact ga_nil
        refine zaa 5 12 [.int .u64 0, .int .u64 0, .slice none 0 0, .bool false, .int .u64 0, .bool false, .int .u64 0, .slice none 0 0, .slice none 0 0, .slice none 0 0] 28 (pg) ?_ ?_
        · intro v49 g50 Xg50 hg50 B
          replace U := U.new Xg50 hg50 B
          clear Xg50 hg50 B
          refine ⟨⟨(U.bk 1 rfl), (U.bk 7 rfl)⟩, ?_⟩
          refine zc 3 28 125 #[.agg #[.int .u64 rt0, .int .u64 tk0, .slice a0 n0 c0, .bool jl0, .int .u64 un0, .bool bo0, .int .u64 pe0, .slice a1 n1 c1, .slice a2 n2 c2, .slice a3 n3 c3], pg g4, pg g19, pg g10] (DuE.cast (due_any (U.nq 5 rfl).f (U.nq 4 rfl).f (nf_nil _ 0) (by omega) (by omega) (by omega) (U.bk 8 rfl) (U.bk 6 rfl) (U.bk 5 rfl) (U.u.ne 8 5 rfl rfl (by decide)) (U.u.ne 6 5 rfl rfl (by decide)) (U.u.e _ (List.mem_of_getElem? (i := 5) rfl) _ (List.mem_of_getElem? (i := 5) rfl)) (U.u.e _ (List.mem_of_getElem? (i := 5) rfl) _ (List.mem_of_getElem? (i := 4) rfl)) (.inl rfl) htk0) hp0) ?_
          rintro _ v53 ⟨aq51, nq51, cq51, zq51, aq52, nq52, cq52, zq52, rfl, M, M', h, h', mq51, mq52, Y, C⟩
          have fq51 := ne3 h U.ta.size
          have fq52 := ne3 h' U.ta.size
          have Q := nq_of U.ta.sx M h
          have Q' := nq_of U.ta.sx M' h'
          have L := U.lput (cs' := [.slice aq52 nq52 cq52]) 5 rfl
          replace U := ((U.put 5 rfl C Y (by decide)).add L Q h).add L Q' h'
          clear L Q Q' M M' h h' C Y
          refine ⟨_, rfl, ⟨(U.bk 1 rfl), (U.bk 7 rfl)⟩, ?_⟩
          refine zc 4 29 5 #[.agg #[.int .u64 rt0, .int .u64 tk0, .slice a0 n0 c0, .bool jl0, .int .u64 un0, .bool bo0, .int .u64 pe0, .slice a1 n1 c1, .slice a2 n2 c2, .slice a3 n3 c3], .agg #[.slice aq51 nq51 cq51]] (dGive (U.nq 5 rfl).nat (by omega) (U.nq 4 rfl).nat (by omega) (U.nq 3 rfl).nat (by omega) (U.nq 2 rfl).nat (by omega) (U.nq 1 rfl).nat (by omega) hrt0) ?_
          rintro _ v58 ⟨av54, nv54, cv54, zv54, av55, nv55, cv55, zv55, av56, nv56, cv56, zv56, av57, nv57, cv57, zv57, rfl, M0, h0, mv54, M1, h1, mv55, M2, h2, mv56, M3, h3, mv57, B⟩
          have fv54 := ne3 h0 U.ta.size
          have fv55 := ne3 h1 U.ta.size
          have fv56 := ne3 h2 U.ta.size
          have fv57 := ne3 h3 U.ta.size
          have L := U.lt
          replace U := ((((U.keep B).add L (nq_of U.ta.sx M0 h0) h0).add L (nq_of U.ta.sx M1 h1) h1).add L (nq_of U.ta.sx M2 h2) h2).add L (nq_of U.ta.sx M3 h3) h3
          clear L B M0 h0 M1 h1 M2 h2 M3 h3
          refine ⟨_, rfl, ⟨(U.bk 1 rfl), (U.bk 7 rfl)⟩, ?_⟩
          refine zs 6 (U.bk 0 rfl) 0 (.agg #[.int .u64 rt0, .int .u64 tk0, .slice av54 nv54 cv54, .bool jl0, .int .u64 un0, .bool bo0, .int .u64 pe0, .slice av55 nv55 cv55, .slice av56 nv56 cv56, .slice av57 nv57 cv57]) [.int .u64 rt0, .int .u64 tk0, .slice av54 nv54 cv54, .bool jl0, .int .u64 un0, .bool bo0, .int .u64 pe0, .slice av55 nv55 cv55, .slice av56 nv56 cv56, .slice av57 nv57 cv57] [.int .u64 rt0, .int .u64 tk0, .slice av54 nv54 cv54, .bool jl0, .int .u64 un0, .bool bo0, .int .u64 pe0, .slice av55 nv55 cv55, .slice av56 nv56 cv56, .slice av57 nv57 cv57] ?_
          intro v59 Y C
          replace U := U.put 0 rfl C Y (by decide)
          clear Y C
          refine ⟨⟨(U.bk 1 rfl), (U.bk 7 rfl)⟩, ?_⟩
          refine gz_done ?_
          exact ge_join (⟨g50, av54, nv54, cv54, zv54, av55, nv55, cv55, zv55, av56, nv56, cv56, zv56, av57, nv57, cv57, zv57, aq52, nq52, cq52, zq52⟩ : Jn) ⟨U.sel [0, 1, 2, 3, 4, 5, 6, 7, 8, 9, 10] [3, 2, 1, 0, 4, 6, 7, 8, 9, 10, 11], ⟨by (try dsimp only); omega, by (try dsimp only); omega, by (try dsimp only); omega, by (try dsimp only); omega, by (try dsimp only); omega⟩, fq52⟩ (by kernel_rfl)
        exact ga_nil
      clear U
      rintro ⟨gd, jA0, jK0, jC0, jZ0, jA1, jK1, jC1, jZ1, jA2, jK2, jC2, jZ2, jA3, jK3, jC3, jZ3, jA4, jK4, jC4, jZ4⟩ v60 ⟨U, ⟨mj0, mj1, mj2, mj3, mj4⟩, fJ4⟩
      dsimp only at *
      refine gr_seq ?_
      refine gr_reg ?_
      refine tl 30 (pg g) (U.bk 9 rfl) 0 ?_
      refine t 31 (.int .u64 16) ?_
      refine tlr 32 [.int .u64 rt0, .int .u64 tk0, .slice jA0 jK0 jC0, .bool jl0, .int .u64 un0, .bool bo0, .int .u64 pe0, .slice jA1 jK1 jC1, .slice jA2 jK2 jC2, .slice jA3 jK3 jC3] (U.bk 0 rfl) 0 ?_
      refine tc 33 21 #[pg g, .int .u64 16, .agg #[.int .u64 rt0, .int .u64 tk0, .slice jA0 jK0 jC0, .bool jl0, .int .u64 un0, .bool bo0, .int .u64 pe0, .slice jA1 jK1 jC1, .slice jA2 jK2 jC2, .slice jA3 jK3 jC3]] (SxE.castE (sVal U.ta.sx ⟨by decide, by decide⟩ (U.nq 0 rfl).nk (by omega) (U.nq 1 rfl).nk (by omega) (U.nq 2 rfl).nk (by omega) (U.nq 3 rfl).nk (by omega) (by omega) (by omega)) hE1) ?_
      rintro _ v62 ⟨rfl, K61, S, hK, hC⟩
      refine ⟨_, rfl, ?_⟩
      replace U := U.op S hK hC
      clear S hK hC
      refine gl_nil ?_
      refine gr_then ?_
      replace U := U.drew
      refine gr_draw (fun w' => Blk w' g8 [.slice none 0 0] 60 ∧ Blk w' gd [.int .u64 rt0, .int .u64 tk0, .slice jA0 jK0 jC0, .bool jl0, .int .u64 un0, .bool bo0, .int .u64 pe0, .slice jA1 jK1 jC1, .slice jA2 jK2 jC2, .slice jA3 jK3 jC3] 28 ∧ Blk w' g27 [.int .u64 rt0, .int .u64 tk0, .slice a0 n0 c0, .bool jl0, .int .u64 un0, .bool bo0, .int .u64 pe0, .slice a1 n1 c1, .slice a2 n2 c2, .slice a3 n3 c3] 28) (fun i => decide (10 ≤ i)) ⟨(U.bk 4 rfl), (U.bk 0 rfl), (U.bk 1 rfl)⟩ ?_
      refine zl 0 34 (.slice none 0 0) (fun _ h => h.1) 0 ?_
      refine zp 1 35 (.int .u64 16) ?_
      refine zp 2 36 (pq gd 7) ?_
      refine zlr 3 37 [.slice jA1 jK1 jC1] (fun _ h => h.2.1) 7 ?_
      refine zp 4 38 (pq g27 7) ?_
      refine zlr 5 39 [.slice a1 n1 c1] (fun _ h => h.2.2) 7 ?_
      refine zc 6 40 35 #[.agg #[.slice jA1 jK1 jC1], .agg #[.slice a1 n1 c1]] (dLess (U.nq 1 rfl).nat (by omega) (U.nq 7 rfl).nat (by omega)) ?_
      rintro _ v64 ⟨aq63, nq63, cq63, zq63, rfl, M, h, mq63, B⟩
      have fq63 := ne3 h U.ta.size
      replace U := U.num M h B
      clear M h B
      replace U := U.val 0 rfl hq0
      refine ⟨_, rfl, ⟨(U.bk 4 rfl), (U.bk 0 rfl), (U.bk 1 rfl)⟩, ?_⟩
      refine zr 7 41 (.agg #[.int .u64 16, .int .u64 0, .int .u64 0, .slice aq63 nq63 cq63, .slice none 0 0, .slice none 0 0, .int .u64 0]) (by intro _ _; kernel_rfl) ?_
      refine za 8 42 [.int .u64 16, .int .u64 0, .int .u64 0, .slice aq63 nq63 cq63, .slice none 0 0, .slice none 0 0, .int .u64 0] 63 (sg 1) ?_
      intro v65 g66 Xg66 hg66 B
      replace U := U.new Xg66 hg66 B
      clear Xg66 hg66 B
      refine ⟨⟨(U.bk 5 rfl), (U.bk 1 rfl), (U.bk 2 rfl)⟩, ?_⟩
      obtain ⟨gp67, cp68, wp, sp69, hrp, Xp, hgp, hp7, hp1, hp2, Bp⟩ := app_p0 (U.bk 0 rfl) rfl
      replace U := U.new Xp hgp Bp
      clear Xp hgp Bp
      refine zw 9 43 (.slice (some ⟨gp67, 0, none⟩) 1 cp68) _ (run_apL hrp) ⟨(U.bk 6 rfl), (U.bk 2 rfl), (U.bk 3 rfl)⟩ ?_
      refine gz_late ?_
      refine ys 10 (U.bk 6 rfl) 0 (.slice (some ⟨gp67, 0, none⟩) 1 cp68) [.slice (some ⟨gp67, 0, none⟩) 1 cp68] [.slice (some ⟨gp67, 0, none⟩) 1 cp68] ?_
      intro v70 Y C
      replace U := U.put 6 rfl C Y (by decide)
      clear Y C
      refine gy_done ?_
      refine ge_bn ?_
      exact ge_bp U.k ⟨⟨jA4, jK4, jC4, jZ4, gp67, cp68, sp69, aq63, nq63, cq63, zq63, none, 0, 0, 0⟩, _, _, _, ⟨by (try dsimp only); omega, fJ4, by (try dsimp only); omega, fq63, hp7, hp1, hp2⟩, by omega, by omega, U.u.sel [4, 5, 6, 7, 8, 9, 10, 11, 12, 0] [5, 10, 11, 0]⟩
    · rintro ⟨aS, kS, cS, zS, gpS, cpS, spS, aqS, kqS, cqS, zqS, arS, krS, crS, zrS⟩ VY KY nY NY ib sp a0 n0 c0 z0 a1 n1 c1 z1 a2 n2 c2 z2 a3 n3 c3 z3 hPY hnY hNY m0 m1 m2 m3 UY mkY
      have hloY := lt_of_block mkY.l
      replace hPY : kS ≤ 1000 ∧ (kS = 0 ∨ w.heap.size ≤ zS) ∧ kqS ≤ 3000 ∧ (kqS = 0 ∨ w.heap.size ≤ zqS) ∧ (.int .u64 16 :: .int .u64 0 :: .int .u64 0 :: .slice aqS kqS cqS :: .slice none 0 0 :: .slice none 0 0 :: .int .u64 0 :: spS).length = cpS * 7 ∧ 1 ≤ cpS ∧ cpS ≤ maxLen := hPY
      obtain ⟨hP1, hP2, hP3, hP4, hP5, hP6, hP7⟩ := hPY
      dsimp only at UY
      refine yield_go (n := 46) (B0 := v26.heap.size) (by omega) (by omega) (by omega) mkY rfl (Rz.st hw0) (rd_round ra (.int .u64 17) (.agg #[.int .u64 rt1, .int .u64 tk1, .slice a0 n0 c0, .bool jl1, .int .u64 un1, .bool bo1, .int .u64 pe1, .slice a1 n1 c1, .slice a2 n2 c2, .slice a3 n3 c3]) (by decide) (by decide)) ?_
      refine gr_seq ?_
      refine gr_reg ?_
      refine t 10 (.int .u64 17) ?_
      refine gl_nil ?_
      refine gr_then ?_
      refine gr_reg ?_
      refine ta 11 [.int .u64 0, .int .u64 0, .slice none 0 0, .bool false, .int .u64 0, .bool false, .int .u64 0, .slice none 0 0, .slice none 0 0, .slice none 0 0] 28 (pg) ?_
      intro v72 g71 X hg71 B
      refine ts X 0 (.agg #[.int .u64 rt1, .int .u64 tk1, .slice a0 n0 c0, .bool jl1, .int .u64 un1, .bool bo1, .int .u64 pe1, .slice a1 n1 c1, .slice a2 n2 c2, .slice a3 n3 c3]) [.int .u64 rt1, .int .u64 tk1, .slice a0 n0 c0, .bool jl1, .int .u64 un1, .bool bo1, .int .u64 pe1, .slice a1 n1 c1, .slice a2 n2 c2, .slice a3 n3 c3] [.int .u64 rt1, .int .u64 tk1, .slice a0 n0 c0, .bool jl1, .int .u64 un1, .bool bo1, .int .u64 pe1, .slice a1 n1 c1, .slice a2 n2 c2, .slice a3 n3 c3] ?_
      intro v73 Y C
      have HB := belowC B C hg71
      clear B C X
      refine gl_nil ?_
      refine ge_asn HB ?_
      intro V2 W2 hr2 hs2 hb2 ho2
      have X5 : Blk W2 g71 [.int .u64 rt1, .int .u64 tk1, .slice a0 n0 c0, .bool jl1, .int .u64 un1, .bool bo1, .int .u64 pe1, .slice a1 n1 c1, .slice a2 n2 c2, .slice a3 n3 c3] 28 := ⟨(ho2 g71 (by omega)).trans Y.blk⟩
      have U := uy_of (C := v26.heap.size) ((UY.rcd hr2 hw0).new X5 (by omega) hb2)
      have hsW : v26.heap.size ≤ W2.heap.size := by have := hb2.size; omega
      clear X5 Y HB UY ho2
      refine gr_block ?_
      refine gr_join (fun (s : Jn) => [(2, pg g2), (4, .slice none 0 0), (5, pg g6), (6, pg g8), (9, pg g23), (10, .int .u64 17), (11, pg g71), (12, pg s.gd)]) (fun s w' => Uy W2 v26.heap.size w K B g [] w' KY E1 nY NY ((s.gd, [.int .u64 rt1, .int .u64 tk1, .slice s.a0 s.k0 s.c0, .bool jl1, .int .u64 un1, .bool bo1, .int .u64 pe1, .slice s.a1 s.k1 s.c1, .slice s.a2 s.k2 s.c2, .slice s.a3 s.k3 s.c3], 28) :: [(g71, [.int .u64 rt1, .int .u64 tk1, .slice a0 n0 c0, .bool jl1, .int .u64 un1, .bool bo1, .int .u64 pe1, .slice a1 n1 c1, .slice a2 n2 c2, .slice a3 n3 c3], 28), (ib, .int .u64 16 :: .int .u64 17 :: sp, 22), (g25, [pg g], 40), (g8, [.slice (some ⟨gpS, 0, none⟩) 1 cpS], 60), (g10, [.slice s.a4 s.k4 s.c4], 26), (g19, [.slice aq16 nq16 cq16], 26), (g23, [.func (.func 125) #[] #[pg g4, pg g19, pg g10]], 202), (g4, [.slice a4 n4 c4], 26), (g2, [pg g], 40), (g6, [.slice none 0 0], 26), (gpS, .int .u64 16 :: .int .u64 0 :: .int .u64 0 :: .slice aqS kqS cqS :: .slice none 0 0 :: .slice none 0 0 :: .int .u64 0 :: spS, 63)]) [(s.z0, s.a0, s.k0, s.c0, x10), (s.z1, s.a1, s.k1, s.c1, x11 + subV p1 (por p1 rt1)), (s.z2, s.a2, s.k2, s.c2, x12 + p1), (s.z3, s.a3, s.k3, s.c3, x13 + por p1 rt1), (s.z4, s.a4, s.k4, s.c4, 0 + p0 + p1), (z3, a3, n3, c3, x13), (z2, a2, n2, c2, x12), (z1, a1, n1, c1, x11), (z0, a0, n0, c0, x10), (zS, aS, kS, cS, 0 + p0), (zq16, aq16, nq16, cq16, (0 + tk0 + tk1) * U36), (z4, a4, n4, c4, x4), (zqS, aqS, kqS, cqS, y0)] ∧ (s.k0 ≤ 3000 ∧ s.k1 ≤ 3000 ∧ s.k2 ≤ 3000 ∧ s.k3 ≤ 3000 ∧ s.k4 ≤ 2000) ∧ (s.k4 = 0 ∨ w.heap.size ≤ s.z4)) ?_ ?_
      · replace U := U.drew
        refine gr_draw (fun w' => Blk w' g71 [.int .u64 rt1, .int .u64 tk1, .slice a0 n0 c0, .bool jl1, .int .u64 un1, .bool bo1, .int .u64 pe1, .slice a1 n1 c1, .slice a2 n2 c2, .slice a3 n3 c3] 28 ∧ Blk w' g23 [.func (.func 125) #[] #[pg g4, pg g19, pg g10]] 202) (fun _ => false) ⟨(U.bk 0 rfl), (U.bk 6 rfl)⟩ ?_
        refine zlr 0 25 [.int .u64 rt1, .int .u64 tk1, .slice a0 n0 c0, .bool jl1, .int .u64 un1, .bool bo1, .int .u64 pe1, .slice a1 n1 c1, .slice a2 n2 c2, .slice a3 n3 c3] (fun _ h => h.1) 0 ?_
        refine zl 1 26 (.func (.func 125) #[] #[pg g4, pg g19, pg g10]) (fun _ h => h.2) 0 ?_
        refine zlr 2 27 [.int .u64 rt1, .int .u64 tk1, .slice a0 n0 c0, .bool jl1, .int .u64 un1, .bool bo1, .int .u64 pe1, .slice a1 n1 c1, .slice a2 n2 c2, .slice a3 n3 c3] (fun _ h => h.1) 0 ?_
        refine gz_ready [3, 5] ?_
        refine ga_call 3 (some 28) 125 #[.agg #[.int .u64 rt1, .int .u64 tk1, .slice a0 n0 c0, .bool jl1, .int .u64 un1, .bool bo1, .int .u64 pe1, .slice a1 n1 c1, .slice a2 n2 c2, .slice a3 n3 c3], pg g4, pg g19, pg g10] (DuE.cast (due_any (U.nq 6 rfl).f (U.nq 5 rfl).f (U.nq 4 rfl).f (by omega) (by omega) (by omega) (U.bk 7 rfl) (U.bk 5 rfl) (U.bk 4 rfl) (U.u.ne 7 4 rfl rfl (by decide)) (U.u.ne 5 4 rfl rfl (by decide)) (U.u.e _ (List.mem_of_getElem? (i := 4) rfl) _ (List.mem_of_getElem? (i := 6) rfl)) (U.u.e _ (List.mem_of_getElem? (i := 4) rfl) _ (List.mem_of_getElem? (i := 5) rfl)) (U.u.e _ (List.mem_of_getElem? (i := 4) rfl) _ (List.mem_of_getElem? (i := 4) rfl)) htk1) hp1) ?_ ?_
        · rintro _ v76 ⟨aq74, nq74, cq74, zq74, aq75, nq75, cq75, zq75, rfl, M, M', h, h', mq74, mq75, Y, C⟩
          have fq74 := ne3 h U.ta.size
          have fq75 := ne3 h' U.ta.size
          have Q := nq_of U.ta.sx M h
          have Q' := nq_of U.ta.sx M' h'
          have L := U.lput (cs' := [.slice aq75 nq75 cq75]) 4 rfl
          replace U := ((U.put 4 rfl C Y (by decide)).add L Q h).add L Q' h'
          clear L Q Q' M M' h h' C Y
          refine ⟨_, rfl, ⟨(U.bk 0 rfl), (U.bk 6 rfl)⟩, ?_⟩
          refine gz_ready [4, 5] ?_
          refine ga_call 4 (some 29) 5 #[.agg #[.int .u64 rt1, .int .u64 tk1, .slice a0 n0 c0, .bool jl1, .int .u64 un1, .bool bo1, .int .u64 pe1, .slice a1 n1 c1, .slice a2 n2 c2, .slice a3 n3 c3], .agg #[.slice aq74 nq74 cq74]] (dGive (U.nq 5 rfl).nat (by omega) (U.nq 4 rfl).nat (by omega) (U.nq 3 rfl).nat (by omega) (U.nq 2 rfl).nat (by omega) (U.nq 1 rfl).nat (by omega) hrt1) ?_ ?_
          · rintro _ v81 ⟨av77, nv77, cv77, zv77, av78, nv78, cv78, zv78, av79, nv79, cv79, zv79, av80, nv80, cv80, zv80, rfl, M0, h0, mv77, M1, h1, mv78, M2, h2, mv79, M3, h3, mv80, B⟩
            have fv77 := ne3 h0 U.ta.size
            have fv78 := ne3 h1 U.ta.size
            have fv79 := ne3 h2 U.ta.size
            have fv80 := ne3 h3 U.ta.size
            have L := U.lt
            replace U := ((((U.keep B).add L (nq_of U.ta.sx M0 h0) h0).add L (nq_of U.ta.sx M1 h1) h1).add L (nq_of U.ta.sx M2 h2) h2).add L (nq_of U.ta.sx M3 h3) h3
            clear L B M0 h0 M1 h1 M2 h2 M3 h3
            refine ⟨_, rfl, ⟨(U.bk 0 rfl), (U.bk 6 rfl)⟩, ?_⟩
            refine za 5 12 [.int .u64 0, .int .u64 0, .slice none 0 0, .bool false, .int .u64 0, .bool false, .int .u64 0, .slice none 0 0, .slice none 0 0, .slice none 0 0] 28 (pg) ?_
            intro v82 g83 Xg83 hg83 B
            replace U := U.new Xg83 hg83 B
            clear Xg83 hg83 B
            refine ⟨⟨(U.bk 1 rfl), (U.bk 7 rfl)⟩, ?_⟩
            refine zs 6 (U.bk 0 rfl) 0 (.agg #[.int .u64 rt1, .int .u64 tk1, .slice av77 nv77 cv77, .bool jl1, .int .u64 un1, .bool bo1, .int .u64 pe1, .slice av78 nv78 cv78, .slice av79 nv79 cv79, .slice av80 nv80 cv80]) [.int .u64 rt1, .int .u64 tk1, .slice av77 nv77 cv77, .bool jl1, .int .u64 un1, .bool bo1, .int .u64 pe1, .slice av78 nv78 cv78, .slice av79 nv79 cv79, .slice av80 nv80 cv80] [.int .u64 rt1, .int .u64 tk1, .slice av77 nv77 cv77, .bool jl1, .int .u64 un1, .bool bo1, .int .u64 pe1, .slice av78 nv78 cv78, .slice av79 nv79 cv79, .slice av80 nv80 cv80] ?_
            intro v84 Y C
            replace U := U.put 0 rfl C Y (by decide)
            clear Y C
            refine ⟨⟨(U.bk 1 rfl), (U.bk 7 rfl)⟩, ?_⟩
            refine gz_done ?_
            exact ge_join (⟨g83, av77, nv77, cv77, zv77, av78, nv78, cv78, zv78, av79, nv79, cv79, zv79, av80, nv80, cv80, zv80, aq75, nq75, cq75, zq75⟩ : Jn) ⟨U.sel [0, 1, 2, 3, 4, 5, 6, 7, 8, 9, 10, 11] [3, 2, 1, 0, 4, 6, 7, 8, 9, 10, 11, 12, 13], ⟨by (try dsimp only); omega, by (try dsimp only); omega, by (try dsimp only); omega, by (try dsimp only); omega, by (try dsimp only); omega⟩, fq75⟩ (by kernel_rfl)
          refine zaa 5 12 [.int .u64 0, .int .u64 0, .slice none 0 0, .bool false, .int .u64 0, .bool false, .int .u64 0, .slice none 0 0, .slice none 0 0, .slice none 0 0] 28 (pg) ?_ ?_
          · intro v85 g86 Xg86 hg86 B
            replace U := U.new Xg86 hg86 B
            clear Xg86 hg86 B
            refine ⟨⟨(U.bk 1 rfl), (U.bk 7 rfl)⟩, ?_⟩
            refine zc 4 29 5 #[.agg #[.int .u64 rt1, .int .u64 tk1, .slice a0 n0 c0, .bool jl1, .int .u64 un1, .bool bo1, .int .u64 pe1, .slice a1 n1 c1, .slice a2 n2 c2, .slice a3 n3 c3], .agg #[.slice aq74 nq74 cq74]] (dGive (U.nq 5 rfl).nat (by omega) (U.nq 4 rfl).nat (by omega) (U.nq 3 rfl).nat (by omega) (U.nq 2 rfl).nat (by omega) (U.nq 1 rfl).nat (by omega) hrt1) ?_
            rintro _ v91 ⟨av87, nv87, cv87, zv87, av88, nv88, cv88, zv88, av89, nv89, cv89, zv89, av90, nv90, cv90, zv90, rfl, M0, h0, mv87, M1, h1, mv88, M2, h2, mv89, M3, h3, mv90, B⟩
            have fv87 := ne3 h0 U.ta.size
            have fv88 := ne3 h1 U.ta.size
            have fv89 := ne3 h2 U.ta.size
            have fv90 := ne3 h3 U.ta.size
            have L := U.lt
            replace U := ((((U.keep B).add L (nq_of U.ta.sx M0 h0) h0).add L (nq_of U.ta.sx M1 h1) h1).add L (nq_of U.ta.sx M2 h2) h2).add L (nq_of U.ta.sx M3 h3) h3
            clear L B M0 h0 M1 h1 M2 h2 M3 h3
            refine ⟨_, rfl, ⟨(U.bk 1 rfl), (U.bk 7 rfl)⟩, ?_⟩
            refine zs 6 (U.bk 0 rfl) 0 (.agg #[.int .u64 rt1, .int .u64 tk1, .slice av87 nv87 cv87, .bool jl1, .int .u64 un1, .bool bo1, .int .u64 pe1, .slice av88 nv88 cv88, .slice av89 nv89 cv89, .slice av90 nv90 cv90]) [.int .u64 rt1, .int .u64 tk1, .slice av87 nv87 cv87, .bool jl1, .int .u64 un1, .bool bo1, .int .u64 pe1, .slice av88 nv88 cv88, .slice av89 nv89 cv89, .slice av90 nv90 cv90] [.int .u64 rt1, .int .u64 tk1, .slice av87 nv87 cv87, .bool jl1, .int .u64 un1, .bool bo1, .int .u64 pe1, .slice av88 nv88 cv88, .slice av89 nv89 cv89, .slice av90 nv90 cv90] ?_
            intro v92 Y C
            replace U := U.put 0 rfl C Y (by decide)
            clear Y C
            refine ⟨⟨(U.bk 1 rfl), (U.bk 7 rfl)⟩, ?_⟩
            refine gz_done ?_
            exact ge_join (⟨g86, av87, nv87, cv87, zv87, av88, nv88, cv88, zv88, av89, nv89, cv89, zv89, av90, nv90, cv90, zv90, aq75, nq75, cq75, zq75⟩ : Jn) ⟨U.sel [0, 1, 2, 3, 4, 5, 6, 7, 8, 9, 10, 11] [3, 2, 1, 0, 4, 6, 7, 8, 9, 10, 11, 12, 13], ⟨by (try dsimp only); omega, by (try dsimp only); omega, by (try dsimp only); omega, by (try dsimp only); omega, by (try dsimp only); omega⟩, fq75⟩ (by kernel_rfl)
          exact ga_nil
        refine zaa 5 12 [.int .u64 0, .int .u64 0, .slice none 0 0, .bool false, .int .u64 0, .bool false, .int .u64 0, .slice none 0 0, .slice none 0 0, .slice none 0 0] 28 (pg) ?_ ?_
        · intro v93 g94 Xg94 hg94 B
          replace U := U.new Xg94 hg94 B
          clear Xg94 hg94 B
          refine ⟨⟨(U.bk 1 rfl), (U.bk 7 rfl)⟩, ?_⟩
          refine zc 3 28 125 #[.agg #[.int .u64 rt1, .int .u64 tk1, .slice a0 n0 c0, .bool jl1, .int .u64 un1, .bool bo1, .int .u64 pe1, .slice a1 n1 c1, .slice a2 n2 c2, .slice a3 n3 c3], pg g4, pg g19, pg g10] (DuE.cast (due_any (U.nq 6 rfl).f (U.nq 5 rfl).f (U.nq 4 rfl).f (by omega) (by omega) (by omega) (U.bk 8 rfl) (U.bk 6 rfl) (U.bk 5 rfl) (U.u.ne 8 5 rfl rfl (by decide)) (U.u.ne 6 5 rfl rfl (by decide)) (U.u.e _ (List.mem_of_getElem? (i := 5) rfl) _ (List.mem_of_getElem? (i := 6) rfl)) (U.u.e _ (List.mem_of_getElem? (i := 5) rfl) _ (List.mem_of_getElem? (i := 5) rfl)) (U.u.e _ (List.mem_of_getElem? (i := 5) rfl) _ (List.mem_of_getElem? (i := 4) rfl)) htk1) hp1) ?_
          rintro _ v97 ⟨aq95, nq95, cq95, zq95, aq96, nq96, cq96, zq96, rfl, M, M', h, h', mq95, mq96, Y, C⟩
          have fq95 := ne3 h U.ta.size
          have fq96 := ne3 h' U.ta.size
          have Q := nq_of U.ta.sx M h
          have Q' := nq_of U.ta.sx M' h'
          have L := U.lput (cs' := [.slice aq96 nq96 cq96]) 5 rfl
          replace U := ((U.put 5 rfl C Y (by decide)).add L Q h).add L Q' h'
          clear L Q Q' M M' h h' C Y
          refine ⟨_, rfl, ⟨(U.bk 1 rfl), (U.bk 7 rfl)⟩, ?_⟩
          refine zc 4 29 5 #[.agg #[.int .u64 rt1, .int .u64 tk1, .slice a0 n0 c0, .bool jl1, .int .u64 un1, .bool bo1, .int .u64 pe1, .slice a1 n1 c1, .slice a2 n2 c2, .slice a3 n3 c3], .agg #[.slice aq95 nq95 cq95]] (dGive (U.nq 5 rfl).nat (by omega) (U.nq 4 rfl).nat (by omega) (U.nq 3 rfl).nat (by omega) (U.nq 2 rfl).nat (by omega) (U.nq 1 rfl).nat (by omega) hrt1) ?_
          rintro _ v102 ⟨av98, nv98, cv98, zv98, av99, nv99, cv99, zv99, av100, nv100, cv100, zv100, av101, nv101, cv101, zv101, rfl, M0, h0, mv98, M1, h1, mv99, M2, h2, mv100, M3, h3, mv101, B⟩
          have fv98 := ne3 h0 U.ta.size
          have fv99 := ne3 h1 U.ta.size
          have fv100 := ne3 h2 U.ta.size
          have fv101 := ne3 h3 U.ta.size
          have L := U.lt
          replace U := ((((U.keep B).add L (nq_of U.ta.sx M0 h0) h0).add L (nq_of U.ta.sx M1 h1) h1).add L (nq_of U.ta.sx M2 h2) h2).add L (nq_of U.ta.sx M3 h3) h3
          clear L B M0 h0 M1 h1 M2 h2 M3 h3
          refine ⟨_, rfl, ⟨(U.bk 1 rfl), (U.bk 7 rfl)⟩, ?_⟩
          refine zs 6 (U.bk 0 rfl) 0 (.agg #[.int .u64 rt1, .int .u64 tk1, .slice av98 nv98 cv98, .bool jl1, .int .u64 un1, .bool bo1, .int .u64 pe1, .slice av99 nv99 cv99, .slice av100 nv100 cv100, .slice av101 nv101 cv101]) [.int .u64 rt1, .int .u64 tk1, .slice av98 nv98 cv98, .bool jl1, .int .u64 un1, .bool bo1, .int .u64 pe1, .slice av99 nv99 cv99, .slice av100 nv100 cv100, .slice av101 nv101 cv101] [.int .u64 rt1, .int .u64 tk1, .slice av98 nv98 cv98, .bool jl1, .int .u64 un1, .bool bo1, .int .u64 pe1, .slice av99 nv99 cv99, .slice av100 nv100 cv100, .slice av101 nv101 cv101] ?_
          intro v103 Y C
          replace U := U.put 0 rfl C Y (by decide)
          clear Y C
          refine ⟨⟨(U.bk 1 rfl), (U.bk 7 rfl)⟩, ?_⟩
          refine gz_done ?_
          exact ge_join (⟨g94, av98, nv98, cv98, zv98, av99, nv99, cv99, zv99, av100, nv100, cv100, zv100, av101, nv101, cv101, zv101, aq96, nq96, cq96, zq96⟩ : Jn) ⟨U.sel [0, 1, 2, 3, 4, 5, 6, 7, 8, 9, 10, 11] [3, 2, 1, 0, 4, 6, 7, 8, 9, 10, 11, 12, 13], ⟨by (try dsimp only); omega, by (try dsimp only); omega, by (try dsimp only); omega, by (try dsimp only); omega, by (try dsimp only); omega⟩, fq96⟩ (by kernel_rfl)
        exact ga_nil
      clear U
      rintro ⟨gd, jA0, jK0, jC0, jZ0, jA1, jK1, jC1, jZ1, jA2, jK2, jC2, jZ2, jA3, jK3, jC3, jZ3, jA4, jK4, jC4, jZ4⟩ v104 ⟨U, ⟨mj0, mj1, mj2, mj3, mj4⟩, fJ4⟩
      dsimp only at *
      refine gr_seq ?_
      refine gr_reg ?_
      refine tl 30 (pg g) (U.bk 9 rfl) 0 ?_
      refine t 31 (.int .u64 17) ?_
      refine tlr 32 [.int .u64 rt1, .int .u64 tk1, .slice jA0 jK0 jC0, .bool jl1, .int .u64 un1, .bool bo1, .int .u64 pe1, .slice jA1 jK1 jC1, .slice jA2 jK2 jC2, .slice jA3 jK3 jC3] (U.bk 0 rfl) 0 ?_
      refine tc 33 21 #[pg g, .int .u64 17, .agg #[.int .u64 rt1, .int .u64 tk1, .slice jA0 jK0 jC0, .bool jl1, .int .u64 un1, .bool bo1, .int .u64 pe1, .slice jA1 jK1 jC1, .slice jA2 jK2 jC2, .slice jA3 jK3 jC3]] (SxE.castE (sVal U.ta.sx ⟨by decide, by decide⟩ (U.nq 0 rfl).nk (by omega) (U.nq 1 rfl).nk (by omega) (U.nq 2 rfl).nk (by omega) (U.nq 3 rfl).nk (by omega) (by omega) (by omega)) hE2) ?_
      rintro _ v106 ⟨rfl, K105, S, hK, hC⟩
      refine ⟨_, rfl, ?_⟩
      replace U := U.op S hK hC
      clear S hK hC
      refine gl_nil ?_
      refine gr_then ?_
      replace U := U.drew
      refine gr_draw (fun w' => Blk w' g8 [.slice (some ⟨gpS, 0, none⟩) 1 cpS] 60 ∧ Blk w' gd [.int .u64 rt1, .int .u64 tk1, .slice jA0 jK0 jC0, .bool jl1, .int .u64 un1, .bool bo1, .int .u64 pe1, .slice jA1 jK1 jC1, .slice jA2 jK2 jC2, .slice jA3 jK3 jC3] 28 ∧ Blk w' g71 [.int .u64 rt1, .int .u64 tk1, .slice a0 n0 c0, .bool jl1, .int .u64 un1, .bool bo1, .int .u64 pe1, .slice a1 n1 c1, .slice a2 n2 c2, .slice a3 n3 c3] 28) (fun i => decide (10 ≤ i)) ⟨(U.bk 4 rfl), (U.bk 0 rfl), (U.bk 1 rfl)⟩ ?_
      refine zl 0 34 (.slice (some ⟨gpS, 0, none⟩) 1 cpS) (fun _ h => h.1) 0 ?_
      refine zp 1 35 (.int .u64 17) ?_
      refine zp 2 36 (pq gd 7) ?_
      refine zlr 3 37 [.slice jA1 jK1 jC1] (fun _ h => h.2.1) 7 ?_
      refine zp 4 38 (pq g71 7) ?_
      refine zlr 5 39 [.slice a1 n1 c1] (fun _ h => h.2.2) 7 ?_
      refine zc 6 40 35 #[.agg #[.slice jA1 jK1 jC1], .agg #[.slice a1 n1 c1]] (dLess (U.nq 1 rfl).nat (by omega) (U.nq 7 rfl).nat (by omega)) ?_
      rintro _ v108 ⟨aq107, nq107, cq107, zq107, rfl, M, h, mq107, B⟩
      have fq107 := ne3 h U.ta.size
      replace U := U.num M h B
      clear M h B
      replace U := U.val 0 rfl hq1
      refine ⟨_, rfl, ⟨(U.bk 4 rfl), (U.bk 0 rfl), (U.bk 1 rfl)⟩, ?_⟩
      refine zr 7 41 (.agg #[.int .u64 17, .int .u64 0, .int .u64 0, .slice aq107 nq107 cq107, .slice none 0 0, .slice none 0 0, .int .u64 0]) (by intro _ _; kernel_rfl) ?_
      refine za 8 42 [.int .u64 17, .int .u64 0, .int .u64 0, .slice aq107 nq107 cq107, .slice none 0 0, .slice none 0 0, .int .u64 0] 63 (sg 1) ?_
      intro v109 g110 Xg110 hg110 B
      replace U := U.new Xg110 hg110 B
      clear Xg110 hg110 B
      refine ⟨⟨(U.bk 5 rfl), (U.bk 1 rfl), (U.bk 2 rfl)⟩, ?_⟩
      obtain ⟨gp111, cp112, wp, sp113, hrp, Xp, hgp, Cp⟩ := app_p1 (xs := [.int .u64 16, .int .u64 0, .int .u64 0, .slice aqS kqS cqS, .slice none 0 0, .slice none 0 0, .int .u64 0]) (sp := spS) (U.bk 12 rfl) rfl hP5 hP6 hP7 (U.bk 0 rfl) rfl (by simp [Value.oneCell'])
      replace U := (U.sel [12, 0, 1, 2, 3, 4, 5, 6, 7, 8, 9, 10, 11] [0, 1, 2, 3, 4, 5, 6, 7, 8, 9, 10, 11, 12, 13]).app Cp Xp hgp (by decide)
      clear Xp hgp Cp
      refine zw 9 43 (.slice (some ⟨gp111, 0, none⟩) 2 cp112) _ (run_apL hrp) ⟨(U.bk 6 rfl), (U.bk 2 rfl), (U.bk 3 rfl)⟩ ?_
      refine gz_late ?_
      refine ys 10 (U.bk 6 rfl) 0 (.slice (some ⟨gp111, 0, none⟩) 2 cp112) [.slice (some ⟨gp111, 0, none⟩) 2 cp112] [.slice (some ⟨gp111, 0, none⟩) 2 cp112] ?_
      intro v114 Y C
      replace U := U.put 6 rfl C Y (by decide)
      clear Y C
      refine gy_done ?_
      refine ge_bn ?_
      exact ge_bp U.k ⟨⟨jA4, jK4, jC4, jZ4, gp111, cp112, sp113, aqS, kqS, cqS, zqS, aq107, nq107, cq107, zq107⟩, _, _, _, ⟨by (try dsimp only); omega, fJ4, by (try dsimp only); omega, hP4, by (try dsimp only); omega, fq107⟩, by omega, by omega, U.u.sel [4, 5, 6, 7, 8, 9, 10, 11, 12, 0] [5, 11, 12, 13, 0]⟩
    · rintro e W' ⟨he, ⟨s, K', n', N', hP, q1, q2, U'⟩, mk'⟩
      exact ⟨he, ⟨s, K', n', N', hP, by omega, by omega, U'⟩, mk'⟩
  · rintro A Z ⟨s, K', n', N', hP, q1, q2, U'⟩ r
    exact ⟨s, K', n', N', hP, q1, q2, U'.rcd r hw0⟩
  clear U
  intro v115 hD hI
  obtain ⟨⟨aS, kS, cS, zS, gpS, cpS, spS, aqS, kqS, cqS, zqS, arS, krS, crS, zrS⟩, KS_, nS, NS, hPS, qnS, qNS, U⟩ := hI
  replace hPS : kS ≤ 2000 ∧ (kS = 0 ∨ w.heap.size ≤ zS) ∧ kqS ≤ 3000 ∧ (kqS = 0 ∨ w.heap.size ≤ zqS) ∧ krS ≤ 3000 ∧ (krS = 0 ∨ w.heap.size ≤ zrS) := hPS
  obtain ⟨hP1, hP2, hP3, hP4, hP5, hP6⟩ := hPS
  dsimp only at U
  replace U := uy_of (C := v26.heap.size) U
  refine ge_bn ?_
  refine ge_then ?_
  refine gc_seq ?_
  replace U := U.drew
  refine gc_draw (fun w' => Blk w' g8 [.slice (some ⟨gpS, 0, none⟩) 2 cpS] 60 ∧ Blk w' g10 [.slice aS kS cS] 26) (fun _ => false) ⟨(U.bk 1 rfl), (U.bk 2 rfl)⟩ ?_
  refine zl 0 44 (.slice (some ⟨gpS, 0, none⟩) 2 cpS) (fun _ h => h.1) 0 ?_
  refine zlr 1 45 [.slice aS kS cS] (fun _ h => h.2) 0 ?_
  refine z 2 4 (.slice (some ⟨gpS, 0, none⟩) 2 cpS) ?_
  refine zs 3 (U.bk 7 rfl) 0 (.agg #[.slice aS kS cS]) [.slice aS kS cS] [.slice aS kS cS] ?_
  intro v116 Y C
  replace U := U.put 7 rfl C Y (by decide)
  clear Y C
  refine ⟨⟨(U.bk 1 rfl), (U.bk 2 rfl)⟩, ?_⟩
  refine gz_done ?_
  refine ge_then ?_
  refine gc_ret ?_
  have DF := dfs1 U.k hD (Nat.le_refl _) hw0
  refine ge_retD (b := w.heap.size) (v := .tuple #[.slice (some ⟨gpS, 0, none⟩) 2 cpS, .agg #[.slice aS kS cS]]) [v26.heap.size] DF (rstM (T := 26) 4 5 (U.bk 7 rfl) (fun _ h => lr (vs := [.slice aS kS cS]) h 0) (by kernel_rfl) (by kernel_rfl) (by kernel_rfl)) ?_
  intro Vz Rz
  have hwz := U.ta.size
  replace U := U.u.rcd Rz (Nat.le_refl _)
  exact ⟨gpS, cpS, spS, _, _, _, _, _, _, _, _, _, _, _, _, _, _, _, rfl, by omega, by omega, U.sel [8] [0, 4, 3], by omega, hP2, by omega, hP6, by omega, hP4⟩
end Fo
end Go.Proofs.YtgdohcdlkonhiaaGreatDoor

namespace Go.Proofs.YtgdohcdlkonhiaaGreatDoor
open Go.RowKit Lim

theorem fits_iff {l : List Int} (wl : Words l) : val l < 18446744073709551616 ↔ nlen l ≤ 1 := by
  constructor
  · intro h
    rcases Nat.lt_or_ge 1 (nlen l) with e | e
    · have h5 := val_ge_of_nlen wl (by omega)
      have h6 := pow_mono (show 1 ≤ nlen l - 1 by omega)
      have h7 : (18446744073709551616 : Int) ^ 1 = 18446744073709551616 := by decide
      omega
    · exact e
  · intro h
    have h1 := val_lt_nlen wl
    have h2 := pow_mono h
    have h7 : (18446744073709551616 : Int) ^ 1 = 18446744073709551616 := by decide
    omega

set_option maxHeartbeats 1000000 in
set_option maxRecDepth 100000 in
theorem small_fits {w : World} {ao : Option Addr} {n c : Nat} {x : Int} (h : NatA w ao n c x) (hn : n ≤ 1099511627776) :
    Calls Tryz.prog 81 #[.slice ao n c] w fun e w' => e = .returned (.tuple #[.int .u64 (if x < 18446744073709551616 then x else 0), .bool (decide (x < 18446744073709551616))]) ∧ Below w.heap.size w w' := by
  obtain ⟨b, o, l, h1, h2, h3, h4, rfl⟩ := h.ex
  have t := trim_any ao n c l w h1 h2 (by omega) h4.cells
  have hf := fits_iff h3
  have hle := nlen_le l
  by_cases hx : val l < 18446744073709551616
  · rw [if_pos hx, decide_eq_true hx]
    have hn1 := hf.1 hx
    clear hf hx
    rcases (show nlen l = 0 ∨ nlen l = 1 by omega) with e | e
    · have hv := (nlen_eq_zero_iff_val h3).1 e
      rw [hv]
      rw [e] at t
      clear hv e hn1
      go_enter Tryz.func81, Tryz.ntmps81
      go_wp2_with fail
      refine t.mono ?_
      rintro e w' ⟨rfl, rfl⟩
      go_wp2
      go_ret2
      exact ⟨rfl, Below.refl _ _⟩
    · have hv : val l = nth l 0 := by
        rw [← val_norm l]
        have hl1 : (norm l).length = 1 := (norm_length l).trans e
        match hm : norm l, hl1 with
        | [y], _ =>
          have := norm_nth l 0
          rw [hm, nth_zero] at this
          rw [← this]; simp [val]
      have hc := h4.cell 0 (by omega)
      obtain rfl : ao = some ⟨b, o, none⟩ := by
        rcases h4.loc with e' | e'
        · rw [e'] at e; simp [nlen] at e
        · exact e'
      rw [Nat.add_zero] at hc
      rw [hv]
      rw [e] at t
      clear hv e hn1 h4
      generalize nth l 0 = y at *
      go_enter Tryz.func81, Tryz.ntmps81
      go_wp2_with fail
      refine t.mono ?_
      rintro e w' ⟨rfl, rfl⟩
      go_wp2
      go_ret2
      exact ⟨rfl, Below.refl _ _⟩
  · rw [if_neg hx, decide_eq_false hx]
    have hn2 : 2 ≤ nlen l := by
      rcases Nat.lt_or_ge (nlen l) 2 with e | e
      · exact absurd (hf.2 (by omega)) hx
      · exact e
    obtain ⟨m, hm⟩ : ∃ m, nlen l = m + 2 := ⟨nlen l - 2, by omega⟩
    rw [hm] at t
    clear hf hx hn2 hm
    go_enter Tryz.func81, Tryz.ntmps81
    go_wp2_with fail
    refine t.mono ?_
    rintro e w' ⟨rfl, rfl⟩
    go_wp2
    all_goals go_ret2
    all_goals exact ⟨rfl, Below.refl _ _⟩
end Go.Proofs.YtgdohcdlkonhiaaGreatDoor
