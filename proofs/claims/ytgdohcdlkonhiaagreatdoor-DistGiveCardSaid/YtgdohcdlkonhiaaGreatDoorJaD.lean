/- Several texts, joined: DiH. -/
import Derived.Test.YtgdohcdlkonhiaaGreatDoorJaC
import Derived.Test.YtgdohcdlkonhiaaGreatDoorJan
namespace Go.Proofs.YtgdohcdlkonhiaaGreatDoor
namespace Fo
open Go.RowKit Go.Lib Pg Lim Gl Kv Bk Pw Sd Di
attribute [local go_sem] Oper.semAt_some
set_option maxRecDepth 100000
set_option linter.unusedVariables false
set_option linter.unusedSimpArgs false
set_option maxHeartbeats 4000000
structure HoV (B : Nat) (w : World) (K : Nat → Prop) (g : Nat) (E' : Ents) (W : List Ents) (n N : Nat) (p x4 xs : Int) (n0 n4 : Nat) (e : Ending) (w' : World) : Prop where
  ex : ∃ b0 k0 d0 y0 b1 k1 d1 y1 K' n' N', e = .returned (.agg #[.slice b0 k0 d0, .int .u64 p, .slice b1 k1 d1]) ∧ Sx B w' K' g E' W n' N' ∧ n' ≤ n + 10 ∧ N' ≤ N + 10 ∧ (∀ b, K' b → K b ∨ w.heap.size ≤ b) ∧ Chg K w w' ∧ Nq w' K' y0 b0 k0 d0 (x4) ∧ k0 ≤ n4 + 1 ∧ (k0 = 0 ∨ w.heap.size ≤ y0) ∧ Nq w' K' y1 b1 k1 d1 (xs) ∧ k1 ≤ n0 + n4 + 40 ∧ (k1 = 0 ∨ w.heap.size ≤ y1)
theorem HoE.cast {B : Nat} {w : World} {K : Nat → Prop} {g : Nat} {E : Ents} {W : List Ents} {n N : Nat} {tk pe id x0 x4 p xs : Int} {n0 n4 P : Nat} {args : Array Value} {E' : Ents} (h : Calls Tryz.prog P args w (HoE B w K g E W n N tk pe id x0 x4 n0 n4)) (hp : (pe - 1) % 18446744073709551616 = p) (hE : referE E id p = E') (hx : x4 * (tk * U36) / x0 = xs) : Calls Tryz.prog P args w (HoV B w K g E' W n N p x4 xs n0 n4) := by
  subst hp hE hx
  exact h.mono fun e w' h => ⟨h.ex⟩
structure ClV (B : Nat) (w : World) (K : Nat → Prop) (g : Nat) (E' : Ents) (W : List Ents) (n N : Nat) (rt tk : Int) (jl : Bool) (un : Int) (bo : Bool) (pq x0 x1 x2 x3 : Int) (n0 n1 n2 n3 : Nat) (e : Ending) (w' : World) : Prop where
  ex : ∃ b0 k0 d0 y0 b1 k1 d1 y1 b2 k2 d2 y2 b3 k3 d3 y3 K' n' N', e = .returned (.tuple #[.agg #[.int .u64 rt, .int .u64 tk, .slice b0 k0 d0, .bool jl, .int .u64 un, .bool bo, .int .u64 pq, .slice none 0 0, .slice b2 k2 d2, .slice b3 k3 d3], .agg #[.slice b1 k1 d1]]) ∧ Sx B w' K' g E' W n' N' ∧ n' ≤ n + 20 ∧ N' ≤ N + 20 ∧ (∀ b, K' b → K b ∨ w.heap.size ≤ b) ∧ Chg K w w' ∧ Nq w' K' y0 b0 k0 d0 (x0) ∧ k0 ≤ n0 + 1 ∧ (k0 = 0 ∨ w.heap.size ≤ y0) ∧ Nq w' K' y1 b1 k1 d1 ((if tk = 0 then x1 else 0)) ∧ k1 ≤ n1 + 1 ∧ (k1 = 0 ∨ w.heap.size ≤ y1) ∧ Nq w' K' y2 b2 k2 d2 ((if tk = 0 then subV x2 x1 else x2)) ∧ k2 ≤ n2 + 1 ∧ (k2 = 0 ∨ w.heap.size ≤ y2) ∧ Nq w' K' y3 b3 k3 d3 (x3) ∧ k3 ≤ n3 + 1 ∧ (k3 = 0 ∨ w.heap.size ≤ y3)
theorem ClE.cast {B : Nat} {w : World} {K : Nat → Prop} {g : Nat} {E : Ents} {W : List Ents} {n N : Nat} {rt tk un pe id x0 x1 x2 x3 pq : Int} {jl bo : Bool} {n0 n1 n2 n3 P : Nat} {args : Array Value} {E' : Ents} (h : Calls Tryz.prog P args w (ClE B w K g E W n N rt tk jl un bo pe id x0 x1 x2 x3 n0 n1 n2 n3)) (hp : (pe + 1) % 18446744073709551616 = pq) (hE : closeE E id pe tk x1 = E') : Calls Tryz.prog P args w (ClV B w K g E' W n N rt tk jl un bo pq x0 x1 x2 x3 n0 n1 n2 n3) := by
  subst hp hE
  exact h.mono fun e w' h => ⟨h.ex⟩
theorem SxF.castE {B : Nat} {w : World} {K : Nat → Prop} {g : Nat} {E : Ents} {W : List Ents} {n N : Nat} {P : Nat} {args : Array Value} {r : Value} {E' : Ents} (h : Calls Tryz.prog P args w (SxF B w K g E W n N r)) (hE : E = E') : Calls Tryz.prog P args w (SxF B w K g E' W n N r) := by
  subst hE
  exact h
theorem mv_lit {B : Nat} {w : World} {K : Nat → Prop} {g : Nat} {E : Ents} {W : List Ents} {n N : Nat} {P : Nat} {args : Array Value} {r r' : Int} {E' : Ents} (h : Calls Tryz.prog P args w (SxF B w K g E W n N (.int .i64 r))) (hE : E = E') (hr : r = r') : Calls Tryz.prog P args w (SxF B w K g E' W n N (.int .i64 r')) := by
  subst hE hr
  exact h
theorem get_lit {B : Nat} {w : World} {K : Nat → Prop} {g : Nat} {E : Ents} {W : List Ents} {n N : Nat} {P : Nat} {args : Array Value} {a b a' b' : Int} (h : Calls Tryz.prog P args w (SxE B w K g E W n N (.agg #[.int .u64 a, .int .u64 b]))) (ha : a = a') (hb : b = b') : Calls Tryz.prog P args w (SxE B w K g E W n N (.agg #[.int .u64 a', .int .u64 b'])) := by
  subst ha hb
  exact h
theorem NtE.cast {er er' : Int} {w : World} {Q : Nat → Prop} {V : Int} {P : Nat} {args : Array Value} (h : Calls Tryz.prog P args w (NtE er w Q V)) (he : er = er') : Calls Tryz.prog P args w (NtE er' w Q V) := by
  subst he
  exact h
theorem small_lit {w : World} {a : Option Addr} {n c : Nat} {x v : Int} {b : Bool} (h : NatA w a n c x) (hn : n ≤ 1000000) (hv : (if x < 18446744073709551616 then x else 0) = v) (hb : decide (x < 18446744073709551616) = b) : Calls Tryz.prog 81 #[.slice a n c] w fun e w' => e = .returned (.tuple #[.int .u64 v, .bool b]) ∧ Below w.heap.size w w' := by
  subst hv hb
  exact small_fits h (by omega)
def e1 : Ents := put [] (Ky.mk 1 0 0) (pav 0 0 0 200 0 0 0 0 0 0)
def e2 : Ents := mintE e1 1 100
def e3 : Ents := referE e2 16 0
def e4 : Ents := referE e3 16 0
def e5 : Ents := put e4 (Ky.mk 5 16 0) (vv 0 1 1000000000000000000000000000000000000 false 0 false 1 0 0 0)
def e6 : Ents := put e5 (Ky.mk 6 16 20) (dv 1000000000000000000000000000000000000 0 1000000000000000000000000000000000000)
def e7 : Ents := put e6 (Ky.mk 11 16 0) []
def e8 : Ents := referE e7 17 0
def e9 : Ents := referE e8 17 0
def e10 : Ents := put e9 (Ky.mk 5 17 0) (vv 1000 2 2000000000000000000000000000000000000 false 0 false 1 0 0 0)
def e11 : Ents := put e10 (Ky.mk 6 17 20) (dv 2000000000000000000000000000000000000 0 2000000000000000000000000000000000000)
def e12 : Ents := put e11 (Ky.mk 11 17 0) []
def e13 : Ents := moveE e12 1 4 100
def e14 : Ents := put e13 (Ky.mk 5 16 0) (vv 0 1 1000000000000000000000000000000000000 false 0 false 1 32666666666666666666666666666666666666 32666666666666666666666666666666666666 0)
def e15 : Ents := put e14 (Ky.mk 5 17 0) (vv 1000 2 2000000000000000000000000000000000000 false 0 false 1 58800000000000000000000000000000000000 65333333333333333333333333333333333333 6533333333333333333333333333333333333)
def e16 : Ents := plE e15 (0 + 2000000000000000000000000000000000001)
def e17 : Ents := closeE e16 16 1 1 32666666666666666666666666666666666666
def e18 : Ents := plE e17 (2000000000000000000000000000000000001 + 0)
def e19 : Ents := letE e18 16 0
def e20 : Ents := moveE e19 4 20 32
def e21 : Ents := plE e20 (2000000000000000000000000000000000001 + 666666666666666666666666666666666666)
def e22 : Ents := referE e21 16 1
def e23 : Ents := put e22 (Ky.mk 5 16 0) (vv 0 1 1000000000000000000000000000000000000 false 0 false 2 0 0 0)
def e24 : Ents := put e23 (Ky.mk 6 16 20) (dv 1000000000000000000000000000000000000 1 1000000000000000000000000000000000000)
def e25 : Ents := moveE e24 4 17 6
def e26 : Ents := put e25 (Ky.mk 5 17 0) (vv 1000 2 2000000000000000000000000000000000000 false 0 false 1 58800000000000000000000000000000000000 59333333333333333333333333333333333333 533333333333333333333333333333333333)
def e27 : Ents := moveE e26 4 21 2
def e28 : Ents := plE e27 666666666666666666666666666666666667
def e29 : Ents := moveE e28 21 4 2
def e30 : Ents := plE e29 (666666666666666666666666666666666667 + 2000000000000000000000000000000000000)
structure Jdistpay1 where
  b0 : Nat
  a0 : Option Addr
  k0 : Nat
  c0 : Nat
  z0 : Nat
  a1 : Option Addr
  k1 : Nat
  c1 : Nat
  z1 : Nat
  K : Nat → Prop
  n : Nat
  N : Nat
theorem pay_l {B : Nat} {w : World} {K : Nat → Prop} {g : Nat} {n N : Nat} {a0 : Option Addr} {n0 c0 z0 : Nat} (h : Sx B w K g e19 [] n N) (Q0 : Nk w K z0 a0 n0 c0 32666666666666666666666666666666666666) (m0 : n0 ≤ 9000) (hn : n ≤ 100000) (hN : N ≤ 100000) : Calls Tryz.prog 148 #[pg g, .int .u64 20, .agg #[.slice a0 n0 c0]] w (fun e w' => ∃ b0 k0 d0 y0 K' n' N', e = .returned (.tuple #[.int .u64 32, .agg #[.slice b0 k0 d0]]) ∧ Sx B w' K' g e21 [] n' N' ∧ n' ≤ n + 300 ∧ N' ≤ N + 300 ∧ (∀ b, K' b → K b ∨ w.heap.size ≤ b) ∧ Chg K w w' ∧ Nq w' K' y0 b0 k0 d0 666666666666666666666666666666666666 ∧ k0 ≤ 20000 ∧ (k0 = 0 ∨ w.heap.size ≤ y0)) := by
  have U := ut_of h
  refine gc_enter (n := 38) Tryz.func148 rfl (by kernel_rfl) (by kernel_rfl) ?_
  refine gc_seq ?_
  refine gc_reg ?_
  refine ta 5 [.slice a0 n0 c0] 26 (pg) ?_
  intro v1 g2 Xg2 hg2 B
  replace U := U.new Xg2 hg2 B
  clear Xg2 hg2 B
  refine t 6 (.int .u64 0) ?_
  refine ta 7 [.slice none 0 0] 26 (pg) ?_
  intro v3 g4 Xg4 hg4 B
  replace U := U.new Xg4 hg4 B
  clear Xg4 hg4 B
  refine gl_nil ?_
  refine ge_then ?_
  refine gc_join (fun (s : Jdistpay1) => [(0, pg g), (1, .int .u64 20), (6, .int .u64 0), (7, pg g4), (8, .slice s.a1 s.k1 s.c1), (9, pg s.b0)]) (fun s w' => Ut w K B g [] w' s.K e19 s.n s.N [(s.b0, [.slice s.a0 s.k0 s.c0], 26), (g4, [.slice none 0 0], 26), (g2, [.slice a0 n0 c0], 26)] [(s.z0, s.a0, s.k0, s.c0, 666666666666666666666666666666666666), (s.z1, s.a1, s.k1, s.c1, 32)] ∧ (s.n ≤ n + 200 ∧ s.N ≤ N + 200) ∧ (s.k0 ≤ 20000 ∧ (s.k0 = 0 ∨ w.heap.size ≤ s.z0)) ∧ (s.k1 ≤ 20000 ∧ (s.k1 = 0 ∨ w.heap.size ≤ s.z1))) ?_ ?_
  · replace U := U.drew
    refine gc_draw (fun w' => Blk w' g2 [.slice a0 n0 c0] 26) (fun _ => false) (U.bk 1 rfl) ?_
    refine zlr 0 13 [.slice a0 n0 c0] (fun _ h => h) 0 ?_
    refine z 1 14 (pg g) ?_
    refine gz_ready [2, 10] ?_
    refine ga_call 2 (some 15) 30 #[pg g, .int .u64 4] (get_lit (get_any U.ta.sx ⟨by decide, by decide⟩ (by omega) (by omega)) (show coin e19 4 = 100 by decide +kernel) (show seqn e19 4 = 0 by decide +kernel)) ?_ ?_
    · rintro _ v6 ⟨rfl, K5, S, hK, hC⟩
      replace U := U.op S hK hC
      clear S hK hC
      refine ⟨_, rfl, (U.bk 1 rfl), ?_⟩
      refine z 3 16 (.int .u64 100) ?_
      refine gz_ready [4, 10] ?_
      refine ga_call 4 (some 17) 19 #[.int .u64 100] (eOf (y := 100) ⟨by decide, by decide⟩) ?_ ?_
      · rintro _ v8 ⟨aq7, nq7, cq7, zq7, rfl, M, h, mq7, B⟩
        have fq7 := ne3 h U.ta.size
        replace U := U.num M h B
        clear M h B
        replace U := U.val 0 rfl (show _ = (100000000000000000000000000000000000000 : Int) by decide +kernel)
        refine ⟨_, rfl, (U.bk 1 rfl), ?_⟩
        refine gz_ready [5, 10] ?_
        refine ga_call 5 (some 18) 149 #[.agg #[.slice a0 n0 c0], .agg #[.slice aq7 nq7 cq7]] (dLeast (Q0.op U.ta.km U.ta.cc).nat (by omega) (U.nq 0 rfl).nat (by omega) (by decide)) ?_ ?_
        · rintro _ v9 ⟨rfl, B⟩
          replace U := U.keep B
          clear B
          refine ⟨_, rfl, (U.bk 1 rfl), ?_⟩
          refine gz_ready [6, 10] ?_
          refine ga_call 6 (some 19) 70 #[.agg #[.slice a0 n0 c0]] (eTrunc2 (Q0.op U.ta.km U.ta.cc).nat (by omega)) ?_ ?_
          · rintro _ v12 ⟨aq10, nq10, cq10, zq10, aq11, nq11, cq11, zq11, rfl, M, M', h, h', mq10, mq11, B⟩
            have fq10 := ne3 h U.ta.size
            have fq11 := ne3 h' U.ta.size
            have L := U.lt
            replace U := ((U.keep B).add L (nq_of U.ta.sx M h) h).add L (nq_of U.ta.sx M' h') h'
            clear L M M' h h' B
            replace U := U.val 1 rfl (show _ = (32 : Int) by decide +kernel)
            replace U := U.val 0 rfl (show _ = (666666666666666666666666666666666666 : Int) by decide +kernel)
            refine ⟨_, rfl, (U.bk 1 rfl), ?_⟩
            refine z 7 12 (.tuple #[.slice aq10 nq10 cq10, .agg #[.slice aq11 nq11 cq11]]) ?_
            refine z 8 20 (.slice aq10 nq10 cq10) ?_
            refine z 9 21 (.agg #[.slice aq11 nq11 cq11]) ?_
            refine za 10 9 [.slice none 0 0] 26 (pg) ?_
            intro v13 g14 Xg14 hg14 B
            replace U := U.new Xg14 hg14 B
            clear Xg14 hg14 B
            refine ⟨(U.bk 2 rfl), ?_⟩
            refine z 11 8 (.slice aq10 nq10 cq10) ?_
            refine zs 12 (U.bk 0 rfl) 0 (.agg #[.slice aq11 nq11 cq11]) [.slice aq11 nq11 cq11] [.slice aq11 nq11 cq11] ?_
            intro v15 Y C
            replace U := U.put 0 rfl C Y (by decide)
            clear Y C
            refine ⟨(U.bk 2 rfl), ?_⟩
            refine gz_done ?_
            exact ge_join (⟨g14, aq11, nq11, cq11, zq11, aq10, nq10, cq10, zq10, _, _, _⟩ : Jdistpay1) ⟨U.sel [0, 1, 2] [0, 1], ⟨by (try dsimp only); omega, by (try dsimp only); omega⟩, ⟨by (try dsimp only); omega, fq11⟩, ⟨by (try dsimp only); omega, fq10⟩⟩ (by kernel_rfl)
          refine zaa 10 9 [.slice none 0 0] 26 (pg) ?_ ?_
          · intro v16 g17 Xg17 hg17 B
            replace U := U.new Xg17 hg17 B
            clear Xg17 hg17 B
            refine ⟨(U.bk 2 rfl), ?_⟩
            refine zc 6 19 70 #[.agg #[.slice a0 n0 c0]] (eTrunc2 (Q0.op U.ta.km U.ta.cc).nat (by omega)) ?_
            rintro _ v20 ⟨aq18, nq18, cq18, zq18, aq19, nq19, cq19, zq19, rfl, M, M', h, h', mq18, mq19, B⟩
            have fq18 := ne3 h U.ta.size
            have fq19 := ne3 h' U.ta.size
            have L := U.lt
            replace U := ((U.keep B).add L (nq_of U.ta.sx M h) h).add L (nq_of U.ta.sx M' h') h'
            clear L M M' h h' B
            replace U := U.val 1 rfl (show _ = (32 : Int) by decide +kernel)
            replace U := U.val 0 rfl (show _ = (666666666666666666666666666666666666 : Int) by decide +kernel)
            refine ⟨_, rfl, (U.bk 2 rfl), ?_⟩
            refine z 7 12 (.tuple #[.slice aq18 nq18 cq18, .agg #[.slice aq19 nq19 cq19]]) ?_
            refine z 8 20 (.slice aq18 nq18 cq18) ?_
            refine z 9 21 (.agg #[.slice aq19 nq19 cq19]) ?_
            refine z 11 8 (.slice aq18 nq18 cq18) ?_
            refine zs 12 (U.bk 0 rfl) 0 (.agg #[.slice aq19 nq19 cq19]) [.slice aq19 nq19 cq19] [.slice aq19 nq19 cq19] ?_
            intro v21 Y C
            replace U := U.put 0 rfl C Y (by decide)
            clear Y C
            refine ⟨(U.bk 2 rfl), ?_⟩
            refine gz_done ?_
            exact ge_join (⟨g17, aq19, nq19, cq19, zq19, aq18, nq18, cq18, zq18, _, _, _⟩ : Jdistpay1) ⟨U.sel [0, 1, 2] [0, 1], ⟨by (try dsimp only); omega, by (try dsimp only); omega⟩, ⟨by (try dsimp only); omega, fq19⟩, ⟨by (try dsimp only); omega, fq18⟩⟩ (by kernel_rfl)
          exact ga_nil
        refine zaa 10 9 [.slice none 0 0] 26 (pg) ?_ ?_
        · intro v22 g23 Xg23 hg23 B
          replace U := U.new Xg23 hg23 B
          clear Xg23 hg23 B
          refine ⟨(U.bk 2 rfl), ?_⟩
          refine zc 5 18 149 #[.agg #[.slice a0 n0 c0], .agg #[.slice aq7 nq7 cq7]] (dLeast (Q0.op U.ta.km U.ta.cc).nat (by omega) (U.nq 0 rfl).nat (by omega) (by decide)) ?_
          rintro _ v24 ⟨rfl, B⟩
          replace U := U.keep B
          clear B
          refine ⟨_, rfl, (U.bk 2 rfl), ?_⟩
          refine zc 6 19 70 #[.agg #[.slice a0 n0 c0]] (eTrunc2 (Q0.op U.ta.km U.ta.cc).nat (by omega)) ?_
          rintro _ v27 ⟨aq25, nq25, cq25, zq25, aq26, nq26, cq26, zq26, rfl, M, M', h, h', mq25, mq26, B⟩
          have fq25 := ne3 h U.ta.size
          have fq26 := ne3 h' U.ta.size
          have L := U.lt
          replace U := ((U.keep B).add L (nq_of U.ta.sx M h) h).add L (nq_of U.ta.sx M' h') h'
          clear L M M' h h' B
          replace U := U.val 1 rfl (show _ = (32 : Int) by decide +kernel)
          replace U := U.val 0 rfl (show _ = (666666666666666666666666666666666666 : Int) by decide +kernel)
          refine ⟨_, rfl, (U.bk 2 rfl), ?_⟩
          refine z 7 12 (.tuple #[.slice aq25 nq25 cq25, .agg #[.slice aq26 nq26 cq26]]) ?_
          refine z 8 20 (.slice aq25 nq25 cq25) ?_
          refine z 9 21 (.agg #[.slice aq26 nq26 cq26]) ?_
          refine z 11 8 (.slice aq25 nq25 cq25) ?_
          refine zs 12 (U.bk 0 rfl) 0 (.agg #[.slice aq26 nq26 cq26]) [.slice aq26 nq26 cq26] [.slice aq26 nq26 cq26] ?_
          intro v28 Y C
          replace U := U.put 0 rfl C Y (by decide)
          clear Y C
          refine ⟨(U.bk 2 rfl), ?_⟩
          refine gz_done ?_
          exact ge_join (⟨g23, aq26, nq26, cq26, zq26, aq25, nq25, cq25, zq25, _, _, _⟩ : Jdistpay1) ⟨U.sel [0, 1, 2] [0, 1], ⟨by (try dsimp only); omega, by (try dsimp only); omega⟩, ⟨by (try dsimp only); omega, fq26⟩, ⟨by (try dsimp only); omega, fq25⟩⟩ (by kernel_rfl)
        exact ga_nil
      refine zaa 10 9 [.slice none 0 0] 26 (pg) ?_ ?_
      · intro v29 g30 Xg30 hg30 B
        replace U := U.new Xg30 hg30 B
        clear Xg30 hg30 B
        refine ⟨(U.bk 2 rfl), ?_⟩
        refine zc 4 17 19 #[.int .u64 100] (eOf (y := 100) ⟨by decide, by decide⟩) ?_
        rintro _ v32 ⟨aq31, nq31, cq31, zq31, rfl, M, h, mq31, B⟩
        have fq31 := ne3 h U.ta.size
        replace U := U.num M h B
        clear M h B
        replace U := U.val 0 rfl (show _ = (100000000000000000000000000000000000000 : Int) by decide +kernel)
        refine ⟨_, rfl, (U.bk 2 rfl), ?_⟩
        refine zc 5 18 149 #[.agg #[.slice a0 n0 c0], .agg #[.slice aq31 nq31 cq31]] (dLeast (Q0.op U.ta.km U.ta.cc).nat (by omega) (U.nq 0 rfl).nat (by omega) (by decide)) ?_
        rintro _ v33 ⟨rfl, B⟩
        replace U := U.keep B
        clear B
        refine ⟨_, rfl, (U.bk 2 rfl), ?_⟩
        refine zc 6 19 70 #[.agg #[.slice a0 n0 c0]] (eTrunc2 (Q0.op U.ta.km U.ta.cc).nat (by omega)) ?_
        rintro _ v36 ⟨aq34, nq34, cq34, zq34, aq35, nq35, cq35, zq35, rfl, M, M', h, h', mq34, mq35, B⟩
        have fq34 := ne3 h U.ta.size
        have fq35 := ne3 h' U.ta.size
        have L := U.lt
        replace U := ((U.keep B).add L (nq_of U.ta.sx M h) h).add L (nq_of U.ta.sx M' h') h'
        clear L M M' h h' B
        replace U := U.val 1 rfl (show _ = (32 : Int) by decide +kernel)
        replace U := U.val 0 rfl (show _ = (666666666666666666666666666666666666 : Int) by decide +kernel)
        refine ⟨_, rfl, (U.bk 2 rfl), ?_⟩
        refine z 7 12 (.tuple #[.slice aq34 nq34 cq34, .agg #[.slice aq35 nq35 cq35]]) ?_
        refine z 8 20 (.slice aq34 nq34 cq34) ?_
        refine z 9 21 (.agg #[.slice aq35 nq35 cq35]) ?_
        refine z 11 8 (.slice aq34 nq34 cq34) ?_
        refine zs 12 (U.bk 0 rfl) 0 (.agg #[.slice aq35 nq35 cq35]) [.slice aq35 nq35 cq35] [.slice aq35 nq35 cq35] ?_
        intro v37 Y C
        replace U := U.put 0 rfl C Y (by decide)
        clear Y C
        refine ⟨(U.bk 2 rfl), ?_⟩
        refine gz_done ?_
        exact ge_join (⟨g30, aq35, nq35, cq35, zq35, aq34, nq34, cq34, zq34, _, _, _⟩ : Jdistpay1) ⟨U.sel [0, 1, 2] [0, 1], ⟨by (try dsimp only); omega, by (try dsimp only); omega⟩, ⟨by (try dsimp only); omega, fq35⟩, ⟨by (try dsimp only); omega, fq34⟩⟩ (by kernel_rfl)
      exact ga_nil
    refine zaa 10 9 [.slice none 0 0] 26 (pg) ?_ ?_
    · intro v38 g39 Xg39 hg39 B
      replace U := U.new Xg39 hg39 B
      clear Xg39 hg39 B
      refine ⟨(U.bk 2 rfl), ?_⟩
      refine zc 2 15 30 #[pg g, .int .u64 4] (get_lit (get_any U.ta.sx ⟨by decide, by decide⟩ (by omega) (by omega)) (show coin e19 4 = 100 by decide +kernel) (show seqn e19 4 = 0 by decide +kernel)) ?_
      rintro _ v41 ⟨rfl, K40, S, hK, hC⟩
      replace U := U.op S hK hC
      clear S hK hC
      refine ⟨_, rfl, (U.bk 2 rfl), ?_⟩
      refine z 3 16 (.int .u64 100) ?_
      refine zc 4 17 19 #[.int .u64 100] (eOf (y := 100) ⟨by decide, by decide⟩) ?_
      rintro _ v43 ⟨aq42, nq42, cq42, zq42, rfl, M, h, mq42, B⟩
      have fq42 := ne3 h U.ta.size
      replace U := U.num M h B
      clear M h B
      replace U := U.val 0 rfl (show _ = (100000000000000000000000000000000000000 : Int) by decide +kernel)
      refine ⟨_, rfl, (U.bk 2 rfl), ?_⟩
      refine zc 5 18 149 #[.agg #[.slice a0 n0 c0], .agg #[.slice aq42 nq42 cq42]] (dLeast (Q0.op U.ta.km U.ta.cc).nat (by omega) (U.nq 0 rfl).nat (by omega) (by decide)) ?_
      rintro _ v44 ⟨rfl, B⟩
      replace U := U.keep B
      clear B
      refine ⟨_, rfl, (U.bk 2 rfl), ?_⟩
      refine zc 6 19 70 #[.agg #[.slice a0 n0 c0]] (eTrunc2 (Q0.op U.ta.km U.ta.cc).nat (by omega)) ?_
      rintro _ v47 ⟨aq45, nq45, cq45, zq45, aq46, nq46, cq46, zq46, rfl, M, M', h, h', mq45, mq46, B⟩
      have fq45 := ne3 h U.ta.size
      have fq46 := ne3 h' U.ta.size
      have L := U.lt
      replace U := ((U.keep B).add L (nq_of U.ta.sx M h) h).add L (nq_of U.ta.sx M' h') h'
      clear L M M' h h' B
      replace U := U.val 1 rfl (show _ = (32 : Int) by decide +kernel)
      replace U := U.val 0 rfl (show _ = (666666666666666666666666666666666666 : Int) by decide +kernel)
      refine ⟨_, rfl, (U.bk 2 rfl), ?_⟩
      refine z 7 12 (.tuple #[.slice aq45 nq45 cq45, .agg #[.slice aq46 nq46 cq46]]) ?_
      refine z 8 20 (.slice aq45 nq45 cq45) ?_
      refine z 9 21 (.agg #[.slice aq46 nq46 cq46]) ?_
      refine z 11 8 (.slice aq45 nq45 cq45) ?_
      refine zs 12 (U.bk 0 rfl) 0 (.agg #[.slice aq46 nq46 cq46]) [.slice aq46 nq46 cq46] [.slice aq46 nq46 cq46] ?_
      intro v48 Y C
      replace U := U.put 0 rfl C Y (by decide)
      clear Y C
      refine ⟨(U.bk 2 rfl), ?_⟩
      refine gz_done ?_
      exact ge_join (⟨g39, aq46, nq46, cq46, zq46, aq45, nq45, cq45, zq45, _, _, _⟩ : Jdistpay1) ⟨U.sel [0, 1, 2] [0, 1], ⟨by (try dsimp only); omega, by (try dsimp only); omega⟩, ⟨by (try dsimp only); omega, fq46⟩, ⟨by (try dsimp only); omega, fq45⟩⟩ (by kernel_rfl)
    exact ga_nil
  clear U
  rintro ⟨j50_b0, j50_a0, j50_k0, j50_c0, j50_z0, j50_a1, j50_k1, j50_c1, j50_z1, j50_K, j50_n, j50_N⟩ v49 ⟨U, ⟨j50_hn, j50_hN⟩, ⟨mj50_0, fj50_0⟩, ⟨mj50_1, fj50_1⟩⟩
  dsimp only at *
  refine gc_seq ?_
  refine gc_reg ?_
  refine t 23 (.slice j50_a1 j50_k1 j50_c1) ?_
  refine tc 24 81 #[.slice j50_a1 j50_k1 j50_c1] (small_lit (v := 32) (b := true) (U.nq 1 rfl).nat (by omega) (by decide +kernel) (by decide +kernel)) ?_
  rintro _ v51 ⟨rfl, B⟩
  refine ⟨_, rfl, ?_⟩
  replace U := U.keep B
  clear B
  refine t 22 (.tuple #[.int .u64 32, .bool true]) ?_
  refine t 25 (.int .u64 32) ?_
  refine t 26 (.bool true) ?_
  refine t 10 (.int .u64 32) ?_
  refine t 11 (.bool true) ?_
  refine gl_nil ?_
  refine ge_then ?_
  refine gc_seq ?_
  refine gc_seq ?_
  refine gc_reg ?_
  refine t 27 (pg g) ?_
  refine t 28 (.int .u64 20) ?_
  refine t 29 (.int .u64 32) ?_
  refine tc 30 65 #[pg g, .int .u64 4, .int .u64 20, .int .u64 32] (mv_lit (move_any U.ta.sx ⟨by decide, by decide⟩ ⟨by decide, by decide⟩ ⟨by decide, by decide⟩ (by omega) (by omega)) (show moveE e19 4 20 32 = e20 from rfl) (show moveR e19 4 20 32 = 0 by decide +kernel)) ?_
  rintro _ v56 ⟨rfl, K52, n53, N54, S, qn53, qN54, hK, hC⟩
  refine ⟨_, rfl, ?_⟩
  replace U := U.op S hK hC
  clear S hK hC
  refine t 31 (.bool false) ?_
  refine gl_nil ?_
  refine ge_then ?_
  refine gc_fr [(0, pg g), (6, .int .u64 0), (7, pg g4), (9, pg j50_b0), (10, .int .u64 32), (31, .bool false)] (by kernel_rfl) ?_
  refine gc_no ?_
  refine gc_skip ?_
  refine ge_then ?_
  refine gc_seq ?_
  refine gc_reg ?_
  refine t 33 (pg g) ?_
  refine tlr 34 [.slice j50_a0 j50_k0 j50_c0] (U.bk 0 rfl) 0 ?_
  refine tc 35 69 #[pg g, .agg #[.slice j50_a0 j50_k0 j50_c0]] (SxF.castE (pour_any (p := 2000000000000000000000000000000000001) (er := 0) U.ta.sx (U.nq 0 rfl).nk (by omega) (by decide +kernel) (by omega) (by omega)) (show plE e20 (2000000000000000000000000000000000001 + 666666666666666666666666666666666666) = e21 from rfl)) ?_
  rintro _ v61 ⟨rfl, K57, n58, N59, S, qn58, qN59, hK, hC⟩
  refine ⟨_, rfl, ?_⟩
  replace U := U.op S hK hC
  clear S hK hC
  refine gl_nil ?_
  refine ge_then ?_
  refine gc_seq ?_
  replace U := U.drew
  refine gc_draw (fun w' => Blk w' j50_b0 [.slice j50_a0 j50_k0 j50_c0] 26) (fun _ => false) (U.bk 0 rfl) ?_
  refine z 0 36 (.int .u64 32) ?_
  refine zlr 1 37 [.slice j50_a0 j50_k0 j50_c0] (fun _ h => h) 0 ?_
  refine z 2 6 (.int .u64 32) ?_
  refine zs 3 (U.bk 1 rfl) 0 (.agg #[.slice j50_a0 j50_k0 j50_c0]) [.slice j50_a0 j50_k0 j50_c0] [.slice j50_a0 j50_k0 j50_c0] ?_
  intro v62 Y C
  replace U := U.put 1 rfl C Y (by decide)
  clear Y C
  refine ⟨(U.bk 0 rfl), ?_⟩
  refine gz_done ?_
  refine ge_then ?_
  refine gc_ret ?_
  refine ge_ret (.tuple #[.int .u64 32, .agg #[.slice j50_a0 j50_k0 j50_c0]]) (rstc 6 7 (T := 26) (by kernel_rfl) (by kernel_rfl) (by kernel_rfl) (lr (U.bk 1 rfl) 0)) ?_
  exact ⟨_, _, _, _, _, _, _, rfl, U.ta.sx, by omega, by omega, U.ta.km, U.ta.cc, (U.nq 0 rfl), by omega, fj50_0⟩
theorem with_no {B : Nat} {w : World} {K : Nat → Prop} {g : Nat} {n N : Nat}  (h : Sx B w K g e24 [] n N)  (hn : n ≤ 100000) (hN : N ≤ 100000) : Calls Tryz.prog 28 #[pg g, .int .u64 18, .int .u64 20] w (fun e w' => ∃ K' n' N', e = .returned (.tuple #[.agg #[.int .u64 0, .int .u64 0, .int .u64 0, .slice none 0 0, .slice none 0 0, .slice none 0 0, .int .u64 0], .int .i64 140]) ∧ Sx B w' K' g e24 [] n' N' ∧ n' ≤ n + 300 ∧ N' ≤ N + 300 ∧ (∀ b, K' b → K b ∨ w.heap.size ≤ b) ∧ Chg K w w') := by
  have U := ut_of h
  refine gc_enter (n := 65) Tryz.func28 rfl (by kernel_rfl) (by kernel_rfl) ?_
  refine gc_seq ?_
  refine gc_reg ?_
  refine ta 6 [.int .u64 0, .int .u64 0, .int .u64 0, .slice none 0 0, .slice none 0 0, .slice none 0 0, .int .u64 0] 63 (pg) ?_
  intro v1 g2 Xg2 hg2 B
  replace U := U.new Xg2 hg2 B
  clear Xg2 hg2 B
  refine t 7 (.int .i64 0) ?_
  refine gl_nil ?_
  refine ge_then ?_
  refine gc_seq ?_
  refine gc_reg ?_
  refine t 14 (pg g) ?_
  refine t 15 (.int .u64 18) ?_
  refine tc 16 27 #[pg g, .int .u64 18] (gVal (th := false) (er := 80) (rt := 0) (tk := 0) (un := 0) (pe := 0) (jl := false) (bo := false) (x0 := 0) (x1 := 0) (x2 := 0) (x3 := 0) U.ta.sx ⟨by decide, by decide⟩ (by decide +kernel) rfl (by omega) (by omega)) ?_
  rintro _ v10 ⟨aq3, nq3, cq3, zq3, aq4, nq4, cq4, zq4, aq5, nq5, cq5, zq5, aq6, nq6, cq6, zq6, K7, n8, N9, rfl, S, qn8, qN9, hK, hC, Q0, mq3, h0, Q1, mq4, h1, Q2, mq5, h2, Q3, mq6, h3⟩
  refine ⟨_, rfl, ?_⟩
  have fq3 := ne3 h0 U.ta.size
  have fq4 := ne3 h1 U.ta.size
  have fq5 := ne3 h2 U.ta.size
  have fq6 := ne3 h3 U.ta.size
  have L := U.lt
  replace U := ((((U.op S hK hC).add L Q0 h0).add L Q1 h1).add L Q2 h2).add L Q3 h3
  clear L S hK hC Q0 h0 Q1 h1 Q2 h2 Q3 h3
  refine t 13 (.tuple #[.agg #[.int .u64 0, .int .u64 0, .slice aq3 nq3 cq3, .bool false, .int .u64 0, .bool false, .int .u64 0, .slice aq4 nq4 cq4, .slice aq5 nq5 cq5, .slice aq6 nq6 cq6], .bool false]) ?_
  refine t 17 (.agg #[.int .u64 0, .int .u64 0, .slice aq3 nq3 cq3, .bool false, .int .u64 0, .bool false, .int .u64 0, .slice aq4 nq4 cq4, .slice aq5 nq5 cq5, .slice aq6 nq6 cq6]) ?_
  refine t 18 (.bool false) ?_
  refine ta 8 [.int .u64 0, .int .u64 0, .slice none 0 0, .bool false, .int .u64 0, .bool false, .int .u64 0, .slice none 0 0, .slice none 0 0, .slice none 0 0] 28 (pg) ?_
  intro v11 g12 Xg12 hg12 B
  replace U := U.new Xg12 hg12 B
  clear Xg12 hg12 B
  refine ts (U.bk 0 rfl) 0 (.agg #[.int .u64 0, .int .u64 0, .slice aq3 nq3 cq3, .bool false, .int .u64 0, .bool false, .int .u64 0, .slice aq4 nq4 cq4, .slice aq5 nq5 cq5, .slice aq6 nq6 cq6]) [.int .u64 0, .int .u64 0, .slice aq3 nq3 cq3, .bool false, .int .u64 0, .bool false, .int .u64 0, .slice aq4 nq4 cq4, .slice aq5 nq5 cq5, .slice aq6 nq6 cq6] [.int .u64 0, .int .u64 0, .slice aq3 nq3 cq3, .bool false, .int .u64 0, .bool false, .int .u64 0, .slice aq4 nq4 cq4, .slice aq5 nq5 cq5, .slice aq6 nq6 cq6] ?_
  intro v13 Y C
  replace U := U.put 0 rfl C Y (by decide)
  clear Y C
  refine t 9 (.bool false) ?_
  refine gl_nil ?_
  refine ge_then ?_
  refine gc_fr [(0, pg g), (1, .int .u64 18), (2, .int .u64 20), (6, pg g2), (7, .int .i64 0), (8, pg g12), (9, .bool false)] (by kernel_rfl) ?_
  refine gc_seq ?_
  refine gc_reg ?_
  refine t 20 (pg g) ?_
  refine t 21 (.int .u64 18) ?_
  refine t 22 (.int .u64 20) ?_
  refine tc 23 79 #[pg g, .int .u64 18, .int .u64 20] (gDel (th := false) (er := 80) (x0 := 0) (dp := 0) (x1 := 0) U.ta.sx ⟨by decide, by decide⟩ (by decide +kernel) rfl (by omega) (by omega)) ?_
  rintro _ v19 ⟨aq14, nq14, cq14, zq14, aq15, nq15, cq15, zq15, K16, n17, N18, rfl, S, qn17, qN18, hK, hC, Q0, mq14, h0, Q1, mq15, h1⟩
  refine ⟨_, rfl, ?_⟩
  have fq14 := ne3 h0 U.ta.size
  have fq15 := ne3 h1 U.ta.size
  have L := U.lt
  replace U := ((U.op S hK hC).add L Q0 h0).add L Q1 h1
  clear L S hK hC Q0 h0 Q1 h1
  refine t 19 (.tuple #[.agg #[.slice aq14 nq14 cq14, .int .u64 0, .slice aq15 nq15 cq15], .bool false]) ?_
  refine t 24 (.agg #[.slice aq14 nq14 cq14, .int .u64 0, .slice aq15 nq15 cq15]) ?_
  refine t 25 (.bool false) ?_
  refine ta 10 [.slice none 0 0, .int .u64 0, .slice none 0 0] 55 (pg) ?_
  intro v20 g21 Xg21 hg21 B
  replace U := U.new Xg21 hg21 B
  clear Xg21 hg21 B
  refine ts (U.bk 0 rfl) 0 (.agg #[.slice aq14 nq14 cq14, .int .u64 0, .slice aq15 nq15 cq15]) [.slice aq14 nq14 cq14, .int .u64 0, .slice aq15 nq15 cq15] [.slice aq14 nq14 cq14, .int .u64 0, .slice aq15 nq15 cq15] ?_
  intro v22 Y C
  replace U := U.put 0 rfl C Y (by decide)
  clear Y C
  refine t 11 (.bool false) ?_
  refine gl_nil ?_
  refine ge_then ?_
  refine gc_seq ?_
  refine gc_seq ?_
  refine gc_reg ?_
  refine t 26 (.bool false) ?_
  refine t 27 (.bool true) ?_
  refine t 28 (.bool true) ?_
  refine tn 29 ?_
  refine tn 30 ?_
  refine t 31 (.bool true) ?_
  refine gl_nil ?_
  refine ge_then ?_
  refine gc_fr [(0, pg g), (1, .int .u64 18), (2, .int .u64 20), (6, pg g2), (7, .int .i64 0), (8, pg g12), (10, pg g21), (31, .bool true)] (by kernel_rfl) ?_
  refine gc_yes ?_
  refine gc_seq ?_
  refine gc_reg ?_
  refine t 32 (.agg #[.int .u64 0, .int .u64 0, .int .u64 0, .slice none 0 0, .slice none 0 0, .slice none 0 0, .int .u64 0]) ?_
  refine ts (U.bk 2 rfl) 0 (.agg #[.int .u64 0, .int .u64 0, .int .u64 0, .slice none 0 0, .slice none 0 0, .slice none 0 0, .int .u64 0]) [.int .u64 0, .int .u64 0, .int .u64 0, .slice none 0 0, .slice none 0 0, .slice none 0 0, .int .u64 0] [.int .u64 0, .int .u64 0, .int .u64 0, .slice none 0 0, .slice none 0 0, .slice none 0 0, .int .u64 0] ?_
  intro v23 Y C
  replace U := U.put 2 rfl C Y (by decide)
  clear Y C
  refine t 7 (.int .i64 140) ?_
  refine gl_nil ?_
  refine ge_then ?_
  refine gc_ret ?_
  refine ge_tr ?_
  refine ge_ret (.tuple #[.agg #[.int .u64 0, .int .u64 0, .int .u64 0, .slice none 0 0, .slice none 0 0, .slice none 0 0, .int .u64 0], .int .i64 140]) (rsct 6 7 (T := 63) (by kernel_rfl) (by kernel_rfl) (by kernel_rfl) (lr (U.bk 2 rfl) 0)) ?_
  exact ⟨_, _, _, rfl, U.ta.sx, by omega, by omega, U.ta.km, U.ta.cc⟩
theorem comm_y {B : Nat} {w : World} {K : Nat → Prop} {g : Nat} {n N : Nat}  (h : Sx B w K g e24 [] n N)  (hn : n ≤ 100000) (hN : N ≤ 100000) : Calls Tryz.prog 29 #[pg g, .int .u64 17] w (fun e w' => ∃ K' n' N', e = .returned (.tuple #[.int .u64 6, .int .i64 0]) ∧ Sx B w' K' g e26 [] n' N' ∧ n' ≤ n + 300 ∧ N' ≤ N + 300 ∧ (∀ b, K' b → K b ∨ w.heap.size ≤ b) ∧ Chg K w w') := by
  have U := ut_of h
  refine gc_enter (n := 56) Tryz.func29 rfl (by kernel_rfl) (by kernel_rfl) ?_
  refine gc_seq ?_
  refine gc_reg ?_
  refine t 4 (.int .u64 0) ?_
  refine t 5 (.int .i64 0) ?_
  refine gl_nil ?_
  refine ge_then ?_
  refine gc_seq ?_
  refine gc_reg ?_
  refine t 14 (pg g) ?_
  refine t 15 (.int .u64 17) ?_
  refine tc 16 27 #[pg g, .int .u64 17] (gVal (th := true) (er := 0) (rt := 1000) (tk := 2) (un := 0) (pe := 1) (jl := false) (bo := false) (x0 := 2000000000000000000000000000000000000) (x1 := 58800000000000000000000000000000000000) (x2 := 65333333333333333333333333333333333333) (x3 := 6533333333333333333333333333333333333) U.ta.sx ⟨by decide, by decide⟩ (by decide +kernel) rfl (by omega) (by omega)) ?_
  rintro _ v8 ⟨aq1, nq1, cq1, zq1, aq2, nq2, cq2, zq2, aq3, nq3, cq3, zq3, aq4, nq4, cq4, zq4, K5, n6, N7, rfl, S, qn6, qN7, hK, hC, Q0, mq1, h0, Q1, mq2, h1, Q2, mq3, h2, Q3, mq4, h3⟩
  refine ⟨_, rfl, ?_⟩
  have fq1 := ne3 h0 U.ta.size
  have fq2 := ne3 h1 U.ta.size
  have fq3 := ne3 h2 U.ta.size
  have fq4 := ne3 h3 U.ta.size
  have L := U.lt
  replace U := ((((U.op S hK hC).add L Q0 h0).add L Q1 h1).add L Q2 h2).add L Q3 h3
  clear L S hK hC Q0 h0 Q1 h1 Q2 h2 Q3 h3
  refine t 13 (.tuple #[.agg #[.int .u64 1000, .int .u64 2, .slice aq1 nq1 cq1, .bool false, .int .u64 0, .bool false, .int .u64 1, .slice aq2 nq2 cq2, .slice aq3 nq3 cq3, .slice aq4 nq4 cq4], .bool true]) ?_
  refine t 17 (.agg #[.int .u64 1000, .int .u64 2, .slice aq1 nq1 cq1, .bool false, .int .u64 0, .bool false, .int .u64 1, .slice aq2 nq2 cq2, .slice aq3 nq3 cq3, .slice aq4 nq4 cq4]) ?_
  refine t 18 (.bool true) ?_
  refine ta 6 [.int .u64 0, .int .u64 0, .slice none 0 0, .bool false, .int .u64 0, .bool false, .int .u64 0, .slice none 0 0, .slice none 0 0, .slice none 0 0] 28 (pg) ?_
  intro v9 g10 Xg10 hg10 B
  replace U := U.new Xg10 hg10 B
  clear Xg10 hg10 B
  refine ts (U.bk 0 rfl) 0 (.agg #[.int .u64 1000, .int .u64 2, .slice aq1 nq1 cq1, .bool false, .int .u64 0, .bool false, .int .u64 1, .slice aq2 nq2 cq2, .slice aq3 nq3 cq3, .slice aq4 nq4 cq4]) [.int .u64 1000, .int .u64 2, .slice aq1 nq1 cq1, .bool false, .int .u64 0, .bool false, .int .u64 1, .slice aq2 nq2 cq2, .slice aq3 nq3 cq3, .slice aq4 nq4 cq4] [.int .u64 1000, .int .u64 2, .slice aq1 nq1 cq1, .bool false, .int .u64 0, .bool false, .int .u64 1, .slice aq2 nq2 cq2, .slice aq3 nq3 cq3, .slice aq4 nq4 cq4] ?_
  intro v11 Y C
  replace U := U.put 0 rfl C Y (by decide)
  clear Y C
  refine t 7 (.bool true) ?_
  refine gl_nil ?_
  refine ge_then ?_
  refine gc_fr [(0, pg g), (1, .int .u64 17), (4, .int .u64 0), (5, .int .i64 0), (6, pg g10), (7, .bool true)] (by kernel_rfl) ?_
  refine gc_seq ?_
  refine gc_seq ?_
  refine gc_reg ?_
  refine t 19 (.bool true) ?_
  refine t 20 (.bool false) ?_
  refine gl_nil ?_
  refine ge_then ?_
  refine gc_no ?_
  refine gc_skip ?_
  refine ge_then ?_
  refine gc_seq ?_
  refine gc_reg ?_
  refine t 22 (pq g10 9) ?_
  refine tlr 23 [.slice aq4 nq4 cq4] (U.bk 0 rfl) 9 ?_
  refine tc 24 70 #[.agg #[.slice aq4 nq4 cq4]] (eTrunc2 (U.nq 0 rfl).nat (by omega)) ?_
  rintro _ v14 ⟨aq12, nq12, cq12, zq12, aq13, nq13, cq13, zq13, rfl, M, M', h, h', mq12, mq13, B⟩
  refine ⟨_, rfl, ?_⟩
  have fq12 := ne3 h U.ta.size
  have fq13 := ne3 h' U.ta.size
  have L := U.lt
  replace U := ((U.keep B).add L (nq_of U.ta.sx M h) h).add L (nq_of U.ta.sx M' h') h'
  clear L M M' h h' B
  replace U := U.val 1 rfl (show _ = (6 : Int) by decide +kernel)
  replace U := U.val 0 rfl (show _ = (533333333333333333333333333333333333 : Int) by decide +kernel)
  refine t 21 (.tuple #[.slice aq12 nq12 cq12, .agg #[.slice aq13 nq13 cq13]]) ?_
  refine t 25 (.slice aq12 nq12 cq12) ?_
  refine t 26 (.agg #[.slice aq13 nq13 cq13]) ?_
  refine ta 9 [.slice none 0 0] 26 (pg) ?_
  intro v15 g16 Xg16 hg16 B
  replace U := U.new Xg16 hg16 B
  clear Xg16 hg16 B
  refine t 8 (.slice aq12 nq12 cq12) ?_
  refine ts (U.bk 0 rfl) 0 (.agg #[.slice aq13 nq13 cq13]) [.slice aq13 nq13 cq13] [.slice aq13 nq13 cq13] ?_
  intro v17 Y C
  replace U := U.put 0 rfl C Y (by decide)
  clear Y C
  refine gl_nil ?_
  refine ge_then ?_
  refine gc_seq ?_
  refine gc_reg ?_
  refine t 28 (.slice aq12 nq12 cq12) ?_
  refine tc 29 81 #[.slice aq12 nq12 cq12] (small_lit (v := 6) (b := true) (U.nq 1 rfl).nat (by omega) (by decide +kernel) (by decide +kernel)) ?_
  rintro _ v18 ⟨rfl, B⟩
  refine ⟨_, rfl, ?_⟩
  replace U := U.keep B
  clear B
  refine t 27 (.tuple #[.int .u64 6, .bool true]) ?_
  refine t 30 (.int .u64 6) ?_
  refine t 31 (.bool true) ?_
  refine t 10 (.int .u64 6) ?_
  refine t 11 (.bool true) ?_
  refine gl_nil ?_
  refine ge_then ?_
  refine gc_fr [(0, pg g), (1, .int .u64 17), (4, .int .u64 0), (5, .int .i64 0), (6, pg g10), (9, pg g16), (10, .int .u64 6), (11, .bool true)] (by kernel_rfl) ?_
  refine gc_seq ?_
  refine gc_seq ?_
  refine gc_reg ?_
  refine t 32 (.bool true) ?_
  refine t 33 (.bool false) ?_
  refine gl_nil ?_
  refine ge_then ?_
  refine gc_no ?_
  refine gc_skip ?_
  refine ge_then ?_
  refine gc_seq ?_
  refine gc_seq ?_
  refine gc_reg ?_
  refine t 34 (.int .u64 6) ?_
  refine t 35 (.bool false) ?_
  refine gl_nil ?_
  refine ge_then ?_
  refine gc_no ?_
  refine gc_skip ?_
  refine ge_then ?_
  refine gc_seq ?_
  refine gc_seq ?_
  refine gc_reg ?_
  refine t 36 (pg g) ?_
  refine t 37 (.int .u64 17) ?_
  refine t 38 (.int .u64 6) ?_
  refine tc 39 65 #[pg g, .int .u64 4, .int .u64 17, .int .u64 6] (mv_lit (move_any U.ta.sx ⟨by decide, by decide⟩ ⟨by decide, by decide⟩ ⟨by decide, by decide⟩ (by omega) (by omega)) (show moveE e24 4 17 6 = e25 from rfl) (show moveR e24 4 17 6 = 0 by decide +kernel)) ?_
  rintro _ v23 ⟨rfl, K19, n20, N21, S, qn20, qN21, hK, hC⟩
  refine ⟨_, rfl, ?_⟩
  replace U := U.op S hK hC
  clear S hK hC
  refine t 12 (.int .i64 0) ?_
  refine gl_nil ?_
  refine ge_then ?_
  refine gc_seq ?_
  refine gc_reg ?_
  refine t 40 (.int .i64 0) ?_
  refine t 41 (.bool false) ?_
  refine gl_nil ?_
  refine ge_then ?_
  refine gc_no ?_
  refine gc_skip ?_
  refine ge_then ?_
  refine gc_seq ?_
  replace U := U.drew
  refine gc_draw (fun w' => Blk w' g16 [.slice aq13 nq13 cq13] 26 ∧ Blk w' g10 [.int .u64 1000, .int .u64 2, .slice aq1 nq1 cq1, .bool false, .int .u64 0, .bool false, .int .u64 1, .slice aq2 nq2 cq2, .slice aq3 nq3 cq3, .slice aq4 nq4 cq4] 28) (fun i => decide (7 ≤ i)) ⟨(U.bk 0 rfl), (U.bk 1 rfl)⟩ ?_
  refine zlr 0 43 [.slice aq13 nq13 cq13] (fun _ h => h.1) 0 ?_
  refine zp 1 44 (pq g10 8) ?_
  refine zlr 2 45 [.slice aq3 nq3 cq3] (fun _ h => h.2) 8 ?_
  refine zp 3 46 (.int .u64 6) ?_
  refine zp 6 49 (pq g10 9) ?_
  refine zc 4 47 19 #[.int .u64 6] (eOf (y := 6) ⟨by decide, by decide⟩) ?_
  rintro _ v25 ⟨aq24, nq24, cq24, zq24, rfl, M, h, mq24, B⟩
  have fq24 := ne3 h U.ta.size
  replace U := U.num M h B
  clear M h B
  replace U := U.val 0 rfl (show _ = (6000000000000000000000000000000000000 : Int) by decide +kernel)
  refine ⟨_, rfl, ⟨(U.bk 0 rfl), (U.bk 1 rfl)⟩, ?_⟩
  refine zc 5 48 35 #[.agg #[.slice aq3 nq3 cq3], .agg #[.slice aq24 nq24 cq24]] (dLess (U.nq 4 rfl).nat (by omega) (U.nq 0 rfl).nat (by omega)) ?_
  rintro _ v27 ⟨aq26, nq26, cq26, zq26, rfl, M, h, mq26, B⟩
  have fq26 := ne3 h U.ta.size
  replace U := U.num M h B
  clear M h B
  replace U := U.val 0 rfl (show _ = (59333333333333333333333333333333333333 : Int) by decide +kernel)
  refine ⟨_, rfl, ⟨(U.bk 0 rfl), (U.bk 1 rfl)⟩, ?_⟩
  refine gz_late ?_
  refine ys 7 (U.bk 1 rfl) 9 (.agg #[.slice aq13 nq13 cq13]) [.slice aq13 nq13 cq13] [.int .u64 1000, .int .u64 2, .slice aq1 nq1 cq1, .bool false, .int .u64 0, .bool false, .int .u64 1, .slice aq2 nq2 cq2, .slice aq3 nq3 cq3, .slice aq13 nq13 cq13] ?_
  intro v28 Y C
  replace U := U.put 1 rfl C Y (by decide)
  clear Y C
  refine yt 8 50 (pq g10 8) ?_
  refine ys 9 (U.bk 1 rfl) 8 (.agg #[.slice aq26 nq26 cq26]) [.slice aq26 nq26 cq26] [.int .u64 1000, .int .u64 2, .slice aq1 nq1 cq1, .bool false, .int .u64 0, .bool false, .int .u64 1, .slice aq2 nq2 cq2, .slice aq26 nq26 cq26, .slice aq13 nq13 cq13] ?_
  intro v29 Y C
  replace U := U.put 1 rfl C Y (by decide)
  clear Y C
  refine gy_done ?_
  refine ge_then ?_
  refine gc_fr [(0, pg g), (1, .int .u64 17), (4, .int .u64 0), (5, .int .i64 0), (6, pg g10), (10, .int .u64 6)] (by kernel_rfl) ?_
  refine gc_seq ?_
  refine gc_reg ?_
  refine t 51 (pg g) ?_
  refine t 52 (.int .u64 17) ?_
  refine tlr 53 [.int .u64 1000, .int .u64 2, .slice aq1 nq1 cq1, .bool false, .int .u64 0, .bool false, .int .u64 1, .slice aq2 nq2 cq2, .slice aq26 nq26 cq26, .slice aq13 nq13 cq13] (U.bk 1 rfl) 0 ?_
  refine tc 54 21 #[pg g, .int .u64 17, .agg #[.int .u64 1000, .int .u64 2, .slice aq1 nq1 cq1, .bool false, .int .u64 0, .bool false, .int .u64 1, .slice aq2 nq2 cq2, .slice aq26 nq26 cq26, .slice aq13 nq13 cq13]] (SxE.castE (sVal U.ta.sx ⟨by decide, by decide⟩ (U.nq 7 rfl).nk (by omega) (U.nq 6 rfl).nk (by omega) (U.nq 0 rfl).nk (by omega) (U.nq 2 rfl).nk (by omega) (by omega) (by omega)) (show _ = e26 from rfl)) ?_
  rintro _ v31 ⟨rfl, K30, S, hK, hC⟩
  refine ⟨_, rfl, ?_⟩
  replace U := U.op S hK hC
  clear S hK hC
  refine gl_nil ?_
  refine ge_then ?_
  refine gc_seq ?_
  refine gc_reg ?_
  refine t 55 (.int .u64 6) ?_
  refine t 4 (.int .u64 6) ?_
  refine t 5 (.int .i64 0) ?_
  refine gl_nil ?_
  refine ge_then ?_
  refine gc_ret ?_
  refine ge_ret (.tuple #[.int .u64 6, .int .i64 0]) (rs2 4 5 (by kernel_rfl) (by kernel_rfl) (by kernel_rfl)) ?_
  exact ⟨_, _, _, rfl, U.ta.sx, by omega, by omega, U.ta.km, U.ta.cc⟩
theorem comm_n {B : Nat} {w : World} {K : Nat → Prop} {g : Nat} {n N : Nat}  (h : Sx B w K g e26 [] n N)  (hn : n ≤ 100000) (hN : N ≤ 100000) : Calls Tryz.prog 29 #[pg g, .int .u64 16] w (fun e w' => ∃ K' n' N', e = .returned (.tuple #[.int .u64 0, .int .i64 141]) ∧ Sx B w' K' g e26 [] n' N' ∧ n' ≤ n + 300 ∧ N' ≤ N + 300 ∧ (∀ b, K' b → K b ∨ w.heap.size ≤ b) ∧ Chg K w w') := by
  have U := ut_of h
  refine gc_enter (n := 56) Tryz.func29 rfl (by kernel_rfl) (by kernel_rfl) ?_
  refine gc_seq ?_
  refine gc_reg ?_
  refine t 4 (.int .u64 0) ?_
  refine t 5 (.int .i64 0) ?_
  refine gl_nil ?_
  refine ge_then ?_
  refine gc_seq ?_
  refine gc_reg ?_
  refine t 14 (pg g) ?_
  refine t 15 (.int .u64 16) ?_
  refine tc 16 27 #[pg g, .int .u64 16] (gVal (th := true) (er := 0) (rt := 0) (tk := 1) (un := 0) (pe := 2) (jl := false) (bo := false) (x0 := 1000000000000000000000000000000000000) (x1 := 0) (x2 := 0) (x3 := 0) U.ta.sx ⟨by decide, by decide⟩ (by decide +kernel) rfl (by omega) (by omega)) ?_
  rintro _ v8 ⟨aq1, nq1, cq1, zq1, aq2, nq2, cq2, zq2, aq3, nq3, cq3, zq3, aq4, nq4, cq4, zq4, K5, n6, N7, rfl, S, qn6, qN7, hK, hC, Q0, mq1, h0, Q1, mq2, h1, Q2, mq3, h2, Q3, mq4, h3⟩
  refine ⟨_, rfl, ?_⟩
  have fq1 := ne3 h0 U.ta.size
  have fq2 := ne3 h1 U.ta.size
  have fq3 := ne3 h2 U.ta.size
  have fq4 := ne3 h3 U.ta.size
  have L := U.lt
  replace U := ((((U.op S hK hC).add L Q0 h0).add L Q1 h1).add L Q2 h2).add L Q3 h3
  clear L S hK hC Q0 h0 Q1 h1 Q2 h2 Q3 h3
  refine t 13 (.tuple #[.agg #[.int .u64 0, .int .u64 1, .slice aq1 nq1 cq1, .bool false, .int .u64 0, .bool false, .int .u64 2, .slice aq2 nq2 cq2, .slice aq3 nq3 cq3, .slice aq4 nq4 cq4], .bool true]) ?_
  refine t 17 (.agg #[.int .u64 0, .int .u64 1, .slice aq1 nq1 cq1, .bool false, .int .u64 0, .bool false, .int .u64 2, .slice aq2 nq2 cq2, .slice aq3 nq3 cq3, .slice aq4 nq4 cq4]) ?_
  refine t 18 (.bool true) ?_
  refine ta 6 [.int .u64 0, .int .u64 0, .slice none 0 0, .bool false, .int .u64 0, .bool false, .int .u64 0, .slice none 0 0, .slice none 0 0, .slice none 0 0] 28 (pg) ?_
  intro v9 g10 Xg10 hg10 B
  replace U := U.new Xg10 hg10 B
  clear Xg10 hg10 B
  refine ts (U.bk 0 rfl) 0 (.agg #[.int .u64 0, .int .u64 1, .slice aq1 nq1 cq1, .bool false, .int .u64 0, .bool false, .int .u64 2, .slice aq2 nq2 cq2, .slice aq3 nq3 cq3, .slice aq4 nq4 cq4]) [.int .u64 0, .int .u64 1, .slice aq1 nq1 cq1, .bool false, .int .u64 0, .bool false, .int .u64 2, .slice aq2 nq2 cq2, .slice aq3 nq3 cq3, .slice aq4 nq4 cq4] [.int .u64 0, .int .u64 1, .slice aq1 nq1 cq1, .bool false, .int .u64 0, .bool false, .int .u64 2, .slice aq2 nq2 cq2, .slice aq3 nq3 cq3, .slice aq4 nq4 cq4] ?_
  intro v11 Y C
  replace U := U.put 0 rfl C Y (by decide)
  clear Y C
  refine t 7 (.bool true) ?_
  refine gl_nil ?_
  refine ge_then ?_
  refine gc_fr [(0, pg g), (1, .int .u64 16), (4, .int .u64 0), (5, .int .i64 0), (6, pg g10), (7, .bool true)] (by kernel_rfl) ?_
  refine gc_seq ?_
  refine gc_seq ?_
  refine gc_reg ?_
  refine t 19 (.bool true) ?_
  refine t 20 (.bool false) ?_
  refine gl_nil ?_
  refine ge_then ?_
  refine gc_no ?_
  refine gc_skip ?_
  refine ge_then ?_
  refine gc_seq ?_
  refine gc_reg ?_
  refine t 22 (pq g10 9) ?_
  refine tlr 23 [.slice aq4 nq4 cq4] (U.bk 0 rfl) 9 ?_
  refine tc 24 70 #[.agg #[.slice aq4 nq4 cq4]] (eTrunc2 (U.nq 0 rfl).nat (by omega)) ?_
  rintro _ v14 ⟨aq12, nq12, cq12, zq12, aq13, nq13, cq13, zq13, rfl, M, M', h, h', mq12, mq13, B⟩
  refine ⟨_, rfl, ?_⟩
  have fq12 := ne3 h U.ta.size
  have fq13 := ne3 h' U.ta.size
  have L := U.lt
  replace U := ((U.keep B).add L (nq_of U.ta.sx M h) h).add L (nq_of U.ta.sx M' h') h'
  clear L M M' h h' B
  replace U := U.val 1 rfl (show _ = (0 : Int) by decide +kernel)
  replace U := U.val 0 rfl (show _ = (0 : Int) by decide +kernel)
  refine t 21 (.tuple #[.slice aq12 nq12 cq12, .agg #[.slice aq13 nq13 cq13]]) ?_
  refine t 25 (.slice aq12 nq12 cq12) ?_
  refine t 26 (.agg #[.slice aq13 nq13 cq13]) ?_
  refine ta 9 [.slice none 0 0] 26 (pg) ?_
  intro v15 g16 Xg16 hg16 B
  replace U := U.new Xg16 hg16 B
  clear Xg16 hg16 B
  refine t 8 (.slice aq12 nq12 cq12) ?_
  refine ts (U.bk 0 rfl) 0 (.agg #[.slice aq13 nq13 cq13]) [.slice aq13 nq13 cq13] [.slice aq13 nq13 cq13] ?_
  intro v17 Y C
  replace U := U.put 0 rfl C Y (by decide)
  clear Y C
  refine gl_nil ?_
  refine ge_then ?_
  refine gc_seq ?_
  refine gc_reg ?_
  refine t 28 (.slice aq12 nq12 cq12) ?_
  refine tc 29 81 #[.slice aq12 nq12 cq12] (small_lit (v := 0) (b := true) (U.nq 1 rfl).nat (by omega) (by decide +kernel) (by decide +kernel)) ?_
  rintro _ v18 ⟨rfl, B⟩
  refine ⟨_, rfl, ?_⟩
  replace U := U.keep B
  clear B
  refine t 27 (.tuple #[.int .u64 0, .bool true]) ?_
  refine t 30 (.int .u64 0) ?_
  refine t 31 (.bool true) ?_
  refine t 10 (.int .u64 0) ?_
  refine t 11 (.bool true) ?_
  refine gl_nil ?_
  refine ge_then ?_
  refine gc_fr [(0, pg g), (1, .int .u64 16), (4, .int .u64 0), (5, .int .i64 0), (6, pg g10), (9, pg g16), (10, .int .u64 0), (11, .bool true)] (by kernel_rfl) ?_
  refine gc_seq ?_
  refine gc_seq ?_
  refine gc_reg ?_
  refine t 32 (.bool true) ?_
  refine t 33 (.bool false) ?_
  refine gl_nil ?_
  refine ge_then ?_
  refine gc_no ?_
  refine gc_skip ?_
  refine ge_then ?_
  refine gc_seq ?_
  refine gc_seq ?_
  refine gc_reg ?_
  refine t 34 (.int .u64 0) ?_
  refine t 35 (.bool true) ?_
  refine gl_nil ?_
  refine ge_then ?_
  refine gc_yes ?_
  refine gc_seq ?_
  refine gc_reg ?_
  refine t 4 (.int .u64 0) ?_
  refine t 5 (.int .i64 141) ?_
  refine gl_nil ?_
  refine ge_then ?_
  refine gc_ret ?_
  refine ge_tr ?_
  refine ge_ret (.tuple #[.int .u64 0, .int .i64 141]) (rs2 4 5 (by kernel_rfl) (by kernel_rfl) (by kernel_rfl)) ?_
  exact ⟨_, _, _, rfl, U.ta.sx, by omega, by omega, U.ta.km, U.ta.cc⟩
theorem spend_n {B : Nat} {w : World} {K : Nat → Prop} {g : Nat} {n N : Nat}  (h : Sx B w K g e26 [] n N)  (hn : n ≤ 100000) (hN : N ≤ 100000) : Calls Tryz.prog 31 #[pg g, .int .u64 21, .int .u64 9] w (fun e w' => ∃ K' n' N', e = .returned (.int .i64 142) ∧ Sx B w' K' g e26 [] n' N' ∧ n' ≤ n + 300 ∧ N' ≤ N + 300 ∧ (∀ b, K' b → K b ∨ w.heap.size ≤ b) ∧ Chg K w w') := by
  have U := ut_of h
  refine gc_enter (n := 30) Tryz.func31 rfl (by kernel_rfl) (by kernel_rfl) ?_
  refine gc_seq ?_
  refine gc_reg ?_
  refine t 6 (.int .i64 0) ?_
  refine gl_nil ?_
  refine ge_then ?_
  refine gc_seq ?_
  refine gc_reg ?_
  refine t 11 (pg g) ?_
  refine tc 12 26 #[pg g] (gPool (x0 := 2666666666666666666666666666666666667) (er := 0) U.ta.sx (by decide +kernel) (by omega) (by omega)) ?_
  rintro _ v5 ⟨aq1, nq1, cq1, zq1, K2, n3, N4, rfl, S, qn3, qN4, hK, hC, Q0, mq1, h0⟩
  refine ⟨_, rfl, ?_⟩
  have fq1 := ne3 h0 U.ta.size
  have L := U.lt
  replace U := (U.op S hK hC).add L Q0 h0
  clear L S hK hC Q0 h0
  refine t 13 (.int .u64 9) ?_
  refine tc 14 19 #[.int .u64 9] (eOf (y := 9) ⟨by decide, by decide⟩) ?_
  rintro _ v7 ⟨aq6, nq6, cq6, zq6, rfl, M, h, mq6, B⟩
  refine ⟨_, rfl, ?_⟩
  have fq6 := ne3 h U.ta.size
  replace U := U.num M h B
  clear M h B
  replace U := U.val 0 rfl (show _ = (9000000000000000000000000000000000000 : Int) by decide +kernel)
  refine tc 15 6 #[.agg #[.slice aq1 nq1 cq1], .agg #[.slice aq6 nq6 cq6]] (NtE.cast (er' := 20) (eSub (U.nq 1 rfl).nat (by omega) (U.nq 0 rfl).nat (by omega)) (by decide +kernel)) ?_
  rintro _ v9 ⟨aq8, nq8, cq8, zq8, rfl, M, h, mq8, B⟩
  refine ⟨_, rfl, ?_⟩
  have fq8 := ne3 h U.ta.size
  replace U := U.num M h B
  clear M h B
  replace U := U.val 0 rfl (show _ = (0 : Int) by decide +kernel)
  refine t 10 (.tuple #[.agg #[.slice aq8 nq8 cq8], .int .i64 20]) ?_
  refine t 16 (.agg #[.slice aq8 nq8 cq8]) ?_
  refine t 17 (.int .i64 20) ?_
  refine ta 7 [.slice none 0 0] 26 (pg) ?_
  intro v10 g11 Xg11 hg11 B
  replace U := U.new Xg11 hg11 B
  clear Xg11 hg11 B
  refine ts (U.bk 0 rfl) 0 (.agg #[.slice aq8 nq8 cq8]) [.slice aq8 nq8 cq8] [.slice aq8 nq8 cq8] ?_
  intro v12 Y C
  replace U := U.put 0 rfl C Y (by decide)
  clear Y C
  refine t 8 (.int .i64 20) ?_
  refine gl_nil ?_
  refine ge_then ?_
  refine gc_fr [(0, pg g), (1, .int .u64 21), (2, .int .u64 9), (6, .int .i64 0), (7, pg g11), (8, .int .i64 20)] (by kernel_rfl) ?_
  refine gc_seq ?_
  refine gc_seq ?_
  refine gc_reg ?_
  refine t 18 (.int .i64 20) ?_
  refine t 19 (.bool true) ?_
  refine gl_nil ?_
  refine ge_then ?_
  refine gc_yes ?_
  refine gc_seq ?_
  refine gc_reg ?_
  refine t 6 (.int .i64 142) ?_
  refine gl_nil ?_
  refine ge_then ?_
  refine gc_ret ?_
  refine ge_tr ?_
  refine ge_ret (.int .i64 142) (rs1 6 (by kernel_rfl) (by kernel_rfl)) ?_
  exact ⟨_, _, _, rfl, U.ta.sx, by omega, by omega, U.ta.km, U.ta.cc⟩
theorem spend_y {B : Nat} {w : World} {K : Nat → Prop} {g : Nat} {n N : Nat}  (h : Sx B w K g e26 [] n N)  (hn : n ≤ 100000) (hN : N ≤ 100000) : Calls Tryz.prog 31 #[pg g, .int .u64 21, .int .u64 2] w (fun e w' => ∃ K' n' N', e = .returned (.int .i64 0) ∧ Sx B w' K' g e28 [] n' N' ∧ n' ≤ n + 300 ∧ N' ≤ N + 300 ∧ (∀ b, K' b → K b ∨ w.heap.size ≤ b) ∧ Chg K w w') := by
  have U := ut_of h
  refine gc_enter (n := 30) Tryz.func31 rfl (by kernel_rfl) (by kernel_rfl) ?_
  refine gc_seq ?_
  refine gc_reg ?_
  refine t 6 (.int .i64 0) ?_
  refine gl_nil ?_
  refine ge_then ?_
  refine gc_seq ?_
  refine gc_reg ?_
  refine t 11 (pg g) ?_
  refine tc 12 26 #[pg g] (gPool (x0 := 2666666666666666666666666666666666667) (er := 0) U.ta.sx (by decide +kernel) (by omega) (by omega)) ?_
  rintro _ v5 ⟨aq1, nq1, cq1, zq1, K2, n3, N4, rfl, S, qn3, qN4, hK, hC, Q0, mq1, h0⟩
  refine ⟨_, rfl, ?_⟩
  have fq1 := ne3 h0 U.ta.size
  have L := U.lt
  replace U := (U.op S hK hC).add L Q0 h0
  clear L S hK hC Q0 h0
  refine t 13 (.int .u64 2) ?_
  refine tc 14 19 #[.int .u64 2] (eOf (y := 2) ⟨by decide, by decide⟩) ?_
  rintro _ v7 ⟨aq6, nq6, cq6, zq6, rfl, M, h, mq6, B⟩
  refine ⟨_, rfl, ?_⟩
  have fq6 := ne3 h U.ta.size
  replace U := U.num M h B
  clear M h B
  replace U := U.val 0 rfl (show _ = (2000000000000000000000000000000000000 : Int) by decide +kernel)
  refine tc 15 6 #[.agg #[.slice aq1 nq1 cq1], .agg #[.slice aq6 nq6 cq6]] (NtE.cast (er' := 0) (eSub (U.nq 1 rfl).nat (by omega) (U.nq 0 rfl).nat (by omega)) (by decide +kernel)) ?_
  rintro _ v9 ⟨aq8, nq8, cq8, zq8, rfl, M, h, mq8, B⟩
  refine ⟨_, rfl, ?_⟩
  have fq8 := ne3 h U.ta.size
  replace U := U.num M h B
  clear M h B
  replace U := U.val 0 rfl (show _ = (666666666666666666666666666666666667 : Int) by decide +kernel)
  refine t 10 (.tuple #[.agg #[.slice aq8 nq8 cq8], .int .i64 0]) ?_
  refine t 16 (.agg #[.slice aq8 nq8 cq8]) ?_
  refine t 17 (.int .i64 0) ?_
  refine ta 7 [.slice none 0 0] 26 (pg) ?_
  intro v10 g11 Xg11 hg11 B
  replace U := U.new Xg11 hg11 B
  clear Xg11 hg11 B
  refine ts (U.bk 0 rfl) 0 (.agg #[.slice aq8 nq8 cq8]) [.slice aq8 nq8 cq8] [.slice aq8 nq8 cq8] ?_
  intro v12 Y C
  replace U := U.put 0 rfl C Y (by decide)
  clear Y C
  refine t 8 (.int .i64 0) ?_
  refine gl_nil ?_
  refine ge_then ?_
  refine gc_fr [(0, pg g), (1, .int .u64 21), (2, .int .u64 2), (6, .int .i64 0), (7, pg g11), (8, .int .i64 0)] (by kernel_rfl) ?_
  refine gc_seq ?_
  refine gc_seq ?_
  refine gc_reg ?_
  refine t 18 (.int .i64 0) ?_
  refine t 19 (.bool false) ?_
  refine gl_nil ?_
  refine ge_then ?_
  refine gc_no ?_
  refine gc_skip ?_
  refine ge_then ?_
  refine gc_seq ?_
  refine gc_reg ?_
  refine t 20 (pg g) ?_
  refine t 21 (.int .u64 21) ?_
  refine t 22 (.int .u64 2) ?_
  refine tc 23 65 #[pg g, .int .u64 4, .int .u64 21, .int .u64 2] (mv_lit (move_any U.ta.sx ⟨by decide, by decide⟩ ⟨by decide, by decide⟩ ⟨by decide, by decide⟩ (by omega) (by omega)) (show moveE e26 4 21 2 = e27 from rfl) (show moveR e26 4 21 2 = 0 by decide +kernel)) ?_
  rintro _ v17 ⟨rfl, K13, n14, N15, S, qn14, qN15, hK, hC⟩
  refine ⟨_, rfl, ?_⟩
  replace U := U.op S hK hC
  clear S hK hC
  refine t 9 (.int .i64 0) ?_
  refine gl_nil ?_
  refine ge_then ?_
  refine gc_seq ?_
  refine gc_seq ?_
  refine gc_reg ?_
  refine t 24 (.int .i64 0) ?_
  refine t 25 (.bool true) ?_
  refine gl_nil ?_
  refine ge_then ?_
  refine gc_yes ?_
  refine gc_reg ?_
  refine t 26 (pg g) ?_
  refine tlr 27 [.slice aq8 nq8 cq8] (U.bk 0 rfl) 0 ?_
  refine tc 28 85 #[pg g, .agg #[.slice aq8 nq8 cq8]] (SxE.castE (lPool U.ta.sx (U.nq 0 rfl).nk (by omega) (by omega) (by omega)) (show plE e27 666666666666666666666666666666666667 = e28 from rfl)) ?_
  rintro _ v19 ⟨rfl, K18, S, hK, hC⟩
  refine ⟨_, rfl, ?_⟩
  replace U := U.op S hK hC
  clear S hK hC
  refine gl_nil ?_
  refine ge_then ?_
  refine gc_fr [(6, .int .i64 0), (9, .int .i64 0)] (by kernel_rfl) ?_
  refine gc_seq ?_
  refine gc_reg ?_
  refine t 29 (.int .i64 0) ?_
  refine t 6 (.int .i64 0) ?_
  refine gl_nil ?_
  refine ge_then ?_
  refine gc_ret ?_
  refine ge_ret (.int .i64 0) (rs1 6 (by kernel_rfl) (by kernel_rfl)) ?_
  exact ⟨_, _, _, rfl, U.ta.sx, by omega, by omega, U.ta.km, U.ta.cc⟩
theorem fund_y {B : Nat} {w : World} {K : Nat → Prop} {g : Nat} {n N : Nat}  (h : Sx B w K g e28 [] n N)  (hn : n ≤ 100000) (hN : N ≤ 100000) : Calls Tryz.prog 32 #[pg g, .int .u64 21, .int .u64 2] w (fun e w' => ∃ K' n' N', e = .returned (.int .i64 0) ∧ Sx B w' K' g e30 [] n' N' ∧ n' ≤ n + 300 ∧ N' ≤ N + 300 ∧ (∀ b, K' b → K b ∨ w.heap.size ≤ b) ∧ Chg K w w') := by
  have U := ut_of h
  refine gc_enter (n := 19) Tryz.func32 rfl (by kernel_rfl) (by kernel_rfl) ?_
  refine gc_seq ?_
  refine gc_reg ?_
  refine t 6 (.int .i64 0) ?_
  refine gl_nil ?_
  refine ge_then ?_
  refine gc_seq ?_
  refine gc_reg ?_
  refine t 8 (pg g) ?_
  refine t 9 (.int .u64 21) ?_
  refine t 10 (.int .u64 2) ?_
  refine tc 11 65 #[pg g, .int .u64 21, .int .u64 4, .int .u64 2] (mv_lit (move_any U.ta.sx ⟨by decide, by decide⟩ ⟨by decide, by decide⟩ ⟨by decide, by decide⟩ (by omega) (by omega)) (show moveE e28 21 4 2 = e29 from rfl) (show moveR e28 21 4 2 = 0 by decide +kernel)) ?_
  rintro _ v5 ⟨rfl, K1, n2, N3, S, qn2, qN3, hK, hC⟩
  refine ⟨_, rfl, ?_⟩
  replace U := U.op S hK hC
  clear S hK hC
  refine t 7 (.int .i64 0) ?_
  refine gl_nil ?_
  refine ge_then ?_
  refine gc_seq ?_
  refine gc_seq ?_
  refine gc_reg ?_
  refine t 12 (.int .i64 0) ?_
  refine t 13 (.bool true) ?_
  refine gl_nil ?_
  refine ge_then ?_
  refine gc_yes ?_
  refine gc_reg ?_
  refine t 14 (pg g) ?_
  refine t 15 (.int .u64 2) ?_
  refine tc 16 19 #[.int .u64 2] (eOf (y := 2) ⟨by decide, by decide⟩) ?_
  rintro _ v7 ⟨aq6, nq6, cq6, zq6, rfl, M, h, mq6, B⟩
  refine ⟨_, rfl, ?_⟩
  have fq6 := ne3 h U.ta.size
  replace U := U.num M h B
  clear M h B
  replace U := U.val 0 rfl (show _ = (2000000000000000000000000000000000000 : Int) by decide +kernel)
  refine tc 17 69 #[pg g, .agg #[.slice aq6 nq6 cq6]] (SxF.castE (pour_any (p := 666666666666666666666666666666666667) (er := 0) U.ta.sx (U.nq 0 rfl).nk (by omega) (by decide +kernel) (by omega) (by omega)) (show plE e29 (666666666666666666666666666666666667 + 2000000000000000000000000000000000000) = e30 from rfl)) ?_
  rintro _ v12 ⟨rfl, K8, n9, N10, S, qn9, qN10, hK, hC⟩
  refine ⟨_, rfl, ?_⟩
  replace U := U.op S hK hC
  clear S hK hC
  refine gl_nil ?_
  refine ge_then ?_
  refine gc_fr [(6, .int .i64 0), (7, .int .i64 0)] (by kernel_rfl) ?_
  refine gc_seq ?_
  refine gc_reg ?_
  refine t 18 (.int .i64 0) ?_
  refine t 6 (.int .i64 0) ?_
  refine gl_nil ?_
  refine ge_then ?_
  refine gc_ret ?_
  refine ge_ret (.int .i64 0) (rs1 6 (by kernel_rfl) (by kernel_rfl)) ?_
  exact ⟨_, _, _, rfl, U.ta.sx, by omega, by omega, U.ta.km, U.ta.cc⟩
end Fo
end Go.Proofs.YtgdohcdlkonhiaaGreatDoor
