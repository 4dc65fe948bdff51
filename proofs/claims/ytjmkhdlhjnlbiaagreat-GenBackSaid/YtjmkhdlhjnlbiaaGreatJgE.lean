/- Several texts, joined: GnH. -/
import Derived.Test.YtjmkhdlhjnlbiaaGreatJgD
namespace Go.Proofs.YtjmkhdlhjnlbiaaGreat
namespace Fo
open Go.RowKit Go.Lib Pg Lim Gl Kv Bk Pw Sd Di
attribute [local go_sem] Oper.semAt_some
set_option maxRecDepth 100000
set_option linter.unusedVariables false
set_option linter.unusedSimpArgs false
set_option maxHeartbeats 4000000
def e4 : Ents := referE e3 16 0
def e5 : Ents := moveE e4 16 3 10
def e6 : Ents := closeE e5 16 1 0 0
def e7 : Ents := plE e6 (0 + 0)
def e8 : Ents := put e7 (Ky.mk 10 10 16) []
def e9 : Ents := referE e8 16 1
def e10 : Ents := put e9 (Ky.mk 6 16 16) (dv 10000000000000000000000000000000000000 1 10000000000000000000000000000000000000)
def e11 : Ents := put e10 (Ky.mk 16 16 16) []
def e12 : Ents := put e11 (Ky.mk 5 16 0) (vv 500 10 10000000000000000000000000000000000000 false 0 false 2 0 0 0)
theorem house_t {w : World} {i j rt tk un pe dp : Int} {jl he : Bool} {a0 : Option Addr} {n0 c0 : Nat} {a1 : Option Addr} {n1 c1 : Nat} {a2 : Option Addr} {n2 c2 : Nat} {a3 : Option Addr} {n3 c3 : Nat} {a4 : Option Addr} {n4 c4 : Nat} {a5 : Option Addr} {n5 c5 : Nat} : Calls Tryz.prog 130 #[.agg #[.int .u64 i, .int .u64 j, .int .u64 rt, .int .u64 tk, .slice a0 n0 c0, .bool jl, .int .u64 un, .bool true, .int .u64 pe, .slice a1 n1 c1, .slice a2 n2 c2, .slice a3 n3 c3, .slice a4 n4 c4, .int .u64 dp, .slice a5 n5 c5, .bool he]] w fun e w' => e = .returned (.int .u64 2) ∧ Below w.heap.size w w' := by
  have BB := Below.refl w.heap.size w
  refine gc_enter (n := 6) Tryz.func130 rfl (by kernel_rfl) (by kernel_rfl) ?_
  refine gc_seq ?_
  refine gc_reg ?_
  refine ta 1 [.int .u64 i, .int .u64 j, .int .u64 rt, .int .u64 tk, .slice a0 n0 c0, .bool jl, .int .u64 un, .bool true, .int .u64 pe, .slice a1 n1 c1, .slice a2 n2 c2, .slice a3 n3 c3, .slice a4 n4 c4, .int .u64 dp, .slice a5 n5 c5, .bool he] 169 (pg) ?_
  intro v1 g2 Xg2 hg2 B
  replace BB := joinB BB B
  clear B
  refine t 2 (.int .u64 0) ?_
  refine gl_nil ?_
  refine ge_then ?_
  refine gc_seq ?_
  refine gc_seq ?_
  refine gc_reg ?_
  refine t 3 (pq g2 2) ?_
  refine t 4 (pq g2 7) ?_
  refine tl 5 (.bool true) Xg2 7 ?_
  refine gl_nil ?_
  refine ge_then ?_
  refine gc_yes ?_
  refine gc_seq ?_
  refine gc_reg ?_
  refine t 2 (.int .u64 2) ?_
  refine gl_nil ?_
  refine ge_then ?_
  refine gc_ret ?_
  refine ge_tr ?_
  refine ge_ret (.int .u64 2) (rs1 2 (by kernel_rfl) (by kernel_rfl)) ?_
  exact ⟨rfl, BB⟩
theorem house_f {w : World} {i j rt tk un pe dp : Int} {jl he : Bool} {a0 : Option Addr} {n0 c0 : Nat} {a1 : Option Addr} {n1 c1 : Nat} {a2 : Option Addr} {n2 c2 : Nat} {a3 : Option Addr} {n3 c3 : Nat} {a4 : Option Addr} {n4 c4 : Nat} {a5 : Option Addr} {n5 c5 : Nat} : Calls Tryz.prog 130 #[.agg #[.int .u64 i, .int .u64 j, .int .u64 rt, .int .u64 tk, .slice a0 n0 c0, .bool jl, .int .u64 un, .bool false, .int .u64 pe, .slice a1 n1 c1, .slice a2 n2 c2, .slice a3 n3 c3, .slice a4 n4 c4, .int .u64 dp, .slice a5 n5 c5, .bool he]] w fun e w' => e = .returned (.int .u64 3) ∧ Below w.heap.size w w' := by
  have BB := Below.refl w.heap.size w
  refine gc_enter (n := 6) Tryz.func130 rfl (by kernel_rfl) (by kernel_rfl) ?_
  refine gc_seq ?_
  refine gc_reg ?_
  refine ta 1 [.int .u64 i, .int .u64 j, .int .u64 rt, .int .u64 tk, .slice a0 n0 c0, .bool jl, .int .u64 un, .bool false, .int .u64 pe, .slice a1 n1 c1, .slice a2 n2 c2, .slice a3 n3 c3, .slice a4 n4 c4, .int .u64 dp, .slice a5 n5 c5, .bool he] 169 (pg) ?_
  intro v1 g2 Xg2 hg2 B
  replace BB := joinB BB B
  clear B
  refine t 2 (.int .u64 0) ?_
  refine gl_nil ?_
  refine ge_then ?_
  refine gc_seq ?_
  refine gc_seq ?_
  refine gc_reg ?_
  refine t 3 (pq g2 2) ?_
  refine t 4 (pq g2 7) ?_
  refine tl 5 (.bool false) Xg2 7 ?_
  refine gl_nil ?_
  refine ge_then ?_
  refine gc_no ?_
  refine gc_skip ?_
  refine ge_then ?_
  refine gc_seq ?_
  refine gc_reg ?_
  refine t 2 (.int .u64 3) ?_
  refine gl_nil ?_
  refine ge_then ?_
  refine gc_ret ?_
  refine ge_ret (.int .u64 3) (rs1 2 (by kernel_rfl) (by kernel_rfl)) ?_
  exact ⟨rfl, BB⟩
structure Jgleanstakebondsettle4 where
  b0 : Nat
  b1 : Nat
  a0 : Option Addr
  k0 : Nat
  c0 : Nat
  z0 : Nat
  a1 : Option Addr
  k1 : Nat
  c1 : Nat
  z1 : Nat
  a2 : Option Addr
  k2 : Nat
  c2 : Nat
  z2 : Nat
  a3 : Option Addr
  k3 : Nat
  c3 : Nat
  z3 : Nat
  K : Nat → Prop
  n : Nat
  N : Nat
structure Jgleanstakebondjoin4 where
  a0 : Option Addr
  k0 : Nat
  c0 : Nat
  z0 : Nat
  a1 : Option Addr
  k1 : Nat
  c1 : Nat
  z1 : Nat
  K : Nat → Prop
  n : Nat
  N : Nat
theorem join_l {B : Nat} {w : World} {K : Nat → Prop} {g : Nat} {W : List Ents} {n N : Nat} {a0 : Option Addr} {n0 c0 z0 : Nat} {a2 : Option Addr} {n2 c2 z2 : Nat} {a3 : Option Addr} {n3 c3 z3 : Nat} {a4 : Option Addr} {n4 c4 z4 : Nat} (h : Sx B w K g e5 W n N) (Q0 : Nk w K z0 a0 n0 c0 0) (m0 : n0 ≤ 300) (Q2 : Nk w K z2 a2 n2 c2 0) (m2 : n2 ≤ 300) (Q3 : Nk w K z3 a3 n3 c3 0) (m3 : n3 ≤ 300) (Q4 : Nk w K z4 a4 n4 c4 10000000000000000000000000000000000000) (m4 : n4 ≤ 300) (hn : n ≤ 10000000) (hN : N ≤ 10000000) : Calls Tryz.prog 131 #[.agg #[.int .u64 16, .int .u64 16, .int .u64 500, .int .u64 0, .slice a0 n0 c0, .bool false, .int .u64 0, .bool false, .int .u64 1, .slice none 0 0, .slice a2 n2 c2, .slice a3 n3 c3, .slice none 0 0, .int .u64 0, .slice none 0 0, .bool false], pg g, .int .u64 10, .agg #[.slice a4 n4 c4]] w (fun e w' => ∃ b0 k0 d0 y0 b1 k1 d1 y1 K' n' N', e = .returned (.agg #[.int .u64 16, .int .u64 16, .int .u64 0, .slice none 0 0, .slice b0 k0 d0, .slice b1 k1 d1, .int .u64 10]) ∧ Sx B w' K' g e12 W n' N' ∧ n' ≤ n + 3000 ∧ N' ≤ N + 3000 ∧ (∀ b, K' b → K b ∨ w.heap.size ≤ b) ∧ Chg K w w' ∧ Nq w' K' y0 b0 k0 d0 10000000000000000000000000000000000000 ∧ k0 ≤ 20000 ∧ (k0 = 0 ∨ w.heap.size ≤ y0) ∧ Nq w' K' y1 b1 k1 d1 10000000000000000000000000000000000000 ∧ k1 ≤ 20000 ∧ (k1 = 0 ∨ w.heap.size ≤ y1)) := by
  have U := ut_of h
  refine gc_enter (n := 54) Tryz.func131 rfl (by kernel_rfl) (by kernel_rfl) ?_
  refine gc_seq ?_
  refine gc_reg ?_
  refine ta 4 [.int .u64 16, .int .u64 16, .int .u64 500, .int .u64 0, .slice a0 n0 c0, .bool false, .int .u64 0, .bool false, .int .u64 1, .slice none 0 0, .slice a2 n2 c2, .slice a3 n3 c3, .slice none 0 0, .int .u64 0, .slice none 0 0, .bool false] 169 (pg) ?_
  intro v1 g2 Xg2 hg2 B
  replace U := U.new Xg2 hg2 B
  clear Xg2 hg2 B
  refine ta 7 [.slice a4 n4 c4] 51 (pg) ?_
  intro v3 g4 Xg4 hg4 B
  replace U := U.new Xg4 hg4 B
  clear Xg4 hg4 B
  refine ta 8 [.int .u64 0, .int .u64 0, .int .u64 0, .slice none 0 0, .slice none 0 0, .slice none 0 0, .int .u64 0] 171 (pg) ?_
  intro v5 g6 Xg6 hg6 B
  replace U := U.new Xg6 hg6 B
  clear Xg6 hg6 B
  refine gl_nil ?_
  refine ge_then ?_
  refine gc_seq ?_
  refine gc_reg ?_
  refine t 11 (pq g2 2) ?_
  refine tlr 12 [.int .u64 500, .int .u64 0, .slice a0 n0 c0, .bool false, .int .u64 0, .bool false, .int .u64 1, .slice none 0 0, .slice a2 n2 c2, .slice a3 n3 c3] (U.bk 2 rfl) 2 ?_
  refine ta 9 [.int .u64 0, .int .u64 0, .slice none 0 0, .bool false, .int .u64 0, .bool false, .int .u64 0, .slice none 0 0, .slice none 0 0, .slice none 0 0] 53 (pg) ?_
  intro v7 g8 Xg8 hg8 B
  replace U := U.new Xg8 hg8 B
  clear Xg8 hg8 B
  refine ts (U.bk 0 rfl) 0 (.agg #[.int .u64 500, .int .u64 0, .slice a0 n0 c0, .bool false, .int .u64 0, .bool false, .int .u64 1, .slice none 0 0, .slice a2 n2 c2, .slice a3 n3 c3]) [.int .u64 500, .int .u64 0, .slice a0 n0 c0, .bool false, .int .u64 0, .bool false, .int .u64 1, .slice none 0 0, .slice a2 n2 c2, .slice a3 n3 c3] [.int .u64 500, .int .u64 0, .slice a0 n0 c0, .bool false, .int .u64 0, .bool false, .int .u64 1, .slice none 0 0, .slice a2 n2 c2, .slice a3 n3 c3] ?_
  intro v9 Y C
  replace U := U.put 0 rfl C Y (by decide)
  clear Y C
  refine gl_nil ?_
  refine ge_then ?_
  refine gc_seq ?_
  refine gc_reg ?_
  refine t 13 (pg g) ?_
  have HC : Calls Tryz.prog 174 #[pg g2, pg g] v9 (fun e w' => ∃ j85_a0 j85_k0 j85_c0 j85_z0 j85_a1 j85_k1 j85_c1 j85_z1 j85_a3 j85_k3 j85_c3 j85_z3 K' n' N', e = .returned (.agg #[.int .u64 16, .int .u64 16, .int .u64 0, .slice none 0 0, .slice none 0 0, .slice none 0 0, .int .u64 0]) ∧ Ut w K B g W w' K' e7 n' N' [(g8, [.int .u64 500, .int .u64 0, .slice a0 n0 c0, .bool false, .int .u64 0, .bool false, .int .u64 1, .slice none 0 0, .slice a2 n2 c2, .slice a3 n3 c3], 53), (g6, [.int .u64 0, .int .u64 0, .int .u64 0, .slice none 0 0, .slice none 0 0, .slice none 0 0, .int .u64 0], 171), (g4, [.slice a4 n4 c4], 51), (g2, [.int .u64 16, .int .u64 16, .int .u64 500, .int .u64 0, .slice j85_a3 j85_k3 j85_c3, .bool false, .int .u64 0, .bool false, .int .u64 2, .slice none 0 0, .slice j85_a1 j85_k1 j85_c1, .slice j85_a0 j85_k0 j85_c0, .slice none 0 0, .int .u64 0, .slice none 0 0, .bool false], 169)] [(j85_z0, j85_a0, j85_k0, j85_c0, 0), (j85_z1, j85_a1, j85_k1, j85_c1, 0), (j85_z3, j85_a3, j85_k3, j85_c3, 0)] ∧ (n' ≤ n + 450 ∧ N' ≤ N + 450) ∧ (j85_k0 ≤ 2200 ∧ (j85_k0 = 0 ∨ w.heap.size ≤ j85_z0)) ∧ (j85_k1 ≤ 2200 ∧ (j85_k1 = 0 ∨ w.heap.size ≤ j85_z1)) ∧ (j85_k3 ≤ 2200 ∧ (j85_k3 = 0 ∨ w.heap.size ≤ j85_z3))) := by
    refine gc_enter (n := 61) Tryz.func174 rfl (by kernel_rfl) (by kernel_rfl) ?_
    refine gc_seq ?_
    refine gc_reg ?_
    refine ta 4 [.int .u64 0, .int .u64 0, .int .u64 0, .slice none 0 0, .slice none 0 0, .slice none 0 0, .int .u64 0] 171 (pg) ?_
    intro v10 g11 Xg11 hg11 B
    replace U := U.new Xg11 hg11 B
    clear Xg11 hg11 B
    refine gl_nil ?_
    refine ge_then ?_
    refine gc_seq ?_
    refine gc_seq ?_
    refine gc_reg ?_
    refine t 7 (pg g2) ?_
    refine t 8 (pg g2) ?_
    refine t 9 (pq g2 15) ?_
    refine tl 10 (.bool false) (U.bk 4 rfl) 15 ?_
    refine gl_nil ?_
    refine ge_then ?_
    refine gc_no ?_
    refine gc_skip ?_
    refine ge_then ?_
    refine gc_join (fun (s : Jgleanstakebondsettle4) => [(0, pg g2), (1, pg g), (4, pg g11), (5, pg s.b1), (6, pg s.b0)]) (fun s w' => Ut w K B g W w' s.K e6 s.n s.N [(s.b0, [.slice s.a2 s.k2 s.c2], 51), (s.b1, [.int .u64 500, .int .u64 0, .slice s.a3 s.k3 s.c3, .bool false, .int .u64 0, .bool false, .int .u64 2, .slice none 0 0, .slice s.a1 s.k1 s.c1, .slice s.a0 s.k0 s.c0], 53), (g11, [.int .u64 0, .int .u64 0, .int .u64 0, .slice none 0 0, .slice none 0 0, .slice none 0 0, .int .u64 0], 171), (g8, [.int .u64 500, .int .u64 0, .slice a0 n0 c0, .bool false, .int .u64 0, .bool false, .int .u64 1, .slice none 0 0, .slice a2 n2 c2, .slice a3 n3 c3], 53), (g6, [.int .u64 0, .int .u64 0, .int .u64 0, .slice none 0 0, .slice none 0 0, .slice none 0 0, .int .u64 0], 171), (g4, [.slice a4 n4 c4], 51), (g2, [.int .u64 16, .int .u64 16, .int .u64 500, .int .u64 0, .slice a0 n0 c0, .bool false, .int .u64 0, .bool false, .int .u64 1, .slice none 0 0, .slice a2 n2 c2, .slice a3 n3 c3, .slice none 0 0, .int .u64 0, .slice none 0 0, .bool false], 169)] [(s.z0, s.a0, s.k0, s.c0, 0), (s.z1, s.a1, s.k1, s.c1, 0), (s.z2, s.a2, s.k2, s.c2, 0), (s.z3, s.a3, s.k3, s.c3, 0)] ∧ (s.n ≤ n + 350 ∧ s.N ≤ N + 350) ∧ (s.k0 ≤ 350 ∧ (s.k0 = 0 ∨ w.heap.size ≤ s.z0)) ∧ (s.k1 ≤ 350 ∧ (s.k1 = 0 ∨ w.heap.size ≤ s.z1)) ∧ (s.k2 ≤ 350 ∧ (s.k2 = 0 ∨ w.heap.size ≤ s.z2)) ∧ (s.k3 ≤ 350 ∧ (s.k3 = 0 ∨ w.heap.size ≤ s.z3))) ?_ ?_
    · replace U := U.drew
      refine gc_draw (fun w' => Blk w' g2 [.int .u64 16, .int .u64 16, .int .u64 500, .int .u64 0, .slice a0 n0 c0, .bool false, .int .u64 0, .bool false, .int .u64 1, .slice none 0 0, .slice a2 n2 c2, .slice a3 n3 c3, .slice none 0 0, .int .u64 0, .slice none 0 0, .bool false] 169) (fun _ => false) (U.bk 4 rfl) ?_
      refine z 0 33 (pg g) ?_
      refine z 1 34 (pg g2) ?_
      refine z 2 35 (pg g2) ?_
      refine z 3 36 (pg g2) ?_
      refine zl 4 37 (.int .u64 16) (fun _ h => h) 0 ?_
      refine z 5 38 (pg g2) ?_
      refine z 6 39 (pg g2) ?_
      refine z 7 40 (pq g2 2) ?_
      refine zlr 8 41 [.int .u64 500, .int .u64 0, .slice a0 n0 c0, .bool false, .int .u64 0, .bool false, .int .u64 1, .slice none 0 0, .slice a2 n2 c2, .slice a3 n3 c3] (fun _ h => h) 2 ?_
      refine gz_ready [9, 13, 14] ?_
      refine ga_call 9 (some 42) 219 #[pg g, .int .u64 16, .agg #[.int .u64 500, .int .u64 0, .slice a0 n0 c0, .bool false, .int .u64 0, .bool false, .int .u64 1, .slice none 0 0, .slice a2 n2 c2, .slice a3 n3 c3]] (ClE.cast (E' := e6) (pq := 2) (close_any U.ta.sx ⟨by decide, by decide⟩ ⟨by decide, by decide⟩ (Q0.op U.ta.km U.ta.cc) (by omega) (nq_nil _ _).nk (by omega) (Q2.op U.ta.km U.ta.cc) (by omega) (Q3.op U.ta.km U.ta.cc) (by omega) (by omega) (by omega)) (by decide) rfl) ?_ ?_
      · rintro _ v19 ⟨aq12, nq12, cq12, zq12, aq13, nq13, cq13, zq13, aq14, nq14, cq14, zq14, aq15, nq15, cq15, zq15, K16, n17, N18, rfl, S, qn17, qN18, hK, hC, Q0, mq12, h0, Q1, mq13, h1, Q2, mq14, h2, Q3, mq15, h3⟩
        have fq12 := ne3 h0 U.ta.size
        have fq13 := ne3 h1 U.ta.size
        have fq14 := ne3 h2 U.ta.size
        have fq15 := ne3 h3 U.ta.size
        have L := U.lt
        replace U := ((((U.op S hK hC).add L Q0 h0).add L Q1 h1).add L Q2 h2).add L Q3 h3
        clear L S hK hC Q0 h0 Q1 h1 Q2 h2 Q3 h3
        replace U := U.val 3 rfl (show _ = (0 : Int) by decide +kernel)
        replace U := U.val 2 rfl (show _ = (0 : Int) by decide +kernel)
        replace U := U.val 1 rfl (show _ = (0 : Int) by decide +kernel)
        replace U := U.val 0 rfl (show _ = (0 : Int) by decide +kernel)
        refine ⟨_, rfl, (U.bk 4 rfl), ?_⟩
        refine z 10 32 (.tuple #[.agg #[.int .u64 500, .int .u64 0, .slice aq12 nq12 cq12, .bool false, .int .u64 0, .bool false, .int .u64 2, .slice none 0 0, .slice aq14 nq14 cq14, .slice aq15 nq15 cq15], .agg #[.slice aq13 nq13 cq13]]) ?_
        refine z 11 43 (.agg #[.int .u64 500, .int .u64 0, .slice aq12 nq12 cq12, .bool false, .int .u64 0, .bool false, .int .u64 2, .slice none 0 0, .slice aq14 nq14 cq14, .slice aq15 nq15 cq15]) ?_
        refine z 12 44 (.agg #[.slice aq13 nq13 cq13]) ?_
        refine gz_ready [13, 14] ?_
        refine zaa 13 5 [.int .u64 0, .int .u64 0, .slice none 0 0, .bool false, .int .u64 0, .bool false, .int .u64 0, .slice none 0 0, .slice none 0 0, .slice none 0 0] 53 (pg) ?_ ?_
        · intro v20 g21 Xg21 hg21 B
          replace U := U.new Xg21 hg21 B
          clear Xg21 hg21 B
          refine ⟨(U.bk 5 rfl), ?_⟩
          refine za 14 6 [.slice none 0 0] 51 (pg) ?_
          intro v22 g23 Xg23 hg23 B
          replace U := U.new Xg23 hg23 B
          clear Xg23 hg23 B
          refine ⟨(U.bk 6 rfl), ?_⟩
          refine zs 15 (U.bk 1 rfl) 0 (.agg #[.int .u64 500, .int .u64 0, .slice aq12 nq12 cq12, .bool false, .int .u64 0, .bool false, .int .u64 2, .slice none 0 0, .slice aq14 nq14 cq14, .slice aq15 nq15 cq15]) [.int .u64 500, .int .u64 0, .slice aq12 nq12 cq12, .bool false, .int .u64 0, .bool false, .int .u64 2, .slice none 0 0, .slice aq14 nq14 cq14, .slice aq15 nq15 cq15] [.int .u64 500, .int .u64 0, .slice aq12 nq12 cq12, .bool false, .int .u64 0, .bool false, .int .u64 2, .slice none 0 0, .slice aq14 nq14 cq14, .slice aq15 nq15 cq15] ?_
          intro v24 Y C
          replace U := U.put 1 rfl C Y (by decide)
          clear Y C
          refine ⟨(U.bk 6 rfl), ?_⟩
          refine zs 16 (U.bk 0 rfl) 0 (.agg #[.slice aq13 nq13 cq13]) [.slice aq13 nq13 cq13] [.slice aq13 nq13 cq13] ?_
          intro v25 Y C
          replace U := U.put 0 rfl C Y (by decide)
          clear Y C
          refine ⟨(U.bk 6 rfl), ?_⟩
          refine gz_done ?_
          exact ge_join (⟨g23, g21, aq15, nq15, cq15, zq15, aq14, nq14, cq14, zq14, aq13, nq13, cq13, zq13, aq12, nq12, cq12, zq12, _, _, _⟩ : Jgleanstakebondsettle4) ⟨U.sel [0, 1, 2, 3, 4, 5, 6] [0, 1, 2, 3], ⟨by (try dsimp only); omega, by (try dsimp only); omega⟩, ⟨by (try dsimp only); omega, fq15⟩, ⟨by (try dsimp only); omega, fq14⟩, ⟨by (try dsimp only); omega, fq13⟩, ⟨by (try dsimp only); omega, fq12⟩⟩ (by kernel_rfl)
        refine zaa 14 6 [.slice none 0 0] 51 (pg) ?_ ?_
        · intro v26 g27 Xg27 hg27 B
          replace U := U.new Xg27 hg27 B
          clear Xg27 hg27 B
          refine ⟨(U.bk 5 rfl), ?_⟩
          refine za 13 5 [.int .u64 0, .int .u64 0, .slice none 0 0, .bool false, .int .u64 0, .bool false, .int .u64 0, .slice none 0 0, .slice none 0 0, .slice none 0 0] 53 (pg) ?_
          intro v28 g29 Xg29 hg29 B
          replace U := U.new Xg29 hg29 B
          clear Xg29 hg29 B
          refine ⟨(U.bk 6 rfl), ?_⟩
          refine zs 15 (U.bk 0 rfl) 0 (.agg #[.int .u64 500, .int .u64 0, .slice aq12 nq12 cq12, .bool false, .int .u64 0, .bool false, .int .u64 2, .slice none 0 0, .slice aq14 nq14 cq14, .slice aq15 nq15 cq15]) [.int .u64 500, .int .u64 0, .slice aq12 nq12 cq12, .bool false, .int .u64 0, .bool false, .int .u64 2, .slice none 0 0, .slice aq14 nq14 cq14, .slice aq15 nq15 cq15] [.int .u64 500, .int .u64 0, .slice aq12 nq12 cq12, .bool false, .int .u64 0, .bool false, .int .u64 2, .slice none 0 0, .slice aq14 nq14 cq14, .slice aq15 nq15 cq15] ?_
          intro v30 Y C
          replace U := U.put 0 rfl C Y (by decide)
          clear Y C
          refine ⟨(U.bk 6 rfl), ?_⟩
          refine zs 16 (U.bk 1 rfl) 0 (.agg #[.slice aq13 nq13 cq13]) [.slice aq13 nq13 cq13] [.slice aq13 nq13 cq13] ?_
          intro v31 Y C
          replace U := U.put 1 rfl C Y (by decide)
          clear Y C
          refine ⟨(U.bk 6 rfl), ?_⟩
          refine gz_done ?_
          exact ge_join (⟨g27, g29, aq15, nq15, cq15, zq15, aq14, nq14, cq14, zq14, aq13, nq13, cq13, zq13, aq12, nq12, cq12, zq12, _, _, _⟩ : Jgleanstakebondsettle4) ⟨U.sel [1, 0, 2, 3, 4, 5, 6] [0, 1, 2, 3], ⟨by (try dsimp only); omega, by (try dsimp only); omega⟩, ⟨by (try dsimp only); omega, fq15⟩, ⟨by (try dsimp only); omega, fq14⟩, ⟨by (try dsimp only); omega, fq13⟩, ⟨by (try dsimp only); omega, fq12⟩⟩ (by kernel_rfl)
        exact ga_nil
      refine zaa 13 5 [.int .u64 0, .int .u64 0, .slice none 0 0, .bool false, .int .u64 0, .bool false, .int .u64 0, .slice none 0 0, .slice none 0 0, .slice none 0 0] 53 (pg) ?_ ?_
      · intro v32 g33 Xg33 hg33 B
        replace U := U.new Xg33 hg33 B
        clear Xg33 hg33 B
        refine ⟨(U.bk 5 rfl), ?_⟩
        refine gz_ready [9, 14] ?_
        refine ga_call 9 (some 42) 219 #[pg g, .int .u64 16, .agg #[.int .u64 500, .int .u64 0, .slice a0 n0 c0, .bool false, .int .u64 0, .bool false, .int .u64 1, .slice none 0 0, .slice a2 n2 c2, .slice a3 n3 c3]] (ClE.cast (E' := e6) (pq := 2) (close_any U.ta.sx ⟨by decide, by decide⟩ ⟨by decide, by decide⟩ (Q0.op U.ta.km U.ta.cc) (by omega) (nq_nil _ _).nk (by omega) (Q2.op U.ta.km U.ta.cc) (by omega) (Q3.op U.ta.km U.ta.cc) (by omega) (by omega) (by omega)) (by decide) rfl) ?_ ?_
        · rintro _ v41 ⟨aq34, nq34, cq34, zq34, aq35, nq35, cq35, zq35, aq36, nq36, cq36, zq36, aq37, nq37, cq37, zq37, K38, n39, N40, rfl, S, qn39, qN40, hK, hC, Q0, mq34, h0, Q1, mq35, h1, Q2, mq36, h2, Q3, mq37, h3⟩
          have fq34 := ne3 h0 U.ta.size
          have fq35 := ne3 h1 U.ta.size
          have fq36 := ne3 h2 U.ta.size
          have fq37 := ne3 h3 U.ta.size
          have L := U.lt
          replace U := ((((U.op S hK hC).add L Q0 h0).add L Q1 h1).add L Q2 h2).add L Q3 h3
          clear L S hK hC Q0 h0 Q1 h1 Q2 h2 Q3 h3
          replace U := U.val 3 rfl (show _ = (0 : Int) by decide +kernel)
          replace U := U.val 2 rfl (show _ = (0 : Int) by decide +kernel)
          replace U := U.val 1 rfl (show _ = (0 : Int) by decide +kernel)
          replace U := U.val 0 rfl (show _ = (0 : Int) by decide +kernel)
          refine ⟨_, rfl, (U.bk 5 rfl), ?_⟩
          refine z 10 32 (.tuple #[.agg #[.int .u64 500, .int .u64 0, .slice aq34 nq34 cq34, .bool false, .int .u64 0, .bool false, .int .u64 2, .slice none 0 0, .slice aq36 nq36 cq36, .slice aq37 nq37 cq37], .agg #[.slice aq35 nq35 cq35]]) ?_
          refine z 11 43 (.agg #[.int .u64 500, .int .u64 0, .slice aq34 nq34 cq34, .bool false, .int .u64 0, .bool false, .int .u64 2, .slice none 0 0, .slice aq36 nq36 cq36, .slice aq37 nq37 cq37]) ?_
          refine z 12 44 (.agg #[.slice aq35 nq35 cq35]) ?_
          refine za 14 6 [.slice none 0 0] 51 (pg) ?_
          intro v42 g43 Xg43 hg43 B
          replace U := U.new Xg43 hg43 B
          clear Xg43 hg43 B
          refine ⟨(U.bk 6 rfl), ?_⟩
          refine zs 15 (U.bk 1 rfl) 0 (.agg #[.int .u64 500, .int .u64 0, .slice aq34 nq34 cq34, .bool false, .int .u64 0, .bool false, .int .u64 2, .slice none 0 0, .slice aq36 nq36 cq36, .slice aq37 nq37 cq37]) [.int .u64 500, .int .u64 0, .slice aq34 nq34 cq34, .bool false, .int .u64 0, .bool false, .int .u64 2, .slice none 0 0, .slice aq36 nq36 cq36, .slice aq37 nq37 cq37] [.int .u64 500, .int .u64 0, .slice aq34 nq34 cq34, .bool false, .int .u64 0, .bool false, .int .u64 2, .slice none 0 0, .slice aq36 nq36 cq36, .slice aq37 nq37 cq37] ?_
          intro v44 Y C
          replace U := U.put 1 rfl C Y (by decide)
          clear Y C
          refine ⟨(U.bk 6 rfl), ?_⟩
          refine zs 16 (U.bk 0 rfl) 0 (.agg #[.slice aq35 nq35 cq35]) [.slice aq35 nq35 cq35] [.slice aq35 nq35 cq35] ?_
          intro v45 Y C
          replace U := U.put 0 rfl C Y (by decide)
          clear Y C
          refine ⟨(U.bk 6 rfl), ?_⟩
          refine gz_done ?_
          exact ge_join (⟨g43, g33, aq37, nq37, cq37, zq37, aq36, nq36, cq36, zq36, aq35, nq35, cq35, zq35, aq34, nq34, cq34, zq34, _, _, _⟩ : Jgleanstakebondsettle4) ⟨U.sel [0, 1, 2, 3, 4, 5, 6] [0, 1, 2, 3], ⟨by (try dsimp only); omega, by (try dsimp only); omega⟩, ⟨by (try dsimp only); omega, fq37⟩, ⟨by (try dsimp only); omega, fq36⟩, ⟨by (try dsimp only); omega, fq35⟩, ⟨by (try dsimp only); omega, fq34⟩⟩ (by kernel_rfl)
        refine zaa 14 6 [.slice none 0 0] 51 (pg) ?_ ?_
        · intro v46 g47 Xg47 hg47 B
          replace U := U.new Xg47 hg47 B
          clear Xg47 hg47 B
          refine ⟨(U.bk 6 rfl), ?_⟩
          refine zc 9 42 219 #[pg g, .int .u64 16, .agg #[.int .u64 500, .int .u64 0, .slice a0 n0 c0, .bool false, .int .u64 0, .bool false, .int .u64 1, .slice none 0 0, .slice a2 n2 c2, .slice a3 n3 c3]] (ClE.cast (E' := e6) (pq := 2) (close_any U.ta.sx ⟨by decide, by decide⟩ ⟨by decide, by decide⟩ (Q0.op U.ta.km U.ta.cc) (by omega) (nq_nil _ _).nk (by omega) (Q2.op U.ta.km U.ta.cc) (by omega) (Q3.op U.ta.km U.ta.cc) (by omega) (by omega) (by omega)) (by decide) rfl) ?_
          rintro _ v55 ⟨aq48, nq48, cq48, zq48, aq49, nq49, cq49, zq49, aq50, nq50, cq50, zq50, aq51, nq51, cq51, zq51, K52, n53, N54, rfl, S, qn53, qN54, hK, hC, Q0, mq48, h0, Q1, mq49, h1, Q2, mq50, h2, Q3, mq51, h3⟩
          have fq48 := ne3 h0 U.ta.size
          have fq49 := ne3 h1 U.ta.size
          have fq50 := ne3 h2 U.ta.size
          have fq51 := ne3 h3 U.ta.size
          have L := U.lt
          replace U := ((((U.op S hK hC).add L Q0 h0).add L Q1 h1).add L Q2 h2).add L Q3 h3
          clear L S hK hC Q0 h0 Q1 h1 Q2 h2 Q3 h3
          replace U := U.val 3 rfl (show _ = (0 : Int) by decide +kernel)
          replace U := U.val 2 rfl (show _ = (0 : Int) by decide +kernel)
          replace U := U.val 1 rfl (show _ = (0 : Int) by decide +kernel)
          replace U := U.val 0 rfl (show _ = (0 : Int) by decide +kernel)
          refine ⟨_, rfl, (U.bk 6 rfl), ?_⟩
          refine z 10 32 (.tuple #[.agg #[.int .u64 500, .int .u64 0, .slice aq48 nq48 cq48, .bool false, .int .u64 0, .bool false, .int .u64 2, .slice none 0 0, .slice aq50 nq50 cq50, .slice aq51 nq51 cq51], .agg #[.slice aq49 nq49 cq49]]) ?_
          refine z 11 43 (.agg #[.int .u64 500, .int .u64 0, .slice aq48 nq48 cq48, .bool false, .int .u64 0, .bool false, .int .u64 2, .slice none 0 0, .slice aq50 nq50 cq50, .slice aq51 nq51 cq51]) ?_
          refine z 12 44 (.agg #[.slice aq49 nq49 cq49]) ?_
          refine zs 15 (U.bk 1 rfl) 0 (.agg #[.int .u64 500, .int .u64 0, .slice aq48 nq48 cq48, .bool false, .int .u64 0, .bool false, .int .u64 2, .slice none 0 0, .slice aq50 nq50 cq50, .slice aq51 nq51 cq51]) [.int .u64 500, .int .u64 0, .slice aq48 nq48 cq48, .bool false, .int .u64 0, .bool false, .int .u64 2, .slice none 0 0, .slice aq50 nq50 cq50, .slice aq51 nq51 cq51] [.int .u64 500, .int .u64 0, .slice aq48 nq48 cq48, .bool false, .int .u64 0, .bool false, .int .u64 2, .slice none 0 0, .slice aq50 nq50 cq50, .slice aq51 nq51 cq51] ?_
          intro v56 Y C
          replace U := U.put 1 rfl C Y (by decide)
          clear Y C
          refine ⟨(U.bk 6 rfl), ?_⟩
          refine zs 16 (U.bk 0 rfl) 0 (.agg #[.slice aq49 nq49 cq49]) [.slice aq49 nq49 cq49] [.slice aq49 nq49 cq49] ?_
          intro v57 Y C
          replace U := U.put 0 rfl C Y (by decide)
          clear Y C
          refine ⟨(U.bk 6 rfl), ?_⟩
          refine gz_done ?_
          exact ge_join (⟨g47, g33, aq51, nq51, cq51, zq51, aq50, nq50, cq50, zq50, aq49, nq49, cq49, zq49, aq48, nq48, cq48, zq48, _, _, _⟩ : Jgleanstakebondsettle4) ⟨U.sel [0, 1, 2, 3, 4, 5, 6] [0, 1, 2, 3], ⟨by (try dsimp only); omega, by (try dsimp only); omega⟩, ⟨by (try dsimp only); omega, fq51⟩, ⟨by (try dsimp only); omega, fq50⟩, ⟨by (try dsimp only); omega, fq49⟩, ⟨by (try dsimp only); omega, fq48⟩⟩ (by kernel_rfl)
        exact ga_nil
      refine zaa 14 6 [.slice none 0 0] 51 (pg) ?_ ?_
      · intro v58 g59 Xg59 hg59 B
        replace U := U.new Xg59 hg59 B
        clear Xg59 hg59 B
        refine ⟨(U.bk 5 rfl), ?_⟩
        refine gz_ready [9, 13] ?_
        refine ga_call 9 (some 42) 219 #[pg g, .int .u64 16, .agg #[.int .u64 500, .int .u64 0, .slice a0 n0 c0, .bool false, .int .u64 0, .bool false, .int .u64 1, .slice none 0 0, .slice a2 n2 c2, .slice a3 n3 c3]] (ClE.cast (E' := e6) (pq := 2) (close_any U.ta.sx ⟨by decide, by decide⟩ ⟨by decide, by decide⟩ (Q0.op U.ta.km U.ta.cc) (by omega) (nq_nil _ _).nk (by omega) (Q2.op U.ta.km U.ta.cc) (by omega) (Q3.op U.ta.km U.ta.cc) (by omega) (by omega) (by omega)) (by decide) rfl) ?_ ?_
        · rintro _ v67 ⟨aq60, nq60, cq60, zq60, aq61, nq61, cq61, zq61, aq62, nq62, cq62, zq62, aq63, nq63, cq63, zq63, K64, n65, N66, rfl, S, qn65, qN66, hK, hC, Q0, mq60, h0, Q1, mq61, h1, Q2, mq62, h2, Q3, mq63, h3⟩
          have fq60 := ne3 h0 U.ta.size
          have fq61 := ne3 h1 U.ta.size
          have fq62 := ne3 h2 U.ta.size
          have fq63 := ne3 h3 U.ta.size
          have L := U.lt
          replace U := ((((U.op S hK hC).add L Q0 h0).add L Q1 h1).add L Q2 h2).add L Q3 h3
          clear L S hK hC Q0 h0 Q1 h1 Q2 h2 Q3 h3
          replace U := U.val 3 rfl (show _ = (0 : Int) by decide +kernel)
          replace U := U.val 2 rfl (show _ = (0 : Int) by decide +kernel)
          replace U := U.val 1 rfl (show _ = (0 : Int) by decide +kernel)
          replace U := U.val 0 rfl (show _ = (0 : Int) by decide +kernel)
          refine ⟨_, rfl, (U.bk 5 rfl), ?_⟩
          refine z 10 32 (.tuple #[.agg #[.int .u64 500, .int .u64 0, .slice aq60 nq60 cq60, .bool false, .int .u64 0, .bool false, .int .u64 2, .slice none 0 0, .slice aq62 nq62 cq62, .slice aq63 nq63 cq63], .agg #[.slice aq61 nq61 cq61]]) ?_
          refine z 11 43 (.agg #[.int .u64 500, .int .u64 0, .slice aq60 nq60 cq60, .bool false, .int .u64 0, .bool false, .int .u64 2, .slice none 0 0, .slice aq62 nq62 cq62, .slice aq63 nq63 cq63]) ?_
          refine z 12 44 (.agg #[.slice aq61 nq61 cq61]) ?_
          refine za 13 5 [.int .u64 0, .int .u64 0, .slice none 0 0, .bool false, .int .u64 0, .bool false, .int .u64 0, .slice none 0 0, .slice none 0 0, .slice none 0 0] 53 (pg) ?_
          intro v68 g69 Xg69 hg69 B
          replace U := U.new Xg69 hg69 B
          clear Xg69 hg69 B
          refine ⟨(U.bk 6 rfl), ?_⟩
          refine zs 15 (U.bk 0 rfl) 0 (.agg #[.int .u64 500, .int .u64 0, .slice aq60 nq60 cq60, .bool false, .int .u64 0, .bool false, .int .u64 2, .slice none 0 0, .slice aq62 nq62 cq62, .slice aq63 nq63 cq63]) [.int .u64 500, .int .u64 0, .slice aq60 nq60 cq60, .bool false, .int .u64 0, .bool false, .int .u64 2, .slice none 0 0, .slice aq62 nq62 cq62, .slice aq63 nq63 cq63] [.int .u64 500, .int .u64 0, .slice aq60 nq60 cq60, .bool false, .int .u64 0, .bool false, .int .u64 2, .slice none 0 0, .slice aq62 nq62 cq62, .slice aq63 nq63 cq63] ?_
          intro v70 Y C
          replace U := U.put 0 rfl C Y (by decide)
          clear Y C
          refine ⟨(U.bk 6 rfl), ?_⟩
          refine zs 16 (U.bk 1 rfl) 0 (.agg #[.slice aq61 nq61 cq61]) [.slice aq61 nq61 cq61] [.slice aq61 nq61 cq61] ?_
          intro v71 Y C
          replace U := U.put 1 rfl C Y (by decide)
          clear Y C
          refine ⟨(U.bk 6 rfl), ?_⟩
          refine gz_done ?_
          exact ge_join (⟨g59, g69, aq63, nq63, cq63, zq63, aq62, nq62, cq62, zq62, aq61, nq61, cq61, zq61, aq60, nq60, cq60, zq60, _, _, _⟩ : Jgleanstakebondsettle4) ⟨U.sel [1, 0, 2, 3, 4, 5, 6] [0, 1, 2, 3], ⟨by (try dsimp only); omega, by (try dsimp only); omega⟩, ⟨by (try dsimp only); omega, fq63⟩, ⟨by (try dsimp only); omega, fq62⟩, ⟨by (try dsimp only); omega, fq61⟩, ⟨by (try dsimp only); omega, fq60⟩⟩ (by kernel_rfl)
        refine zaa 13 5 [.int .u64 0, .int .u64 0, .slice none 0 0, .bool false, .int .u64 0, .bool false, .int .u64 0, .slice none 0 0, .slice none 0 0, .slice none 0 0] 53 (pg) ?_ ?_
        · intro v72 g73 Xg73 hg73 B
          replace U := U.new Xg73 hg73 B
          clear Xg73 hg73 B
          refine ⟨(U.bk 6 rfl), ?_⟩
          refine zc 9 42 219 #[pg g, .int .u64 16, .agg #[.int .u64 500, .int .u64 0, .slice a0 n0 c0, .bool false, .int .u64 0, .bool false, .int .u64 1, .slice none 0 0, .slice a2 n2 c2, .slice a3 n3 c3]] (ClE.cast (E' := e6) (pq := 2) (close_any U.ta.sx ⟨by decide, by decide⟩ ⟨by decide, by decide⟩ (Q0.op U.ta.km U.ta.cc) (by omega) (nq_nil _ _).nk (by omega) (Q2.op U.ta.km U.ta.cc) (by omega) (Q3.op U.ta.km U.ta.cc) (by omega) (by omega) (by omega)) (by decide) rfl) ?_
          rintro _ v81 ⟨aq74, nq74, cq74, zq74, aq75, nq75, cq75, zq75, aq76, nq76, cq76, zq76, aq77, nq77, cq77, zq77, K78, n79, N80, rfl, S, qn79, qN80, hK, hC, Q0, mq74, h0, Q1, mq75, h1, Q2, mq76, h2, Q3, mq77, h3⟩
          have fq74 := ne3 h0 U.ta.size
          have fq75 := ne3 h1 U.ta.size
          have fq76 := ne3 h2 U.ta.size
          have fq77 := ne3 h3 U.ta.size
          have L := U.lt
          replace U := ((((U.op S hK hC).add L Q0 h0).add L Q1 h1).add L Q2 h2).add L Q3 h3
          clear L S hK hC Q0 h0 Q1 h1 Q2 h2 Q3 h3
          replace U := U.val 3 rfl (show _ = (0 : Int) by decide +kernel)
          replace U := U.val 2 rfl (show _ = (0 : Int) by decide +kernel)
          replace U := U.val 1 rfl (show _ = (0 : Int) by decide +kernel)
          replace U := U.val 0 rfl (show _ = (0 : Int) by decide +kernel)
          refine ⟨_, rfl, (U.bk 6 rfl), ?_⟩
          refine z 10 32 (.tuple #[.agg #[.int .u64 500, .int .u64 0, .slice aq74 nq74 cq74, .bool false, .int .u64 0, .bool false, .int .u64 2, .slice none 0 0, .slice aq76 nq76 cq76, .slice aq77 nq77 cq77], .agg #[.slice aq75 nq75 cq75]]) ?_
          refine z 11 43 (.agg #[.int .u64 500, .int .u64 0, .slice aq74 nq74 cq74, .bool false, .int .u64 0, .bool false, .int .u64 2, .slice none 0 0, .slice aq76 nq76 cq76, .slice aq77 nq77 cq77]) ?_
          refine z 12 44 (.agg #[.slice aq75 nq75 cq75]) ?_
          refine zs 15 (U.bk 0 rfl) 0 (.agg #[.int .u64 500, .int .u64 0, .slice aq74 nq74 cq74, .bool false, .int .u64 0, .bool false, .int .u64 2, .slice none 0 0, .slice aq76 nq76 cq76, .slice aq77 nq77 cq77]) [.int .u64 500, .int .u64 0, .slice aq74 nq74 cq74, .bool false, .int .u64 0, .bool false, .int .u64 2, .slice none 0 0, .slice aq76 nq76 cq76, .slice aq77 nq77 cq77] [.int .u64 500, .int .u64 0, .slice aq74 nq74 cq74, .bool false, .int .u64 0, .bool false, .int .u64 2, .slice none 0 0, .slice aq76 nq76 cq76, .slice aq77 nq77 cq77] ?_
          intro v82 Y C
          replace U := U.put 0 rfl C Y (by decide)
          clear Y C
          refine ⟨(U.bk 6 rfl), ?_⟩
          refine zs 16 (U.bk 1 rfl) 0 (.agg #[.slice aq75 nq75 cq75]) [.slice aq75 nq75 cq75] [.slice aq75 nq75 cq75] ?_
          intro v83 Y C
          replace U := U.put 1 rfl C Y (by decide)
          clear Y C
          refine ⟨(U.bk 6 rfl), ?_⟩
          refine gz_done ?_
          exact ge_join (⟨g59, g73, aq77, nq77, cq77, zq77, aq76, nq76, cq76, zq76, aq75, nq75, cq75, zq75, aq74, nq74, cq74, zq74, _, _, _⟩ : Jgleanstakebondsettle4) ⟨U.sel [1, 0, 2, 3, 4, 5, 6] [0, 1, 2, 3], ⟨by (try dsimp only); omega, by (try dsimp only); omega⟩, ⟨by (try dsimp only); omega, fq77⟩, ⟨by (try dsimp only); omega, fq76⟩, ⟨by (try dsimp only); omega, fq75⟩, ⟨by (try dsimp only); omega, fq74⟩⟩ (by kernel_rfl)
        exact ga_nil
      exact ga_nil
    clear U
    rintro ⟨j85_b0, j85_b1, j85_a0, j85_k0, j85_c0, j85_z0, j85_a1, j85_k1, j85_c1, j85_z1, j85_a2, j85_k2, j85_c2, j85_z2, j85_a3, j85_k3, j85_c3, j85_z3, j85_K, j85_n, j85_N⟩ v84 ⟨U, ⟨j85_hn, j85_hN⟩, ⟨mj85_0, fj85_0⟩, ⟨mj85_1, fj85_1⟩, ⟨mj85_2, fj85_2⟩, ⟨mj85_3, fj85_3⟩⟩
    dsimp only at *
    refine gc_seq ?_
    refine gc_reg ?_
    refine t 45 (pg g) ?_
    refine tlr 46 [.slice j85_a2 j85_k2 j85_c2] (U.bk 0 rfl) 0 ?_
    refine tc 47 220 #[pg g, .agg #[.slice j85_a2 j85_k2 j85_c2]] (SxF.castE (pour_any (p := 0) (er := 80) U.ta.sx (U.nq 2 rfl).nk (by omega) (by decide +kernel) (by omega) (by omega)) (show plE e6 (0 + 0) = e7 from rfl)) ?_
    rintro _ v90 ⟨rfl, K86, n87, N88, S, qn87, qN88, hK, hC⟩
    refine ⟨_, rfl, ?_⟩
    replace U := U.op S hK hC
    clear S hK hC
    refine gl_nil ?_
    refine ge_then ?_
    refine gc_seq ?_
    refine gc_reg ?_
    refine t 48 (pg g2) ?_
    refine tlr 49 [.int .u64 500, .int .u64 0, .slice j85_a3 j85_k3 j85_c3, .bool false, .int .u64 0, .bool false, .int .u64 2, .slice none 0 0, .slice j85_a1 j85_k1 j85_c1, .slice j85_a0 j85_k0 j85_c0] (U.bk 1 rfl) 0 ?_
    refine t 50 (pg g2) ?_
    refine t 51 (pq g2 2) ?_
    refine ts (U.bk 6 rfl) 2 (.agg #[.int .u64 500, .int .u64 0, .slice j85_a3 j85_k3 j85_c3, .bool false, .int .u64 0, .bool false, .int .u64 2, .slice none 0 0, .slice j85_a1 j85_k1 j85_c1, .slice j85_a0 j85_k0 j85_c0]) [.int .u64 500, .int .u64 0, .slice j85_a3 j85_k3 j85_c3, .bool false, .int .u64 0, .bool false, .int .u64 2, .slice none 0 0, .slice j85_a1 j85_k1 j85_c1, .slice j85_a0 j85_k0 j85_c0] [.int .u64 16, .int .u64 16, .int .u64 500, .int .u64 0, .slice j85_a3 j85_k3 j85_c3, .bool false, .int .u64 0, .bool false, .int .u64 2, .slice none 0 0, .slice j85_a1 j85_k1 j85_c1, .slice j85_a0 j85_k0 j85_c0, .slice none 0 0, .int .u64 0, .slice none 0 0, .bool false] ?_
    intro v91 Y C
    replace U := U.put 6 rfl C Y (by decide)
    clear Y C
    refine gl_nil ?_
    refine ge_then ?_
    refine gc_seq ?_
    replace U := U.drew
    refine gc_draw (fun w' => Blk w' g2 [.int .u64 16, .int .u64 16, .int .u64 500, .int .u64 0, .slice j85_a3 j85_k3 j85_c3, .bool false, .int .u64 0, .bool false, .int .u64 2, .slice none 0 0, .slice j85_a1 j85_k1 j85_c1, .slice j85_a0 j85_k0 j85_c0, .slice none 0 0, .int .u64 0, .slice none 0 0, .bool false] 169) (fun _ => false) (U.bk 6 rfl) ?_
    refine z 0 52 (pg g2) ?_
    refine z 1 53 (pg g2) ?_
    refine z 2 54 (pg g2) ?_
    refine zl 3 55 (.int .u64 16) (fun _ h => h) 0 ?_
    refine z 4 56 (pg g2) ?_
    refine z 5 57 (pg g2) ?_
    refine z 6 58 (pq g2 1) ?_
    refine zl 7 59 (.int .u64 16) (fun _ h => h) 1 ?_
    refine zr 8 60 (.agg #[.int .u64 16, .int .u64 16, .int .u64 0, .slice none 0 0, .slice none 0 0, .slice none 0 0, .int .u64 0]) (by intro _ _; kernel_rfl) ?_
    refine zs 9 (U.bk 2 rfl) 0 (.agg #[.int .u64 16, .int .u64 16, .int .u64 0, .slice none 0 0, .slice none 0 0, .slice none 0 0, .int .u64 0]) [.int .u64 16, .int .u64 16, .int .u64 0, .slice none 0 0, .slice none 0 0, .slice none 0 0, .int .u64 0] [.int .u64 16, .int .u64 16, .int .u64 0, .slice none 0 0, .slice none 0 0, .slice none 0 0, .int .u64 0] ?_
    intro v92 Y C
    replace U := U.put 2 rfl C Y (by decide)
    clear Y C
    refine ⟨(U.bk 6 rfl), ?_⟩
    refine gz_done ?_
    refine ge_then ?_
    refine gc_fr [(4, pg g11)] (by kernel_rfl) ?_
    refine gc_ret ?_
    refine ge_ret (.agg #[.int .u64 16, .int .u64 16, .int .u64 0, .slice none 0 0, .slice none 0 0, .slice none 0 0, .int .u64 0]) (rsc 4 (T := 171) (by kernel_rfl) (by kernel_rfl) (lr (U.bk 2 rfl) 0)) ?_
    exact ⟨_, _, _, _, _, _, _, _, _, _, _, _, _, _, _, rfl, U.sel [3, 4, 5, 6] [0, 1, 3], ⟨by (try dsimp only); omega, by (try dsimp only); omega⟩, ⟨by (try dsimp only); omega, fj85_0⟩, ⟨by (try dsimp only); omega, fj85_1⟩, ⟨by (try dsimp only); omega, fj85_3⟩⟩
  clear U
  refine tc 14 174 #[pg g2, pg g] (HC) ?_
  rintro _ v96 ⟨j85_a0, j85_k0, j85_c0, j85_z0, j85_a1, j85_k1, j85_c1, j85_z1, j85_a3, j85_k3, j85_c3, j85_z3, K93, n94, N95, rfl, U, ⟨qn94, qN95⟩, ⟨mj85_0, fj85_0⟩, ⟨mj85_1, fj85_1⟩, ⟨mj85_3, fj85_3⟩⟩
  refine ⟨_, rfl, ?_⟩
  clear HC
  refine ta 10 [.int .u64 0, .int .u64 0, .int .u64 0, .slice none 0 0, .slice none 0 0, .slice none 0 0, .int .u64 0] 171 (pg) ?_
  intro v97 g98 Xg98 hg98 B
  replace U := U.new Xg98 hg98 B
  clear Xg98 hg98 B
  refine ts (U.bk 0 rfl) 0 (.agg #[.int .u64 16, .int .u64 16, .int .u64 0, .slice none 0 0, .slice none 0 0, .slice none 0 0, .int .u64 0]) [.int .u64 16, .int .u64 16, .int .u64 0, .slice none 0 0, .slice none 0 0, .slice none 0 0, .int .u64 0] [.int .u64 16, .int .u64 16, .int .u64 0, .slice none 0 0, .slice none 0 0, .slice none 0 0, .int .u64 0] ?_
  intro v99 Y C
  replace U := U.put 0 rfl C Y (by decide)
  clear Y C
  refine gl_nil ?_
  refine ge_then ?_
  refine gc_fr [(1, pg g), (2, .int .u64 10), (4, pg g2), (7, pg g4), (8, pg g6), (9, pg g8), (10, pg g98)] (by kernel_rfl) ?_
  refine gc_seq ?_
  refine gc_reg ?_
  refine t 15 (pq g2 2) ?_
  refine t 16 (pq g2 3) ?_
  refine tl 17 (.int .u64 0) (U.bk 4 rfl) 3 ?_
  refine t 18 (.int .u64 10) ?_
  refine t 19 (.int .u64 10) ?_
  refine t 20 (pq g2 2) ?_
  refine t 21 (pq g2 3) ?_
  refine ts (U.bk 4 rfl) 3 (.int .u64 10) [.int .u64 10] [.int .u64 16, .int .u64 16, .int .u64 500, .int .u64 10, .slice j85_a3 j85_k3 j85_c3, .bool false, .int .u64 0, .bool false, .int .u64 2, .slice none 0 0, .slice j85_a1 j85_k1 j85_c1, .slice j85_a0 j85_k0 j85_c0, .slice none 0 0, .int .u64 0, .slice none 0 0, .bool false] ?_
  intro v100 Y C
  replace U := U.put 4 rfl C Y (by decide)
  clear Y C
  refine gl_nil ?_
  refine ge_then ?_
  refine gc_join (fun (s : Jgleanstakebondjoin4) => [(1, pg g), (4, pg g2), (8, pg g6), (9, pg g8), (10, pg g98)]) (fun s w' => Ut w K B g W w' s.K e7 s.n s.N [(g98, [.int .u64 16, .int .u64 16, .int .u64 0, .slice none 0 0, .slice none 0 0, .slice none 0 0, .int .u64 0], 171), (g8, [.int .u64 500, .int .u64 0, .slice a0 n0 c0, .bool false, .int .u64 0, .bool false, .int .u64 1, .slice none 0 0, .slice a2 n2 c2, .slice a3 n3 c3], 53), (g6, [.int .u64 0, .int .u64 0, .int .u64 0, .slice none 0 0, .slice none 0 0, .slice none 0 0, .int .u64 0], 171), (g4, [.slice a4 n4 c4], 51), (g2, [.int .u64 16, .int .u64 16, .int .u64 500, .int .u64 10, .slice s.a1 s.k1 s.c1, .bool false, .int .u64 0, .bool false, .int .u64 2, .slice none 0 0, .slice j85_a1 j85_k1 j85_c1, .slice j85_a0 j85_k0 j85_c0, .slice s.a0 s.k0 s.c0, .int .u64 0, .slice none 0 0, .bool false], 169)] [(s.z0, s.a0, s.k0, s.c0, 10000000000000000000000000000000000000), (s.z1, s.a1, s.k1, s.c1, 10000000000000000000000000000000000000), (j85_z0, j85_a0, j85_k0, j85_c0, 0), (j85_z1, j85_a1, j85_k1, j85_c1, 0), (j85_z3, j85_a3, j85_k3, j85_c3, 0)] ∧ (s.n ≤ n + 800 ∧ s.N ≤ N + 800) ∧ (s.k0 ≤ 2600 ∧ (s.k0 = 0 ∨ w.heap.size ≤ s.z0)) ∧ (s.k1 ≤ 2600 ∧ (s.k1 = 0 ∨ w.heap.size ≤ s.z1))) ?_ ?_
  · replace U := U.drew
    refine gc_draw (fun w' => Blk w' g2 [.int .u64 16, .int .u64 16, .int .u64 500, .int .u64 10, .slice j85_a3 j85_k3 j85_c3, .bool false, .int .u64 0, .bool false, .int .u64 2, .slice none 0 0, .slice j85_a1 j85_k1 j85_c1, .slice j85_a0 j85_k0 j85_c0, .slice none 0 0, .int .u64 0, .slice none 0 0, .bool false] 169 ∧ Blk w' g4 [.slice a4 n4 c4] 51) (fun i => decide (12 ≤ i)) ⟨(U.bk 4 rfl), (U.bk 3 rfl)⟩ ?_
    refine zp 0 22 (pq g2 2) ?_
    refine zp 1 23 (pq g2 4) ?_
    refine zlr 2 24 [.slice j85_a3 j85_k3 j85_c3] (fun _ h => h.1) 4 ?_
    refine zlr 3 25 [.slice a4 n4 c4] (fun _ h => h.2) 0 ?_
    refine zp 5 27 (pq g2 12) ?_
    refine zp 6 28 (pq g2 12) ?_
    refine zlr 7 29 [.slice none 0 0] (fun _ h => h.1) 12 ?_
    refine gz_ready [4, 8] ?_
    refine ga_call 4 (some 26) 172 #[.agg #[.slice j85_a3 j85_k3 j85_c3], .agg #[.slice a4 n4 c4]] (eAdd (U.nq 2 rfl).nat (by omega) (Q4.op U.ta.km U.ta.cc).nat (by omega)) ?_ ?_
    · rintro _ v102 ⟨aq101, nq101, cq101, zq101, rfl, M, h, mq101, B⟩
      have fq101 := ne3 h U.ta.size
      replace U := U.num M h B
      clear M h B
      replace U := U.val 0 rfl (show _ = (10000000000000000000000000000000000000 : Int) by decide +kernel)
      refine ⟨_, rfl, ⟨(U.bk 4 rfl), (U.bk 3 rfl)⟩, ?_⟩
      skip
      refine zw 8 30 (.agg #[.slice a4 n4 c4]) _ (run_ldr (U.bk 3 rfl) (off := 0) (vs := [.slice a4 n4 c4]) rfl ⟨_, _, rfl, by kernel_rfl, by kernel_rfl⟩) ⟨(U.bk 4 rfl), (U.bk 3 rfl)⟩ ?_
      refine zc 9 31 172 #[.agg #[.slice none 0 0], .agg #[.slice a4 n4 c4]] (eAdd (nf_nil _ 0).nat (by omega) (Q4.op U.ta.km U.ta.cc).nat (by omega)) ?_
      rintro _ v104 ⟨aq103, nq103, cq103, zq103, rfl, M, h, mq103, B⟩
      have fq103 := ne3 h U.ta.size
      replace U := U.num M h B
      clear M h B
      replace U := U.val 0 rfl (show _ = (10000000000000000000000000000000000000 : Int) by decide +kernel)
      refine ⟨_, rfl, ⟨(U.bk 4 rfl), (U.bk 3 rfl)⟩, ?_⟩
      refine zp 10 32 (pq g2 2) ?_
      refine zp 11 33 (pq g2 4) ?_
      refine gz_late ?_
      refine ys 12 (U.bk 4 rfl) 4 (.agg #[.slice aq101 nq101 cq101]) [.slice aq101 nq101 cq101] [.int .u64 16, .int .u64 16, .int .u64 500, .int .u64 10, .slice aq101 nq101 cq101, .bool false, .int .u64 0, .bool false, .int .u64 2, .slice none 0 0, .slice j85_a1 j85_k1 j85_c1, .slice j85_a0 j85_k0 j85_c0, .slice none 0 0, .int .u64 0, .slice none 0 0, .bool false] ?_
      intro v105 Y C
      replace U := U.put 4 rfl C Y (by decide)
      clear Y C
      refine yt 13 34 (pq g2 12) ?_
      refine yt 14 35 (pq g2 12) ?_
      refine ys 15 (U.bk 4 rfl) 12 (.agg #[.slice aq103 nq103 cq103]) [.slice aq103 nq103 cq103] [.int .u64 16, .int .u64 16, .int .u64 500, .int .u64 10, .slice aq101 nq101 cq101, .bool false, .int .u64 0, .bool false, .int .u64 2, .slice none 0 0, .slice j85_a1 j85_k1 j85_c1, .slice j85_a0 j85_k0 j85_c0, .slice aq103 nq103 cq103, .int .u64 0, .slice none 0 0, .bool false] ?_
      intro v106 Y C
      replace U := U.put 4 rfl C Y (by decide)
      clear Y C
      refine gy_done ?_
      exact ge_join (⟨aq103, nq103, cq103, zq103, aq101, nq101, cq101, zq101, _, _, _⟩ : Jgleanstakebondjoin4) ⟨U.sel [0, 1, 2, 3, 4] [0, 1, 2, 3, 4], ⟨by (try dsimp only); omega, by (try dsimp only); omega⟩, ⟨by (try dsimp only); omega, fq103⟩, ⟨by (try dsimp only); omega, fq101⟩⟩ (by kernel_rfl)
    skip
    refine ga_val 8 (some 30) (.agg #[.slice a4 n4 c4]) _ (run_ldr (U.bk 3 rfl) (off := 0) (vs := [.slice a4 n4 c4]) rfl ⟨_, _, rfl, by kernel_rfl, by kernel_rfl⟩) ⟨(U.bk 4 rfl), (U.bk 3 rfl)⟩ ?_ ?_
    · skip
      refine zc 4 26 172 #[.agg #[.slice j85_a3 j85_k3 j85_c3], .agg #[.slice a4 n4 c4]] (eAdd (U.nq 2 rfl).nat (by omega) (Q4.op U.ta.km U.ta.cc).nat (by omega)) ?_
      rintro _ v108 ⟨aq107, nq107, cq107, zq107, rfl, M, h, mq107, B⟩
      have fq107 := ne3 h U.ta.size
      replace U := U.num M h B
      clear M h B
      replace U := U.val 0 rfl (show _ = (10000000000000000000000000000000000000 : Int) by decide +kernel)
      refine ⟨_, rfl, ⟨(U.bk 4 rfl), (U.bk 3 rfl)⟩, ?_⟩
      refine zc 9 31 172 #[.agg #[.slice none 0 0], .agg #[.slice a4 n4 c4]] (eAdd (nf_nil _ 0).nat (by omega) (Q4.op U.ta.km U.ta.cc).nat (by omega)) ?_
      rintro _ v110 ⟨aq109, nq109, cq109, zq109, rfl, M, h, mq109, B⟩
      have fq109 := ne3 h U.ta.size
      replace U := U.num M h B
      clear M h B
      replace U := U.val 0 rfl (show _ = (10000000000000000000000000000000000000 : Int) by decide +kernel)
      refine ⟨_, rfl, ⟨(U.bk 4 rfl), (U.bk 3 rfl)⟩, ?_⟩
      refine zp 10 32 (pq g2 2) ?_
      refine zp 11 33 (pq g2 4) ?_
      refine gz_late ?_
      refine ys 12 (U.bk 4 rfl) 4 (.agg #[.slice aq107 nq107 cq107]) [.slice aq107 nq107 cq107] [.int .u64 16, .int .u64 16, .int .u64 500, .int .u64 10, .slice aq107 nq107 cq107, .bool false, .int .u64 0, .bool false, .int .u64 2, .slice none 0 0, .slice j85_a1 j85_k1 j85_c1, .slice j85_a0 j85_k0 j85_c0, .slice none 0 0, .int .u64 0, .slice none 0 0, .bool false] ?_
      intro v111 Y C
      replace U := U.put 4 rfl C Y (by decide)
      clear Y C
      refine yt 13 34 (pq g2 12) ?_
      refine yt 14 35 (pq g2 12) ?_
      refine ys 15 (U.bk 4 rfl) 12 (.agg #[.slice aq109 nq109 cq109]) [.slice aq109 nq109 cq109] [.int .u64 16, .int .u64 16, .int .u64 500, .int .u64 10, .slice aq107 nq107 cq107, .bool false, .int .u64 0, .bool false, .int .u64 2, .slice none 0 0, .slice j85_a1 j85_k1 j85_c1, .slice j85_a0 j85_k0 j85_c0, .slice aq109 nq109 cq109, .int .u64 0, .slice none 0 0, .bool false] ?_
      intro v112 Y C
      replace U := U.put 4 rfl C Y (by decide)
      clear Y C
      refine gy_done ?_
      exact ge_join (⟨aq109, nq109, cq109, zq109, aq107, nq107, cq107, zq107, _, _, _⟩ : Jgleanstakebondjoin4) ⟨U.sel [0, 1, 2, 3, 4] [0, 1, 2, 3, 4], ⟨by (try dsimp only); omega, by (try dsimp only); omega⟩, ⟨by (try dsimp only); omega, fq109⟩, ⟨by (try dsimp only); omega, fq107⟩⟩ (by kernel_rfl)
    exact ga_nil
  clear U
  rintro ⟨j114_a0, j114_k0, j114_c0, j114_z0, j114_a1, j114_k1, j114_c1, j114_z1, j114_K, j114_n, j114_N⟩ v113 ⟨U, ⟨j114_hn, j114_hN⟩, ⟨mj114_0, fj114_0⟩, ⟨mj114_1, fj114_1⟩⟩
  dsimp only at *
  refine gc_seq ?_
  refine gc_reg ?_
  refine t 36 (pg g) ?_
  refine t 37 (pg g2) ?_
  refine tl 38 (.int .u64 16) (U.bk 4 rfl) 0 ?_
  refine tlr 39 [.int .u64 500, .int .u64 0, .slice a0 n0 c0, .bool false, .int .u64 0, .bool false, .int .u64 1, .slice none 0 0, .slice a2 n2 c2, .slice a3 n3 c3] (U.bk 1 rfl) 0 ?_
  refine t 40 (pq g2 2) ?_
  refine tlr 41 [.int .u64 500, .int .u64 10, .slice j114_a1 j114_k1 j114_c1, .bool false, .int .u64 0, .bool false, .int .u64 2, .slice none 0 0, .slice j85_a1 j85_k1 j85_c1, .slice j85_a0 j85_k0 j85_c0] (U.bk 4 rfl) 2 ?_
  have HC : Calls Tryz.prog 175 #[pg g, .int .u64 16, .agg #[.int .u64 500, .int .u64 0, .slice a0 n0 c0, .bool false, .int .u64 0, .bool false, .int .u64 1, .slice none 0 0, .slice a2 n2 c2, .slice a3 n3 c3], .agg #[.int .u64 500, .int .u64 10, .slice j114_a1 j114_k1 j114_c1, .bool false, .int .u64 0, .bool false, .int .u64 2, .slice none 0 0, .slice j85_a1 j85_k1 j85_c1, .slice j85_a0 j85_k0 j85_c0]] v113 (fun e w' => ∃  K' n' N', e = .returned (.tuple #[]) ∧ Ut w K B g W w' K' e8 n' N' [(g98, [.int .u64 16, .int .u64 16, .int .u64 0, .slice none 0 0, .slice none 0 0, .slice none 0 0, .int .u64 0], 171), (g8, [.int .u64 500, .int .u64 0, .slice a0 n0 c0, .bool false, .int .u64 0, .bool false, .int .u64 1, .slice none 0 0, .slice a2 n2 c2, .slice a3 n3 c3], 53), (g6, [.int .u64 0, .int .u64 0, .int .u64 0, .slice none 0 0, .slice none 0 0, .slice none 0 0, .int .u64 0], 171), (g4, [.slice a4 n4 c4], 51), (g2, [.int .u64 16, .int .u64 16, .int .u64 500, .int .u64 10, .slice j114_a1 j114_k1 j114_c1, .bool false, .int .u64 0, .bool false, .int .u64 2, .slice none 0 0, .slice j85_a1 j85_k1 j85_c1, .slice j85_a0 j85_k0 j85_c0, .slice j114_a0 j114_k0 j114_c0, .int .u64 0, .slice none 0 0, .bool false], 169)] [(j114_z0, j114_a0, j114_k0, j114_c0, 10000000000000000000000000000000000000), (j114_z1, j114_a1, j114_k1, j114_c1, 10000000000000000000000000000000000000), (j85_z0, j85_a0, j85_k0, j85_c0, 0), (j85_z1, j85_a1, j85_k1, j85_c1, 0), (j85_z3, j85_a3, j85_k3, j85_c3, 0)] ∧ (n' ≤ n + 900 ∧ N' ≤ N + 900)) := by
    refine gc_enter (n := 34) Tryz.func175 rfl (by kernel_rfl) (by kernel_rfl) ?_
    refine gc_seq ?_
    refine gc_reg ?_
    refine ta 6 [.int .u64 500, .int .u64 0, .slice a0 n0 c0, .bool false, .int .u64 0, .bool false, .int .u64 1, .slice none 0 0, .slice a2 n2 c2, .slice a3 n3 c3] 53 (pg) ?_
    intro v115 g116 Xg116 hg116 B
    replace U := U.new Xg116 hg116 B
    clear Xg116 hg116 B
    refine ta 7 [.int .u64 500, .int .u64 10, .slice j114_a1 j114_k1 j114_c1, .bool false, .int .u64 0, .bool false, .int .u64 2, .slice none 0 0, .slice j85_a1 j85_k1 j85_c1, .slice j85_a0 j85_k0 j85_c0] 53 (pg) ?_
    intro v117 g118 Xg118 hg118 B
    replace U := U.new Xg118 hg118 B
    clear Xg118 hg118 B
    refine gl_nil ?_
    refine ge_then ?_
    refine gc_seq ?_
    refine gc_seq ?_
    refine gc_reg ?_
    refine t 8 (pq g116 3) ?_
    refine tl 9 (.bool false) (U.bk 1 rfl) 3 ?_
    refine t 10 (.bool true) ?_
    refine t 11 (.bool true) ?_
    refine t 12 (pq g116 1) ?_
    refine tl 13 (.int .u64 0) (U.bk 1 rfl) 1 ?_
    refine t 14 (.bool false) ?_
    refine t 15 (.bool false) ?_
    refine gl_nil ?_
    refine ge_then ?_
    refine gc_fr [(0, pg g), (1, .int .u64 16), (6, pg g116), (7, pg g118), (15, .bool false)] (by kernel_rfl) ?_
    refine gc_no ?_
    refine gc_skip ?_
    refine ge_then ?_
    refine gc_seq ?_
    refine gc_reg ?_
    refine t 21 (pq g118 3) ?_
    refine tl 22 (.bool false) (U.bk 0 rfl) 3 ?_
    refine t 23 (.bool true) ?_
    refine t 24 (.bool true) ?_
    refine t 25 (pq g118 1) ?_
    refine tl 26 (.int .u64 10) (U.bk 0 rfl) 1 ?_
    refine t 27 (.bool true) ?_
    refine t 28 (.bool true) ?_
    refine gl_nil ?_
    refine ge_then ?_
    refine gc_yes ?_
    refine gc_reg ?_
    refine t 29 (pg g) ?_
    refine t 30 (.int .u64 16) ?_
    refine t 31 (pq g118 1) ?_
    refine tl 32 (.int .u64 10) (U.bk 0 rfl) 1 ?_
    refine tc 33 222 #[pg g, .int .u64 16, .int .u64 10] (SxE.castE (put_any U.ta.sx ⟨by decide, by decide⟩ (by omega) (by omega)) (show _ = e8 from rfl)) ?_
    rintro _ v120 ⟨rfl, K119, S, hK, hC⟩
    refine ⟨_, rfl, ?_⟩
    replace U := U.op S hK hC
    clear S hK hC
    refine gl_nil ?_
    refine ge_end (.tuple #[]) (rs0 (by kernel_rfl)) ?_
    exact ⟨_, _, _, rfl, U.sel [2, 3, 4, 5, 6] [0, 1, 2, 3, 4], ⟨by (try dsimp only); omega, by (try dsimp only); omega⟩⟩
  clear U
  refine tc 42 175 #[pg g, .int .u64 16, .agg #[.int .u64 500, .int .u64 0, .slice a0 n0 c0, .bool false, .int .u64 0, .bool false, .int .u64 1, .slice none 0 0, .slice a2 n2 c2, .slice a3 n3 c3], .agg #[.int .u64 500, .int .u64 10, .slice j114_a1 j114_k1 j114_c1, .bool false, .int .u64 0, .bool false, .int .u64 2, .slice none 0 0, .slice j85_a1 j85_k1 j85_c1, .slice j85_a0 j85_k0 j85_c0]] (HC) ?_
  rintro _ v124 ⟨K121, n122, N123, rfl, U, ⟨qn122, qN123⟩⟩
  refine ⟨_, rfl, ?_⟩
  clear HC
  refine gl_nil ?_
  refine ge_then ?_
  refine gc_seq ?_
  refine gc_reg ?_
  refine t 43 (pg g) ?_
  have HC : Calls Tryz.prog 176 #[pg g2, pg g] v124 (fun e w' => ∃ aq126 nq126 cq126 zq126 aq125 nq125 cq125 zq125 K' n' N', e = .returned (.tuple #[]) ∧ Ut w K B g W w' K' e11 n' N' [(g98, [.int .u64 16, .int .u64 16, .int .u64 0, .slice none 0 0, .slice none 0 0, .slice none 0 0, .int .u64 0], 171), (g8, [.int .u64 500, .int .u64 0, .slice a0 n0 c0, .bool false, .int .u64 0, .bool false, .int .u64 1, .slice none 0 0, .slice a2 n2 c2, .slice a3 n3 c3], 53), (g6, [.int .u64 0, .int .u64 0, .int .u64 0, .slice none 0 0, .slice none 0 0, .slice none 0 0, .int .u64 0], 171), (g4, [.slice a4 n4 c4], 51), (g2, [.int .u64 16, .int .u64 16, .int .u64 500, .int .u64 10, .slice j114_a1 j114_k1 j114_c1, .bool false, .int .u64 0, .bool false, .int .u64 2, .slice none 0 0, .slice j85_a1 j85_k1 j85_c1, .slice j85_a0 j85_k0 j85_c0, .slice aq125 nq125 cq125, .int .u64 1, .slice aq126 nq126 cq126, .bool false], 169)] [(zq126, aq126, nq126, cq126, 10000000000000000000000000000000000000), (zq125, aq125, nq125, cq125, 10000000000000000000000000000000000000), (j114_z0, j114_a0, j114_k0, j114_c0, 10000000000000000000000000000000000000), (j114_z1, j114_a1, j114_k1, j114_c1, 10000000000000000000000000000000000000), (j85_z0, j85_a0, j85_k0, j85_c0, 0), (j85_z1, j85_a1, j85_k1, j85_c1, 0), (j85_z3, j85_a3, j85_k3, j85_c3, 0)] ∧ (n' ≤ n + 1000 ∧ N' ≤ N + 1000) ∧ (nq126 ≤ 15700 ∧ (nq126 = 0 ∨ w.heap.size ≤ zq126)) ∧ (nq125 ≤ 15700 ∧ (nq125 = 0 ∨ w.heap.size ≤ zq125))) := by
    refine gc_enter (n := 46) Tryz.func176 rfl (by kernel_rfl) (by kernel_rfl) ?_
    refine gc_seq ?_
    replace U := U.drew
    refine gc_draw (fun w' => Blk w' g2 [.int .u64 16, .int .u64 16, .int .u64 500, .int .u64 10, .slice j114_a1 j114_k1 j114_c1, .bool false, .int .u64 0, .bool false, .int .u64 2, .slice none 0 0, .slice j85_a1 j85_k1 j85_c1, .slice j85_a0 j85_k0 j85_c0, .slice j114_a0 j114_k0 j114_c0, .int .u64 0, .slice none 0 0, .bool false] 169) (fun i => decide (17 ≤ i)) (U.bk 4 rfl) ?_
    refine zp 0 4 (pg g2) ?_
    refine zp 1 5 (pg g) ?_
    refine zp 2 6 (pg g2) ?_
    refine zp 3 7 (pg g2) ?_
    refine zp 4 8 (pg g2) ?_
    refine zl 5 9 (.int .u64 16) (fun _ h => h) 0 ?_
    refine zp 6 10 (pg g2) ?_
    refine zp 7 11 (pg g2) ?_
    refine zp 8 12 (pq g2 2) ?_
    refine zlr 9 13 [.int .u64 500, .int .u64 10, .slice j114_a1 j114_k1 j114_c1, .bool false, .int .u64 0, .bool false, .int .u64 2, .slice none 0 0, .slice j85_a1 j85_k1 j85_c1, .slice j85_a0 j85_k0 j85_c0] (fun _ h => h) 2 ?_
    refine zp 10 14 (pg g2) ?_
    refine zp 11 15 (pg g2) ?_
    refine zp 12 16 (pq g2 12) ?_
    refine zlr 13 17 [.slice j114_a0 j114_k0 j114_c0, .int .u64 0, .slice none 0 0] (fun _ h => h) 12 ?_
    refine zc 14 18 223 #[pg g, .int .u64 16, .agg #[.int .u64 500, .int .u64 10, .slice j114_a1 j114_k1 j114_c1, .bool false, .int .u64 0, .bool false, .int .u64 2, .slice none 0 0, .slice j85_a1 j85_k1 j85_c1, .slice j85_a0 j85_k0 j85_c0], .agg #[.slice j114_a0 j114_k0 j114_c0, .int .u64 0, .slice none 0 0]] (HoE.cast (E' := e9) (p := 1) (xs := 10000000000000000000000000000000000000) (hold_any U.ta.sx ⟨by decide, by decide⟩ ⟨by decide, by decide⟩ (U.nq 1 rfl).nk (by omega) (nq_nil _ _).nk (by omega) (U.nq 3 rfl).nk (by omega) (U.nq 2 rfl).nk (by omega) (U.nq 0 rfl).nk (by omega) (nq_nil _ _).nk (by omega) (by omega) (by omega)) (by decide) rfl (by decide +kernel)) ?_
    rintro _ v130 ⟨aq125, nq125, cq125, zq125, aq126, nq126, cq126, zq126, K127, n128, N129, rfl, S, qn128, qN129, hK, hC, Q0, mq125, h0, Q1, mq126, h1⟩
    have fq125 := ne3 h0 U.ta.size
    have fq126 := ne3 h1 U.ta.size
    have L := U.lt
    replace U := ((U.op S hK hC).add L Q0 h0).add L Q1 h1
    clear L S hK hC Q0 h0 Q1 h1
    refine ⟨_, rfl, (U.bk 4 rfl), ?_⟩
    refine zp 15 19 (pg g2) ?_
    refine zp 16 20 (pq g2 12) ?_
    refine gz_late ?_
    refine ys 17 (U.bk 4 rfl) 12 (.agg #[.slice aq125 nq125 cq125, .int .u64 1, .slice aq126 nq126 cq126]) [.slice aq125 nq125 cq125, .int .u64 1, .slice aq126 nq126 cq126] [.int .u64 16, .int .u64 16, .int .u64 500, .int .u64 10, .slice j114_a1 j114_k1 j114_c1, .bool false, .int .u64 0, .bool false, .int .u64 2, .slice none 0 0, .slice j85_a1 j85_k1 j85_c1, .slice j85_a0 j85_k0 j85_c0, .slice aq125 nq125 cq125, .int .u64 1, .slice aq126 nq126 cq126, .bool false] ?_
    intro v131 Y C
    replace U := U.put 4 rfl C Y (by decide)
    clear Y C
    refine gy_done ?_
    refine ge_then ?_
    refine gc_fr [(0, pg g2), (1, pg g)] (by kernel_rfl) ?_
    refine gc_seq ?_
    replace U := U.drew
    refine gc_draw (fun w' => Blk w' g2 [.int .u64 16, .int .u64 16, .int .u64 500, .int .u64 10, .slice j114_a1 j114_k1 j114_c1, .bool false, .int .u64 0, .bool false, .int .u64 2, .slice none 0 0, .slice j85_a1 j85_k1 j85_c1, .slice j85_a0 j85_k0 j85_c0, .slice aq125 nq125 cq125, .int .u64 1, .slice aq126 nq126 cq126, .bool false] 169) (fun _ => false) (U.bk 4 rfl) ?_
    refine z 0 21 (pg g) ?_
    refine z 1 22 (pg g2) ?_
    refine z 2 23 (pg g2) ?_
    refine z 3 24 (pg g2) ?_
    refine zl 4 25 (.int .u64 16) (fun _ h => h) 0 ?_
    refine z 5 26 (pg g2) ?_
    refine z 6 27 (pg g2) ?_
    refine z 7 28 (pq g2 1) ?_
    refine zl 8 29 (.int .u64 16) (fun _ h => h) 1 ?_
    refine z 9 30 (pg g2) ?_
    refine z 10 31 (pg g2) ?_
    refine z 11 32 (pq g2 12) ?_
    refine zlr 12 33 [.slice aq125 nq125 cq125, .int .u64 1, .slice aq126 nq126 cq126] (fun _ h => h) 12 ?_
    refine zc 13 34 224 #[pg g, .int .u64 16, .int .u64 16, .agg #[.slice aq125 nq125 cq125, .int .u64 1, .slice aq126 nq126 cq126]] (SxE.castE (sDel U.ta.sx ⟨by decide, by decide⟩ (U.nq 1 rfl).nk (by omega) (U.nq 0 rfl).nk (by omega) (by omega) (by omega)) (show _ = e10 from rfl)) ?_
    rintro _ v133 ⟨rfl, K132, S, hK, hC⟩
    replace U := U.op S hK hC
    clear S hK hC
    refine ⟨_, rfl, (U.bk 4 rfl), ?_⟩
    refine gz_done ?_
    refine ge_then ?_
    refine gc_fr [(0, pg g2), (1, pg g)] (by kernel_rfl) ?_
    replace U := U.drew
    refine gc_draw (fun w' => Blk w' g2 [.int .u64 16, .int .u64 16, .int .u64 500, .int .u64 10, .slice j114_a1 j114_k1 j114_c1, .bool false, .int .u64 0, .bool false, .int .u64 2, .slice none 0 0, .slice j85_a1 j85_k1 j85_c1, .slice j85_a0 j85_k0 j85_c0, .slice aq125 nq125 cq125, .int .u64 1, .slice aq126 nq126 cq126, .bool false] 169) (fun _ => false) (U.bk 4 rfl) ?_
    refine z 0 35 (pg g) ?_
    refine z 1 36 (pg g2) ?_
    refine z 2 37 (pg g2) ?_
    refine z 3 38 (pq g2 1) ?_
    refine zl 4 39 (.int .u64 16) (fun _ h => h) 1 ?_
    refine z 5 40 (pg g2) ?_
    refine z 6 41 (pg g2) ?_
    refine z 7 42 (pg g2) ?_
    refine zl 8 43 (.int .u64 16) (fun _ h => h) 0 ?_
    refine zc 9 44 74 #[.int .i64 16, .int .u64 16, .int .u64 16] (sKey ⟨by decide, by decide⟩ (by kernel_rfl)) ?_
    rintro _ v136 ⟨kv135, rfl, Y134, B⟩
    replace U := U.keep B
    clear B
    refine ⟨_, rfl, (U.bk 4 rfl), ?_⟩
    refine zc 10 45 73 #[pg g, kv135, .slice none 0 0] (SxE.castE (mk_s (by kernel_rfl) U.ta.sx Y134 (byu_nil _) (by decide) (by omega) (by omega)) (show _ = e11 from rfl)) ?_
    rintro _ v138 ⟨rfl, K137, S, hK, hC⟩
    replace U := U.op S hK hC
    clear S hK hC
    clear Y134
    refine ⟨_, rfl, (U.bk 4 rfl), ?_⟩
    refine gz_done ?_
    refine ge_end (.tuple #[]) (rs0 (by kernel_rfl)) ?_
    exact ⟨_, _, _, _, _, _, _, _, _, _, _, rfl, U.sel [0, 1, 2, 3, 4] [0, 1, 2, 3, 4, 5, 6], ⟨by (try dsimp only); omega, by (try dsimp only); omega⟩, ⟨by (try dsimp only); omega, fq126⟩, ⟨by (try dsimp only); omega, fq125⟩⟩
  clear U
  refine tc 44 176 #[pg g2, pg g] (HC) ?_
  rintro _ v142 ⟨aq126, nq126, cq126, zq126, aq125, nq125, cq125, zq125, K139, n140, N141, rfl, U, ⟨qn140, qN141⟩, ⟨mq126, fq126⟩, ⟨mq125, fq125⟩⟩
  refine ⟨_, rfl, ?_⟩
  clear HC
  refine gl_nil ?_
  refine ge_then ?_
  refine gc_seq ?_
  refine gc_reg ?_
  refine t 45 (pg g) ?_
  refine t 46 (pg g2) ?_
  refine tl 47 (.int .u64 16) (U.bk 4 rfl) 0 ?_
  refine t 48 (pq g2 2) ?_
  refine tlr 49 [.int .u64 500, .int .u64 10, .slice j114_a1 j114_k1 j114_c1, .bool false, .int .u64 0, .bool false, .int .u64 2, .slice none 0 0, .slice j85_a1 j85_k1 j85_c1, .slice j85_a0 j85_k0 j85_c0] (U.bk 4 rfl) 2 ?_
  refine tc 50 136 #[pg g, .int .u64 16, .agg #[.int .u64 500, .int .u64 10, .slice j114_a1 j114_k1 j114_c1, .bool false, .int .u64 0, .bool false, .int .u64 2, .slice none 0 0, .slice j85_a1 j85_k1 j85_c1, .slice j85_a0 j85_k0 j85_c0]] (SxE.castE (sVal U.ta.sx ⟨by decide, by decide⟩ (U.nq 3 rfl).nk (by omega) (nq_nil _ _).nk (by omega) (U.nq 5 rfl).nk (by omega) (U.nq 4 rfl).nk (by omega) (by omega) (by omega)) (show _ = e12 from rfl)) ?_
  rintro _ v144 ⟨rfl, K143, S, hK, hC⟩
  refine ⟨_, rfl, ?_⟩
  replace U := U.op S hK hC
  clear S hK hC
  refine gl_nil ?_
  refine ge_then ?_
  refine gc_fr [(4, pg g2), (8, pg g6), (10, pg g98)] (by kernel_rfl) ?_
  refine gc_seq ?_
  refine gc_reg ?_
  refine tlr 51 [.int .u64 16, .int .u64 16, .int .u64 500, .int .u64 10, .slice j114_a1 j114_k1 j114_c1, .bool false, .int .u64 0, .bool false, .int .u64 2, .slice none 0 0, .slice j85_a1 j85_k1 j85_c1, .slice j85_a0 j85_k0 j85_c0, .slice aq125 nq125 cq125, .int .u64 1, .slice aq126 nq126 cq126, .bool false] (U.bk 4 rfl) 0 ?_
  refine tlr 52 [.int .u64 16, .int .u64 16, .int .u64 0, .slice none 0 0, .slice none 0 0, .slice none 0 0, .int .u64 0] (U.bk 0 rfl) 0 ?_
  have HC : Calls Tryz.prog 177 #[.agg #[.int .u64 16, .int .u64 16, .int .u64 500, .int .u64 10, .slice j114_a1 j114_k1 j114_c1, .bool false, .int .u64 0, .bool false, .int .u64 2, .slice none 0 0, .slice j85_a1 j85_k1 j85_c1, .slice j85_a0 j85_k0 j85_c0, .slice aq125 nq125 cq125, .int .u64 1, .slice aq126 nq126 cq126, .bool false], .agg #[.int .u64 16, .int .u64 16, .int .u64 0, .slice none 0 0, .slice none 0 0, .slice none 0 0, .int .u64 0]] v144 (fun e w' => ∃  K' n' N', e = .returned (.agg #[.int .u64 16, .int .u64 16, .int .u64 0, .slice none 0 0, .slice aq125 nq125 cq125, .slice j114_a1 j114_k1 j114_c1, .int .u64 10]) ∧ Ut w K B g W w' K' e12 n' N' [(g98, [.int .u64 16, .int .u64 16, .int .u64 0, .slice none 0 0, .slice none 0 0, .slice none 0 0, .int .u64 0], 171), (g8, [.int .u64 500, .int .u64 0, .slice a0 n0 c0, .bool false, .int .u64 0, .bool false, .int .u64 1, .slice none 0 0, .slice a2 n2 c2, .slice a3 n3 c3], 53), (g6, [.int .u64 0, .int .u64 0, .int .u64 0, .slice none 0 0, .slice none 0 0, .slice none 0 0, .int .u64 0], 171), (g4, [.slice a4 n4 c4], 51), (g2, [.int .u64 16, .int .u64 16, .int .u64 500, .int .u64 10, .slice j114_a1 j114_k1 j114_c1, .bool false, .int .u64 0, .bool false, .int .u64 2, .slice none 0 0, .slice j85_a1 j85_k1 j85_c1, .slice j85_a0 j85_k0 j85_c0, .slice aq125 nq125 cq125, .int .u64 1, .slice aq126 nq126 cq126, .bool false], 169)] [(zq126, aq126, nq126, cq126, 10000000000000000000000000000000000000), (zq125, aq125, nq125, cq125, 10000000000000000000000000000000000000), (j114_z0, j114_a0, j114_k0, j114_c0, 10000000000000000000000000000000000000), (j114_z1, j114_a1, j114_k1, j114_c1, 10000000000000000000000000000000000000), (j85_z0, j85_a0, j85_k0, j85_c0, 0), (j85_z1, j85_a1, j85_k1, j85_c1, 0), (j85_z3, j85_a3, j85_k3, j85_c3, 0)] ∧ (n' ≤ n + 1100 ∧ N' ≤ N + 1100)) := by
    refine gc_enter (n := 18) Tryz.func177 rfl (by kernel_rfl) (by kernel_rfl) ?_
    refine gc_seq ?_
    refine gc_reg ?_
    refine ta 2 [.int .u64 16, .int .u64 16, .int .u64 500, .int .u64 10, .slice j114_a1 j114_k1 j114_c1, .bool false, .int .u64 0, .bool false, .int .u64 2, .slice none 0 0, .slice j85_a1 j85_k1 j85_c1, .slice j85_a0 j85_k0 j85_c0, .slice aq125 nq125 cq125, .int .u64 1, .slice aq126 nq126 cq126, .bool false] 169 (pg) ?_
    intro v145 g146 Xg146 hg146 B
    replace U := U.new Xg146 hg146 B
    clear Xg146 hg146 B
    refine ta 3 [.int .u64 16, .int .u64 16, .int .u64 0, .slice none 0 0, .slice none 0 0, .slice none 0 0, .int .u64 0] 171 (pg) ?_
    intro v147 g148 Xg148 hg148 B
    replace U := U.new Xg148 hg148 B
    clear Xg148 hg148 B
    refine ta 4 [.int .u64 0, .int .u64 0, .int .u64 0, .slice none 0 0, .slice none 0 0, .slice none 0 0, .int .u64 0] 171 (pg) ?_
    intro v149 g150 Xg150 hg150 B
    replace U := U.new Xg150 hg150 B
    clear Xg150 hg150 B
    refine gl_nil ?_
    refine ge_then ?_
    refine gc_seq ?_
    replace U := U.drew
    refine gc_draw (fun w' => Blk w' g146 [.int .u64 16, .int .u64 16, .int .u64 500, .int .u64 10, .slice j114_a1 j114_k1 j114_c1, .bool false, .int .u64 0, .bool false, .int .u64 2, .slice none 0 0, .slice j85_a1 j85_k1 j85_c1, .slice j85_a0 j85_k0 j85_c0, .slice aq125 nq125 cq125, .int .u64 1, .slice aq126 nq126 cq126, .bool false] 169) (fun _ => false) (U.bk 2 rfl) ?_
    refine z 0 5 (pq g146 12) ?_
    refine z 1 6 (pq g146 12) ?_
    refine zlr 2 7 [.slice aq125 nq125 cq125] (fun _ h => h) 12 ?_
    refine z 3 8 (pq g146 2) ?_
    refine z 4 9 (pq g146 3) ?_
    refine zl 5 10 (.int .u64 10) (fun _ h => h) 3 ?_
    refine z 6 11 (pq g146 2) ?_
    refine z 7 12 (pq g146 4) ?_
    refine zlr 8 13 [.slice j114_a1 j114_k1 j114_c1] (fun _ h => h) 4 ?_
    refine z 9 14 (pq g148 4) ?_
    refine zs 10 (U.bk 1 rfl) 4 (.agg #[.slice aq125 nq125 cq125]) [.slice aq125 nq125 cq125] [.int .u64 16, .int .u64 16, .int .u64 0, .slice none 0 0, .slice aq125 nq125 cq125, .slice none 0 0, .int .u64 0] ?_
    intro v151 Y C
    replace U := U.put 1 rfl C Y (by decide)
    clear Y C
    refine ⟨(U.bk 2 rfl), ?_⟩
    refine z 11 15 (pq g148 6) ?_
    refine zs 12 (U.bk 1 rfl) 6 (.int .u64 10) [.int .u64 10] [.int .u64 16, .int .u64 16, .int .u64 0, .slice none 0 0, .slice aq125 nq125 cq125, .slice none 0 0, .int .u64 10] ?_
    intro v152 Y C
    replace U := U.put 1 rfl C Y (by decide)
    clear Y C
    refine ⟨(U.bk 2 rfl), ?_⟩
    refine z 13 16 (pq g148 5) ?_
    refine zs 14 (U.bk 1 rfl) 5 (.agg #[.slice j114_a1 j114_k1 j114_c1]) [.slice j114_a1 j114_k1 j114_c1] [.int .u64 16, .int .u64 16, .int .u64 0, .slice none 0 0, .slice aq125 nq125 cq125, .slice j114_a1 j114_k1 j114_c1, .int .u64 10] ?_
    intro v153 Y C
    replace U := U.put 1 rfl C Y (by decide)
    clear Y C
    refine ⟨(U.bk 2 rfl), ?_⟩
    refine gz_done ?_
    refine ge_then ?_
    refine gc_fr [(3, pg g148), (4, pg g150)] (by kernel_rfl) ?_
    refine gc_seq ?_
    refine gc_reg ?_
    refine tlr 17 [.int .u64 16, .int .u64 16, .int .u64 0, .slice none 0 0, .slice aq125 nq125 cq125, .slice j114_a1 j114_k1 j114_c1, .int .u64 10] (U.bk 1 rfl) 0 ?_
    refine ts (U.bk 0 rfl) 0 (.agg #[.int .u64 16, .int .u64 16, .int .u64 0, .slice none 0 0, .slice aq125 nq125 cq125, .slice j114_a1 j114_k1 j114_c1, .int .u64 10]) [.int .u64 16, .int .u64 16, .int .u64 0, .slice none 0 0, .slice aq125 nq125 cq125, .slice j114_a1 j114_k1 j114_c1, .int .u64 10] [.int .u64 16, .int .u64 16, .int .u64 0, .slice none 0 0, .slice aq125 nq125 cq125, .slice j114_a1 j114_k1 j114_c1, .int .u64 10] ?_
    intro v154 Y C
    replace U := U.put 0 rfl C Y (by decide)
    clear Y C
    refine gl_nil ?_
    refine ge_then ?_
    refine gc_ret ?_
    refine ge_ret (.agg #[.int .u64 16, .int .u64 16, .int .u64 0, .slice none 0 0, .slice aq125 nq125 cq125, .slice j114_a1 j114_k1 j114_c1, .int .u64 10]) (rsc 4 (T := 171) (by kernel_rfl) (by kernel_rfl) (lr (U.bk 0 rfl) 0)) ?_
    exact ⟨_, _, _, rfl, U.sel [3, 4, 5, 6, 7] [0, 1, 2, 3, 4, 5, 6], ⟨by (try dsimp only); omega, by (try dsimp only); omega⟩⟩
  clear U
  refine tc 53 177 #[.agg #[.int .u64 16, .int .u64 16, .int .u64 500, .int .u64 10, .slice j114_a1 j114_k1 j114_c1, .bool false, .int .u64 0, .bool false, .int .u64 2, .slice none 0 0, .slice j85_a1 j85_k1 j85_c1, .slice j85_a0 j85_k0 j85_c0, .slice aq125 nq125 cq125, .int .u64 1, .slice aq126 nq126 cq126, .bool false], .agg #[.int .u64 16, .int .u64 16, .int .u64 0, .slice none 0 0, .slice none 0 0, .slice none 0 0, .int .u64 0]] (HC) ?_
  rintro _ v158 ⟨K155, n156, N157, rfl, U, ⟨qn156, qN157⟩⟩
  refine ⟨_, rfl, ?_⟩
  clear HC
  refine ts (U.bk 2 rfl) 0 (.agg #[.int .u64 16, .int .u64 16, .int .u64 0, .slice none 0 0, .slice aq125 nq125 cq125, .slice j114_a1 j114_k1 j114_c1, .int .u64 10]) [.int .u64 16, .int .u64 16, .int .u64 0, .slice none 0 0, .slice aq125 nq125 cq125, .slice j114_a1 j114_k1 j114_c1, .int .u64 10] [.int .u64 16, .int .u64 16, .int .u64 0, .slice none 0 0, .slice aq125 nq125 cq125, .slice j114_a1 j114_k1 j114_c1, .int .u64 10] ?_
  intro v159 Y C
  replace U := U.put 2 rfl C Y (by decide)
  clear Y C
  refine gl_nil ?_
  refine ge_then ?_
  refine gc_ret ?_
  refine ge_ret (.agg #[.int .u64 16, .int .u64 16, .int .u64 0, .slice none 0 0, .slice aq125 nq125 cq125, .slice j114_a1 j114_k1 j114_c1, .int .u64 10]) (rsc 8 (T := 171) (by kernel_rfl) (by kernel_rfl) (lr (U.bk 2 rfl) 0)) ?_
  exact ⟨_, _, _, _, _, _, _, _, _, _, _, rfl, U.ta.sx, by omega, by omega, U.ta.km, U.ta.cc, (U.nq 1 rfl), by omega, fq125, (U.nq 3 rfl), by omega, fj114_1⟩
end Fo
end Go.Proofs.YtjmkhdlhjnlbiaaGreat
