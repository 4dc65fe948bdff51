/- Several texts, joined: GnH. -/
import Derived.Test.YtpoifdokmjhclaaGreatJyC
namespace Go.Proofs.YtpoifdokmjhclaaGreat
namespace Fo
open Go.RowKit Go.Lib Pg Lim Gl Kv Bk Pw Sd Di
attribute [local go_sem] Oper.semAt_some
set_option maxRecDepth 100000
set_option linter.unusedVariables false
set_option linter.unusedSimpArgs false
set_option maxHeartbeats 4000000
def e4 : Ents := referE e3 16 0
def e5 : Ents := moveE e4 16 3 10
def e6 : Ents := closeE e5 16 1 0 0
def e7 : Ents := plE e6 (0 + 0)
def e8 : Ents := put e7 (Ky.mk 10 10 16) []
def e9 : Ents := referE e8 16 1
def e10 : Ents := put e9 (Ky.mk 6 16 16) (dv 10000000000000000000000000000000000000 1 10000000000000000000000000000000000000)
def e11 : Ents := put e10 (Ky.mk 16 16 16) []
def e12 : Ents := put e11 (Ky.mk 5 16 0) (vv 500 10 10000000000000000000000000000000000000 false 0 false 2 0 0 0)
theorem house_t {w : World} {i j rt tk un pe dp : Int} {jl he : Bool} {a0 : Option Addr} {n0 c0 : Nat} {a1 : Option Addr} {n1 c1 : Nat} {a2 : Option Addr} {n2 c2 : Nat} {a3 : Option Addr} {n3 c3 : Nat} {a4 : Option Addr} {n4 c4 : Nat} {a5 : Option Addr} {n5 c5 : Nat} : Calls Tryz.prog 143 #[.agg #[.int .u64 i, .int .u64 j, .int .u64 rt, .int .u64 tk, .slice a0 n0 c0, .bool jl, .int .u64 un, .bool true, .int .u64 pe, .slice a1 n1 c1, .slice a2 n2 c2, .slice a3 n3 c3, .slice a4 n4 c4, .int .u64 dp, .slice a5 n5 c5, .bool he]] w fun e w' => e = .returned (.int .u64 2) ∧ Below w.heap.size w w' := by
  have BB := Below.refl w.heap.size w
  refine gc_enter (n := 6) Tryz.func143 rfl (by kernel_rfl) (by kernel_rfl) ?_
  refine gc_seq ?_
  refine gc_reg ?_
  refine ta 1 [.int .u64 i, .int .u64 j, .int .u64 rt, .int .u64 tk, .slice a0 n0 c0, .bool jl, .int .u64 un, .bool true, .int .u64 pe, .slice a1 n1 c1, .slice a2 n2 c2, .slice a3 n3 c3, .slice a4 n4 c4, .int .u64 dp, .slice a5 n5 c5, .bool he] 183 (pg) ?_
  intro v1 g2 Xg2 hg2 B
  replace BB := joinB BB B
  clear B
  refine t 2 (.int .u64 0) ?_
  refine gl_nil ?_
  refine ge_then ?_
  refine gc_seq ?_
  refine gc_seq ?_
  refine gc_reg ?_
  refine t 3 (pq g2 2) ?_
  refine t 4 (pq g2 7) ?_
  refine tl 5 (.bool true) Xg2 7 ?_
  refine gl_nil ?_
  refine ge_then ?_
  refine gc_yes ?_
  refine gc_seq ?_
  refine gc_reg ?_
  refine t 2 (.int .u64 2) ?_
  refine gl_nil ?_
  refine ge_then ?_
  refine gc_ret ?_
  refine ge_tr ?_
  refine ge_ret (.int .u64 2) (rs1 2 (by kernel_rfl) (by kernel_rfl)) ?_
  exact ⟨rfl, BB⟩
theorem house_f {w : World} {i j rt tk un pe dp : Int} {jl he : Bool} {a0 : Option Addr} {n0 c0 : Nat} {a1 : Option Addr} {n1 c1 : Nat} {a2 : Option Addr} {n2 c2 : Nat} {a3 : Option Addr} {n3 c3 : Nat} {a4 : Option Addr} {n4 c4 : Nat} {a5 : Option Addr} {n5 c5 : Nat} : Calls Tryz.prog 143 #[.agg #[.int .u64 i, .int .u64 j, .int .u64 rt, .int .u64 tk, .slice a0 n0 c0, .bool jl, .int .u64 un, .bool false, .int .u64 pe, .slice a1 n1 c1, .slice a2 n2 c2, .slice a3 n3 c3, .slice a4 n4 c4, .int .u64 dp, .slice a5 n5 c5, .bool he]] w fun e w' => e = .returned (.int .u64 3) ∧ Below w.heap.size w w' := by
  have BB := Below.refl w.heap.size w
  refine gc_enter (n := 6) Tryz.func143 rfl (by kernel_rfl) (by kernel_rfl) ?_
  refine gc_seq ?_
  refine gc_reg ?_
  refine ta 1 [.int .u64 i, .int .u64 j, .int .u64 rt, .int .u64 tk, .slice a0 n0 c0, .bool jl, .int .u64 un, .bool false, .int .u64 pe, .slice a1 n1 c1, .slice a2 n2 c2, .slice a3 n3 c3, .slice a4 n4 c4, .int .u64 dp, .slice a5 n5 c5, .bool he] 183 (pg) ?_
  intro v1 g2 Xg2 hg2 B
  replace BB := joinB BB B
  clear B
  refine t 2 (.int .u64 0) ?_
  refine gl_nil ?_
  refine ge_then ?_
  refine gc_seq ?_
  refine gc_seq ?_
  refine gc_reg ?_
  refine t 3 (pq g2 2) ?_
  refine t 4 (pq g2 7) ?_
  refine tl 5 (.bool false) Xg2 7 ?_
  refine gl_nil ?_
  refine ge_then ?_
  refine gc_no ?_
  refine gc_skip ?_
  refine ge_then ?_
  refine gc_seq ?_
  refine gc_reg ?_
  refine t 2 (.int .u64 3) ?_
  refine gl_nil ?_
  refine ge_then ?_
  refine gc_ret ?_
  refine ge_ret (.int .u64 3) (rs1 2 (by kernel_rfl) (by kernel_rfl)) ?_
  exact ⟨rfl, BB⟩
structure Jgleanstakebondsettle4d where
  b0 : Nat
  b1 : Nat
  a0 : Option Addr
  k0 : Nat
  c0 : Nat
  z0 : Nat
  a1 : Option Addr
  k1 : Nat
  c1 : Nat
  z1 : Nat
  a2 : Option Addr
  k2 : Nat
  c2 : Nat
  z2 : Nat
  a3 : Option Addr
  k3 : Nat
  c3 : Nat
  z3 : Nat
  K : Nat → Prop
  n : Nat
  N : Nat
structure Jgleanstakebondjoin4 where
  a0 : Option Addr
  k0 : Nat
  c0 : Nat
  z0 : Nat
  a1 : Option Addr
  k1 : Nat
  c1 : Nat
  z1 : Nat
  K : Nat → Prop
  n : Nat
  N : Nat
theorem join_l {B : Nat} {w : World} {K : Nat → Prop} {g : Nat} {W : List Ents} {n N : Nat} {a0 : Option Addr} {n0 c0 z0 : Nat} {a2 : Option Addr} {n2 c2 z2 : Nat} {a3 : Option Addr} {n3 c3 z3 : Nat} {a4 : Option Addr} {n4 c4 z4 : Nat} (h : Sx B w K g e5 W n N) (Q0 : Nk w K z0 a0 n0 c0 0) (m0 : n0 ≤ 300) (Q2 : Nk w K z2 a2 n2 c2 0) (m2 : n2 ≤ 300) (Q3 : Nk w K z3 a3 n3 c3 0) (m3 : n3 ≤ 300) (Q4 : Nk w K z4 a4 n4 c4 10000000000000000000000000000000000000) (m4 : n4 ≤ 300) (hn : n ≤ 10000000) (hN : N ≤ 10000000) : Calls Tryz.prog 144 #[.agg #[.int .u64 16, .int .u64 16, .int .u64 500, .int .u64 0, .slice a0 n0 c0, .bool false, .int .u64 0, .bool false, .int .u64 1, .slice none 0 0, .slice a2 n2 c2, .slice a3 n3 c3, .slice none 0 0, .int .u64 0, .slice none 0 0, .bool false], pg g, .int .u64 10, .agg #[.slice a4 n4 c4]] w (fun e w' => ∃ b0 k0 d0 y0 b1 k1 d1 y1 K' n' N', e = .returned (.agg #[.int .u64 16, .int .u64 16, .int .u64 0, .slice none 0 0, .slice b0 k0 d0, .slice b1 k1 d1, .int .u64 10]) ∧ Sx B w' K' g e12 W n' N' ∧ n' ≤ n + 3000 ∧ N' ≤ N + 3000 ∧ (∀ b, K' b → K b ∨ w.heap.size ≤ b) ∧ Chg K w w' ∧ Nq w' K' y0 b0 k0 d0 10000000000000000000000000000000000000 ∧ k0 ≤ 20000 ∧ (k0 = 0 ∨ w.heap.size ≤ y0) ∧ Nq w' K' y1 b1 k1 d1 10000000000000000000000000000000000000 ∧ k1 ≤ 20000 ∧ (k1 = 0 ∨ w.heap.size ≤ y1)) := by
  have U := ut_of h
  refine gc_enter (n := 54) Tryz.func144 rfl (by kernel_rfl) (by kernel_rfl) ?_
  refine gc_seq ?_
  refine gc_reg ?_
  refine ta 4 [.int .u64 16, .int .u64 16, .int .u64 500, .int .u64 0, .slice a0 n0 c0, .bool false, .int .u64 0, .bool false, .int .u64 1, .slice none 0 0, .slice a2 n2 c2, .slice a3 n3 c3, .slice none 0 0, .int .u64 0, .slice none 0 0, .bool false] 183 (pg) ?_
  intro v1 g2 Xg2 hg2 B
  replace U := U.new Xg2 hg2 B
  clear Xg2 hg2 B
  refine ta 7 [.slice a4 n4 c4] 55 (pg) ?_
  intro v3 g4 Xg4 hg4 B
  replace U := U.new Xg4 hg4 B
  clear Xg4 hg4 B
  refine ta 8 [.int .u64 0, .int .u64 0, .int .u64 0, .slice none 0 0, .slice none 0 0, .slice none 0 0, .int .u64 0] 185 (pg) ?_
  intro v5 g6 Xg6 hg6 B
  replace U := U.new Xg6 hg6 B
  clear Xg6 hg6 B
  refine gl_nil ?_
  refine ge_then ?_
  refine gc_seq ?_
  refine gc_reg ?_
  refine t 11 (pq g2 2) ?_
  refine tlr 12 [.int .u64 500, .int .u64 0, .slice a0 n0 c0, .bool false, .int .u64 0, .bool false, .int .u64 1, .slice none 0 0, .slice a2 n2 c2, .slice a3 n3 c3] (U.bk 2 rfl) 2 ?_
  refine ta 9 [.int .u64 0, .int .u64 0, .slice none 0 0, .bool false, .int .u64 0, .bool false, .int .u64 0, .slice none 0 0, .slice none 0 0, .slice none 0 0] 57 (pg) ?_
  intro v7 g8 Xg8 hg8 B
  replace U := U.new Xg8 hg8 B
  clear Xg8 hg8 B
  refine ts (U.bk 0 rfl) 0 (.agg #[.int .u64 500, .int .u64 0, .slice a0 n0 c0, .bool false, .int .u64 0, .bool false, .int .u64 1, .slice none 0 0, .slice a2 n2 c2, .slice a3 n3 c3]) [.int .u64 500, .int .u64 0, .slice a0 n0 c0, .bool false, .int .u64 0, .bool false, .int .u64 1, .slice none 0 0, .slice a2 n2 c2, .slice a3 n3 c3] [.int .u64 500, .int .u64 0, .slice a0 n0 c0, .bool false, .int .u64 0, .bool false, .int .u64 1, .slice none 0 0, .slice a2 n2 c2, .slice a3 n3 c3] ?_
  intro v9 Y C
  replace U := U.put 0 rfl C Y (by decide)
  clear Y C
  refine gl_nil ?_
  refine ge_then ?_
  refine gc_seq ?_
  refine gc_reg ?_
  refine t 13 (pg g) ?_
  have HC : Calls Tryz.prog 187 #[pg g2, pg g] v9 (fun e w' => ∃ j74_a0 j74_k0 j74_c0 j74_z0 j74_a1 j74_k1 j74_c1 j74_z1 j74_a3 j74_k3 j74_c3 j74_z3 K' n' N', e = .returned (.agg #[.int .u64 16, .int .u64 16, .int .u64 0, .slice none 0 0, .slice none 0 0, .slice none 0 0, .int .u64 0]) ∧ Ut w K B g W w' K' e7 n' N' [(g8, [.int .u64 500, .int .u64 0, .slice a0 n0 c0, .bool false, .int .u64 0, .bool false, .int .u64 1, .slice none 0 0, .slice a2 n2 c2, .slice a3 n3 c3], 57), (g6, [.int .u64 0, .int .u64 0, .int .u64 0, .slice none 0 0, .slice none 0 0, .slice none 0 0, .int .u64 0], 185), (g4, [.slice a4 n4 c4], 55), (g2, [.int .u64 16, .int .u64 16, .int .u64 500, .int .u64 0, .slice j74_a3 j74_k3 j74_c3, .bool false, .int .u64 0, .bool false, .int .u64 2, .slice none 0 0, .slice j74_a1 j74_k1 j74_c1, .slice j74_a0 j74_k0 j74_c0, .slice none 0 0, .int .u64 0, .slice none 0 0, .bool false], 183)] [(j74_z0, j74_a0, j74_k0, j74_c0, 0), (j74_z1, j74_a1, j74_k1, j74_c1, 0), (j74_z3, j74_a3, j74_k3, j74_c3, 0)] ∧ (n' ≤ n + 450 ∧ N' ≤ N + 450) ∧ (j74_k0 ≤ 2200 ∧ (j74_k0 = 0 ∨ w.heap.size ≤ j74_z0)) ∧ (j74_k1 ≤ 2200 ∧ (j74_k1 = 0 ∨ w.heap.size ≤ j74_z1)) ∧ (j74_k3 ≤ 2200 ∧ (j74_k3 = 0 ∨ w.heap.size ≤ j74_z3))) := by
    refine gc_enter (n := 61) Tryz.func187 rfl (by kernel_rfl) (by kernel_rfl) ?_
    refine gc_seq ?_
    refine gc_reg ?_
    refine ta 4 [.int .u64 0, .int .u64 0, .int .u64 0, .slice none 0 0, .slice none 0 0, .slice none 0 0, .int .u64 0] 185 (pg) ?_
    intro v10 g11 Xg11 hg11 B
    replace U := U.new Xg11 hg11 B
    clear Xg11 hg11 B
    refine gl_nil ?_
    refine ge_then ?_
    refine gc_seq ?_
    refine gc_seq ?_
    refine gc_reg ?_
    refine t 7 (pg g2) ?_
    refine t 8 (pg g2) ?_
    refine t 9 (pq g2 15) ?_
    refine tl 10 (.bool false) (U.bk 4 rfl) 15 ?_
    refine gl_nil ?_
    refine ge_then ?_
    refine gc_no ?_
    refine gc_skip ?_
    refine ge_then ?_
    refine gc_seq ?_
    replace U := U.drew
    refine gc_draw (fun w' => Blk w' g2 [.int .u64 16, .int .u64 16, .int .u64 500, .int .u64 0, .slice a0 n0 c0, .bool false, .int .u64 0, .bool false, .int .u64 1, .slice none 0 0, .slice a2 n2 c2, .slice a3 n3 c3, .slice none 0 0, .int .u64 0, .slice none 0 0, .bool false] 183) (fun _ => false) (U.bk 4 rfl) ?_
    refine z 0 33 (pg g) ?_
    refine z 1 34 (pg g2) ?_
    refine z 2 35 (pg g2) ?_
    refine z 3 36 (pg g2) ?_
    refine zl 4 37 (.int .u64 16) (fun _ h => h) 0 ?_
    refine z 5 38 (pg g2) ?_
    refine z 6 39 (pg g2) ?_
    refine z 7 40 (pq g2 2) ?_
    refine zlr 8 41 [.int .u64 500, .int .u64 0, .slice a0 n0 c0, .bool false, .int .u64 0, .bool false, .int .u64 1, .slice none 0 0, .slice a2 n2 c2, .slice a3 n3 c3] (fun _ h => h) 2 ?_
    refine gz_join [0, 1, 2, 3, 4, 5, 6, 7, 8, 9, 10, 11, 12, 13, 14] 2 (fun (s : Jgleanstakebondsettle4d) => [(0, pg g2), (1, pg g), (4, pg g11), (5, pg s.b1), (6, pg s.b0), (43, .agg #[.int .u64 500, .int .u64 0, .slice s.a3 s.k3 s.c3, .bool false, .int .u64 0, .bool false, .int .u64 2, .slice none 0 0, .slice s.a1 s.k1 s.c1, .slice s.a0 s.k0 s.c0]), (44, .agg #[.slice s.a2 s.k2 s.c2])]) (fun s w' => Ut w K B g W w' s.K e6 s.n s.N [(s.b0, [.slice none 0 0], 55), (s.b1, [.int .u64 0, .int .u64 0, .slice none 0 0, .bool false, .int .u64 0, .bool false, .int .u64 0, .slice none 0 0, .slice none 0 0, .slice none 0 0], 57), (g11, [.int .u64 0, .int .u64 0, .int .u64 0, .slice none 0 0, .slice none 0 0, .slice none 0 0, .int .u64 0], 185), (g8, [.int .u64 500, .int .u64 0, .slice a0 n0 c0, .bool false, .int .u64 0, .bool false, .int .u64 1, .slice none 0 0, .slice a2 n2 c2, .slice a3 n3 c3], 57), (g6, [.int .u64 0, .int .u64 0, .int .u64 0, .slice none 0 0, .slice none 0 0, .slice none 0 0, .int .u64 0], 185), (g4, [.slice a4 n4 c4], 55), (g2, [.int .u64 16, .int .u64 16, .int .u64 500, .int .u64 0, .slice a0 n0 c0, .bool false, .int .u64 0, .bool false, .int .u64 1, .slice none 0 0, .slice a2 n2 c2, .slice a3 n3 c3, .slice none 0 0, .int .u64 0, .slice none 0 0, .bool false], 183)] [(s.z0, s.a0, s.k0, s.c0, 0), (s.z1, s.a1, s.k1, s.c1, 0), (s.z2, s.a2, s.k2, s.c2, 0), (s.z3, s.a3, s.k3, s.c3, 0)] ∧ (s.n ≤ n + 350 ∧ s.N ≤ N + 350) ∧ (s.k0 ≤ 750 ∧ (s.k0 = 0 ∨ w.heap.size ≤ s.z0)) ∧ (s.k1 ≤ 750 ∧ (s.k1 = 0 ∨ w.heap.size ≤ s.z1)) ∧ (s.k2 ≤ 750 ∧ (s.k2 = 0 ∨ w.heap.size ≤ s.z2)) ∧ (s.k3 ≤ 750 ∧ (s.k3 = 0 ∨ w.heap.size ≤ s.z3))) ?_ ?_
    · intro J12
      refine gz_ready [9, 13, 14] ?_
      refine ga_call 9 (some 42) 232 #[pg g, .int .u64 16, .agg #[.int .u64 500, .int .u64 0, .slice a0 n0 c0, .bool false, .int .u64 0, .bool false, .int .u64 1, .slice none 0 0, .slice a2 n2 c2, .slice a3 n3 c3]] (ClE.cast (E' := e6) (pq := 2) (close_any U.ta.sx ⟨by decide, by decide⟩ ⟨by decide, by decide⟩ (Q0.op U.ta.km U.ta.cc) (by omega) (nq_nil _ _).nk (by omega) (Q2.op U.ta.km U.ta.cc) (by omega) (Q3.op U.ta.km U.ta.cc) (by omega) (by omega) (by omega)) (by decide) rfl) ?_ ?_
      · rintro _ v20 ⟨aq13, nq13, cq13, zq13, aq14, nq14, cq14, zq14, aq15, nq15, cq15, zq15, aq16, nq16, cq16, zq16, K17, n18, N19, rfl, S, qn18, qN19, hK, hC, Q0, mq13, h0, Q1, mq14, h1, Q2, mq15, h2, Q3, mq16, h3⟩
        have fq13 := ne3 h0 U.ta.size
        have fq14 := ne3 h1 U.ta.size
        have fq15 := ne3 h2 U.ta.size
        have fq16 := ne3 h3 U.ta.size
        have L := U.lt
        replace U := ((((U.op S hK hC).add L Q0 h0).add L Q1 h1).add L Q2 h2).add L Q3 h3
        clear L S hK hC Q0 h0 Q1 h1 Q2 h2 Q3 h3
        replace U := U.val 3 rfl (show _ = (0 : Int) by decide +kernel)
        replace U := U.val 2 rfl (show _ = (0 : Int) by decide +kernel)
        replace U := U.val 1 rfl (show _ = (0 : Int) by decide +kernel)
        replace U := U.val 0 rfl (show _ = (0 : Int) by decide +kernel)
        refine ⟨_, rfl, (U.bk 4 rfl), ?_⟩
        refine z 10 32 (.tuple #[.agg #[.int .u64 500, .int .u64 0, .slice aq13 nq13 cq13, .bool false, .int .u64 0, .bool false, .int .u64 2, .slice none 0 0, .slice aq15 nq15 cq15, .slice aq16 nq16 cq16], .agg #[.slice aq14 nq14 cq14]]) ?_
        refine z 11 43 (.agg #[.int .u64 500, .int .u64 0, .slice aq13 nq13 cq13, .bool false, .int .u64 0, .bool false, .int .u64 2, .slice none 0 0, .slice aq15 nq15 cq15, .slice aq16 nq16 cq16]) ?_
        refine z 12 44 (.agg #[.slice aq14 nq14 cq14]) ?_
        refine gz_ready [13, 14] ?_
        refine zaa 13 5 [.int .u64 0, .int .u64 0, .slice none 0 0, .bool false, .int .u64 0, .bool false, .int .u64 0, .slice none 0 0, .slice none 0 0, .slice none 0 0] 57 (pg) ?_ ?_
        · intro v21 g22 Xg22 hg22 B
          replace U := U.new Xg22 hg22 B
          clear Xg22 hg22 B
          refine ⟨(U.bk 5 rfl), ?_⟩
          refine za 14 6 [.slice none 0 0] 55 (pg) ?_
          intro v23 g24 Xg24 hg24 B
          replace U := U.new Xg24 hg24 B
          clear Xg24 hg24 B
          refine ⟨(U.bk 6 rfl), ?_⟩
          exact gz_to J12 (⟨g24, g22, aq16, nq16, cq16, zq16, aq15, nq15, cq15, zq15, aq14, nq14, cq14, zq14, aq13, nq13, cq13, zq13, _, _, _⟩ : Jgleanstakebondsettle4d) ⟨U.sel [0, 1, 2, 3, 4, 5, 6] [0, 1, 2, 3], ⟨by (try dsimp only); omega, by (try dsimp only); omega⟩, ⟨by (try dsimp only); omega, fq16⟩, ⟨by (try dsimp only); omega, fq15⟩, ⟨by (try dsimp only); omega, fq14⟩, ⟨by (try dsimp only); omega, fq13⟩⟩
        refine zaa 14 6 [.slice none 0 0] 55 (pg) ?_ ?_
        · intro v25 g26 Xg26 hg26 B
          replace U := U.new Xg26 hg26 B
          clear Xg26 hg26 B
          refine ⟨(U.bk 5 rfl), ?_⟩
          refine za 13 5 [.int .u64 0, .int .u64 0, .slice none 0 0, .bool false, .int .u64 0, .bool false, .int .u64 0, .slice none 0 0, .slice none 0 0, .slice none 0 0] 57 (pg) ?_
          intro v27 g28 Xg28 hg28 B
          replace U := U.new Xg28 hg28 B
          clear Xg28 hg28 B
          refine ⟨(U.bk 6 rfl), ?_⟩
          exact gz_to J12 (⟨g26, g28, aq16, nq16, cq16, zq16, aq15, nq15, cq15, zq15, aq14, nq14, cq14, zq14, aq13, nq13, cq13, zq13, _, _, _⟩ : Jgleanstakebondsettle4d) ⟨U.sel [1, 0, 2, 3, 4, 5, 6] [0, 1, 2, 3], ⟨by (try dsimp only); omega, by (try dsimp only); omega⟩, ⟨by (try dsimp only); omega, fq16⟩, ⟨by (try dsimp only); omega, fq15⟩, ⟨by (try dsimp only); omega, fq14⟩, ⟨by (try dsimp only); omega, fq13⟩⟩
        exact ga_nil
      refine zaa 13 5 [.int .u64 0, .int .u64 0, .slice none 0 0, .bool false, .int .u64 0, .bool false, .int .u64 0, .slice none 0 0, .slice none 0 0, .slice none 0 0] 57 (pg) ?_ ?_
      · intro v29 g30 Xg30 hg30 B
        replace U := U.new Xg30 hg30 B
        clear Xg30 hg30 B
        refine ⟨(U.bk 5 rfl), ?_⟩
        refine gz_ready [9, 14] ?_
        refine ga_call 9 (some 42) 232 #[pg g, .int .u64 16, .agg #[.int .u64 500, .int .u64 0, .slice a0 n0 c0, .bool false, .int .u64 0, .bool false, .int .u64 1, .slice none 0 0, .slice a2 n2 c2, .slice a3 n3 c3]] (ClE.cast (E' := e6) (pq := 2) (close_any U.ta.sx ⟨by decide, by decide⟩ ⟨by decide, by decide⟩ (Q0.op U.ta.km U.ta.cc) (by omega) (nq_nil _ _).nk (by omega) (Q2.op U.ta.km U.ta.cc) (by omega) (Q3.op U.ta.km U.ta.cc) (by omega) (by omega) (by omega)) (by decide) rfl) ?_ ?_
        · rintro _ v38 ⟨aq31, nq31, cq31, zq31, aq32, nq32, cq32, zq32, aq33, nq33, cq33, zq33, aq34, nq34, cq34, zq34, K35, n36, N37, rfl, S, qn36, qN37, hK, hC, Q0, mq31, h0, Q1, mq32, h1, Q2, mq33, h2, Q3, mq34, h3⟩
          have fq31 := ne3 h0 U.ta.size
          have fq32 := ne3 h1 U.ta.size
          have fq33 := ne3 h2 U.ta.size
          have fq34 := ne3 h3 U.ta.size
          have L := U.lt
          replace U := ((((U.op S hK hC).add L Q0 h0).add L Q1 h1).add L Q2 h2).add L Q3 h3
          clear L S hK hC Q0 h0 Q1 h1 Q2 h2 Q3 h3
          replace U := U.val 3 rfl (show _ = (0 : Int) by decide +kernel)
          replace U := U.val 2 rfl (show _ = (0 : Int) by decide +kernel)
          replace U := U.val 1 rfl (show _ = (0 : Int) by decide +kernel)
          replace U := U.val 0 rfl (show _ = (0 : Int) by decide +kernel)
          refine ⟨_, rfl, (U.bk 5 rfl), ?_⟩
          refine z 10 32 (.tuple #[.agg #[.int .u64 500, .int .u64 0, .slice aq31 nq31 cq31, .bool false, .int .u64 0, .bool false, .int .u64 2, .slice none 0 0, .slice aq33 nq33 cq33, .slice aq34 nq34 cq34], .agg #[.slice aq32 nq32 cq32]]) ?_
          refine z 11 43 (.agg #[.int .u64 500, .int .u64 0, .slice aq31 nq31 cq31, .bool false, .int .u64 0, .bool false, .int .u64 2, .slice none 0 0, .slice aq33 nq33 cq33, .slice aq34 nq34 cq34]) ?_
          refine z 12 44 (.agg #[.slice aq32 nq32 cq32]) ?_
          refine za 14 6 [.slice none 0 0] 55 (pg) ?_
          intro v39 g40 Xg40 hg40 B
          replace U := U.new Xg40 hg40 B
          clear Xg40 hg40 B
          refine ⟨(U.bk 6 rfl), ?_⟩
          exact gz_to J12 (⟨g40, g30, aq34, nq34, cq34, zq34, aq33, nq33, cq33, zq33, aq32, nq32, cq32, zq32, aq31, nq31, cq31, zq31, _, _, _⟩ : Jgleanstakebondsettle4d) ⟨U.sel [0, 1, 2, 3, 4, 5, 6] [0, 1, 2, 3], ⟨by (try dsimp only); omega, by (try dsimp only); omega⟩, ⟨by (try dsimp only); omega, fq34⟩, ⟨by (try dsimp only); omega, fq33⟩, ⟨by (try dsimp only); omega, fq32⟩, ⟨by (try dsimp only); omega, fq31⟩⟩
        refine zaa 14 6 [.slice none 0 0] 55 (pg) ?_ ?_
        · intro v41 g42 Xg42 hg42 B
          replace U := U.new Xg42 hg42 B
          clear Xg42 hg42 B
          refine ⟨(U.bk 6 rfl), ?_⟩
          refine zc 9 42 232 #[pg g, .int .u64 16, .agg #[.int .u64 500, .int .u64 0, .slice a0 n0 c0, .bool false, .int .u64 0, .bool false, .int .u64 1, .slice none 0 0, .slice a2 n2 c2, .slice a3 n3 c3]] (ClE.cast (E' := e6) (pq := 2) (close_any U.ta.sx ⟨by decide, by decide⟩ ⟨by decide, by decide⟩ (Q0.op U.ta.km U.ta.cc) (by omega) (nq_nil _ _).nk (by omega) (Q2.op U.ta.km U.ta.cc) (by omega) (Q3.op U.ta.km U.ta.cc) (by omega) (by omega) (by omega)) (by decide) rfl) ?_
          rintro _ v50 ⟨aq43, nq43, cq43, zq43, aq44, nq44, cq44, zq44, aq45, nq45, cq45, zq45, aq46, nq46, cq46, zq46, K47, n48, N49, rfl, S, qn48, qN49, hK, hC, Q0, mq43, h0, Q1, mq44, h1, Q2, mq45, h2, Q3, mq46, h3⟩
          have fq43 := ne3 h0 U.ta.size
          have fq44 := ne3 h1 U.ta.size
          have fq45 := ne3 h2 U.ta.size
          have fq46 := ne3 h3 U.ta.size
          have L := U.lt
          replace U := ((((U.op S hK hC).add L Q0 h0).add L Q1 h1).add L Q2 h2).add L Q3 h3
          clear L S hK hC Q0 h0 Q1 h1 Q2 h2 Q3 h3
          replace U := U.val 3 rfl (show _ = (0 : Int) by decide +kernel)
          replace U := U.val 2 rfl (show _ = (0 : Int) by decide +kernel)
          replace U := U.val 1 rfl (show _ = (0 : Int) by decide +kernel)
          replace U := U.val 0 rfl (show _ = (0 : Int) by decide +kernel)
          refine ⟨_, rfl, (U.bk 6 rfl), ?_⟩
          refine z 10 32 (.tuple #[.agg #[.int .u64 500, .int .u64 0, .slice aq43 nq43 cq43, .bool false, .int .u64 0, .bool false, .int .u64 2, .slice none 0 0, .slice aq45 nq45 cq45, .slice aq46 nq46 cq46], .agg #[.slice aq44 nq44 cq44]]) ?_
          refine z 11 43 (.agg #[.int .u64 500, .int .u64 0, .slice aq43 nq43 cq43, .bool false, .int .u64 0, .bool false, .int .u64 2, .slice none 0 0, .slice aq45 nq45 cq45, .slice aq46 nq46 cq46]) ?_
          refine z 12 44 (.agg #[.slice aq44 nq44 cq44]) ?_
          exact gz_to J12 (⟨g42, g30, aq46, nq46, cq46, zq46, aq45, nq45, cq45, zq45, aq44, nq44, cq44, zq44, aq43, nq43, cq43, zq43, _, _, _⟩ : Jgleanstakebondsettle4d) ⟨U.sel [0, 1, 2, 3, 4, 5, 6] [0, 1, 2, 3], ⟨by (try dsimp only); omega, by (try dsimp only); omega⟩, ⟨by (try dsimp only); omega, fq46⟩, ⟨by (try dsimp only); omega, fq45⟩, ⟨by (try dsimp only); omega, fq44⟩, ⟨by (try dsimp only); omega, fq43⟩⟩
        exact ga_nil
      refine zaa 14 6 [.slice none 0 0] 55 (pg) ?_ ?_
      · intro v51 g52 Xg52 hg52 B
        replace U := U.new Xg52 hg52 B
        clear Xg52 hg52 B
        refine ⟨(U.bk 5 rfl), ?_⟩
        refine gz_ready [9, 13] ?_
        refine ga_call 9 (some 42) 232 #[pg g, .int .u64 16, .agg #[.int .u64 500, .int .u64 0, .slice a0 n0 c0, .bool false, .int .u64 0, .bool false, .int .u64 1, .slice none 0 0, .slice a2 n2 c2, .slice a3 n3 c3]] (ClE.cast (E' := e6) (pq := 2) (close_any U.ta.sx ⟨by decide, by decide⟩ ⟨by decide, by decide⟩ (Q0.op U.ta.km U.ta.cc) (by omega) (nq_nil _ _).nk (by omega) (Q2.op U.ta.km U.ta.cc) (by omega) (Q3.op U.ta.km U.ta.cc) (by omega) (by omega) (by omega)) (by decide) rfl) ?_ ?_
        · rintro _ v60 ⟨aq53, nq53, cq53, zq53, aq54, nq54, cq54, zq54, aq55, nq55, cq55, zq55, aq56, nq56, cq56, zq56, K57, n58, N59, rfl, S, qn58, qN59, hK, hC, Q0, mq53, h0, Q1, mq54, h1, Q2, mq55, h2, Q3, mq56, h3⟩
          have fq53 := ne3 h0 U.ta.size
          have fq54 := ne3 h1 U.ta.size
          have fq55 := ne3 h2 U.ta.size
          have fq56 := ne3 h3 U.ta.size
          have L := U.lt
          replace U := ((((U.op S hK hC).add L Q0 h0).add L Q1 h1).add L Q2 h2).add L Q3 h3
          clear L S hK hC Q0 h0 Q1 h1 Q2 h2 Q3 h3
          replace U := U.val 3 rfl (show _ = (0 : Int) by decide +kernel)
          replace U := U.val 2 rfl (show _ = (0 : Int) by decide +kernel)
          replace U := U.val 1 rfl (show _ = (0 : Int) by decide +kernel)
          replace U := U.val 0 rfl (show _ = (0 : Int) by decide +kernel)
          refine ⟨_, rfl, (U.bk 5 rfl), ?_⟩
          refine z 10 32 (.tuple #[.agg #[.int .u64 500, .int .u64 0, .slice aq53 nq53 cq53, .bool false, .int .u64 0, .bool false, .int .u64 2, .slice none 0 0, .slice aq55 nq55 cq55, .slice aq56 nq56 cq56], .agg #[.slice aq54 nq54 cq54]]) ?_
          refine z 11 43 (.agg #[.int .u64 500, .int .u64 0, .slice aq53 nq53 cq53, .bool false, .int .u64 0, .bool false, .int .u64 2, .slice none 0 0, .slice aq55 nq55 cq55, .slice aq56 nq56 cq56]) ?_
          refine z 12 44 (.agg #[.slice aq54 nq54 cq54]) ?_
          refine za 13 5 [.int .u64 0, .int .u64 0, .slice none 0 0, .bool false, .int .u64 0, .bool false, .int .u64 0, .slice none 0 0, .slice none 0 0, .slice none 0 0] 57 (pg) ?_
          intro v61 g62 Xg62 hg62 B
          replace U := U.new Xg62 hg62 B
          clear Xg62 hg62 B
          refine ⟨(U.bk 6 rfl), ?_⟩
          exact gz_to J12 (⟨g52, g62, aq56, nq56, cq56, zq56, aq55, nq55, cq55, zq55, aq54, nq54, cq54, zq54, aq53, nq53, cq53, zq53, _, _, _⟩ : Jgleanstakebondsettle4d) ⟨U.sel [1, 0, 2, 3, 4, 5, 6] [0, 1, 2, 3], ⟨by (try dsimp only); omega, by (try dsimp only); omega⟩, ⟨by (try dsimp only); omega, fq56⟩, ⟨by (try dsimp only); omega, fq55⟩, ⟨by (try dsimp only); omega, fq54⟩, ⟨by (try dsimp only); omega, fq53⟩⟩
        refine zaa 13 5 [.int .u64 0, .int .u64 0, .slice none 0 0, .bool false, .int .u64 0, .bool false, .int .u64 0, .slice none 0 0, .slice none 0 0, .slice none 0 0] 57 (pg) ?_ ?_
        · intro v63 g64 Xg64 hg64 B
          replace U := U.new Xg64 hg64 B
          clear Xg64 hg64 B
          refine ⟨(U.bk 6 rfl), ?_⟩
          refine zc 9 42 232 #[pg g, .int .u64 16, .agg #[.int .u64 500, .int .u64 0, .slice a0 n0 c0, .bool false, .int .u64 0, .bool false, .int .u64 1, .slice none 0 0, .slice a2 n2 c2, .slice a3 n3 c3]] (ClE.cast (E' := e6) (pq := 2) (close_any U.ta.sx ⟨by decide, by decide⟩ ⟨by decide, by decide⟩ (Q0.op U.ta.km U.ta.cc) (by omega) (nq_nil _ _).nk (by omega) (Q2.op U.ta.km U.ta.cc) (by omega) (Q3.op U.ta.km U.ta.cc) (by omega) (by omega) (by omega)) (by decide) rfl) ?_
          rintro _ v72 ⟨aq65, nq65, cq65, zq65, aq66, nq66, cq66, zq66, aq67, nq67, cq67, zq67, aq68, nq68, cq68, zq68, K69, n70, N71, rfl, S, qn70, qN71, hK, hC, Q0, mq65, h0, Q1, mq66, h1, Q2, mq67, h2, Q3, mq68, h3⟩
          have fq65 := ne3 h0 U.ta.size
          have fq66 := ne3 h1 U.ta.size
          have fq67 := ne3 h2 U.ta.size
          have fq68 := ne3 h3 U.ta.size
          have L := U.lt
          replace U := ((((U.op S hK hC).add L Q0 h0).add L Q1 h1).add L Q2 h2).add L Q3 h3
          clear L S hK hC Q0 h0 Q1 h1 Q2 h2 Q3 h3
          replace U := U.val 3 rfl (show _ = (0 : Int) by decide +kernel)
          replace U := U.val 2 rfl (show _ = (0 : Int) by decide +kernel)
          replace U := U.val 1 rfl (show _ = (0 : Int) by decide +kernel)
          replace U := U.val 0 rfl (show _ = (0 : Int) by decide +kernel)
          refine ⟨_, rfl, (U.bk 6 rfl), ?_⟩
          refine z 10 32 (.tuple #[.agg #[.int .u64 500, .int .u64 0, .slice aq65 nq65 cq65, .bool false, .int .u64 0, .bool false, .int .u64 2, .slice none 0 0, .slice aq67 nq67 cq67, .slice aq68 nq68 cq68], .agg #[.slice aq66 nq66 cq66]]) ?_
          refine z 11 43 (.agg #[.int .u64 500, .int .u64 0, .slice aq65 nq65 cq65, .bool false, .int .u64 0, .bool false, .int .u64 2, .slice none 0 0, .slice aq67 nq67 cq67, .slice aq68 nq68 cq68]) ?_
          refine z 12 44 (.agg #[.slice aq66 nq66 cq66]) ?_
          exact gz_to J12 (⟨g52, g64, aq68, nq68, cq68, zq68, aq67, nq67, cq67, zq67, aq66, nq66, cq66, zq66, aq65, nq65, cq65, zq65, _, _, _⟩ : Jgleanstakebondsettle4d) ⟨U.sel [1, 0, 2, 3, 4, 5, 6] [0, 1, 2, 3], ⟨by (try dsimp only); omega, by (try dsimp only); omega⟩, ⟨by (try dsimp only); omega, fq68⟩, ⟨by (try dsimp only); omega, fq67⟩, ⟨by (try dsimp only); omega, fq66⟩, ⟨by (try dsimp only); omega, fq65⟩⟩
        exact ga_nil
      exact ga_nil
    clear U
    rintro ⟨j74_b0, j74_b1, j74_a0, j74_k0, j74_c0, j74_z0, j74_a1, j74_k1, j74_c1, j74_z1, j74_a2, j74_k2, j74_c2, j74_z2, j74_a3, j74_k3, j74_c3, j74_z3, j74_K, j74_n, j74_N⟩ v73 ⟨U, ⟨j74_hn, j74_hN⟩, ⟨mj74_0, fj74_0⟩, ⟨mj74_1, fj74_1⟩, ⟨mj74_2, fj74_2⟩, ⟨mj74_3, fj74_3⟩⟩
    dsimp only at *
    refine zs 15 (U.bk 1 rfl) 0 (.agg #[.int .u64 500, .int .u64 0, .slice j74_a3 j74_k3 j74_c3, .bool false, .int .u64 0, .bool false, .int .u64 2, .slice none 0 0, .slice j74_a1 j74_k1 j74_c1, .slice j74_a0 j74_k0 j74_c0]) [.int .u64 500, .int .u64 0, .slice j74_a3 j74_k3 j74_c3, .bool false, .int .u64 0, .bool false, .int .u64 2, .slice none 0 0, .slice j74_a1 j74_k1 j74_c1, .slice j74_a0 j74_k0 j74_c0] [.int .u64 500, .int .u64 0, .slice j74_a3 j74_k3 j74_c3, .bool false, .int .u64 0, .bool false, .int .u64 2, .slice none 0 0, .slice j74_a1 j74_k1 j74_c1, .slice j74_a0 j74_k0 j74_c0] ?_
    intro v75 Y C
    replace U := U.put 1 rfl C Y (by decide)
    clear Y C
    refine ⟨(U.bk 6 rfl), ?_⟩
    refine zs 16 (U.bk 0 rfl) 0 (.agg #[.slice j74_a2 j74_k2 j74_c2]) [.slice j74_a2 j74_k2 j74_c2] [.slice j74_a2 j74_k2 j74_c2] ?_
    intro v76 Y C
    replace U := U.put 0 rfl C Y (by decide)
    clear Y C
    refine ⟨(U.bk 6 rfl), ?_⟩
    refine gz_done ?_
    refine ge_then ?_
    refine gc_seq ?_
    refine gc_reg ?_
    refine t 45 (pg g) ?_
    refine tlr 46 [.slice j74_a2 j74_k2 j74_c2] (U.bk 0 rfl) 0 ?_
    refine tc 47 233 #[pg g, .agg #[.slice j74_a2 j74_k2 j74_c2]] (SxF.castE (pour_any (p := 0) (er := 80) U.ta.sx (U.nq 2 rfl).nk (by omega) (by decide +kernel) (by omega) (by omega)) (show plE e6 (0 + 0) = e7 from rfl)) ?_
    rintro _ v81 ⟨rfl, K77, n78, N79, S, qn78, qN79, hK, hC⟩
    refine ⟨_, rfl, ?_⟩
    replace U := U.op S hK hC
    clear S hK hC
    refine gl_nil ?_
    refine ge_then ?_
    refine gc_seq ?_
    refine gc_reg ?_
    refine t 48 (pg g2) ?_
    refine tlr 49 [.int .u64 500, .int .u64 0, .slice j74_a3 j74_k3 j74_c3, .bool false, .int .u64 0, .bool false, .int .u64 2, .slice none 0 0, .slice j74_a1 j74_k1 j74_c1, .slice j74_a0 j74_k0 j74_c0] (U.bk 1 rfl) 0 ?_
    refine t 50 (pg g2) ?_
    refine t 51 (pq g2 2) ?_
    refine ts (U.bk 6 rfl) 2 (.agg #[.int .u64 500, .int .u64 0, .slice j74_a3 j74_k3 j74_c3, .bool false, .int .u64 0, .bool false, .int .u64 2, .slice none 0 0, .slice j74_a1 j74_k1 j74_c1, .slice j74_a0 j74_k0 j74_c0]) [.int .u64 500, .int .u64 0, .slice j74_a3 j74_k3 j74_c3, .bool false, .int .u64 0, .bool false, .int .u64 2, .slice none 0 0, .slice j74_a1 j74_k1 j74_c1, .slice j74_a0 j74_k0 j74_c0] [.int .u64 16, .int .u64 16, .int .u64 500, .int .u64 0, .slice j74_a3 j74_k3 j74_c3, .bool false, .int .u64 0, .bool false, .int .u64 2, .slice none 0 0, .slice j74_a1 j74_k1 j74_c1, .slice j74_a0 j74_k0 j74_c0, .slice none 0 0, .int .u64 0, .slice none 0 0, .bool false] ?_
    intro v82 Y C
    replace U := U.put 6 rfl C Y (by decide)
    clear Y C
    refine gl_nil ?_
    refine ge_then ?_
    refine gc_seq ?_
    replace U := U.drew
    refine gc_draw (fun w' => Blk w' g2 [.int .u64 16, .int .u64 16, .int .u64 500, .int .u64 0, .slice j74_a3 j74_k3 j74_c3, .bool false, .int .u64 0, .bool false, .int .u64 2, .slice none 0 0, .slice j74_a1 j74_k1 j74_c1, .slice j74_a0 j74_k0 j74_c0, .slice none 0 0, .int .u64 0, .slice none 0 0, .bool false] 183) (fun _ => false) (U.bk 6 rfl) ?_
    refine z 0 52 (pg g2) ?_
    refine z 1 53 (pg g2) ?_
    refine z 2 54 (pg g2) ?_
    refine zl 3 55 (.int .u64 16) (fun _ h => h) 0 ?_
    refine z 4 56 (pg g2) ?_
    refine z 5 57 (pg g2) ?_
    refine z 6 58 (pq g2 1) ?_
    refine zl 7 59 (.int .u64 16) (fun _ h => h) 1 ?_
    refine zr 8 60 (.agg #[.int .u64 16, .int .u64 16, .int .u64 0, .slice none 0 0, .slice none 0 0, .slice none 0 0, .int .u64 0]) (by intro _ _; kernel_rfl) ?_
    refine zs 9 (U.bk 2 rfl) 0 (.agg #[.int .u64 16, .int .u64 16, .int .u64 0, .slice none 0 0, .slice none 0 0, .slice none 0 0, .int .u64 0]) [.int .u64 16, .int .u64 16, .int .u64 0, .slice none 0 0, .slice none 0 0, .slice none 0 0, .int .u64 0] [.int .u64 16, .int .u64 16, .int .u64 0, .slice none 0 0, .slice none 0 0, .slice none 0 0, .int .u64 0] ?_
    intro v83 Y C
    replace U := U.put 2 rfl C Y (by decide)
    clear Y C
    refine ⟨(U.bk 6 rfl), ?_⟩
    refine gz_done ?_
    refine ge_then ?_
    refine gc_fr [(4, pg g11)] (by kernel_rfl) ?_
    refine gc_ret ?_
    refine ge_ret (.agg #[.int .u64 16, .int .u64 16, .int .u64 0, .slice none 0 0, .slice none 0 0, .slice none 0 0, .int .u64 0]) (rsc 4 (T := 185) (by kernel_rfl) (by kernel_rfl) (lr (U.bk 2 rfl) 0)) ?_
    exact ⟨_, _, _, _, _, _, _, _, _, _, _, _, _, _, _, rfl, U.sel [3, 4, 5, 6] [0, 1, 3], ⟨by (try dsimp only); omega, by (try dsimp only); omega⟩, ⟨by (try dsimp only); omega, fj74_0⟩, ⟨by (try dsimp only); omega, fj74_1⟩, ⟨by (try dsimp only); omega, fj74_3⟩⟩
  clear U
  refine tc 14 187 #[pg g2, pg g] (HC) ?_
  rintro _ v87 ⟨j74_a0, j74_k0, j74_c0, j74_z0, j74_a1, j74_k1, j74_c1, j74_z1, j74_a3, j74_k3, j74_c3, j74_z3, K84, n85, N86, rfl, U, ⟨qn85, qN86⟩, ⟨mj74_0, fj74_0⟩, ⟨mj74_1, fj74_1⟩, ⟨mj74_3, fj74_3⟩⟩
  refine ⟨_, rfl, ?_⟩
  clear HC
  refine ta 10 [.int .u64 0, .int .u64 0, .int .u64 0, .slice none 0 0, .slice none 0 0, .slice none 0 0, .int .u64 0] 185 (pg) ?_
  intro v88 g89 Xg89 hg89 B
  replace U := U.new Xg89 hg89 B
  clear Xg89 hg89 B
  refine ts (U.bk 0 rfl) 0 (.agg #[.int .u64 16, .int .u64 16, .int .u64 0, .slice none 0 0, .slice none 0 0, .slice none 0 0, .int .u64 0]) [.int .u64 16, .int .u64 16, .int .u64 0, .slice none 0 0, .slice none 0 0, .slice none 0 0, .int .u64 0] [.int .u64 16, .int .u64 16, .int .u64 0, .slice none 0 0, .slice none 0 0, .slice none 0 0, .int .u64 0] ?_
  intro v90 Y C
  replace U := U.put 0 rfl C Y (by decide)
  clear Y C
  refine gl_nil ?_
  refine ge_then ?_
  refine gc_fr [(1, pg g), (2, .int .u64 10), (4, pg g2), (7, pg g4), (8, pg g6), (9, pg g8), (10, pg g89)] (by kernel_rfl) ?_
  refine gc_seq ?_
  refine gc_reg ?_
  refine t 15 (pq g2 2) ?_
  refine t 16 (pq g2 3) ?_
  refine tl 17 (.int .u64 0) (U.bk 4 rfl) 3 ?_
  refine t 18 (.int .u64 10) ?_
  refine t 19 (.int .u64 10) ?_
  refine t 20 (pq g2 2) ?_
  refine t 21 (pq g2 3) ?_
  refine ts (U.bk 4 rfl) 3 (.int .u64 10) [.int .u64 10] [.int .u64 16, .int .u64 16, .int .u64 500, .int .u64 10, .slice j74_a3 j74_k3 j74_c3, .bool false, .int .u64 0, .bool false, .int .u64 2, .slice none 0 0, .slice j74_a1 j74_k1 j74_c1, .slice j74_a0 j74_k0 j74_c0, .slice none 0 0, .int .u64 0, .slice none 0 0, .bool false] ?_
  intro v91 Y C
  replace U := U.put 4 rfl C Y (by decide)
  clear Y C
  refine gl_nil ?_
  refine ge_then ?_
  refine gc_join (fun (s : Jgleanstakebondjoin4) => [(1, pg g), (4, pg g2), (8, pg g6), (9, pg g8), (10, pg g89)]) (fun s w' => Ut w K B g W w' s.K e7 s.n s.N [(g89, [.int .u64 16, .int .u64 16, .int .u64 0, .slice none 0 0, .slice none 0 0, .slice none 0 0, .int .u64 0], 185), (g8, [.int .u64 500, .int .u64 0, .slice a0 n0 c0, .bool false, .int .u64 0, .bool false, .int .u64 1, .slice none 0 0, .slice a2 n2 c2, .slice a3 n3 c3], 57), (g6, [.int .u64 0, .int .u64 0, .int .u64 0, .slice none 0 0, .slice none 0 0, .slice none 0 0, .int .u64 0], 185), (g4, [.slice a4 n4 c4], 55), (g2, [.int .u64 16, .int .u64 16, .int .u64 500, .int .u64 10, .slice s.a1 s.k1 s.c1, .bool false, .int .u64 0, .bool false, .int .u64 2, .slice none 0 0, .slice j74_a1 j74_k1 j74_c1, .slice j74_a0 j74_k0 j74_c0, .slice s.a0 s.k0 s.c0, .int .u64 0, .slice none 0 0, .bool false], 183)] [(s.z0, s.a0, s.k0, s.c0, 10000000000000000000000000000000000000), (s.z1, s.a1, s.k1, s.c1, 10000000000000000000000000000000000000), (j74_z0, j74_a0, j74_k0, j74_c0, 0), (j74_z1, j74_a1, j74_k1, j74_c1, 0), (j74_z3, j74_a3, j74_k3, j74_c3, 0)] ∧ (s.n ≤ n + 800 ∧ s.N ≤ N + 800) ∧ (s.k0 ≤ 2600 ∧ (s.k0 = 0 ∨ w.heap.size ≤ s.z0)) ∧ (s.k1 ≤ 2600 ∧ (s.k1 = 0 ∨ w.heap.size ≤ s.z1))) ?_ ?_
  · replace U := U.drew
    refine gc_draw (fun w' => Blk w' g2 [.int .u64 16, .int .u64 16, .int .u64 500, .int .u64 10, .slice j74_a3 j74_k3 j74_c3, .bool false, .int .u64 0, .bool false, .int .u64 2, .slice none 0 0, .slice j74_a1 j74_k1 j74_c1, .slice j74_a0 j74_k0 j74_c0, .slice none 0 0, .int .u64 0, .slice none 0 0, .bool false] 183 ∧ Blk w' g4 [.slice a4 n4 c4] 55) (fun i => decide (12 ≤ i)) ⟨(U.bk 4 rfl), (U.bk 3 rfl)⟩ ?_
    refine zp 0 22 (pq g2 2) ?_
    refine zp 1 23 (pq g2 4) ?_
    refine zlr 2 24 [.slice j74_a3 j74_k3 j74_c3] (fun _ h => h.1) 4 ?_
    refine zlr 3 25 [.slice a4 n4 c4] (fun _ h => h.2) 0 ?_
    refine zp 5 27 (pq g2 12) ?_
    refine zp 6 28 (pq g2 12) ?_
    refine zlr 7 29 [.slice none 0 0] (fun _ h => h.1) 12 ?_
    refine gz_ready [4, 8] ?_
    refine ga_call 4 (some 26) 185 #[.agg #[.slice j74_a3 j74_k3 j74_c3], .agg #[.slice a4 n4 c4]] (eAdd (U.nq 2 rfl).nat (by omega) (Q4.op U.ta.km U.ta.cc).nat (by omega)) ?_ ?_
    · rintro _ v93 ⟨aq92, nq92, cq92, zq92, rfl, M, h, mq92, B⟩
      have fq92 := ne3 h U.ta.size
      replace U := U.num M h B
      clear M h B
      replace U := U.val 0 rfl (show _ = (10000000000000000000000000000000000000 : Int) by decide +kernel)
      refine ⟨_, rfl, ⟨(U.bk 4 rfl), (U.bk 3 rfl)⟩, ?_⟩
      skip
      refine zw 8 30 (.agg #[.slice a4 n4 c4]) _ (run_ldr (U.bk 3 rfl) (off := 0) (vs := [.slice a4 n4 c4]) rfl ⟨_, _, rfl, by kernel_rfl, by kernel_rfl⟩) ⟨(U.bk 4 rfl), (U.bk 3 rfl)⟩ ?_
      refine zc 9 31 185 #[.agg #[.slice none 0 0], .agg #[.slice a4 n4 c4]] (eAdd (nf_nil _ 0).nat (by omega) (Q4.op U.ta.km U.ta.cc).nat (by omega)) ?_
      rintro _ v95 ⟨aq94, nq94, cq94, zq94, rfl, M, h, mq94, B⟩
      have fq94 := ne3 h U.ta.size
      replace U := U.num M h B
      clear M h B
      replace U := U.val 0 rfl (show _ = (10000000000000000000000000000000000000 : Int) by decide +kernel)
      refine ⟨_, rfl, ⟨(U.bk 4 rfl), (U.bk 3 rfl)⟩, ?_⟩
      refine zp 10 32 (pq g2 2) ?_
      refine zp 11 33 (pq g2 4) ?_
      refine gz_late ?_
      refine ys 12 (U.bk 4 rfl) 4 (.agg #[.slice aq92 nq92 cq92]) [.slice aq92 nq92 cq92] [.int .u64 16, .int .u64 16, .int .u64 500, .int .u64 10, .slice aq92 nq92 cq92, .bool false, .int .u64 0, .bool false, .int .u64 2, .slice none 0 0, .slice j74_a1 j74_k1 j74_c1, .slice j74_a0 j74_k0 j74_c0, .slice none 0 0, .int .u64 0, .slice none 0 0, .bool false] ?_
      intro v96 Y C
      replace U := U.put 4 rfl C Y (by decide)
      clear Y C
      refine yt 13 34 (pq g2 12) ?_
      refine yt 14 35 (pq g2 12) ?_
      refine ys 15 (U.bk 4 rfl) 12 (.agg #[.slice aq94 nq94 cq94]) [.slice aq94 nq94 cq94] [.int .u64 16, .int .u64 16, .int .u64 500, .int .u64 10, .slice aq92 nq92 cq92, .bool false, .int .u64 0, .bool false, .int .u64 2, .slice none 0 0, .slice j74_a1 j74_k1 j74_c1, .slice j74_a0 j74_k0 j74_c0, .slice aq94 nq94 cq94, .int .u64 0, .slice none 0 0, .bool false] ?_
      intro v97 Y C
      replace U := U.put 4 rfl C Y (by decide)
      clear Y C
      refine gy_done ?_
      exact ge_join (⟨aq94, nq94, cq94, zq94, aq92, nq92, cq92, zq92, _, _, _⟩ : Jgleanstakebondjoin4) ⟨U.sel [0, 1, 2, 3, 4] [0, 1, 2, 3, 4], ⟨by (try dsimp only); omega, by (try dsimp only); omega⟩, ⟨by (try dsimp only); omega, fq94⟩, ⟨by (try dsimp only); omega, fq92⟩⟩ (by kernel_rfl)
    skip
    refine ga_val 8 (some 30) (.agg #[.slice a4 n4 c4]) _ (run_ldr (U.bk 3 rfl) (off := 0) (vs := [.slice a4 n4 c4]) rfl ⟨_, _, rfl, by kernel_rfl, by kernel_rfl⟩) ⟨(U.bk 4 rfl), (U.bk 3 rfl)⟩ ?_ ?_
    · skip
      refine zc 4 26 185 #[.agg #[.slice j74_a3 j74_k3 j74_c3], .agg #[.slice a4 n4 c4]] (eAdd (U.nq 2 rfl).nat (by omega) (Q4.op U.ta.km U.ta.cc).nat (by omega)) ?_
      rintro _ v99 ⟨aq98, nq98, cq98, zq98, rfl, M, h, mq98, B⟩
      have fq98 := ne3 h U.ta.size
      replace U := U.num M h B
      clear M h B
      replace U := U.val 0 rfl (show _ = (10000000000000000000000000000000000000 : Int) by decide +kernel)
      refine ⟨_, rfl, ⟨(U.bk 4 rfl), (U.bk 3 rfl)⟩, ?_⟩
      refine zc 9 31 185 #[.agg #[.slice none 0 0], .agg #[.slice a4 n4 c4]] (eAdd (nf_nil _ 0).nat (by omega) (Q4.op U.ta.km U.ta.cc).nat (by omega)) ?_
      rintro _ v101 ⟨aq100, nq100, cq100, zq100, rfl, M, h, mq100, B⟩
      have fq100 := ne3 h U.ta.size
      replace U := U.num M h B
      clear M h B
      replace U := U.val 0 rfl (show _ = (10000000000000000000000000000000000000 : Int) by decide +kernel)
      refine ⟨_, rfl, ⟨(U.bk 4 rfl), (U.bk 3 rfl)⟩, ?_⟩
      refine zp 10 32 (pq g2 2) ?_
      refine zp 11 33 (pq g2 4) ?_
      refine gz_late ?_
      refine ys 12 (U.bk 4 rfl) 4 (.agg #[.slice aq98 nq98 cq98]) [.slice aq98 nq98 cq98] [.int .u64 16, .int .u64 16, .int .u64 500, .int .u64 10, .slice aq98 nq98 cq98, .bool false, .int .u64 0, .bool false, .int .u64 2, .slice none 0 0, .slice j74_a1 j74_k1 j74_c1, .slice j74_a0 j74_k0 j74_c0, .slice none 0 0, .int .u64 0, .slice none 0 0, .bool false] ?_
      intro v102 Y C
      replace U := U.put 4 rfl C Y (by decide)
      clear Y C
      refine yt 13 34 (pq g2 12) ?_
      refine yt 14 35 (pq g2 12) ?_
      refine ys 15 (U.bk 4 rfl) 12 (.agg #[.slice aq100 nq100 cq100]) [.slice aq100 nq100 cq100] [.int .u64 16, .int .u64 16, .int .u64 500, .int .u64 10, .slice aq98 nq98 cq98, .bool false, .int .u64 0, .bool false, .int .u64 2, .slice none 0 0, .slice j74_a1 j74_k1 j74_c1, .slice j74_a0 j74_k0 j74_c0, .slice aq100 nq100 cq100, .int .u64 0, .slice none 0 0, .bool false] ?_
      intro v103 Y C
      replace U := U.put 4 rfl C Y (by decide)
      clear Y C
      refine gy_done ?_
      exact ge_join (⟨aq100, nq100, cq100, zq100, aq98, nq98, cq98, zq98, _, _, _⟩ : Jgleanstakebondjoin4) ⟨U.sel [0, 1, 2, 3, 4] [0, 1, 2, 3, 4], ⟨by (try dsimp only); omega, by (try dsimp only); omega⟩, ⟨by (try dsimp only); omega, fq100⟩, ⟨by (try dsimp only); omega, fq98⟩⟩ (by kernel_rfl)
    exact ga_nil
  clear U
  rintro ⟨j105_a0, j105_k0, j105_c0, j105_z0, j105_a1, j105_k1, j105_c1, j105_z1, j105_K, j105_n, j105_N⟩ v104 ⟨U, ⟨j105_hn, j105_hN⟩, ⟨mj105_0, fj105_0⟩, ⟨mj105_1, fj105_1⟩⟩
  dsimp only at *
  refine gc_seq ?_
  refine gc_reg ?_
  refine t 36 (pg g) ?_
  refine t 37 (pg g2) ?_
  refine tl 38 (.int .u64 16) (U.bk 4 rfl) 0 ?_
  refine tlr 39 [.int .u64 500, .int .u64 0, .slice a0 n0 c0, .bool false, .int .u64 0, .bool false, .int .u64 1, .slice none 0 0, .slice a2 n2 c2, .slice a3 n3 c3] (U.bk 1 rfl) 0 ?_
  refine t 40 (pq g2 2) ?_
  refine tlr 41 [.int .u64 500, .int .u64 10, .slice j105_a1 j105_k1 j105_c1, .bool false, .int .u64 0, .bool false, .int .u64 2, .slice none 0 0, .slice j74_a1 j74_k1 j74_c1, .slice j74_a0 j74_k0 j74_c0] (U.bk 4 rfl) 2 ?_
  have HC : Calls Tryz.prog 188 #[pg g, .int .u64 16, .agg #[.int .u64 500, .int .u64 0, .slice a0 n0 c0, .bool false, .int .u64 0, .bool false, .int .u64 1, .slice none 0 0, .slice a2 n2 c2, .slice a3 n3 c3], .agg #[.int .u64 500, .int .u64 10, .slice j105_a1 j105_k1 j105_c1, .bool false, .int .u64 0, .bool false, .int .u64 2, .slice none 0 0, .slice j74_a1 j74_k1 j74_c1, .slice j74_a0 j74_k0 j74_c0]] v104 (fun e w' => ∃  K' n' N', e = .returned (.tuple #[]) ∧ Ut w K B g W w' K' e8 n' N' [(g89, [.int .u64 16, .int .u64 16, .int .u64 0, .slice none 0 0, .slice none 0 0, .slice none 0 0, .int .u64 0], 185), (g8, [.int .u64 500, .int .u64 0, .slice a0 n0 c0, .bool false, .int .u64 0, .bool false, .int .u64 1, .slice none 0 0, .slice a2 n2 c2, .slice a3 n3 c3], 57), (g6, [.int .u64 0, .int .u64 0, .int .u64 0, .slice none 0 0, .slice none 0 0, .slice none 0 0, .int .u64 0], 185), (g4, [.slice a4 n4 c4], 55), (g2, [.int .u64 16, .int .u64 16, .int .u64 500, .int .u64 10, .slice j105_a1 j105_k1 j105_c1, .bool false, .int .u64 0, .bool false, .int .u64 2, .slice none 0 0, .slice j74_a1 j74_k1 j74_c1, .slice j74_a0 j74_k0 j74_c0, .slice j105_a0 j105_k0 j105_c0, .int .u64 0, .slice none 0 0, .bool false], 183)] [(j105_z0, j105_a0, j105_k0, j105_c0, 10000000000000000000000000000000000000), (j105_z1, j105_a1, j105_k1, j105_c1, 10000000000000000000000000000000000000), (j74_z0, j74_a0, j74_k0, j74_c0, 0), (j74_z1, j74_a1, j74_k1, j74_c1, 0), (j74_z3, j74_a3, j74_k3, j74_c3, 0)] ∧ (n' ≤ n + 900 ∧ N' ≤ N + 900)) := by
    refine gc_enter (n := 34) Tryz.func188 rfl (by kernel_rfl) (by kernel_rfl) ?_
    refine gc_seq ?_
    refine gc_reg ?_
    refine ta 6 [.int .u64 500, .int .u64 0, .slice a0 n0 c0, .bool false, .int .u64 0, .bool false, .int .u64 1, .slice none 0 0, .slice a2 n2 c2, .slice a3 n3 c3] 57 (pg) ?_
    intro v106 g107 Xg107 hg107 B
    replace U := U.new Xg107 hg107 B
    clear Xg107 hg107 B
    refine ta 7 [.int .u64 500, .int .u64 10, .slice j105_a1 j105_k1 j105_c1, .bool false, .int .u64 0, .bool false, .int .u64 2, .slice none 0 0, .slice j74_a1 j74_k1 j74_c1, .slice j74_a0 j74_k0 j74_c0] 57 (pg) ?_
    intro v108 g109 Xg109 hg109 B
    replace U := U.new Xg109 hg109 B
    clear Xg109 hg109 B
    refine gl_nil ?_
    refine ge_then ?_
    refine gc_seq ?_
    refine gc_seq ?_
    refine gc_reg ?_
    refine t 8 (pq g107 3) ?_
    refine tl 9 (.bool false) (U.bk 1 rfl) 3 ?_
    refine t 10 (.bool true) ?_
    refine t 11 (.bool true) ?_
    refine t 12 (pq g107 1) ?_
    refine tl 13 (.int .u64 0) (U.bk 1 rfl) 1 ?_
    refine t 14 (.bool false) ?_
    refine t 15 (.bool false) ?_
    refine gl_nil ?_
    refine ge_then ?_
    refine gc_fr [(0, pg g), (1, .int .u64 16), (6, pg g107), (7, pg g109), (15, .bool false)] (by kernel_rfl) ?_
    refine gc_no ?_
    refine gc_skip ?_
    refine ge_then ?_
    refine gc_seq ?_
    refine gc_reg ?_
    refine t 21 (pq g109 3) ?_
    refine tl 22 (.bool false) (U.bk 0 rfl) 3 ?_
    refine t 23 (.bool true) ?_
    refine t 24 (.bool true) ?_
    refine t 25 (pq g109 1) ?_
    refine tl 26 (.int .u64 10) (U.bk 0 rfl) 1 ?_
    refine t 27 (.bool true) ?_
    refine t 28 (.bool true) ?_
    refine gl_nil ?_
    refine ge_then ?_
    refine gc_yes ?_
    refine gc_reg ?_
    refine t 29 (pg g) ?_
    refine t 30 (.int .u64 16) ?_
    refine t 31 (pq g109 1) ?_
    refine tl 32 (.int .u64 10) (U.bk 0 rfl) 1 ?_
    refine tc 33 235 #[pg g, .int .u64 16, .int .u64 10] (SxE.castE (Pw.put_any U.ta.sx ⟨by decide, by decide⟩ (by omega) (by omega)) (show _ = e8 from rfl)) ?_
    rintro _ v111 ⟨rfl, K110, S, hK, hC⟩
    refine ⟨_, rfl, ?_⟩
    replace U := U.op S hK hC
    clear S hK hC
    refine gl_nil ?_
    refine ge_end (.tuple #[]) (rs0 (by kernel_rfl)) ?_
    exact ⟨_, _, _, rfl, U.sel [2, 3, 4, 5, 6] [0, 1, 2, 3, 4], ⟨by (try dsimp only); omega, by (try dsimp only); omega⟩⟩
  clear U
  refine tc 42 188 #[pg g, .int .u64 16, .agg #[.int .u64 500, .int .u64 0, .slice a0 n0 c0, .bool false, .int .u64 0, .bool false, .int .u64 1, .slice none 0 0, .slice a2 n2 c2, .slice a3 n3 c3], .agg #[.int .u64 500, .int .u64 10, .slice j105_a1 j105_k1 j105_c1, .bool false, .int .u64 0, .bool false, .int .u64 2, .slice none 0 0, .slice j74_a1 j74_k1 j74_c1, .slice j74_a0 j74_k0 j74_c0]] (HC) ?_
  rintro _ v115 ⟨K112, n113, N114, rfl, U, ⟨qn113, qN114⟩⟩
  refine ⟨_, rfl, ?_⟩
  clear HC
  refine gl_nil ?_
  refine ge_then ?_
  refine gc_seq ?_
  refine gc_reg ?_
  refine t 43 (pg g) ?_
  have HC : Calls Tryz.prog 189 #[pg g2, pg g] v115 (fun e w' => ∃ aq117 nq117 cq117 zq117 aq116 nq116 cq116 zq116 K' n' N', e = .returned (.tuple #[]) ∧ Ut w K B g W w' K' e11 n' N' [(g89, [.int .u64 16, .int .u64 16, .int .u64 0, .slice none 0 0, .slice none 0 0, .slice none 0 0, .int .u64 0], 185), (g8, [.int .u64 500, .int .u64 0, .slice a0 n0 c0, .bool false, .int .u64 0, .bool false, .int .u64 1, .slice none 0 0, .slice a2 n2 c2, .slice a3 n3 c3], 57), (g6, [.int .u64 0, .int .u64 0, .int .u64 0, .slice none 0 0, .slice none 0 0, .slice none 0 0, .int .u64 0], 185), (g4, [.slice a4 n4 c4], 55), (g2, [.int .u64 16, .int .u64 16, .int .u64 500, .int .u64 10, .slice j105_a1 j105_k1 j105_c1, .bool false, .int .u64 0, .bool false, .int .u64 2, .slice none 0 0, .slice j74_a1 j74_k1 j74_c1, .slice j74_a0 j74_k0 j74_c0, .slice aq116 nq116 cq116, .int .u64 1, .slice aq117 nq117 cq117, .bool false], 183)] [(zq117, aq117, nq117, cq117, 10000000000000000000000000000000000000), (zq116, aq116, nq116, cq116, 10000000000000000000000000000000000000), (j105_z0, j105_a0, j105_k0, j105_c0, 10000000000000000000000000000000000000), (j105_z1, j105_a1, j105_k1, j105_c1, 10000000000000000000000000000000000000), (j74_z0, j74_a0, j74_k0, j74_c0, 0), (j74_z1, j74_a1, j74_k1, j74_c1, 0), (j74_z3, j74_a3, j74_k3, j74_c3, 0)] ∧ (n' ≤ n + 1000 ∧ N' ≤ N + 1000) ∧ (nq117 ≤ 15700 ∧ (nq117 = 0 ∨ w.heap.size ≤ zq117)) ∧ (nq116 ≤ 15700 ∧ (nq116 = 0 ∨ w.heap.size ≤ zq116))) := by
    refine gc_enter (n := 46) Tryz.func189 rfl (by kernel_rfl) (by kernel_rfl) ?_
    refine gc_seq ?_
    replace U := U.drew
    refine gc_draw (fun w' => Blk w' g2 [.int .u64 16, .int .u64 16, .int .u64 500, .int .u64 10, .slice j105_a1 j105_k1 j105_c1, .bool false, .int .u64 0, .bool false, .int .u64 2, .slice none 0 0, .slice j74_a1 j74_k1 j74_c1, .slice j74_a0 j74_k0 j74_c0, .slice j105_a0 j105_k0 j105_c0, .int .u64 0, .slice none 0 0, .bool false] 183) (fun i => decide (17 ≤ i)) (U.bk 4 rfl) ?_
    refine zp 0 4 (pg g2) ?_
    refine zp 1 5 (pg g) ?_
    refine zp 2 6 (pg g2) ?_
    refine zp 3 7 (pg g2) ?_
    refine zp 4 8 (pg g2) ?_
    refine zl 5 9 (.int .u64 16) (fun _ h => h) 0 ?_
    refine zp 6 10 (pg g2) ?_
    refine zp 7 11 (pg g2) ?_
    refine zp 8 12 (pq g2 2) ?_
    refine zlr 9 13 [.int .u64 500, .int .u64 10, .slice j105_a1 j105_k1 j105_c1, .bool false, .int .u64 0, .bool false, .int .u64 2, .slice none 0 0, .slice j74_a1 j74_k1 j74_c1, .slice j74_a0 j74_k0 j74_c0] (fun _ h => h) 2 ?_
    refine zp 10 14 (pg g2) ?_
    refine zp 11 15 (pg g2) ?_
    refine zp 12 16 (pq g2 12) ?_
    refine zlr 13 17 [.slice j105_a0 j105_k0 j105_c0, .int .u64 0, .slice none 0 0] (fun _ h => h) 12 ?_
    refine zc 14 18 236 #[pg g, .int .u64 16, .agg #[.int .u64 500, .int .u64 10, .slice j105_a1 j105_k1 j105_c1, .bool false, .int .u64 0, .bool false, .int .u64 2, .slice none 0 0, .slice j74_a1 j74_k1 j74_c1, .slice j74_a0 j74_k0 j74_c0], .agg #[.slice j105_a0 j105_k0 j105_c0, .int .u64 0, .slice none 0 0]] (HoE.cast (E' := e9) (p := 1) (xs := 10000000000000000000000000000000000000) (hold_any U.ta.sx ⟨by decide, by decide⟩ ⟨by decide, by decide⟩ (U.nq 1 rfl).nk (by omega) (nq_nil _ _).nk (by omega) (U.nq 3 rfl).nk (by omega) (U.nq 2 rfl).nk (by omega) (U.nq 0 rfl).nk (by omega) (nq_nil _ _).nk (by omega) (by omega) (by omega)) (by decide) rfl (by decide +kernel)) ?_
    rintro _ v121 ⟨aq116, nq116, cq116, zq116, aq117, nq117, cq117, zq117, K118, n119, N120, rfl, S, qn119, qN120, hK, hC, Q0, mq116, h0, Q1, mq117, h1⟩
    have fq116 := ne3 h0 U.ta.size
    have fq117 := ne3 h1 U.ta.size
    have L := U.lt
    replace U := ((U.op S hK hC).add L Q0 h0).add L Q1 h1
    clear L S hK hC Q0 h0 Q1 h1
    refine ⟨_, rfl, (U.bk 4 rfl), ?_⟩
    refine zp 15 19 (pg g2) ?_
    refine zp 16 20 (pq g2 12) ?_
    refine gz_late ?_
    refine ys 17 (U.bk 4 rfl) 12 (.agg #[.slice aq116 nq116 cq116, .int .u64 1, .slice aq117 nq117 cq117]) [.slice aq116 nq116 cq116, .int .u64 1, .slice aq117 nq117 cq117] [.int .u64 16, .int .u64 16, .int .u64 500, .int .u64 10, .slice j105_a1 j105_k1 j105_c1, .bool false, .int .u64 0, .bool false, .int .u64 2, .slice none 0 0, .slice j74_a1 j74_k1 j74_c1, .slice j74_a0 j74_k0 j74_c0, .slice aq116 nq116 cq116, .int .u64 1, .slice aq117 nq117 cq117, .bool false] ?_
    intro v122 Y C
    replace U := U.put 4 rfl C Y (by decide)
    clear Y C
    refine gy_done ?_
    refine ge_then ?_
    refine gc_fr [(0, pg g2), (1, pg g)] (by kernel_rfl) ?_
    refine gc_seq ?_
    replace U := U.drew
    refine gc_draw (fun w' => Blk w' g2 [.int .u64 16, .int .u64 16, .int .u64 500, .int .u64 10, .slice j105_a1 j105_k1 j105_c1, .bool false, .int .u64 0, .bool false, .int .u64 2, .slice none 0 0, .slice j74_a1 j74_k1 j74_c1, .slice j74_a0 j74_k0 j74_c0, .slice aq116 nq116 cq116, .int .u64 1, .slice aq117 nq117 cq117, .bool false] 183) (fun _ => false) (U.bk 4 rfl) ?_
    refine z 0 21 (pg g) ?_
    refine z 1 22 (pg g2) ?_
    refine z 2 23 (pg g2) ?_
    refine z 3 24 (pg g2) ?_
    refine zl 4 25 (.int .u64 16) (fun _ h => h) 0 ?_
    refine z 5 26 (pg g2) ?_
    refine z 6 27 (pg g2) ?_
    refine z 7 28 (pq g2 1) ?_
    refine zl 8 29 (.int .u64 16) (fun _ h => h) 1 ?_
    refine z 9 30 (pg g2) ?_
    refine z 10 31 (pg g2) ?_
    refine z 11 32 (pq g2 12) ?_
    refine zlr 12 33 [.slice aq116 nq116 cq116, .int .u64 1, .slice aq117 nq117 cq117] (fun _ h => h) 12 ?_
    refine zc 13 34 237 #[pg g, .int .u64 16, .int .u64 16, .agg #[.slice aq116 nq116 cq116, .int .u64 1, .slice aq117 nq117 cq117]] (SxE.castE (sDel U.ta.sx ⟨by decide, by decide⟩ (U.nq 1 rfl).nk (by omega) (U.nq 0 rfl).nk (by omega) (by omega) (by omega)) (show _ = e10 from rfl)) ?_
    rintro _ v124 ⟨rfl, K123, S, hK, hC⟩
    replace U := U.op S hK hC
    clear S hK hC
    refine ⟨_, rfl, (U.bk 4 rfl), ?_⟩
    refine gz_done ?_
    refine ge_then ?_
    refine gc_fr [(0, pg g2), (1, pg g)] (by kernel_rfl) ?_
    replace U := U.drew
    refine gc_draw (fun w' => Blk w' g2 [.int .u64 16, .int .u64 16, .int .u64 500, .int .u64 10, .slice j105_a1 j105_k1 j105_c1, .bool false, .int .u64 0, .bool false, .int .u64 2, .slice none 0 0, .slice j74_a1 j74_k1 j74_c1, .slice j74_a0 j74_k0 j74_c0, .slice aq116 nq116 cq116, .int .u64 1, .slice aq117 nq117 cq117, .bool false] 183) (fun _ => false) (U.bk 4 rfl) ?_
    refine z 0 35 (pg g) ?_
    refine z 1 36 (pg g2) ?_
    refine z 2 37 (pg g2) ?_
    refine z 3 38 (pq g2 1) ?_
    refine zl 4 39 (.int .u64 16) (fun _ h => h) 1 ?_
    refine z 5 40 (pg g2) ?_
    refine z 6 41 (pg g2) ?_
    refine z 7 42 (pg g2) ?_
    refine zl 8 43 (.int .u64 16) (fun _ h => h) 0 ?_
    refine zc 9 44 87 #[.int .i64 16, .int .u64 16, .int .u64 16] (sKey ⟨by decide, by decide⟩ (by kernel_rfl)) ?_
    rintro _ v127 ⟨kv126, rfl, Y125, B⟩
    replace U := U.keep B
    clear B
    refine ⟨_, rfl, (U.bk 4 rfl), ?_⟩
    refine zc 10 45 86 #[pg g, kv126, .slice none 0 0] (SxE.castE (mk_s (by kernel_rfl) U.ta.sx Y125 (byu_nil _) (by decide) (by omega) (by omega)) (show _ = e11 from rfl)) ?_
    rintro _ v129 ⟨rfl, K128, S, hK, hC⟩
    replace U := U.op S hK hC
    clear S hK hC
    clear Y125
    refine ⟨_, rfl, (U.bk 4 rfl), ?_⟩
    refine gz_done ?_
    refine ge_end (.tuple #[]) (rs0 (by kernel_rfl)) ?_
    exact ⟨_, _, _, _, _, _, _, _, _, _, _, rfl, U.sel [0, 1, 2, 3, 4] [0, 1, 2, 3, 4, 5, 6], ⟨by (try dsimp only); omega, by (try dsimp only); omega⟩, ⟨by (try dsimp only); omega, fq117⟩, ⟨by (try dsimp only); omega, fq116⟩⟩
  clear U
  refine tc 44 189 #[pg g2, pg g] (HC) ?_
  rintro _ v133 ⟨aq117, nq117, cq117, zq117, aq116, nq116, cq116, zq116, K130, n131, N132, rfl, U, ⟨qn131, qN132⟩, ⟨mq117, fq117⟩, ⟨mq116, fq116⟩⟩
  refine ⟨_, rfl, ?_⟩
  clear HC
  refine gl_nil ?_
  refine ge_then ?_
  refine gc_seq ?_
  refine gc_reg ?_
  refine t 45 (pg g) ?_
  refine t 46 (pg g2) ?_
  refine tl 47 (.int .u64 16) (U.bk 4 rfl) 0 ?_
  refine t 48 (pq g2 2) ?_
  refine tlr 49 [.int .u64 500, .int .u64 10, .slice j105_a1 j105_k1 j105_c1, .bool false, .int .u64 0, .bool false, .int .u64 2, .slice none 0 0, .slice j74_a1 j74_k1 j74_c1, .slice j74_a0 j74_k0 j74_c0] (U.bk 4 rfl) 2 ?_
  refine tc 50 149 #[pg g, .int .u64 16, .agg #[.int .u64 500, .int .u64 10, .slice j105_a1 j105_k1 j105_c1, .bool false, .int .u64 0, .bool false, .int .u64 2, .slice none 0 0, .slice j74_a1 j74_k1 j74_c1, .slice j74_a0 j74_k0 j74_c0]] (SxE.castE (sVal U.ta.sx ⟨by decide, by decide⟩ (U.nq 3 rfl).nk (by omega) (nq_nil _ _).nk (by omega) (U.nq 5 rfl).nk (by omega) (U.nq 4 rfl).nk (by omega) (by omega) (by omega)) (show _ = e12 from rfl)) ?_
  rintro _ v135 ⟨rfl, K134, S, hK, hC⟩
  refine ⟨_, rfl, ?_⟩
  replace U := U.op S hK hC
  clear S hK hC
  refine gl_nil ?_
  refine ge_then ?_
  refine gc_fr [(4, pg g2), (8, pg g6), (10, pg g89)] (by kernel_rfl) ?_
  refine gc_seq ?_
  refine gc_reg ?_
  refine tlr 51 [.int .u64 16, .int .u64 16, .int .u64 500, .int .u64 10, .slice j105_a1 j105_k1 j105_c1, .bool false, .int .u64 0, .bool false, .int .u64 2, .slice none 0 0, .slice j74_a1 j74_k1 j74_c1, .slice j74_a0 j74_k0 j74_c0, .slice aq116 nq116 cq116, .int .u64 1, .slice aq117 nq117 cq117, .bool false] (U.bk 4 rfl) 0 ?_
  refine tlr 52 [.int .u64 16, .int .u64 16, .int .u64 0, .slice none 0 0, .slice none 0 0, .slice none 0 0, .int .u64 0] (U.bk 0 rfl) 0 ?_
  have HC : Calls Tryz.prog 190 #[.agg #[.int .u64 16, .int .u64 16, .int .u64 500, .int .u64 10, .slice j105_a1 j105_k1 j105_c1, .bool false, .int .u64 0, .bool false, .int .u64 2, .slice none 0 0, .slice j74_a1 j74_k1 j74_c1, .slice j74_a0 j74_k0 j74_c0, .slice aq116 nq116 cq116, .int .u64 1, .slice aq117 nq117 cq117, .bool false], .agg #[.int .u64 16, .int .u64 16, .int .u64 0, .slice none 0 0, .slice none 0 0, .slice none 0 0, .int .u64 0]] v135 (fun e w' => ∃  K' n' N', e = .returned (.agg #[.int .u64 16, .int .u64 16, .int .u64 0, .slice none 0 0, .slice aq116 nq116 cq116, .slice j105_a1 j105_k1 j105_c1, .int .u64 10]) ∧ Ut w K B g W w' K' e12 n' N' [(g89, [.int .u64 16, .int .u64 16, .int .u64 0, .slice none 0 0, .slice none 0 0, .slice none 0 0, .int .u64 0], 185), (g8, [.int .u64 500, .int .u64 0, .slice a0 n0 c0, .bool false, .int .u64 0, .bool false, .int .u64 1, .slice none 0 0, .slice a2 n2 c2, .slice a3 n3 c3], 57), (g6, [.int .u64 0, .int .u64 0, .int .u64 0, .slice none 0 0, .slice none 0 0, .slice none 0 0, .int .u64 0], 185), (g4, [.slice a4 n4 c4], 55), (g2, [.int .u64 16, .int .u64 16, .int .u64 500, .int .u64 10, .slice j105_a1 j105_k1 j105_c1, .bool false, .int .u64 0, .bool false, .int .u64 2, .slice none 0 0, .slice j74_a1 j74_k1 j74_c1, .slice j74_a0 j74_k0 j74_c0, .slice aq116 nq116 cq116, .int .u64 1, .slice aq117 nq117 cq117, .bool false], 183)] [(zq117, aq117, nq117, cq117, 10000000000000000000000000000000000000), (zq116, aq116, nq116, cq116, 10000000000000000000000000000000000000), (j105_z0, j105_a0, j105_k0, j105_c0, 10000000000000000000000000000000000000), (j105_z1, j105_a1, j105_k1, j105_c1, 10000000000000000000000000000000000000), (j74_z0, j74_a0, j74_k0, j74_c0, 0), (j74_z1, j74_a1, j74_k1, j74_c1, 0), (j74_z3, j74_a3, j74_k3, j74_c3, 0)] ∧ (n' ≤ n + 1100 ∧ N' ≤ N + 1100)) := by
    refine gc_enter (n := 18) Tryz.func190 rfl (by kernel_rfl) (by kernel_rfl) ?_
    refine gc_seq ?_
    refine gc_reg ?_
    refine ta 2 [.int .u64 16, .int .u64 16, .int .u64 500, .int .u64 10, .slice j105_a1 j105_k1 j105_c1, .bool false, .int .u64 0, .bool false, .int .u64 2, .slice none 0 0, .slice j74_a1 j74_k1 j74_c1, .slice j74_a0 j74_k0 j74_c0, .slice aq116 nq116 cq116, .int .u64 1, .slice aq117 nq117 cq117, .bool false] 183 (pg) ?_
    intro v136 g137 Xg137 hg137 B
    replace U := U.new Xg137 hg137 B
    clear Xg137 hg137 B
    refine ta 3 [.int .u64 16, .int .u64 16, .int .u64 0, .slice none 0 0, .slice none 0 0, .slice none 0 0, .int .u64 0] 185 (pg) ?_
    intro v138 g139 Xg139 hg139 B
    replace U := U.new Xg139 hg139 B
    clear Xg139 hg139 B
    refine ta 4 [.int .u64 0, .int .u64 0, .int .u64 0, .slice none 0 0, .slice none 0 0, .slice none 0 0, .int .u64 0] 185 (pg) ?_
    intro v140 g141 Xg141 hg141 B
    replace U := U.new Xg141 hg141 B
    clear Xg141 hg141 B
    refine gl_nil ?_
    refine ge_then ?_
    refine gc_seq ?_
    replace U := U.drew
    refine gc_draw (fun w' => Blk w' g137 [.int .u64 16, .int .u64 16, .int .u64 500, .int .u64 10, .slice j105_a1 j105_k1 j105_c1, .bool false, .int .u64 0, .bool false, .int .u64 2, .slice none 0 0, .slice j74_a1 j74_k1 j74_c1, .slice j74_a0 j74_k0 j74_c0, .slice aq116 nq116 cq116, .int .u64 1, .slice aq117 nq117 cq117, .bool false] 183) (fun _ => false) (U.bk 2 rfl) ?_
    refine z 0 5 (pq g137 12) ?_
    refine z 1 6 (pq g137 12) ?_
    refine zlr 2 7 [.slice aq116 nq116 cq116] (fun _ h => h) 12 ?_
    refine z 3 8 (pq g137 2) ?_
    refine z 4 9 (pq g137 3) ?_
    refine zl 5 10 (.int .u64 10) (fun _ h => h) 3 ?_
    refine z 6 11 (pq g137 2) ?_
    refine z 7 12 (pq g137 4) ?_
    refine zlr 8 13 [.slice j105_a1 j105_k1 j105_c1] (fun _ h => h) 4 ?_
    refine z 9 14 (pq g139 4) ?_
    refine zs 10 (U.bk 1 rfl) 4 (.agg #[.slice aq116 nq116 cq116]) [.slice aq116 nq116 cq116] [.int .u64 16, .int .u64 16, .int .u64 0, .slice none 0 0, .slice aq116 nq116 cq116, .slice none 0 0, .int .u64 0] ?_
    intro v142 Y C
    replace U := U.put 1 rfl C Y (by decide)
    clear Y C
    refine ⟨(U.bk 2 rfl), ?_⟩
    refine z 11 15 (pq g139 6) ?_
    refine zs 12 (U.bk 1 rfl) 6 (.int .u64 10) [.int .u64 10] [.int .u64 16, .int .u64 16, .int .u64 0, .slice none 0 0, .slice aq116 nq116 cq116, .slice none 0 0, .int .u64 10] ?_
    intro v143 Y C
    replace U := U.put 1 rfl C Y (by decide)
    clear Y C
    refine ⟨(U.bk 2 rfl), ?_⟩
    refine z 13 16 (pq g139 5) ?_
    refine zs 14 (U.bk 1 rfl) 5 (.agg #[.slice j105_a1 j105_k1 j105_c1]) [.slice j105_a1 j105_k1 j105_c1] [.int .u64 16, .int .u64 16, .int .u64 0, .slice none 0 0, .slice aq116 nq116 cq116, .slice j105_a1 j105_k1 j105_c1, .int .u64 10] ?_
    intro v144 Y C
    replace U := U.put 1 rfl C Y (by decide)
    clear Y C
    refine ⟨(U.bk 2 rfl), ?_⟩
    refine gz_done ?_
    refine ge_then ?_
    refine gc_fr [(3, pg g139), (4, pg g141)] (by kernel_rfl) ?_
    refine gc_seq ?_
    refine gc_reg ?_
    refine tlr 17 [.int .u64 16, .int .u64 16, .int .u64 0, .slice none 0 0, .slice aq116 nq116 cq116, .slice j105_a1 j105_k1 j105_c1, .int .u64 10] (U.bk 1 rfl) 0 ?_
    refine ts (U.bk 0 rfl) 0 (.agg #[.int .u64 16, .int .u64 16, .int .u64 0, .slice none 0 0, .slice aq116 nq116 cq116, .slice j105_a1 j105_k1 j105_c1, .int .u64 10]) [.int .u64 16, .int .u64 16, .int .u64 0, .slice none 0 0, .slice aq116 nq116 cq116, .slice j105_a1 j105_k1 j105_c1, .int .u64 10] [.int .u64 16, .int .u64 16, .int .u64 0, .slice none 0 0, .slice aq116 nq116 cq116, .slice j105_a1 j105_k1 j105_c1, .int .u64 10] ?_
    intro v145 Y C
    replace U := U.put 0 rfl C Y (by decide)
    clear Y C
    refine gl_nil ?_
    refine ge_then ?_
    refine gc_ret ?_
    refine ge_ret (.agg #[.int .u64 16, .int .u64 16, .int .u64 0, .slice none 0 0, .slice aq116 nq116 cq116, .slice j105_a1 j105_k1 j105_c1, .int .u64 10]) (rsc 4 (T := 185) (by kernel_rfl) (by kernel_rfl) (lr (U.bk 0 rfl) 0)) ?_
    exact ⟨_, _, _, rfl, U.sel [3, 4, 5, 6, 7] [0, 1, 2, 3, 4, 5, 6], ⟨by (try dsimp only); omega, by (try dsimp only); omega⟩⟩
  clear U
  refine tc 53 190 #[.agg #[.int .u64 16, .int .u64 16, .int .u64 500, .int .u64 10, .slice j105_a1 j105_k1 j105_c1, .bool false, .int .u64 0, .bool false, .int .u64 2, .slice none 0 0, .slice j74_a1 j74_k1 j74_c1, .slice j74_a0 j74_k0 j74_c0, .slice aq116 nq116 cq116, .int .u64 1, .slice aq117 nq117 cq117, .bool false], .agg #[.int .u64 16, .int .u64 16, .int .u64 0, .slice none 0 0, .slice none 0 0, .slice none 0 0, .int .u64 0]] (HC) ?_
  rintro _ v149 ⟨K146, n147, N148, rfl, U, ⟨qn147, qN148⟩⟩
  refine ⟨_, rfl, ?_⟩
  clear HC
  refine ts (U.bk 2 rfl) 0 (.agg #[.int .u64 16, .int .u64 16, .int .u64 0, .slice none 0 0, .slice aq116 nq116 cq116, .slice j105_a1 j105_k1 j105_c1, .int .u64 10]) [.int .u64 16, .int .u64 16, .int .u64 0, .slice none 0 0, .slice aq116 nq116 cq116, .slice j105_a1 j105_k1 j105_c1, .int .u64 10] [.int .u64 16, .int .u64 16, .int .u64 0, .slice none 0 0, .slice aq116 nq116 cq116, .slice j105_a1 j105_k1 j105_c1, .int .u64 10] ?_
  intro v150 Y C
  replace U := U.put 2 rfl C Y (by decide)
  clear Y C
  refine gl_nil ?_
  refine ge_then ?_
  refine gc_ret ?_
  refine ge_ret (.agg #[.int .u64 16, .int .u64 16, .int .u64 0, .slice none 0 0, .slice aq116 nq116 cq116, .slice j105_a1 j105_k1 j105_c1, .int .u64 10]) (rsc 8 (T := 185) (by kernel_rfl) (by kernel_rfl) (lr (U.bk 2 rfl) 0)) ?_
  exact ⟨_, _, _, _, _, _, _, _, _, _, _, rfl, U.ta.sx, by omega, by omega, U.ta.km, U.ta.cc, (U.nq 1 rfl), by omega, fq116, (U.nq 3 rfl), by omega, fj105_1⟩
end Fo
end Go.Proofs.YtpoifdokmjhclaaGreat
