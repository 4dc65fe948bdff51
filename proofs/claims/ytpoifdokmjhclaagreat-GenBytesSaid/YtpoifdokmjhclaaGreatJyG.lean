/- Several texts, joined: GnJ, BkE, BkF, SdB, SdT, SdC. -/
import Derived.Test.YtpoifdokmjhclaaGreatJyE
import Derived.Test.YtpoifdokmjhclaaGreatJyF
import Derived.Test.YtpoifdokmjhclaaGreatJyx
import Derived.Test.YtpoifdokmjhclaaGreatJyv
import Derived.Test.YtpoifdokmjhclaaGreatJya
import Derived.Test.YtpoifdokmjhclaaGreatJyd
namespace Go.Proofs.YtpoifdokmjhclaaGreat
namespace Fo
open Go.RowKit Go.Lib Pg Lim Gl Kv Bk Pw Sd Di
attribute [local go_sem] Oper.semAt_some
set_option maxRecDepth 100000
set_option linter.unusedVariables false
set_option linter.unusedSimpArgs false
set_option maxHeartbeats 4000000
def e14 : Ents := put e12 (Ky.mk 11 16 0) []
def e15 : Ents := moveE e14 3 2 10
def e16 : Ents := put e15 (Ky.mk 5 16 0) (vv 500 10 10000000000000000000000000000000000000 false 0 true 2 0 0 0)
section
variable {B : Nat} {w : World} {K : Nat → Prop} {g : Nat} {E : Ents} {W : List Ents} {n N : Nat}
theorem UA.blk {x : Int} {v : Value} {b0 : Nat} (h : UA w b0 v [x]) : ∃ b c sp, v = .slice (some ⟨b, 0, none⟩) 1 c ∧ b0 ≤ b ∧ Blk w b (.int .u64 x :: sp) 22 := by
  rcases h.ex with ⟨_, e⟩ | ⟨b, c, e, hb, sp, X, _⟩
  · cases e
  · exact ⟨b, c, sp, e, hb, X⟩
theorem UA.emp {v : Value} {b0 : Nat} (h : UA w b0 v []) : ∃ a c, v = .slice a 0 c := by
  rcases h.ex with ⟨e, _⟩ | ⟨b, c, e, _⟩
  · exact ⟨_, _, e⟩
  · exact ⟨_, _, e⟩
theorem Sx.one {w' : World} {n' N' : Nat} {E' : Ents} (h : Sx B w K g E W n N) (S : SA w' K (B ≤ ·) g E' W n' N') (C : Chg (· = g) w w') : Sx B w' K g E' W n' N' ∧ Chg K w w' := ⟨⟨S, Nat.le_trans h.lo C.size, h.kb⟩, C.mono (fun b _ e => by have e' : b = g := e; rw [e']; exact h.sa.top)⟩
theorem xbonded (h : Sx B w K g E W n N) (hR : ∀ x ∈ E, [98] <+: x.1 → Ky.frm (11 : Nat) = Ky.fIn x.1) (hl : pks 11 98 E = []) (hn : n ≤ 1000000000000000000) (hN : N ≤ 100000000) : Calls Tryz.prog 99 #[pg g] w fun e w' => ∃ a c, e = .returned (.slice a 0 c) ∧ Sx B w' K g E W (n + 1) N ∧ Chg K w w' := by
  refine (bonded_any_sa h.sa hR hN (by omega)).mono ?_
  rintro e w' ⟨v, j, rfl, U, rfl, S, C⟩
  rw [hl] at U S
  obtain ⟨a, c, rfl⟩ := UA.emp U
  exact ⟨a, c, rfl, Sx.one h S C⟩
theorem xtop {x : Int} (h : Sx B w K g E W n N) (hR : ∀ x ∈ E, [105] <+: x.1 → Ky.frm (10 : Nat) = Ky.fIn x.1) (hl : (pks 10 105 E).map Prod.snd = [x]) (hn : n ≤ 1000000000000000000) (hN : N ≤ 100000000) : Calls Tryz.prog 100 #[pg g, .int .i64 1] w fun e w' => ∃ b c sp, e = .returned (.slice (some ⟨b, 0, none⟩) 1 c) ∧ w.heap.size ≤ b ∧ Blk w' b (.int .u64 x :: sp) 22 ∧ Sx B w' K g E W (n + 1 + 1) N ∧ Chg K w w' := by
  have hl1 : (pks 10 105 E).length = 1 := by rw [← List.length_map (f := Prod.snd), hl]; rfl
  refine (top_any_sa (m := 1) h.sa (by decide) (by decide) hR hN (by omega)).mono ?_
  rintro e w' ⟨v, j, rfl, U, rfl, S, C⟩
  rw [hl] at U
  rw [hl1] at S
  obtain ⟨b, c, sp, rfl, hb, X⟩ := UA.blk U
  exact ⟨b, c, sp, rfl, hb, X, Sx.one h S C⟩
theorem xturns {a : Option Addr} {c d xb : Nat} {sp : List Value} (XB : Blk w xb (.int .u64 16 :: sp) 22) : Calls Tryz.prog 98 #[.slice a 0 c, .slice (some ⟨xb, 0, none⟩) 1 d] w fun e w' => ∃ a' c' b d' sp', e = .returned (.tuple #[.slice a' 0 c', .slice (some ⟨b, 0, none⟩) 1 d']) ∧ w.heap.size ≤ b ∧ Blk w' b (.int .u64 16 :: sp') 22 ∧ Below w.heap.size w w' := by
  refine (Pt.turns_g XB).mono ?_
  rintro e w' ⟨va, vb, rfl, Ua, Ub, BB⟩
  obtain ⟨a', c', rfl⟩ := UA.emp Ua
  obtain ⟨b, d', sp', rfl, hb, X⟩ := UA.blk Ub
  exact ⟨a', c', b, d', sp', rfl, hb, X, BB⟩
end
theorem params_l {B : Nat} {w : World} {K : Nat → Prop} {g : Nat} {W : List Ents} {n N : Nat}  (h : Sx B w K g e12 W n N)  (hn : n ≤ 10000000) (hN : N ≤ 10000000) : Calls Tryz.prog 97 #[pg g] w (fun e w' => ∃ K' n' N', e = .returned (.agg #[.int .u64 1, .int .u64 1, .int .u64 1, .int .u64 0, .int .u64 0, .int .u64 0, .int .u64 0, .int .u64 0, .int .u64 0, .int .u64 16]) ∧ Sx B w' K' g e12 W n' N' ∧ n' ≤ n + 10 ∧ N' ≤ N + 10 ∧ (∀ b, K' b → K b ∨ w.heap.size ≤ b) ∧ Chg K w w') := by
  have U := ut_of h
  refine gc_enter (n := 19) Tryz.func97 rfl (by kernel_rfl) (by kernel_rfl) ?_
  refine gc_seq ?_
  refine gc_reg ?_
  refine ta 2 [.int .u64 0, .int .u64 0, .int .u64 0, .int .u64 0, .int .u64 0, .int .u64 0, .int .u64 0, .int .u64 0, .int .u64 0, .int .u64 0] 24 (pg) ?_
  intro v1 g2 Xg2 hg2 B
  replace U := U.new Xg2 hg2 B
  clear Xg2 hg2 B
  refine gl_nil ?_
  refine ge_then ?_
  refine gc_seq ?_
  refine gc_reg ?_
  refine t 8 (pg g) ?_
  refine tc 9 87 #[.int .i64 1, .int .u64 0, .int .u64 0] (sKey ⟨by decide, by decide⟩ (by kernel_rfl)) ?_
  rintro _ v5 ⟨kv4, rfl, Y3, B⟩
  refine ⟨_, rfl, ?_⟩
  replace U := U.keep B
  clear B
  refine tc 10 39 #[pg g, kv4] (xget U.ta.sx Y3 (by omega) (by omega)) ?_
  rintro _ v8 ⟨gv6, rfl, Y7, S, hC⟩
  refine ⟨_, rfl, ?_⟩
  replace U := U.op S (fun _ h => .inl h) hC
  clear S hC Y3
  refine t 7 (.tuple #[gv6, .bool true]) ?_
  refine t 11 (gv6) ?_
  refine t 12 (.bool true) ?_
  refine t 3 (gv6) ?_
  refine t 4 (.bool true) ?_
  refine gl_nil ?_
  refine ge_then ?_
  refine gc_seq ?_
  refine gc_reg ?_
  refine t 14 (gv6) ?_
  refine tc 15 145 #[gv6] (rdParams (p0 := 1) (p1 := 1) (p2 := 1) (p3 := 0) (p4 := 0) (p5 := 0) (p6 := 0) (p7 := 0) (p8 := 0) (p9 := 16) (er := 0) Y7 (getlen U.ta.sx _) (by decide +kernel)) ?_
  rintro _ v9 ⟨rfl, B⟩
  refine ⟨_, rfl, ?_⟩
  replace U := U.keep B
  clear B Y7
  refine t 13 (.tuple #[.agg #[.int .u64 1, .int .u64 1, .int .u64 1, .int .u64 0, .int .u64 0, .int .u64 0, .int .u64 0, .int .u64 0, .int .u64 0, .int .u64 16], .int .i64 0]) ?_
  refine t 16 (.agg #[.int .u64 1, .int .u64 1, .int .u64 1, .int .u64 0, .int .u64 0, .int .u64 0, .int .u64 0, .int .u64 0, .int .u64 0, .int .u64 16]) ?_
  refine t 17 (.int .i64 0) ?_
  refine ta 5 [.int .u64 0, .int .u64 0, .int .u64 0, .int .u64 0, .int .u64 0, .int .u64 0, .int .u64 0, .int .u64 0, .int .u64 0, .int .u64 0] 24 (pg) ?_
  intro v10 g11 Xg11 hg11 B
  replace U := U.new Xg11 hg11 B
  clear Xg11 hg11 B
  refine ts (U.bk 0 rfl) 0 (.agg #[.int .u64 1, .int .u64 1, .int .u64 1, .int .u64 0, .int .u64 0, .int .u64 0, .int .u64 0, .int .u64 0, .int .u64 0, .int .u64 16]) [.int .u64 1, .int .u64 1, .int .u64 1, .int .u64 0, .int .u64 0, .int .u64 0, .int .u64 0, .int .u64 0, .int .u64 0, .int .u64 16] [.int .u64 1, .int .u64 1, .int .u64 1, .int .u64 0, .int .u64 0, .int .u64 0, .int .u64 0, .int .u64 0, .int .u64 0, .int .u64 16] ?_
  intro v12 Y C
  replace U := U.put 0 rfl C Y (by decide)
  clear Y C
  refine t 6 (.int .i64 0) ?_
  refine gl_nil ?_
  refine ge_then ?_
  refine gc_fr [(2, pg g2), (5, pg g11)] (by kernel_rfl) ?_
  refine gc_seq ?_
  refine gc_reg ?_
  refine tlr 18 [.int .u64 1, .int .u64 1, .int .u64 1, .int .u64 0, .int .u64 0, .int .u64 0, .int .u64 0, .int .u64 0, .int .u64 0, .int .u64 16] (U.bk 0 rfl) 0 ?_
  refine ts (U.bk 1 rfl) 0 (.agg #[.int .u64 1, .int .u64 1, .int .u64 1, .int .u64 0, .int .u64 0, .int .u64 0, .int .u64 0, .int .u64 0, .int .u64 0, .int .u64 16]) [.int .u64 1, .int .u64 1, .int .u64 1, .int .u64 0, .int .u64 0, .int .u64 0, .int .u64 0, .int .u64 0, .int .u64 0, .int .u64 16] [.int .u64 1, .int .u64 1, .int .u64 1, .int .u64 0, .int .u64 0, .int .u64 0, .int .u64 0, .int .u64 0, .int .u64 0, .int .u64 16] ?_
  intro v13 Y C
  replace U := U.put 1 rfl C Y (by decide)
  clear Y C
  refine gl_nil ?_
  refine ge_then ?_
  refine gc_ret ?_
  refine ge_ret (.agg #[.int .u64 1, .int .u64 1, .int .u64 1, .int .u64 0, .int .u64 0, .int .u64 0, .int .u64 0, .int .u64 0, .int .u64 0, .int .u64 16]) (rsc 2 (T := 24) (by kernel_rfl) (by kernel_rfl) (lr (U.bk 1 rfl) 0)) ?_
  exact ⟨_, _, _, rfl, U.ta.sx, by omega, by omega, U.ta.km, U.ta.cc⟩
theorem turn_l {B : Nat} {w : World} {K : Nat → Prop} {g : Nat} {W : List Ents} {n N : Nat}  (h : Sx B w K g e12 W n N)  (hn : n ≤ 1000000) (hN : N ≤ 1000000) : Calls Tryz.prog 101 #[pg g, .int .u64 16, .bool true] w (fun e w' => ∃ K' n' N', e = .returned (.tuple #[]) ∧ Sx B w' K' g e16 W n' N' ∧ n' ≤ n + 3000 ∧ N' ≤ N + 3000 ∧ (∀ b, K' b → K b ∨ w.heap.size ≤ b) ∧ Chg K w w') := by
  have U := ut_of h
  refine gc_enter (n := 43) Tryz.func101 rfl (by kernel_rfl) (by kernel_rfl) ?_
  refine gc_seq ?_
  refine gc_reg ?_
  refine t 10 (pg g) ?_
  refine t 11 (.int .u64 16) ?_
  refine t 12 (.bool true) ?_
  refine tc 13 148 #[pg g, .int .u64 16, .bool true] (SxE.castE (bond_on U.ta.sx ⟨by decide, by decide⟩ (by omega) (by omega)) (show _ = e14 from rfl)) ?_
  rintro _ v2 ⟨rfl, K1, S, hK, hC⟩
  refine ⟨_, rfl, ?_⟩
  replace U := U.op S hK hC
  clear S hK hC
  refine gl_nil ?_
  refine ge_then ?_
  refine gc_seq ?_
  refine gc_reg ?_
  refine t 15 (pg g) ?_
  refine t 16 (.int .u64 16) ?_
  refine tc 17 16 #[pg g, .int .u64 16] (gVal (th := true) (er := 0) (rt := 500) (tk := 10) (un := 0) (pe := 2) (jl := false) (bo := false) (x0 := 10000000000000000000000000000000000000) (x1 := 0) (x2 := 0) (x3 := 0) U.ta.sx ⟨by decide, by decide⟩ (by decide +kernel) rfl (by omega) (by omega)) ?_
  rintro _ v10 ⟨aq3, nq3, cq3, zq3, aq4, nq4, cq4, zq4, aq5, nq5, cq5, zq5, aq6, nq6, cq6, zq6, K7, n8, N9, rfl, S, qn8, qN9, hK, hC, Q0, mq3, h0, Q1, mq4, h1, Q2, mq5, h2, Q3, mq6, h3⟩
  refine ⟨_, rfl, ?_⟩
  have fq3 := ne3 h0 U.ta.size
  have fq4 := ne3 h1 U.ta.size
  have fq5 := ne3 h2 U.ta.size
  have fq6 := ne3 h3 U.ta.size
  have L := U.lt
  replace U := ((((U.op S hK hC).add L Q0 h0).add L Q1 h1).add L Q2 h2).add L Q3 h3
  clear L S hK hC Q0 h0 Q1 h1 Q2 h2 Q3 h3
  refine t 14 (.tuple #[.agg #[.int .u64 500, .int .u64 10, .slice aq3 nq3 cq3, .bool false, .int .u64 0, .bool false, .int .u64 2, .slice aq4 nq4 cq4, .slice aq5 nq5 cq5, .slice aq6 nq6 cq6], .bool true]) ?_
  refine t 18 (.agg #[.int .u64 500, .int .u64 10, .slice aq3 nq3 cq3, .bool false, .int .u64 0, .bool false, .int .u64 2, .slice aq4 nq4 cq4, .slice aq5 nq5 cq5, .slice aq6 nq6 cq6]) ?_
  refine t 19 (.bool true) ?_
  refine ta 6 [.int .u64 0, .int .u64 0, .slice none 0 0, .bool false, .int .u64 0, .bool false, .int .u64 0, .slice none 0 0, .slice none 0 0, .slice none 0 0] 57 (pg) ?_
  intro v11 g12 Xg12 hg12 B
  replace U := U.new Xg12 hg12 B
  clear Xg12 hg12 B
  refine ts (U.bk 0 rfl) 0 (.agg #[.int .u64 500, .int .u64 10, .slice aq3 nq3 cq3, .bool false, .int .u64 0, .bool false, .int .u64 2, .slice aq4 nq4 cq4, .slice aq5 nq5 cq5, .slice aq6 nq6 cq6]) [.int .u64 500, .int .u64 10, .slice aq3 nq3 cq3, .bool false, .int .u64 0, .bool false, .int .u64 2, .slice aq4 nq4 cq4, .slice aq5 nq5 cq5, .slice aq6 nq6 cq6] [.int .u64 500, .int .u64 10, .slice aq3 nq3 cq3, .bool false, .int .u64 0, .bool false, .int .u64 2, .slice aq4 nq4 cq4, .slice aq5 nq5 cq5, .slice aq6 nq6 cq6] ?_
  intro v13 Y C
  replace U := U.put 0 rfl C Y (by decide)
  clear Y C
  refine t 7 (.bool true) ?_
  refine gl_nil ?_
  refine ge_then ?_
  refine gc_fr [(0, pg g), (1, .int .u64 16), (2, .bool true), (6, pg g12), (7, .bool true)] (by kernel_rfl) ?_
  refine gc_seq ?_
  refine gc_seq ?_
  refine gc_reg ?_
  refine t 20 (.bool true) ?_
  refine t 21 (.bool false) ?_
  refine gl_nil ?_
  refine ge_then ?_
  refine gc_no ?_
  refine gc_skip ?_
  refine ge_then ?_
  refine gc_seq ?_
  refine gc_reg ?_
  refine t 22 (.int .u64 16) ?_
  refine tlr 23 [.int .u64 500, .int .u64 10, .slice aq3 nq3 cq3, .bool false, .int .u64 0, .bool false, .int .u64 2, .slice aq4 nq4 cq4, .slice aq5 nq5 cq5, .slice aq6 nq6 cq6] (U.bk 0 rfl) 0 ?_
  refine t 24 (.agg #[.int .u64 16, .int .u64 0, .int .u64 500, .int .u64 10, .slice aq3 nq3 cq3, .bool false, .int .u64 0, .bool false, .int .u64 2, .slice aq4 nq4 cq4, .slice aq5 nq5 cq5, .slice aq6 nq6 cq6, .slice none 0 0, .int .u64 0, .slice none 0 0, .bool false]) ?_
  refine ta 8 [.int .u64 0, .int .u64 0, .int .u64 0, .int .u64 0, .slice none 0 0, .bool false, .int .u64 0, .bool false, .int .u64 0, .slice none 0 0, .slice none 0 0, .slice none 0 0, .slice none 0 0, .int .u64 0, .slice none 0 0, .bool false] 183 (pg) ?_
  intro v14 g15 Xg15 hg15 B
  replace U := U.new Xg15 hg15 B
  clear Xg15 hg15 B
  refine ts (U.bk 0 rfl) 0 (.agg #[.int .u64 16, .int .u64 0, .int .u64 500, .int .u64 10, .slice aq3 nq3 cq3, .bool false, .int .u64 0, .bool false, .int .u64 2, .slice aq4 nq4 cq4, .slice aq5 nq5 cq5, .slice aq6 nq6 cq6, .slice none 0 0, .int .u64 0, .slice none 0 0, .bool false]) [.int .u64 16, .int .u64 0, .int .u64 500, .int .u64 10, .slice aq3 nq3 cq3, .bool false, .int .u64 0, .bool false, .int .u64 2, .slice aq4 nq4 cq4, .slice aq5 nq5 cq5, .slice aq6 nq6 cq6, .slice none 0 0, .int .u64 0, .slice none 0 0, .bool false] [.int .u64 16, .int .u64 0, .int .u64 500, .int .u64 10, .slice aq3 nq3 cq3, .bool false, .int .u64 0, .bool false, .int .u64 2, .slice aq4 nq4 cq4, .slice aq5 nq5 cq5, .slice aq6 nq6 cq6, .slice none 0 0, .int .u64 0, .slice none 0 0, .bool false] ?_
  intro v16 Y C
  replace U := U.put 0 rfl C Y (by decide)
  clear Y C
  refine gl_nil ?_
  refine ge_then ?_
  refine gc_seq ?_
  refine gc_reg ?_
  refine tlr 25 [.int .u64 16, .int .u64 0, .int .u64 500, .int .u64 10, .slice aq3 nq3 cq3, .bool false, .int .u64 0, .bool false, .int .u64 2, .slice aq4 nq4 cq4, .slice aq5 nq5 cq5, .slice aq6 nq6 cq6, .slice none 0 0, .int .u64 0, .slice none 0 0, .bool false] (U.bk 0 rfl) 0 ?_
  refine t 26 (.func (.func 143) #[.agg #[.int .u64 16, .int .u64 0, .int .u64 500, .int .u64 10, .slice aq3 nq3 cq3, .bool false, .int .u64 0, .bool false, .int .u64 2, .slice aq4 nq4 cq4, .slice aq5 nq5 cq5, .slice aq6 nq6 cq6, .slice none 0 0, .int .u64 0, .slice none 0 0, .bool false]] #[]) ?_
  refine t 9 (.func (.func 143) #[.agg #[.int .u64 16, .int .u64 0, .int .u64 500, .int .u64 10, .slice aq3 nq3 cq3, .bool false, .int .u64 0, .bool false, .int .u64 2, .slice aq4 nq4 cq4, .slice aq5 nq5 cq5, .slice aq6 nq6 cq6, .slice none 0 0, .int .u64 0, .slice none 0 0, .bool false]] #[]) ?_
  refine gl_nil ?_
  refine ge_then ?_
  refine gc_seq ?_
  refine gc_reg ?_
  refine t 27 (.bool true) ?_
  refine t 28 (pq g15 2) ?_
  refine t 29 (pq g15 7) ?_
  refine ts (U.bk 0 rfl) 7 (.bool true) [.bool true] [.int .u64 16, .int .u64 0, .int .u64 500, .int .u64 10, .slice aq3 nq3 cq3, .bool false, .int .u64 0, .bool true, .int .u64 2, .slice aq4 nq4 cq4, .slice aq5 nq5 cq5, .slice aq6 nq6 cq6, .slice none 0 0, .int .u64 0, .slice none 0 0, .bool false] ?_
  intro v17 Y C
  replace U := U.put 0 rfl C Y (by decide)
  clear Y C
  refine gl_nil ?_
  refine ge_then ?_
  refine gc_fr [(0, pg g), (1, .int .u64 16), (6, pg g12), (8, pg g15), (9, .func (.func 143) #[.agg #[.int .u64 16, .int .u64 0, .int .u64 500, .int .u64 10, .slice aq3 nq3 cq3, .bool false, .int .u64 0, .bool false, .int .u64 2, .slice aq4 nq4 cq4, .slice aq5 nq5 cq5, .slice aq6 nq6 cq6, .slice none 0 0, .int .u64 0, .slice none 0 0, .bool false]] #[])] (by kernel_rfl) ?_
  refine gc_seq ?_
  replace U := U.drew
  refine gc_draw (fun w' => Blk w' g15 [.int .u64 16, .int .u64 0, .int .u64 500, .int .u64 10, .slice aq3 nq3 cq3, .bool false, .int .u64 0, .bool true, .int .u64 2, .slice aq4 nq4 cq4, .slice aq5 nq5 cq5, .slice aq6 nq6 cq6, .slice none 0 0, .int .u64 0, .slice none 0 0, .bool false] 183 ∧ Blk w' g12 [.int .u64 500, .int .u64 10, .slice aq3 nq3 cq3, .bool false, .int .u64 0, .bool false, .int .u64 2, .slice aq4 nq4 cq4, .slice aq5 nq5 cq5, .slice aq6 nq6 cq6] 57) (fun _ => false) ⟨(U.bk 0 rfl), (U.bk 1 rfl)⟩ ?_
  refine z 0 30 (pg g) ?_
  refine z 1 31 (.func (.func 143) #[.agg #[.int .u64 16, .int .u64 0, .int .u64 500, .int .u64 10, .slice aq3 nq3 cq3, .bool false, .int .u64 0, .bool false, .int .u64 2, .slice aq4 nq4 cq4, .slice aq5 nq5 cq5, .slice aq6 nq6 cq6, .slice none 0 0, .int .u64 0, .slice none 0 0, .bool false]] #[]) ?_
  refine zlr 3 33 [.int .u64 16, .int .u64 0, .int .u64 500, .int .u64 10, .slice aq3 nq3 cq3, .bool false, .int .u64 0, .bool true, .int .u64 2, .slice aq4 nq4 cq4, .slice aq5 nq5 cq5, .slice aq6 nq6 cq6, .slice none 0 0, .int .u64 0, .slice none 0 0, .bool false] (fun _ h => h.1) 0 ?_
  refine z 5 35 (pq g12 1) ?_
  refine zl 6 36 (.int .u64 10) (fun _ h => h.2) 1 ?_
  refine zc 2 32 143 #[.agg #[.int .u64 16, .int .u64 0, .int .u64 500, .int .u64 10, .slice aq3 nq3 cq3, .bool false, .int .u64 0, .bool false, .int .u64 2, .slice aq4 nq4 cq4, .slice aq5 nq5 cq5, .slice aq6 nq6 cq6, .slice none 0 0, .int .u64 0, .slice none 0 0, .bool false]] (house_f) ?_
  rintro _ v18 ⟨rfl, B⟩
  replace U := U.keep B
  clear B
  refine ⟨_, rfl, ⟨(U.bk 0 rfl), (U.bk 1 rfl)⟩, ?_⟩
  refine zc 4 34 143 #[.agg #[.int .u64 16, .int .u64 0, .int .u64 500, .int .u64 10, .slice aq3 nq3 cq3, .bool false, .int .u64 0, .bool true, .int .u64 2, .slice aq4 nq4 cq4, .slice aq5 nq5 cq5, .slice aq6 nq6 cq6, .slice none 0 0, .int .u64 0, .slice none 0 0, .bool false]] (house_t) ?_
  rintro _ v19 ⟨rfl, B⟩
  replace U := U.keep B
  clear B
  refine ⟨_, rfl, ⟨(U.bk 0 rfl), (U.bk 1 rfl)⟩, ?_⟩
  refine zc 7 37 142 #[pg g, .int .u64 3, .int .u64 2, .int .u64 10] (mv_lit (move_any U.ta.sx ⟨by decide, by decide⟩ ⟨by decide, by decide⟩ ⟨by decide, by decide⟩ (by omega) (by omega)) (show moveE e14 3 2 10 = e15 from rfl) (show moveR e14 3 2 10 = 0 by decide +kernel)) ?_
  rintro _ v24 ⟨rfl, K20, n21, N22, S, qn21, qN22, hK, hC⟩
  replace U := U.op S hK hC
  clear S hK hC
  refine ⟨_, rfl, ⟨(U.bk 0 rfl), (U.bk 1 rfl)⟩, ?_⟩
  refine gz_done ?_
  refine ge_then ?_
  refine gc_reg ?_
  refine t 38 (pg g) ?_
  refine t 39 (.int .u64 16) ?_
  refine t 40 (pq g15 2) ?_
  refine tlr 41 [.int .u64 500, .int .u64 10, .slice aq3 nq3 cq3, .bool false, .int .u64 0, .bool true, .int .u64 2, .slice aq4 nq4 cq4, .slice aq5 nq5 cq5, .slice aq6 nq6 cq6] (U.bk 0 rfl) 2 ?_
  refine tc 42 149 #[pg g, .int .u64 16, .agg #[.int .u64 500, .int .u64 10, .slice aq3 nq3 cq3, .bool false, .int .u64 0, .bool true, .int .u64 2, .slice aq4 nq4 cq4, .slice aq5 nq5 cq5, .slice aq6 nq6 cq6]] (SxE.castE (sVal U.ta.sx ⟨by decide, by decide⟩ (U.nq 3 rfl).nk (by omega) (U.nq 2 rfl).nk (by omega) (U.nq 1 rfl).nk (by omega) (U.nq 0 rfl).nk (by omega) (by omega) (by omega)) (show _ = e16 from rfl)) ?_
  rintro _ v26 ⟨rfl, K25, S, hK, hC⟩
  refine ⟨_, rfl, ?_⟩
  replace U := U.op S hK hC
  clear S hK hC
  refine gl_nil ?_
  refine ge_end (.tuple #[]) (rs0 (by kernel_rfl)) ?_
  exact ⟨_, _, _, rfl, U.ta.sx, by omega, by omega, U.ta.km, U.ta.cc⟩
theorem elect_l {B : Nat} {w : World} {K : Nat → Prop} {g : Nat} {W : List Ents} {n N : Nat} (h : Sx B w K g e12 W n N) (hn : n ≤ 500000) (hN : N ≤ 500000) : Calls Tryz.prog 69 #[pg g] w (fun e w' => ∃ v K' n' N', e = .returned v ∧ Sx B w' K' g e16 W n' N' ∧ n' ≤ n + 10000 ∧ N' ≤ N + 10000 ∧ (∀ b, K' b → K b ∨ w.heap.size ≤ b) ∧ Chg K w w') := by
  have U := ut_of h
  refine gc_enter (n := 47) Tryz.func69 rfl (by kernel_rfl) (by kernel_rfl) ?_
  refine gc_seq ?_
  refine gc_reg ?_
  refine t 2 (.slice none 0 0) ?_
  refine t 3 (.slice none 0 0) ?_
  refine gl_nil ?_
  refine ge_then ?_
  refine gc_seq ?_
  refine gc_reg ?_
  refine t 11 (pg g) ?_
  refine tc 12 97 #[pg g] (params_l U.ta.sx (by omega) (by omega)) ?_
  rintro _ v4 ⟨K1, n2, N3, rfl, S, qn2, qN3, hK, hC⟩
  refine ⟨_, rfl, ?_⟩
  replace U := U.op S hK hC
  clear S hK hC
  refine t 13 (.int .u64 1) ?_
  refine t 14 (.int .u64 1) ?_
  refine t 4 (.int .u64 1) ?_
  refine gl_nil ?_
  refine ge_then ?_
  refine gc_seq ?_
  refine gc_reg ?_
  refine t 16 (pg g) ?_
  refine tc 17 99 #[pg g] (xbonded U.ta.sx (by decide +kernel) (by decide +kernel) (by omega) (by omega)) ?_
  rintro _ v6 ⟨aq5, cq5, rfl, S, hC⟩
  refine ⟨_, rfl, ?_⟩
  replace U := U.op S (fun _ h => .inl h) hC
  clear S hC
  refine t 18 (pg g) ?_
  refine t 19 (.int .u64 1) ?_
  refine t 20 (.int .i64 1) ?_
  refine tc 21 100 #[pg g, .int .i64 1] (xtop (x := 16) U.ta.sx (by decide +kernel) (by decide +kernel) (by omega) (by omega)) ?_
  rintro _ v8 ⟨bq7, cq7, spq7, rfl, hb, X, S, hC⟩
  refine ⟨_, rfl, ?_⟩
  replace U := U.opnew S (fun _ h => .inl h) hC X hb (fun k => absurd (U.ta.lt k) (Nat.not_lt.2 hb))
  clear S hC X hb
  refine tc 22 98 #[.slice aq5 0 cq5, .slice (some ⟨bq7, 0, none⟩) 1 cq7] (xturns (U.bk 0 rfl)) ?_
  rintro _ v10 ⟨aq9, cq9, bq9, dq9, spq9, rfl, hb, X, B⟩
  refine ⟨_, rfl, ?_⟩
  replace U := U.new X hb B
  clear X hb B
  refine t 15 (.tuple #[.slice aq9 0 cq9, .slice (some ⟨bq9, 0, none⟩) 1 dq9]) ?_
  refine t 23 (.slice aq9 0 cq9) ?_
  refine t 24 (.slice (some ⟨bq9, 0, none⟩) 1 dq9) ?_
  refine t 5 (.slice aq9 0 cq9) ?_
  refine t 6 (.slice (some ⟨bq9, 0, none⟩) 1 dq9) ?_
  refine gl_nil ?_
  refine ge_then ?_
  refine gc_fr [(0, pg g), (2, .slice none 0 0), (3, .slice none 0 0), (5, .slice aq9 0 cq9), (6, .slice (some ⟨bq9, 0, none⟩) 1 dq9)] (by kernel_rfl) ?_
  refine gc_seq ?_
  refine gc_seq ?_
  refine gc_reg ?_
  refine t 25 (.slice aq9 0 cq9) ?_
  refine t 26 (.int .i64 0) ?_
  refine t 27 (.int .i64 0) ?_
  refine gl_nil ?_
  refine ge_then ?_
  refine gc_block ?_
  refine gc_loop (fun _ => 0) (fun (_ : Unit) => [(0, pg g), (5, .slice aq9 0 cq9), (6, .slice (some ⟨bq9, 0, none⟩) 1 dq9), (25, .slice aq9 0 cq9), (26, .int .i64 0), (27, .int .i64 0)]) (fun _ w' => ∃ K' n' N', Ut w K B g W w' K' e12 n' N' [(bq9, .int .u64 16 :: spq9, 22), (bq7, .int .u64 16 :: spq7, 22)] [] ∧ n' ≤ n + 363 ∧ N' ≤ N + 363) () ⟨_, _, _, U, by omega, by omega⟩ (by kernel_rfl) ?_
  clear U
  rintro _ v11 ⟨K12, n13, N14, U, qn13, qN14⟩
  refine gc_seq ?_
  refine gc_reg ?_
  refine t 28 (.bool false) ?_
  refine gl_nil ?_
  refine ge_then ?_
  refine gc_seq ?_
  refine gc_no ?_
  refine gc_exit ?_
  refine ge_tx ?_
  refine ge_tx ?_
  refine ge_bx ?_
  refine ge_then ?_
  refine gc_seq ?_
  refine gc_seq ?_
  refine gc_reg ?_
  refine t 35 (.slice (some ⟨bq9, 0, none⟩) 1 dq9) ?_
  refine t 36 (.int .i64 1) ?_
  refine t 37 (.int .i64 0) ?_
  refine gl_nil ?_
  refine ge_then ?_
  refine gc_block ?_
  refine gc_loop (fun s => 1 - s) (fun (s : Nat) => [(0, pg g), (5, .slice aq9 0 cq9), (6, .slice (some ⟨bq9, 0, none⟩) 1 dq9), (35, .slice (some ⟨bq9, 0, none⟩) 1 dq9), (36, .int .i64 1), (37, .int .i64 (s : Int))]) (fun s w' => (s = 0 ∧ ∃ K' n' N', Ut w K B g W w' K' e12 n' N' [(bq9, .int .u64 16 :: spq9, 22), (bq7, .int .u64 16 :: spq7, 22)] [] ∧ n' ≤ n + 713 ∧ N' ≤ N + 713) ∨ (s = 1 ∧ ∃ K' n' N', Ut w K B g W w' K' e16 n' N' [(bq9, .int .u64 16 :: spq9, 22), (bq7, .int .u64 16 :: spq7, 22)] [] ∧ n' ≤ n + 4063 ∧ N' ≤ N + 4063)) 0 (.inl ⟨rfl, ⟨_, _, _, U, by omega, by omega⟩⟩) (by kernel_rfl) ?_
  clear U
  rintro i v15 (⟨rfl, ⟨K16, n17, N18, U, qn17, qN18⟩⟩ | ⟨rfl, ⟨K19, n20, N21, U, qn20, qN21⟩⟩)
  · skip
    refine gc_seq ?_
    refine gc_reg ?_
    refine t 38 (.bool true) ?_
    refine gl_nil ?_
    refine ge_then ?_
    refine gc_seq ?_
    refine gc_yes ?_
    refine gc_skip ?_
    refine ge_then ?_
    refine gc_seq ?_
    refine gc_block ?_
    refine gc_seq ?_
    refine gc_reg ?_
    refine t 39 (pg bq9) ?_
    refine tl 40 (.int .u64 16) (U.bk 0 rfl) 0 ?_
    refine t 10 (.int .u64 16) ?_
    refine gl_nil ?_
    refine ge_then ?_
    refine gc_reg ?_
    refine t 41 (pg g) ?_
    refine t 42 (.int .u64 16) ?_
    refine tc 43 101 #[pg g, .int .u64 16, .bool true] (turn_l U.ta.sx (by omega) (by omega)) ?_
    rintro _ v25 ⟨K22, n23, N24, rfl, S, qn23, qN24, hK, hC⟩
    refine ⟨_, rfl, ?_⟩
    replace U := U.op S hK hC
    clear S hK hC
    refine gl_nil ?_
    refine ge_bn ?_
    refine ge_then ?_
    refine gc_reg ?_
    refine t 44 (.int .i64 1) ?_
    refine t 37 (.int .i64 1) ?_
    refine gl_nil ?_
    exact ge_round (1 : Nat) (by decide) (.inr ⟨rfl, ⟨_, _, _, U, by omega, by omega⟩⟩) (by kernel_rfl)
  · skip
    refine gc_seq ?_
    refine gc_reg ?_
    refine t 38 (.bool false) ?_
    refine gl_nil ?_
    refine ge_then ?_
    refine gc_seq ?_
    refine gc_no ?_
    refine gc_exit ?_
    refine ge_tx ?_
    refine ge_tx ?_
    refine ge_bx ?_
    refine ge_then ?_
    refine gc_seq ?_
    refine gc_reg ?_
    refine t 45 (.slice aq9 0 cq9) ?_
    refine t 46 (.slice (some ⟨bq9, 0, none⟩) 1 dq9) ?_
    refine t 2 (.slice aq9 0 cq9) ?_
    refine t 3 (.slice (some ⟨bq9, 0, none⟩) 1 dq9) ?_
    refine gl_nil ?_
    refine ge_then ?_
    refine gc_ret ?_
    refine ge_ret (.tuple #[.slice aq9 0 cq9, .slice (some ⟨bq9, 0, none⟩) 1 dq9]) (rs2 2 3 (by kernel_rfl) (by kernel_rfl) (by kernel_rfl)) ?_
    exact ⟨_, _, _, _, rfl, U.ta.sx, by omega, by omega, U.ta.km, U.ta.cc⟩
end Fo
end Go.Proofs.YtpoifdokmjhclaaGreat

namespace Go.Proofs.YtpoifdokmjhclaaGreat
namespace Bk
open Go.RowKit Go.Lib Pg Lim Kv
attribute [local go_sem] Oper.semAt_some
section
variable {Wb V V' : World} {B t g x i N : Nat} {K D : Nat → Prop} {E : Ents} {Wn : List Ents}
end
end Bk
end Go.Proofs.YtpoifdokmjhclaaGreat

namespace Go.Proofs.YtpoifdokmjhclaaGreat
namespace Bk
open Go.RowKit Go.Lib Pg Lim Kv
attribute [local go_sem] Oper.semAt_some
end Bk
end Go.Proofs.YtpoifdokmjhclaaGreat

namespace Go.Proofs.YtpoifdokmjhclaaGreat
namespace Sd
open Go.RowKit Go.Lib Pg Lim Gl Kv Bk Pw
attribute [local go_sem] Oper.semAt_some
set_option maxRecDepth 100000
set_option linter.unusedSimpArgs false
set_option linter.unusedVariables false
set_option maxHeartbeats 2000000
section
variable {B : Nat} {w : World} {K : Nat → Prop} {g : Nat} {E : Ents} {W : List Ents} {n N : Nat} {kv : Value} {k l : List Int}
end
end Sd
end Go.Proofs.YtpoifdokmjhclaaGreat

namespace Go.Proofs.YtpoifdokmjhclaaGreat
namespace Sd
open Go.RowKit Go.Lib Pg Lim Gl Kv Bk Pw
attribute [local go_sem] Oper.semAt_some
set_option maxRecDepth 100000
set_option linter.unusedSimpArgs false
set_option linter.unusedVariables false
set_option maxHeartbeats 2000000
section
variable {w w' : World} {g : Nat} {o : Obj}
end
end Sd
end Go.Proofs.YtpoifdokmjhclaaGreat

namespace Go.Proofs.YtpoifdokmjhclaaGreat
namespace Sd
open Go.RowKit Go.Lib Pg Lim Gl Kv Bk Pw
attribute [local go_sem] Oper.semAt_some
set_option maxRecDepth 100000
set_option linter.unusedSimpArgs false
set_option linter.unusedVariables false
set_option maxHeartbeats 2000000
theorem user_any {w : World} {x : Int} {r : Bool} (hr : decide (16 ≤ x) = r) : Calls Tryz.prog 83 #[.int .u64 x] w fun e w' => e = .returned (.bool r) ∧ Below w.heap.size w w' := by
  have BB := Below.refl w.heap.size w
  refine gc_enter (n := 5) Tryz.func83 rfl (by kernel_rfl) (by kernel_rfl) ?_
  refine gc_seq ?_
  refine gc_reg ?_
  refine t 2 (.bool false) ?_
  refine gl_nil ?_
  refine ge_then ?_
  refine gc_seq ?_
  refine gc_reg ?_
  refine t 3 (.int .u64 x) ?_
  by_cases c1 : (16 : Int) ≤ x
  · refine tq 4 (.bool (decide ((16 : Int) ≤ x))) (.bool true) (congrArg Value.bool (decide_eq_true c1)) ?_
    refine t 2 (.bool true) ?_
    refine gl_nil ?_
    refine ge_then ?_
    refine gc_ret ?_
    refine ge_ret (.bool true) (rs1 2 (by kernel_rfl) (by kernel_rfl)) ?_
    exact ⟨by rw [← hr]; simp; omega, BB⟩
  · refine tq 4 (.bool (decide ((16 : Int) ≤ x))) (.bool false) (congrArg Value.bool (decide_eq_false c1)) ?_
    refine t 2 (.bool false) ?_
    refine gl_nil ?_
    refine ge_then ?_
    refine gc_ret ?_
    refine ge_ret (.bool false) (rs1 2 (by kernel_rfl) (by kernel_rfl)) ?_
    exact ⟨by rw [← hr]; simp; omega, BB⟩
end Sd
end Go.Proofs.YtpoifdokmjhclaaGreat
