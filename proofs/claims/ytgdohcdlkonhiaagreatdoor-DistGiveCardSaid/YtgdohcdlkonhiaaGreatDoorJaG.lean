/- Several texts, joined: DiJ. -/
import Derived.Test.YtgdohcdlkonhiaaGreatDoorJaE
import Derived.Test.YtgdohcdlkonhiaaGreatDoorJaF
namespace Go.Proofs.YtgdohcdlkonhiaaGreatDoor
namespace Fo
open Go.RowKit Go.Lib Pg Lim Gl Kv Bk Pw Sd Di
attribute [local go_sem] Oper.semAt_some
set_option maxRecDepth 100000
set_option linter.unusedVariables false
set_option linter.unusedSimpArgs false
set_option maxHeartbeats 4000000
theorem gval_top {g : List Int} (h : GroupsOk g) (h0 : g ≠ []) : nth g (g.length - 1) ≤ gval g := by
  induction g with
  | nil => exact absurd rfl h0
  | cons x l ih =>
    have hx := h x List.mem_cons_self
    by_cases e : l = []
    · subst e
      simp [gval, nth]
    · have := ih (fun y hy => h y (List.mem_cons_of_mem _ hy)) e
      have hl : 0 < l.length := List.length_pos_iff.2 e
      rw [show (x :: l).length - 1 = (l.length - 1) + 1 by simp; omega, nth_succ, gval]
      have h1 := (h _ (List.mem_cons_of_mem _ (nth_mem (l := l) (i := l.length - 1) (by omega)))).1
      omega
theorem appAll_small {w : World} {x : Int} (hx : x < 100) : AppAll w x := fun g h1 h2 h3 h4 wx _ => by
  have h5 := gval_top h1 h3
  obtain ⟨n, hn⟩ : ∃ n : Nat, nth g (g.length - 1) = (n : Int) := ⟨(nth g (g.length - 1)).toNat, by omega⟩
  rw [hn]
  exact app_small n (by omega) (by omega) wx
theorem dtext_is {S : ByteArray} {x : Int} (h : DText S x) (l wl : List UInt8) (hd : (wl.map (fun c => (c.toNat : Int))).all (fun c => decide (48 ≤ c ∧ c ≤ 57)) = true) (hv : dvI (wl.map (fun c => (c.toNat : Int))) = x / U36) (h0 : 0 < wl.length) (h1 : wl.length = 1 ∨ nth (wl.map (fun c => (c.toNat : Int))) 0 ≠ 48) (hl : l = wl ++ fracT (x % U36)) : S = ⟨l.toArray⟩ := by
  obtain ⟨Sw, hw, hS⟩ := h.ex
  have e := text_is hw wl hd hv h0 h1
  rw [hl]
  cases S with
  | mk arr =>
    simp at hS
    rw [e] at hS
    simp [← hS]
theorem belowO {w V V' : World} {K : Nat → Prop} (h : Below w.heap.size w V) (hC : Chg K V V') (hk : ∀ b, K b → w.heap.size ≤ b) : Below w.heap.size w V' :=
  ((Chg.of (F := fun _ => False) h).trans hC (fun b hl hb => by have := hk b hb; omega)).nothing
theorem snewF {w : World} (Bz : Nat) (hb : Bz = w.heap.size) : Calls Tryz.prog 13 #[] w fun e w' => ∃ g K, e = .returned (pg g) ∧ Sx Bz w' K g [] [] 0 0 ∧ (∀ b, K b → Bz ≤ b) ∧ Below w.heap.size w w' := by
  subst hb
  refine snew.mono ?_
  rintro e w' ⟨g, K, rfl, S, hK, B⟩
  exact ⟨g, K, rfl, ⟨S.mono (fun _ _ h => h.elim), B.size, hK⟩, hK, B⟩
theorem share_l {B : Nat} {w : World} {K : Nat → Prop} {g n N z4 n4 c4 : Nat} {a4 : Option Addr} (h : Sx B w K g e13 [] n N) (Q4 : Nq w K z4 a4 n4 c4 98000000000000000000000000000000000000) (m4 : n4 ≤ 300) (hn : n ≤ 100000) (hN : N ≤ 100000) : Calls Tryz.prog 68 #[pg g, .agg #[.slice a4 n4 c4]] w (ShE B w K g e15 n N (0 + 32666666666666666666666666666666666666 + 65333333333333333333333333333333333333) 58800000000000000000000000000000000000 32666666666666666666666666666666666666) :=
  share_any (E0 := e13) (E1 := e14) (E2 := e15) (rt0 := 0) (tk0 := 1) (un0 := 0) (pe0 := 1) (jl0 := false) (bo0 := false) (x00 := 1000000000000000000000000000000000000) (x01 := 0) (x02 := 0) (x03 := 0) (p0 := 32666666666666666666666666666666666666) (y0 := 32666666666666666666666666666666666666) (rt1 := 1000) (tk1 := 2) (un1 := 0) (pe1 := 1) (jl1 := false) (bo1 := false) (x10 := 2000000000000000000000000000000000000) (x11 := 0) (x12 := 0) (x13 := 0) (p1 := 65333333333333333333333333333333333333) (y1 := 58800000000000000000000000000000000000) h Q4 m4 (by decide +kernel) (by decide +kernel) (by decide +kernel) (by decide +kernel) (by decide +kernel) ⟨by decide, by decide⟩ ⟨by decide, by decide⟩ ⟨by decide, by decide⟩ ⟨by decide, by decide⟩ (by decide +kernel) (by decide +kernel) (by decide +kernel) (by decide +kernel) (by decide +kernel) (by decide +kernel) (by decide +kernel) hn hN
structure JdistAllocate6 where
  b0 : Nat
  b1 : Nat
  x0 : Nat
  x1 : List Value
  a0 : Option Addr
  k0 : Nat
  c0 : Nat
  z0 : Nat
  a1 : Option Addr
  k1 : Nat
  c1 : Nat
  z1 : Nat
  a2 : Option Addr
  k2 : Nat
  c2 : Nat
  z2 : Nat
  K : Nat → Prop
  n : Nat
  N : Nat
theorem alloc_l {B : Nat} {w : World} {K : Nat → Prop} {g n N : Nat} (h : Sx B w K g e12 [] n N) (hn : n ≤ 90000) (hN : N ≤ 90000) : Calls Tryz.prog 24 #[pg g] w fun e w' => ∃ gp cp sp b1 k1 d1 u1 b2 k2 d2 u2 K' n' N', e = .returned (.slice (some ⟨gp, 0, none⟩) 2 cp) ∧ n' ≤ n + 400 ∧ N' ≤ N + 400 ∧ Ut w K B g [] w' K' e16 n' N' [(gp, .int .u64 16 :: .int .u64 0 :: .int .u64 0 :: .slice b2 k2 d2 :: .slice none 0 0 :: .slice none 0 0 :: .int .u64 0 :: .int .u64 17 :: .int .u64 0 :: .int .u64 0 :: .slice b1 k1 d1 :: .slice none 0 0 :: .slice none 0 0 :: .int .u64 0 :: sp, 63)] [(u1, b1, k1, d1, 58800000000000000000000000000000000000), (u2, b2, k2, d2, 32666666666666666666666666666666666666)] ∧ k1 ≤ 3000 ∧ (k1 = 0 ∨ w.heap.size ≤ u1) ∧ k2 ≤ 3000 ∧ (k2 = 0 ∨ w.heap.size ≤ u2) := by
  have U := ut_of h
  refine gc_enter (n := 45) Tryz.func24 rfl (by kernel_rfl) (by kernel_rfl) ?_
  refine gc_seq ?_
  refine gc_reg ?_
  refine t 2 (.slice none 0 0) ?_
  refine gl_nil ?_
  refine ge_then ?_
  refine gc_seq ?_
  refine gc_reg ?_
  refine t 9 (pg g) ?_
  refine tc 10 30 #[pg g, .int .u64 1] (get_lit (get_any U.ta.sx ⟨by decide, by decide⟩ (by omega) (by omega)) (show coin e12 1 = 100 by decide +kernel) (show seqn e12 1 = 0 by decide +kernel)) ?_
  rintro _ v2 ⟨rfl, K1, S, hK, hC⟩
  refine ⟨_, rfl, ?_⟩
  replace U := U.op S hK hC
  clear S hK hC
  refine t 11 (.int .u64 100) ?_
  refine t 3 (.int .u64 100) ?_
  refine gl_nil ?_
  refine ge_then ?_
  refine gc_seq ?_
  refine gc_seq ?_
  refine gc_reg ?_
  refine t 12 (.int .u64 100) ?_
  refine t 13 (.bool false) ?_
  refine t 14 (.bool false) ?_
  refine t 15 (pg g) ?_
  refine t 16 (.int .u64 100) ?_
  refine tc 17 65 #[pg g, .int .u64 1, .int .u64 4, .int .u64 100] (mv_lit (move_any U.ta.sx ⟨by decide, by decide⟩ ⟨by decide, by decide⟩ ⟨by decide, by decide⟩ (by omega) (by omega)) (show moveE e12 1 4 100 = e13 from rfl) (show moveR e12 1 4 100 = 0 by decide +kernel)) ?_
  rintro _ v7 ⟨rfl, K3, n4, N5, S, qn4, qN5, hK, hC⟩
  refine ⟨_, rfl, ?_⟩
  replace U := U.op S hK hC
  clear S hK hC
  refine t 18 (.bool false) ?_
  refine t 19 (.bool false) ?_
  refine gl_nil ?_
  refine ge_then ?_
  refine gc_fr [(0, pg g), (2, .slice none 0 0), (3, .int .u64 100), (19, .bool false)] (by kernel_rfl) ?_
  refine gc_no ?_
  refine gc_skip ?_
  refine ge_then ?_
  refine gc_seq ?_
  refine gc_reg ?_
  refine t 20 (.int .u64 100) ?_
  refine tc 21 19 #[.int .u64 100] (eOf (y := 100) ⟨by decide, by decide⟩) ?_
  rintro _ v9 ⟨aq8, nq8, cq8, zq8, rfl, M, h, mq8, B⟩
  refine ⟨_, rfl, ?_⟩
  have fq8 := ne3 h U.ta.size
  replace U := U.num M h B
  clear M h B
  replace U := U.val 0 rfl (show _ = (100000000000000000000000000000000000000 : Int) by decide +kernel)
  refine ta 4 [.slice none 0 0] 26 (pg) ?_
  intro v10 g11 Xg11 hg11 B
  replace U := U.new Xg11 hg11 B
  clear Xg11 hg11 B
  refine ts (U.bk 0 rfl) 0 (.agg #[.slice aq8 nq8 cq8]) [.slice aq8 nq8 cq8] [.slice aq8 nq8 cq8] ?_
  intro v12 Y C
  replace U := U.put 0 rfl C Y (by decide)
  clear Y C
  refine gl_nil ?_
  refine ge_then ?_
  refine gc_seq ?_
  refine gc_reg ?_
  refine t 23 (pg g) ?_
  refine t 24 (.agg #[.int .i64 1, .int .u64 0, .int .u64 0]) ?_
  refine tc 25 66 #[pg g, .agg #[.int .i64 1, .int .u64 0, .int .u64 0], .func (.func 67) #[] #[]] (fdParams (th := true) (er := 0) (p0 := 0) (p1 := 0) (p2 := 0) (p3 := 200) (p4 := 0) (p5 := 0) (p6 := 0) (p7 := 0) (p8 := 0) (p9 := 0) U.ta.sx ⟨by decide, by decide⟩ mkE1 (by decide +kernel) rfl (by omega) (by omega)) ?_
  rintro _ v16 ⟨K13, n14, N15, rfl, S, qn14, qN15, hK, hC⟩
  refine ⟨_, rfl, ?_⟩
  have L := U.lt
  replace U := U.op S hK hC
  clear L S hK hC
  refine t 22 (.tuple #[.agg #[.int .u64 0, .int .u64 0, .int .u64 0, .int .u64 200, .int .u64 0, .int .u64 0, .int .u64 0, .int .u64 0, .int .u64 0, .int .u64 0], .bool true]) ?_
  refine t 26 (.agg #[.int .u64 0, .int .u64 0, .int .u64 0, .int .u64 200, .int .u64 0, .int .u64 0, .int .u64 0, .int .u64 0, .int .u64 0, .int .u64 0]) ?_
  refine t 27 (.bool true) ?_
  refine ta 5 [.int .u64 0, .int .u64 0, .int .u64 0, .int .u64 0, .int .u64 0, .int .u64 0, .int .u64 0, .int .u64 0, .int .u64 0, .int .u64 0] 50 (pg) ?_
  intro v17 g18 Xg18 hg18 B
  replace U := U.new Xg18 hg18 B
  clear Xg18 hg18 B
  refine ts (U.bk 0 rfl) 0 (.agg #[.int .u64 0, .int .u64 0, .int .u64 0, .int .u64 200, .int .u64 0, .int .u64 0, .int .u64 0, .int .u64 0, .int .u64 0, .int .u64 0]) [.int .u64 0, .int .u64 0, .int .u64 0, .int .u64 200, .int .u64 0, .int .u64 0, .int .u64 0, .int .u64 0, .int .u64 0, .int .u64 0] [.int .u64 0, .int .u64 0, .int .u64 0, .int .u64 200, .int .u64 0, .int .u64 0, .int .u64 0, .int .u64 0, .int .u64 0, .int .u64 0] ?_
  intro v19 Y C
  replace U := U.put 0 rfl C Y (by decide)
  clear Y C
  refine t 6 (.bool true) ?_
  refine gl_nil ?_
  refine ge_then ?_
  refine gc_join (fun (s : JdistAllocate6) => [(0, pg g), (2, .slice none 0 0), (4, pg g11), (7, .slice (some ⟨s.b1, 0, none⟩) 2 s.x0), (8, pg s.b0)]) (fun s w' => Ut w K B g [] w' s.K e15 s.n s.N [(s.b0, [.slice s.a0 s.k0 s.c0], 26), (s.b1, .int .u64 16 :: .int .u64 0 :: .int .u64 0 :: .slice s.a2 s.k2 s.c2 :: .slice none 0 0 :: .slice none 0 0 :: .int .u64 0 :: .int .u64 17 :: .int .u64 0 :: .int .u64 0 :: .slice s.a1 s.k1 s.c1 :: .slice none 0 0 :: .slice none 0 0 :: .int .u64 0 :: s.x1, 63), (g18, [.int .u64 0, .int .u64 0, .int .u64 0, .int .u64 200, .int .u64 0, .int .u64 0, .int .u64 0, .int .u64 0, .int .u64 0, .int .u64 0], 50), (g11, [.slice aq8 nq8 cq8], 26)] [(s.z0, s.a0, s.k0, s.c0, 97999999999999999999999999999999999999), (s.z1, s.a1, s.k1, s.c1, 58800000000000000000000000000000000000), (s.z2, s.a2, s.k2, s.c2, 32666666666666666666666666666666666666), (zq8, aq8, nq8, cq8, 100000000000000000000000000000000000000)] ∧ (s.n ≤ n + 350 ∧ s.N ≤ N + 350) ∧ (s.k0 ≤ 3000 ∧ (s.k0 = 0 ∨ w.heap.size ≤ s.z0)) ∧ (s.k1 ≤ 3000 ∧ (s.k1 = 0 ∨ w.heap.size ≤ s.z1)) ∧ (s.k2 ≤ 3000 ∧ (s.k2 = 0 ∨ w.heap.size ≤ s.z2))) ?_ ?_
  · replace U := U.drew
    refine gc_draw (fun w' => Blk w' g11 [.slice aq8 nq8 cq8] 26 ∧ Blk w' g18 [.int .u64 0, .int .u64 0, .int .u64 0, .int .u64 200, .int .u64 0, .int .u64 0, .int .u64 0, .int .u64 0, .int .u64 0, .int .u64 0] 50) (fun _ => false) ⟨(U.bk 1 rfl), (U.bk 0 rfl)⟩ ?_
    refine z 0 29 (pg g) ?_
    refine zlr 1 30 [.slice aq8 nq8 cq8] (fun _ h => h.1) 0 ?_
    refine zlr 2 31 [.slice aq8 nq8 cq8] (fun _ h => h.1) 0 ?_
    refine z 3 32 (pq g18 3) ?_
    refine zl 4 33 (.int .u64 200) (fun _ h => h.2) 3 ?_
    refine gz_ready [5, 11] ?_
    refine ga_call 5 (some 34) 33 #[.agg #[.slice aq8 nq8 cq8], .int .u64 200] (dPor (y := 200) (U.nq 0 rfl).nat (by omega) ⟨by decide, by decide⟩) ?_ ?_
    · rintro _ v21 ⟨aq20, nq20, cq20, zq20, rfl, M, h, mq20, B⟩
      have fq20 := ne3 h U.ta.size
      replace U := U.num M h B
      clear M h B
      replace U := U.val 0 rfl (show _ = (2000000000000000000000000000000000000 : Int) by decide +kernel)
      refine ⟨_, rfl, ⟨(U.bk 1 rfl), (U.bk 0 rfl)⟩, ?_⟩
      refine gz_ready [6, 11] ?_
      refine ga_call 6 (some 35) 35 #[.agg #[.slice aq8 nq8 cq8], .agg #[.slice aq20 nq20 cq20]] (dLess (U.nq 1 rfl).nat (by omega) (U.nq 0 rfl).nat (by omega)) ?_ ?_
      · rintro _ v23 ⟨aq22, nq22, cq22, zq22, rfl, M, h, mq22, B⟩
        have fq22 := ne3 h U.ta.size
        replace U := U.num M h B
        clear M h B
        replace U := U.val 0 rfl (show _ = (98000000000000000000000000000000000000 : Int) by decide +kernel)
        refine ⟨_, rfl, ⟨(U.bk 1 rfl), (U.bk 0 rfl)⟩, ?_⟩
        refine gz_ready [7, 11] ?_
        refine ga_call 7 (some 36) 68 #[pg g, .agg #[.slice aq22 nq22 cq22]] (share_l U.ta.sx (U.nq 0 rfl) (by omega) (by omega) (by omega)) ?_ ?_
        · rintro _ v33 ⟨gp30, cp31, sp32, aq24, nq24, cq24, zq24, aq25, nq25, cq25, zq25, aq26, nq26, cq26, zq26, K27, n28, N29, rfl, qn28, qN29, V, mq24, h0, mq25, h1, mq26, h2⟩
          have fq24 := ne3 h0 U.ta.size
          have fq25 := ne3 h1 U.ta.size
          have fq26 := ne3 h2 U.ta.size
          replace U := U.merge V (List.forall_mem_cons.2 ⟨h0, List.forall_mem_cons.2 ⟨h1, List.forall_mem_cons.2 ⟨h2, fun _ h => absurd h List.not_mem_nil⟩⟩⟩)
          clear V h0 h1 h2
          replace U := U.val 0 rfl (show _ = (97999999999999999999999999999999999999 : Int) by decide +kernel)
          refine ⟨_, rfl, ⟨(U.bk 2 rfl), (U.bk 1 rfl)⟩, ?_⟩
          refine z 8 28 (.tuple #[.slice (some ⟨gp30, 0, none⟩) 2 cp31, .agg #[.slice aq24 nq24 cq24]]) ?_
          refine z 9 37 (.slice (some ⟨gp30, 0, none⟩) 2 cp31) ?_
          refine z 10 38 (.agg #[.slice aq24 nq24 cq24]) ?_
          refine za 11 8 [.slice none 0 0] 26 (pg) ?_
          intro v34 g35 Xg35 hg35 B
          replace U := U.new Xg35 hg35 B
          clear Xg35 hg35 B
          refine ⟨⟨(U.bk 3 rfl), (U.bk 2 rfl)⟩, ?_⟩
          refine z 12 7 (.slice (some ⟨gp30, 0, none⟩) 2 cp31) ?_
          refine zs 13 (U.bk 0 rfl) 0 (.agg #[.slice aq24 nq24 cq24]) [.slice aq24 nq24 cq24] [.slice aq24 nq24 cq24] ?_
          intro v36 Y C
          replace U := U.put 0 rfl C Y (by decide)
          clear Y C
          refine ⟨⟨(U.bk 3 rfl), (U.bk 2 rfl)⟩, ?_⟩
          refine gz_done ?_
          exact ge_join (⟨g35, gp30, cp31, sp32, aq24, nq24, cq24, zq24, aq25, nq25, cq25, zq25, aq26, nq26, cq26, zq26, _, _, _⟩ : JdistAllocate6) ⟨U.sel [0, 1, 2, 3] [0, 1, 2, 5], ⟨by (try dsimp only); omega, by (try dsimp only); omega⟩, ⟨by (try dsimp only); omega, fq24⟩, ⟨by (try dsimp only); omega, fq25⟩, ⟨by (try dsimp only); omega, fq26⟩⟩ (by kernel_rfl)
        refine zaa 11 8 [.slice none 0 0] 26 (pg) ?_ ?_
        · intro v37 g38 Xg38 hg38 B
          replace U := U.new Xg38 hg38 B
          clear Xg38 hg38 B
          refine ⟨⟨(U.bk 2 rfl), (U.bk 1 rfl)⟩, ?_⟩
          refine zc 7 36 68 #[pg g, .agg #[.slice aq22 nq22 cq22]] (share_l U.ta.sx (U.nq 0 rfl) (by omega) (by omega) (by omega)) ?_
          rintro _ v48 ⟨gp45, cp46, sp47, aq39, nq39, cq39, zq39, aq40, nq40, cq40, zq40, aq41, nq41, cq41, zq41, K42, n43, N44, rfl, qn43, qN44, V, mq39, h0, mq40, h1, mq41, h2⟩
          have fq39 := ne3 h0 U.ta.size
          have fq40 := ne3 h1 U.ta.size
          have fq41 := ne3 h2 U.ta.size
          replace U := U.merge V (List.forall_mem_cons.2 ⟨h0, List.forall_mem_cons.2 ⟨h1, List.forall_mem_cons.2 ⟨h2, fun _ h => absurd h List.not_mem_nil⟩⟩⟩)
          clear V h0 h1 h2
          replace U := U.val 0 rfl (show _ = (97999999999999999999999999999999999999 : Int) by decide +kernel)
          refine ⟨_, rfl, ⟨(U.bk 3 rfl), (U.bk 2 rfl)⟩, ?_⟩
          refine z 8 28 (.tuple #[.slice (some ⟨gp45, 0, none⟩) 2 cp46, .agg #[.slice aq39 nq39 cq39]]) ?_
          refine z 9 37 (.slice (some ⟨gp45, 0, none⟩) 2 cp46) ?_
          refine z 10 38 (.agg #[.slice aq39 nq39 cq39]) ?_
          refine z 12 7 (.slice (some ⟨gp45, 0, none⟩) 2 cp46) ?_
          refine zs 13 (U.bk 1 rfl) 0 (.agg #[.slice aq39 nq39 cq39]) [.slice aq39 nq39 cq39] [.slice aq39 nq39 cq39] ?_
          intro v49 Y C
          replace U := U.put 1 rfl C Y (by decide)
          clear Y C
          refine ⟨⟨(U.bk 3 rfl), (U.bk 2 rfl)⟩, ?_⟩
          refine gz_done ?_
          exact ge_join (⟨g38, gp45, cp46, sp47, aq39, nq39, cq39, zq39, aq40, nq40, cq40, zq40, aq41, nq41, cq41, zq41, _, _, _⟩ : JdistAllocate6) ⟨U.sel [1, 0, 2, 3] [0, 1, 2, 5], ⟨by (try dsimp only); omega, by (try dsimp only); omega⟩, ⟨by (try dsimp only); omega, fq39⟩, ⟨by (try dsimp only); omega, fq40⟩, ⟨by (try dsimp only); omega, fq41⟩⟩ (by kernel_rfl)
        exact ga_nil
      refine zaa 11 8 [.slice none 0 0] 26 (pg) ?_ ?_
      · intro v50 g51 Xg51 hg51 B
        replace U := U.new Xg51 hg51 B
        clear Xg51 hg51 B
        refine ⟨⟨(U.bk 2 rfl), (U.bk 1 rfl)⟩, ?_⟩
        refine zc 6 35 35 #[.agg #[.slice aq8 nq8 cq8], .agg #[.slice aq20 nq20 cq20]] (dLess (U.nq 1 rfl).nat (by omega) (U.nq 0 rfl).nat (by omega)) ?_
        rintro _ v53 ⟨aq52, nq52, cq52, zq52, rfl, M, h, mq52, B⟩
        have fq52 := ne3 h U.ta.size
        replace U := U.num M h B
        clear M h B
        replace U := U.val 0 rfl (show _ = (98000000000000000000000000000000000000 : Int) by decide +kernel)
        refine ⟨_, rfl, ⟨(U.bk 2 rfl), (U.bk 1 rfl)⟩, ?_⟩
        refine zc 7 36 68 #[pg g, .agg #[.slice aq52 nq52 cq52]] (share_l U.ta.sx (U.nq 0 rfl) (by omega) (by omega) (by omega)) ?_
        rintro _ v63 ⟨gp60, cp61, sp62, aq54, nq54, cq54, zq54, aq55, nq55, cq55, zq55, aq56, nq56, cq56, zq56, K57, n58, N59, rfl, qn58, qN59, V, mq54, h0, mq55, h1, mq56, h2⟩
        have fq54 := ne3 h0 U.ta.size
        have fq55 := ne3 h1 U.ta.size
        have fq56 := ne3 h2 U.ta.size
        replace U := U.merge V (List.forall_mem_cons.2 ⟨h0, List.forall_mem_cons.2 ⟨h1, List.forall_mem_cons.2 ⟨h2, fun _ h => absurd h List.not_mem_nil⟩⟩⟩)
        clear V h0 h1 h2
        replace U := U.val 0 rfl (show _ = (97999999999999999999999999999999999999 : Int) by decide +kernel)
        refine ⟨_, rfl, ⟨(U.bk 3 rfl), (U.bk 2 rfl)⟩, ?_⟩
        refine z 8 28 (.tuple #[.slice (some ⟨gp60, 0, none⟩) 2 cp61, .agg #[.slice aq54 nq54 cq54]]) ?_
        refine z 9 37 (.slice (some ⟨gp60, 0, none⟩) 2 cp61) ?_
        refine z 10 38 (.agg #[.slice aq54 nq54 cq54]) ?_
        refine z 12 7 (.slice (some ⟨gp60, 0, none⟩) 2 cp61) ?_
        refine zs 13 (U.bk 1 rfl) 0 (.agg #[.slice aq54 nq54 cq54]) [.slice aq54 nq54 cq54] [.slice aq54 nq54 cq54] ?_
        intro v64 Y C
        replace U := U.put 1 rfl C Y (by decide)
        clear Y C
        refine ⟨⟨(U.bk 3 rfl), (U.bk 2 rfl)⟩, ?_⟩
        refine gz_done ?_
        exact ge_join (⟨g51, gp60, cp61, sp62, aq54, nq54, cq54, zq54, aq55, nq55, cq55, zq55, aq56, nq56, cq56, zq56, _, _, _⟩ : JdistAllocate6) ⟨U.sel [1, 0, 2, 3] [0, 1, 2, 5], ⟨by (try dsimp only); omega, by (try dsimp only); omega⟩, ⟨by (try dsimp only); omega, fq54⟩, ⟨by (try dsimp only); omega, fq55⟩, ⟨by (try dsimp only); omega, fq56⟩⟩ (by kernel_rfl)
      exact ga_nil
    refine zaa 11 8 [.slice none 0 0] 26 (pg) ?_ ?_
    · intro v65 g66 Xg66 hg66 B
      replace U := U.new Xg66 hg66 B
      clear Xg66 hg66 B
      refine ⟨⟨(U.bk 2 rfl), (U.bk 1 rfl)⟩, ?_⟩
      refine zc 5 34 33 #[.agg #[.slice aq8 nq8 cq8], .int .u64 200] (dPor (y := 200) (U.nq 0 rfl).nat (by omega) ⟨by decide, by decide⟩) ?_
      rintro _ v68 ⟨aq67, nq67, cq67, zq67, rfl, M, h, mq67, B⟩
      have fq67 := ne3 h U.ta.size
      replace U := U.num M h B
      clear M h B
      replace U := U.val 0 rfl (show _ = (2000000000000000000000000000000000000 : Int) by decide +kernel)
      refine ⟨_, rfl, ⟨(U.bk 2 rfl), (U.bk 1 rfl)⟩, ?_⟩
      refine zc 6 35 35 #[.agg #[.slice aq8 nq8 cq8], .agg #[.slice aq67 nq67 cq67]] (dLess (U.nq 1 rfl).nat (by omega) (U.nq 0 rfl).nat (by omega)) ?_
      rintro _ v70 ⟨aq69, nq69, cq69, zq69, rfl, M, h, mq69, B⟩
      have fq69 := ne3 h U.ta.size
      replace U := U.num M h B
      clear M h B
      replace U := U.val 0 rfl (show _ = (98000000000000000000000000000000000000 : Int) by decide +kernel)
      refine ⟨_, rfl, ⟨(U.bk 2 rfl), (U.bk 1 rfl)⟩, ?_⟩
      refine zc 7 36 68 #[pg g, .agg #[.slice aq69 nq69 cq69]] (share_l U.ta.sx (U.nq 0 rfl) (by omega) (by omega) (by omega)) ?_
      rintro _ v80 ⟨gp77, cp78, sp79, aq71, nq71, cq71, zq71, aq72, nq72, cq72, zq72, aq73, nq73, cq73, zq73, K74, n75, N76, rfl, qn75, qN76, V, mq71, h0, mq72, h1, mq73, h2⟩
      have fq71 := ne3 h0 U.ta.size
      have fq72 := ne3 h1 U.ta.size
      have fq73 := ne3 h2 U.ta.size
      replace U := U.merge V (List.forall_mem_cons.2 ⟨h0, List.forall_mem_cons.2 ⟨h1, List.forall_mem_cons.2 ⟨h2, fun _ h => absurd h List.not_mem_nil⟩⟩⟩)
      clear V h0 h1 h2
      replace U := U.val 0 rfl (show _ = (97999999999999999999999999999999999999 : Int) by decide +kernel)
      refine ⟨_, rfl, ⟨(U.bk 3 rfl), (U.bk 2 rfl)⟩, ?_⟩
      refine z 8 28 (.tuple #[.slice (some ⟨gp77, 0, none⟩) 2 cp78, .agg #[.slice aq71 nq71 cq71]]) ?_
      refine z 9 37 (.slice (some ⟨gp77, 0, none⟩) 2 cp78) ?_
      refine z 10 38 (.agg #[.slice aq71 nq71 cq71]) ?_
      refine z 12 7 (.slice (some ⟨gp77, 0, none⟩) 2 cp78) ?_
      refine zs 13 (U.bk 1 rfl) 0 (.agg #[.slice aq71 nq71 cq71]) [.slice aq71 nq71 cq71] [.slice aq71 nq71 cq71] ?_
      intro v81 Y C
      replace U := U.put 1 rfl C Y (by decide)
      clear Y C
      refine ⟨⟨(U.bk 3 rfl), (U.bk 2 rfl)⟩, ?_⟩
      refine gz_done ?_
      exact ge_join (⟨g66, gp77, cp78, sp79, aq71, nq71, cq71, zq71, aq72, nq72, cq72, zq72, aq73, nq73, cq73, zq73, _, _, _⟩ : JdistAllocate6) ⟨U.sel [1, 0, 2, 3] [0, 1, 2, 5], ⟨by (try dsimp only); omega, by (try dsimp only); omega⟩, ⟨by (try dsimp only); omega, fq71⟩, ⟨by (try dsimp only); omega, fq72⟩, ⟨by (try dsimp only); omega, fq73⟩⟩ (by kernel_rfl)
    exact ga_nil
  clear U
  rintro ⟨j83_b0, j83_b1, j83_x0, j83_x1, j83_a0, j83_k0, j83_c0, j83_z0, j83_a1, j83_k1, j83_c1, j83_z1, j83_a2, j83_k2, j83_c2, j83_z2, j83_K, j83_n, j83_N⟩ v82 ⟨U, ⟨j83_hn, j83_hN⟩, ⟨mj83_0, fj83_0⟩, ⟨mj83_1, fj83_1⟩, ⟨mj83_2, fj83_2⟩⟩
  dsimp only at *
  refine gc_seq ?_
  refine gc_reg ?_
  refine t 39 (pg g) ?_
  refine tlr 40 [.slice aq8 nq8 cq8] (U.bk 3 rfl) 0 ?_
  refine tlr 41 [.slice j83_a0 j83_k0 j83_c0] (U.bk 0 rfl) 0 ?_
  refine tc 42 35 #[.agg #[.slice aq8 nq8 cq8], .agg #[.slice j83_a0 j83_k0 j83_c0]] (dLess (U.nq 3 rfl).nat (by omega) (U.nq 0 rfl).nat (by omega)) ?_
  rintro _ v85 ⟨aq84, nq84, cq84, zq84, rfl, M, h, mq84, B⟩
  refine ⟨_, rfl, ?_⟩
  have fq84 := ne3 h U.ta.size
  replace U := U.num M h B
  clear M h B
  replace U := U.val 0 rfl (show _ = (2000000000000000000000000000000000001 : Int) by decide +kernel)
  refine tc 43 69 #[pg g, .agg #[.slice aq84 nq84 cq84]] (SxF.castE (pour_any (p := 0) (er := 80) U.ta.sx (U.nq 0 rfl).nk (by omega) (by decide +kernel) (by omega) (by omega)) (show plE e15 (0 + 2000000000000000000000000000000000001) = e16 from rfl)) ?_
  rintro _ v90 ⟨rfl, K86, n87, N88, S, qn87, qN88, hK, hC⟩
  refine ⟨_, rfl, ?_⟩
  replace U := U.op S hK hC
  clear S hK hC
  refine gl_nil ?_
  refine ge_then ?_
  refine gc_seq ?_
  refine gc_reg ?_
  refine t 44 (.slice (some ⟨j83_b1, 0, none⟩) 2 j83_x0) ?_
  refine t 2 (.slice (some ⟨j83_b1, 0, none⟩) 2 j83_x0) ?_
  refine gl_nil ?_
  refine ge_then ?_
  refine gc_ret ?_
  refine ge_ret (.slice (some ⟨j83_b1, 0, none⟩) 2 j83_x0) (rs1 2 (by kernel_rfl) (by kernel_rfl)) ?_
  exact ⟨j83_b1, j83_x0, j83_x1, _, _, _, _, _, _, _, _, _, _, _, rfl, by omega, by omega, U.sel [1] [2, 3], by omega, fj83_1, by omega, fj83_2⟩
set_option maxHeartbeats 8000000 in
theorem known14 {w : World} : Calls Tryz.prog 4 #[] w fun e w' => e = .returned (.bool true) ∧ Below w.heap.size w w' := by
  have BB := Below.refl w.heap.size w
  refine gc_enter (n := 182) Tryz.func4 rfl (by kernel_rfl) (by kernel_rfl) ?_
  refine gc_seq ?_
  refine gc_reg ?_
  refine t 0 (.bool false) ?_
  refine gl_nil ?_
  refine ge_then ?_
  refine gc_seq ?_
  refine gc_reg ?_
  refine tc 18 13 #[] (snewF _ rfl) ?_
  rintro _ v1 ⟨g, K0, rfl, S0, hK0, B0⟩
  refine ⟨_, rfl, ?_⟩
  have BN := joinB BB B0
  have U := ut_of S0
  have hz0 := BB.size
  clear BB B0
  refine t 1 (pg g) ?_
  refine gl_nil ?_
  refine ge_then ?_
  refine gc_seq ?_
  refine gc_seq ?_
  refine gc_reg ?_
  refine t 19 (pg g) ?_
  refine t 20 (.bool false) ?_
  refine gl_nil ?_
  refine ge_then ?_
  refine gc_no ?_
  refine gc_skip ?_
  refine ge_then ?_
  refine gc_seq ?_
  refine gc_reg ?_
  refine t 22 (.agg #[.int .i64 1, .int .u64 0, .int .u64 0]) ?_
  refine tc 23 14 #[.agg #[.int .i64 1, .int .u64 0, .int .u64 0]] (mk_key ⟨by decide, by decide⟩ mkE1) ?_
  rintro _ v2 ⟨kv, rfl, Uk, B⟩
  refine ⟨_, rfl, ?_⟩
  replace U := U.keep B
  clear B
  refine t 21 (.tuple #[kv, .int .i64 0]) ?_
  refine t 24 (kv) ?_
  refine t 25 (.int .i64 0) ?_
  refine t 2 (kv) ?_
  refine t 3 (.int .i64 0) ?_
  refine gl_nil ?_
  refine ge_then ?_
  refine gc_fr [(0, .bool false), (1, pg g), (2, kv)] (by kernel_rfl) ?_
  refine gc_seq ?_
  refine gc_reg ?_
  refine t 26 (pg g) ?_
  refine t 27 (kv) ?_
  refine t 28 (.agg #[.int .u64 0, .int .u64 0, .int .u64 0, .int .u64 200, .int .u64 0, .int .u64 0, .int .u64 0, .int .u64 0, .int .u64 0, .int .u64 0]) ?_
  refine tc 29 16 #[.agg #[.int .u64 0, .int .u64 0, .int .u64 0, .int .u64 200, .int .u64 0, .int .u64 0, .int .u64 0, .int .u64 0, .int .u64 0, .int .u64 0]] (putParams) ?_
  rintro _ v3 ⟨pv, rfl, Uv, B⟩
  refine ⟨_, rfl, ?_⟩
  replace U := U.keep B
  replace Uk := byu_keep Uk B
  clear B
  refine tc 30 15 #[pg g, kv, pv] (qset U.ta.sx Uk mkE1 Uv pav_len (by omega) (by omega)) ?_
  rintro _ v5 ⟨rfl, K4, S, hK, hC⟩
  refine ⟨_, rfl, ?_⟩
  replace U := U.op S hK hC
  clear S hK hC
  refine gl_nil ?_
  refine ge_then ?_
  refine gc_seq ?_
  refine gc_reg ?_
  refine t 31 (pg g) ?_
  refine tc 32 17 #[pg g, .int .u64 1, .int .u64 100] (mv_lit (mint_any U.ta.sx ⟨by decide, by decide⟩ ⟨by decide, by decide⟩ (by omega) (by omega)) (show mintE e1 1 100 = e2 from rfl) (show mintR e1 1 100 = 0 by decide +kernel)) ?_
  rintro _ v10 ⟨rfl, K6, n7, N8, S, qn7, qN8, hK, hC⟩
  refine ⟨_, rfl, ?_⟩
  replace U := U.op S hK hC
  clear S hK hC
  refine gl_nil ?_
  refine ge_then ?_
  refine gc_seq ?_
  refine gc_seq ?_
  refine gc_reg ?_
  refine t 4 (.int .u64 16) ?_
  refine gl_nil ?_
  refine ge_then ?_
  refine gc_block ?_
  refine gc_rds 2 ?_
  refine gc_seq ?_
  refine gc_seq ?_
  refine gc_reg ?_
  refine t 33 (.int .u64 16) ?_
  refine t 34 (.bool true) ?_
  refine gl_nil ?_
  refine ge_then ?_
  refine gc_yes ?_
  refine gc_skip ?_
  refine ge_then ?_
  refine gc_seq ?_
  refine gc_block ?_
  refine gc_seq ?_
  refine gc_reg ?_
  refine t 37 (pg g) ?_
  refine t 38 (.int .u64 16) ?_
  refine t 39 (.int .u64 16) ?_
  refine t 40 (.int .u64 0) ?_
  refine t 41 (.int .u64 0) ?_
  refine t 42 (.int .u64 16) ?_
  refine t 43 (.int .u64 1) ?_
  refine t 44 (.int .u64 16) ?_
  refine t 45 (.int .u64 1) ?_
  refine tc 46 19 #[.int .u64 1] (eOf (y := 1) ⟨by decide, by decide⟩) ?_
  rintro _ v12 ⟨aq11, nq11, cq11, zq11, rfl, M, h, mq11, B⟩
  refine ⟨_, rfl, ?_⟩
  have fq11 := ne3 h U.ta.size
  replace U := U.num M h B
  clear M h B
  replace U := U.val 0 rfl (show _ = (1000000000000000000000000000000000000 : Int) by decide +kernel)
  refine t 47 (.agg #[.int .u64 0, .int .u64 1, .slice aq11 nq11 cq11, .bool false, .int .u64 0, .bool false, .int .u64 0, .slice none 0 0, .slice none 0 0, .slice none 0 0]) ?_
  refine tc 48 18 #[pg g, .int .u64 16, .agg #[.int .u64 0, .int .u64 1, .slice aq11 nq11 cq11, .bool false, .int .u64 0, .bool false, .int .u64 0, .slice none 0 0, .slice none 0 0, .slice none 0 0]] (start_any U.ta.sx ⟨by decide, by decide⟩ (U.nq 0 rfl).nk (by omega) (nq_nil _ _).nk (by omega) (nq_nil _ _).nk (by omega) (nq_nil _ _).nk (by omega) (by omega) (by omega)) ?_
  rintro _ v19 ⟨aq13, nq13, cq13, zq13, aq14, nq14, cq14, zq14, aq15, nq15, cq15, zq15, K16, n17, N18, rfl, S, qn17, qN18, hK, hC, Q0, mq13, h0, Q1, mq14, h1, Q2, mq15, h2⟩
  refine ⟨_, rfl, ?_⟩
  have fq13 := ne3 h0 U.ta.size
  have fq14 := ne3 h1 U.ta.size
  have fq15 := ne3 h2 U.ta.size
  have L := U.lt
  replace U := (((U.op S hK hC).add L Q0 h0).add L Q1 h1).add L Q2 h2
  clear L S hK hC Q0 h0 Q1 h1 Q2 h2
  refine ta 5 [.int .u64 0, .int .u64 0, .slice none 0 0, .bool false, .int .u64 0, .bool false, .int .u64 0, .slice none 0 0, .slice none 0 0, .slice none 0 0] 28 (pg) ?_
  intro v20 g21 Xg21 hg21 B
  replace U := U.new Xg21 hg21 B
  clear Xg21 hg21 B
  refine ts (U.bk 0 rfl) 0 (.agg #[.int .u64 0, .int .u64 1, .slice aq13 nq13 cq13, .bool false, .int .u64 0, .bool false, .int .u64 1, .slice none 0 0, .slice aq14 nq14 cq14, .slice aq15 nq15 cq15]) [.int .u64 0, .int .u64 1, .slice aq13 nq13 cq13, .bool false, .int .u64 0, .bool false, .int .u64 1, .slice none 0 0, .slice aq14 nq14 cq14, .slice aq15 nq15 cq15] [.int .u64 0, .int .u64 1, .slice aq13 nq13 cq13, .bool false, .int .u64 0, .bool false, .int .u64 1, .slice none 0 0, .slice aq14 nq14 cq14, .slice aq15 nq15 cq15] ?_
  intro v22 Y C
  replace U := U.put 0 rfl C Y (by decide)
  clear Y C
  refine gl_nil ?_
  refine ge_then ?_
  refine gc_fr [(0, .bool false), (1, pg g), (4, .int .u64 16), (5, pg g21), (33, .int .u64 16), (34, .bool true), (37, pg g), (38, .int .u64 16), (39, .int .u64 16), (40, .int .u64 0), (41, .int .u64 0), (42, .int .u64 16), (43, .int .u64 1), (44, .int .u64 16), (45, .int .u64 1), (46, .agg #[.slice aq11 nq11 cq11]), (47, .agg #[.int .u64 0, .int .u64 1, .slice aq11 nq11 cq11, .bool false, .int .u64 0, .bool false, .int .u64 0, .slice none 0 0, .slice none 0 0, .slice none 0 0]), (48, .agg #[.int .u64 0, .int .u64 1, .slice aq13 nq13 cq13, .bool false, .int .u64 0, .bool false, .int .u64 1, .slice none 0 0, .slice aq14 nq14 cq14, .slice aq15 nq15 cq15])] (by kernel_rfl) ?_
  refine gc_seq ?_
  refine gc_reg ?_
  refine t 49 (pg g) ?_
  refine t 50 (.int .u64 16) ?_
  refine tlr 51 [.int .u64 0, .int .u64 1, .slice aq13 nq13 cq13, .bool false, .int .u64 0, .bool false, .int .u64 1, .slice none 0 0, .slice aq14 nq14 cq14, .slice aq15 nq15 cq15] (U.bk 0 rfl) 0 ?_
  refine t 52 (pq g21 2) ?_
  refine tlr 53 [.slice aq13 nq13 cq13] (U.bk 0 rfl) 2 ?_
  refine t 54 (.agg #[.slice aq13 nq13 cq13, .int .u64 0, .slice none 0 0]) ?_
  refine tc 55 20 #[pg g, .int .u64 16, .agg #[.int .u64 0, .int .u64 1, .slice aq13 nq13 cq13, .bool false, .int .u64 0, .bool false, .int .u64 1, .slice none 0 0, .slice aq14 nq14 cq14, .slice aq15 nq15 cq15], .agg #[.slice aq13 nq13 cq13, .int .u64 0, .slice none 0 0]] (HoE.cast (E' := e4) (p := 0) (xs := 1000000000000000000000000000000000000) (hold_any U.ta.sx ⟨by decide, by decide⟩ ⟨by decide, by decide⟩ (U.nq 2 rfl).nk (by omega) (nq_nil _ _).nk (by omega) (U.nq 1 rfl).nk (by omega) (U.nq 0 rfl).nk (by omega) (U.nq 2 rfl).nk (by omega) (nq_nil _ _).nk (by omega) (by omega) (by omega)) (by decide) rfl (by decide +kernel)) ?_
  rintro _ v28 ⟨aq23, nq23, cq23, zq23, aq24, nq24, cq24, zq24, K25, n26, N27, rfl, S, qn26, qN27, hK, hC, Q0, mq23, h0, Q1, mq24, h1⟩
  refine ⟨_, rfl, ?_⟩
  have fq23 := ne3 h0 U.ta.size
  have fq24 := ne3 h1 U.ta.size
  have L := U.lt
  replace U := ((U.op S hK hC).add L Q0 h0).add L Q1 h1
  clear L S hK hC Q0 h0 Q1 h1
  refine ta 6 [.slice none 0 0, .int .u64 0, .slice none 0 0] 55 (pg) ?_
  intro v29 g30 Xg30 hg30 B
  replace U := U.new Xg30 hg30 B
  clear Xg30 hg30 B
  refine ts (U.bk 0 rfl) 0 (.agg #[.slice aq23 nq23 cq23, .int .u64 0, .slice aq24 nq24 cq24]) [.slice aq23 nq23 cq23, .int .u64 0, .slice aq24 nq24 cq24] [.slice aq23 nq23 cq23, .int .u64 0, .slice aq24 nq24 cq24] ?_
  intro v31 Y C
  replace U := U.put 0 rfl C Y (by decide)
  clear Y C
  refine gl_nil ?_
  refine ge_then ?_
  refine gc_seq ?_
  refine gc_reg ?_
  refine t 56 (pg g) ?_
  refine t 57 (.int .u64 16) ?_
  refine tlr 58 [.int .u64 0, .int .u64 1, .slice aq13 nq13 cq13, .bool false, .int .u64 0, .bool false, .int .u64 1, .slice none 0 0, .slice aq14 nq14 cq14, .slice aq15 nq15 cq15] (U.bk 1 rfl) 0 ?_
  refine tc 59 21 #[pg g, .int .u64 16, .agg #[.int .u64 0, .int .u64 1, .slice aq13 nq13 cq13, .bool false, .int .u64 0, .bool false, .int .u64 1, .slice none 0 0, .slice aq14 nq14 cq14, .slice aq15 nq15 cq15]] (SxE.castE (sVal U.ta.sx ⟨by decide, by decide⟩ (U.nq 4 rfl).nk (by omega) (nq_nil _ _).nk (by omega) (U.nq 3 rfl).nk (by omega) (U.nq 2 rfl).nk (by omega) (by omega) (by omega)) (show _ = e5 from rfl)) ?_
  rintro _ v33 ⟨rfl, K32, S, hK, hC⟩
  refine ⟨_, rfl, ?_⟩
  replace U := U.op S hK hC
  clear S hK hC
  refine gl_nil ?_
  refine ge_then ?_
  refine gc_fr [(0, .bool false), (1, pg g), (4, .int .u64 16), (5, pg g21), (6, pg g30), (33, .int .u64 16), (34, .bool true), (37, pg g), (38, .int .u64 16), (39, .int .u64 16), (40, .int .u64 0), (41, .int .u64 0), (42, .int .u64 16), (43, .int .u64 1), (44, .int .u64 16), (45, .int .u64 1), (46, .agg #[.slice aq11 nq11 cq11]), (47, .agg #[.int .u64 0, .int .u64 1, .slice aq11 nq11 cq11, .bool false, .int .u64 0, .bool false, .int .u64 0, .slice none 0 0, .slice none 0 0, .slice none 0 0]), (48, .agg #[.int .u64 0, .int .u64 1, .slice aq13 nq13 cq13, .bool false, .int .u64 0, .bool false, .int .u64 1, .slice none 0 0, .slice aq14 nq14 cq14, .slice aq15 nq15 cq15]), (49, pg g), (50, .int .u64 16), (51, .agg #[.int .u64 0, .int .u64 1, .slice aq13 nq13 cq13, .bool false, .int .u64 0, .bool false, .int .u64 1, .slice none 0 0, .slice aq14 nq14 cq14, .slice aq15 nq15 cq15]), (52, pq g21 2), (53, .agg #[.slice aq13 nq13 cq13]), (54, .agg #[.slice aq13 nq13 cq13, .int .u64 0, .slice none 0 0]), (55, .agg #[.slice aq23 nq23 cq23, .int .u64 0, .slice aq24 nq24 cq24]), (56, pg g), (57, .int .u64 16), (58, .agg #[.int .u64 0, .int .u64 1, .slice aq13 nq13 cq13, .bool false, .int .u64 0, .bool false, .int .u64 1, .slice none 0 0, .slice aq14 nq14 cq14, .slice aq15 nq15 cq15])] (by kernel_rfl) ?_
  refine gc_seq ?_
  refine gc_reg ?_
  refine t 60 (pg g) ?_
  refine t 61 (.int .u64 16) ?_
  refine tlr 62 [.slice aq23 nq23 cq23, .int .u64 0, .slice aq24 nq24 cq24] (U.bk 0 rfl) 0 ?_
  refine tc 63 22 #[pg g, .int .u64 16, .int .u64 20, .agg #[.slice aq23 nq23 cq23, .int .u64 0, .slice aq24 nq24 cq24]] (SxE.castE (sDel U.ta.sx ⟨by decide, by decide⟩ (U.nq 1 rfl).nk (by omega) (U.nq 0 rfl).nk (by omega) (by omega) (by omega)) (show _ = e6 from rfl)) ?_
  rintro _ v35 ⟨rfl, K34, S, hK, hC⟩
  refine ⟨_, rfl, ?_⟩
  replace U := U.op S hK hC
  clear S hK hC
  refine gl_nil ?_
  refine ge_then ?_
  refine gc_reg ?_
  refine t 64 (pg g) ?_
  refine t 65 (.int .u64 16) ?_
  refine tc 66 23 #[pg g, .int .u64 16, .bool true] (SxE.castE (bond_on U.ta.sx ⟨by decide, by decide⟩ (by omega) (by omega)) (show _ = e7 from rfl)) ?_
  rintro _ v37 ⟨rfl, K36, S, hK, hC⟩
  refine ⟨_, rfl, ?_⟩
  replace U := U.op S hK hC
  clear S hK hC
  refine gl_nil ?_
  refine ge_bn ?_
  refine ge_then ?_
  refine gc_reg ?_
  refine t 35 (.int .u64 16) ?_
  refine t 36 (.int .u64 17) ?_
  refine t 4 (.int .u64 17) ?_
  refine gl_nil ?_
  refine ge_rd ?_
  refine gc_fr [(0, .bool false), (1, pg g), (4, .int .u64 17), (5, pg g21), (6, pg g30), (33, .int .u64 16), (34, .bool true), (35, .int .u64 16), (36, .int .u64 17), (37, pg g), (38, .int .u64 16), (39, .int .u64 16), (40, .int .u64 0), (41, .int .u64 0), (42, .int .u64 16), (43, .int .u64 1), (44, .int .u64 16), (45, .int .u64 1), (46, .agg #[.slice aq11 nq11 cq11]), (47, .agg #[.int .u64 0, .int .u64 1, .slice aq11 nq11 cq11, .bool false, .int .u64 0, .bool false, .int .u64 0, .slice none 0 0, .slice none 0 0, .slice none 0 0]), (48, .agg #[.int .u64 0, .int .u64 1, .slice aq13 nq13 cq13, .bool false, .int .u64 0, .bool false, .int .u64 1, .slice none 0 0, .slice aq14 nq14 cq14, .slice aq15 nq15 cq15]), (49, pg g), (50, .int .u64 16), (51, .agg #[.int .u64 0, .int .u64 1, .slice aq13 nq13 cq13, .bool false, .int .u64 0, .bool false, .int .u64 1, .slice none 0 0, .slice aq14 nq14 cq14, .slice aq15 nq15 cq15]), (52, pq g21 2), (53, .agg #[.slice aq13 nq13 cq13]), (54, .agg #[.slice aq13 nq13 cq13, .int .u64 0, .slice none 0 0]), (55, .agg #[.slice aq23 nq23 cq23, .int .u64 0, .slice aq24 nq24 cq24]), (56, pg g), (57, .int .u64 16), (58, .agg #[.int .u64 0, .int .u64 1, .slice aq13 nq13 cq13, .bool false, .int .u64 0, .bool false, .int .u64 1, .slice none 0 0, .slice aq14 nq14 cq14, .slice aq15 nq15 cq15]), (60, pg g), (61, .int .u64 16), (62, .agg #[.slice aq23 nq23 cq23, .int .u64 0, .slice aq24 nq24 cq24]), (64, pg g), (65, .int .u64 16)] (by kernel_rfl) ?_
  refine gc_seq ?_
  refine gc_seq ?_
  refine gc_reg ?_
  refine t 33 (.int .u64 17) ?_
  refine t 34 (.bool true) ?_
  refine gl_nil ?_
  refine ge_then ?_
  refine gc_yes ?_
  refine gc_skip ?_
  refine ge_then ?_
  refine gc_seq ?_
  refine gc_block ?_
  refine gc_seq ?_
  refine gc_reg ?_
  refine t 37 (pg g) ?_
  refine t 38 (.int .u64 17) ?_
  refine t 39 (.int .u64 17) ?_
  refine t 40 (.int .u64 1) ?_
  refine t 41 (.int .u64 1000) ?_
  refine t 42 (.int .u64 17) ?_
  refine t 43 (.int .u64 2) ?_
  refine t 44 (.int .u64 17) ?_
  refine t 45 (.int .u64 2) ?_
  refine tc 46 19 #[.int .u64 2] (eOf (y := 2) ⟨by decide, by decide⟩) ?_
  rintro _ v39 ⟨aq38, nq38, cq38, zq38, rfl, M, h, mq38, B⟩
  refine ⟨_, rfl, ?_⟩
  have fq38 := ne3 h U.ta.size
  replace U := U.num M h B
  clear M h B
  replace U := U.val 0 rfl (show _ = (2000000000000000000000000000000000000 : Int) by decide +kernel)
  refine t 47 (.agg #[.int .u64 1000, .int .u64 2, .slice aq38 nq38 cq38, .bool false, .int .u64 0, .bool false, .int .u64 0, .slice none 0 0, .slice none 0 0, .slice none 0 0]) ?_
  refine tc 48 18 #[pg g, .int .u64 17, .agg #[.int .u64 1000, .int .u64 2, .slice aq38 nq38 cq38, .bool false, .int .u64 0, .bool false, .int .u64 0, .slice none 0 0, .slice none 0 0, .slice none 0 0]] (start_any U.ta.sx ⟨by decide, by decide⟩ (U.nq 0 rfl).nk (by omega) (nq_nil _ _).nk (by omega) (nq_nil _ _).nk (by omega) (nq_nil _ _).nk (by omega) (by omega) (by omega)) ?_
  rintro _ v46 ⟨aq40, nq40, cq40, zq40, aq41, nq41, cq41, zq41, aq42, nq42, cq42, zq42, K43, n44, N45, rfl, S, qn44, qN45, hK, hC, Q0, mq40, h0, Q1, mq41, h1, Q2, mq42, h2⟩
  refine ⟨_, rfl, ?_⟩
  have fq40 := ne3 h0 U.ta.size
  have fq41 := ne3 h1 U.ta.size
  have fq42 := ne3 h2 U.ta.size
  have L := U.lt
  replace U := (((U.op S hK hC).add L Q0 h0).add L Q1 h1).add L Q2 h2
  clear L S hK hC Q0 h0 Q1 h1 Q2 h2
  refine ta 5 [.int .u64 0, .int .u64 0, .slice none 0 0, .bool false, .int .u64 0, .bool false, .int .u64 0, .slice none 0 0, .slice none 0 0, .slice none 0 0] 28 (pg) ?_
  intro v47 g48 Xg48 hg48 B
  replace U := U.new Xg48 hg48 B
  clear Xg48 hg48 B
  refine ts (U.bk 0 rfl) 0 (.agg #[.int .u64 1000, .int .u64 2, .slice aq40 nq40 cq40, .bool false, .int .u64 0, .bool false, .int .u64 1, .slice none 0 0, .slice aq41 nq41 cq41, .slice aq42 nq42 cq42]) [.int .u64 1000, .int .u64 2, .slice aq40 nq40 cq40, .bool false, .int .u64 0, .bool false, .int .u64 1, .slice none 0 0, .slice aq41 nq41 cq41, .slice aq42 nq42 cq42] [.int .u64 1000, .int .u64 2, .slice aq40 nq40 cq40, .bool false, .int .u64 0, .bool false, .int .u64 1, .slice none 0 0, .slice aq41 nq41 cq41, .slice aq42 nq42 cq42] ?_
  intro v49 Y C
  replace U := U.put 0 rfl C Y (by decide)
  clear Y C
  refine gl_nil ?_
  refine ge_then ?_
  refine gc_fr [(0, .bool false), (1, pg g), (4, .int .u64 17), (5, pg g48), (6, pg g30), (33, .int .u64 17), (34, .bool true), (35, .int .u64 16), (36, .int .u64 17), (37, pg g), (38, .int .u64 17), (39, .int .u64 17), (40, .int .u64 1), (41, .int .u64 1000), (42, .int .u64 17), (43, .int .u64 2), (44, .int .u64 17), (45, .int .u64 2), (46, .agg #[.slice aq38 nq38 cq38]), (47, .agg #[.int .u64 1000, .int .u64 2, .slice aq38 nq38 cq38, .bool false, .int .u64 0, .bool false, .int .u64 0, .slice none 0 0, .slice none 0 0, .slice none 0 0]), (48, .agg #[.int .u64 1000, .int .u64 2, .slice aq40 nq40 cq40, .bool false, .int .u64 0, .bool false, .int .u64 1, .slice none 0 0, .slice aq41 nq41 cq41, .slice aq42 nq42 cq42]), (49, pg g), (50, .int .u64 16), (51, .agg #[.int .u64 0, .int .u64 1, .slice aq13 nq13 cq13, .bool false, .int .u64 0, .bool false, .int .u64 1, .slice none 0 0, .slice aq14 nq14 cq14, .slice aq15 nq15 cq15]), (52, pq g21 2), (53, .agg #[.slice aq13 nq13 cq13]), (54, .agg #[.slice aq13 nq13 cq13, .int .u64 0, .slice none 0 0]), (55, .agg #[.slice aq23 nq23 cq23, .int .u64 0, .slice aq24 nq24 cq24]), (56, pg g), (57, .int .u64 16), (58, .agg #[.int .u64 0, .int .u64 1, .slice aq13 nq13 cq13, .bool false, .int .u64 0, .bool false, .int .u64 1, .slice none 0 0, .slice aq14 nq14 cq14, .slice aq15 nq15 cq15]), (60, pg g), (61, .int .u64 16), (62, .agg #[.slice aq23 nq23 cq23, .int .u64 0, .slice aq24 nq24 cq24]), (64, pg g), (65, .int .u64 16)] (by kernel_rfl) ?_
  refine gc_seq ?_
  refine gc_reg ?_
  refine t 49 (pg g) ?_
  refine t 50 (.int .u64 17) ?_
  refine tlr 51 [.int .u64 1000, .int .u64 2, .slice aq40 nq40 cq40, .bool false, .int .u64 0, .bool false, .int .u64 1, .slice none 0 0, .slice aq41 nq41 cq41, .slice aq42 nq42 cq42] (U.bk 0 rfl) 0 ?_
  refine t 52 (pq g48 2) ?_
  refine tlr 53 [.slice aq40 nq40 cq40] (U.bk 0 rfl) 2 ?_
  refine t 54 (.agg #[.slice aq40 nq40 cq40, .int .u64 0, .slice none 0 0]) ?_
  refine tc 55 20 #[pg g, .int .u64 17, .agg #[.int .u64 1000, .int .u64 2, .slice aq40 nq40 cq40, .bool false, .int .u64 0, .bool false, .int .u64 1, .slice none 0 0, .slice aq41 nq41 cq41, .slice aq42 nq42 cq42], .agg #[.slice aq40 nq40 cq40, .int .u64 0, .slice none 0 0]] (HoE.cast (E' := e9) (p := 0) (xs := 2000000000000000000000000000000000000) (hold_any U.ta.sx ⟨by decide, by decide⟩ ⟨by decide, by decide⟩ (U.nq 2 rfl).nk (by omega) (nq_nil _ _).nk (by omega) (U.nq 1 rfl).nk (by omega) (U.nq 0 rfl).nk (by omega) (U.nq 2 rfl).nk (by omega) (nq_nil _ _).nk (by omega) (by omega) (by omega)) (by decide) rfl (by decide +kernel)) ?_
  rintro _ v55 ⟨aq50, nq50, cq50, zq50, aq51, nq51, cq51, zq51, K52, n53, N54, rfl, S, qn53, qN54, hK, hC, Q0, mq50, h0, Q1, mq51, h1⟩
  refine ⟨_, rfl, ?_⟩
  have fq50 := ne3 h0 U.ta.size
  have fq51 := ne3 h1 U.ta.size
  have L := U.lt
  replace U := ((U.op S hK hC).add L Q0 h0).add L Q1 h1
  clear L S hK hC Q0 h0 Q1 h1
  refine ta 6 [.slice none 0 0, .int .u64 0, .slice none 0 0] 55 (pg) ?_
  intro v56 g57 Xg57 hg57 B
  replace U := U.new Xg57 hg57 B
  clear Xg57 hg57 B
  refine ts (U.bk 0 rfl) 0 (.agg #[.slice aq50 nq50 cq50, .int .u64 0, .slice aq51 nq51 cq51]) [.slice aq50 nq50 cq50, .int .u64 0, .slice aq51 nq51 cq51] [.slice aq50 nq50 cq50, .int .u64 0, .slice aq51 nq51 cq51] ?_
  intro v58 Y C
  replace U := U.put 0 rfl C Y (by decide)
  clear Y C
  refine gl_nil ?_
  refine ge_then ?_
  refine gc_seq ?_
  refine gc_reg ?_
  refine t 56 (pg g) ?_
  refine t 57 (.int .u64 17) ?_
  refine tlr 58 [.int .u64 1000, .int .u64 2, .slice aq40 nq40 cq40, .bool false, .int .u64 0, .bool false, .int .u64 1, .slice none 0 0, .slice aq41 nq41 cq41, .slice aq42 nq42 cq42] (U.bk 1 rfl) 0 ?_
  refine tc 59 21 #[pg g, .int .u64 17, .agg #[.int .u64 1000, .int .u64 2, .slice aq40 nq40 cq40, .bool false, .int .u64 0, .bool false, .int .u64 1, .slice none 0 0, .slice aq41 nq41 cq41, .slice aq42 nq42 cq42]] (SxE.castE (sVal U.ta.sx ⟨by decide, by decide⟩ (U.nq 4 rfl).nk (by omega) (nq_nil _ _).nk (by omega) (U.nq 3 rfl).nk (by omega) (U.nq 2 rfl).nk (by omega) (by omega) (by omega)) (show _ = e10 from rfl)) ?_
  rintro _ v60 ⟨rfl, K59, S, hK, hC⟩
  refine ⟨_, rfl, ?_⟩
  replace U := U.op S hK hC
  clear S hK hC
  refine gl_nil ?_
  refine ge_then ?_
  refine gc_fr [(0, .bool false), (1, pg g), (4, .int .u64 17), (5, pg g48), (6, pg g57), (33, .int .u64 17), (34, .bool true), (35, .int .u64 16), (36, .int .u64 17), (37, pg g), (38, .int .u64 17), (39, .int .u64 17), (40, .int .u64 1), (41, .int .u64 1000), (42, .int .u64 17), (43, .int .u64 2), (44, .int .u64 17), (45, .int .u64 2), (46, .agg #[.slice aq38 nq38 cq38]), (47, .agg #[.int .u64 1000, .int .u64 2, .slice aq38 nq38 cq38, .bool false, .int .u64 0, .bool false, .int .u64 0, .slice none 0 0, .slice none 0 0, .slice none 0 0]), (48, .agg #[.int .u64 1000, .int .u64 2, .slice aq40 nq40 cq40, .bool false, .int .u64 0, .bool false, .int .u64 1, .slice none 0 0, .slice aq41 nq41 cq41, .slice aq42 nq42 cq42]), (49, pg g), (50, .int .u64 17), (51, .agg #[.int .u64 1000, .int .u64 2, .slice aq40 nq40 cq40, .bool false, .int .u64 0, .bool false, .int .u64 1, .slice none 0 0, .slice aq41 nq41 cq41, .slice aq42 nq42 cq42]), (52, pq g48 2), (53, .agg #[.slice aq40 nq40 cq40]), (54, .agg #[.slice aq40 nq40 cq40, .int .u64 0, .slice none 0 0]), (55, .agg #[.slice aq50 nq50 cq50, .int .u64 0, .slice aq51 nq51 cq51]), (56, pg g), (57, .int .u64 17), (58, .agg #[.int .u64 1000, .int .u64 2, .slice aq40 nq40 cq40, .bool false, .int .u64 0, .bool false, .int .u64 1, .slice none 0 0, .slice aq41 nq41 cq41, .slice aq42 nq42 cq42]), (60, pg g), (61, .int .u64 16), (62, .agg #[.slice aq23 nq23 cq23, .int .u64 0, .slice aq24 nq24 cq24]), (64, pg g), (65, .int .u64 16)] (by kernel_rfl) ?_
  refine gc_seq ?_
  refine gc_reg ?_
  refine t 60 (pg g) ?_
  refine t 61 (.int .u64 17) ?_
  refine tlr 62 [.slice aq50 nq50 cq50, .int .u64 0, .slice aq51 nq51 cq51] (U.bk 0 rfl) 0 ?_
  refine tc 63 22 #[pg g, .int .u64 17, .int .u64 20, .agg #[.slice aq50 nq50 cq50, .int .u64 0, .slice aq51 nq51 cq51]] (SxE.castE (sDel U.ta.sx ⟨by decide, by decide⟩ (U.nq 1 rfl).nk (by omega) (U.nq 0 rfl).nk (by omega) (by omega) (by omega)) (show _ = e11 from rfl)) ?_
  rintro _ v62 ⟨rfl, K61, S, hK, hC⟩
  refine ⟨_, rfl, ?_⟩
  replace U := U.op S hK hC
  clear S hK hC
  refine gl_nil ?_
  refine ge_then ?_
  refine gc_reg ?_
  refine t 64 (pg g) ?_
  refine t 65 (.int .u64 17) ?_
  refine tc 66 23 #[pg g, .int .u64 17, .bool true] (SxE.castE (bond_on U.ta.sx ⟨by decide, by decide⟩ (by omega) (by omega)) (show _ = e12 from rfl)) ?_
  rintro _ v64 ⟨rfl, K63, S, hK, hC⟩
  refine ⟨_, rfl, ?_⟩
  replace U := U.op S hK hC
  clear S hK hC
  refine gl_nil ?_
  refine ge_bn ?_
  refine ge_then ?_
  refine gc_reg ?_
  refine t 35 (.int .u64 17) ?_
  refine t 36 (.int .u64 18) ?_
  refine t 4 (.int .u64 18) ?_
  refine gl_nil ?_
  refine ge_rd ?_
  refine gc_fr [(0, .bool false), (1, pg g), (4, .int .u64 18), (5, pg g48), (6, pg g57), (33, .int .u64 17), (34, .bool true), (35, .int .u64 17), (36, .int .u64 18), (37, pg g), (38, .int .u64 17), (39, .int .u64 17), (40, .int .u64 1), (41, .int .u64 1000), (42, .int .u64 17), (43, .int .u64 2), (44, .int .u64 17), (45, .int .u64 2), (46, .agg #[.slice aq38 nq38 cq38]), (47, .agg #[.int .u64 1000, .int .u64 2, .slice aq38 nq38 cq38, .bool false, .int .u64 0, .bool false, .int .u64 0, .slice none 0 0, .slice none 0 0, .slice none 0 0]), (48, .agg #[.int .u64 1000, .int .u64 2, .slice aq40 nq40 cq40, .bool false, .int .u64 0, .bool false, .int .u64 1, .slice none 0 0, .slice aq41 nq41 cq41, .slice aq42 nq42 cq42]), (49, pg g), (50, .int .u64 17), (51, .agg #[.int .u64 1000, .int .u64 2, .slice aq40 nq40 cq40, .bool false, .int .u64 0, .bool false, .int .u64 1, .slice none 0 0, .slice aq41 nq41 cq41, .slice aq42 nq42 cq42]), (52, pq g48 2), (53, .agg #[.slice aq40 nq40 cq40]), (54, .agg #[.slice aq40 nq40 cq40, .int .u64 0, .slice none 0 0]), (55, .agg #[.slice aq50 nq50 cq50, .int .u64 0, .slice aq51 nq51 cq51]), (56, pg g), (57, .int .u64 17), (58, .agg #[.int .u64 1000, .int .u64 2, .slice aq40 nq40 cq40, .bool false, .int .u64 0, .bool false, .int .u64 1, .slice none 0 0, .slice aq41 nq41 cq41, .slice aq42 nq42 cq42]), (60, pg g), (61, .int .u64 17), (62, .agg #[.slice aq50 nq50 cq50, .int .u64 0, .slice aq51 nq51 cq51]), (64, pg g), (65, .int .u64 17)] (by kernel_rfl) ?_
  refine gc_seq ?_
  refine gc_seq ?_
  refine gc_reg ?_
  refine t 33 (.int .u64 18) ?_
  refine t 34 (.bool false) ?_
  refine gl_nil ?_
  refine ge_then ?_
  refine gc_no ?_
  refine gc_exit ?_
  refine ge_tx ?_
  refine ge_tx ?_
  refine ge_bx ?_
  refine ge_then ?_
  refine gc_seq ?_
  refine gc_reg ?_
  refine t 67 (pg g) ?_
  refine tc 68 24 #[pg g] (alloc_l U.ta.sx (by omega) (by omega)) ?_
  rintro _ v73 ⟨gp70, cp71, sp72, aq65, nq65, cq65, zq65, aq66, nq66, cq66, zq66, K67, n68, N69, rfl, qn68, qN69, V, mq65, h0, mq66, h1⟩
  refine ⟨_, rfl, ?_⟩
  replace U := U.merge V (List.forall_mem_cons.2 ⟨h0, List.forall_mem_cons.2 ⟨h1, fun _ h => absurd h List.not_mem_nil⟩⟩)
  clear V h0 h1
  refine t 7 (.slice (some ⟨gp70, 0, none⟩) 2 cp71) ?_
  refine gl_nil ?_
  refine ge_then ?_
  refine gc_seq ?_
  refine gc_seq ?_
  refine gc_reg ?_
  refine t 69 (.slice (some ⟨gp70, 0, none⟩) 2 cp71) ?_
  refine t 70 (.int .i64 2) ?_
  refine t 71 (.bool false) ?_
  refine t 72 (.bool false) ?_
  refine t 73 (.slice (some ⟨gp70, 0, none⟩) 2 cp71) ?_
  refine t 74 (pg gp70) ?_
  refine t 75 (pg gp70) ?_
  refine tl 76 (.int .u64 16) (U.bk 0 rfl) 0 ?_
  refine t 77 (.bool false) ?_
  refine t 78 (.bool false) ?_
  refine t 79 (.bool false) ?_
  refine t 80 (.slice (some ⟨gp70, 0, none⟩) 2 cp71) ?_
  refine t 81 (pg gp70) ?_
  refine t 82 (pq gp70 3) ?_
  refine tlr 83 [.slice aq66 nq66 cq66] (U.bk 0 rfl) 3 ?_
  refine tc 84 25 #[.agg #[.slice aq66 nq66 cq66]] (dText (U.nq 1 rfl).nat (by omega) (appAll_small (by decide +kernel))) ?_
  rintro _ v74 ⟨T, rfl, D, hT, B⟩
  refine ⟨_, rfl, ?_⟩
  obtain rfl := dtext_is D [51, 50, 46, 54, 54, 54, 54, 54, 54, 54, 54, 54, 54, 54, 54, 54, 54, 54, 54, 54, 54, 54, 54, 54, 54, 54, 54, 54, 54, 54, 54, 54, 54, 54, 54, 54, 54, 54, 54] [51, 50] (by decide) (by decide +kernel) (by decide) (.inr (by decide)) (by decide +kernel)
  replace U := U.keep B
  clear D hT B
  refine t 85 (.bool false) ?_
  refine t 86 (.bool false) ?_
  refine t 87 (.bool false) ?_
  refine t 88 (pg g) ?_
  refine tc 89 26 #[pg g] (gPool (x0 := 2000000000000000000000000000000000001) (er := 0) U.ta.sx (by decide +kernel) (by omega) (by omega)) ?_
  rintro _ v79 ⟨aq75, nq75, cq75, zq75, K76, n77, N78, rfl, S, qn77, qN78, hK, hC, Q0, mq75, h0⟩
  refine ⟨_, rfl, ?_⟩
  have fq75 := ne3 h0 U.ta.size
  have L := U.lt
  replace U := (U.op S hK hC).add L Q0 h0
  clear L S hK hC Q0 h0
  refine tc 90 25 #[.agg #[.slice aq75 nq75 cq75]] (dText (U.nq 0 rfl).nat (by omega) (appAll_small (by decide +kernel))) ?_
  rintro _ v80 ⟨T, rfl, D, hT, B⟩
  refine ⟨_, rfl, ?_⟩
  obtain rfl := dtext_is D [50, 46, 48, 48, 48, 48, 48, 48, 48, 48, 48, 48, 48, 48, 48, 48, 48, 48, 48, 48, 48, 48, 48, 48, 48, 48, 48, 48, 48, 48, 48, 48, 48, 48, 48, 48, 48, 49] [50] (by decide) (by decide +kernel) (by decide) (.inl rfl) (by decide +kernel)
  replace U := U.keep B
  clear D hT B
  refine t 91 (.bool false) ?_
  refine t 92 (.bool false) ?_
  refine gl_nil ?_
  refine ge_then ?_
  refine gc_fr [(0, .bool false), (1, pg g), (92, .bool false)] (by kernel_rfl) ?_
  refine gc_no ?_
  refine gc_skip ?_
  refine ge_then ?_
  refine gc_seq ?_
  refine gc_reg ?_
  refine t 94 (pg g) ?_
  refine tc 95 27 #[pg g, .int .u64 17] (gVal (th := true) (er := 0) (rt := 1000) (tk := 2) (un := 0) (pe := 1) (jl := false) (bo := false) (x0 := 2000000000000000000000000000000000000) (x1 := 58800000000000000000000000000000000000) (x2 := 65333333333333333333333333333333333333) (x3 := 6533333333333333333333333333333333333) U.ta.sx ⟨by decide, by decide⟩ (by decide +kernel) rfl (by omega) (by omega)) ?_
  rintro _ v88 ⟨aq81, nq81, cq81, zq81, aq82, nq82, cq82, zq82, aq83, nq83, cq83, zq83, aq84, nq84, cq84, zq84, K85, n86, N87, rfl, S, qn86, qN87, hK, hC, Q0, mq81, h0, Q1, mq82, h1, Q2, mq83, h2, Q3, mq84, h3⟩
  refine ⟨_, rfl, ?_⟩
  have fq81 := ne3 h0 U.ta.size
  have fq82 := ne3 h1 U.ta.size
  have fq83 := ne3 h2 U.ta.size
  have fq84 := ne3 h3 U.ta.size
  have L := U.lt
  replace U := ((((U.op S hK hC).add L Q0 h0).add L Q1 h1).add L Q2 h2).add L Q3 h3
  clear L S hK hC Q0 h0 Q1 h1 Q2 h2 Q3 h3
  refine t 93 (.tuple #[.agg #[.int .u64 1000, .int .u64 2, .slice aq81 nq81 cq81, .bool false, .int .u64 0, .bool false, .int .u64 1, .slice aq82 nq82 cq82, .slice aq83 nq83 cq83, .slice aq84 nq84 cq84], .bool true]) ?_
  refine t 96 (.agg #[.int .u64 1000, .int .u64 2, .slice aq81 nq81 cq81, .bool false, .int .u64 0, .bool false, .int .u64 1, .slice aq82 nq82 cq82, .slice aq83 nq83 cq83, .slice aq84 nq84 cq84]) ?_
  refine t 97 (.bool true) ?_
  refine ta 8 [.int .u64 0, .int .u64 0, .slice none 0 0, .bool false, .int .u64 0, .bool false, .int .u64 0, .slice none 0 0, .slice none 0 0, .slice none 0 0] 28 (pg) ?_
  intro v89 g90 Xg90 hg90 B
  replace U := U.new Xg90 hg90 B
  clear Xg90 hg90 B
  refine ts (U.bk 0 rfl) 0 (.agg #[.int .u64 1000, .int .u64 2, .slice aq81 nq81 cq81, .bool false, .int .u64 0, .bool false, .int .u64 1, .slice aq82 nq82 cq82, .slice aq83 nq83 cq83, .slice aq84 nq84 cq84]) [.int .u64 1000, .int .u64 2, .slice aq81 nq81 cq81, .bool false, .int .u64 0, .bool false, .int .u64 1, .slice aq82 nq82 cq82, .slice aq83 nq83 cq83, .slice aq84 nq84 cq84] [.int .u64 1000, .int .u64 2, .slice aq81 nq81 cq81, .bool false, .int .u64 0, .bool false, .int .u64 1, .slice aq82 nq82 cq82, .slice aq83 nq83 cq83, .slice aq84 nq84 cq84] ?_
  intro v91 Y C
  replace U := U.put 0 rfl C Y (by decide)
  clear Y C
  refine t 9 (.bool true) ?_
  refine gl_nil ?_
  refine ge_then ?_
  refine gc_seq ?_
  refine gc_reg ?_
  refine t 99 (pg g) ?_
  refine tc 100 28 #[pg g, .int .u64 16, .int .u64 20] (with_yes U.ta.sx  (by omega) (by omega)) ?_
  rintro _ v98 ⟨aq92, nq92, cq92, zq92, aq93, nq93, cq93, zq93, aq94, nq94, cq94, zq94, K95, n96, N97, rfl, S, qn96, qN97, hK, hC, Q0, mq92, h0, Q1, mq93, h1, Q2, mq94, h2⟩
  refine ⟨_, rfl, ?_⟩
  have fq92 := ne3 h0 U.ta.size
  have fq93 := ne3 h1 U.ta.size
  have fq94 := ne3 h2 U.ta.size
  have L := U.lt
  replace U := (((U.op S hK hC).add L Q0 h0).add L Q1 h1).add L Q2 h2
  clear L S hK hC Q0 h0 Q1 h1 Q2 h2
  refine t 98 (.tuple #[.agg #[.int .u64 16, .int .u64 20, .int .u64 32, .slice aq92 nq92 cq92, .slice aq93 nq93 cq93, .slice aq94 nq94 cq94, .int .u64 1], .int .i64 0]) ?_
  refine t 101 (.agg #[.int .u64 16, .int .u64 20, .int .u64 32, .slice aq92 nq92 cq92, .slice aq93 nq93 cq93, .slice aq94 nq94 cq94, .int .u64 1]) ?_
  refine t 102 (.int .i64 0) ?_
  refine ta 10 [.int .u64 0, .int .u64 0, .int .u64 0, .slice none 0 0, .slice none 0 0, .slice none 0 0, .int .u64 0] 63 (pg) ?_
  intro v99 g100 Xg100 hg100 B
  replace U := U.new Xg100 hg100 B
  clear Xg100 hg100 B
  refine ts (U.bk 0 rfl) 0 (.agg #[.int .u64 16, .int .u64 20, .int .u64 32, .slice aq92 nq92 cq92, .slice aq93 nq93 cq93, .slice aq94 nq94 cq94, .int .u64 1]) [.int .u64 16, .int .u64 20, .int .u64 32, .slice aq92 nq92 cq92, .slice aq93 nq93 cq93, .slice aq94 nq94 cq94, .int .u64 1] [.int .u64 16, .int .u64 20, .int .u64 32, .slice aq92 nq92 cq92, .slice aq93 nq93 cq93, .slice aq94 nq94 cq94, .int .u64 1] ?_
  intro v101 Y C
  replace U := U.put 0 rfl C Y (by decide)
  clear Y C
  refine t 11 (.int .i64 0) ?_
  refine gl_nil ?_
  refine ge_then ?_
  refine gc_fr [(0, .bool false), (1, pg g), (8, pg g90), (9, .bool true), (10, pg g100), (11, .int .i64 0)] (by kernel_rfl) ?_
  refine gc_seq ?_
  refine gc_reg ?_
  refine t 104 (pg g) ?_
  refine tc 105 28 #[pg g, .int .u64 18, .int .u64 20] (with_no U.ta.sx  (by omega) (by omega)) ?_
  rintro _ v105 ⟨K102, n103, N104, rfl, S, qn103, qN104, hK, hC⟩
  refine ⟨_, rfl, ?_⟩
  have L := U.lt
  replace U := U.op S hK hC
  clear L S hK hC
  refine t 103 (.tuple #[.agg #[.int .u64 0, .int .u64 0, .int .u64 0, .slice none 0 0, .slice none 0 0, .slice none 0 0, .int .u64 0], .int .i64 140]) ?_
  refine t 106 (.agg #[.int .u64 0, .int .u64 0, .int .u64 0, .slice none 0 0, .slice none 0 0, .slice none 0 0, .int .u64 0]) ?_
  refine t 107 (.int .i64 140) ?_
  refine ta 12 [.int .u64 0, .int .u64 0, .int .u64 0, .slice none 0 0, .slice none 0 0, .slice none 0 0, .int .u64 0] 63 (pg) ?_
  intro v106 g107 Xg107 hg107 B
  replace U := U.new Xg107 hg107 B
  clear Xg107 hg107 B
  refine ts (U.bk 0 rfl) 0 (.agg #[.int .u64 0, .int .u64 0, .int .u64 0, .slice none 0 0, .slice none 0 0, .slice none 0 0, .int .u64 0]) [.int .u64 0, .int .u64 0, .int .u64 0, .slice none 0 0, .slice none 0 0, .slice none 0 0, .int .u64 0] [.int .u64 0, .int .u64 0, .int .u64 0, .slice none 0 0, .slice none 0 0, .slice none 0 0, .int .u64 0] ?_
  intro v108 Y C
  replace U := U.put 0 rfl C Y (by decide)
  clear Y C
  refine t 13 (.int .i64 140) ?_
  refine gl_nil ?_
  refine ge_then ?_
  refine gc_seq ?_
  refine gc_reg ?_
  refine t 109 (pg g) ?_
  refine tc 110 29 #[pg g, .int .u64 17] (comm_y U.ta.sx  (by omega) (by omega)) ?_
  rintro _ v112 ⟨K109, n110, N111, rfl, S, qn110, qN111, hK, hC⟩
  refine ⟨_, rfl, ?_⟩
  have L := U.lt
  replace U := U.op S hK hC
  clear L S hK hC
  refine t 108 (.tuple #[.int .u64 6, .int .i64 0]) ?_
  refine t 111 (.int .u64 6) ?_
  refine t 112 (.int .i64 0) ?_
  refine t 14 (.int .u64 6) ?_
  refine t 15 (.int .i64 0) ?_
  refine gl_nil ?_
  refine ge_then ?_
  refine gc_fr [(0, .bool false), (1, pg g), (8, pg g90), (9, .bool true), (10, pg g100), (11, .int .i64 0), (13, .int .i64 140), (14, .int .u64 6), (15, .int .i64 0)] (by kernel_rfl) ?_
  refine gc_seq ?_
  refine gc_reg ?_
  refine t 114 (pg g) ?_
  refine tc 115 29 #[pg g, .int .u64 16] (comm_n U.ta.sx  (by omega) (by omega)) ?_
  rintro _ v116 ⟨K113, n114, N115, rfl, S, qn114, qN115, hK, hC⟩
  refine ⟨_, rfl, ?_⟩
  have L := U.lt
  replace U := U.op S hK hC
  clear L S hK hC
  refine t 113 (.tuple #[.int .u64 0, .int .i64 141]) ?_
  refine t 116 (.int .u64 0) ?_
  refine t 117 (.int .i64 141) ?_
  refine t 16 (.int .u64 0) ?_
  refine t 17 (.int .i64 141) ?_
  refine gl_nil ?_
  refine ge_then ?_
  refine gc_seq ?_
  refine gc_seq ?_
  refine gc_reg ?_
  refine t 118 (.bool true) ?_
  refine t 119 (.bool false) ?_
  refine t 120 (.bool false) ?_
  refine t 121 (pq g90 9) ?_
  refine tlr 122 [.slice aq84 nq84 cq84] (U.bk 2 rfl) 9 ?_
  refine tc 123 25 #[.agg #[.slice aq84 nq84 cq84]] (dText (U.nq 3 rfl).nat (by omega) (appAll_small (by decide +kernel))) ?_
  rintro _ v117 ⟨T, rfl, D, hT, B⟩
  refine ⟨_, rfl, ?_⟩
  obtain rfl := dtext_is D [54, 46, 53, 51, 51, 51, 51, 51, 51, 51, 51, 51, 51, 51, 51, 51, 51, 51, 51, 51, 51, 51, 51, 51, 51, 51, 51, 51, 51, 51, 51, 51, 51, 51, 51, 51, 51, 51] [54] (by decide) (by decide +kernel) (by decide) (.inl rfl) (by decide +kernel)
  replace U := U.keep B
  clear D hT B
  refine t 124 (.bool false) ?_
  refine t 125 (.bool false) ?_
  refine t 126 (.bool false) ?_
  refine t 127 (pq g100 2) ?_
  refine tl 128 (.int .u64 32) (U.bk 1 rfl) 2 ?_
  refine t 129 (.bool false) ?_
  refine t 130 (.bool false) ?_
  refine t 131 (.bool false) ?_
  refine t 132 (pq g100 3) ?_
  refine tlr 133 [.slice aq92 nq92 cq92] (U.bk 1 rfl) 3 ?_
  refine tc 134 25 #[.agg #[.slice aq92 nq92 cq92]] (dText (U.nq 2 rfl).nat (by omega) (appAll_small (by decide +kernel))) ?_
  rintro _ v118 ⟨T, rfl, D, hT, B⟩
  refine ⟨_, rfl, ?_⟩
  obtain rfl := dtext_is D [48, 46, 54, 54, 54, 54, 54, 54, 54, 54, 54, 54, 54, 54, 54, 54, 54, 54, 54, 54, 54, 54, 54, 54, 54, 54, 54, 54, 54, 54, 54, 54, 54, 54, 54, 54, 54, 54] [48] (by decide) (by decide +kernel) (by decide) (.inl rfl) (by decide +kernel)
  replace U := U.keep B
  clear D hT B
  refine t 135 (.bool false) ?_
  refine t 136 (.bool false) ?_
  refine t 137 (.bool false) ?_
  refine t 138 (.int .i64 0) ?_
  refine t 139 (.bool false) ?_
  refine t 140 (.bool false) ?_
  refine t 141 (.bool false) ?_
  refine t 142 (.int .i64 140) ?_
  refine t 143 (.bool false) ?_
  refine t 144 (.bool false) ?_
  refine t 145 (.bool false) ?_
  refine t 146 (.int .u64 6) ?_
  refine t 147 (.bool false) ?_
  refine t 148 (.bool false) ?_
  refine t 149 (.bool false) ?_
  refine t 150 (.int .i64 0) ?_
  refine t 151 (.bool false) ?_
  refine t 152 (.bool false) ?_
  refine t 153 (.bool false) ?_
  refine t 154 (.int .i64 141) ?_
  refine t 155 (.bool false) ?_
  refine t 156 (.bool false) ?_
  refine gl_nil ?_
  refine ge_then ?_
  refine gc_fr [(0, .bool false), (1, pg g), (156, .bool false)] (by kernel_rfl) ?_
  refine gc_no ?_
  refine gc_skip ?_
  refine ge_then ?_
  refine gc_seq ?_
  refine gc_reg ?_
  refine t 157 (pg g) ?_
  refine tc 158 30 #[pg g, .int .u64 20] (get_lit (get_any U.ta.sx ⟨by decide, by decide⟩ (by omega) (by omega)) (show coin e26 20 = 32 by decide +kernel) (show seqn e26 20 = 0 by decide +kernel)) ?_
  rintro _ v120 ⟨rfl, K119, S, hK, hC⟩
  refine ⟨_, rfl, ?_⟩
  replace U := U.op S hK hC
  clear S hK hC
  refine t 159 (.int .u64 32) ?_
  refine t 160 (.bool true) ?_
  refine t 161 (.bool true) ?_
  refine t 162 (pg g) ?_
  refine tc 163 31 #[pg g, .int .u64 21, .int .u64 9] (spend_n U.ta.sx  (by omega) (by omega)) ?_
  rintro _ v124 ⟨K121, n122, N123, rfl, S, qn122, qN123, hK, hC⟩
  refine ⟨_, rfl, ?_⟩
  have L := U.lt
  replace U := U.op S hK hC
  clear L S hK hC
  refine t 164 (.bool true) ?_
  refine t 165 (.bool true) ?_
  refine t 166 (.bool true) ?_
  refine t 167 (pg g) ?_
  refine tc 168 31 #[pg g, .int .u64 21, .int .u64 2] (spend_y U.ta.sx  (by omega) (by omega)) ?_
  rintro _ v128 ⟨K125, n126, N127, rfl, S, qn126, qN127, hK, hC⟩
  refine ⟨_, rfl, ?_⟩
  have L := U.lt
  replace U := U.op S hK hC
  clear L S hK hC
  refine t 169 (.bool true) ?_
  refine t 170 (.bool true) ?_
  refine t 171 (.bool true) ?_
  refine t 172 (pg g) ?_
  refine tc 173 32 #[pg g, .int .u64 21, .int .u64 2] (fund_y U.ta.sx  (by omega) (by omega)) ?_
  rintro _ v132 ⟨K129, n130, N131, rfl, S, qn130, qN131, hK, hC⟩
  refine ⟨_, rfl, ?_⟩
  have L := U.lt
  replace U := U.op S hK hC
  clear L S hK hC
  refine t 174 (.bool true) ?_
  refine t 175 (.bool true) ?_
  refine t 176 (.bool true) ?_
  refine t 177 (pg g) ?_
  refine tc 178 30 #[pg g, .int .u64 4] (get_lit (get_any U.ta.sx ⟨by decide, by decide⟩ (by omega) (by omega)) (show coin e30 4 = 62 by decide +kernel) (show seqn e30 4 = 0 by decide +kernel)) ?_
  rintro _ v134 ⟨rfl, K133, S, hK, hC⟩
  refine ⟨_, rfl, ?_⟩
  replace U := U.op S hK hC
  clear S hK hC
  refine t 179 (.int .u64 62) ?_
  refine t 180 (.bool true) ?_
  refine t 181 (.bool true) ?_
  refine t 0 (.bool true) ?_
  refine gl_nil ?_
  refine ge_then ?_
  refine gc_fr [(0, .bool true)] (by kernel_rfl) ?_
  refine gc_ret ?_
  refine ge_ret (.bool true) (rs1 0 (by kernel_rfl) (by kernel_rfl)) ?_
  exact ⟨rfl, belowO BN U.ta.cc (fun b hb => by have := hK0 b hb; omega)⟩
end Fo
end Go.Proofs.YtgdohcdlkonhiaaGreatDoor
