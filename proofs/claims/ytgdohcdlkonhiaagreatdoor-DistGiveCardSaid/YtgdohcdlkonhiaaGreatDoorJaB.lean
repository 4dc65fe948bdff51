/- Several texts, joined: DiF. -/
import Derived.Test.YtgdohcdlkonhiaaGreatDoorJaA
namespace Go.Proofs.YtgdohcdlkonhiaaGreatDoor
namespace Fo
open Go.RowKit Go.Lib Pg Lim Gl Kv Bk Pw Sd Di
attribute [local go_sem] Oper.semAt_some
set_option maxRecDepth 100000
set_option linter.unusedVariables false
set_option linter.unusedSimpArgs false
set_option maxHeartbeats 2000000
theorem dfs1 {b C D : Nat} {w W : World} (k : Rs C W w) (h : W.heap[D]? = some (.deferred (some []))) (hC : C ≤ D) (hb : b ≤ D) : Dfs b [D] w := ⟨fun d hd => by
  have e : d = D := by simpa using hd
  subst e
  exact ⟨hb, k.same _ _ hC h safe_def⟩, by simp⟩
theorem rstM {n : Nat} {l : Gl.Fr} {fn : Func} {w : World} {b : Nat} {ds : List Deferred} (j k : Nat) {g : Nat} {u v : Value} {T t : TypeId} {cs : List Value} (X : Blk w g cs t) (hl : ∀ W, Blk W g cs t → (loadVar T ⟨g, 0, none⟩).run Tryz.prog W = .ok v W) (h : fn.results = #[.tmp j, .cell k T]) (hu : lk l j = some u) (hv : lk l k = some (pg g)) (W : World) (a : Act) (q : Rec b w W) (r : Rd n ds l a) : (results fn a.tmps).run Tryz.prog W = .ok (.tuple #[u, v]) W := by
  have h1 := r.gD hv
  have h2 := r.gD hu
  simp at h1 h2
  simp [results, h, h1, h2, pg, asAddr, hl W (rec_cel X q)]
/-- a number's list -/
structure Sl where
  a : Option Addr
  k : Nat
  c : Nat
  z : Nat
structure TkE (B : Nat) (w : World) (K : Nat → Prop) (g : Nat) (E : Ents) (n N : Nat) (V : Int) (e : Ending) (w' : World) : Prop where
  ex : ∃ b0 k0 d0 y0 K' n' N', e = .returned (.slice b0 k0 d0) ∧ Sx B w' K' g E [] n' N' ∧ n' ≤ n + 100 ∧ N' ≤ N + 100 ∧ (∀ b, K' b → K b ∨ w.heap.size ≤ b) ∧ Chg K w w' ∧ Nq w' K' y0 b0 k0 d0 V ∧ k0 ≤ 100 ∧ (k0 = 0 ∨ w.heap.size ≤ y0)
set_option maxHeartbeats 4000000 in
theorem tok_any {B : Nat} {w : World} {K : Nat → Prop} {g : Nat} {E : Ents} {n N : Nat} {rt0 tk0 un0 pe0 x00 x01 x02 x03 : Int} {jl0 bo0 : Bool} {rt1 tk1 un1 pe1 x10 x11 x12 x13 : Int} {jl1 bo1 : Bool} (h : Sx B w K g E [] n N) (hp : (pks 11 98 E).map Prod.fst = [16, 17]) (hRk : ∀ x ∈ E, [98] <+: x.1 → Ky.frm (11 : Nat) = Ky.fIn x.1) (hv0 : qVal (got E (Ky.mk 5 16 0)) = ([rt0, tk0, x00, (bi jl0), un0, (bi bo0), pe0, x01, x02, x03], 0)) (hv1 : qVal (got E (Ky.mk 5 17 0)) = ([rt1, tk1, x10, (bi jl1), un1, (bi bo1), pe1, x11, x12, x13], 0)) (htk0 : 0 ≤ tk0 ∧ tk0 < 18446744073709551616) (htk1 : 0 ≤ tk1 ∧ tk1 < 18446744073709551616) (hn : n ≤ 1000000) (hN : N ≤ 1000000) : Calls Tryz.prog 124 #[pg g] w (TkE B w K g E n N (0 + tk0 + tk1)) := by
  have U := ut_of h
  refine gc_enterM (n := 17) Tryz.func124 rfl (by kernel_rfl) (by kernel_rfl) ?_
  refine gc_seq ?_
  refine gc_reg ?_
  refine t 2 (.slice none 0 0) ?_
  refine gl_nil ?_
  refine ge_then ?_
  refine gc_seq ?_
  refine gc_reg ?_
  refine tc 6 9 #[.int .u64 0] (nfOf (x := 0) (by decide) (by decide)) ?_
  rintro _ v2 ⟨aq1, nq1, cq1, zq1, rfl, M, h, mq1, B⟩
  refine ⟨_, rfl, ?_⟩
  have fq1 := ne3 h U.ta.size
  replace U := U.num M h B
  clear M h B
  refine ta 3 [.slice none 0 0] 24 (pg) ?_
  intro v3 g4 Xg4 hg4 B
  replace U := U.new Xg4 hg4 B
  clear Xg4 hg4 B
  refine ts (U.bk 0 rfl) 0 (.slice aq1 nq1 cq1) [.slice aq1 nq1 cq1] [.slice aq1 nq1 cq1] ?_
  intro v5 Y C
  replace U := U.put 0 rfl C Y (by decide)
  clear Y C
  refine gl_nil ?_
  refine ge_then ?_
  refine gc_seq ?_
  refine gc_seq ?_
  refine gc_reg ?_
  refine t 7 (pg g) ?_
  refine tc 8 127 #[pg g] (bonded_mk) ?_
  rintro _ v7 ⟨g6, rfl, X, hb, B⟩
  refine ⟨_, rfl, ?_⟩
  replace U := U.new X hb B
  clear X hb B
  refine gl_nil ?_
  refine ge_then ?_
  refine gc_block ?_
  refine gc_fr [(2, .slice none 0 0), (3, pg g4), (8, .func (.func 192) #[] #[pg g6])] (by kernel_rfl) ?_
  have hw0 := U.ta.size
  have ltw := U.lt
  refine gc_rngI (lb := #[pg g6]) (fun V => ∃ (s : Sl) (K' : Nat → Prop) (n' N' : Nat), (s.k ≤ 5 ∧ (s.k = 0 ∨ w.heap.size ≤ s.z)) ∧ n' ≤ n + 60 ∧ N' ≤ N + 60 ∧ Ut w K B g [] V K' E n' N' ((g6, [pg g], 40) :: [(g4, [.slice s.a s.k s.c], 24)]) [(s.z, s.a, s.k, s.c, 0 + tk0 + tk1)]) (enters_of Tryz.func192 (by kernel_rfl) rfl) ?_ ?_ ?_
  · intro a fn ra V0 hB hs mk
    refine (bonded_run (E2 := E) (fun i (s : Sl) => match i with | 0 => s.k ≤ 1 ∧ (s.k = 0 ∨ w.heap.size ≤ s.z) | 1 => s.k ≤ 3 ∧ (s.k = 0 ∨ w.heap.size ≤ s.z) | _ => s.k ≤ 5 ∧ (s.k = 0 ∨ w.heap.size ≤ s.z)) (fun i (s : Sl) => match i with | 0 => [(g4, [.slice s.a s.k s.c], 24)] | 1 => [(g4, [.slice s.a s.k s.c], 24)] | _ => [(g4, [.slice s.a s.k s.c], 24)]) (fun i (s : Sl) => match i with | 0 => [(s.z, s.a, s.k, s.c, 0)] | 1 => [(s.z, s.a, s.k, s.c, 0 + tk0)] | _ => [(s.z, s.a, s.k, s.c, 0 + tk0 + tk1)]) hp hRk hv0 hv1 ⟨aq1, nq1, cq1, zq1⟩ ⟨by omega, fq1⟩ ((U.sel [0, 1] [0]).keep hB) (by omega) (by omega) mk (by omega) (by omega) ?_ ?_).mono ?_
    · rintro ⟨aS, kS, cS, zS⟩ VY KY nY NY ib sp a0 n0 c0 z0 a1 n1 c1 z1 a2 n2 c2 z2 a3 n3 c3 z3 hPY hnY hNY m0 m1 m2 m3 UY mkY
      have hloY := lt_of_block mkY.l
      replace hPY : kS ≤ 1 ∧ (kS = 0 ∨ w.heap.size ≤ zS) := hPY
      obtain ⟨hP1, hP2⟩ := hPY
      dsimp only at UY
      refine yield_go (n := 17) (B0 := v7.heap.size) (by omega) (by omega) (by omega) mkY rfl (Rz.st hw0) (rd_round ra (.int .u64 16) (.agg #[.int .u64 rt0, .int .u64 tk0, .slice a0 n0 c0, .bool jl0, .int .u64 un0, .bool bo0, .int .u64 pe0, .slice a1 n1 c1, .slice a2 n2 c2, .slice a3 n3 c3]) (by decide) (by decide)) ?_
      refine gr_reg ?_
      refine ta 5 [.int .u64 0, .int .u64 0, .slice none 0 0, .bool false, .int .u64 0, .bool false, .int .u64 0, .slice none 0 0, .slice none 0 0, .slice none 0 0] 28 (pg) ?_
      intro v9 g8 X hg8 B
      refine ts X 0 (.agg #[.int .u64 rt0, .int .u64 tk0, .slice a0 n0 c0, .bool jl0, .int .u64 un0, .bool bo0, .int .u64 pe0, .slice a1 n1 c1, .slice a2 n2 c2, .slice a3 n3 c3]) [.int .u64 rt0, .int .u64 tk0, .slice a0 n0 c0, .bool jl0, .int .u64 un0, .bool bo0, .int .u64 pe0, .slice a1 n1 c1, .slice a2 n2 c2, .slice a3 n3 c3] [.int .u64 rt0, .int .u64 tk0, .slice a0 n0 c0, .bool jl0, .int .u64 un0, .bool bo0, .int .u64 pe0, .slice a1 n1 c1, .slice a2 n2 c2, .slice a3 n3 c3] ?_
      intro v10 Y C
      have HB := belowC B C hg8
      clear B C X
      refine gl_nil ?_
      refine ge_asn HB ?_
      intro V2 W2 hr2 hs2 hb2 ho2
      have X5 : Blk W2 g8 [.int .u64 rt0, .int .u64 tk0, .slice a0 n0 c0, .bool jl0, .int .u64 un0, .bool bo0, .int .u64 pe0, .slice a1 n1 c1, .slice a2 n2 c2, .slice a3 n3 c3] 28 := ⟨(ho2 g8 (by omega)).trans Y.blk⟩
      have U := uy_of (C := v7.heap.size) ((UY.rcd hr2 hw0).new X5 (by omega) hb2)
      have hsW : v7.heap.size ≤ W2.heap.size := by have := hb2.size; omega
      clear X5 Y HB UY ho2
      refine gr_block ?_
      replace U := U.drew
      refine gr_draw (fun w' => Blk w' g4 [.slice aS kS cS] 24 ∧ Blk w' g8 [.int .u64 rt0, .int .u64 tk0, .slice a0 n0 c0, .bool jl0, .int .u64 un0, .bool bo0, .int .u64 pe0, .slice a1 n1 c1, .slice a2 n2 c2, .slice a3 n3 c3] 28) (fun i => decide (5 ≤ i)) ⟨(U.bk 3 rfl), (U.bk 0 rfl)⟩ ?_
      refine zl 0 11 (.slice aS kS cS) (fun _ h => h.1) 0 ?_
      refine zp 1 12 (pq g8 1) ?_
      refine zl 2 13 (.int .u64 tk0) (fun _ h => h.2) 1 ?_
      refine zc 3 14 9 #[.int .u64 tk0] (nfOf (x := tk0) htk0.1 htk0.2) ?_
      rintro _ v12 ⟨aq11, nq11, cq11, zq11, rfl, M, h, mq11, B⟩
      have fq11 := ne3 h U.ta.size
      replace U := U.num M h B
      clear M h B
      refine ⟨_, rfl, ⟨(U.bk 3 rfl), (U.bk 0 rfl)⟩, ?_⟩
      refine zc 4 15 12 #[.slice aS kS cS, .slice aq11 nq11 cq11] (nfAdd (U.nq 5 rfl).nat (U.nq 0 rfl).nat (by omega) (by omega)) ?_
      rintro _ v14 ⟨aq13, nq13, cq13, zq13, rfl, M, h, mq13, B⟩
      have fq13 := ne3 h U.ta.size
      replace U := U.num M h B
      clear M h B
      refine ⟨_, rfl, ⟨(U.bk 3 rfl), (U.bk 0 rfl)⟩, ?_⟩
      refine gz_late ?_
      refine ys 5 (U.bk 3 rfl) 0 (.slice aq13 nq13 cq13) [.slice aq13 nq13 cq13] [.slice aq13 nq13 cq13] ?_
      intro v15 Y C
      replace U := U.put 3 rfl C Y (by decide)
      clear Y C
      refine gy_done ?_
      refine ge_bn ?_
      exact ge_bp U.k ⟨⟨aq13, nq13, cq13, zq13⟩, _, _, _, ⟨by (try dsimp only); omega, fq13⟩, by omega, by omega, U.u.sel [1, 2, 3] [0]⟩
    · rintro ⟨aS, kS, cS, zS⟩ VY KY nY NY ib sp a0 n0 c0 z0 a1 n1 c1 z1 a2 n2 c2 z2 a3 n3 c3 z3 hPY hnY hNY m0 m1 m2 m3 UY mkY
      have hloY := lt_of_block mkY.l
      replace hPY : kS ≤ 3 ∧ (kS = 0 ∨ w.heap.size ≤ zS) := hPY
      obtain ⟨hP1, hP2⟩ := hPY
      dsimp only at UY
      refine yield_go (n := 17) (B0 := v7.heap.size) (by omega) (by omega) (by omega) mkY rfl (Rz.st hw0) (rd_round ra (.int .u64 17) (.agg #[.int .u64 rt1, .int .u64 tk1, .slice a0 n0 c0, .bool jl1, .int .u64 un1, .bool bo1, .int .u64 pe1, .slice a1 n1 c1, .slice a2 n2 c2, .slice a3 n3 c3]) (by decide) (by decide)) ?_
      refine gr_reg ?_
      refine ta 5 [.int .u64 0, .int .u64 0, .slice none 0 0, .bool false, .int .u64 0, .bool false, .int .u64 0, .slice none 0 0, .slice none 0 0, .slice none 0 0] 28 (pg) ?_
      intro v17 g16 X hg16 B
      refine ts X 0 (.agg #[.int .u64 rt1, .int .u64 tk1, .slice a0 n0 c0, .bool jl1, .int .u64 un1, .bool bo1, .int .u64 pe1, .slice a1 n1 c1, .slice a2 n2 c2, .slice a3 n3 c3]) [.int .u64 rt1, .int .u64 tk1, .slice a0 n0 c0, .bool jl1, .int .u64 un1, .bool bo1, .int .u64 pe1, .slice a1 n1 c1, .slice a2 n2 c2, .slice a3 n3 c3] [.int .u64 rt1, .int .u64 tk1, .slice a0 n0 c0, .bool jl1, .int .u64 un1, .bool bo1, .int .u64 pe1, .slice a1 n1 c1, .slice a2 n2 c2, .slice a3 n3 c3] ?_
      intro v18 Y C
      have HB := belowC B C hg16
      clear B C X
      refine gl_nil ?_
      refine ge_asn HB ?_
      intro V2 W2 hr2 hs2 hb2 ho2
      have X5 : Blk W2 g16 [.int .u64 rt1, .int .u64 tk1, .slice a0 n0 c0, .bool jl1, .int .u64 un1, .bool bo1, .int .u64 pe1, .slice a1 n1 c1, .slice a2 n2 c2, .slice a3 n3 c3] 28 := ⟨(ho2 g16 (by omega)).trans Y.blk⟩
      have U := uy_of (C := v7.heap.size) ((UY.rcd hr2 hw0).new X5 (by omega) hb2)
      have hsW : v7.heap.size ≤ W2.heap.size := by have := hb2.size; omega
      clear X5 Y HB UY ho2
      refine gr_block ?_
      replace U := U.drew
      refine gr_draw (fun w' => Blk w' g4 [.slice aS kS cS] 24 ∧ Blk w' g16 [.int .u64 rt1, .int .u64 tk1, .slice a0 n0 c0, .bool jl1, .int .u64 un1, .bool bo1, .int .u64 pe1, .slice a1 n1 c1, .slice a2 n2 c2, .slice a3 n3 c3] 28) (fun i => decide (5 ≤ i)) ⟨(U.bk 3 rfl), (U.bk 0 rfl)⟩ ?_
      refine zl 0 11 (.slice aS kS cS) (fun _ h => h.1) 0 ?_
      refine zp 1 12 (pq g16 1) ?_
      refine zl 2 13 (.int .u64 tk1) (fun _ h => h.2) 1 ?_
      refine zc 3 14 9 #[.int .u64 tk1] (nfOf (x := tk1) htk1.1 htk1.2) ?_
      rintro _ v20 ⟨aq19, nq19, cq19, zq19, rfl, M, h, mq19, B⟩
      have fq19 := ne3 h U.ta.size
      replace U := U.num M h B
      clear M h B
      refine ⟨_, rfl, ⟨(U.bk 3 rfl), (U.bk 0 rfl)⟩, ?_⟩
      refine zc 4 15 12 #[.slice aS kS cS, .slice aq19 nq19 cq19] (nfAdd (U.nq 5 rfl).nat (U.nq 0 rfl).nat (by omega) (by omega)) ?_
      rintro _ v22 ⟨aq21, nq21, cq21, zq21, rfl, M, h, mq21, B⟩
      have fq21 := ne3 h U.ta.size
      replace U := U.num M h B
      clear M h B
      refine ⟨_, rfl, ⟨(U.bk 3 rfl), (U.bk 0 rfl)⟩, ?_⟩
      refine gz_late ?_
      refine ys 5 (U.bk 3 rfl) 0 (.slice aq21 nq21 cq21) [.slice aq21 nq21 cq21] [.slice aq21 nq21 cq21] ?_
      intro v23 Y C
      replace U := U.put 3 rfl C Y (by decide)
      clear Y C
      refine gy_done ?_
      refine ge_bn ?_
      exact ge_bp U.k ⟨⟨aq21, nq21, cq21, zq21⟩, _, _, _, ⟨by (try dsimp only); omega, fq21⟩, by omega, by omega, U.u.sel [1, 2, 3] [0]⟩
    · rintro e W' ⟨he, ⟨s, K', n', N', hP, q1, q2, U'⟩, mk'⟩
      exact ⟨he, ⟨s, K', n', N', hP, by omega, by omega, U'⟩, mk'⟩
  · rintro A Z ⟨s, K', n', N', hP, q1, q2, U'⟩ r
    exact ⟨s, K', n', N', hP, q1, q2, U'.rcd r hw0⟩
  clear U
  intro v24 hD hI
  obtain ⟨⟨aS, kS, cS, zS⟩, KS_, nS, NS, hPS, qnS, qNS, U⟩ := hI
  replace hPS : kS ≤ 5 ∧ (kS = 0 ∨ w.heap.size ≤ zS) := hPS
  obtain ⟨hPS, hPT⟩ := hPS
  dsimp only at U
  replace U := uy_of (C := v7.heap.size) U
  refine ge_bn ?_
  refine ge_then ?_
  refine gc_seq ?_
  refine gc_reg ?_
  refine tl 16 (.slice aS kS cS) (U.bk 1 rfl) 0 ?_
  refine t 2 (.slice aS kS cS) ?_
  refine gl_nil ?_
  refine ge_then ?_
  refine gc_ret ?_
  have DF := dfs1 U.k hD (Nat.le_refl _) hw0
  refine ge_retD (b := w.heap.size) (v := .slice aS kS cS) [v7.heap.size] DF (rsM 2 (by kernel_rfl) (by kernel_rfl)) ?_
  intro Vz Rz
  have hwz := U.ta.size
  replace U := U.u.rcd Rz (Nat.le_refl _)
  exact ⟨_, _, _, _, _, _, _, rfl, U.ta.sx, by omega, by omega, U.ta.km, U.ta.cc, (U.nq 0 rfl), by omega, hPT⟩
end Fo
end Go.Proofs.YtgdohcdlkonhiaaGreatDoor
