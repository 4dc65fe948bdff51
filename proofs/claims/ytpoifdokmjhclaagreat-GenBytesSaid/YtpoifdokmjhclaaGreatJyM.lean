/- Several texts, joined: GnQ. -/
import Derived.Test.YtpoifdokmjhclaaGreatJyL
namespace Go.Proofs.YtpoifdokmjhclaaGreat
namespace Fo
open Go.RowKit Go.Lib Pg Lim Gl Kv Bk Pw Sd Di
attribute [local go_sem] Oper.semAt_some
set_option maxRecDepth 100000
set_option linter.unusedVariables false
set_option linter.unusedSimpArgs false
set_option maxHeartbeats 4000000
theorem known21 {w : World} : Calls Tryz.prog 5 #[] w fun e w' => e = .returned (.bool true) ∧ Below w.heap.size w w' := by
  have BB := Below.refl w.heap.size w
  refine gc_enter (n := 149) Tryz.func5 rfl (by kernel_rfl) (by kernel_rfl) ?_
  refine gc_seq ?_
  refine gc_reg ?_
  refine t 0 (.bool false) ?_
  refine gl_nil ?_
  refine ge_then ?_
  refine gc_seq ?_
  refine gc_reg ?_
  refine t 17 (.agg #[.int .u64 1, .int .u64 1, .int .u64 1, .int .u64 0, .int .u64 0, .int .u64 0, .int .u64 0, .int .u64 0, .int .u64 0, .int .u64 16]) ?_
  refine t 18 (.agg #[.int .u64 16, .int .u64 100]) ?_
  refine ta 19 [.int .u64 16, .int .u64 100] 43 (sg 1) ?_
  intro v1 g2 Xg2 hg2 B
  have zg2 : w.heap.size ≤ g2 := Nat.le_trans BB.size hg2
  replace BB := joinB BB B
  clear B
  refine t 20 (.agg #[.int .u64 16, .int .u64 500, .int .u64 10]) ?_
  have lXg2 := Xg2.lt
  refine ta 21 [.int .u64 16, .int .u64 500, .int .u64 10] 45 (sg 1) ?_
  intro v3 g4 Xg4 hg4 B
  have zg4 : w.heap.size ≤ g4 := Nat.le_trans BB.size hg4
  have dg2g4 : g2 ≠ g4 := by have := Xg2.lt; omega
  replace BB := joinB BB B
  replace Xg2 := Xg2.keep B
  clear B
  refine t 22 (.agg #[.int .u64 1, .int .u64 1, .int .u64 1, .int .u64 0, .int .u64 0, .int .u64 0, .int .u64 0, .int .u64 0, .int .u64 0, .int .u64 16, sg 1 g2, sg 1 g4]) ?_
  have lXg2 := Xg2.lt
  have lXg4 := Xg4.lt
  refine ta 1 [.int .u64 0, .int .u64 0, .int .u64 0, .int .u64 0, .int .u64 0, .int .u64 0, .int .u64 0, .int .u64 0, .int .u64 0, .int .u64 0, .slice none 0 0, .slice none 0 0] 28 (pg) ?_
  intro v5 g6 Xg6 hg6 B
  have zg6 : w.heap.size ≤ g6 := Nat.le_trans BB.size hg6
  have dg2g6 : g2 ≠ g6 := by have := Xg2.lt; omega
  have dg4g6 : g4 ≠ g6 := by have := Xg4.lt; omega
  replace BB := joinB BB B
  replace Xg2 := Xg2.keep B
  replace Xg4 := Xg4.keep B
  clear B
  refine ts Xg6 0 (.agg #[.int .u64 1, .int .u64 1, .int .u64 1, .int .u64 0, .int .u64 0, .int .u64 0, .int .u64 0, .int .u64 0, .int .u64 0, .int .u64 16, sg 1 g2, sg 1 g4]) [.int .u64 1, .int .u64 1, .int .u64 1, .int .u64 0, .int .u64 0, .int .u64 0, .int .u64 0, .int .u64 0, .int .u64 0, .int .u64 16, sg 1 g2, sg 1 g4] [.int .u64 1, .int .u64 1, .int .u64 1, .int .u64 0, .int .u64 0, .int .u64 0, .int .u64 0, .int .u64 0, .int .u64 0, .int .u64 16, sg 1 g2, sg 1 g4] ?_
  intro v7 Y C
  replace BB := belowC BB C (by omega)
  replace Xg2 := Xg2.chg C (show g2 ≠ g6 by omega)
  replace Xg4 := Xg4.chg C (show g4 ≠ g6 by omega)
  clear C Xg6
  have Xg6 := Y
  clear Y
  refine gl_nil ?_
  refine ge_then ?_
  refine gc_seq ?_
  refine gc_reg ?_
  refine tlr 23 [.int .u64 1, .int .u64 1, .int .u64 1, .int .u64 0, .int .u64 0, .int .u64 0, .int .u64 0, .int .u64 0, .int .u64 0, .int .u64 16, sg 1 g2, sg 1 g4] Xg6 0 ?_
  have lXg2 := Xg2.lt
  have lXg4 := Xg4.lt
  have lXg6 := Xg6.lt
  refine tc 24 11 #[.agg #[.int .u64 1, .int .u64 1, .int .u64 1, .int .u64 0, .int .u64 0, .int .u64 0, .int .u64 0, .int .u64 0, .int .u64 0, .int .u64 16, sg 1 g2, sg 1 g4]] (enc_m (A := [16, 100]) (V := [16, 500, 10]) (sp := []) (sq := []) (L := gb_y) Xg2 Xg4 rfl gl_y) ?_
  rintro _ v9 ⟨b8, rfl, Xb8, hbb8, B⟩
  refine ⟨_, rfl, ?_⟩
  have zb8 : w.heap.size ≤ b8 := Nat.le_trans BB.size hbb8
  have dg2b8 : g2 ≠ b8 := by omega
  have dg4b8 : g4 ≠ b8 := by omega
  have dg6b8 : g6 ≠ b8 := by omega
  replace BB := joinB BB B
  replace Xg2 := Xg2.keep B
  replace Xg4 := Xg4.keep B
  replace Xg6 := Xg6.keep B
  clear B
  refine t 2 (.slice (some ⟨b8, 0, none⟩) 132 132) ?_
  refine gl_nil ?_
  refine ge_then ?_
  refine gc_seq ?_
  refine gc_reg ?_
  refine t 26 (.slice (some ⟨b8, 0, none⟩) 132 132) ?_
  have lXg2 := Xg2.lt
  have lXg4 := Xg4.lt
  have lXg6 := Xg6.lt
  have lXb8 := Xb8.lt
  refine tc 27 8 #[.slice (some ⟨b8, 0, none⟩) 132 132] (dec_at (na := 1) (nv := 1) (by_bm Xb8 go_y gl_y) (by decide) ge_y gd_y) ?_
  rintro _ v10 ⟨ba, bf, rfl, hy, XA, XF, B⟩
  refine ⟨_, rfl, ?_⟩
  have zA : w.heap.size ≤ ba := Nat.le_trans BB.size hy.1
  have zF : w.heap.size ≤ bf := Nat.le_trans BB.size hy.2.1
  have dAF : ba ≠ bf := hy.2.2
  have dAg2 : g2 ≠ ba := by omega
  have dFg2 : g2 ≠ bf := by omega
  have dAg4 : g4 ≠ ba := by omega
  have dFg4 : g4 ≠ bf := by omega
  have dAg6 : g6 ≠ ba := by omega
  have dFg6 : g6 ≠ bf := by omega
  have dAb8 : b8 ≠ ba := by omega
  have dFb8 : b8 ≠ bf := by omega
  replace BB := joinB BB B
  replace Xg2 := Xg2.keep B
  replace Xg4 := Xg4.keep B
  replace Xg6 := Xg6.keep B
  replace Xb8 := Xb8.keep B
  clear B
  refine t 25 (.tuple #[.agg #[.int .u64 1, .int .u64 1, .int .u64 1, .int .u64 0, .int .u64 0, .int .u64 0, .int .u64 0, .int .u64 0, .int .u64 0, .int .u64 16, .slice (some ⟨ba, 0, none⟩) 1 1, .slice (some ⟨bf, 0, none⟩) 1 1], .int .i64 0]) ?_
  refine t 28 (.agg #[.int .u64 1, .int .u64 1, .int .u64 1, .int .u64 0, .int .u64 0, .int .u64 0, .int .u64 0, .int .u64 0, .int .u64 0, .int .u64 16, .slice (some ⟨ba, 0, none⟩) 1 1, .slice (some ⟨bf, 0, none⟩) 1 1]) ?_
  refine t 29 (.int .i64 0) ?_
  have lXg2 := Xg2.lt
  have lXg4 := Xg4.lt
  have lXg6 := Xg6.lt
  have lXb8 := Xb8.lt
  have lXA := XA.lt
  have lXF := XF.lt
  refine ta 3 [.int .u64 0, .int .u64 0, .int .u64 0, .int .u64 0, .int .u64 0, .int .u64 0, .int .u64 0, .int .u64 0, .int .u64 0, .int .u64 0, .slice none 0 0, .slice none 0 0] 28 (pg) ?_
  intro v11 g12 Xg12 hg12 B
  have zg12 : w.heap.size ≤ g12 := Nat.le_trans BB.size hg12
  have dg2g12 : g2 ≠ g12 := by have := Xg2.lt; omega
  have dg4g12 : g4 ≠ g12 := by have := Xg4.lt; omega
  have dg6g12 : g6 ≠ g12 := by have := Xg6.lt; omega
  have db8g12 : b8 ≠ g12 := by have := Xb8.lt; omega
  have dbag12 : ba ≠ g12 := by have := XA.lt; omega
  have dbfg12 : bf ≠ g12 := by have := XF.lt; omega
  replace BB := joinB BB B
  replace Xg2 := Xg2.keep B
  replace Xg4 := Xg4.keep B
  replace Xg6 := Xg6.keep B
  replace Xb8 := Xb8.keep B
  replace XA := XA.keep B
  replace XF := XF.keep B
  clear B
  refine ts Xg12 0 (.agg #[.int .u64 1, .int .u64 1, .int .u64 1, .int .u64 0, .int .u64 0, .int .u64 0, .int .u64 0, .int .u64 0, .int .u64 0, .int .u64 16, .slice (some ⟨ba, 0, none⟩) 1 1, .slice (some ⟨bf, 0, none⟩) 1 1]) [.int .u64 1, .int .u64 1, .int .u64 1, .int .u64 0, .int .u64 0, .int .u64 0, .int .u64 0, .int .u64 0, .int .u64 0, .int .u64 16, .slice (some ⟨ba, 0, none⟩) 1 1, .slice (some ⟨bf, 0, none⟩) 1 1] [.int .u64 1, .int .u64 1, .int .u64 1, .int .u64 0, .int .u64 0, .int .u64 0, .int .u64 0, .int .u64 0, .int .u64 0, .int .u64 16, .slice (some ⟨ba, 0, none⟩) 1 1, .slice (some ⟨bf, 0, none⟩) 1 1] ?_
  intro v13 Y C
  replace BB := belowC BB C (by omega)
  replace Xg2 := Xg2.chg C (show g2 ≠ g12 by omega)
  replace Xg4 := Xg4.chg C (show g4 ≠ g12 by omega)
  replace Xg6 := Xg6.chg C (show g6 ≠ g12 by omega)
  replace Xb8 := Xb8.chg C (show b8 ≠ g12 by omega)
  replace XA := XA.chg C (show ba ≠ g12 by omega)
  replace XF := XF.chg C (show bf ≠ g12 by omega)
  clear C Xg12
  have Xg12 := Y
  clear Y
  refine t 4 (.int .i64 0) ?_
  refine gl_nil ?_
  refine ge_then ?_
  refine gc_fr [(0, .bool false), (1, pg g6), (2, .slice (some ⟨b8, 0, none⟩) 132 132), (3, pg g12), (4, .int .i64 0)] (by kernel_rfl) ?_
  refine gc_seq ?_
  refine gc_reg ?_
  refine t 31 (.slice (some ⟨b8, 0, none⟩) 132 132) ?_
  have zB := BB.size
  have lXg2 := Xg2.lt
  have lXg4 := Xg4.lt
  have lXg6 := Xg6.lt
  have lXb8 := Xb8.lt
  have lXA := XA.lt
  have lXF := XF.lt
  have lXg12 := Xg12.lt
  refine tc 32 14 #[.slice (some ⟨b8, 0, none⟩) 132 132] (make_y (by_bm Xb8 go_y gl_y) (by decide) ge_y gd_y) ?_
  rintro _ v14 ⟨g, K, n, N, B', rfl, S, q1, q2, q3, B⟩
  refine ⟨_, rfl, ?_⟩
  replace BB := joinB BB B
  replace Xg2 := Xg2.keep B
  replace Xg4 := Xg4.keep B
  replace Xg6 := Xg6.keep B
  replace Xb8 := Xb8.keep B
  replace XA := XA.keep B
  replace XF := XF.keep B
  replace Xg12 := Xg12.keep B
  clear B
  have hK : ∀ b, K b → B' ≤ b := S.kb
  have U : Ut w (fun _ => False) B' g [] v14 K e16 n N [(g2, [.int .u64 16, .int .u64 100], 43), (g4, [.int .u64 16, .int .u64 500, .int .u64 10], 45), (g6, [.int .u64 1, .int .u64 1, .int .u64 1, .int .u64 0, .int .u64 0, .int .u64 0, .int .u64 0, .int .u64 0, .int .u64 0, .int .u64 16, sg 1 g2, sg 1 g4], 28), (b8, gb_y.map (Value.int .u8), 5), (ba, [.int .u64 16, .int .u64 100], 43), (bf, [.int .u64 16, .int .u64 500, .int .u64 10], 45), (g12, [.int .u64 1, .int .u64 1, .int .u64 1, .int .u64 0, .int .u64 0, .int .u64 0, .int .u64 0, .int .u64 0, .int .u64 0, .int .u64 16, .slice (some ⟨ba, 0, none⟩) 1 1, .slice (some ⟨bf, 0, none⟩) 1 1], 28)] [] := by
    refine ⟨⟨S, fun b k => .inr (by have := hK b k; omega), Chg.of BB⟩, ?_, fun _ h => absurd h List.not_mem_nil, fun p _ r h => absurd h List.not_mem_nil, ?_⟩
    · simp only [List.forall_mem_cons]
      exact ⟨⟨Xg2, fun k => by have := hK _ k; omega, zg2⟩, ⟨Xg4, fun k => by have := hK _ k; omega, zg4⟩, ⟨Xg6, fun k => by have := hK _ k; omega, zg6⟩, ⟨Xb8, fun k => by have := hK _ k; omega, zb8⟩, ⟨XA, fun k => by have := hK _ k; omega, zA⟩, ⟨XF, fun k => by have := hK _ k; omega, zF⟩, ⟨Xg12, fun k => by have := hK _ k; omega, zg12⟩, fun _ h => absurd h List.not_mem_nil⟩
    · simp
      omega
  clear Xg2 Xg4 Xg6 Xb8 XA XF Xg12 BB
  refine t 30 (.tuple #[pg g, .int .i64 0]) ?_
  refine t 33 (pg g) ?_
  refine t 34 (.int .i64 0) ?_
  refine t 5 (pg g) ?_
  refine t 6 (.int .i64 0) ?_
  refine gl_nil ?_
  refine ge_then ?_
  refine gc_seq ?_
  refine gc_seq ?_
  refine gc_reg ?_
  refine t 35 (.int .i64 0) ?_
  refine t 36 (.int .i64 0) ?_
  refine t 37 (.int .i64 0) ?_
  refine t 38 (.bool false) ?_
  refine t 39 (.bool false) ?_
  refine t 40 (.slice (some ⟨b8, 0, none⟩) 132 132) ?_
  refine t 41 (.int .i64 132) ?_
  refine t 42 (.bool false) ?_
  refine t 43 (.bool false) ?_
  refine t 44 (.bool false) ?_
  refine t 45 (.slice (some ⟨b8, 0, none⟩) 132 132) ?_
  refine t 46 (pg b8) ?_
  refine tl 47 (.int .u8 71) (U.bk 3 rfl) 0 ?_
  refine t 48 (.bool false) ?_
  refine t 49 (.bool false) ?_
  refine t 50 (.bool false) ?_
  refine tlr 51 [.int .u64 1, .int .u64 1, .int .u64 1, .int .u64 0, .int .u64 0, .int .u64 0, .int .u64 0, .int .u64 0, .int .u64 0, .int .u64 16, .slice (some ⟨ba, 0, none⟩) 1 1, .slice (some ⟨bf, 0, none⟩) 1 1] (U.bk 6 rfl) 0 ?_
  refine tlr 52 [.int .u64 1, .int .u64 1, .int .u64 1, .int .u64 0, .int .u64 0, .int .u64 0, .int .u64 0, .int .u64 0, .int .u64 0, .int .u64 16, sg 1 g2, sg 1 g4] (U.bk 2 rfl) 0 ?_
  refine tc 53 13 #[.agg #[.int .u64 1, .int .u64 1, .int .u64 1, .int .u64 0, .int .u64 0, .int .u64 0, .int .u64 0, .int .u64 0, .int .u64 0, .int .u64 16, .slice (some ⟨ba, 0, none⟩) 1 1, .slice (some ⟨bf, 0, none⟩) 1 1], .agg #[.int .u64 1, .int .u64 1, .int .u64 1, .int .u64 0, .int .u64 0, .int .u64 0, .int .u64 0, .int .u64 0, .int .u64 0, .int .u64 16, sg 1 g2, sg 1 g4]] (Gn.same_t (nlb (A := [16, 100]) (sp := []) (k := 2) (n := 1) (U.bk 4 rfl) rfl (by unfold Mg.In8; decide)) (nlb (A := [16, 500, 10]) (sp := []) (k := 3) (n := 1) (U.bk 5 rfl) rfl (by unfold Mg.In8; decide)) (nlb (A := [16, 100]) (sp := []) (k := 2) (n := 1) (U.bk 0 rfl) rfl (by unfold Mg.In8; decide)) (nlb (A := [16, 500, 10]) (sp := []) (k := 3) (n := 1) (U.bk 1 rfl) rfl (by unfold Mg.In8; decide)) (by decide) (by decide)) ?_
  rintro _ v15 ⟨rfl, B⟩
  refine ⟨_, rfl, ?_⟩
  replace U := U.keep B
  clear B
  refine t 54 (.bool false) ?_
  refine t 55 (.bool false) ?_
  refine t 56 (.bool false) ?_
  refine t 57 (pg g) ?_
  refine t 58 (.bool false) ?_
  refine t 59 (.bool false) ?_
  refine t 60 (.bool false) ?_
  refine t 61 (pg g) ?_
  refine tc 62 15 #[pg g, .int .u64 16] (get_lit (get_any U.ta.sx ⟨by decide, by decide⟩ (by omega) (by omega)) (show coin e16 16 = 90 by decide +kernel) (show seqn e16 16 = 0 by decide +kernel)) ?_
  rintro _ v17 ⟨rfl, K16, S, hK, hC⟩
  refine ⟨_, rfl, ?_⟩
  replace U := U.op S hK hC
  clear S hK hC
  refine t 63 (.int .u64 90) ?_
  refine t 64 (.bool false) ?_
  refine t 65 (.bool false) ?_
  refine t 66 (.bool false) ?_
  refine t 67 (pg g) ?_
  refine tc 68 15 #[pg g, .int .u64 2] (get_lit (get_any U.ta.sx ⟨by decide, by decide⟩ (by omega) (by omega)) (show coin e16 2 = 10 by decide +kernel) (show seqn e16 2 = 0 by decide +kernel)) ?_
  rintro _ v19 ⟨rfl, K18, S, hK, hC⟩
  refine ⟨_, rfl, ?_⟩
  replace U := U.op S hK hC
  clear S hK hC
  refine t 69 (.int .u64 10) ?_
  refine t 70 (.bool false) ?_
  refine t 71 (.bool false) ?_
  refine t 72 (.bool false) ?_
  refine t 73 (pg g) ?_
  refine tc 74 15 #[pg g, .int .u64 3] (get_lit (get_any U.ta.sx ⟨by decide, by decide⟩ (by omega) (by omega)) (show coin e16 3 = 0 by decide +kernel) (show seqn e16 3 = 0 by decide +kernel)) ?_
  rintro _ v21 ⟨rfl, K20, S, hK, hC⟩
  refine ⟨_, rfl, ?_⟩
  replace U := U.op S hK hC
  clear S hK hC
  refine t 75 (.int .u64 0) ?_
  refine t 76 (.bool false) ?_
  refine t 77 (.bool false) ?_
  refine gl_nil ?_
  refine ge_then ?_
  refine gc_fr [(0, .bool false), (1, pg g6), (2, .slice (some ⟨b8, 0, none⟩) 132 132), (5, pg g), (77, .bool false)] (by kernel_rfl) ?_
  refine gc_no ?_
  refine gc_skip ?_
  refine ge_then ?_
  refine gc_seq ?_
  refine gc_reg ?_
  refine t 78 (pq g6 11) ?_
  refine tl 79 (sg 1 g4) (U.bk 2 rfl) 11 ?_
  refine t 80 (pg g4) ?_
  refine t 81 (pg g4) ?_
  refine ts (U.bk 1 rfl) 0 (.int .u64 17) [.int .u64 17] [.int .u64 17, .int .u64 500, .int .u64 10] ?_
  intro v22 Y C
  replace U := U.put 1 rfl C Y (by decide)
  clear Y C
  refine gl_nil ?_
  refine ge_then ?_
  refine gc_seq ?_
  refine gc_reg ?_
  refine tlr 83 [.int .u64 1, .int .u64 1, .int .u64 1, .int .u64 0, .int .u64 0, .int .u64 0, .int .u64 0, .int .u64 0, .int .u64 0, .int .u64 16, sg 1 g2, sg 1 g4] (U.bk 2 rfl) 0 ?_
  refine tc 84 11 #[.agg #[.int .u64 1, .int .u64 1, .int .u64 1, .int .u64 0, .int .u64 0, .int .u64 0, .int .u64 0, .int .u64 0, .int .u64 0, .int .u64 16, sg 1 g2, sg 1 g4]] (enc_m (A := [16, 100]) (V := [17, 500, 10]) (sp := []) (sq := []) (L := gb_n) (U.bk 0 rfl) (U.bk 1 rfl) rfl gl_n) ?_
  rintro _ v24 ⟨b23, rfl, X, hb, B⟩
  refine ⟨_, rfl, ?_⟩
  replace U := U.new X hb B
  clear X hb B
  refine tc 85 14 #[.slice (some ⟨b23, 0, none⟩) 132 132] (make_n (by_bm (U.bk 0 rfl) go_n gl_n) (by decide) ge_n gd_n) ?_
  rintro _ v25 ⟨rfl, B⟩
  refine ⟨_, rfl, ?_⟩
  replace U := U.keep B
  clear B
  refine t 82 (.tuple #[.pointer none, .int .i64 215]) ?_
  refine t 86 (.pointer none) ?_
  refine t 87 (.int .i64 215) ?_
  refine t 7 (.pointer none) ?_
  refine t 8 (.int .i64 215) ?_
  refine gl_nil ?_
  refine ge_then ?_
  refine gc_fr [(0, .bool false), (1, pg g6), (2, .slice (some ⟨b8, 0, none⟩) 132 132), (5, pg g), (8, .int .i64 215)] (by kernel_rfl) ?_
  refine gc_seq ?_
  replace U := U.drew
  refine gc_draw (fun w' => Blk w' g6 [.int .u64 1, .int .u64 1, .int .u64 1, .int .u64 0, .int .u64 0, .int .u64 0, .int .u64 0, .int .u64 0, .int .u64 0, .int .u64 16, sg 1 g2, sg 1 g4] 28 ∧ Blk w' g2 [.int .u64 16, .int .u64 100] 43) (fun i => decide (9 ≤ i)) ⟨(U.bk 3 rfl), (U.bk 1 rfl)⟩ ?_
  refine zp 0 88 (pq g6 10) ?_
  refine zl 1 89 (sg 1 g2) (fun _ h => h.1) 10 ?_
  refine zp 2 90 (pq g6 10) ?_
  refine zl 3 91 (sg 1 g2) (fun _ h => h.1) 10 ?_
  refine zp 4 92 (pg g2) ?_
  refine zlr 5 93 [.int .u64 16, .int .u64 100] (fun _ h => h.2) 0 ?_
  refine za 6 94 [.int .u64 16, .int .u64 100] 43 (sg 1) ?_
  intro v26 g27 Xg27 hg27 B
  replace U := U.new Xg27 hg27 B
  clear Xg27 hg27 B
  refine ⟨⟨(U.bk 4 rfl), (U.bk 2 rfl)⟩, ?_⟩
  obtain ⟨bp, cp, sp, w4, hr4, X4, hb4, B4⟩ := app_P (U.bk 2 rfl) (U.bk 0 rfl)
  replace U := U.new X4 hb4 B4
  clear X4 hb4 B4
  refine zw 7 95 (.slice (some ⟨bp, 0, none⟩) 2 cp) _ (run_apP hr4) ⟨(U.bk 5 rfl), (U.bk 3 rfl)⟩ ?_
  refine zp 8 96 (pq g6 10) ?_
  refine gz_late ?_
  refine ys 9 (U.bk 5 rfl) 10 (.slice (some ⟨bp, 0, none⟩) 2 cp) [.slice (some ⟨bp, 0, none⟩) 2 cp] [.int .u64 1, .int .u64 1, .int .u64 1, .int .u64 0, .int .u64 0, .int .u64 0, .int .u64 0, .int .u64 0, .int .u64 0, .int .u64 16, .slice (some ⟨bp, 0, none⟩) 2 cp, sg 1 g4] ?_
  intro v28 Y C
  replace U := U.put 5 rfl C Y (by decide)
  clear Y C
  refine gy_done ?_
  refine ge_then ?_
  refine gc_seq ?_
  refine gc_reg ?_
  refine tlr 98 [.int .u64 1, .int .u64 1, .int .u64 1, .int .u64 0, .int .u64 0, .int .u64 0, .int .u64 0, .int .u64 0, .int .u64 0, .int .u64 16, .slice (some ⟨bp, 0, none⟩) 2 cp, sg 1 g4] (U.bk 5 rfl) 0 ?_
  refine tc 99 11 #[.agg #[.int .u64 1, .int .u64 1, .int .u64 1, .int .u64 0, .int .u64 0, .int .u64 0, .int .u64 0, .int .u64 0, .int .u64 0, .int .u64 16, .slice (some ⟨bp, 0, none⟩) 2 cp, sg 1 g4]] (enc_m (A := [16, 100, 16, 100]) (V := [17, 500, 10]) (sp := sp) (sq := []) (L := gb_a) (U.bk 0 rfl) (U.bk 4 rfl) rfl gl_a) ?_
  rintro _ v30 ⟨b29, rfl, X, hb, B⟩
  refine ⟨_, rfl, ?_⟩
  replace U := U.new X hb B
  clear X hb B
  refine tc 100 14 #[.slice (some ⟨b29, 0, none⟩) 148 148] (make_a (by_bm (U.bk 0 rfl) go_a gl_a) (by decide) ge_a gd_a) ?_
  rintro _ v31 ⟨rfl, B⟩
  refine ⟨_, rfl, ?_⟩
  replace U := U.keep B
  clear B
  refine t 97 (.tuple #[.pointer none, .int .i64 213]) ?_
  refine t 101 (.pointer none) ?_
  refine t 102 (.int .i64 213) ?_
  refine t 9 (.pointer none) ?_
  refine t 10 (.int .i64 213) ?_
  refine gl_nil ?_
  refine ge_then ?_
  refine gc_fr [(0, .bool false), (1, pg g6), (2, .slice (some ⟨b8, 0, none⟩) 132 132), (5, pg g), (8, .int .i64 215), (10, .int .i64 213)] (by kernel_rfl) ?_
  refine gc_seq ?_
  refine gc_reg ?_
  refine t 103 (pg g6) ?_
  refine t 104 (pg g6) ?_
  refine ts (U.bk 6 rfl) 0 (.int .u64 0) [.int .u64 0] [.int .u64 0, .int .u64 1, .int .u64 1, .int .u64 0, .int .u64 0, .int .u64 0, .int .u64 0, .int .u64 0, .int .u64 0, .int .u64 16, .slice (some ⟨bp, 0, none⟩) 2 cp, sg 1 g4] ?_
  intro v32 Y C
  replace U := U.put 6 rfl C Y (by decide)
  clear Y C
  refine gl_nil ?_
  refine ge_then ?_
  refine gc_seq ?_
  refine gc_reg ?_
  refine tlr 106 [.int .u64 0, .int .u64 1, .int .u64 1, .int .u64 0, .int .u64 0, .int .u64 0, .int .u64 0, .int .u64 0, .int .u64 0, .int .u64 16, .slice (some ⟨bp, 0, none⟩) 2 cp, sg 1 g4] (U.bk 6 rfl) 0 ?_
  refine tc 107 11 #[.agg #[.int .u64 0, .int .u64 1, .int .u64 1, .int .u64 0, .int .u64 0, .int .u64 0, .int .u64 0, .int .u64 0, .int .u64 0, .int .u64 16, .slice (some ⟨bp, 0, none⟩) 2 cp, sg 1 g4]] (enc_m (A := [16, 100, 16, 100]) (V := [17, 500, 10]) (sp := sp) (sq := []) (L := gb_p) (U.bk 1 rfl) (U.bk 5 rfl) rfl gl_p) ?_
  rintro _ v34 ⟨b33, rfl, X, hb, B⟩
  refine ⟨_, rfl, ?_⟩
  replace U := U.new X hb B
  clear X hb B
  refine tc 108 14 #[.slice (some ⟨b33, 0, none⟩) 148 148] (make_p (by_bm (U.bk 0 rfl) go_p gl_p) (by decide) ge_p gd_p) ?_
  rintro _ v35 ⟨rfl, B⟩
  refine ⟨_, rfl, ?_⟩
  replace U := U.keep B
  clear B
  refine t 105 (.tuple #[.pointer none, .int .i64 212]) ?_
  refine t 109 (.pointer none) ?_
  refine t 110 (.int .i64 212) ?_
  refine t 11 (.pointer none) ?_
  refine t 12 (.int .i64 212) ?_
  refine gl_nil ?_
  refine ge_then ?_
  refine gc_seq ?_
  refine gc_reg ?_
  refine t 112 (.slice (some ⟨b8, 0, none⟩) 132 132) ?_
  refine ta 113 [.int .u8 0] 5 (sg 1) ?_
  intro v36 g37 Xg37 hg37 B
  replace U := U.new Xg37 hg37 B
  clear Xg37 hg37 B
  obtain ⟨bb, cc, w5, hr5, A5, B5⟩ := app_fm (U.bk 9 rfl) (U.bk 0 rfl) go_y gl_y
  refine tw 114 (.slice (some ⟨bb, 0, none⟩) 133 cc) _ (run_apB hr5) ?_
  replace U := U.keep B5
  clear B5 hr5
  refine tc 115 14 #[.slice (some ⟨bb, 0, none⟩) 133 cc] (make_d A5 (by decide) ge_d) ?_
  rintro _ v38 ⟨rfl, B⟩
  refine ⟨_, rfl, ?_⟩
  replace U := U.keep B
  clear B
  refine t 111 (.tuple #[.pointer none, .int .i64 210]) ?_
  refine t 116 (.pointer none) ?_
  refine t 117 (.int .i64 210) ?_
  refine t 13 (.pointer none) ?_
  refine t 14 (.int .i64 210) ?_
  refine gl_nil ?_
  refine ge_then ?_
  refine gc_fr [(0, .bool false), (5, pg g), (8, .int .i64 215), (10, .int .i64 213), (12, .int .i64 212), (14, .int .i64 210)] (by kernel_rfl) ?_
  refine gc_seq ?_
  refine gc_reg ?_
  refine t 119 (pg g) ?_
  refine tc 120 16 #[pg g, .int .u64 16] (gVal (th := true) (er := 0) (rt := 500) (tk := 10) (un := 0) (pe := 2) (jl := false) (bo := true) (x0 := 10000000000000000000000000000000000000) (x1 := 0) (x2 := 0) (x3 := 0) U.ta.sx ⟨by decide, by decide⟩ (by decide +kernel) rfl (by omega) (by omega)) ?_
  rintro _ v46 ⟨aq39, nq39, cq39, zq39, aq40, nq40, cq40, zq40, aq41, nq41, cq41, zq41, aq42, nq42, cq42, zq42, K43, n44, N45, rfl, S, qn44, qN45, hK, hC, Q0, mq39, h0, Q1, mq40, h1, Q2, mq41, h2, Q3, mq42, h3⟩
  refine ⟨_, rfl, ?_⟩
  have fq39 := ne3 h0 U.ta.size
  have fq40 := ne3 h1 U.ta.size
  have fq41 := ne3 h2 U.ta.size
  have fq42 := ne3 h3 U.ta.size
  have L := U.lt
  replace U := ((((U.op S hK hC).add L Q0 h0).add L Q1 h1).add L Q2 h2).add L Q3 h3
  clear L S hK hC Q0 h0 Q1 h1 Q2 h2 Q3 h3
  refine t 118 (.tuple #[.agg #[.int .u64 500, .int .u64 10, .slice aq39 nq39 cq39, .bool false, .int .u64 0, .bool true, .int .u64 2, .slice aq40 nq40 cq40, .slice aq41 nq41 cq41, .slice aq42 nq42 cq42], .bool true]) ?_
  refine t 121 (.agg #[.int .u64 500, .int .u64 10, .slice aq39 nq39 cq39, .bool false, .int .u64 0, .bool true, .int .u64 2, .slice aq40 nq40 cq40, .slice aq41 nq41 cq41, .slice aq42 nq42 cq42]) ?_
  refine t 122 (.bool true) ?_
  refine ta 15 [.int .u64 0, .int .u64 0, .slice none 0 0, .bool false, .int .u64 0, .bool false, .int .u64 0, .slice none 0 0, .slice none 0 0, .slice none 0 0] 57 (pg) ?_
  intro v47 g48 Xg48 hg48 B
  replace U := U.new Xg48 hg48 B
  clear Xg48 hg48 B
  refine ts (U.bk 0 rfl) 0 (.agg #[.int .u64 500, .int .u64 10, .slice aq39 nq39 cq39, .bool false, .int .u64 0, .bool true, .int .u64 2, .slice aq40 nq40 cq40, .slice aq41 nq41 cq41, .slice aq42 nq42 cq42]) [.int .u64 500, .int .u64 10, .slice aq39 nq39 cq39, .bool false, .int .u64 0, .bool true, .int .u64 2, .slice aq40 nq40 cq40, .slice aq41 nq41 cq41, .slice aq42 nq42 cq42] [.int .u64 500, .int .u64 10, .slice aq39 nq39 cq39, .bool false, .int .u64 0, .bool true, .int .u64 2, .slice aq40 nq40 cq40, .slice aq41 nq41 cq41, .slice aq42 nq42 cq42] ?_
  intro v49 Y C
  replace U := U.put 0 rfl C Y (by decide)
  clear Y C
  refine t 16 (.bool true) ?_
  refine gl_nil ?_
  refine ge_then ?_
  refine gc_seq ?_
  refine gc_reg ?_
  refine t 123 (.int .i64 215) ?_
  refine t 124 (.bool true) ?_
  refine t 125 (.bool true) ?_
  refine t 126 (.int .i64 213) ?_
  refine t 127 (.bool true) ?_
  refine t 128 (.bool true) ?_
  refine t 129 (.bool true) ?_
  refine t 130 (.int .i64 212) ?_
  refine t 131 (.bool true) ?_
  refine t 132 (.bool true) ?_
  refine t 133 (.bool true) ?_
  refine t 134 (.int .i64 210) ?_
  refine t 135 (.bool true) ?_
  refine t 136 (.bool true) ?_
  refine t 137 (.bool true) ?_
  refine t 138 (.bool true) ?_
  refine t 139 (.bool true) ?_
  refine t 140 (.bool true) ?_
  refine t 141 (pq g48 5) ?_
  refine tl 142 (.bool true) (U.bk 0 rfl) 5 ?_
  refine t 143 (.bool true) ?_
  refine t 144 (.bool true) ?_
  refine t 145 (pg g48) ?_
  refine tl 146 (.int .u64 500) (U.bk 0 rfl) 0 ?_
  refine t 147 (.bool true) ?_
  refine t 148 (.bool true) ?_
  refine t 0 (.bool true) ?_
  refine gl_nil ?_
  refine ge_then ?_
  refine gc_fr [(0, .bool true)] (by kernel_rfl) ?_
  refine gc_ret ?_
  refine ge_ret (.bool true) (rs1 0 (by kernel_rfl) (by kernel_rfl)) ?_
  exact ⟨rfl, Chg.nothing U.ta.cc⟩
end Fo
end Go.Proofs.YtpoifdokmjhclaaGreat
