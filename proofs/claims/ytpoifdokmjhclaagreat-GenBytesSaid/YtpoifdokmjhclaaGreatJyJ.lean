/- Several texts, joined: GnM. -/
import Derived.Test.YtpoifdokmjhclaaGreatJyI
import Derived.Test.YtpoifdokmjhclaaGreatJyk
namespace Go.Proofs.YtpoifdokmjhclaaGreat
namespace Fo
open Go.RowKit Go.Lib Pg Lim Gl Kv Bk Pw Sd Di
attribute [local go_sem] Oper.semAt_some
set_option maxRecDepth 100000
set_option linter.unusedVariables false
set_option linter.unusedSimpArgs false
set_option maxHeartbeats 4000000
theorem nlb {w : World} {g n k : Nat} {A : List Int} {T : TypeId} {sp : List Value} (X : Blk w g (A.map (Value.int .u64) ++ sp) T) (h : A.length = n * k) (r : ∀ x ∈ A, Mg.In8 x) : Gn.Nl w (some ⟨g, 0, none⟩) n k g 0 A := ⟨h, fun _ => rfl, fun i hi => by
  rw [Nat.zero_add]
  refine X.cell ?_
  rw [List.getElem?_append_left (by simp; omega), List.getElem?_map, List.getElem?_eq_getElem (by omega)]
  simp [nth, List.getD_eq_getElem?_getD, List.getElem?_eq_getElem (show i < A.length by omega)], r⟩
theorem gev {B : Nat} {w : World} {v : Value} {p0 p1 p2 p3 p4 p5 p6 p7 p8 p9 : Int} {A V : List Int} {na nv : Nat} (h : Gn.GeV B w v ⟨[p0, p1, p2, p3, p4, p5, p6, p7, p8, p9], A, V⟩) (hA : A.length = na * 2) (hV : V.length = nv * 3) (ha : 0 < na) (hv : 0 < nv) : ∃ g1 g2, v = .agg #[.int .u64 p0, .int .u64 p1, .int .u64 p2, .int .u64 p3, .int .u64 p4, .int .u64 p5, .int .u64 p6, .int .u64 p7, .int .u64 p8, .int .u64 p9, .slice (some ⟨g1, 0, none⟩) na na, .slice (some ⟨g2, 0, none⟩) nv nv] ∧ (B ≤ g1 ∧ B ≤ g2 ∧ g1 ≠ g2) ∧ Blk w g1 (A.map (Value.int .u64)) 43 ∧ Blk w g2 (V.map (Value.int .u64)) 45 := by
  obtain ⟨q0, q1, q2, q3, q4, q5, q6, q7, q8, q9, a1, m1, g1, a2, m2, g2, rfl, hp, L1, L2⟩ := h.ex
  have hp' : [p0, p1, p2, p3, p4, p5, p6, p7, p8, p9] = [q0, q1, q2, q3, q4, q5, q6, q7, q8, q9] := hp
  cases hp'
  rcases L1.ex with ⟨rfl, rfl, e⟩ | ⟨rfl, y1, X1, l1⟩
  · have e' : A = [] := e
    rw [e'] at hA
    simp at hA
    omega
  · rcases L2.ex with ⟨rfl, rfl, e⟩ | ⟨rfl, y2, X2, l2⟩
    · have e' : V = [] := e
      rw [e'] at hV
      simp at hV
      omega
    · have l1' : A.length = m1 * 2 := l1
      have l2' : V.length = m2 * 3 := l2
      obtain rfl : m1 = na := by omega
      obtain rfl : m2 = nv := by omega
      exact ⟨g1, g2, rfl, ⟨y1, y2, fun e => by
        have h1 := X1.blk
        rw [e, X2.blk] at h1
        simp at h1⟩, X1, X2⟩
theorem dec_at {w : World} {b n c : Nat} {ao : Option Addr} {l : List Int} {p0 p1 p2 p3 p4 p5 p6 p7 p8 p9 : Int} {V A : List Int} {na nv : Nat} (B : ByA w b ao n c l) (hn : n ≤ 1000000000) (h0 : Gn.eD l = 0) (hg : Gn.gD l = ⟨[p0, p1, p2, p3, p4, p5, p6, p7, p8, p9], A, V⟩) (hA : A.length = na * 2 := by rfl) (hV : V.length = nv * 3 := by rfl) (ha : 0 < na := by decide) (hv : 0 < nv := by decide) : Calls Tryz.prog 8 #[.slice ao n c] w fun e w' => ∃ g1 g2, e = .returned (.tuple #[.agg #[.int .u64 p0, .int .u64 p1, .int .u64 p2, .int .u64 p3, .int .u64 p4, .int .u64 p5, .int .u64 p6, .int .u64 p7, .int .u64 p8, .int .u64 p9, .slice (some ⟨g1, 0, none⟩) na na, .slice (some ⟨g2, 0, none⟩) nv nv], .int .i64 0]) ∧ (w.heap.size ≤ g1 ∧ w.heap.size ≤ g2 ∧ g1 ≠ g2) ∧ Blk w' g1 (A.map (Value.int .u64)) 43 ∧ Blk w' g2 (V.map (Value.int .u64)) 45 ∧ Below w.heap.size w w' := by
  refine (Gn.decode_any B hn).mono ?_
  rintro e w' ⟨v, rfl, G, BB⟩
  rw [if_pos h0, hg] at G
  rw [h0]
  obtain ⟨g1, g2, rfl, hy, X1, X2⟩ := gev G hA hV ha hv
  exact ⟨g1, g2, rfl, hy, X1, X2, BB⟩
theorem dec_bad {w : World} {b n c : Nat} {ao : Option Addr} {l : List Int} {er : Int} (B : ByA w b ao n c l) (hn : n ≤ 1000000000) (h0 : Gn.eD l = er) (he : er ≠ 0) : Calls Tryz.prog 8 #[.slice ao n c] w fun e w' => ∃ a1 m1 a2 m2, e = .returned (.tuple #[.agg #[.int .u64 0, .int .u64 0, .int .u64 0, .int .u64 0, .int .u64 0, .int .u64 0, .int .u64 0, .int .u64 0, .int .u64 0, .int .u64 0, .slice a1 m1 m1, .slice a2 m2 m2], .int .i64 er]) ∧ Below w.heap.size w w' := by
  refine (Gn.decode_any B hn).mono ?_
  rintro e w' ⟨v, rfl, G, BB⟩
  rw [if_neg (by rw [h0]; exact he)] at G
  rw [h0]
  obtain ⟨q0, q1, q2, q3, q4, q5, q6, q7, q8, q9, a1, m1, g1, a2, m2, g2, rfl, hp, L1, L2⟩ := G.ex
  have hp' : [0, 0, 0, 0, 0, 0, 0, 0, 0, 0] = [q0, q1, q2, q3, q4, q5, q6, q7, q8, q9] := hp
  cases hp'
  exact ⟨a1, m1, a2, m2, rfl, BB⟩
theorem enc_at {w : World} {p0 p1 p2 p3 p4 p5 p6 p7 p8 p9 : Int} {A V : List Int} {g1 g2 na nv c1 c2 : Nat} {L : List Int} {sp sq : List Value} (X1 : Blk w g1 (A.map (Value.int .u64) ++ sp) 43) (X2 : Blk w g2 (V.map (Value.int .u64) ++ sq) 45) (hL : Gn.bG ⟨[p0, p1, p2, p3, p4, p5, p6, p7, p8, p9], A, V⟩ na nv = L) (hA : A.length = na * 2 := by rfl) (hV : V.length = nv * 3 := by rfl) (rA : ∀ x ∈ A, Mg.In8 x := by unfold Mg.In8; decide) (rV : ∀ x ∈ V, Mg.In8 x := by unfold Mg.In8; decide) (ha : na ≤ 1000 := by decide) (hv : nv ≤ 1000 := by decide) (hl : L.length ≤ 1000000 := by decide) : Calls Tryz.prog 11 #[.agg #[.int .u64 p0, .int .u64 p1, .int .u64 p2, .int .u64 p3, .int .u64 p4, .int .u64 p5, .int .u64 p6, .int .u64 p7, .int .u64 p8, .int .u64 p9, .slice (some ⟨g1, 0, none⟩) na c1, .slice (some ⟨g2, 0, none⟩) nv c2]] w fun e w' => ∃ b, e = .returned (.slice (some ⟨b, 0, none⟩) L.length L.length) ∧ Blk w' b (L.map (Value.int .u8)) 5 ∧ w.heap.size ≤ b ∧ Below w.heap.size w w' := by
  subst hL
  refine (Gn.encode_any (nlb X1 hA rA) (nlb X2 hV rV) ha hv).mono ?_
  rintro e w' ⟨b, rfl, hb, Y, BB⟩
  exact ⟨b, rfl, ⟨Y.blk⟩, hb, BB⟩
theorem by_blk {w : World} {b : Nat} {L : List Int} (h : Blk w b (L.map (Value.int .u8)) 5) (ho : Octets L) (hl : L.length ≤ 1000000) : ByA w b (some ⟨b, 0, none⟩) L.length L.length L := Rc.box_bya ⟨h.blk⟩ rfl ho hl
theorem by_bm {w : World} {b m : Nat} {L : List Int} (h : Blk w b (L.map (Value.int .u8)) 5) (ho : Octets L) (hm : L.length = m) (hl : m ≤ 1000000 := by decide) : ByA w b (some ⟨b, 0, none⟩) m m L := by
  subst hm
  exact by_blk h ho hl
theorem enc_m {w : World} {p0 p1 p2 p3 p4 p5 p6 p7 p8 p9 : Int} {A V : List Int} {g1 g2 na nv c1 c2 m : Nat} {L : List Int} {sp sq : List Value} (X1 : Blk w g1 (A.map (Value.int .u64) ++ sp) 43) (X2 : Blk w g2 (V.map (Value.int .u64) ++ sq) 45) (hL : Gn.bG ⟨[p0, p1, p2, p3, p4, p5, p6, p7, p8, p9], A, V⟩ na nv = L) (hm : L.length = m) (hA : A.length = na * 2 := by rfl) (hV : V.length = nv * 3 := by rfl) (rA : ∀ x ∈ A, Mg.In8 x := by unfold Mg.In8; decide) (rV : ∀ x ∈ V, Mg.In8 x := by unfold Mg.In8; decide) (ha : na ≤ 1000 := by decide) (hv : nv ≤ 1000 := by decide) (hl : m ≤ 1000000 := by decide) : Calls Tryz.prog 11 #[.agg #[.int .u64 p0, .int .u64 p1, .int .u64 p2, .int .u64 p3, .int .u64 p4, .int .u64 p5, .int .u64 p6, .int .u64 p7, .int .u64 p8, .int .u64 p9, .slice (some ⟨g1, 0, none⟩) na c1, .slice (some ⟨g2, 0, none⟩) nv c2]] w fun e w' => ∃ b, e = .returned (.slice (some ⟨b, 0, none⟩) m m) ∧ Blk w' b (L.map (Value.int .u8)) 5 ∧ w.heap.size ≤ b ∧ Below w.heap.size w w' := by
  subst hm
  exact enc_at X1 X2 hL hA hV rA rV ha hv hl
theorem make_y {w : World} {b n c : Nat} {ao : Option Addr} {l : List Int} (A : ByA w b ao n c l) (hn : n ≤ 1000000000) (h0 : Gn.eD l = 0) (hg : Gn.gD l = ⟨[1, 1, 1, 0, 0, 0, 0, 0, 0, 16], [16, 100], [16, 500, 10]⟩) : Calls Tryz.prog 14 #[.slice ao n c] w fun e w' => ∃ g K' n' N' B, e = .returned (.tuple #[pg g, .int .i64 0]) ∧ Sx B w' K' g e16 [] n' N' ∧ n' ≤ 30000 ∧ N' ≤ 30000 ∧ w.heap.size ≤ B ∧ Below w.heap.size w w' := by
  have BB := Below.refl w.heap.size w
  refine gc_enter (n := 23) Tryz.func14 rfl (by kernel_rfl) (by kernel_rfl) ?_
  refine gc_seq ?_
  refine gc_reg ?_
  refine t 2 (.pointer none) ?_
  refine t 3 (.int .i64 0) ?_
  refine gl_nil ?_
  refine ge_then ?_
  refine gc_seq ?_
  refine gc_reg ?_
  refine t 7 (.slice ao n c) ?_
  refine tc 8 8 #[.slice ao n c] (dec_at (na := 1) (nv := 1) A hn h0 hg) ?_
  rintro _ v1 ⟨ba, bf, rfl, -, XA, XF, B⟩
  refine ⟨_, rfl, ?_⟩
  replace BB := joinB BB B
  clear B
  have zB := BB.size
  refine t 6 (.tuple #[.agg #[.int .u64 1, .int .u64 1, .int .u64 1, .int .u64 0, .int .u64 0, .int .u64 0, .int .u64 0, .int .u64 0, .int .u64 0, .int .u64 16, .slice (some ⟨ba, 0, none⟩) 1 1, .slice (some ⟨bf, 0, none⟩) 1 1], .int .i64 0]) ?_
  refine t 9 (.agg #[.int .u64 1, .int .u64 1, .int .u64 1, .int .u64 0, .int .u64 0, .int .u64 0, .int .u64 0, .int .u64 0, .int .u64 0, .int .u64 16, .slice (some ⟨ba, 0, none⟩) 1 1, .slice (some ⟨bf, 0, none⟩) 1 1]) ?_
  refine t 10 (.int .i64 0) ?_
  have lXA := XA.lt
  have lXF := XF.lt
  refine ta 4 [.int .u64 0, .int .u64 0, .int .u64 0, .int .u64 0, .int .u64 0, .int .u64 0, .int .u64 0, .int .u64 0, .int .u64 0, .int .u64 0, .slice none 0 0, .slice none 0 0] 28 (pg) ?_
  intro v2 g3 Xg3 hg3 B
  replace BB := joinB BB B
  replace XA := XA.keep B
  replace XF := XF.keep B
  clear B
  refine ts Xg3 0 (.agg #[.int .u64 1, .int .u64 1, .int .u64 1, .int .u64 0, .int .u64 0, .int .u64 0, .int .u64 0, .int .u64 0, .int .u64 0, .int .u64 16, .slice (some ⟨ba, 0, none⟩) 1 1, .slice (some ⟨bf, 0, none⟩) 1 1]) [.int .u64 1, .int .u64 1, .int .u64 1, .int .u64 0, .int .u64 0, .int .u64 0, .int .u64 0, .int .u64 0, .int .u64 0, .int .u64 16, .slice (some ⟨ba, 0, none⟩) 1 1, .slice (some ⟨bf, 0, none⟩) 1 1] [.int .u64 1, .int .u64 1, .int .u64 1, .int .u64 0, .int .u64 0, .int .u64 0, .int .u64 0, .int .u64 0, .int .u64 0, .int .u64 16, .slice (some ⟨ba, 0, none⟩) 1 1, .slice (some ⟨bf, 0, none⟩) 1 1] ?_
  intro v4 Y C
  replace BB := belowC BB C (by omega)
  replace XA := XA.chg C (show ba ≠ g3 by omega)
  replace XF := XF.chg C (show bf ≠ g3 by omega)
  clear C Xg3
  have Xg3 := Y
  clear Y
  refine t 5 (.int .i64 0) ?_
  refine gl_nil ?_
  refine ge_then ?_
  refine gc_seq ?_
  refine gc_seq ?_
  refine gc_reg ?_
  refine t 11 (.int .i64 0) ?_
  refine t 12 (.bool false) ?_
  refine gl_nil ?_
  refine ge_then ?_
  refine gc_fr [(2, .pointer none), (3, .int .i64 0), (4, pg g3), (5, .int .i64 0), (12, .bool false)] (by kernel_rfl) ?_
  refine gc_no ?_
  refine gc_skip ?_
  refine ge_then ?_
  refine gc_seq ?_
  refine gc_seq ?_
  refine gc_reg ?_
  refine tlr 14 [.int .u64 1, .int .u64 1, .int .u64 1, .int .u64 0, .int .u64 0, .int .u64 0, .int .u64 0, .int .u64 0, .int .u64 0, .int .u64 16, .slice (some ⟨ba, 0, none⟩) 1 1, .slice (some ⟨bf, 0, none⟩) 1 1] Xg3 0 ?_
  refine tc 15 37 #[.agg #[.int .u64 1, .int .u64 1, .int .u64 1, .int .u64 0, .int .u64 0, .int .u64 0, .int .u64 0, .int .u64 0, .int .u64 0, .int .u64 16, .slice (some ⟨ba, 0, none⟩) 1 1, .slice (some ⟨bf, 0, none⟩) 1 1]] (fault_16 XA XF) ?_
  rintro _ v5 ⟨rfl, B⟩
  refine ⟨_, rfl, ?_⟩
  replace BB := joinB BB B
  replace XA := XA.keep B
  replace XF := XF.keep B
  replace Xg3 := Xg3.keep B
  clear B
  refine t 5 (.int .i64 0) ?_
  refine gl_nil ?_
  refine ge_then ?_
  refine gc_seq ?_
  refine gc_reg ?_
  refine t 16 (.int .i64 0) ?_
  refine t 17 (.bool false) ?_
  refine gl_nil ?_
  refine ge_then ?_
  refine gc_no ?_
  refine gc_skip ?_
  refine ge_then ?_
  refine gc_seq ?_
  refine gc_reg ?_
  refine tlr 19 [.int .u64 1, .int .u64 1, .int .u64 1, .int .u64 0, .int .u64 0, .int .u64 0, .int .u64 0, .int .u64 0, .int .u64 0, .int .u64 16, .slice (some ⟨ba, 0, none⟩) 1 1, .slice (some ⟨bf, 0, none⟩) 1 1] Xg3 0 ?_
  have zA := BB.size
  refine tc 20 38 #[.agg #[.int .u64 1, .int .u64 1, .int .u64 1, .int .u64 0, .int .u64 0, .int .u64 0, .int .u64 0, .int .u64 0, .int .u64 0, .int .u64 16, .slice (some ⟨ba, 0, none⟩) 1 1, .slice (some ⟨bf, 0, none⟩) 1 1]] (begin_y XA XF) ?_
  rintro _ v6 ⟨g, K', n', N', B', rfl, S, q1, q2, q3, B⟩
  refine ⟨_, rfl, ?_⟩
  replace BB := joinB BB B
  replace XA := XA.keep B
  replace XF := XF.keep B
  replace Xg3 := Xg3.keep B
  clear B
  refine t 21 (pg g) ?_
  refine t 22 (.int .i64 0) ?_
  refine t 2 (pg g) ?_
  refine t 3 (.int .i64 0) ?_
  refine gl_nil ?_
  refine ge_then ?_
  refine gc_ret ?_
  refine ge_ret (.tuple #[pg g, .int .i64 0]) (rs2 2 3 (by kernel_rfl) (by kernel_rfl) (by kernel_rfl)) ?_
  exact ⟨g, K', n', N', B', rfl, S, q1, q2, by omega, BB⟩
theorem make_n {w : World} {b n c : Nat} {ao : Option Addr} {l : List Int} (A : ByA w b ao n c l) (hn : n ≤ 1000000000) (h0 : Gn.eD l = 0) (hg : Gn.gD l = ⟨[1, 1, 1, 0, 0, 0, 0, 0, 0, 16], [16, 100], [17, 500, 10]⟩) : Calls Tryz.prog 14 #[.slice ao n c] w fun e w' => e = .returned (.tuple #[.pointer none, .int .i64 215]) ∧ Below w.heap.size w w' := by
  have BB := Below.refl w.heap.size w
  refine gc_enter (n := 23) Tryz.func14 rfl (by kernel_rfl) (by kernel_rfl) ?_
  refine gc_seq ?_
  refine gc_reg ?_
  refine t 2 (.pointer none) ?_
  refine t 3 (.int .i64 0) ?_
  refine gl_nil ?_
  refine ge_then ?_
  refine gc_seq ?_
  refine gc_reg ?_
  refine t 7 (.slice ao n c) ?_
  refine tc 8 8 #[.slice ao n c] (dec_at (na := 1) (nv := 1) A hn h0 hg) ?_
  rintro _ v1 ⟨ba, bf, rfl, -, XA, XF, B⟩
  refine ⟨_, rfl, ?_⟩
  replace BB := joinB BB B
  clear B
  have zB := BB.size
  refine t 6 (.tuple #[.agg #[.int .u64 1, .int .u64 1, .int .u64 1, .int .u64 0, .int .u64 0, .int .u64 0, .int .u64 0, .int .u64 0, .int .u64 0, .int .u64 16, .slice (some ⟨ba, 0, none⟩) 1 1, .slice (some ⟨bf, 0, none⟩) 1 1], .int .i64 0]) ?_
  refine t 9 (.agg #[.int .u64 1, .int .u64 1, .int .u64 1, .int .u64 0, .int .u64 0, .int .u64 0, .int .u64 0, .int .u64 0, .int .u64 0, .int .u64 16, .slice (some ⟨ba, 0, none⟩) 1 1, .slice (some ⟨bf, 0, none⟩) 1 1]) ?_
  refine t 10 (.int .i64 0) ?_
  have lXA := XA.lt
  have lXF := XF.lt
  refine ta 4 [.int .u64 0, .int .u64 0, .int .u64 0, .int .u64 0, .int .u64 0, .int .u64 0, .int .u64 0, .int .u64 0, .int .u64 0, .int .u64 0, .slice none 0 0, .slice none 0 0] 28 (pg) ?_
  intro v2 g3 Xg3 hg3 B
  replace BB := joinB BB B
  replace XA := XA.keep B
  replace XF := XF.keep B
  clear B
  refine ts Xg3 0 (.agg #[.int .u64 1, .int .u64 1, .int .u64 1, .int .u64 0, .int .u64 0, .int .u64 0, .int .u64 0, .int .u64 0, .int .u64 0, .int .u64 16, .slice (some ⟨ba, 0, none⟩) 1 1, .slice (some ⟨bf, 0, none⟩) 1 1]) [.int .u64 1, .int .u64 1, .int .u64 1, .int .u64 0, .int .u64 0, .int .u64 0, .int .u64 0, .int .u64 0, .int .u64 0, .int .u64 16, .slice (some ⟨ba, 0, none⟩) 1 1, .slice (some ⟨bf, 0, none⟩) 1 1] [.int .u64 1, .int .u64 1, .int .u64 1, .int .u64 0, .int .u64 0, .int .u64 0, .int .u64 0, .int .u64 0, .int .u64 0, .int .u64 16, .slice (some ⟨ba, 0, none⟩) 1 1, .slice (some ⟨bf, 0, none⟩) 1 1] ?_
  intro v4 Y C
  replace BB := belowC BB C (by omega)
  replace XA := XA.chg C (show ba ≠ g3 by omega)
  replace XF := XF.chg C (show bf ≠ g3 by omega)
  clear C Xg3
  have Xg3 := Y
  clear Y
  refine t 5 (.int .i64 0) ?_
  refine gl_nil ?_
  refine ge_then ?_
  refine gc_seq ?_
  refine gc_seq ?_
  refine gc_reg ?_
  refine t 11 (.int .i64 0) ?_
  refine t 12 (.bool false) ?_
  refine gl_nil ?_
  refine ge_then ?_
  refine gc_fr [(2, .pointer none), (3, .int .i64 0), (4, pg g3), (5, .int .i64 0), (12, .bool false)] (by kernel_rfl) ?_
  refine gc_no ?_
  refine gc_skip ?_
  refine ge_then ?_
  refine gc_seq ?_
  refine gc_seq ?_
  refine gc_reg ?_
  refine tlr 14 [.int .u64 1, .int .u64 1, .int .u64 1, .int .u64 0, .int .u64 0, .int .u64 0, .int .u64 0, .int .u64 0, .int .u64 0, .int .u64 16, .slice (some ⟨ba, 0, none⟩) 1 1, .slice (some ⟨bf, 0, none⟩) 1 1] Xg3 0 ?_
  refine tc 15 37 #[.agg #[.int .u64 1, .int .u64 1, .int .u64 1, .int .u64 0, .int .u64 0, .int .u64 0, .int .u64 0, .int .u64 0, .int .u64 0, .int .u64 16, .slice (some ⟨ba, 0, none⟩) 1 1, .slice (some ⟨bf, 0, none⟩) 1 1]] (fault_17 XA XF) ?_
  rintro _ v5 ⟨rfl, B⟩
  refine ⟨_, rfl, ?_⟩
  replace BB := joinB BB B
  replace XA := XA.keep B
  replace XF := XF.keep B
  replace Xg3 := Xg3.keep B
  clear B
  refine t 5 (.int .i64 0) ?_
  refine gl_nil ?_
  refine ge_then ?_
  refine gc_seq ?_
  refine gc_reg ?_
  refine t 16 (.int .i64 0) ?_
  refine t 17 (.bool false) ?_
  refine gl_nil ?_
  refine ge_then ?_
  refine gc_no ?_
  refine gc_skip ?_
  refine ge_then ?_
  refine gc_seq ?_
  refine gc_reg ?_
  refine tlr 19 [.int .u64 1, .int .u64 1, .int .u64 1, .int .u64 0, .int .u64 0, .int .u64 0, .int .u64 0, .int .u64 0, .int .u64 0, .int .u64 16, .slice (some ⟨ba, 0, none⟩) 1 1, .slice (some ⟨bf, 0, none⟩) 1 1] Xg3 0 ?_
  refine tc 20 38 #[.agg #[.int .u64 1, .int .u64 1, .int .u64 1, .int .u64 0, .int .u64 0, .int .u64 0, .int .u64 0, .int .u64 0, .int .u64 0, .int .u64 16, .slice (some ⟨ba, 0, none⟩) 1 1, .slice (some ⟨bf, 0, none⟩) 1 1]] (begin_n XA XF) ?_
  rintro _ v6 ⟨rfl, B⟩
  refine ⟨_, rfl, ?_⟩
  replace BB := joinB BB B
  replace XA := XA.keep B
  replace XF := XF.keep B
  replace Xg3 := Xg3.keep B
  clear B
  refine t 21 (.pointer none) ?_
  refine t 22 (.int .i64 215) ?_
  refine t 2 (.pointer none) ?_
  refine t 3 (.int .i64 215) ?_
  refine gl_nil ?_
  refine ge_then ?_
  refine gc_ret ?_
  refine ge_ret (.tuple #[.pointer none, .int .i64 215]) (rs2 2 3 (by kernel_rfl) (by kernel_rfl) (by kernel_rfl)) ?_
  exact ⟨rfl, BB⟩
theorem make_a {w : World} {b n c : Nat} {ao : Option Addr} {l : List Int} (A : ByA w b ao n c l) (hn : n ≤ 1000000000) (h0 : Gn.eD l = 0) (hg : Gn.gD l = ⟨[1, 1, 1, 0, 0, 0, 0, 0, 0, 16], [16, 100, 16, 100], [17, 500, 10]⟩) : Calls Tryz.prog 14 #[.slice ao n c] w fun e w' => e = .returned (.tuple #[.pointer none, .int .i64 213]) ∧ Below w.heap.size w w' := by
  have BB := Below.refl w.heap.size w
  refine gc_enter (n := 23) Tryz.func14 rfl (by kernel_rfl) (by kernel_rfl) ?_
  refine gc_seq ?_
  refine gc_reg ?_
  refine t 2 (.pointer none) ?_
  refine t 3 (.int .i64 0) ?_
  refine gl_nil ?_
  refine ge_then ?_
  refine gc_seq ?_
  refine gc_reg ?_
  refine t 7 (.slice ao n c) ?_
  refine tc 8 8 #[.slice ao n c] (dec_at (na := 2) (nv := 1) A hn h0 hg) ?_
  rintro _ v1 ⟨ba, bf, rfl, -, XA, XF, B⟩
  refine ⟨_, rfl, ?_⟩
  replace BB := joinB BB B
  clear B
  have zB := BB.size
  refine t 6 (.tuple #[.agg #[.int .u64 1, .int .u64 1, .int .u64 1, .int .u64 0, .int .u64 0, .int .u64 0, .int .u64 0, .int .u64 0, .int .u64 0, .int .u64 16, .slice (some ⟨ba, 0, none⟩) 2 2, .slice (some ⟨bf, 0, none⟩) 1 1], .int .i64 0]) ?_
  refine t 9 (.agg #[.int .u64 1, .int .u64 1, .int .u64 1, .int .u64 0, .int .u64 0, .int .u64 0, .int .u64 0, .int .u64 0, .int .u64 0, .int .u64 16, .slice (some ⟨ba, 0, none⟩) 2 2, .slice (some ⟨bf, 0, none⟩) 1 1]) ?_
  refine t 10 (.int .i64 0) ?_
  have lXA := XA.lt
  have lXF := XF.lt
  refine ta 4 [.int .u64 0, .int .u64 0, .int .u64 0, .int .u64 0, .int .u64 0, .int .u64 0, .int .u64 0, .int .u64 0, .int .u64 0, .int .u64 0, .slice none 0 0, .slice none 0 0] 28 (pg) ?_
  intro v2 g3 Xg3 hg3 B
  replace BB := joinB BB B
  replace XA := XA.keep B
  replace XF := XF.keep B
  clear B
  refine ts Xg3 0 (.agg #[.int .u64 1, .int .u64 1, .int .u64 1, .int .u64 0, .int .u64 0, .int .u64 0, .int .u64 0, .int .u64 0, .int .u64 0, .int .u64 16, .slice (some ⟨ba, 0, none⟩) 2 2, .slice (some ⟨bf, 0, none⟩) 1 1]) [.int .u64 1, .int .u64 1, .int .u64 1, .int .u64 0, .int .u64 0, .int .u64 0, .int .u64 0, .int .u64 0, .int .u64 0, .int .u64 16, .slice (some ⟨ba, 0, none⟩) 2 2, .slice (some ⟨bf, 0, none⟩) 1 1] [.int .u64 1, .int .u64 1, .int .u64 1, .int .u64 0, .int .u64 0, .int .u64 0, .int .u64 0, .int .u64 0, .int .u64 0, .int .u64 16, .slice (some ⟨ba, 0, none⟩) 2 2, .slice (some ⟨bf, 0, none⟩) 1 1] ?_
  intro v4 Y C
  replace BB := belowC BB C (by omega)
  replace XA := XA.chg C (show ba ≠ g3 by omega)
  replace XF := XF.chg C (show bf ≠ g3 by omega)
  clear C Xg3
  have Xg3 := Y
  clear Y
  refine t 5 (.int .i64 0) ?_
  refine gl_nil ?_
  refine ge_then ?_
  refine gc_seq ?_
  refine gc_seq ?_
  refine gc_reg ?_
  refine t 11 (.int .i64 0) ?_
  refine t 12 (.bool false) ?_
  refine gl_nil ?_
  refine ge_then ?_
  refine gc_fr [(2, .pointer none), (3, .int .i64 0), (4, pg g3), (5, .int .i64 0), (12, .bool false)] (by kernel_rfl) ?_
  refine gc_no ?_
  refine gc_skip ?_
  refine ge_then ?_
  refine gc_seq ?_
  refine gc_seq ?_
  refine gc_reg ?_
  refine tlr 14 [.int .u64 1, .int .u64 1, .int .u64 1, .int .u64 0, .int .u64 0, .int .u64 0, .int .u64 0, .int .u64 0, .int .u64 0, .int .u64 16, .slice (some ⟨ba, 0, none⟩) 2 2, .slice (some ⟨bf, 0, none⟩) 1 1] Xg3 0 ?_
  refine tc 15 37 #[.agg #[.int .u64 1, .int .u64 1, .int .u64 1, .int .u64 0, .int .u64 0, .int .u64 0, .int .u64 0, .int .u64 0, .int .u64 0, .int .u64 16, .slice (some ⟨ba, 0, none⟩) 2 2, .slice (some ⟨bf, 0, none⟩) 1 1]] (fault_a XA) ?_
  rintro _ v5 ⟨rfl, B⟩
  refine ⟨_, rfl, ?_⟩
  replace BB := joinB BB B
  replace XA := XA.keep B
  replace XF := XF.keep B
  replace Xg3 := Xg3.keep B
  clear B
  refine t 5 (.int .i64 213) ?_
  refine gl_nil ?_
  refine ge_then ?_
  refine gc_seq ?_
  refine gc_reg ?_
  refine t 16 (.int .i64 213) ?_
  refine t 17 (.bool true) ?_
  refine gl_nil ?_
  refine ge_then ?_
  refine gc_yes ?_
  refine gc_seq ?_
  refine gc_reg ?_
  refine t 18 (.int .i64 213) ?_
  refine t 2 (.pointer none) ?_
  refine t 3 (.int .i64 213) ?_
  refine gl_nil ?_
  refine ge_then ?_
  refine gc_ret ?_
  refine ge_tr ?_
  refine ge_ret (.tuple #[.pointer none, .int .i64 213]) (rs2 2 3 (by kernel_rfl) (by kernel_rfl) (by kernel_rfl)) ?_
  exact ⟨rfl, BB⟩
theorem make_p {w : World} {b n c : Nat} {ao : Option Addr} {l : List Int} (A : ByA w b ao n c l) (hn : n ≤ 1000000000) (h0 : Gn.eD l = 0) (hg : Gn.gD l = ⟨[0, 1, 1, 0, 0, 0, 0, 0, 0, 16], [16, 100, 16, 100], [17, 500, 10]⟩) : Calls Tryz.prog 14 #[.slice ao n c] w fun e w' => e = .returned (.tuple #[.pointer none, .int .i64 212]) ∧ Below w.heap.size w w' := by
  have BB := Below.refl w.heap.size w
  refine gc_enter (n := 23) Tryz.func14 rfl (by kernel_rfl) (by kernel_rfl) ?_
  refine gc_seq ?_
  refine gc_reg ?_
  refine t 2 (.pointer none) ?_
  refine t 3 (.int .i64 0) ?_
  refine gl_nil ?_
  refine ge_then ?_
  refine gc_seq ?_
  refine gc_reg ?_
  refine t 7 (.slice ao n c) ?_
  refine tc 8 8 #[.slice ao n c] (dec_at (na := 2) (nv := 1) A hn h0 hg) ?_
  rintro _ v1 ⟨ba, bf, rfl, -, XA, XF, B⟩
  refine ⟨_, rfl, ?_⟩
  replace BB := joinB BB B
  clear B
  have zB := BB.size
  refine t 6 (.tuple #[.agg #[.int .u64 0, .int .u64 1, .int .u64 1, .int .u64 0, .int .u64 0, .int .u64 0, .int .u64 0, .int .u64 0, .int .u64 0, .int .u64 16, .slice (some ⟨ba, 0, none⟩) 2 2, .slice (some ⟨bf, 0, none⟩) 1 1], .int .i64 0]) ?_
  refine t 9 (.agg #[.int .u64 0, .int .u64 1, .int .u64 1, .int .u64 0, .int .u64 0, .int .u64 0, .int .u64 0, .int .u64 0, .int .u64 0, .int .u64 16, .slice (some ⟨ba, 0, none⟩) 2 2, .slice (some ⟨bf, 0, none⟩) 1 1]) ?_
  refine t 10 (.int .i64 0) ?_
  have lXA := XA.lt
  have lXF := XF.lt
  refine ta 4 [.int .u64 0, .int .u64 0, .int .u64 0, .int .u64 0, .int .u64 0, .int .u64 0, .int .u64 0, .int .u64 0, .int .u64 0, .int .u64 0, .slice none 0 0, .slice none 0 0] 28 (pg) ?_
  intro v2 g3 Xg3 hg3 B
  replace BB := joinB BB B
  replace XA := XA.keep B
  replace XF := XF.keep B
  clear B
  refine ts Xg3 0 (.agg #[.int .u64 0, .int .u64 1, .int .u64 1, .int .u64 0, .int .u64 0, .int .u64 0, .int .u64 0, .int .u64 0, .int .u64 0, .int .u64 16, .slice (some ⟨ba, 0, none⟩) 2 2, .slice (some ⟨bf, 0, none⟩) 1 1]) [.int .u64 0, .int .u64 1, .int .u64 1, .int .u64 0, .int .u64 0, .int .u64 0, .int .u64 0, .int .u64 0, .int .u64 0, .int .u64 16, .slice (some ⟨ba, 0, none⟩) 2 2, .slice (some ⟨bf, 0, none⟩) 1 1] [.int .u64 0, .int .u64 1, .int .u64 1, .int .u64 0, .int .u64 0, .int .u64 0, .int .u64 0, .int .u64 0, .int .u64 0, .int .u64 16, .slice (some ⟨ba, 0, none⟩) 2 2, .slice (some ⟨bf, 0, none⟩) 1 1] ?_
  intro v4 Y C
  replace BB := belowC BB C (by omega)
  replace XA := XA.chg C (show ba ≠ g3 by omega)
  replace XF := XF.chg C (show bf ≠ g3 by omega)
  clear C Xg3
  have Xg3 := Y
  clear Y
  refine t 5 (.int .i64 0) ?_
  refine gl_nil ?_
  refine ge_then ?_
  refine gc_seq ?_
  refine gc_seq ?_
  refine gc_reg ?_
  refine t 11 (.int .i64 0) ?_
  refine t 12 (.bool false) ?_
  refine gl_nil ?_
  refine ge_then ?_
  refine gc_fr [(2, .pointer none), (3, .int .i64 0), (4, pg g3), (5, .int .i64 0), (12, .bool false)] (by kernel_rfl) ?_
  refine gc_no ?_
  refine gc_skip ?_
  refine ge_then ?_
  refine gc_seq ?_
  refine gc_seq ?_
  refine gc_reg ?_
  refine tlr 14 [.int .u64 0, .int .u64 1, .int .u64 1, .int .u64 0, .int .u64 0, .int .u64 0, .int .u64 0, .int .u64 0, .int .u64 0, .int .u64 16, .slice (some ⟨ba, 0, none⟩) 2 2, .slice (some ⟨bf, 0, none⟩) 1 1] Xg3 0 ?_
  refine tc 15 37 #[.agg #[.int .u64 0, .int .u64 1, .int .u64 1, .int .u64 0, .int .u64 0, .int .u64 0, .int .u64 0, .int .u64 0, .int .u64 0, .int .u64 16, .slice (some ⟨ba, 0, none⟩) 2 2, .slice (some ⟨bf, 0, none⟩) 1 1]] (fault_p) ?_
  rintro _ v5 ⟨rfl, B⟩
  refine ⟨_, rfl, ?_⟩
  replace BB := joinB BB B
  replace XA := XA.keep B
  replace XF := XF.keep B
  replace Xg3 := Xg3.keep B
  clear B
  refine t 5 (.int .i64 212) ?_
  refine gl_nil ?_
  refine ge_then ?_
  refine gc_seq ?_
  refine gc_reg ?_
  refine t 16 (.int .i64 212) ?_
  refine t 17 (.bool true) ?_
  refine gl_nil ?_
  refine ge_then ?_
  refine gc_yes ?_
  refine gc_seq ?_
  refine gc_reg ?_
  refine t 18 (.int .i64 212) ?_
  refine t 2 (.pointer none) ?_
  refine t 3 (.int .i64 212) ?_
  refine gl_nil ?_
  refine ge_then ?_
  refine gc_ret ?_
  refine ge_tr ?_
  refine ge_ret (.tuple #[.pointer none, .int .i64 212]) (rs2 2 3 (by kernel_rfl) (by kernel_rfl) (by kernel_rfl)) ?_
  exact ⟨rfl, BB⟩
theorem make_d {w : World} {b n c : Nat} {ao : Option Addr} {l : List Int} (A : ByA w b ao n c l) (hn : n ≤ 1000000000) (h0 : Gn.eD l = 210) : Calls Tryz.prog 14 #[.slice ao n c] w fun e w' => e = .returned (.tuple #[.pointer none, .int .i64 210]) ∧ Below w.heap.size w w' := by
  have BB := Below.refl w.heap.size w
  refine gc_enter (n := 23) Tryz.func14 rfl (by kernel_rfl) (by kernel_rfl) ?_
  refine gc_seq ?_
  refine gc_reg ?_
  refine t 2 (.pointer none) ?_
  refine t 3 (.int .i64 0) ?_
  refine gl_nil ?_
  refine ge_then ?_
  refine gc_seq ?_
  refine gc_reg ?_
  refine t 7 (.slice ao n c) ?_
  refine tc 8 8 #[.slice ao n c] (dec_bad A hn h0 (by decide)) ?_
  rintro _ v1 ⟨a1, m1, a2, m2, rfl, B⟩
  refine ⟨_, rfl, ?_⟩
  replace BB := joinB BB B
  clear B
  have zB := BB.size
  refine t 6 (.tuple #[.agg #[.int .u64 0, .int .u64 0, .int .u64 0, .int .u64 0, .int .u64 0, .int .u64 0, .int .u64 0, .int .u64 0, .int .u64 0, .int .u64 0, .slice a1 m1 m1, .slice a2 m2 m2], .int .i64 210]) ?_
  refine t 9 (.agg #[.int .u64 0, .int .u64 0, .int .u64 0, .int .u64 0, .int .u64 0, .int .u64 0, .int .u64 0, .int .u64 0, .int .u64 0, .int .u64 0, .slice a1 m1 m1, .slice a2 m2 m2]) ?_
  refine t 10 (.int .i64 210) ?_
  refine ta 4 [.int .u64 0, .int .u64 0, .int .u64 0, .int .u64 0, .int .u64 0, .int .u64 0, .int .u64 0, .int .u64 0, .int .u64 0, .int .u64 0, .slice none 0 0, .slice none 0 0] 28 (pg) ?_
  intro v2 g3 Xg3 hg3 B
  replace BB := joinB BB B
  clear B
  refine ts Xg3 0 (.agg #[.int .u64 0, .int .u64 0, .int .u64 0, .int .u64 0, .int .u64 0, .int .u64 0, .int .u64 0, .int .u64 0, .int .u64 0, .int .u64 0, .slice a1 m1 m1, .slice a2 m2 m2]) [.int .u64 0, .int .u64 0, .int .u64 0, .int .u64 0, .int .u64 0, .int .u64 0, .int .u64 0, .int .u64 0, .int .u64 0, .int .u64 0, .slice a1 m1 m1, .slice a2 m2 m2] [.int .u64 0, .int .u64 0, .int .u64 0, .int .u64 0, .int .u64 0, .int .u64 0, .int .u64 0, .int .u64 0, .int .u64 0, .int .u64 0, .slice a1 m1 m1, .slice a2 m2 m2] ?_
  intro v4 Y C
  replace BB := belowC BB C (by omega)
  clear C Xg3
  have Xg3 := Y
  clear Y
  refine t 5 (.int .i64 210) ?_
  refine gl_nil ?_
  refine ge_then ?_
  refine gc_seq ?_
  refine gc_seq ?_
  refine gc_reg ?_
  refine t 11 (.int .i64 210) ?_
  refine t 12 (.bool true) ?_
  refine gl_nil ?_
  refine ge_then ?_
  refine gc_fr [(2, .pointer none), (3, .int .i64 0), (4, pg g3), (5, .int .i64 210), (12, .bool true)] (by kernel_rfl) ?_
  refine gc_yes ?_
  refine gc_seq ?_
  refine gc_reg ?_
  refine t 13 (.int .i64 210) ?_
  refine t 2 (.pointer none) ?_
  refine t 3 (.int .i64 210) ?_
  refine gl_nil ?_
  refine ge_then ?_
  refine gc_ret ?_
  refine ge_tr ?_
  refine ge_ret (.tuple #[.pointer none, .int .i64 210]) (rs2 2 3 (by kernel_rfl) (by kernel_rfl) (by kernel_rfl)) ?_
  exact ⟨rfl, BB⟩
end Fo
end Go.Proofs.YtpoifdokmjhclaaGreat
