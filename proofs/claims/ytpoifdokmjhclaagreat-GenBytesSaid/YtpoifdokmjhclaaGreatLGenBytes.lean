/- gleanlaw21.GenBytes. -/
import Derived.Test.YtpoifdokmjhclaaGreatJys
import Derived.Test.YtpoifdokmjhclaaGreatJyM
namespace Go.Proofs.YtpoifdokmjhclaaGreat
namespace Gn
open Go.RowKit Go.Lib Pg Lim Gl Mg
attribute [local go_sem] Oper.semAt_some
set_option maxRecDepth 100000
set_option linter.unusedVariables false
set_option linter.unusedSimpArgs false
set_option maxHeartbeats 2000000
theorem dec21 {w : World} {b n c : Nat} {ao : Option Addr} {l : List Int} (A : ByA w b ao n c l) (hn : n ≤ 1000000000) : Calls Tryz.prog 8 #[.slice ao n c] w fun e w' => ∃ p0 p1 p2 p3 p4 p5 p6 p7 p8 p9 a1 m1 g1 a2 m2 g2 A V, e = .returned (.tuple #[.agg #[.int .u64 p0, .int .u64 p1, .int .u64 p2, .int .u64 p3, .int .u64 p4, .int .u64 p5, .int .u64 p6, .int .u64 p7, .int .u64 p8, .int .u64 p9, .slice a1 m1 m1, .slice a2 m2 m2], .int .i64 (eD l)]) ∧ (⟨[p0, p1, p2, p3, p4, p5, p6, p7, p8, p9], A, V⟩ : Ge) = (if eD l = 0 then gD l else zG) ∧ Nl w' a1 m1 2 g1 0 A ∧ Nl w' a2 m2 3 g2 0 V ∧ m1 ≤ 256 ∧ m2 ≤ 64 ∧ Below w.heap.size w w' := by
  have ho : Octets l := by_o A
  refine (decode_any A hn).mono ?_
  rintro e w' ⟨v, rfl, G, BB⟩
  obtain ⟨p0, p1, p2, p3, p4, p5, p6, p7, p8, p9, a1, m1, g1, a2, m2, g2, rfl, hp, L1, L2⟩ := G.ex
  by_cases h0 : eD l = 0
  · rw [if_pos h0] at hp L1 L2 ⊢
    obtain ⟨na, nv, h1, h2, ok, hb, -, -⟩ := d_fwd ho h0
    have e1 := L1.len
    have e2 := L2.len
    have e3 := ok.a
    have e4 := ok.v
    exact ⟨p0, p1, p2, p3, p4, p5, p6, p7, p8, p9, a1, m1, g1, a2, m2, g2, (gD l).a, (gD l).v, rfl, by rw [← hp], L1.nl ok.ra, L2.nl ok.rv, by omega, by omega, BB⟩
  · rw [if_neg h0] at hp L1 L2 ⊢
    have e1 := L1.len
    have e2 := L2.len
    simp only [zG, List.length_nil] at e1 e2
    exact ⟨p0, p1, p2, p3, p4, p5, p6, p7, p8, p9, a1, m1, g1, a2, m2, g2, [], [], rfl, by rw [← hp]; rfl, L1.nl (fun _ h => absurd h List.not_mem_nil), L2.nl (fun _ h => absurd h List.not_mem_nil), by omega, by omega, BB⟩
theorem rdec_of {w : World} {b n c m1 m2 : Nat} {ao : Option Addr} {l A V : List Int} {p0 p1 p2 p3 p4 p5 p6 p7 p8 p9 : Int} (H : ByA w b ao n c l) (hn : n ≤ 1000000000) (hX : (⟨[p0, p1, p2, p3, p4, p5, p6, p7, p8, p9], A, V⟩ : Ge) = (if eD l = 0 then gD l else zG)) (hA : A.length = m1 * 2) (hV : V.length = m2 * 3) : Calls Tryz.prog 9 #[.slice ao n c] w fun e w' => ∃ a3 c3 g3 a4 c4 g4, e = .returned (.tuple #[.agg #[.int .u64 p0, .int .u64 p1, .int .u64 p2, .int .u64 p3, .int .u64 p4, .int .u64 p5, .int .u64 p6, .int .u64 p7, .int .u64 p8, .int .u64 p9, .slice a3 m1 c3, .slice a4 m2 c4], .int .i64 (eD l)]) ∧ Nl w' a3 m1 2 g3 0 A ∧ Nl w' a4 m2 3 g4 0 V ∧ Below w.heap.size w w' := by
  refine (rdec21 H hn).mono ?_
  rintro e w' ⟨q0, q1, q2, q3, q4, q5, q6, q7, q8, q9, a1, k1, c1, g1, a2, k2, c2, g2, A2, V2, rfl, hY, N1, N2, -, -, BB⟩
  have hh := hX.trans hY.symm
  cases hh
  have e1 := N1.len
  have e2 := N2.len
  obtain rfl : m1 = k1 := by omega
  obtain rfl : m2 = k2 := by omega
  exact ⟨a1, c1, g1, a2, c2, g2, rfl, N1, N2, BB⟩
theorem cp_n {w : World} {b n c : Nat} {ao : Option Addr} {l : List Int} (H : ByA w b ao n c l) (hn : n ≤ 1000000000) : Calls Tryz.prog 7 #[.slice ao n c] w fun e w' => ∃ b' a' c', e = .returned (.slice a' n c') ∧ ByA w' b' a' n c' l ∧ Below w.heap.size w w' := by
  obtain ⟨o, h1, h2, h3, h4, h5⟩ := H.ex
  refine (copyBytes_any ao n c b o l w h1 (by omega) h3.2 h5).mono ?_
  rintro e w' ⟨v, rfl, M, B⟩
  obtain ⟨b', a', c', rfl, -, A⟩ := M.bya h4
  subst h1
  exact ⟨b', a', c', rfl, A, B⟩
theorem enc_b {w : World} {p0 p1 p2 p3 p4 p5 p6 p7 p8 p9 : Int} {A V : List Int} {a1 a2 : Option Addr} {na nv c1 c2 b1 o1 b2 o2 m : Nat} (N1 : Nl w a1 na 2 b1 o1 A) (N2 : Nl w a2 nv 3 b2 o2 V) (ha : na ≤ 1000) (hv : nv ≤ 1000) (hm : (bG ⟨[p0, p1, p2, p3, p4, p5, p6, p7, p8, p9], A, V⟩ na nv).length = m) (hm6 : m ≤ 1000000) : Calls Tryz.prog 11 #[.agg #[.int .u64 p0, .int .u64 p1, .int .u64 p2, .int .u64 p3, .int .u64 p4, .int .u64 p5, .int .u64 p6, .int .u64 p7, .int .u64 p8, .int .u64 p9, .slice a1 na c1, .slice a2 nv c2]] w fun e w' => ∃ b', e = .returned (.slice (some ⟨b', 0, none⟩) m m) ∧ ByA w' b' (some ⟨b', 0, none⟩) m m (bG ⟨[p0, p1, p2, p3, p4, p5, p6, p7, p8, p9], A, V⟩ na nv) ∧ Below w.heap.size w w' := by
  subst hm
  refine (encode_any N1 N2 ha hv).mono ?_
  rintro e w' ⟨b, rfl, hb, Y, BB⟩
  exact ⟨b, rfl, blk_bya ⟨Y.blk⟩ (bG_oct _ _ _) hm6, BB⟩
theorem renc_b {w : World} {p0 p1 p2 p3 p4 p5 p6 p7 p8 p9 : Int} {A V : List Int} {a1 a2 : Option Addr} {na nv c1 c2 b1 o1 b2 o2 m : Nat} (N1 : Nl w a1 na 2 b1 o1 A) (N2 : Nl w a2 nv 3 b2 o2 V) (ha : na ≤ 1000) (hv : nv ≤ 1000) (hm : (bG ⟨[p0, p1, p2, p3, p4, p5, p6, p7, p8, p9], A, V⟩ na nv).length = m) : Calls Tryz.prog 12 #[.agg #[.int .u64 p0, .int .u64 p1, .int .u64 p2, .int .u64 p3, .int .u64 p4, .int .u64 p5, .int .u64 p6, .int .u64 p7, .int .u64 p8, .int .u64 p9, .slice a1 na c1, .slice a2 nv c2]] w fun e w' => ∃ b' a' c', e = .returned (.slice a' m c') ∧ ByA w' b' a' m c' (bG ⟨[p0, p1, p2, p3, p4, p5, p6, p7, p8, p9], A, V⟩ na nv) ∧ Below w.heap.size w w' := by
  subst hm
  refine (renc21 N1 N2 ha hv).mono ?_
  rintro e w' ⟨v, rfl, M, BB⟩
  obtain ⟨b', a', c', rfl, -, A⟩ := M.bya (bG_oct _ _ _)
  exact ⟨b', a', c', rfl, A, BB⟩
theorem byC2 {w w' : World} {b n c g : Nat} {ao : Option Addr} {l : List Int} (A : ByA w b ao n c l) (C : Chg (· = g) w w') (h : ¬ l = [] → b ≠ g) : ByA w' b ao n c l := by
  obtain ⟨o, h1, h2, h3, h4, h5⟩ := A.ex
  refine ⟨o, h1, h2, h3, h4, h5.loc, fun i hi => ?_⟩
  have hc := h5.cell i hi
  rw [World.cell?_of_block (w := w) (C.same b (cell_lt hc) (h fun e => by rw [e] at hi; simp at hi))]
  exact hc
theorem castB {w : World} {P : Nat} {args : Array Value} {b b' : Bool} (h : Calls Tryz.prog P args w fun e w' => e = .returned (.bool b) ∧ Below w.heap.size w w') (e : b = b') : Calls Tryz.prog P args w fun e w' => e = .returned (.bool b') ∧ Below w.heap.size w w' := e ▸ h
theorem light21 {w : World} {p0 p1 p2 p3 p4 p5 p6 p7 p8 p9 : Int} {a1 a2 : Option Addr} {na nv c1 c2 : Nat} : Calls Tryz.prog 6 #[.agg #[.int .u64 p0, .int .u64 p1, .int .u64 p2, .int .u64 p3, .int .u64 p4, .int .u64 p5, .int .u64 p6, .int .u64 p7, .int .u64 p8, .int .u64 p9, .slice a1 na c1, .slice a2 nv c2]] w fun e w' => e = .returned (.bool (decide (na ≤ 300) && decide (nv ≤ 70))) ∧ Below w.heap.size w w' := by
  have BB := Below.refl w.heap.size w
  refine gc_enter (n := 13) Tryz.func6 rfl (by kernel_rfl) (by kernel_rfl) ?_
  refine gc_seq ?_
  refine gc_reg ?_
  refine ta 1 [.int .u64 p0, .int .u64 p1, .int .u64 p2, .int .u64 p3, .int .u64 p4, .int .u64 p5, .int .u64 p6, .int .u64 p7, .int .u64 p8, .int .u64 p9, .slice a1 na c1, .slice a2 nv c2] 28 (pg) ?_
  intro v1 g2 Xg2 hg2 B
  have zg2 := Nat.le_trans BB.size hg2
  replace BB := joinB BB B
  clear B
  refine t 2 (.bool false) ?_
  refine gl_nil ?_
  refine ge_then ?_
  refine gc_seq ?_
  refine gc_reg ?_
  refine t 3 (pq g2 10) ?_
  refine tl 4 (.slice a1 na c1) Xg2 10 ?_
  refine t 5 (.int .i64 ((na : Nat) : Int)) ?_
  by_cases c3 : ((na : Nat) : Int) ≤ 300
  · refine tq 6 (.bool (decide (((na : Nat) : Int) ≤ 300))) (.bool true) (congrArg Value.bool (decide_eq_true c3)) ?_
    refine t 7 (.bool true) ?_
    refine t 8 (pq g2 11) ?_
    refine tl 9 (.slice a2 nv c2) Xg2 11 ?_
    refine t 10 (.int .i64 ((nv : Nat) : Int)) ?_
    by_cases c4 : ((nv : Nat) : Int) ≤ 70
    · refine tq 11 (.bool (decide (((nv : Nat) : Int) ≤ 70))) (.bool true) (congrArg Value.bool (decide_eq_true c4)) ?_
      refine t 12 (.bool true) ?_
      refine t 2 (.bool true) ?_
      refine gl_nil ?_
      refine ge_then ?_
      clear Xg2
      refine gc_ret ?_
      refine ge_ret (.bool true) (rs1 2 (by kernel_rfl) (by kernel_rfl)) ?_
      have e : (decide (na ≤ 300) && decide (nv ≤ 70)) = true := by simp; omega
      rw [e]
      exact ⟨rfl, BB⟩
    · refine tq 11 (.bool (decide (((nv : Nat) : Int) ≤ 70))) (.bool false) (congrArg Value.bool (decide_eq_false c4)) ?_
      refine t 12 (.bool false) ?_
      refine t 2 (.bool false) ?_
      refine gl_nil ?_
      refine ge_then ?_
      clear Xg2
      refine gc_ret ?_
      refine ge_ret (.bool false) (rs1 2 (by kernel_rfl) (by kernel_rfl)) ?_
      have e : (decide (na ≤ 300) && decide (nv ≤ 70)) = false := by simp; omega
      rw [e]
      exact ⟨rfl, BB⟩
  · refine tq 6 (.bool (decide (((na : Nat) : Int) ≤ 300))) (.bool false) (congrArg Value.bool (decide_eq_false c3)) ?_
    refine t 7 (.bool false) ?_
    refine tn 8 ?_
    refine tn 9 ?_
    refine tn 10 ?_
    refine tn 11 ?_
    refine t 12 (.bool false) ?_
    refine t 2 (.bool false) ?_
    refine gl_nil ?_
    refine ge_then ?_
    clear Xg2
    refine gc_ret ?_
    refine ge_ret (.bool false) (rs1 2 (by kernel_rfl) (by kernel_rfl)) ?_
    have e : (decide (na ≤ 300) && decide (nv ≤ 70)) = false := by simp; omega
    rw [e]
    exact ⟨rfl, BB⟩
theorem genBytes_walk {w : World} {p0 p1 p2 p3 p4 p5 p6 p7 p8 p9 : Int} {a1 a2 ao : Option Addr} {na nv c1 c2 b1 b2 o1 o2 b n c : Nat} {A V l : List Int} (hp : ∀ x ∈ ([p0, p1, p2, p3, p4, p5, p6, p7, p8, p9] : List Int), Mg.In8 x) (N1 : Nl w a1 na 2 b1 o1 A) (N2 : Nl w a2 nv 3 b2 o2 V) (hna : na ≤ 9223372036854775807) (hnv : nv ≤ 9223372036854775807) (H : ByA w b ao n c l) (hn : n ≤ 9223372036854775807) : Calls Tryz.prog 3 #[.agg #[.int .u64 p0, .int .u64 p1, .int .u64 p2, .int .u64 p3, .int .u64 p4, .int .u64 p5, .int .u64 p6, .int .u64 p7, .int .u64 p8, .int .u64 p9, .slice a1 na c1, .slice a2 nv c2], .slice ao n c] w fun e w' => e = .returned (.bool true) ∧ Below w.heap.size w w' := by
  have hl : l.length = n := by
    obtain ⟨_, h1, _⟩ := H.ex
    exact h1
  have BB := Below.refl w.heap.size w
  refine gc_enter (n := 52) Tryz.func3 rfl (by kernel_rfl) (by kernel_rfl) ?_
  refine gc_seq ?_
  refine gc_reg ?_
  refine ta 2 [.int .u64 p0, .int .u64 p1, .int .u64 p2, .int .u64 p3, .int .u64 p4, .int .u64 p5, .int .u64 p6, .int .u64 p7, .int .u64 p8, .int .u64 p9, .slice a1 na c1, .slice a2 nv c2] 28 (pg) ?_
  intro v1 g2 Xg2 hg2 B
  have zg2 := Nat.le_trans BB.size hg2
  replace BB := joinB BB B
  clear B
  refine t 4 (.bool false) ?_
  refine gl_nil ?_
  refine ge_then ?_
  refine gc_seq ?_
  refine gc_seq ?_
  refine gc_reg ?_
  have lXg2 := Xg2.lt
  
  refine tc 10 5 #[] (Fo.known21) ?_
  rintro _ v3 ⟨rfl, B⟩
  refine ⟨_, rfl, ?_⟩
  replace BB := joinB BB B
  replace Xg2 := Xg2.keep B
  clear B
  refine t 11 (.bool false) ?_
  refine gl_nil ?_
  refine ge_then ?_
  refine gc_no ?_
  refine gc_skip ?_
  refine ge_then ?_
  refine gc_seq ?_
  refine gc_seq ?_
  refine gc_reg ?_
  refine tlr 12 [.int .u64 p0, .int .u64 p1, .int .u64 p2, .int .u64 p3, .int .u64 p4, .int .u64 p5, .int .u64 p6, .int .u64 p7, .int .u64 p8, .int .u64 p9, .slice a1 na c1, .slice a2 nv c2] Xg2 0 ?_
  by_cases ca : na ≤ 300
  · by_cases cb : nv ≤ 70
    · have lXg2 := Xg2.lt
      
      refine tc 13 6 #[.agg #[.int .u64 p0, .int .u64 p1, .int .u64 p2, .int .u64 p3, .int .u64 p4, .int .u64 p5, .int .u64 p6, .int .u64 p7, .int .u64 p8, .int .u64 p9, .slice a1 na c1, .slice a2 nv c2]] (castB (b := decide (na ≤ 300) && decide (nv ≤ 70)) light21 (by rw [decide_eq_true ca, decide_eq_true cb])) ?_
      rintro _ v4 ⟨rfl, B⟩
      refine ⟨_, rfl, ?_⟩
      replace BB := joinB BB B
      replace Xg2 := Xg2.keep B
      clear B
      refine t 14 (.bool false) ?_
      refine t 15 (.bool false) ?_
      refine t 16 (.slice ao n c) ?_
      refine t 17 (.int .i64 ((n : Nat) : Int)) ?_
      by_cases c5 : (65546 : Int) < ((n : Nat) : Int)
      · refine tq 18 (.bool (decide ((65546 : Int) < ((n : Nat) : Int)))) (.bool true) (congrArg Value.bool (decide_eq_true c5)) ?_
        refine t 19 (.bool true) ?_
        refine gl_nil ?_
        refine ge_then ?_
        refine gc_yes ?_
        refine gc_seq ?_
        refine gc_reg ?_
        refine t 4 (.bool true) ?_
        refine gl_nil ?_
        refine ge_then ?_
        refine gc_ret ?_
        refine ge_tr ?_
        refine ge_ret (.bool true) (rs1 4 (by kernel_rfl) (by kernel_rfl)) ?_
        exact ⟨rfl, BB⟩
      · refine tq 18 (.bool (decide ((65546 : Int) < ((n : Nat) : Int)))) (.bool false) (congrArg Value.bool (decide_eq_false c5)) ?_
        refine t 19 (.bool false) ?_
        refine gl_nil ?_
        refine ge_then ?_
        refine gc_no ?_
        refine gc_skip ?_
        refine ge_then ?_
        refine gc_seq ?_
        refine gc_reg ?_
        refine t 20 (.slice ao n c) ?_
        have lXg2 := Xg2.lt
        
        refine tc 21 7 #[.slice ao n c] (cp_n (H.keep BB) (by omega)) ?_
        rintro _ v6 ⟨bi, ai, ci, rfl, HC, B⟩
        refine ⟨_, rfl, ?_⟩
        replace BB := joinB BB B
        replace Xg2 := Xg2.keep B
        clear B
        refine t 5 (.slice ai n ci) ?_
        refine gl_nil ?_
        refine ge_then ?_
        refine gc_fr [(1, .slice ao n c), (2, pg g2), (4, .bool false), (5, .slice ai n ci)] (by kernel_rfl) ?_
        refine gc_seq ?_
        refine gc_reg ?_
        refine t 23 (.slice ai n ci) ?_
        have lXg2 := Xg2.lt
        
        refine tc 24 8 #[.slice ai n ci] (dec21 HC (by omega)) ?_
        rintro _ v7 ⟨q0, q1, q2, q3, q4, q5, q6, q7, q8, q9, a5, m5, g5, a6, m6, g6, A1, V1, rfl, hX, NA, NV, hm5, hm6, B⟩
        refine ⟨_, rfl, ?_⟩
        replace BB := joinB BB B
        replace Xg2 := Xg2.keep B
        replace HC := HC.keep B
        clear B
        refine t 22 (.tuple #[.agg #[.int .u64 q0, .int .u64 q1, .int .u64 q2, .int .u64 q3, .int .u64 q4, .int .u64 q5, .int .u64 q6, .int .u64 q7, .int .u64 q8, .int .u64 q9, .slice a5 m5 m5, .slice a6 m6 m6], .int .i64 (eD l)]) ?_
        refine t 25 (.agg #[.int .u64 q0, .int .u64 q1, .int .u64 q2, .int .u64 q3, .int .u64 q4, .int .u64 q5, .int .u64 q6, .int .u64 q7, .int .u64 q8, .int .u64 q9, .slice a5 m5 m5, .slice a6 m6 m6]) ?_
        refine t 26 (.int .i64 (eD l)) ?_
        have lHC := lt_ne HC
        have lXg2 := Xg2.lt
        have lNA := NA.lt
        have lNV := NV.lt
        refine ta 6 [.int .u64 0, .int .u64 0, .int .u64 0, .int .u64 0, .int .u64 0, .int .u64 0, .int .u64 0, .int .u64 0, .int .u64 0, .int .u64 0, .slice none 0 0, .slice none 0 0] 28 (pg) ?_
        intro v8 g9 Xg9 hg9 B
        have zg9 := Nat.le_trans BB.size hg9
        replace BB := joinB BB B
        replace Xg2 := Xg2.keep B
        replace HC := HC.keep B
        replace NA := NA.keep B
        replace NV := NV.keep B
        clear B
        refine ts Xg9 0 (.agg #[.int .u64 q0, .int .u64 q1, .int .u64 q2, .int .u64 q3, .int .u64 q4, .int .u64 q5, .int .u64 q6, .int .u64 q7, .int .u64 q8, .int .u64 q9, .slice a5 m5 m5, .slice a6 m6 m6]) [.int .u64 q0, .int .u64 q1, .int .u64 q2, .int .u64 q3, .int .u64 q4, .int .u64 q5, .int .u64 q6, .int .u64 q7, .int .u64 q8, .int .u64 q9, .slice a5 m5 m5, .slice a6 m6 m6] [.int .u64 q0, .int .u64 q1, .int .u64 q2, .int .u64 q3, .int .u64 q4, .int .u64 q5, .int .u64 q6, .int .u64 q7, .int .u64 q8, .int .u64 q9, .slice a5 m5 m5, .slice a6 m6 m6] ?_
        intro v10 Y C
        replace BB := belowC BB C (by omega)
        replace Xg2 := Xg2.chg C (show g2 ≠ g9 by omega)
        replace HC := byC2 HC C (fun h => by have := lHC h; omega)
        replace NA := nlC2 NA C (fun h => by have := lNA h (by decide); omega)
        replace NV := nlC2 NV C (fun h => by have := lNV h (by decide); omega)
        clear C Xg9
        have Xg9 := Y
        clear Y
        refine t 7 (.int .i64 (eD l)) ?_
        refine gl_nil ?_
        refine ge_then ?_
        refine gc_seq ?_
        refine gc_reg ?_
        refine t 28 (.slice ao n c) ?_
        have lXg2 := Xg2.lt
        have lXg9 := Xg9.lt
        
        refine tc 29 9 #[.slice ao n c] (rdec_of (H.keep BB) (by omega) hX NA.len NV.len) ?_
        rintro _ v11 ⟨a7, c7, g7, a8, c8, g8, rfl, NP, NQ, B⟩
        refine ⟨_, rfl, ?_⟩
        replace BB := joinB BB B
        replace Xg2 := Xg2.keep B
        replace HC := HC.keep B
        replace NA := NA.keep B
        replace NV := NV.keep B
        replace Xg9 := Xg9.keep B
        clear B
        refine t 27 (.tuple #[.agg #[.int .u64 q0, .int .u64 q1, .int .u64 q2, .int .u64 q3, .int .u64 q4, .int .u64 q5, .int .u64 q6, .int .u64 q7, .int .u64 q8, .int .u64 q9, .slice a7 m5 c7, .slice a8 m6 c8], .int .i64 (eD l)]) ?_
        refine t 30 (.agg #[.int .u64 q0, .int .u64 q1, .int .u64 q2, .int .u64 q3, .int .u64 q4, .int .u64 q5, .int .u64 q6, .int .u64 q7, .int .u64 q8, .int .u64 q9, .slice a7 m5 c7, .slice a8 m6 c8]) ?_
        refine t 31 (.int .i64 (eD l)) ?_
        have lHC := lt_ne HC
        have lXg2 := Xg2.lt
        have lNA := NA.lt
        have lNV := NV.lt
        have lXg9 := Xg9.lt
        have lNP := NP.lt
        have lNQ := NQ.lt
        refine ta 8 [.int .u64 0, .int .u64 0, .int .u64 0, .int .u64 0, .int .u64 0, .int .u64 0, .int .u64 0, .int .u64 0, .int .u64 0, .int .u64 0, .slice none 0 0, .slice none 0 0] 28 (pg) ?_
        intro v12 g13 Xg13 hg13 B
        have zg13 := Nat.le_trans BB.size hg13
        replace BB := joinB BB B
        replace Xg2 := Xg2.keep B
        replace HC := HC.keep B
        replace NA := NA.keep B
        replace NV := NV.keep B
        replace Xg9 := Xg9.keep B
        replace NP := NP.keep B
        replace NQ := NQ.keep B
        clear B
        refine ts Xg13 0 (.agg #[.int .u64 q0, .int .u64 q1, .int .u64 q2, .int .u64 q3, .int .u64 q4, .int .u64 q5, .int .u64 q6, .int .u64 q7, .int .u64 q8, .int .u64 q9, .slice a7 m5 c7, .slice a8 m6 c8]) [.int .u64 q0, .int .u64 q1, .int .u64 q2, .int .u64 q3, .int .u64 q4, .int .u64 q5, .int .u64 q6, .int .u64 q7, .int .u64 q8, .int .u64 q9, .slice a7 m5 c7, .slice a8 m6 c8] [.int .u64 q0, .int .u64 q1, .int .u64 q2, .int .u64 q3, .int .u64 q4, .int .u64 q5, .int .u64 q6, .int .u64 q7, .int .u64 q8, .int .u64 q9, .slice a7 m5 c7, .slice a8 m6 c8] ?_
        intro v14 Y C
        replace BB := belowC BB C (by omega)
        replace Xg2 := Xg2.chg C (show g2 ≠ g13 by omega)
        replace HC := byC2 HC C (fun h => by have := lHC h; omega)
        replace NA := nlC2 NA C (fun h => by have := lNA h (by decide); omega)
        replace NV := nlC2 NV C (fun h => by have := lNV h (by decide); omega)
        replace Xg9 := Xg9.chg C (show g9 ≠ g13 by omega)
        replace NP := nlC2 NP C (fun h => by have := lNP h (by decide); omega)
        replace NQ := nlC2 NQ C (fun h => by have := lNQ h (by decide); omega)
        clear C Xg13
        have Xg13 := Y
        clear Y
        refine t 9 (.int .i64 (eD l)) ?_
        refine gl_nil ?_
        refine ge_then ?_
        refine gc_seq ?_
        obtain ⟨mm, hm⟩ : ∃ m, (bG ⟨[p0, p1, p2, p3, p4, p5, p6, p7, p8, p9], A, V⟩ na nv).length = m := ⟨_, rfl⟩
        have ok : Ge.Ok ⟨[p0, p1, p2, p3, p4, p5, p6, p7, p8, p9], A, V⟩ na nv := ⟨rfl, N1.len, N2.len, hp, N1.rng, N2.rng⟩
        have hm6_ : mm ≤ 100000 := by
          have := bG_len ok
          omega
        replace BB := BB.drew
        replace Xg2 := Xg2.drew
        replace HC := HC.keep (Below.refl _ _).drew
        replace NA := NA.keep (Below.refl _ _).drew
        replace NV := NV.keep (Below.refl _ _).drew
        replace Xg9 := Xg9.drew
        replace NP := NP.keep (Below.refl _ _).drew
        replace NQ := NQ.keep (Below.refl _ _).drew
        replace Xg13 := Xg13.drew
        refine gc_draw (fun w' => Blk w' g2 [.int .u64 p0, .int .u64 p1, .int .u64 p2, .int .u64 p3, .int .u64 p4, .int .u64 p5, .int .u64 p6, .int .u64 p7, .int .u64 p8, .int .u64 p9, .slice a1 na c1, .slice a2 nv c2] 28 ∧ Blk w' g9 [.int .u64 q0, .int .u64 q1, .int .u64 q2, .int .u64 q3, .int .u64 q4, .int .u64 q5, .int .u64 q6, .int .u64 q7, .int .u64 q8, .int .u64 q9, .slice a5 m5 m5, .slice a6 m6 m6] 28 ∧ Blk w' g13 [.int .u64 q0, .int .u64 q1, .int .u64 q2, .int .u64 q3, .int .u64 q4, .int .u64 q5, .int .u64 q6, .int .u64 q7, .int .u64 q8, .int .u64 q9, .slice a7 m5 c7, .slice a8 m6 c8] 28) (fun _ => false) ⟨Xg2, Xg9, Xg13⟩ ?_
        refine zlr 0 32 [.int .u64 p0, .int .u64 p1, .int .u64 p2, .int .u64 p3, .int .u64 p4, .int .u64 p5, .int .u64 p6, .int .u64 p7, .int .u64 p8, .int .u64 p9, .slice a1 na c1, .slice a2 nv c2] (fun _ h => h.1) 0 ?_
        refine zlr 2 34 [.int .u64 p0, .int .u64 p1, .int .u64 p2, .int .u64 p3, .int .u64 p4, .int .u64 p5, .int .u64 p6, .int .u64 p7, .int .u64 p8, .int .u64 p9, .slice a1 na c1, .slice a2 nv c2] (fun _ h => h.1) 0 ?_
        have lXg2 := Xg2.lt
        have lXg9 := Xg9.lt
        have lXg13 := Xg13.lt
        
        refine zc 1 33 11 #[.agg #[.int .u64 p0, .int .u64 p1, .int .u64 p2, .int .u64 p3, .int .u64 p4, .int .u64 p5, .int .u64 p6, .int .u64 p7, .int .u64 p8, .int .u64 p9, .slice a1 na c1, .slice a2 nv c2]] (enc_b (N1.keep BB) (N2.keep BB) (by omega) (by omega) hm (by omega)) ?_
        rintro _ v15 ⟨be, rfl, HE, B⟩
        replace BB := joinB BB B
        replace Xg2 := Xg2.keep B
        replace HC := HC.keep B
        replace NA := NA.keep B
        replace NV := NV.keep B
        replace Xg9 := Xg9.keep B
        replace NP := NP.keep B
        replace NQ := NQ.keep B
        replace Xg13 := Xg13.keep B
        clear B
        refine ⟨_, rfl, ⟨Xg2, Xg9, Xg13⟩, ?_⟩
        have lXg2 := Xg2.lt
        have lXg9 := Xg9.lt
        have lXg13 := Xg13.lt
        
        refine zc 3 35 12 #[.agg #[.int .u64 p0, .int .u64 p1, .int .u64 p2, .int .u64 p3, .int .u64 p4, .int .u64 p5, .int .u64 p6, .int .u64 p7, .int .u64 p8, .int .u64 p9, .slice a1 na c1, .slice a2 nv c2]] (renc_b (N1.keep BB) (N2.keep BB) (by omega) (by omega) hm) ?_
        rintro _ v16 ⟨br, ar, cr, rfl, HR, B⟩
        replace BB := joinB BB B
        replace Xg2 := Xg2.keep B
        replace HC := HC.keep B
        replace NA := NA.keep B
        replace NV := NV.keep B
        replace Xg9 := Xg9.keep B
        replace NP := NP.keep B
        replace NQ := NQ.keep B
        replace Xg13 := Xg13.keep B
        replace HE := HE.keep B
        clear B
        refine ⟨_, rfl, ⟨Xg2, Xg9, Xg13⟩, ?_⟩
        have lXg2 := Xg2.lt
        have lXg9 := Xg9.lt
        have lXg13 := Xg13.lt
        
        refine zc 4 36 10 #[.slice (some ⟨be, 0, none⟩) mm mm, .slice ar mm cr] (bytT HE HR (by omega)) ?_
        rintro _ v17 ⟨rfl, B⟩
        replace BB := joinB BB B
        replace Xg2 := Xg2.keep B
        replace HC := HC.keep B
        replace NA := NA.keep B
        replace NV := NV.keep B
        replace Xg9 := Xg9.keep B
        replace NP := NP.keep B
        replace NQ := NQ.keep B
        replace Xg13 := Xg13.keep B
        replace HE := HE.keep B
        replace HR := HR.keep B
        clear B
        refine ⟨_, rfl, ⟨Xg2, Xg9, Xg13⟩, ?_⟩
        refine z 5 37 (.bool true) ?_
        refine zlr 6 38 [.int .u64 q0, .int .u64 q1, .int .u64 q2, .int .u64 q3, .int .u64 q4, .int .u64 q5, .int .u64 q6, .int .u64 q7, .int .u64 q8, .int .u64 q9, .slice a5 m5 m5, .slice a6 m6 m6] (fun _ h => h.2.1) 0 ?_
        refine zlr 7 39 [.int .u64 q0, .int .u64 q1, .int .u64 q2, .int .u64 q3, .int .u64 q4, .int .u64 q5, .int .u64 q6, .int .u64 q7, .int .u64 q8, .int .u64 q9, .slice a7 m5 c7, .slice a8 m6 c8] (fun _ h => h.2.2) 0 ?_
        have lXg2 := Xg2.lt
        have lXg9 := Xg9.lt
        have lXg13 := Xg13.lt
        
        refine zc 8 40 13 #[.agg #[.int .u64 q0, .int .u64 q1, .int .u64 q2, .int .u64 q3, .int .u64 q4, .int .u64 q5, .int .u64 q6, .int .u64 q7, .int .u64 q8, .int .u64 q9, .slice a5 m5 m5, .slice a6 m6 m6], .agg #[.int .u64 q0, .int .u64 q1, .int .u64 q2, .int .u64 q3, .int .u64 q4, .int .u64 q5, .int .u64 q6, .int .u64 q7, .int .u64 q8, .int .u64 q9, .slice a7 m5 c7, .slice a8 m6 c8]] (same_t NA NV NP NQ (by omega) (by omega)) ?_
        rintro _ v18 ⟨rfl, B⟩
        replace BB := joinB BB B
        replace Xg2 := Xg2.keep B
        replace HC := HC.keep B
        replace NA := NA.keep B
        replace NV := NV.keep B
        replace Xg9 := Xg9.keep B
        replace NP := NP.keep B
        replace NQ := NQ.keep B
        replace Xg13 := Xg13.keep B
        replace HE := HE.keep B
        replace HR := HR.keep B
        clear B
        refine ⟨_, rfl, ⟨Xg2, Xg9, Xg13⟩, ?_⟩
        refine z 9 41 (.bool true) ?_
        refine z 10 42 (.bool true) ?_
        refine z 11 43 (.int .i64 (eD l)) ?_
        refine z 12 44 (.int .i64 (eD l)) ?_
        refine zq 13 45 (.bool ((eD l : Int) == eD l)) (.bool true) (congrArg Value.bool (beq_self_eq_true _)) ?_
        refine z 14 46 (.bool true) ?_
        refine z 15 47 (.bool true) ?_
        refine z 16 48 (.slice ai n ci) ?_
        refine z 17 49 (.slice ao n c) ?_
        have lXg2 := Xg2.lt
        have lXg9 := Xg9.lt
        have lXg13 := Xg13.lt
        
        refine zc 18 50 10 #[.slice ai n ci, .slice ao n c] (bytT HC (H.keep BB) (by omega)) ?_
        rintro _ v19 ⟨rfl, B⟩
        replace BB := joinB BB B
        replace Xg2 := Xg2.keep B
        replace HC := HC.keep B
        replace NA := NA.keep B
        replace NV := NV.keep B
        replace Xg9 := Xg9.keep B
        replace NP := NP.keep B
        replace NQ := NQ.keep B
        replace Xg13 := Xg13.keep B
        replace HE := HE.keep B
        replace HR := HR.keep B
        clear B
        refine ⟨_, rfl, ⟨Xg2, Xg9, Xg13⟩, ?_⟩
        refine z 19 51 (.bool true) ?_
        refine z 20 4 (.bool true) ?_
        refine gz_done ?_
        refine ge_then ?_
        clear Xg2
        clear Xg9
        clear Xg13
        refine gc_fr [(4, .bool true)] (by kernel_rfl) ?_
        refine gc_ret ?_
        refine ge_ret (.bool true) (rs1 4 (by kernel_rfl) (by kernel_rfl)) ?_
        exact ⟨rfl, BB⟩
    · have lXg2 := Xg2.lt
      
      refine tc 13 6 #[.agg #[.int .u64 p0, .int .u64 p1, .int .u64 p2, .int .u64 p3, .int .u64 p4, .int .u64 p5, .int .u64 p6, .int .u64 p7, .int .u64 p8, .int .u64 p9, .slice a1 na c1, .slice a2 nv c2]] (castB (b := decide (na ≤ 300) && decide (nv ≤ 70)) light21 (by rw [decide_eq_true ca, decide_eq_false cb])) ?_
      rintro _ v20 ⟨rfl, B⟩
      refine ⟨_, rfl, ?_⟩
      replace BB := joinB BB B
      replace Xg2 := Xg2.keep B
      clear B
      refine t 14 (.bool true) ?_
      refine t 15 (.bool true) ?_
      refine tn 16 ?_
      refine tn 17 ?_
      refine tn 18 ?_
      refine t 19 (.bool true) ?_
      refine gl_nil ?_
      refine ge_then ?_
      refine gc_yes ?_
      refine gc_seq ?_
      refine gc_reg ?_
      refine t 4 (.bool true) ?_
      refine gl_nil ?_
      refine ge_then ?_
      refine gc_ret ?_
      refine ge_tr ?_
      refine ge_ret (.bool true) (rs1 4 (by kernel_rfl) (by kernel_rfl)) ?_
      exact ⟨rfl, BB⟩
  · have lXg2 := Xg2.lt
    
    refine tc 13 6 #[.agg #[.int .u64 p0, .int .u64 p1, .int .u64 p2, .int .u64 p3, .int .u64 p4, .int .u64 p5, .int .u64 p6, .int .u64 p7, .int .u64 p8, .int .u64 p9, .slice a1 na c1, .slice a2 nv c2]] (castB (b := decide (na ≤ 300) && decide (nv ≤ 70)) light21 (by rw [decide_eq_false ca, Bool.false_and])) ?_
    rintro _ v21 ⟨rfl, B⟩
    refine ⟨_, rfl, ?_⟩
    replace BB := joinB BB B
    replace Xg2 := Xg2.keep B
    clear B
    refine t 14 (.bool true) ?_
    refine t 15 (.bool true) ?_
    refine tn 16 ?_
    refine tn 17 ?_
    refine tn 18 ?_
    refine t 19 (.bool true) ?_
    refine gl_nil ?_
    refine ge_then ?_
    refine gc_yes ?_
    refine gc_seq ?_
    refine gc_reg ?_
    refine t 4 (.bool true) ?_
    refine gl_nil ?_
    refine ge_then ?_
    refine gc_ret ?_
    refine ge_tr ?_
    refine ge_ret (.bool true) (rs1 4 (by kernel_rfl) (by kernel_rfl)) ?_
    exact ⟨rfl, BB⟩
end Gn
end Go.Proofs.YtpoifdokmjhclaaGreat
