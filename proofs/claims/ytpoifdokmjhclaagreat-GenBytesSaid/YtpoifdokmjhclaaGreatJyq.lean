/- Several texts, joined: GnD, MgT, MgC, MgD. -/
import Derived.Test.YtpoifdokmjhclaaGreatJyp
import Derived.Test.YtpoifdokmjhclaaGreatJyb
import Derived.Test.YtpoifdokmjhclaaGreatJye
namespace Go.Proofs.YtpoifdokmjhclaaGreat
namespace Gn
open Go.RowKit Go.Lib Pg Lim Gl Mg
attribute [local go_sem] Oper.semAt_some
set_option maxRecDepth 100000
set_option linter.unusedVariables false
set_option linter.unusedSimpArgs false
set_option maxHeartbeats 2000000
/-- a list of its own, from B on: m elements of k numbers each -/
structure Ls (B : Nat) (w : World) (ao : Option Addr) (m gl k : Nat) (A : List Int) (T : TypeId) : Prop where
  ex : (ao = none ∧ m = 0 ∧ A = []) ∨ (ao = some ⟨gl, 0, none⟩ ∧ B ≤ gl ∧ Blk w gl (A.map (Value.int .u64)) T ∧ A.length = m * k)
theorem Ls.keep {B : Nat} {w w' : World} {ao : Option Addr} {m gl k : Nat} {A : List Int} {T : TypeId} (h : Ls B w ao m gl k A T) (b : Below w.heap.size w w') : Ls B w' ao m gl k A T := ⟨h.ex.imp id fun q => ⟨q.1, q.2.1, q.2.2.1.keep b, q.2.2.2⟩⟩
theorem Ls.chg {B : Nat} {w w' : World} {F : Nat → Prop} {ao : Option Addr} {m gl k : Nat} {A : List Int} {T : TypeId} (h : Ls B w ao m gl k A T) (c : Chg F w w') (hF : ∀ b, F b → b < B) : Ls B w' ao m gl k A T := ⟨h.ex.imp id fun q => ⟨q.1, q.2.1, q.2.2.1.chg c (fun e => by have := hF _ e; have := q.2.1; omega), q.2.2.2⟩⟩
theorem Ls.low {B B' : Nat} {w : World} {ao : Option Addr} {m gl k : Nat} {A : List Int} {T : TypeId} (h : Ls B w ao m gl k A T) (hB : B' ≤ B) : Ls B' w ao m gl k A T := ⟨h.ex.imp id fun q => ⟨q.1, Nat.le_trans hB q.2.1, q.2.2⟩⟩
theorem Ls.len {B : Nat} {w : World} {ao : Option Addr} {m gl k : Nat} {A : List Int} {T : TypeId} (h : Ls B w ao m gl k A T) : A.length = m * k := h.ex.elim (fun q => by rw [q.2.1, q.2.2]; simp) (fun q => q.2.2.2)
theorem Ls.nl {B : Nat} {w : World} {ao : Option Addr} {m gl k : Nat} {A : List Int} {T : TypeId} (h : Ls B w ao m gl k A T) (hr : ∀ x ∈ A, In8 x) : Nl w ao m k gl 0 A := by
  refine ⟨h.len, fun hm => ?_, fun i hi => ?_, hr⟩
  · rcases h.ex with q | q
    · have := q.2.1; omega
    · exact q.1
  · rcases h.ex with q | q
    · rw [q.2.1] at hi; omega
    · have hl := h.len
      have := q.2.2.1.cell (i := 0 + i) (v := .int .u64 (nth A i)) (by rw [Nat.zero_add, List.getElem?_map, List.getElem?_eq_getElem (by omega), Option.map_some, nth_eq (by omega)])
      exact this
def zG : Ge := ⟨[0, 0, 0, 0, 0, 0, 0, 0, 0, 0], [], []⟩
/-- a genesis as a value, its lists in memory of their own -/
structure GeV (B : Nat) (w : World) (v : Value) (g : Ge) : Prop where
  ex : ∃ p0 p1 p2 p3 p4 p5 p6 p7 p8 p9 a1 m1 g1 a2 m2 g2, v = .agg #[.int .u64 p0, .int .u64 p1, .int .u64 p2, .int .u64 p3, .int .u64 p4, .int .u64 p5, .int .u64 p6, .int .u64 p7, .int .u64 p8, .int .u64 p9, .slice a1 m1 m1, .slice a2 m2 m2] ∧ g.p = [p0, p1, p2, p3, p4, p5, p6, p7, p8, p9] ∧ Ls B w a1 m1 g1 2 g.a 43 ∧ Ls B w a2 m2 g2 3 g.v 45
theorem d_mk {l : List Int} {v n m : Int} {P A V : List Int} {s1 s2 s3 s4 : St} (e1 : rU 4 (0, l) = (v, s1)) (e2 : rN 10 s1 = (P, s2)) (e3 : rL 256 2 s2 = ((n, A), s3)) (e4 : rL 64 3 s3 = ((m, V), s4)) : gD l = ⟨P, A, V⟩ ∧ sV l = s4 ∧ wrongG l = (((false || (v != 1196183089)) || !decide (n ≤ 256)) || !decide (m ≤ 64)) := by
  have h1 : sH l = s1 := by unfold sH; rw [e1]
  have h2 : sP l = s2 := by unfold sP; rw [h1, e2]
  have h3 : sA l = s3 := by unfold sA; rw [h2, e3]
  have h4 : sV l = s4 := by unfold sV; rw [h3, e4]
  refine ⟨by unfold gD; rw [h1, h2, h3, e2, e3, e4], h4, ?_⟩
  unfold wrongG bad
  rw [e1, h2, h3, e3, e4]
  by_cases hv : v = mk0
  · subst hv; simp [mk0]
  · have : (v != 1196183089) = true := by simpa [mk0] using hv
    simp [this, hv]
theorem eD_big {l : List Int} (h : 65536 < l.length) : eD l = 211 := by unfold eD; rw [if_pos h]
theorem eD_val {l : List Int} (h : ¬ 65536 < l.length) {b : Bool} (hb : (decide (endE (sV l).1 (sV l).2 = 0) && !wrongG l) = b) : eD l = if b then 0 else 210 := by
  unfold eD
  rw [if_neg h]
  subst hb
  by_cases h1 : endE (sV l).1 (sV l).2 = 0 <;> cases h2 : wrongG l <;> simp [h1]
theorem newR_any {w : World} {b n c : Nat} {ao : Option Addr} {l : List Int} (A : ByA w b ao n c l) (hn : n ≤ 1000000000) : Calls Tryz.prog 17 #[.slice ao n c] w fun e w' => ∃ r q br, e = .returned (pg r) ∧ (w.heap.size ≤ r ∧ w.heap.size ≤ q ∧ r ≠ q) ∧ Blk w' r [pg q, .bool false] 108 ∧ RdA w' q br ((0 : Int), l).1 ((0 : Int), l).2 ∧ Below w.heap.size w w' := by
  have BB := Below.refl w.heap.size w
  refine gc_enter (n := 7) Tryz.func17 rfl (by kernel_rfl) (by kernel_rfl) ?_
  refine gc_seq ?_
  refine gc_reg ?_
  refine t 2 (.pointer none) ?_
  refine gl_nil ?_
  refine ge_then ?_
  refine gc_seq ?_
  refine gc_reg ?_
  refine t 3 (.slice ao n c) ?_
  refine tc 4 44 #[.slice ao n c] (rdNew2 A (by omega)) ?_
  rintro _ v1 ⟨q, br, rfl, ⟨hq, -, -⟩, RD0, B⟩
  refine ⟨_, rfl, ?_⟩
  replace BB := joinB BB B
  clear B
  have RD : RdA _ q br ((0 : Int), l).1 ((0 : Int), l).2 := RD0
  clear RD0
  have lRD := RD.lt
  refine t 5 (.agg #[pg q, .bool false]) ?_
  refine ta 6 [pg q, .bool false] 108 (pg) ?_
  intro v2 r X hr B
  have hr0 := Nat.le_trans BB.size hr
  have hrq : r ≠ q := by omega
  replace BB := joinB BB B
  replace RD := RD.keep B
  clear B
  refine t 2 (pg r) ?_
  refine gl_nil ?_
  refine ge_then ?_
  refine gc_ret ?_
  refine ge_ret (pg r) (rs1 2 (by kernel_rfl) (by kernel_rfl)) ?_
  exact ⟨r, q, br, rfl, ⟨hr0, hq, hrq⟩, X, RD, BB⟩
theorem decode_any {w : World} {b n c : Nat} {ao : Option Addr} {l : List Int} (A : ByA w b ao n c l) (hn : n ≤ 1000000000) : Calls Tryz.prog 8 #[.slice ao n c] w fun e w' => ∃ v, e = .returned (.tuple #[v, .int .i64 (eD l)]) ∧ GeV w.heap.size w' v (if eD l = 0 then gD l else zG) ∧ Below w.heap.size w w' := by
  have BB := Below.refl w.heap.size w
  have hl : l.length = n := by
    obtain ⟨o, h1, _⟩ := A.ex
    exact h1
  refine gc_enter (n := 32) Tryz.func8 rfl (by kernel_rfl) (by kernel_rfl) ?_
  refine gc_seq ?_
  refine gc_reg ?_
  refine ta 2 [.int .u64 0, .int .u64 0, .int .u64 0, .int .u64 0, .int .u64 0, .int .u64 0, .int .u64 0, .int .u64 0, .int .u64 0, .int .u64 0, .slice none 0 0, .slice none 0 0] 28 (pg) ?_
  intro v1 g2 Xg2 hg2 B
  have zg2 := Nat.le_trans BB.size hg2
  replace BB := joinB BB B
  clear B
  refine t 3 (.int .i64 0) ?_
  refine gl_nil ?_
  refine ge_then ?_
  refine gc_seq ?_
  refine gc_seq ?_
  refine gc_reg ?_
  refine t 6 (.slice ao n c) ?_
  refine t 7 (.int .i64 ((n : Nat) : Int)) ?_
  by_cases c3 : (65536 : Int) < ((n : Nat) : Int)
  · refine tq 8 (.bool (decide ((65536 : Int) < ((n : Nat) : Int)))) (.bool true) (congrArg Value.bool (decide_eq_true c3)) ?_
    refine gl_nil ?_
    refine ge_then ?_
    refine gc_yes ?_
    refine gc_seq ?_
    refine gc_reg ?_
    refine t 9 (.agg #[.int .u64 0, .int .u64 0, .int .u64 0, .int .u64 0, .int .u64 0, .int .u64 0, .int .u64 0, .int .u64 0, .int .u64 0, .int .u64 0, .slice none 0 0, .slice none 0 0]) ?_
    refine ts Xg2 0 (.agg #[.int .u64 0, .int .u64 0, .int .u64 0, .int .u64 0, .int .u64 0, .int .u64 0, .int .u64 0, .int .u64 0, .int .u64 0, .int .u64 0, .slice none 0 0, .slice none 0 0]) [.int .u64 0, .int .u64 0, .int .u64 0, .int .u64 0, .int .u64 0, .int .u64 0, .int .u64 0, .int .u64 0, .int .u64 0, .int .u64 0, .slice none 0 0, .slice none 0 0] [.int .u64 0, .int .u64 0, .int .u64 0, .int .u64 0, .int .u64 0, .int .u64 0, .int .u64 0, .int .u64 0, .int .u64 0, .int .u64 0, .slice none 0 0, .slice none 0 0] ?_
    intro v4 Y C
    replace BB := belowC BB C (by omega)
    clear C Xg2
    have Xg2 := Y
    clear Y
    refine t 3 (.int .i64 211) ?_
    refine gl_nil ?_
    refine ge_then ?_
    refine gc_ret ?_
    refine ge_tr ?_
    refine ge_ret (.tuple #[.agg #[.int .u64 0, .int .u64 0, .int .u64 0, .int .u64 0, .int .u64 0, .int .u64 0, .int .u64 0, .int .u64 0, .int .u64 0, .int .u64 0, .slice none 0 0, .slice none 0 0], .int .i64 211]) (rsct 2 3 (T := 28) (by kernel_rfl) (by kernel_rfl) (by kernel_rfl) (lr Xg2 0)) ?_
    have E := eD_big (l := l) (by omega)
    rw [E]
    exact ⟨_, rfl, by rw [if_neg (by decide)]; exact ⟨⟨0, 0, 0, 0, 0, 0, 0, 0, 0, 0, none, 0, 0, none, 0, 0, rfl, rfl, ⟨.inl ⟨rfl, rfl, rfl⟩⟩, ⟨.inl ⟨rfl, rfl, rfl⟩⟩⟩⟩, BB⟩
  · refine tq 8 (.bool (decide ((65536 : Int) < ((n : Nat) : Int)))) (.bool false) (congrArg Value.bool (decide_eq_false c3)) ?_
    refine gl_nil ?_
    refine ge_then ?_
    refine gc_no ?_
    refine gc_skip ?_
    refine ge_then ?_
    refine gc_seq ?_
    refine gc_reg ?_
    refine t 10 (.slice ao n c) ?_
    have lXg2 := Xg2.lt
    have sB := BB.size
    refine tc 11 17 #[.slice ao n c] (newR_any (A.keep BB) (by omega)) ?_
    rintro _ v5 ⟨r, q, br, rfl, ⟨hr, hq, hrq⟩, X, RD, B⟩
    refine ⟨_, rfl, ?_⟩
    replace BB := joinB BB B
    replace Xg2 := Xg2.keep B
    clear B
    have lRD := RD.lt
    have lXr := X.lt
    have hr0 := Nat.le_trans sB hr
    have hq0 := Nat.le_trans sB hq
    refine t 4 (pg r) ?_
    refine gl_nil ?_
    refine ge_then ?_
    refine gc_seq ?_
    refine gc_reg ?_
    refine t 12 (pg r) ?_
    have lXg2 := Xg2.lt
    have lRD := RD.lt
    have lX := X.lt
    
    refine tc 13 18 #[pg r] (head_any (s := ((0 : Int), l)) X RD hrq) ?_
    rintro _ v6 ⟨v, s1, E1, rfl, X2, RX, C⟩
    refine ⟨_, rfl, ?_⟩
    replace BB := vBl BB C (by omega) (by omega)
    replace Xg2 := bV Xg2 C (by omega)
    clear C
    clear X RD
    have X := X2
    have RD := RX
    clear X2 RX
    refine gl_nil ?_
    refine ge_then ?_
    refine gc_seq ?_
    refine gc_reg ?_
    refine t 14 (pg r) ?_
    have lXg2 := Xg2.lt
    have lRD := RD.lt
    have lX := X.lt
    
    refine tc 15 19 #[pg r] (rParams (s := s1) X RD hrq) ?_
    rintro _ v7 ⟨x0, x1, x2, x3, x4, x5, x6, x7, x8, x9, s2, E2, rfl, RX, U⟩
    refine ⟨_, rfl, ?_⟩
    replace BB := But.below U BB (by omega) (Nat.le_refl _)
    replace Xg2 := But.blk U Xg2 (show g2 ≠ q by omega)
    replace X := But.blk U X (show r ≠ q by omega)
    clear U
    clear RD
    have RD := RX
    clear RX
    refine t 16 (.agg #[.int .u64 x0, .int .u64 x1, .int .u64 x2, .int .u64 x3, .int .u64 x4, .int .u64 x5, .int .u64 x6, .int .u64 x7, .int .u64 x8, .int .u64 x9, .slice none 0 0, .slice none 0 0]) ?_
    have lXg2 := Xg2.lt
    have lRD := RD.lt
    have lX := X.lt
    refine ta 5 [.int .u64 0, .int .u64 0, .int .u64 0, .int .u64 0, .int .u64 0, .int .u64 0, .int .u64 0, .int .u64 0, .int .u64 0, .int .u64 0, .slice none 0 0, .slice none 0 0] 28 (pg) ?_
    intro v8 g9 Xg9 hg9 B
    have zg9 := Nat.le_trans BB.size hg9
    replace BB := joinB BB B
    replace Xg2 := Xg2.keep B
    replace RD := RD.keep B
    replace X := X.keep B
    clear B
    refine ts Xg9 0 (.agg #[.int .u64 x0, .int .u64 x1, .int .u64 x2, .int .u64 x3, .int .u64 x4, .int .u64 x5, .int .u64 x6, .int .u64 x7, .int .u64 x8, .int .u64 x9, .slice none 0 0, .slice none 0 0]) [.int .u64 x0, .int .u64 x1, .int .u64 x2, .int .u64 x3, .int .u64 x4, .int .u64 x5, .int .u64 x6, .int .u64 x7, .int .u64 x8, .int .u64 x9, .slice none 0 0, .slice none 0 0] [.int .u64 x0, .int .u64 x1, .int .u64 x2, .int .u64 x3, .int .u64 x4, .int .u64 x5, .int .u64 x6, .int .u64 x7, .int .u64 x8, .int .u64 x9, .slice none 0 0, .slice none 0 0] ?_
    intro v10 Y C
    replace BB := belowC BB C (by omega)
    replace Xg2 := Xg2.chg C (show g2 ≠ g9 by omega)
    replace RD := RdA.offB RD Xg9 (by first | rfl | exact cR_nou _ _ _) (by omega) (chg_but C)
    replace X := X.chg C (show r ≠ g9 by omega)
    clear C Xg9
    have Xg9 := Y
    clear Y
    refine gl_nil ?_
    refine ge_then ?_
    refine gc_seq ?_
    refine gc_reg ?_
    refine t 17 (pg r) ?_
    refine t 18 (pg r) ?_
    refine t 19 (.func (.func 21) #[pg r] #[]) ?_
    have lXg2 := Xg2.lt
    have lRD := RD.lt
    have lX := X.lt
    have lXg9 := Xg9.lt
    
    refine tc 20 20 #[pg r, .int .u32 256, .func (.func 21) #[pg r] #[]] (readP (s := s2) X RD hrq) ?_
    rintro _ v11 ⟨la1, lm1, lg1, ln1, A1, s3, F1, rfl, X2, RX, C, D1⟩
    refine ⟨_, rfl, ?_⟩
    replace BB := vBl BB C (by omega) (by omega)
    replace Xg2 := bV Xg2 C (by omega)
    replace Xg9 := bV Xg9 C (by omega)
    clear C
    clear X RD
    have X := X2
    have RD := RX
    clear X2 RX
    replace D1 : Ls v10.heap.size _ la1 lm1 lg1 2 A1 43 := ⟨D1⟩
    have sD1 := BB.size
    refine t 21 (pq g9 10) ?_
    refine ts Xg9 10 (.slice la1 lm1 lm1) [.slice la1 lm1 lm1] [.int .u64 x0, .int .u64 x1, .int .u64 x2, .int .u64 x3, .int .u64 x4, .int .u64 x5, .int .u64 x6, .int .u64 x7, .int .u64 x8, .int .u64 x9, .slice la1 lm1 lm1, .slice none 0 0] ?_
    intro v12 Y C
    replace BB := belowC BB C (by omega)
    replace Xg2 := Xg2.chg C (show g2 ≠ g9 by omega)
    replace RD := RdA.offB RD Xg9 (by first | rfl | exact cR_nou _ _ _) (by omega) (chg_but C)
    replace X := X.chg C (show r ≠ g9 by omega)
    replace D1 := D1.chg C (fun b h => by have h : b = g9 := h; omega)
    clear C Xg9
    have Xg9 := Y
    clear Y
    refine gl_nil ?_
    refine ge_then ?_
    refine gc_fr [(2, pg g2), (3, .int .i64 0), (4, pg r), (5, pg g9)] (by kernel_rfl) ?_
    refine gc_seq ?_
    refine gc_reg ?_
    refine t 22 (pg r) ?_
    refine t 23 (pg r) ?_
    refine t 24 (.func (.func 23) #[pg r] #[]) ?_
    have lXg2 := Xg2.lt
    have lRD := RD.lt
    have lX := X.lt
    have lXg9 := Xg9.lt
    
    refine tc 25 22 #[pg r, .int .u32 64, .func (.func 23) #[pg r] #[]] (readF (s := s3) X RD hrq) ?_
    rintro _ v13 ⟨la2, lm2, lg2, ln2, A2, s4, F2, rfl, X2, RX, C, D2⟩
    refine ⟨_, rfl, ?_⟩
    replace BB := vBl BB C (by omega) (by omega)
    replace Xg2 := bV Xg2 C (by omega)
    replace Xg9 := bV Xg9 C (by omega)
    replace D1 := D1.chg C (fun b h => by rcases h with h | h <;> omega)
    clear C
    clear X RD
    have X := X2
    have RD := RX
    clear X2 RX
    replace D2 : Ls v12.heap.size _ la2 lm2 lg2 3 A2 45 := ⟨D2⟩
    have sD2 := BB.size
    refine t 26 (pq g9 11) ?_
    refine ts Xg9 11 (.slice la2 lm2 lm2) [.slice la2 lm2 lm2] [.int .u64 x0, .int .u64 x1, .int .u64 x2, .int .u64 x3, .int .u64 x4, .int .u64 x5, .int .u64 x6, .int .u64 x7, .int .u64 x8, .int .u64 x9, .slice la1 lm1 lm1, .slice la2 lm2 lm2] ?_
    intro v14 Y C
    replace BB := belowC BB C (by omega)
    replace Xg2 := Xg2.chg C (show g2 ≠ g9 by omega)
    replace RD := RdA.offB RD Xg9 (by first | rfl | exact cR_nou _ _ _) (by omega) (chg_but C)
    replace X := X.chg C (show r ≠ g9 by omega)
    replace D1 := D1.chg C (fun b h => by have h : b = g9 := h; omega)
    replace D2 := D2.chg C (fun b h => by have h : b = g9 := h; omega)
    clear C Xg9
    have Xg9 := Y
    clear Y
    refine gl_nil ?_
    refine ge_then ?_
    refine gc_seq ?_
    refine gc_seq ?_
    refine gc_reg ?_
    refine t 27 (pg r) ?_
    have lXg2 := Xg2.lt
    have lRD := RD.lt
    have lX := X.lt
    have lXg9 := Xg9.lt
    
    refine tc 28 24 #[pg r] (whole_any (s := s4) X RD hrq) ?_
    rintro _ v15 ⟨rfl, RX, U⟩
    refine ⟨_, rfl, ?_⟩
    replace BB := But.below U BB (by omega) (Nat.le_refl _)
    replace Xg2 := But.blk U Xg2 (show g2 ≠ q by omega)
    replace X := But.blk U X (show r ≠ q by omega)
    replace Xg9 := But.blk U Xg9 (show g9 ≠ q by omega)
    replace D1 := D1.chg (chgU U) (fun b h => by have h : b = q := h; omega)
    replace D2 := D2.chg (chgU U) (fun b h => by have h : b = q := h; omega)
    clear U
    clear RD RX
    refine t 29 (.bool (!(decide (endE s4.1 s4.2 = 0) && !(((false || (v != 1196183089)) || !decide (ln1 ≤ 256)) || !decide (ln2 ≤ 64))))) ?_
    refine gl_nil ?_
    refine ge_then ?_
    rcases Bool.eq_false_or_eq_true (!(decide (endE s4.1 s4.2 = 0) && !(((false || (v != 1196183089)) || !decide (ln1 ≤ 256)) || !decide (ln2 ≤ 64)))) with b16 | b16
    · refine gc_yes (hc := congrArg Value.bool b16) ?_
      refine gc_seq ?_
      refine gc_reg ?_
      refine t 30 (.agg #[.int .u64 0, .int .u64 0, .int .u64 0, .int .u64 0, .int .u64 0, .int .u64 0, .int .u64 0, .int .u64 0, .int .u64 0, .int .u64 0, .slice none 0 0, .slice none 0 0]) ?_
      refine ts Xg2 0 (.agg #[.int .u64 0, .int .u64 0, .int .u64 0, .int .u64 0, .int .u64 0, .int .u64 0, .int .u64 0, .int .u64 0, .int .u64 0, .int .u64 0, .slice none 0 0, .slice none 0 0]) [.int .u64 0, .int .u64 0, .int .u64 0, .int .u64 0, .int .u64 0, .int .u64 0, .int .u64 0, .int .u64 0, .int .u64 0, .int .u64 0, .slice none 0 0, .slice none 0 0] [.int .u64 0, .int .u64 0, .int .u64 0, .int .u64 0, .int .u64 0, .int .u64 0, .int .u64 0, .int .u64 0, .int .u64 0, .int .u64 0, .slice none 0 0, .slice none 0 0] ?_
      intro v17 Y C
      replace BB := belowC BB C (by omega)
      replace X := X.chg C (show r ≠ g2 by omega)
      replace Xg9 := Xg9.chg C (show g9 ≠ g2 by omega)
      replace D1 := D1.chg C (fun b h => by have h : b = g2 := h; omega)
      replace D2 := D2.chg C (fun b h => by have h : b = g2 := h; omega)
      clear C Xg2
      have Xg2 := Y
      clear Y
      refine t 3 (.int .i64 210) ?_
      refine gl_nil ?_
      refine ge_then ?_
      refine gc_ret ?_
      refine ge_tr ?_
      refine ge_ret (.tuple #[.agg #[.int .u64 0, .int .u64 0, .int .u64 0, .int .u64 0, .int .u64 0, .int .u64 0, .int .u64 0, .int .u64 0, .int .u64 0, .int .u64 0, .slice none 0 0, .slice none 0 0], .int .i64 210]) (rsct 2 3 (T := 28) (by kernel_rfl) (by kernel_rfl) (by kernel_rfl) (lr Xg2 0)) ?_
      obtain ⟨z1, z2, z3⟩ := d_mk E1 E2 F1 F2
      have E := eD_val (l := l) (by omega) (b := false) (by rw [z2, z3]; revert b16; cases (decide (endE s4.1 s4.2 = 0) && !(((false || (v != 1196183089)) || !decide (ln1 ≤ 256)) || !decide (ln2 ≤ 64))) <;> simp)
      rw [E]
      exact ⟨_, rfl, by rw [if_neg (by decide)]; exact ⟨⟨0, 0, 0, 0, 0, 0, 0, 0, 0, 0, none, 0, 0, none, 0, 0, rfl, rfl, ⟨.inl ⟨rfl, rfl, rfl⟩⟩, ⟨.inl ⟨rfl, rfl, rfl⟩⟩⟩⟩, BB⟩
    · refine gc_no (hc := congrArg Value.bool b16) ?_
      refine gc_skip ?_
      refine ge_then ?_
      refine gc_seq ?_
      refine gc_reg ?_
      refine tlr 31 [.int .u64 x0, .int .u64 x1, .int .u64 x2, .int .u64 x3, .int .u64 x4, .int .u64 x5, .int .u64 x6, .int .u64 x7, .int .u64 x8, .int .u64 x9, .slice la1 lm1 lm1, .slice la2 lm2 lm2] Xg9 0 ?_
      refine ts Xg2 0 (.agg #[.int .u64 x0, .int .u64 x1, .int .u64 x2, .int .u64 x3, .int .u64 x4, .int .u64 x5, .int .u64 x6, .int .u64 x7, .int .u64 x8, .int .u64 x9, .slice la1 lm1 lm1, .slice la2 lm2 lm2]) [.int .u64 x0, .int .u64 x1, .int .u64 x2, .int .u64 x3, .int .u64 x4, .int .u64 x5, .int .u64 x6, .int .u64 x7, .int .u64 x8, .int .u64 x9, .slice la1 lm1 lm1, .slice la2 lm2 lm2] [.int .u64 x0, .int .u64 x1, .int .u64 x2, .int .u64 x3, .int .u64 x4, .int .u64 x5, .int .u64 x6, .int .u64 x7, .int .u64 x8, .int .u64 x9, .slice la1 lm1 lm1, .slice la2 lm2 lm2] ?_
      intro v18 Y C
      replace BB := belowC BB C (by omega)
      replace X := X.chg C (show r ≠ g2 by omega)
      replace Xg9 := Xg9.chg C (show g9 ≠ g2 by omega)
      replace D1 := D1.chg C (fun b h => by have h : b = g2 := h; omega)
      replace D2 := D2.chg C (fun b h => by have h : b = g2 := h; omega)
      clear C Xg2
      have Xg2 := Y
      clear Y
      refine t 3 (.int .i64 0) ?_
      refine gl_nil ?_
      refine ge_then ?_
      clear Xg9
      refine gc_ret ?_
      refine ge_ret (.tuple #[.agg #[.int .u64 x0, .int .u64 x1, .int .u64 x2, .int .u64 x3, .int .u64 x4, .int .u64 x5, .int .u64 x6, .int .u64 x7, .int .u64 x8, .int .u64 x9, .slice la1 lm1 lm1, .slice la2 lm2 lm2], .int .i64 0]) (rsct 2 3 (T := 28) (by kernel_rfl) (by kernel_rfl) (by kernel_rfl) (lr Xg2 0)) ?_
      obtain ⟨z1, z2, z3⟩ := d_mk E1 E2 F1 F2
      have E := eD_val (l := l) (by omega) (b := true) (by rw [z2, z3]; revert b16; cases (decide (endE s4.1 s4.2 = 0) && !(((false || (v != 1196183089)) || !decide (ln1 ≤ 256)) || !decide (ln2 ≤ 64))) <;> simp)
      rw [E]
      exact ⟨_, rfl, by rw [if_pos rfl, z1]; exact ⟨⟨_, _, _, _, _, _, _, _, _, _, _, _, lg1, _, _, lg2, rfl, rfl, D1.low (by omega), D2.low (by omega)⟩⟩, BB⟩
end Gn
end Go.Proofs.YtpoifdokmjhclaaGreat

namespace Go.Proofs.YtpoifdokmjhclaaGreat
namespace Mg
open Go.RowKit Go.Lib Pg Lim Gl
attribute [local go_sem] Oper.semAt_some
abbrev TX (s q f m a b n : Int) : Value := .agg #[.int .u64 s, .int .u64 q, .int .u64 f, .int .i64 m, .int .u64 a, .int .u64 b, .int .u64 n]
end Mg
end Go.Proofs.YtpoifdokmjhclaaGreat

namespace Go.Proofs.YtpoifdokmjhclaaGreat
namespace Mg
open Go.RowKit Go.Lib Pg Lim Gl
set_option maxRecDepth 100000
set_option linter.unusedVariables false
set_option maxHeartbeats 2000000
def usL : List Value := [.bool false, .bool false, .bool false, .bool false, .bool true, .bool false, .bool true, .bool true, .bool true, .bool false, .bool true, .bool true, .bool true, .bool false, .bool true, .bool true, .bool true, .bool false, .bool true, .bool true, .bool true, .bool true, .bool true, .bool true, .bool true, .bool false, .bool false, .bool true, .bool false, .bool false, .bool false, .bool true, .bool false, .bool false, .bool false, .bool true, .bool false, .bool false, .bool true, .bool true, .bool true, .bool false, .bool true, .bool true]
end Mg
end Go.Proofs.YtpoifdokmjhclaaGreat

namespace Go.Proofs.YtpoifdokmjhclaaGreat
namespace Mg
open Go.RowKit Go.Lib Pg Lim Gl
set_option maxRecDepth 100000
set_option linter.unusedVariables false
set_option linter.unusedSimpArgs false
set_option maxHeartbeats 2000000
theorem okM_eq (m a b n : Int) : ((((a != 0) && uA m) == (a != 0)) && ((((b != 0) && uB m) == (b != 0)) && ((((n != 0) && uN m) == (n != 0)) && ((true && uK m) == true)))) = okM m a b n := by
  unfold okM
  by_cases ha : a = 0 <;> by_cases hb : b = 0 <;> by_cases hn : n = 0 <;> cases uA m <;> cases uB m <;> cases uN m <;> cases uK m <;> simp [ha, hb, hn]
theorem ok1 {i : It} (h : i.k = 1) (f : i.z = 0 ∧ i.v = 0 ∧ i.h = 0) : okM i.m i.a i.b i.n = decide (Ok i) := by
  rw [Bool.eq_iff_iff, decide_eq_true_iff]
  exact ⟨fun o => .inl ⟨h, f, o⟩, fun o => o.elim (fun q => q.2.2) (fun q => by have := q.1; omega)⟩
theorem ok2 {i : It} (h : i.k = 1) (f : ¬ (i.z = 0 ∧ i.v = 0 ∧ i.h = 0)) : false = decide (Ok i) := by
  symm
  rw [decide_eq_false_iff_not]
  exact fun o => o.elim (fun q => f q.2.1) (fun q => by have := q.1; omega)
abbrev NT (i : It) : Prop := i.s = 0 ∧ i.q = 0 ∧ i.f = 0 ∧ i.m = 0 ∧ i.a = 0 ∧ i.b = 0 ∧ i.n = 0
theorem ok3 {i : It} (h : i.k = 2) (t : NT i) (z0 : 0 ≤ i.z) (z1 : i.z ≤ 255) : true = decide (Ok i) := by
  symm
  rw [decide_eq_true_iff]
  exact .inr ⟨h, t, z0, z1⟩
theorem ok4 {i : It} (h : i.k = 2) (t : NT i → 0 ≤ i.z → ¬ i.z ≤ 255) : false = decide (Ok i) := by
  symm
  rw [decide_eq_false_iff_not]
  exact fun o => o.elim (fun q => by have := q.1; omega) (fun q => t q.2.1 q.2.2.1 q.2.2.2)
theorem ok5 {i : It} (h : ¬ i.k = 1) (h2 : ¬ i.k = 2) : false = decide (Ok i) := by
  symm
  rw [decide_eq_false_iff_not]
  exact fun o => o.elim (fun q => h q.1) (fun q => h2 q.1)
theorem Ok.msg {i : It} (h : Ok i) (k : i.k = 1) : okM i.m i.a i.b i.n = true := h.elim (fun q => q.2.2) (fun q => by have := q.1; omega)
theorem Ok.two {i : It} (h : Ok i) (k : ¬ i.k = 1) : i.k = 2 ∧ 0 ≤ i.z ∧ i.z < 256 := h.elim (fun q => absurd q.1 k) (fun q => ⟨q.1, q.2.2.1, by have := q.2.2.2; omega⟩)
theorem okM_byte {m a b n : Int} (h : okM m a b n = true) : 0 ≤ m ∧ m < 256 := by
  have := uK_rng (okM_is h).1
  omega
def bsT (i : It) : List Int := be 1 84 ++ (be 8 i.s ++ (be 8 i.q ++ (be 8 i.f ++ bsM i.m i.a i.b i.n)))
def bsF (i : It) : List Int := be 1 70 ++ (be 1 i.z ++ (be 8 i.v ++ be 8 i.h))
theorem bs_t {i : It} (h : i.k = 1) : [] ++ bsT i = bs i := by unfold bs; rw [if_pos h]; rfl
theorem bs_f {i : It} (h : ¬ i.k = 1) : [] ++ bsF i = bs i := by unfold bs; rw [if_neg h]; rfl
theorem rq_t {c : Bool} {s s' : St} {x : Int} (h : c = true) (e : rU 8 s = (x, s')) : rQ c s = (x, s') := by unfold rQ; rw [if_pos h]; exact e
theorem rq_f {c : Bool} {s : St} (h : c = false) : rQ c s = (0, s) := by unfold rQ; rw [if_neg (by rw [h]; decide)]
theorem rM_mk {s s0 s1 s2 s3 : St} {k a b n : Int} (e0 : rU 1 s = (k, s0)) (e1 : rQ (uA k) s0 = (a, s1)) (e2 : rQ (uB k) s1 = (b, s2)) (e3 : rQ (uN k) s2 = (n, s3)) : rM s = ((k, a, b, n), s3) := by
  simp only [rM, e0, e1, e2, e3]
theorem rT_mk {s s0 s1 s2 s3 : St} {x y z m a b n : Int} (e0 : rU 8 s = (x, s0)) (e1 : rU 8 s0 = (y, s1)) (e2 : rU 8 s1 = (z, s2)) (e3 : rM s2 = ((m, a, b, n), s3)) : rT s = (⟨1, x, y, z, m, a, b, n, 0, 0, 0⟩, s3) := by
  simp only [rT, e0, e1, e2, e3]
theorem rF_mk {s s0 s1 s2 : St} {x y z : Int} (e0 : rU 1 s = (x, s0)) (e1 : rU 8 s0 = (y, s1)) (e2 : rU 8 s1 = (z, s2)) : rF s = (⟨2, 0, 0, 0, 0, 0, 0, 0, x, y, z⟩, s2) := by
  simp only [rF, e0, e1, e2]
theorem rI_t {s s0 : St} {x : Int} {p : It × St} (e0 : rU 1 s = (x, s0)) (h : x = 84) (e : rT s0 = p) : rI s = p := by
  simp only [rI, e0, if_pos h, e]
theorem rI_f {s s0 : St} {x : Int} {p : It × St} (e0 : rU 1 s = (x, s0)) (h : x = 70) (e : rF s0 = p) : rI s = p := by
  simp only [rI, e0]
  rw [if_neg (by omega), if_pos h, e]
theorem rI_o {s s0 : St} {x : Int} (e0 : rU 1 s = (x, s0)) (h : ¬ x = 84) (h2 : ¬ x = 70) : rI s = (It.zero, s0) := by
  simp only [rI, e0]
  rw [if_neg h, if_neg h2]
theorem dI_1 {l : List Int} (h : 1024 < l.length) : (It.zero, (171 : Int)) = dI l := by unfold dI; rw [if_pos h]
theorem dI_2 {l : List Int} {i : It} {s : St} (h : ¬ 1024 < l.length) (e : rI (0, l) = (i, s)) (q : ¬ (endE s.1 s.2 = 0 ∧ Ok i)) : (It.zero, (170 : Int)) = dI l := by unfold dI; rw [if_neg h, e, if_neg q]
theorem dI_3 {l : List Int} {i : It} {s : St} (h : ¬ 1024 < l.length) (e : rI (0, l) = (i, s)) (q : endE s.1 s.2 = 0 ∧ Ok i) : (i, (0 : Int)) = dI l := by unfold dI; rw [if_neg h, e, if_pos q]
theorem rs3 {P : Program} {n : Nat} {l : Fr} {w : World} {fn : Func} (i j k : Nat) {t u v : Value} (h : fn.results = #[.tmp i, .tmp j, .tmp k]) (ht : lk l i = some t) (hu : lk l j = some u) (hv : lk l k = some v) (a : Act) (r : Rd n [] l a) : (results fn a.tmps).run P w = .ok (.tuple #[t, u, v]) w := by
  have h0 := r.gD ht
  have h1 := r.gD hu
  have h2 := r.gD hv
  simp at h0 h1 h2
  simp [results, h, h0, h1, h2]
theorem RdA.len {w : World} {g b : Nat} {err : Int} {l : List Int} (h : RdA w g b err l) : l.length ≤ 9223372036854775807 := by
  obtain ⟨ao, n, c, X, A⟩ := h.ex
  obtain ⟨o, h1, h2, h3, h4, h5⟩ := A.ex
  have := h3.1
  omega
end Mg
end Go.Proofs.YtpoifdokmjhclaaGreat
