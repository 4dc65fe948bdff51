/- Several texts, joined: GnD, MgT, MgC, MgD, MgU, RcU. -/
import Derived.Test.YtpoifdokmjhclaaGreatJyo
import Derived.Test.YtpoifdokmjhclaaGreatJyb
import Derived.Test.YtpoifdokmjhclaaGreatJye
import Derived.Test.YtpoifdokmjhclaaGreatJyl
import Derived.Test.YtpoifdokmjhclaaGreatJyd
namespace Go.Proofs.YtpoifdokmjhclaaGreat
namespace Gn
open Go.RowKit Go.Lib Pg Lim Gl Mg
attribute [local go_sem] Oper.semAt_some
set_option maxRecDepth 100000
set_option linter.unusedVariables false
set_option linter.unusedSimpArgs false
set_option maxHeartbeats 2000000
/-- a list of its own, from B on: m elements of k numbers each -/
structure Ls (B : Nat) (w : World) (ao : Option Addr) (m gl k : Nat) (A : List Int) (T : TypeId) : Prop where
  ex : (ao = none ∧ m = 0 ∧ A = []) ∨ (ao = some ⟨gl, 0, none⟩ ∧ B ≤ gl ∧ Blk w gl (A.map (Value.int .u64)) T ∧ A.length = m * k)
theorem Ls.chg {B : Nat} {w w' : World} {F : Nat → Prop} {ao : Option Addr} {m gl k : Nat} {A : List Int} {T : TypeId} (h : Ls B w ao m gl k A T) (c : Chg F w w') (hF : ∀ b, F b → b < B) : Ls B w' ao m gl k A T := ⟨h.ex.imp id fun q => ⟨q.1, q.2.1, q.2.2.1.chg c (fun e => by have := hF _ e; have := q.2.1; omega), q.2.2.2⟩⟩
theorem Ls.low {B B' : Nat} {w : World} {ao : Option Addr} {m gl k : Nat} {A : List Int} {T : TypeId} (h : Ls B w ao m gl k A T) (hB : B' ≤ B) : Ls B' w ao m gl k A T := ⟨h.ex.imp id fun q => ⟨q.1, Nat.le_trans hB q.2.1, q.2.2⟩⟩
theorem Ls.len {B : Nat} {w : World} {ao : Option Addr} {m gl k : Nat} {A : List Int} {T : TypeId} (h : Ls B w ao m gl k A T) : A.length = m * k := h.ex.elim (fun q => by rw [q.2.1, q.2.2]; simp) (fun q => q.2.2.2)
theorem Ls.nl {B : Nat} {w : World} {ao : Option Addr} {m gl k : Nat} {A : List Int} {T : TypeId} (h : Ls B w ao m gl k A T) (hr : ∀ x ∈ A, In8 x) : Nl w ao m k gl 0 A := by
  refine ⟨h.len, fun hm => ?_, fun i hi => ?_, hr⟩
  · rcases h.ex with q | q
    · have := q.2.1; omega
    · exact q.1
  · rcases h.ex with q | q
    · rw [q.2.1] at hi; omega
    · have hl := h.len
      have := q.2.2.1.cell (i := 0 + i) (v := .int .u64 (nth A i)) (by rw [Nat.zero_add, List.getElem?_map, List.getElem?_eq_getElem (by omega), Option.map_some, nth_eq (by omega)])
      exact this
def zG : Ge := ⟨[0, 0, 0, 0, 0, 0, 0, 0, 0, 0], [], []⟩
/-- a genesis as a value, its lists in memory of their own -/
structure GeV (B : Nat) (w : World) (v : Value) (g : Ge) : Prop where
  ex : ∃ p0 p1 p2 p3 p4 p5 p6 p7 p8 p9 a1 m1 g1 a2 m2 g2, v = .agg #[.int .u64 p0, .int .u64 p1, .int .u64 p2, .int .u64 p3, .int .u64 p4, .int .u64 p5, .int .u64 p6, .int .u64 p7, .int .u64 p8, .int .u64 p9, .slice a1 m1 m1, .slice a2 m2 m2] ∧ g.p = [p0, p1, p2, p3, p4, p5, p6, p7, p8, p9] ∧ Ls B w a1 m1 g1 2 g.a 43 ∧ Ls B w a2 m2 g2 3 g.v 45
theorem d_mk {l : List Int} {v n m : Int} {P A V : List Int} {s1 s2 s3 s4 : St} (e1 : rU 4 (0, l) = (v, s1)) (e2 : rN 10 s1 = (P, s2)) (e3 : rL 256 2 s2 = ((n, A), s3)) (e4 : rL 64 3 s3 = ((m, V), s4)) : gD l = ⟨P, A, V⟩ ∧ sV l = s4 ∧ wrongG l = (((false || (v != 1196183089)) || !decide (n ≤ 256)) || !decide (m ≤ 64)) := by
  have h1 : sH l = s1 := by unfold sH; rw [e1]
  have h2 : sP l = s2 := by unfold sP; rw [h1, e2]
  have h3 : sA l = s3 := by unfold sA; rw [h2, e3]
  have h4 : sV l = s4 := by unfold sV; rw [h3, e4]
  refine ⟨by unfold gD; rw [h1, h2, h3, e2, e3, e4], h4, ?_⟩
  unfold wrongG bad
  rw [e1, h2, h3, e3, e4]
  by_cases hv : v = mk0
  · subst hv; simp [mk0]
  · have : (v != 1196183089) = true := by simpa [mk0] using hv
    simp [this, hv]
theorem eD_big {l : List Int} (h : 65536 < l.length) : eD l = 211 := by unfold eD; rw [if_pos h]
theorem eD_val {l : List Int} (h : ¬ 65536 < l.length) {b : Bool} (hb : (decide (endE (sV l).1 (sV l).2 = 0) && !wrongG l) = b) : eD l = if b then 0 else 210 := by
  unfold eD
  rw [if_neg h]
  subst hb
  by_cases h1 : endE (sV l).1 (sV l).2 = 0 <;> cases h2 : wrongG l <;> simp [h1]
theorem newR_any {w : World} {b n c : Nat} {ao : Option Addr} {l : List Int} (A : ByA w b ao n c l) (hn : n ≤ 1000000000) : Calls Tryz.prog 17 #[.slice ao n c] w fun e w' => ∃ r q br, e = .returned (pg r) ∧ (w.heap.size ≤ r ∧ w.heap.size ≤ q ∧ r ≠ q) ∧ Blk w' r [pg q, .bool false] 108 ∧ RdA w' q br ((0 : Int), l).1 ((0 : Int), l).2 ∧ Below w.heap.size w w' := by
  have BB := Below.refl w.heap.size w
  refine gc_enter (n := 7) Tryz.func17 rfl (by kernel_rfl) (by kernel_rfl) ?_
  refine gc_seq ?_
  refine gc_reg ?_
  refine t 2 (.pointer none) ?_
  refine gl_nil ?_
  refine ge_then ?_
  refine gc_seq ?_
  refine gc_reg ?_
  refine t 3 (.slice ao n c) ?_
  refine tc 4 44 #[.slice ao n c] (rdNew2 A (by omega)) ?_
  rintro _ v1 ⟨q, br, rfl, ⟨hq, -, -⟩, RD0, B⟩
  refine ⟨_, rfl, ?_⟩
  replace BB := joinB BB B
  clear B
  have RD : RdA _ q br ((0 : Int), l).1 ((0 : Int), l).2 := RD0
  clear RD0
  have lRD := RD.lt
  refine t 5 (.agg #[pg q, .bool false]) ?_
  refine ta 6 [pg q, .bool false] 108 (pg) ?_
  intro v2 r X hr B
  have hr0 := Nat.le_trans BB.size hr
  have hrq : r ≠ q := by omega
  replace BB := joinB BB B
  replace RD := RD.keep B
  clear B
  refine t 2 (pg r) ?_
  refine gl_nil ?_
  refine ge_then ?_
  refine gc_ret ?_
  refine ge_ret (pg r) (rs1 2 (by kernel_rfl) (by kernel_rfl)) ?_
  exact ⟨r, q, br, rfl, ⟨hr0, hq, hrq⟩, X, RD, BB⟩
theorem decode_any {w : World} {b n c : Nat} {ao : Option Addr} {l : List Int} (A : ByA w b ao n c l) (hn : n ≤ 1000000000) : Calls Tryz.prog 8 #[.slice ao n c] w fun e w' => ∃ v, e = .returned (.tuple #[v, .int .i64 (eD l)]) ∧ GeV w.heap.size w' v (if eD l = 0 then gD l else zG) ∧ Below w.heap.size w w' := by
  have BB := Below.refl w.heap.size w
  have hl : l.length = n := by
    obtain ⟨o, h1, _⟩ := A.ex
    exact h1
  refine gc_enter (n := 32) Tryz.func8 rfl (by kernel_rfl) (by kernel_rfl) ?_
  refine gc_seq ?_
  refine gc_reg ?_
  refine ta 2 [.int .u64 0, .int .u64 0, .int .u64 0, .int .u64 0, .int .u64 0, .int .u64 0, .int .u64 0, .int .u64 0, .int .u64 0, .int .u64 0, .slice none 0 0, .slice none 0 0] 28 (pg) ?_
  intro v1 g2 Xg2 hg2 B
  have zg2 := Nat.le_trans BB.size hg2
  replace BB := joinB BB B
  clear B
  refine t 3 (.int .i64 0) ?_
  refine gl_nil ?_
  refine ge_then ?_
  refine gc_seq ?_
  refine gc_seq ?_
  refine gc_reg ?_
  refine t 6 (.slice ao n c) ?_
  refine t 7 (.int .i64 ((n : Nat) : Int)) ?_
  by_cases c3 : (65536 : Int) < ((n : Nat) : Int)
  · refine tq 8 (.bool (decide ((65536 : Int) < ((n : Nat) : Int)))) (.bool true) (congrArg Value.bool (decide_eq_true c3)) ?_
    refine gl_nil ?_
    refine ge_then ?_
    refine gc_yes ?_
    refine gc_seq ?_
    refine gc_reg ?_
    refine t 9 (.agg #[.int .u64 0, .int .u64 0, .int .u64 0, .int .u64 0, .int .u64 0, .int .u64 0, .int .u64 0, .int .u64 0, .int .u64 0, .int .u64 0, .slice none 0 0, .slice none 0 0]) ?_
    refine ts Xg2 0 (.agg #[.int .u64 0, .int .u64 0, .int .u64 0, .int .u64 0, .int .u64 0, .int .u64 0, .int .u64 0, .int .u64 0, .int .u64 0, .int .u64 0, .slice none 0 0, .slice none 0 0]) [.int .u64 0, .int .u64 0, .int .u64 0, .int .u64 0, .int .u64 0, .int .u64 0, .int .u64 0, .int .u64 0, .int .u64 0, .int .u64 0, .slice none 0 0, .slice none 0 0] [.int .u64 0, .int .u64 0, .int .u64 0, .int .u64 0, .int .u64 0, .int .u64 0, .int .u64 0, .int .u64 0, .int .u64 0, .int .u64 0, .slice none 0 0, .slice none 0 0] ?_
    intro v4 Y C
    replace BB := belowC BB C (by omega)
    clear C Xg2
    have Xg2 := Y
    clear Y
    refine t 3 (.int .i64 211) ?_
    refine gl_nil ?_
    refine ge_then ?_
    refine gc_ret ?_
    refine ge_tr ?_
    refine ge_ret (.tuple #[.agg #[.int .u64 0, .int .u64 0, .int .u64 0, .int .u64 0, .int .u64 0, .int .u64 0, .int .u64 0, .int .u64 0, .int .u64 0, .int .u64 0, .slice none 0 0, .slice none 0 0], .int .i64 211]) (rsct 2 3 (T := 28) (by kernel_rfl) (by kernel_rfl) (by kernel_rfl) (lr Xg2 0)) ?_
    have E := eD_big (l := l) (by omega)
    rw [E]
    exact ⟨_, rfl, by rw [if_neg (by decide)]; exact ⟨⟨0, 0, 0, 0, 0, 0, 0, 0, 0, 0, none, 0, 0, none, 0, 0, rfl, rfl, ⟨.inl ⟨rfl, rfl, rfl⟩⟩, ⟨.inl ⟨rfl, rfl, rfl⟩⟩⟩⟩, BB⟩
  · refine tq 8 (.bool (decide ((65536 : Int) < ((n : Nat) : Int)))) (.bool false) (congrArg Value.bool (decide_eq_false c3)) ?_
    refine gl_nil ?_
    refine ge_then ?_
    refine gc_no ?_
    refine gc_skip ?_
    refine ge_then ?_
    refine gc_seq ?_
    refine gc_reg ?_
    refine t 10 (.slice ao n c) ?_
    have lXg2 := Xg2.lt
    have sB := BB.size
    refine tc 11 17 #[.slice ao n c] (newR_any (A.keep BB) (by omega)) ?_
    rintro _ v5 ⟨r, q, br, rfl, ⟨hr, hq, hrq⟩, X, RD, B⟩
    refine ⟨_, rfl, ?_⟩
    replace BB := joinB BB B
    replace Xg2 := Xg2.keep B
    clear B
    have lRD := RD.lt
    have lXr := X.lt
    have hr0 := Nat.le_trans sB hr
    have hq0 := Nat.le_trans sB hq
    refine t 4 (pg r) ?_
    refine gl_nil ?_
    refine ge_then ?_
    refine gc_seq ?_
    refine gc_reg ?_
    refine t 12 (pg r) ?_
    have lXg2 := Xg2.lt
    have lRD := RD.lt
    have lX := X.lt
    
    refine tc 13 18 #[pg r] (head_any (s := ((0 : Int), l)) X RD hrq) ?_
    rintro _ v6 ⟨v, s1, E1, rfl, X2, RX, C⟩
    refine ⟨_, rfl, ?_⟩
    replace BB := vBl BB C (by omega) (by omega)
    replace Xg2 := bV Xg2 C (by omega)
    clear C
    clear X RD
    have X := X2
    have RD := RX
    clear X2 RX
    refine gl_nil ?_
    refine ge_then ?_
    refine gc_seq ?_
    refine gc_reg ?_
    refine t 14 (pg r) ?_
    have lXg2 := Xg2.lt
    have lRD := RD.lt
    have lX := X.lt
    
    refine tc 15 19 #[pg r] (rParams (s := s1) X RD hrq) ?_
    rintro _ v7 ⟨x0, x1, x2, x3, x4, x5, x6, x7, x8, x9, s2, E2, rfl, RX, U⟩
    refine ⟨_, rfl, ?_⟩
    replace BB := But.below U BB (by omega) (Nat.le_refl _)
    replace Xg2 := But.blk U Xg2 (show g2 ≠ q by omega)
    replace X := But.blk U X (show r ≠ q by omega)
    clear U
    clear RD
    have RD := RX
    clear RX
    refine t 16 (.agg #[.int .u64 x0, .int .u64 x1, .int .u64 x2, .int .u64 x3, .int .u64 x4, .int .u64 x5, .int .u64 x6, .int .u64 x7, .int .u64 x8, .int .u64 x9, .slice none 0 0, .slice none 0 0]) ?_
    have lXg2 := Xg2.lt
    have lRD := RD.lt
    have lX := X.lt
    refine ta 5 [.int .u64 0, .int .u64 0, .int .u64 0, .int .u64 0, .int .u64 0, .int .u64 0, .int .u64 0, .int .u64 0, .int .u64 0, .int .u64 0, .slice none 0 0, .slice none 0 0] 28 (pg) ?_
    intro v8 g9 Xg9 hg9 B
    have zg9 := Nat.le_trans BB.size hg9
    replace BB := joinB BB B
    replace Xg2 := Xg2.keep B
    replace RD := RD.keep B
    replace X := X.keep B
    clear B
    refine ts Xg9 0 (.agg #[.int .u64 x0, .int .u64 x1, .int .u64 x2, .int .u64 x3, .int .u64 x4, .int .u64 x5, .int .u64 x6, .int .u64 x7, .int .u64 x8, .int .u64 x9, .slice none 0 0, .slice none 0 0]) [.int .u64 x0, .int .u64 x1, .int .u64 x2, .int .u64 x3, .int .u64 x4, .int .u64 x5, .int .u64 x6, .int .u64 x7, .int .u64 x8, .int .u64 x9, .slice none 0 0, .slice none 0 0] [.int .u64 x0, .int .u64 x1, .int .u64 x2, .int .u64 x3, .int .u64 x4, .int .u64 x5, .int .u64 x6, .int .u64 x7, .int .u64 x8, .int .u64 x9, .slice none 0 0, .slice none 0 0] ?_
    intro v10 Y C
    replace BB := belowC BB C (by omega)
    replace Xg2 := Xg2.chg C (show g2 ≠ g9 by omega)
    replace RD := RdA.offB RD Xg9 (by first | rfl | exact cR_nou _ _ _) (by omega) (chg_but C)
    replace X := X.chg C (show r ≠ g9 by omega)
    clear C Xg9
    have Xg9 := Y
    clear Y
    refine gl_nil ?_
    refine ge_then ?_
    refine gc_seq ?_
    refine gc_reg ?_
    refine t 17 (pg r) ?_
    refine t 18 (pg r) ?_
    refine t 19 (.func (.func 21) #[pg r] #[]) ?_
    have lXg2 := Xg2.lt
    have lRD := RD.lt
    have lX := X.lt
    have lXg9 := Xg9.lt
    
    refine tc 20 20 #[pg r, .int .u32 256, .func (.func 21) #[pg r] #[]] (readP (s := s2) X RD hrq) ?_
    rintro _ v11 ⟨la1, lm1, lg1, ln1, A1, s3, F1, rfl, X2, RX, C, D1⟩
    refine ⟨_, rfl, ?_⟩
    replace BB := vBl BB C (by omega) (by omega)
    replace Xg2 := bV Xg2 C (by omega)
    replace Xg9 := bV Xg9 C (by omega)
    clear C
    clear X RD
    have X := X2
    have RD := RX
    clear X2 RX
    replace D1 : Ls v10.heap.size _ la1 lm1 lg1 2 A1 43 := ⟨D1⟩
    have sD1 := BB.size
    refine t 21 (pq g9 10) ?_
    refine ts Xg9 10 (.slice la1 lm1 lm1) [.slice la1 lm1 lm1] [.int .u64 x0, .int .u64 x1, .int .u64 x2, .int .u64 x3, .int .u64 x4, .int .u64 x5, .int .u64 x6, .int .u64 x7, .int .u64 x8, .int .u64 x9, .slice la1 lm1 lm1, .slice none 0 0] ?_
    intro v12 Y C
    replace BB := belowC BB C (by omega)
    replace Xg2 := Xg2.chg C (show g2 ≠ g9 by omega)
    replace RD := RdA.offB RD Xg9 (by first | rfl | exact cR_nou _ _ _) (by omega) (chg_but C)
    replace X := X.chg C (show r ≠ g9 by omega)
    replace D1 := D1.chg C (fun b h => by have h : b = g9 := h; omega)
    clear C Xg9
    have Xg9 := Y
    clear Y
    refine gl_nil ?_
    refine ge_then ?_
    refine gc_fr [(2, pg g2), (3, .int .i64 0), (4, pg r), (5, pg g9)] (by kernel_rfl) ?_
    refine gc_seq ?_
    refine gc_reg ?_
    refine t 22 (pg r) ?_
    refine t 23 (pg r) ?_
    refine t 24 (.func (.func 23) #[pg r] #[]) ?_
    have lXg2 := Xg2.lt
    have lRD := RD.lt
    have lX := X.lt
    have lXg9 := Xg9.lt
    
    refine tc 25 22 #[pg r, .int .u32 64, .func (.func 23) #[pg r] #[]] (readF (s := s3) X RD hrq) ?_
    rintro _ v13 ⟨la2, lm2, lg2, ln2, A2, s4, F2, rfl, X2, RX, C, D2⟩
    refine ⟨_, rfl, ?_⟩
    replace BB := vBl BB C (by omega) (by omega)
    replace Xg2 := bV Xg2 C (by omega)
    replace Xg9 := bV Xg9 C (by omega)
    replace D1 := D1.chg C (fun b h => by rcases h with h | h <;> omega)
    clear C
    clear X RD
    have X := X2
    have RD := RX
    clear X2 RX
    replace D2 : Ls v12.heap.size _ la2 lm2 lg2 3 A2 45 := ⟨D2⟩
    have sD2 := BB.size
    refine t 26 (pq g9 11) ?_
    refine ts Xg9 11 (.slice la2 lm2 lm2) [.slice la2 lm2 lm2] [.int .u64 x0, .int .u64 x1, .int .u64 x2, .int .u64 x3, .int .u64 x4, .int .u64 x5, .int .u64 x6, .int .u64 x7, .int .u64 x8, .int .u64 x9, .slice la1 lm1 lm1, .slice la2 lm2 lm2] ?_
    intro v14 Y C
    replace BB := belowC BB C (by omega)
    replace Xg2 := Xg2.chg C (show g2 ≠ g9 by omega)
    replace RD := RdA.offB RD Xg9 (by first | rfl | exact cR_nou _ _ _) (by omega) (chg_but C)
    replace X := X.chg C (show r ≠ g9 by omega)
    replace D1 := D1.chg C (fun b h => by have h : b = g9 := h; omega)
    replace D2 := D2.chg C (fun b h => by have h : b = g9 := h; omega)
    clear C Xg9
    have Xg9 := Y
    clear Y
    refine gl_nil ?_
    refine ge_then ?_
    refine gc_seq ?_
    refine gc_seq ?_
    refine gc_reg ?_
    refine t 27 (pg r) ?_
    have lXg2 := Xg2.lt
    have lRD := RD.lt
    have lX := X.lt
    have lXg9 := Xg9.lt
    
    refine tc 28 24 #[pg r] (whole_any (s := s4) X RD hrq) ?_
    rintro _ v15 ⟨rfl, RX, U⟩
    refine ⟨_, rfl, ?_⟩
    replace BB := But.below U BB (by omega) (Nat.le_refl _)
    replace Xg2 := But.blk U Xg2 (show g2 ≠ q by omega)
    replace X := But.blk U X (show r ≠ q by omega)
    replace Xg9 := But.blk U Xg9 (show g9 ≠ q by omega)
    replace D1 := D1.chg (chgU U) (fun b h => by have h : b = q := h; omega)
    replace D2 := D2.chg (chgU U) (fun b h => by have h : b = q := h; omega)
    clear U
    clear RD RX
    refine t 29 (.bool (!(decide (endE s4.1 s4.2 = 0) && !(((false || (v != 1196183089)) || !decide (ln1 ≤ 256)) || !decide (ln2 ≤ 64))))) ?_
    refine gl_nil ?_
    refine ge_then ?_
    rcases Bool.eq_false_or_eq_true (!(decide (endE s4.1 s4.2 = 0) && !(((false || (v != 1196183089)) || !decide (ln1 ≤ 256)) || !decide (ln2 ≤ 64)))) with b16 | b16
    · refine gc_yes (hc := congrArg Value.bool b16) ?_
      refine gc_seq ?_
      refine gc_reg ?_
      refine t 30 (.agg #[.int .u64 0, .int .u64 0, .int .u64 0, .int .u64 0, .int .u64 0, .int .u64 0, .int .u64 0, .int .u64 0, .int .u64 0, .int .u64 0, .slice none 0 0, .slice none 0 0]) ?_
      refine ts Xg2 0 (.agg #[.int .u64 0, .int .u64 0, .int .u64 0, .int .u64 0, .int .u64 0, .int .u64 0, .int .u64 0, .int .u64 0, .int .u64 0, .int .u64 0, .slice none 0 0, .slice none 0 0]) [.int .u64 0, .int .u64 0, .int .u64 0, .int .u64 0, .int .u64 0, .int .u64 0, .int .u64 0, .int .u64 0, .int .u64 0, .int .u64 0, .slice none 0 0, .slice none 0 0] [.int .u64 0, .int .u64 0, .int .u64 0, .int .u64 0, .int .u64 0, .int .u64 0, .int .u64 0, .int .u64 0, .int .u64 0, .int .u64 0, .slice none 0 0, .slice none 0 0] ?_
      intro v17 Y C
      replace BB := belowC BB C (by omega)
      replace X := X.chg C (show r ≠ g2 by omega)
      replace Xg9 := Xg9.chg C (show g9 ≠ g2 by omega)
      replace D1 := D1.chg C (fun b h => by have h : b = g2 := h; omega)
      replace D2 := D2.chg C (fun b h => by have h : b = g2 := h; omega)
      clear C Xg2
      have Xg2 := Y
      clear Y
      refine t 3 (.int .i64 210) ?_
      refine gl_nil ?_
      refine ge_then ?_
      refine gc_ret ?_
      refine ge_tr ?_
      refine ge_ret (.tuple #[.agg #[.int .u64 0, .int .u64 0, .int .u64 0, .int .u64 0, .int .u64 0, .int .u64 0, .int .u64 0, .int .u64 0, .int .u64 0, .int .u64 0, .slice none 0 0, .slice none 0 0], .int .i64 210]) (rsct 2 3 (T := 28) (by kernel_rfl) (by kernel_rfl) (by kernel_rfl) (lr Xg2 0)) ?_
      obtain ⟨z1, z2, z3⟩ := d_mk E1 E2 F1 F2
      have E := eD_val (l := l) (by omega) (b := false) (by rw [z2, z3]; revert b16; cases (decide (endE s4.1 s4.2 = 0) && !(((false || (v != 1196183089)) || !decide (ln1 ≤ 256)) || !decide (ln2 ≤ 64))) <;> simp)
      rw [E]
      exact ⟨_, rfl, by rw [if_neg (by decide)]; exact ⟨⟨0, 0, 0, 0, 0, 0, 0, 0, 0, 0, none, 0, 0, none, 0, 0, rfl, rfl, ⟨.inl ⟨rfl, rfl, rfl⟩⟩, ⟨.inl ⟨rfl, rfl, rfl⟩⟩⟩⟩, BB⟩
    · refine gc_no (hc := congrArg Value.bool b16) ?_
      refine gc_skip ?_
      refine ge_then ?_
      refine gc_seq ?_
      refine gc_reg ?_
      refine tlr 31 [.int .u64 x0, .int .u64 x1, .int .u64 x2, .int .u64 x3, .int .u64 x4, .int .u64 x5, .int .u64 x6, .int .u64 x7, .int .u64 x8, .int .u64 x9, .slice la1 lm1 lm1, .slice la2 lm2 lm2] Xg9 0 ?_
      refine ts Xg2 0 (.agg #[.int .u64 x0, .int .u64 x1, .int .u64 x2, .int .u64 x3, .int .u64 x4, .int .u64 x5, .int .u64 x6, .int .u64 x7, .int .u64 x8, .int .u64 x9, .slice la1 lm1 lm1, .slice la2 lm2 lm2]) [.int .u64 x0, .int .u64 x1, .int .u64 x2, .int .u64 x3, .int .u64 x4, .int .u64 x5, .int .u64 x6, .int .u64 x7, .int .u64 x8, .int .u64 x9, .slice la1 lm1 lm1, .slice la2 lm2 lm2] [.int .u64 x0, .int .u64 x1, .int .u64 x2, .int .u64 x3, .int .u64 x4, .int .u64 x5, .int .u64 x6, .int .u64 x7, .int .u64 x8, .int .u64 x9, .slice la1 lm1 lm1, .slice la2 lm2 lm2] ?_
      intro v18 Y C
      replace BB := belowC BB C (by omega)
      replace X := X.chg C (show r ≠ g2 by omega)
      replace Xg9 := Xg9.chg C (show g9 ≠ g2 by omega)
      replace D1 := D1.chg C (fun b h => by have h : b = g2 := h; omega)
      replace D2 := D2.chg C (fun b h => by have h : b = g2 := h; omega)
      clear C Xg2
      have Xg2 := Y
      clear Y
      refine t 3 (.int .i64 0) ?_
      refine gl_nil ?_
      refine ge_then ?_
      clear Xg9
      refine gc_ret ?_
      refine ge_ret (.tuple #[.agg #[.int .u64 x0, .int .u64 x1, .int .u64 x2, .int .u64 x3, .int .u64 x4, .int .u64 x5, .int .u64 x6, .int .u64 x7, .int .u64 x8, .int .u64 x9, .slice la1 lm1 lm1, .slice la2 lm2 lm2], .int .i64 0]) (rsct 2 3 (T := 28) (by kernel_rfl) (by kernel_rfl) (by kernel_rfl) (lr Xg2 0)) ?_
      obtain ⟨z1, z2, z3⟩ := d_mk E1 E2 F1 F2
      have E := eD_val (l := l) (by omega) (b := true) (by rw [z2, z3]; revert b16; cases (decide (endE s4.1 s4.2 = 0) && !(((false || (v != 1196183089)) || !decide (ln1 ≤ 256)) || !decide (ln2 ≤ 64))) <;> simp)
      rw [E]
      exact ⟨_, rfl, by rw [if_pos rfl, z1]; exact ⟨⟨_, _, _, _, _, _, _, _, _, _, _, _, lg1, _, _, lg2, rfl, rfl, D1.low (by omega), D2.low (by omega)⟩⟩, BB⟩
end Gn
end Go.Proofs.YtpoifdokmjhclaaGreat

namespace Go.Proofs.YtpoifdokmjhclaaGreat
namespace Mg
open Go.RowKit Go.Lib Pg Lim Gl
attribute [local go_sem] Oper.semAt_some
end Mg
end Go.Proofs.YtpoifdokmjhclaaGreat

namespace Go.Proofs.YtpoifdokmjhclaaGreat
namespace Mg
open Go.RowKit Go.Lib Pg Lim Gl
set_option maxRecDepth 100000
set_option linter.unusedVariables false
set_option maxHeartbeats 2000000
end Mg
end Go.Proofs.YtpoifdokmjhclaaGreat

namespace Go.Proofs.YtpoifdokmjhclaaGreat
namespace Mg
open Go.RowKit Go.Lib Pg Lim Gl
set_option maxRecDepth 100000
set_option linter.unusedVariables false
set_option linter.unusedSimpArgs false
set_option maxHeartbeats 2000000
end Mg
end Go.Proofs.YtpoifdokmjhclaaGreat

namespace Go.Proofs.YtpoifdokmjhclaaGreat
namespace Mg
open Go.RowKit Go.Lib Pg Lim Gl
theorem Blk.byt {B : Nat} {w w' : World} {g : Nat} {cs : List Value} {t : TypeId} (h : Blk w g cs t) (b : Byt B w w') (ht : t ≠ 5) : Blk w' g cs t := ⟨by rw [b.typ g _ t _ h.blk ht]; exact h.blk⟩
theorem blk_mine {w : World} {B g n : Nat} {L : List Int} (X : Blk w g (L.map (Value.int .u8)) 5) (hB : B ≤ g) (hn : L.length = n) (hm : n ≤ 1000000) : MineB w B (sg n g) L := by
  subst hn
  exact ⟨by rw [List.length_map, Nat.mul_one], .inr ⟨g, L.length, (L.map (Value.int .u8)).toArray, rfl, hB, X.blk, Nat.le_refl _, by unfold maxLen; omega, by simp, by rw [Nat.mul_one, List.take_of_length_le (by simp)]⟩⟩
theorem blk_bya {w : World} {g : Nat} {l : List Int} (X : Blk w g (l.map (Value.int .u8)) 5) (ho : Octets l) (hl : l.length ≤ 1000000) : ByA w g (some ⟨g, 0, none⟩) l.length l.length l := by
  obtain ⟨b, ao, c, e, -, A⟩ := (blk_mine X (Nat.le_refl g) rfl hl).bya ho
  cases e
  obtain ⟨o, h1, h2, h3, h4, h5⟩ := A.ex
  exact ⟨0, h1, h2, h3, h4, .inr rfl, fun i hi => by
    rw [Nat.zero_add]
    exact X.cell (by rw [List.getElem?_map, List.getElem?_eq_getElem hi, nth_eq hi]; rfl)⟩
theorem run_apB {ρ : Operand → Value} {w w' : World} {o : Oper} {u v r : Value} (hr : (Builtin.append_ #[29, 29] 29 #[u, v]).run Tryz.prog w = .ok r w') (ho : ∃ x y, o.op = .call { callee := .builtin .append, args := #[x, y], argTypes := #[29, 29] } ∧ o.type = 29 ∧ ρ x = u ∧ ρ y = v := by exact ⟨_, _, rfl, rfl, by kernel_rfl, by kernel_rfl⟩) : (execOp ρ o).run Tryz.prog w = .ok (.value r) w' := by
  obtain ⟨x, y, h, ht, h1, h2⟩ := ho
  unfold execOp
  simp only [h, ht, resolve, invoke, builtin, Sem.run_bind, Sem.run_pure, Result.andThen_ok, List.map_toArray, List.map_cons, List.map_nil, h1, h2, hr]
theorem bytT {w : World} {b0 b1 n0 c0 n1 c1 : Nat} {a0 a1 : Option Addr} {l : List Int} (h0 : ByA w b0 a0 n0 c0 l) (h1 : ByA w b1 a1 n1 c1 l) (hn : l.length ≤ 100000) :
    Calls Tryz.prog 10 #[.slice a0 n0 c0, .slice a1 n1 c1] w fun e w' => e = .returned (.bool true) ∧ Below w.heap.size w w' := by
  have e0 : l.length = n0 := by obtain ⟨o, h, _⟩ := h0.ex; exact h
  have e1 : l.length = n1 := by obtain ⟨o, h, _⟩ := h1.ex; exact h
  have h := bSame h0 h1 (by omega) (by omega)
  have e : eqB l l = true := by simp [eqB]
  rw [e] at h
  exact h
theorem rf_box {w : World} {g b n c : Nat} {ao : Option Addr} {l : List Int} (X : Blk w g [.slice ao n c, .int .i64 0] 70) (A : ByA w b ao n c l) : RfA w g b ((0 : Int), l).1 ((0 : Int), l).2 := ⟨ao, n, c, ⟨X.blk⟩, A⟩
end Mg
end Go.Proofs.YtpoifdokmjhclaaGreat

namespace Go.Proofs.YtpoifdokmjhclaaGreat
namespace Rc
open Go.RowKit Go.Lib Pg Lim Gl
theorem mine0 {B : Nat} (w : World) : MineB w B (.slice none 0 0) [] := World.ownsRow_nil _ _ _ _
theorem len_0 : ([] : List Int).length ≤ 0 := Nat.le_refl 0
theorem len_app {L X : List Int} {a b : Nat} (h : L.length ≤ a) (h' : X.length ≤ b) : (L ++ X).length ≤ a + b := by rw [List.length_append]; omega
theorem len_u8 (xs : List Int) : (xs.flatMap (be 8)).length ≤ 8 * xs.length := by
  induction xs with
  | nil => exact Nat.le_refl _
  | cons x r ih => rw [List.flatMap_cons, List.length_append, be_length, List.length_cons]; omega
set_option maxHeartbeats 2000000 in
set_option maxRecDepth 100000 in
theorem rPutParams {w : World} {x0 : Int} {x1 : Int} {x2 : Int} {x3 : Int} {x4 : Int} {x5 : Int} {x6 : Int} {x7 : Int} {x8 : Int} {x9 : Int}  :
    Calls Tryz.prog 36 #[.agg #[.int .u64 x0, .int .u64 x1, .int .u64 x2, .int .u64 x3, .int .u64 x4, .int .u64 x5, .int .u64 x6, .int .u64 x7, .int .u64 x8, .int .u64 x9]] w fun e w' => ∃ v, e = .returned v ∧ MineB w' w.heap.size v (thr (pnx (fun o => ([x0, x1, x2, x3, x4, x5, x6, x7, x8, x9] : List Int).getD o 0)) [(0, 0), (0, 1), (0, 2), (0, 3), (0, 4), (0, 5), (0, 6), (0, 7), (0, 8), (0, 9)] []) ∧ Below w.heap.size w w' := by
  have BB := Below.refl w.heap.size w
  refine gc_enter (n := 25) Tryz.func36 rfl (by kernel_rfl) (by kernel_rfl) ?_
  refine gc_seq ?_
  refine gc_reg ?_
  refine ta 1 [.int .u64 x0, .int .u64 x1, .int .u64 x2, .int .u64 x3, .int .u64 x4, .int .u64 x5, .int .u64 x6, .int .u64 x7, .int .u64 x8, .int .u64 x9] 24 (pg) ?_
  intro v1 g2 Xg2 hg2 B
  replace BB := joinB BB B
  clear B
  refine t 2 (.slice none 0 0) ?_
  refine gl_nil ?_
  refine ge_then ?_
  refine gc_seq ?_
  refine gc_reg ?_
  refine t 3 (pg g2) ?_
  refine tl 4 (.int .u64 x0) Xg2 0 ?_
  refine t 5 (pq g2 1) ?_
  refine tl 6 (.int .u64 x1) Xg2 1 ?_
  refine t 7 (pq g2 2) ?_
  refine tl 8 (.int .u64 x2) Xg2 2 ?_
  refine t 9 (pq g2 3) ?_
  refine tl 10 (.int .u64 x3) Xg2 3 ?_
  refine t 11 (pq g2 4) ?_
  refine tl 12 (.int .u64 x4) Xg2 4 ?_
  refine t 13 (pq g2 5) ?_
  refine tl 14 (.int .u64 x5) Xg2 5 ?_
  refine t 15 (pq g2 6) ?_
  refine tl 16 (.int .u64 x6) Xg2 6 ?_
  refine t 17 (pq g2 7) ?_
  refine tl 18 (.int .u64 x7) Xg2 7 ?_
  refine t 19 (pq g2 8) ?_
  refine tl 20 (.int .u64 x8) Xg2 8 ?_
  refine t 21 (pq g2 9) ?_
  refine tl 22 (.int .u64 x9) Xg2 9 ?_
  refine ta 23 [.int .u64 x0, .int .u64 x1, .int .u64 x2, .int .u64 x3, .int .u64 x4, .int .u64 x5, .int .u64 x6, .int .u64 x7, .int .u64 x8, .int .u64 x9] 22 (sg 10) ?_
  intro v3 g4 Xg4 hg4 B
  replace BB := joinB BB B
  replace Xg2 := Xg2.keep B
  clear B
  refine tc 24 55 #[.slice none 0 0, sg 10 g4] (ru8 (xs := [x0, x1, x2, x3, x4, x5, x6, x7, x8, x9]) (mine0 _) BB.size Xg4 (Nat.le_trans len_0 (Nat.le_of_ble_eq_true rfl)) (Nat.le_of_ble_eq_true rfl)) ?_
  rintro _ v6 ⟨Vm5, rfl, m5, Y⟩
  refine ⟨_, rfl, ?_⟩
  replace BB := Byt.below Y BB (Nat.le_refl _) (Nat.le_refl _)
  replace Xg2 := Blk.byt Xg2 Y (by decide)
  replace Xg4 := Blk.byt Xg4 Y (by decide)
  clear Y
  have bm5 := len_app len_0 (len_u8 [x0, x1, x2, x3, x4, x5, x6, x7, x8, x9])
  refine t 2 (Vm5) ?_
  refine gl_nil ?_
  refine ge_then ?_
  refine gc_fr [(2, Vm5)] (by kernel_rfl) ?_
  refine gc_ret ?_
  refine ge_ret (Vm5) (rs1 2 (by kernel_rfl) (by kernel_rfl)) ?_
  exact ⟨_, rfl, by simpa [thr, pnx, enc1] using m5, BB⟩
end Rc
end Go.Proofs.YtpoifdokmjhclaaGreat
