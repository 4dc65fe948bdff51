/- Several texts, joined: GnZ, KyMk. -/
import Derived.Test.YtpoifdokmjhclaaGreatJyr
import Derived.Test.YtpoifdokmjhclaaGreatJyb
import Derived.Test.YtpoifdokmjhclaaGreatJyd
import Derived.Test.YtpoifdokmjhclaaGreatJyj
namespace Go.Proofs.YtpoifdokmjhclaaGreat
namespace Gn
open Go.RowKit Go.Lib Pg Lim Gl Mg
attribute [local go_sem] Oper.semAt_some
set_option maxRecDepth 100000
set_option linter.unusedVariables false
set_option linter.unusedSimpArgs false
set_option maxHeartbeats 2000000
theorem Ow.sh {B : Nat} {w : World} {v : Value} {n k : Nat} {A : List Int} {E : TypeId} (h : Ow B w v n k A E) : ∃ a c, v = .slice a n c := by
  obtain ⟨h1, h2⟩ := h.ex
  rcases h2 with ⟨rfl, rfl⟩ | ⟨g, cap, cur, rfl, _⟩
  · exact ⟨none, 0, rfl⟩
  · exact ⟨_, _, rfl⟩
theorem byC {w w' : World} {b n c g : Nat} {ao : Option Addr} {l : List Int} (A : ByA w b ao n c l) (C : Chg (· = g) w w') (h : b ≠ g) : ByA w' b ao n c l := by
  obtain ⟨o, h1, h2, h3, h4, h5⟩ := A.ex
  refine ⟨o, h1, h2, h3, h4, h5.loc, fun i hi => ?_⟩
  have hc := h5.cell i hi
  rw [World.cell?_of_block (w := w) (C.same b (cell_lt hc) h)]
  exact hc
theorem by_o {w : World} {b n c : Nat} {ao : Option Addr} {l : List Int} (A : ByA w b ao n c l) : Octets l := by
  obtain ⟨o, h1, h2, h3, h4, h5⟩ := A.ex
  exact h4
theorem nlU {w w' : World} {b n k o g : Nat} {ao : Option Addr} {l : List Int} (N : Nl w ao n k b o l) (U : But g w w') (hb : 0 < n → b ≠ g) : Nl w' ao n k b o l := ⟨N.len, N.ptr, fun i hi => by
  have hc := N.cell i hi
  rw [World.cell?_of_block (w := w) (U.block b (cell_lt hc) (hb (by rcases Nat.eq_zero_or_pos n with h | h; (rw [h] at hi; omega); exact h)))]
  exact hc, N.rng⟩
theorem nlC2 {w w' : World} {b n k o g : Nat} {ao : Option Addr} {l : List Int} (N : Nl w ao n k b o l) (C : Chg (· = g) w w') (hb : 0 < n → b ≠ g) : Nl w' ao n k b o l := ⟨N.len, N.ptr, fun i hi => by
  have hc := N.cell i hi
  rw [World.cell?_of_block (w := w) (C.same b (cell_lt hc) (hb (by rcases Nat.eq_zero_or_pos n with h | h; (rw [h] at hi; omega); exact h)))]
  exact hc, N.rng⟩
theorem appP {B : Nat} {w : World} {v : Value} {n g : Nat} {A xs : List Int} (h : Ow B w v n 2 A 43) (X : Blk w g (xs.map (Value.int .u64)) 43) (hx : xs.length = 2) (hn : n ≤ 1000000) (hB : B ≤ w.heap.size) : ∃ v' w', (Builtin.append_ #[25, 25] 25 #[v, sg 1 g]).run Tryz.prog w = .ok v' w' ∧ Ow B w' v' (n + 1) 2 (A ++ xs) 43 ∧ Gt 43 B w w' := by
  cases hi : Tryz.prog.info? 43 with
  | none => exact absurd hi (by intro h; have : (Tryz.prog.info? 43).isSome = true := by kernel_rfl
                                rw [h] at this; cases this)
  | some i =>
    have h1 : (Tryz.prog.info? 43).map (fun i => (i.zero, i.size, i.bytes)) = some (some (.agg #[.int .u64 0, .int .u64 0]), 2, 16) := by kernel_rfl
    rw [hi] at h1
    simp only [Option.map_some, Option.some.injEq, Prod.mk.injEq] at h1
    exact app_ow 16 h X hx (by decide) (by kernel_rfl) hi h1.1 h1.2.1 h1.2.2 rfl (by decide) hn hB
theorem appF {B : Nat} {w : World} {v : Value} {n g : Nat} {A xs : List Int} (h : Ow B w v n 3 A 45) (X : Blk w g (xs.map (Value.int .u64)) 45) (hx : xs.length = 3) (hn : n ≤ 1000000) (hB : B ≤ w.heap.size) : ∃ v' w', (Builtin.append_ #[26, 26] 26 #[v, sg 1 g]).run Tryz.prog w = .ok v' w' ∧ Ow B w' v' (n + 1) 3 (A ++ xs) 45 ∧ Gt 45 B w w' := by
  cases hi : Tryz.prog.info? 45 with
  | none => exact absurd hi (by intro h; have : (Tryz.prog.info? 45).isSome = true := by kernel_rfl
                                rw [h] at this; cases this)
  | some i =>
    have h1 : (Tryz.prog.info? 45).map (fun i => (i.zero, i.size, i.bytes)) = some (some (.agg #[.int .u64 0, .int .u64 0, .int .u64 0]), 3, 24) := by kernel_rfl
    rw [hi] at h1
    simp only [Option.map_some, Option.some.injEq, Prod.mk.injEq] at h1
    exact app_ow 24 h X hx (by decide) (by kernel_rfl) hi h1.1 h1.2.1 h1.2.2 rfl (by decide) hn hB
theorem rU_sh {m : Nat} {s s' : St} {x : Int} (e : rU m s = (x, s')) : s'.2.length ≤ s.2.length := by
  have h := congrArg (fun p => p.2.2) e
  simp only [rU] at h
  rw [← h]
  cases hq : pFix m s.2 with
  | inl v => simp [rdL]
  | inr v => simp only [rdL]; split <;> simp
theorem nl_nil {w : World} {k : Nat} : Nl w none 0 k 0 0 [] := ⟨by simp, fun h => absurd h (by decide), fun i hi => absurd hi (by omega), fun _ h => absurd h List.not_mem_nil⟩
theorem back21 {g : Ge} {na nv : Nat} (h : g.Ok na nv) (ha : na ≤ 256) (hv : nv ≤ 64) : eD (bG g na nv) = 0 ∧ gD (bG g na nv) = g ∧ True := by
  obtain ⟨-, h2, h3, h4, -, -⟩ := d_back h ha hv []
  rw [List.append_nil] at h2 h3 h4
  have hl := bG_len h
  refine ⟨?_, h2, trivial⟩
  unfold eD
  rw [if_neg (by omega), h3, h4]
  rfl
abbrev RP (w : World) (l : List Int) (e : Ending) (w' : World) : Prop := ∃ p0 p1 p2 p3 p4 p5 p6 p7 p8 p9 a1 m1 c1 g1 a2 m2 c2 g2 A V, e = .returned (.tuple #[.agg #[.int .u64 p0, .int .u64 p1, .int .u64 p2, .int .u64 p3, .int .u64 p4, .int .u64 p5, .int .u64 p6, .int .u64 p7, .int .u64 p8, .int .u64 p9, .slice a1 m1 c1, .slice a2 m2 c2], .int .i64 (eD l)]) ∧ (⟨[p0, p1, p2, p3, p4, p5, p6, p7, p8, p9], A, V⟩ : Ge) = (if eD l = 0 then gD l else zG) ∧ Nl w' a1 m1 2 g1 0 A ∧ Nl w' a2 m2 3 g2 0 V ∧ (0 < m1 → w.heap.size ≤ g1) ∧ (0 < m2 → w.heap.size ≤ g2) ∧ Below w.heap.size w w'
theorem zR {w w' : World} {l : List Int} {r : Int} (h : eD l = r) (hr : r ≠ 0) (f : Below w.heap.size w w') : RP w l (.returned (.tuple #[.agg #[.int .u64 0, .int .u64 0, .int .u64 0, .int .u64 0, .int .u64 0, .int .u64 0, .int .u64 0, .int .u64 0, .int .u64 0, .int .u64 0, .slice none 0 0, .slice none 0 0], .int .i64 r])) w' := by
  subst h
  exact ⟨0, 0, 0, 0, 0, 0, 0, 0, 0, 0, none, 0, 0, 0, none, 0, 0, 0, [], [], rfl, by rw [if_neg hr]; rfl, nl_nil, nl_nil, fun h => absurd h (by decide), fun h => absurd h (by decide), f⟩
theorem rdec21 {w : World} {b n c : Nat} {ao : Option Addr} {l : List Int} (A : ByA w b ao n c l) (hn : n ≤ 1000000000) : Calls Tryz.prog 9 #[.slice ao n c] w (RP w l) := by
  have BB := Below.refl w.heap.size w
  have hl : l.length = n := by
    obtain ⟨o, h1, _⟩ := A.ex
    exact h1
  have ho : Octets l := by_o A
  refine gc_enter (n := 109) Tryz.func9 rfl (by kernel_rfl) (by kernel_rfl) ?_
  refine gc_seq ?_
  refine gc_reg ?_
  refine ta 2 [.int .u64 0, .int .u64 0, .int .u64 0, .int .u64 0, .int .u64 0, .int .u64 0, .int .u64 0, .int .u64 0, .int .u64 0, .int .u64 0, .slice none 0 0, .slice none 0 0] 28 (pg) ?_
  intro v1 g2 Xg2 hg2 B
  have zg2 := Nat.le_trans BB.size hg2
  replace BB := joinB BB B
  clear B
  refine t 3 (.int .i64 0) ?_
  refine gl_nil ?_
  refine ge_then ?_
  refine gc_seq ?_
  refine gc_seq ?_
  refine gc_reg ?_
  refine t 11 (.slice ao n c) ?_
  refine t 12 (.int .i64 ((n : Nat) : Int)) ?_
  by_cases cz3 : (65536 : Int) < ((n : Nat) : Int)
  · refine tq 13 (.bool (decide ((65536 : Int) < ((n : Nat) : Int)))) (.bool true) (congrArg Value.bool (decide_eq_true cz3)) ?_
    refine gl_nil ?_
    refine ge_then ?_
    refine gc_yes ?_
    refine gc_seq ?_
    refine gc_reg ?_
    refine t 14 (.agg #[.int .u64 0, .int .u64 0, .int .u64 0, .int .u64 0, .int .u64 0, .int .u64 0, .int .u64 0, .int .u64 0, .int .u64 0, .int .u64 0, .slice none 0 0, .slice none 0 0]) ?_
    refine ts Xg2 0 (.agg #[.int .u64 0, .int .u64 0, .int .u64 0, .int .u64 0, .int .u64 0, .int .u64 0, .int .u64 0, .int .u64 0, .int .u64 0, .int .u64 0, .slice none 0 0, .slice none 0 0]) [.int .u64 0, .int .u64 0, .int .u64 0, .int .u64 0, .int .u64 0, .int .u64 0, .int .u64 0, .int .u64 0, .int .u64 0, .int .u64 0, .slice none 0 0, .slice none 0 0] [.int .u64 0, .int .u64 0, .int .u64 0, .int .u64 0, .int .u64 0, .int .u64 0, .int .u64 0, .int .u64 0, .int .u64 0, .int .u64 0, .slice none 0 0, .slice none 0 0] ?_
    intro v5 Y C
    replace BB := belowC BB C (by omega)
    clear C Xg2
    have Xg2 := Y
    clear Y
    refine t 3 (.int .i64 211) ?_
    refine gl_nil ?_
    refine ge_then ?_
    refine gc_ret ?_
    refine ge_tr ?_
    refine ge_ret (.tuple #[.agg #[.int .u64 0, .int .u64 0, .int .u64 0, .int .u64 0, .int .u64 0, .int .u64 0, .int .u64 0, .int .u64 0, .int .u64 0, .int .u64 0, .slice none 0 0, .slice none 0 0], .int .i64 211]) (rsct 2 3 (T := 28) (by kernel_rfl) (by kernel_rfl) (by kernel_rfl) (lr Xg2 0)) ?_
    exact zR (eD_big (by omega)) (by decide) BB
  · refine tq 13 (.bool (decide ((65536 : Int) < ((n : Nat) : Int)))) (.bool false) (congrArg Value.bool (decide_eq_false cz3)) ?_
    refine gl_nil ?_
    refine ge_then ?_
    refine gc_no ?_
    refine gc_skip ?_
    refine ge_then ?_
    refine gc_seq ?_
    refine gc_reg ?_
    refine t 15 (.slice ao n c) ?_
    refine t 16 (.agg #[.slice ao n c, .int .i64 0]) ?_
    have lXg2 := Xg2.lt
    refine ta 17 [.slice ao n c, .int .i64 0] 70 (pg) ?_
    intro v7 g8 Xg8 hg8 B
    have zg8 := Nat.le_trans BB.size hg8
    replace BB := joinB BB B
    replace Xg2 := Xg2.keep B
    clear B
    have RD := rf_box Xg8 (A.keep BB)
    clear Xg8
    have lRD := RD.lt
    refine t 4 (pg g8) ?_
    refine gl_nil ?_
    refine ge_then ?_
    refine gc_seq ?_
    refine gc_reg ?_
    have lXg2 := Xg2.lt
    have lRD := RD.lt
    refine ta 5 [.int .u64 0, .int .u64 0, .int .u64 0, .int .u64 0, .int .u64 0, .int .u64 0, .int .u64 0, .int .u64 0, .int .u64 0, .int .u64 0, .slice none 0 0, .slice none 0 0] 28 (pg) ?_
    intro v9 g10 Xg10 hg10 B
    have zg10 := Nat.le_trans BB.size hg10
    replace BB := joinB BB B
    replace Xg2 := Xg2.keep B
    replace RD := RD.keep B
    clear B
    refine gl_nil ?_
    refine ge_then ?_
    refine gc_seq ?_
    refine gc_seq ?_
    refine gc_reg ?_
    refine t 18 (pg g8) ?_
    refine tc 19 25 #[pg g8, .int .i64 4] (yU4 (s := ((0 : Int), l)) RD) ?_
    rintro _ v13 ⟨x11, s12, Ex11, Hx11, rfl, RX, U⟩
    refine ⟨_, rfl, ?_⟩
    replace BB := But.below U BB (by omega) (Nat.le_refl _)
    replace Xg2 := But.blk U Xg2 (show g2 ≠ g8 by omega)
    replace Xg10 := But.blk U Xg10 (show g10 ≠ g8 by omega)
    clear U
    clear RD
    have RD := RX
    clear RX
    have os12 : Octets s12.2 := RD.oct
    by_cases cz14 : (x11 : Int) = 1196183089
    · obtain ⟨l1, hs1, hlne⟩ := mk_ok Ex11 cz14
      have hl1 : l1.length ≤ l.length := by
        have := rU_sh (m := 4) (s := ((0 : Int), l)) Ex11
        rw [hs1] at this
        exact this
      subst hs1
      have E0 : rU 4 (0, l) = (1196183089, 0, l1) := by rw [Ex11, cz14]
      have hbB : b < w.heap.size := lt_ne A hlne
      refine tq 20 (.bool ((x11 : Int) != 1196183089)) (.bool false) (congrArg Value.bool (bne_eq_false_iff_eq.2 cz14)) ?_
      refine t 21 (.bool false) ?_
      refine t 22 (pg g8) ?_
      refine t 23 (pg g8) ?_
      refine t 24 (pg g8) ?_
      obtain ⟨ra, rn, rc, XR0, AR⟩ := RD.ex
      have XR : Blk v13 g8 [.slice ra rn rc, .int .i64 ((0 : Int), l1).1] 70 := ⟨XR0.blk⟩
      clear XR0 RD
      have hrn : l1.length = rn := by
        obtain ⟨_, h1, _⟩ := AR.ex
        exact h1
      have hrm : l1.length ≤ 1000000 := Nat.le_trans hl1 (by omega)
      refine tl 25 (.slice ra rn rc) XR 0 ?_
      refine t 26 (.int .i64 ((rn : Nat) : Int)) ?_
      by_cases cz16 : ((rn : Nat) : Int) < 80
      · refine tq 27 (.bool (decide (((rn : Nat) : Int) < 80))) (.bool true) (congrArg Value.bool (decide_eq_true cz16)) ?_
        refine t 28 (.bool true) ?_
        refine gl_nil ?_
        refine ge_then ?_
        refine gc_fr [(0, .slice ao n c), (2, pg g2), (3, .int .i64 0), (4, pg g8), (5, pg g10), (28, .bool true)] (by kernel_rfl) ?_
        refine gc_yes ?_
        refine gc_seq ?_
        refine gc_reg ?_
        refine t 29 (.agg #[.int .u64 0, .int .u64 0, .int .u64 0, .int .u64 0, .int .u64 0, .int .u64 0, .int .u64 0, .int .u64 0, .int .u64 0, .int .u64 0, .slice none 0 0, .slice none 0 0]) ?_
        refine ts Xg2 0 (.agg #[.int .u64 0, .int .u64 0, .int .u64 0, .int .u64 0, .int .u64 0, .int .u64 0, .int .u64 0, .int .u64 0, .int .u64 0, .int .u64 0, .slice none 0 0, .slice none 0 0]) [.int .u64 0, .int .u64 0, .int .u64 0, .int .u64 0, .int .u64 0, .int .u64 0, .int .u64 0, .int .u64 0, .int .u64 0, .int .u64 0, .slice none 0 0, .slice none 0 0] [.int .u64 0, .int .u64 0, .int .u64 0, .int .u64 0, .int .u64 0, .int .u64 0, .int .u64 0, .int .u64 0, .int .u64 0, .int .u64 0, .slice none 0 0, .slice none 0 0] ?_
        intro v18 Y C
        replace BB := belowC BB C (by omega)
        replace Xg10 := Xg10.chg C (show g10 ≠ g2 by omega)
        replace XR := XR.chg C (show g8 ≠ g2 by omega)
        replace AR := byC AR C (show b ≠ g2 by omega)
        clear C Xg2
        have Xg2 := Y
        clear Y
        refine t 3 (.int .i64 210) ?_
        refine gl_nil ?_
        refine ge_then ?_
        refine gc_ret ?_
        refine ge_tr ?_
        refine ge_ret (.tuple #[.agg #[.int .u64 0, .int .u64 0, .int .u64 0, .int .u64 0, .int .u64 0, .int .u64 0, .int .u64 0, .int .u64 0, .int .u64 0, .int .u64 0, .slice none 0 0, .slice none 0 0], .int .i64 210]) (rsct 2 3 (T := 28) (by kernel_rfl) (by kernel_rfl) (by kernel_rfl) (lr Xg2 0)) ?_
        exact zR (eD_no (by omega) (ex2 ho E0 (by omega))) (by decide) BB
      · refine tq 27 (.bool (decide (((rn : Nat) : Int) < 80))) (.bool false) (congrArg Value.bool (decide_eq_false cz16)) ?_
        refine t 28 (.bool false) ?_
        refine gl_nil ?_
        refine ge_then ?_
        refine gc_fr [(0, .slice ao n c), (2, pg g2), (3, .int .i64 0), (4, pg g8), (5, pg g10), (28, .bool false)] (by kernel_rfl) ?_
        refine gc_no ?_
        refine gc_skip ?_
        refine ge_then ?_
        refine gc_seq ?_
        obtain ⟨f0, rfl, hc80, hnc, AH, AT⟩ := by80 AR (by omega)
        obtain ⟨p0, p1, p2, p3, p4, p5, p6, p7, p8, p9, E2, eT, hP⟩ := w8_80 (by_o AR) (show 80 ≤ l1.length by omega)
        refine gc_reg ?_
        refine t 31 (pg g8) ?_
        refine t 32 (pg g8) ?_
        refine t 33 (pg g8) ?_
        refine tl 34 (.slice (some ⟨b, f0, none⟩) rn rc) XR 0 ?_
        refine tr 35 (.slice (some ⟨b, f0, none⟩) 80 rc) (run_h80 (n := rn) (by omega)) ?_
        refine tc 36 26 #[.slice (some ⟨b, f0, none⟩) 80 rc] (par_get AH eT hP) ?_
        rintro _ v20 ⟨rfl, B⟩
        refine ⟨_, rfl, ?_⟩
        replace BB := joinB BB B
        replace Xg2 := Xg2.keep B
        replace Xg10 := Xg10.keep B
        replace XR := XR.keep B
        replace AR := AR.keep B
        replace AH := AH.keep B
        replace AT := AT.keep B
        clear B
        refine t 30 (.tuple #[.agg #[.int .u64 p0, .int .u64 p1, .int .u64 p2, .int .u64 p3, .int .u64 p4, .int .u64 p5, .int .u64 p6, .int .u64 p7, .int .u64 p8, .int .u64 p9], .int .i64 0]) ?_
        refine t 37 (.agg #[.int .u64 p0, .int .u64 p1, .int .u64 p2, .int .u64 p3, .int .u64 p4, .int .u64 p5, .int .u64 p6, .int .u64 p7, .int .u64 p8, .int .u64 p9]) ?_
        refine t 38 (.int .i64 0) ?_
        refine t 39 (pg g10) ?_
        refine ts Xg10 0 (.agg #[.int .u64 p0, .int .u64 p1, .int .u64 p2, .int .u64 p3, .int .u64 p4, .int .u64 p5, .int .u64 p6, .int .u64 p7, .int .u64 p8, .int .u64 p9]) [.int .u64 p0, .int .u64 p1, .int .u64 p2, .int .u64 p3, .int .u64 p4, .int .u64 p5, .int .u64 p6, .int .u64 p7, .int .u64 p8, .int .u64 p9] [.int .u64 p0, .int .u64 p1, .int .u64 p2, .int .u64 p3, .int .u64 p4, .int .u64 p5, .int .u64 p6, .int .u64 p7, .int .u64 p8, .int .u64 p9, .slice none 0 0, .slice none 0 0] ?_
        intro v21 Y C
        replace BB := belowC BB C (by omega)
        replace Xg2 := Xg2.chg C (show g2 ≠ g10 by omega)
        replace XR := XR.chg C (show g8 ≠ g10 by omega)
        replace AR := byC AR C (show b ≠ g10 by omega)
        replace AH := byC AH C (show b ≠ g10 by omega)
        replace AT := byC AT C (show b ≠ g10 by omega)
        clear C Xg10
        have Xg10 := Y
        clear Y
        refine gl_nil ?_
        refine ge_then ?_
        refine gc_seq ?_
        refine gc_reg ?_
        refine t 40 (pg g8) ?_
        refine t 41 (pg g8) ?_
        refine t 42 (pg g8) ?_
        refine t 43 (pg g8) ?_
        refine tl 44 (.slice (some ⟨b, f0, none⟩) rn rc) XR 0 ?_
        refine tr 45 (.slice (some ⟨b, if rc = 80 then f0 else f0 + 80, none⟩) (rn - 80) (rc - 80)) (run_l80 (n := rn) (c := rc) (by omega) (by omega)) ?_
        refine t 46 (pg g8) ?_
        refine t 47 (pg g8) ?_
        refine ts XR 0 (.slice (some ⟨b, if rc = 80 then f0 else f0 + 80, none⟩) (rn - 80) (rc - 80)) [.slice (some ⟨b, if rc = 80 then f0 else f0 + 80, none⟩) (rn - 80) (rc - 80)] [.slice (some ⟨b, if rc = 80 then f0 else f0 + 80, none⟩) (rn - 80) (rc - 80), .int .i64 ((0 : Int), l1).1] ?_
        intro v22 Y C
        replace BB := belowC BB C (by omega)
        replace Xg2 := Xg2.chg C (show g2 ≠ g8 by omega)
        replace Xg10 := Xg10.chg C (show g10 ≠ g8 by omega)
        replace AR := byC AR C (show b ≠ g8 by omega)
        replace AH := byC AH C (show b ≠ g8 by omega)
        replace AT := byC AT C (show b ≠ g8 by omega)
        clear C XR
        have XR := Y
        clear Y
        refine gl_nil ?_
        refine ge_then ?_
        refine gc_fr [(0, .slice ao n c), (2, pg g2), (3, .int .i64 0), (4, pg g8), (5, pg g10)] (by kernel_rfl) ?_
        refine gc_seq ?_
        have RD : RfA v22 g8 b ((0 : Int), l1.drop 80).1 ((0 : Int), l1.drop 80).2 := ⟨_, _, _, ⟨XR.blk⟩, AT⟩
        clear XR AR AH AT
        have lRD := RD.lt
        refine gc_reg ?_
        refine t 48 (pg g8) ?_
        refine tc 49 25 #[pg g8, .int .i64 4] (yU4 (s := ((0 : Int), l1.drop 80)) RD) ?_
        rintro _ v25 ⟨x23, s24, Ex23, Hx23, rfl, RX, U⟩
        refine ⟨_, rfl, ?_⟩
        replace BB := But.below U BB (by omega) (Nat.le_refl _)
        replace Xg2 := But.blk U Xg2 (show g2 ≠ g8 by omega)
        replace Xg10 := But.blk U Xg10 (show g10 ≠ g8 by omega)
        clear U
        clear RD
        have RD := RX
        clear RX
        have os24 : Octets s24.2 := RD.oct
        refine tr 50 (.int .i64 x23) (cv_UI x23 ⟨by omega, by omega⟩) ?_
        refine t 6 (.int .i64 x23) ?_
        refine gl_nil ?_
        refine ge_then ?_
        refine gc_seq ?_
        refine gc_seq ?_
        refine gc_reg ?_
        refine t 51 (.int .i64 x23) ?_
        by_cases cz26 : (256 : Int) < x23
        · refine tq 52 (.bool (decide ((256 : Int) < x23))) (.bool true) (congrArg Value.bool (decide_eq_true cz26)) ?_
          refine gl_nil ?_
          refine ge_then ?_
          refine gc_yes ?_
          refine gc_seq ?_
          refine gc_reg ?_
          refine t 53 (.agg #[.int .u64 0, .int .u64 0, .int .u64 0, .int .u64 0, .int .u64 0, .int .u64 0, .int .u64 0, .int .u64 0, .int .u64 0, .int .u64 0, .slice none 0 0, .slice none 0 0]) ?_
          refine ts Xg2 0 (.agg #[.int .u64 0, .int .u64 0, .int .u64 0, .int .u64 0, .int .u64 0, .int .u64 0, .int .u64 0, .int .u64 0, .int .u64 0, .int .u64 0, .slice none 0 0, .slice none 0 0]) [.int .u64 0, .int .u64 0, .int .u64 0, .int .u64 0, .int .u64 0, .int .u64 0, .int .u64 0, .int .u64 0, .int .u64 0, .int .u64 0, .slice none 0 0, .slice none 0 0] [.int .u64 0, .int .u64 0, .int .u64 0, .int .u64 0, .int .u64 0, .int .u64 0, .int .u64 0, .int .u64 0, .int .u64 0, .int .u64 0, .slice none 0 0, .slice none 0 0] ?_
          intro v28 Y C
          replace BB := belowC BB C (by omega)
          replace Xg10 := Xg10.chg C (show g10 ≠ g2 by omega)
          replace RD := RfA.offB RD Xg2 rfl (by omega) (chg_but C)
          clear C Xg2
          have Xg2 := Y
          clear Y
          refine t 3 (.int .i64 210) ?_
          refine gl_nil ?_
          refine ge_then ?_
          refine gc_ret ?_
          refine ge_tr ?_
          refine ge_ret (.tuple #[.agg #[.int .u64 0, .int .u64 0, .int .u64 0, .int .u64 0, .int .u64 0, .int .u64 0, .int .u64 0, .int .u64 0, .int .u64 0, .int .u64 0, .slice none 0 0, .slice none 0 0], .int .i64 210]) (rsct 2 3 (T := 28) (by kernel_rfl) (by kernel_rfl) (by kernel_rfl) (lr Xg2 0)) ?_
          exact zR (eD_no (by omega) (ex3 ho E0 Ex23 (by omega))) (by decide) BB
        · refine tq 52 (.bool (decide ((256 : Int) < x23))) (.bool false) (congrArg Value.bool (decide_eq_false cz26)) ?_
          refine gl_nil ?_
          refine ge_then ?_
          refine gc_no ?_
          refine gc_skip ?_
          refine ge_then ?_
          refine gc_seq ?_
          refine gc_seq ?_
          obtain ⟨m0, hm0⟩ := Int.eq_ofNat_of_zero_le Hx23.1
          subst hm0
          refine gc_reg ?_
          refine t 7 (.int .i64 0) ?_
          refine gl_nil ?_
          refine ge_then ?_
          refine gc_block ?_
          refine gc_loop (fun s => m0 - s.2.2) (fun (s : Option Addr × Nat × Nat) => [(0, .slice ao n c), (2, pg g2), (4, pg g8), (5, pg g10), (6, .int .i64 ((m0 : Nat) : Int)), (7, .int .i64 ((s.2.2 : Nat) : Int))]) (fun s w' => s.2.2 ≤ m0 ∧ Blk w' g2 [.int .u64 0, .int .u64 0, .int .u64 0, .int .u64 0, .int .u64 0, .int .u64 0, .int .u64 0, .int .u64 0, .int .u64 0, .int .u64 0, .slice none 0 0, .slice none 0 0] 28 ∧ Blk w' g10 [.int .u64 p0, .int .u64 p1, .int .u64 p2, .int .u64 p3, .int .u64 p4, .int .u64 p5, .int .u64 p6, .int .u64 p7, .int .u64 p8, .int .u64 p9, .slice s.1 s.2.2 s.2.1, .slice none 0 0] 28 ∧ RfA w' g8 b (rN (s.2.2 * 2) s24).2.1 (rN (s.2.2 * 2) s24).2.2 ∧ Ow w.heap.size w' (.slice s.1 s.2.2 s.2.1) s.2.2 2 (rN (s.2.2 * 2) s24).1 43 ∧ Below w.heap.size w w') ((none, 0, 0) : Option Addr × Nat × Nat) ⟨Nat.zero_le _, Xg2, Xg10, RD, Ow.nil, BB⟩ (by kernel_rfl) ?_
          clear BB RD Xg2 Xg10
          rintro ⟨a0_, c0_, i0⟩ v30 ⟨hi0, Xg2, Xg10, RD, O0, BB⟩
          dsimp only at hi0 Xg10 RD O0
          have lRD := RD.lt
          have lXg2 := Xg2.lt
          have lXg10 := Xg10.lt
          refine gc_seq ?_
          refine gc_seq ?_
          refine gc_reg ?_
          refine t 54 (.int .i64 (i0 : Int)) ?_
          refine t 55 (.int .i64 ((m0 : Nat) : Int)) ?_
          by_cases cz31 : (i0 : Int) < ((m0 : Nat) : Int)
          · refine tq 56 (.bool (decide ((i0 : Int) < ((m0 : Nat) : Int)))) (.bool true) (congrArg Value.bool (decide_eq_true cz31)) ?_
            refine gl_nil ?_
            refine ge_then ?_
            refine gc_yes ?_
            refine gc_skip ?_
            refine ge_then ?_
            refine gc_seq ?_
            refine gc_block ?_
            refine gc_seq ?_
            refine gc_reg ?_
            refine t 59 (pg g8) ?_
            refine tc 60 25 #[pg g8, .int .i64 8] (yU8 (s := (rN (i0 * 2) s24).2) RD) ?_
            rintro _ v35 ⟨x33, s34, Ex33, rfl, RX, U⟩
            refine ⟨_, rfl, ?_⟩
            replace BB := But.below U BB (by omega) (Nat.le_refl _)
            replace Xg2 := But.blk U Xg2 (show g2 ≠ g8 by omega)
            replace Xg10 := But.blk U Xg10 (show g10 ≠ g8 by omega)
            replace O0 := O0.rf RD (by decide) U
            clear U
            clear RD
            have RD := RX
            clear RX
            refine t 61 (.agg #[.int .u64 x33, .int .u64 0]) ?_
            have lRD := RD.lt
            have lXg2 := Xg2.lt
            have lXg10 := Xg10.lt
            have lO0 := O0.lt
            refine ta 8 [.int .u64 0, .int .u64 0] 43 (pg) ?_
            intro v36 g37 Xg37 hg37 B
            have zg37 := Nat.le_trans BB.size hg37
            replace BB := joinB BB B
            replace RD := RD.keep B
            replace Xg2 := Xg2.keep B
            replace Xg10 := Xg10.keep B
            replace O0 := O0.keep B
            clear B
            refine ts Xg37 0 (.agg #[.int .u64 x33, .int .u64 0]) [.int .u64 x33, .int .u64 0] [.int .u64 x33, .int .u64 0] ?_
            intro v38 Y C
            replace O0 := O0.chg C (fun e => by have := lO0 _ e; omega)
            replace BB := belowC BB C (by omega)
            replace RD := RfA.offB RD Xg37 rfl (by omega) (chg_but C)
            replace Xg2 := Xg2.chg C (show g2 ≠ g37 by omega)
            replace Xg10 := Xg10.chg C (show g10 ≠ g37 by omega)
            clear C Xg37
            have Xg37 := Y
            clear Y
            refine gl_nil ?_
            refine ge_then ?_
            refine gc_seq ?_
            refine gc_reg ?_
            refine t 62 (pg g8) ?_
            refine tc 63 25 #[pg g8, .int .i64 8] (yU8 (s := s34) RD) ?_
            rintro _ v41 ⟨x39, s40, Ex39, rfl, RX, U⟩
            refine ⟨_, rfl, ?_⟩
            replace BB := But.below U BB (by omega) (Nat.le_refl _)
            replace Xg2 := But.blk U Xg2 (show g2 ≠ g8 by omega)
            replace Xg10 := But.blk U Xg10 (show g10 ≠ g8 by omega)
            replace O0 := O0.rf RD (by decide) U
            replace Xg37 := But.blk U Xg37 (show g37 ≠ g8 by omega)
            clear U
            clear RD
            have RD := RX
            clear RX
            refine t 64 (pq g37 1) ?_
            refine ts Xg37 1 (.int .u64 x39) [.int .u64 x39] [.int .u64 x33, .int .u64 x39] ?_
            intro v42 Y C
            replace O0 := O0.chg C (fun e => by have := lO0 _ e; omega)
            replace BB := belowC BB C (by omega)
            replace RD := RfA.offB RD Xg37 rfl (by omega) (chg_but C)
            replace Xg2 := Xg2.chg C (show g2 ≠ g37 by omega)
            replace Xg10 := Xg10.chg C (show g10 ≠ g37 by omega)
            clear C Xg37
            have Xg37 := Y
            clear Y
            refine gl_nil ?_
            refine ge_then ?_
            refine gc_reg ?_
            refine t 65 (pq g10 10) ?_
            refine tl 66 (.slice a0_ i0 c0_) Xg10 10 ?_
            refine tlr 67 [.int .u64 x33, .int .u64 x39] Xg37 0 ?_
            have lRD := RD.lt
            have lXg2 := Xg2.lt
            have lXg10 := Xg10.lt
            have lO0 := O0.lt
            have lXg37 := Xg37.lt
            refine ta 68 [.int .u64 x33, .int .u64 x39] 43 (sg 1) ?_
            intro v43 g44 Xg44 hg44 B
            have zg44 := Nat.le_trans BB.size hg44
            replace BB := joinB BB B
            replace RD := RD.keep B
            replace Xg2 := Xg2.keep B
            replace Xg10 := Xg10.keep B
            replace O0 := O0.keep B
            replace Xg37 := Xg37.keep B
            clear B
            obtain ⟨Uv45, v45, hr, OX, G⟩ := appP O0 (xs := [x33, x39]) Xg44 rfl (by omega) BB.size
            obtain ⟨av45, cv45, huv45⟩ := OX.sh
            subst huv45
            refine tw 69 (.slice av45 (i0 + 1) cv45) _ (run_apG 25 hr) ?_
            clear hr O0
            clear Xg37
            clear Xg44
            replace BB := Gt.below G BB (Nat.le_refl _) (Nat.le_refl _)
            replace RD := rfG RD hbB G (by decide)
            replace Xg2 := bkG Xg2 G (by decide)
            replace Xg10 := bkG Xg10 G (by decide)
            have O0 := OX
            clear OX G
            refine t 70 (pq g10 10) ?_
            refine ts Xg10 10 (.slice av45 (i0 + 1) cv45) [.slice av45 (i0 + 1) cv45] [.int .u64 p0, .int .u64 p1, .int .u64 p2, .int .u64 p3, .int .u64 p4, .int .u64 p5, .int .u64 p6, .int .u64 p7, .int .u64 p8, .int .u64 p9, .slice av45 (i0 + 1) cv45, .slice none 0 0] ?_
            intro v46 Y C
            replace O0 := O0.typ Xg10 (by decide) C
            replace BB := belowC BB C (by omega)
            replace RD := RfA.offB RD Xg10 rfl (by omega) (chg_but C)
            replace Xg2 := Xg2.chg C (show g2 ≠ g10 by omega)
            clear C Xg10
            have Xg10 := Y
            clear Y
            refine gl_nil ?_
            refine ge_bn ?_
            refine ge_then ?_
            refine gc_fr [(0, .slice ao n c), (2, pg g2), (4, pg g8), (5, pg g10), (6, .int .i64 ((m0 : Nat) : Int)), (7, .int .i64 (i0 : Int)), (8, pg g37), (54, .int .i64 (i0 : Int)), (55, .int .i64 ((m0 : Nat) : Int)), (56, .bool true), (59, pg g8), (60, .int .u64 x33), (61, .agg #[.int .u64 x33, .int .u64 0]), (62, pg g8), (63, .int .u64 x39), (64, pq g37 1), (65, pq g10 10), (66, .slice a0_ i0 c0_), (67, .agg #[.int .u64 x33, .int .u64 x39]), (68, sg 1 g44), (69, .slice av45 (i0 + 1) cv45), (70, pq g10 10)] (by kernel_rfl) ?_
            refine gc_reg ?_
            refine t 57 (.int .i64 (i0 : Int)) ?_
            refine tq 58 (.int .i64 (IntKind.i64.wrap ((i0 : Int) + 1))) (.int .i64 ((i0 : Int) + 1)) (wi (by omega)) ?_
            refine t 7 (.int .i64 ((i0 : Int) + 1)) ?_
            refine gl_nil ?_
            have eR : rN ((i0 + 1) * 2) s24 = ((rN (i0 * 2) s24).1 ++ [x33, x39], s40) := by
              rw [show (i0 + 1) * 2 = i0 * 2 + 2 by omega, rN_add, rN2 Ex33 Ex39]
            exact ge_round ((av45, cv45, i0 + 1) : Option Addr × Nat × Nat) (by show m0 - (i0 + 1) < m0 - i0; omega) ⟨by show i0 + 1 ≤ m0; omega, Xg2, Xg10, by rw [eR]; exact RD, by rw [eR]; exact O0, BB⟩ (by kernel_rfl)
          · refine tq 56 (.bool (decide ((i0 : Int) < ((m0 : Nat) : Int)))) (.bool false) (congrArg Value.bool (decide_eq_false cz31)) ?_
            refine gl_nil ?_
            refine ge_then ?_
            refine gc_no ?_
            refine gc_exit ?_
            refine ge_tx ?_
            refine ge_tx ?_
            refine ge_bx ?_
            refine ge_then ?_
            refine gc_seq ?_
            obtain rfl : m0 = i0 := by omega
            obtain ⟨A0, sA0, eA0⟩ : ∃ A0 sA0, rN (m0 * 2) s24 = (A0, sA0) := ⟨_, _, rfl⟩
            rw [eA0] at RD O0
            have rA0 : ∀ x ∈ A0, In8 x := by
              have := (rN_inv (m0 * 2) s24 os24).1.2
              rw [eA0] at this
              exact this
            have osA0 : Octets sA0.2 := RD.oct
            refine gc_reg ?_
            refine t 71 (pg g8) ?_
            refine tc 72 25 #[pg g8, .int .i64 4] (yU4 (s := sA0) RD) ?_
            rintro _ v50 ⟨x48, s49, Ex48, Hx48, rfl, RX, U⟩
            refine ⟨_, rfl, ?_⟩
            replace BB := But.below U BB (by omega) (Nat.le_refl _)
            replace Xg2 := But.blk U Xg2 (show g2 ≠ g8 by omega)
            replace Xg10 := But.blk U Xg10 (show g10 ≠ g8 by omega)
            replace O0 := O0.rf RD (by decide) U
            clear U
            clear RD
            have RD := RX
            clear RX
            have os49 : Octets s49.2 := RD.oct
            refine tr 73 (.int .i64 x48) (cv_UI x48 ⟨by omega, by omega⟩) ?_
            refine t 6 (.int .i64 x48) ?_
            refine gl_nil ?_
            refine ge_then ?_
            refine gc_seq ?_
            refine gc_seq ?_
            refine gc_reg ?_
            refine t 74 (.int .i64 x48) ?_
            by_cases cz51 : (64 : Int) < x48
            · refine tq 75 (.bool (decide ((64 : Int) < x48))) (.bool true) (congrArg Value.bool (decide_eq_true cz51)) ?_
              refine gl_nil ?_
              refine ge_then ?_
              refine gc_yes ?_
              refine gc_seq ?_
              refine gc_reg ?_
              refine t 76 (.agg #[.int .u64 0, .int .u64 0, .int .u64 0, .int .u64 0, .int .u64 0, .int .u64 0, .int .u64 0, .int .u64 0, .int .u64 0, .int .u64 0, .slice none 0 0, .slice none 0 0]) ?_
              refine ts Xg2 0 (.agg #[.int .u64 0, .int .u64 0, .int .u64 0, .int .u64 0, .int .u64 0, .int .u64 0, .int .u64 0, .int .u64 0, .int .u64 0, .int .u64 0, .slice none 0 0, .slice none 0 0]) [.int .u64 0, .int .u64 0, .int .u64 0, .int .u64 0, .int .u64 0, .int .u64 0, .int .u64 0, .int .u64 0, .int .u64 0, .int .u64 0, .slice none 0 0, .slice none 0 0] [.int .u64 0, .int .u64 0, .int .u64 0, .int .u64 0, .int .u64 0, .int .u64 0, .int .u64 0, .int .u64 0, .int .u64 0, .int .u64 0, .slice none 0 0, .slice none 0 0] ?_
              intro v53 Y C
              replace O0 := O0.typ Xg2 (by decide) C
              replace BB := belowC BB C (by omega)
              replace RD := RfA.offB RD Xg2 rfl (by omega) (chg_but C)
              replace Xg10 := Xg10.chg C (show g10 ≠ g2 by omega)
              clear C Xg2
              have Xg2 := Y
              clear Y
              refine t 3 (.int .i64 210) ?_
              refine gl_nil ?_
              refine ge_then ?_
              refine gc_ret ?_
              refine ge_tr ?_
              refine ge_ret (.tuple #[.agg #[.int .u64 0, .int .u64 0, .int .u64 0, .int .u64 0, .int .u64 0, .int .u64 0, .int .u64 0, .int .u64 0, .int .u64 0, .int .u64 0, .slice none 0 0, .slice none 0 0], .int .i64 210]) (rsct 2 3 (T := 28) (by kernel_rfl) (by kernel_rfl) (by kernel_rfl) (lr Xg2 0)) ?_
              exact zR (eD_no (by omega) (ex4 ho E0 Ex23 eA0 Ex48 (by omega))) (by decide) BB
            · refine tq 75 (.bool (decide ((64 : Int) < x48))) (.bool false) (congrArg Value.bool (decide_eq_false cz51)) ?_
              refine gl_nil ?_
              refine ge_then ?_
              refine gc_no ?_
              refine gc_skip ?_
              refine ge_then ?_
              refine gc_seq ?_
              refine gc_seq ?_
              obtain ⟨m1, hm1⟩ := Int.eq_ofNat_of_zero_le Hx48.1
              subst hm1
              refine gc_reg ?_
              refine t 9 (.int .i64 0) ?_
              refine gl_nil ?_
              refine ge_then ?_
              refine gc_block ?_
              refine gc_loop (fun s => m1 - s.2.2) (fun (s : Option Addr × Nat × Nat) => [(0, .slice ao n c), (2, pg g2), (4, pg g8), (5, pg g10), (6, .int .i64 ((m1 : Nat) : Int)), (9, .int .i64 ((s.2.2 : Nat) : Int))]) (fun s w' => s.2.2 ≤ m1 ∧ Blk w' g2 [.int .u64 0, .int .u64 0, .int .u64 0, .int .u64 0, .int .u64 0, .int .u64 0, .int .u64 0, .int .u64 0, .int .u64 0, .int .u64 0, .slice none 0 0, .slice none 0 0] 28 ∧ Blk w' g10 [.int .u64 p0, .int .u64 p1, .int .u64 p2, .int .u64 p3, .int .u64 p4, .int .u64 p5, .int .u64 p6, .int .u64 p7, .int .u64 p8, .int .u64 p9, .slice a0_ m0 c0_, .slice s.1 s.2.2 s.2.1] 28 ∧ RfA w' g8 b (rN (s.2.2 * 3) s49).2.1 (rN (s.2.2 * 3) s49).2.2 ∧ Ow w.heap.size w' (.slice s.1 s.2.2 s.2.1) s.2.2 3 (rN (s.2.2 * 3) s49).1 45 ∧ Ow w.heap.size w' (.slice a0_ m0 c0_) m0 2 A0 43 ∧ Below w.heap.size w w') ((none, 0, 0) : Option Addr × Nat × Nat) ⟨Nat.zero_le _, Xg2, Xg10, RD, Ow.nil, O0, BB⟩ (by kernel_rfl) ?_
              clear BB RD Xg2 Xg10 O0
              rintro ⟨a1_, c1_, i1⟩ v55 ⟨hi1, Xg2, Xg10, RD, O1, O0, BB⟩
              dsimp only at hi1 Xg10 RD O1
              have lRD := RD.lt
              have lXg2 := Xg2.lt
              have lXg10 := Xg10.lt
              refine gc_seq ?_
              refine gc_seq ?_
              refine gc_reg ?_
              refine t 77 (.int .i64 (i1 : Int)) ?_
              refine t 78 (.int .i64 ((m1 : Nat) : Int)) ?_
              by_cases cz56 : (i1 : Int) < ((m1 : Nat) : Int)
              · refine tq 79 (.bool (decide ((i1 : Int) < ((m1 : Nat) : Int)))) (.bool true) (congrArg Value.bool (decide_eq_true cz56)) ?_
                refine gl_nil ?_
                refine ge_then ?_
                refine gc_yes ?_
                refine gc_skip ?_
                refine ge_then ?_
                refine gc_seq ?_
                refine gc_block ?_
                refine gc_seq ?_
                refine gc_reg ?_
                refine t 82 (pg g8) ?_
                refine tc 83 25 #[pg g8, .int .i64 8] (yU8 (s := (rN (i1 * 3) s49).2) RD) ?_
                rintro _ v60 ⟨x58, s59, Ex58, rfl, RX, U⟩
                refine ⟨_, rfl, ?_⟩
                replace BB := But.below U BB (by omega) (Nat.le_refl _)
                replace Xg2 := But.blk U Xg2 (show g2 ≠ g8 by omega)
                replace Xg10 := But.blk U Xg10 (show g10 ≠ g8 by omega)
                replace O1 := O1.rf RD (by decide) U
                replace O0 := O0.rf RD (by decide) U
                clear U
                clear RD
                have RD := RX
                clear RX
                refine t 84 (.agg #[.int .u64 x58, .int .u64 0, .int .u64 0]) ?_
                have lRD := RD.lt
                have lXg2 := Xg2.lt
                have lXg10 := Xg10.lt
                have lO1 := O1.lt
                have lO0 := O0.lt
                refine ta 10 [.int .u64 0, .int .u64 0, .int .u64 0] 45 (pg) ?_
                intro v61 g62 Xg62 hg62 B
                have zg62 := Nat.le_trans BB.size hg62
                replace BB := joinB BB B
                replace RD := RD.keep B
                replace Xg2 := Xg2.keep B
                replace Xg10 := Xg10.keep B
                replace O1 := O1.keep B
                replace O0 := O0.keep B
                clear B
                refine ts Xg62 0 (.agg #[.int .u64 x58, .int .u64 0, .int .u64 0]) [.int .u64 x58, .int .u64 0, .int .u64 0] [.int .u64 x58, .int .u64 0, .int .u64 0] ?_
                intro v63 Y C
                replace O1 := O1.chg C (fun e => by have := lO1 _ e; omega)
                replace O0 := O0.typ Xg62 (by decide) C
                replace BB := belowC BB C (by omega)
                replace RD := RfA.offB RD Xg62 rfl (by omega) (chg_but C)
                replace Xg2 := Xg2.chg C (show g2 ≠ g62 by omega)
                replace Xg10 := Xg10.chg C (show g10 ≠ g62 by omega)
                clear C Xg62
                have Xg62 := Y
                clear Y
                refine gl_nil ?_
                refine ge_then ?_
                refine gc_seq ?_
                refine gc_reg ?_
                refine t 85 (pg g8) ?_
                refine tc 86 25 #[pg g8, .int .i64 8] (yU8 (s := s59) RD) ?_
                rintro _ v66 ⟨x64, s65, Ex64, rfl, RX, U⟩
                refine ⟨_, rfl, ?_⟩
                replace BB := But.below U BB (by omega) (Nat.le_refl _)
                replace Xg2 := But.blk U Xg2 (show g2 ≠ g8 by omega)
                replace Xg10 := But.blk U Xg10 (show g10 ≠ g8 by omega)
                replace O1 := O1.rf RD (by decide) U
                replace O0 := O0.rf RD (by decide) U
                replace Xg62 := But.blk U Xg62 (show g62 ≠ g8 by omega)
                clear U
                clear RD
                have RD := RX
                clear RX
                refine t 87 (pq g62 1) ?_
                refine ts Xg62 1 (.int .u64 x64) [.int .u64 x64] [.int .u64 x58, .int .u64 x64, .int .u64 0] ?_
                intro v67 Y C
                replace O1 := O1.chg C (fun e => by have := lO1 _ e; omega)
                replace O0 := O0.typ Xg62 (by decide) C
                replace BB := belowC BB C (by omega)
                replace RD := RfA.offB RD Xg62 rfl (by omega) (chg_but C)
                replace Xg2 := Xg2.chg C (show g2 ≠ g62 by omega)
                replace Xg10 := Xg10.chg C (show g10 ≠ g62 by omega)
                clear C Xg62
                have Xg62 := Y
                clear Y
                refine gl_nil ?_
                refine ge_then ?_
                refine gc_seq ?_
                refine gc_reg ?_
                refine t 88 (pg g8) ?_
                refine tc 89 25 #[pg g8, .int .i64 8] (yU8 (s := s65) RD) ?_
                rintro _ v70 ⟨x68, s69, Ex68, rfl, RX, U⟩
                refine ⟨_, rfl, ?_⟩
                replace BB := But.below U BB (by omega) (Nat.le_refl _)
                replace Xg2 := But.blk U Xg2 (show g2 ≠ g8 by omega)
                replace Xg10 := But.blk U Xg10 (show g10 ≠ g8 by omega)
                replace O1 := O1.rf RD (by decide) U
                replace O0 := O0.rf RD (by decide) U
                replace Xg62 := But.blk U Xg62 (show g62 ≠ g8 by omega)
                clear U
                clear RD
                have RD := RX
                clear RX
                refine t 90 (pq g62 2) ?_
                refine ts Xg62 2 (.int .u64 x68) [.int .u64 x68] [.int .u64 x58, .int .u64 x64, .int .u64 x68] ?_
                intro v71 Y C
                replace O1 := O1.chg C (fun e => by have := lO1 _ e; omega)
                replace O0 := O0.typ Xg62 (by decide) C
                replace BB := belowC BB C (by omega)
                replace RD := RfA.offB RD Xg62 rfl (by omega) (chg_but C)
                replace Xg2 := Xg2.chg C (show g2 ≠ g62 by omega)
                replace Xg10 := Xg10.chg C (show g10 ≠ g62 by omega)
                clear C Xg62
                have Xg62 := Y
                clear Y
                refine gl_nil ?_
                refine ge_then ?_
                refine gc_reg ?_
                refine t 91 (pq g10 11) ?_
                refine tl 92 (.slice a1_ i1 c1_) Xg10 11 ?_
                refine tlr 93 [.int .u64 x58, .int .u64 x64, .int .u64 x68] Xg62 0 ?_
                have lRD := RD.lt
                have lXg2 := Xg2.lt
                have lXg10 := Xg10.lt
                have lO1 := O1.lt
                have lO0 := O0.lt
                have lXg62 := Xg62.lt
                refine ta 94 [.int .u64 x58, .int .u64 x64, .int .u64 x68] 45 (sg 1) ?_
                intro v72 g73 Xg73 hg73 B
                have zg73 := Nat.le_trans BB.size hg73
                replace BB := joinB BB B
                replace RD := RD.keep B
                replace Xg2 := Xg2.keep B
                replace Xg10 := Xg10.keep B
                replace O1 := O1.keep B
                replace O0 := O0.keep B
                replace Xg62 := Xg62.keep B
                clear B
                obtain ⟨Uv74, v74, hr, OX, G⟩ := appF O1 (xs := [x58, x64, x68]) Xg73 rfl (by omega) BB.size
                obtain ⟨av74, cv74, huv74⟩ := OX.sh
                subst huv74
                refine tw 95 (.slice av74 (i1 + 1) cv74) _ (run_apG 26 hr) ?_
                clear hr O1
                clear Xg62
                clear Xg73
                replace BB := Gt.below G BB (Nat.le_refl _) (Nat.le_refl _)
                replace RD := rfG RD hbB G (by decide)
                replace Xg2 := bkG Xg2 G (by decide)
                replace Xg10 := bkG Xg10 G (by decide)
                replace O0 := O0.gt G (by decide)
                have O1 := OX
                clear OX G
                refine t 96 (pq g10 11) ?_
                refine ts Xg10 11 (.slice av74 (i1 + 1) cv74) [.slice av74 (i1 + 1) cv74] [.int .u64 p0, .int .u64 p1, .int .u64 p2, .int .u64 p3, .int .u64 p4, .int .u64 p5, .int .u64 p6, .int .u64 p7, .int .u64 p8, .int .u64 p9, .slice a0_ m0 c0_, .slice av74 (i1 + 1) cv74] ?_
                intro v75 Y C
                replace O0 := O0.typ Xg10 (by decide) C
                replace O1 := O1.typ Xg10 (by decide) C
                replace BB := belowC BB C (by omega)
                replace RD := RfA.offB RD Xg10 rfl (by omega) (chg_but C)
                replace Xg2 := Xg2.chg C (show g2 ≠ g10 by omega)
                clear C Xg10
                have Xg10 := Y
                clear Y
                refine gl_nil ?_
                refine ge_bn ?_
                refine ge_then ?_
                refine gc_fr [(0, .slice ao n c), (2, pg g2), (4, pg g8), (5, pg g10), (6, .int .i64 ((m1 : Nat) : Int)), (9, .int .i64 (i1 : Int)), (10, pg g62), (77, .int .i64 (i1 : Int)), (78, .int .i64 ((m1 : Nat) : Int)), (79, .bool true), (82, pg g8), (83, .int .u64 x58), (84, .agg #[.int .u64 x58, .int .u64 0, .int .u64 0]), (85, pg g8), (86, .int .u64 x64), (87, pq g62 1), (88, pg g8), (89, .int .u64 x68), (90, pq g62 2), (91, pq g10 11), (92, .slice a1_ i1 c1_), (93, .agg #[.int .u64 x58, .int .u64 x64, .int .u64 x68]), (94, sg 1 g73), (95, .slice av74 (i1 + 1) cv74), (96, pq g10 11)] (by kernel_rfl) ?_
                refine gc_reg ?_
                refine t 80 (.int .i64 (i1 : Int)) ?_
                refine tq 81 (.int .i64 (IntKind.i64.wrap ((i1 : Int) + 1))) (.int .i64 ((i1 : Int) + 1)) (wi (by omega)) ?_
                refine t 9 (.int .i64 ((i1 : Int) + 1)) ?_
                refine gl_nil ?_
                have eR : rN ((i1 + 1) * 3) s49 = ((rN (i1 * 3) s49).1 ++ [x58, x64, x68], s69) := by
                  rw [show (i1 + 1) * 3 = i1 * 3 + 3 by omega, rN_add, rN3 Ex58 Ex64 Ex68]
                exact ge_round ((av74, cv74, i1 + 1) : Option Addr × Nat × Nat) (by show m1 - (i1 + 1) < m1 - i1; omega) ⟨by show i1 + 1 ≤ m1; omega, Xg2, Xg10, by rw [eR]; exact RD, by rw [eR]; exact O1, O0, BB⟩ (by kernel_rfl)
              · refine tq 79 (.bool (decide ((i1 : Int) < ((m1 : Nat) : Int)))) (.bool false) (congrArg Value.bool (decide_eq_false cz56)) ?_
                refine gl_nil ?_
                refine ge_then ?_
                refine gc_no ?_
                refine gc_exit ?_
                refine ge_tx ?_
                refine ge_tx ?_
                refine ge_bx ?_
                refine ge_then ?_
                refine gc_seq ?_
                refine gc_seq ?_
                obtain rfl : m1 = i1 := by omega
                obtain ⟨A1, sA1, eA1⟩ : ∃ A1 sA1, rN (m1 * 3) s49 = (A1, sA1) := ⟨_, _, rfl⟩
                rw [eA1] at RD O1
                have rA1 : ∀ x ∈ A1, In8 x := by
                  have := (rN_inv (m1 * 3) s49 os49).1.2
                  rw [eA1] at this
                  exact this
                have osA1 : Octets sA1.2 := RD.oct
                obtain ⟨la0, lc0, lg0, hv0, N0, hg0, hx0⟩ := O0.nl rA0
                obtain ⟨rfl, rfl⟩ : a0_ = la0 ∧ c0_ = lc0 := by cases hv0; exact ⟨rfl, rfl⟩
                clear hv0
                have kr0 : 0 < m0 → lg0 ≠ g8 := by
                  obtain ⟨_, _, _, XX, _⟩ := RD.ex
                  exact hx0 _ _ _ ⟨XX.blk⟩ (by decide)
                have kA0 := hx0 _ _ _ Xg2 (by decide)
                have kB0 := hx0 _ _ _ Xg10 (by decide)
                have K0 : 0 < m0 → lg0 < v55.heap.size := fun h => N0.lt h (by decide)
                clear O0
                obtain ⟨la1, lc1, lg1, hv1, N1, hg1, hx1⟩ := O1.nl rA1
                obtain ⟨rfl, rfl⟩ : a1_ = la1 ∧ c1_ = lc1 := by cases hv1; exact ⟨rfl, rfl⟩
                clear hv1
                have kr1 : 0 < m1 → lg1 ≠ g8 := by
                  obtain ⟨_, _, _, XX, _⟩ := RD.ex
                  exact hx1 _ _ _ ⟨XX.blk⟩ (by decide)
                have kA1 := hx1 _ _ _ Xg2 (by decide)
                have kB1 := hx1 _ _ _ Xg10 (by decide)
                have K1 : 0 < m1 → lg1 < v55.heap.size := fun h => N1.lt h (by decide)
                clear O1
                refine gc_reg ?_
                refine t 97 (pg g8) ?_
                refine tc 98 27 #[pg g8] (rfEnd RD) ?_
                rintro _ v77 ⟨rfl, RX, U⟩
                refine ⟨_, rfl, ?_⟩
                replace BB := But.below U BB (by omega) (Nat.le_refl _)
                replace Xg2 := But.blk U Xg2 (show g2 ≠ g8 by omega)
                replace Xg10 := But.blk U Xg10 (show g10 ≠ g8 by omega)
                replace N0 := nlU N0 U (fun h => by have := kr0 h; omega)
                replace N1 := nlU N1 U (fun h => by have := kr1 h; omega)
                clear U
                clear RD RX
                by_cases cz78 : (endE sA1.1 sA1.2 : Int) = 0
                · refine tq 99 (.bool ((endE sA1.1 sA1.2 : Int) != 0)) (.bool false) (congrArg Value.bool (bne_eq_false_iff_eq.2 cz78)) ?_
                  refine t 100 (.bool false) ?_
                  refine tlr 101 [.int .u64 p0, .int .u64 p1, .int .u64 p2, .int .u64 p3, .int .u64 p4, .int .u64 p5, .int .u64 p6, .int .u64 p7, .int .u64 p8, .int .u64 p9, .slice a0_ m0 c0_, .slice a1_ m1 c1_] Xg10 0 ?_
                  refine tc 102 12 #[.agg #[.int .u64 p0, .int .u64 p1, .int .u64 p2, .int .u64 p3, .int .u64 p4, .int .u64 p5, .int .u64 p6, .int .u64 p7, .int .u64 p8, .int .u64 p9, .slice a0_ m0 c0_, .slice a1_ m1 c1_]] (renc21 N0 N1 (by omega) (by omega)) ?_
                  rintro _ v80 ⟨VV, rfl, MV, B⟩
                  refine ⟨_, rfl, ?_⟩
                  replace BB := joinB BB B
                  replace Xg2 := Xg2.keep B
                  replace Xg10 := Xg10.keep B
                  replace N0 := N0.keep B
                  replace N1 := N1.keep B
                  clear B
                  obtain ⟨bv, av, cv, hvv, -, AV⟩ := MV.bya (bG_oct _ _ _)
                  subst hvv
                  refine t 103 (.slice ao n c) ?_
                  have ok21 : Ge.Ok ⟨[p0, p1, p2, p3, p4, p5, p6, p7, p8, p9], A0, A1⟩ m0 m1 := ⟨rfl, by have := N0.len; exact this, by have := N1.len; exact this, hP, rA0, rA1⟩
                  refine tc 104 10 #[.slice av (bG ⟨[p0, p1, p2, p3, p4, p5, p6, p7, p8, p9], A0, A1⟩ m0 m1).length cv, .slice ao n c] (bSame AV (A.keep BB) (by rw [bG_len ok21]; omega) (by omega)) ?_
                  rintro _ v81 ⟨rfl, B⟩
                  refine ⟨_, rfl, ?_⟩
                  replace BB := joinB BB B
                  replace Xg2 := Xg2.keep B
                  replace Xg10 := Xg10.keep B
                  replace N0 := N0.keep B
                  replace N1 := N1.keep B
                  clear B
                  refine t 105 (.bool (!(eqB (bG ⟨[p0, p1, p2, p3, p4, p5, p6, p7, p8, p9], A0, A1⟩ m0 m1) l))) ?_
                  refine t 106 (.bool (!(eqB (bG ⟨[p0, p1, p2, p3, p4, p5, p6, p7, p8, p9], A0, A1⟩ m0 m1) l))) ?_
                  refine gl_nil ?_
                  refine ge_then ?_
                  rcases Bool.eq_false_or_eq_true (!(eqB (bG ⟨[p0, p1, p2, p3, p4, p5, p6, p7, p8, p9], A0, A1⟩ m0 m1) l)) with b82 | b82
                  · refine gc_yes (hc := congrArg Value.bool b82) ?_
                    refine gc_seq ?_
                    refine gc_reg ?_
                    refine t 107 (.agg #[.int .u64 0, .int .u64 0, .int .u64 0, .int .u64 0, .int .u64 0, .int .u64 0, .int .u64 0, .int .u64 0, .int .u64 0, .int .u64 0, .slice none 0 0, .slice none 0 0]) ?_
                    refine ts Xg2 0 (.agg #[.int .u64 0, .int .u64 0, .int .u64 0, .int .u64 0, .int .u64 0, .int .u64 0, .int .u64 0, .int .u64 0, .int .u64 0, .int .u64 0, .slice none 0 0, .slice none 0 0]) [.int .u64 0, .int .u64 0, .int .u64 0, .int .u64 0, .int .u64 0, .int .u64 0, .int .u64 0, .int .u64 0, .int .u64 0, .int .u64 0, .slice none 0 0, .slice none 0 0] [.int .u64 0, .int .u64 0, .int .u64 0, .int .u64 0, .int .u64 0, .int .u64 0, .int .u64 0, .int .u64 0, .int .u64 0, .int .u64 0, .slice none 0 0, .slice none 0 0] ?_
                    intro v83 Y C
                    replace BB := belowC BB C (by omega)
                    replace Xg10 := Xg10.chg C (show g10 ≠ g2 by omega)
                    replace N0 := nlC2 N0 C (fun h => by have := kA0 h; have := kB0 h; omega)
                    replace N1 := nlC2 N1 C (fun h => by have := kA1 h; have := kB1 h; omega)
                    clear C Xg2
                    have Xg2 := Y
                    clear Y
                    refine t 3 (.int .i64 210) ?_
                    refine gl_nil ?_
                    refine ge_then ?_
                    refine gc_ret ?_
                    refine ge_tr ?_
                    refine ge_ret (.tuple #[.agg #[.int .u64 0, .int .u64 0, .int .u64 0, .int .u64 0, .int .u64 0, .int .u64 0, .int .u64 0, .int .u64 0, .int .u64 0, .int .u64 0, .slice none 0 0, .slice none 0 0], .int .i64 210]) (rsct 2 3 (T := 28) (by kernel_rfl) (by kernel_rfl) (by kernel_rfl) (lr Xg2 0)) ?_
                    exact zR (eD_no (by omega) (ex5 ho E0 E2 Ex23 eA0 Ex48 eA1 (.inr (fun e => by have := b82; simp [eqB, e] at this)))) (by decide) BB
                  · refine gc_no (hc := congrArg Value.bool b82) ?_
                    refine gc_skip ?_
                    refine ge_then ?_
                    refine gc_seq ?_
                    refine gc_reg ?_
                    refine tlr 108 [.int .u64 p0, .int .u64 p1, .int .u64 p2, .int .u64 p3, .int .u64 p4, .int .u64 p5, .int .u64 p6, .int .u64 p7, .int .u64 p8, .int .u64 p9, .slice a0_ m0 c0_, .slice a1_ m1 c1_] Xg10 0 ?_
                    refine ts Xg2 0 (.agg #[.int .u64 p0, .int .u64 p1, .int .u64 p2, .int .u64 p3, .int .u64 p4, .int .u64 p5, .int .u64 p6, .int .u64 p7, .int .u64 p8, .int .u64 p9, .slice a0_ m0 c0_, .slice a1_ m1 c1_]) [.int .u64 p0, .int .u64 p1, .int .u64 p2, .int .u64 p3, .int .u64 p4, .int .u64 p5, .int .u64 p6, .int .u64 p7, .int .u64 p8, .int .u64 p9, .slice a0_ m0 c0_, .slice a1_ m1 c1_] [.int .u64 p0, .int .u64 p1, .int .u64 p2, .int .u64 p3, .int .u64 p4, .int .u64 p5, .int .u64 p6, .int .u64 p7, .int .u64 p8, .int .u64 p9, .slice a0_ m0 c0_, .slice a1_ m1 c1_] ?_
                    intro v84 Y C
                    replace BB := belowC BB C (by omega)
                    replace Xg10 := Xg10.chg C (show g10 ≠ g2 by omega)
                    replace N0 := nlC2 N0 C (fun h => by have := kA0 h; have := kB0 h; omega)
                    replace N1 := nlC2 N1 C (fun h => by have := kA1 h; have := kB1 h; omega)
                    clear C Xg2
                    have Xg2 := Y
                    clear Y
                    refine t 3 (.int .i64 0) ?_
                    refine gl_nil ?_
                    refine ge_then ?_
                    refine gc_ret ?_
                    refine ge_ret (.tuple #[.agg #[.int .u64 p0, .int .u64 p1, .int .u64 p2, .int .u64 p3, .int .u64 p4, .int .u64 p5, .int .u64 p6, .int .u64 p7, .int .u64 p8, .int .u64 p9, .slice a0_ m0 c0_, .slice a1_ m1 c1_], .int .i64 0]) (rsct 2 3 (T := 28) (by kernel_rfl) (by kernel_rfl) (by kernel_rfl) (lr Xg2 0)) ?_
                    have hbG : bG ⟨[p0, p1, p2, p3, p4, p5, p6, p7, p8, p9], A0, A1⟩ m0 m1 = l := by
                      have := b82
                      simpa [eqB] using this
                    obtain ⟨ED, GD, -⟩ := back21 ok21 (by omega) (by omega)
                    rw [hbG] at ED GD
                    unfold RP
                    rw [ED]
                    exact ⟨p0, p1, p2, p3, p4, p5, p6, p7, p8, p9, _, m0, _, lg0, _, m1, _, lg1, A0, A1, rfl, by rw [if_pos rfl, GD], N0, N1, hg0, hg1, BB⟩
                · refine tq 99 (.bool ((endE sA1.1 sA1.2 : Int) != 0)) (.bool true) (congrArg Value.bool (bne_iff_ne.2 cz78)) ?_
                  refine t 100 (.bool true) ?_
                  refine tn 101 ?_
                  refine tn 102 ?_
                  refine tn 103 ?_
                  refine tn 104 ?_
                  refine tn 105 ?_
                  refine t 106 (.bool true) ?_
                  refine gl_nil ?_
                  refine ge_then ?_
                  refine gc_yes ?_
                  refine gc_seq ?_
                  refine gc_reg ?_
                  refine t 107 (.agg #[.int .u64 0, .int .u64 0, .int .u64 0, .int .u64 0, .int .u64 0, .int .u64 0, .int .u64 0, .int .u64 0, .int .u64 0, .int .u64 0, .slice none 0 0, .slice none 0 0]) ?_
                  refine ts Xg2 0 (.agg #[.int .u64 0, .int .u64 0, .int .u64 0, .int .u64 0, .int .u64 0, .int .u64 0, .int .u64 0, .int .u64 0, .int .u64 0, .int .u64 0, .slice none 0 0, .slice none 0 0]) [.int .u64 0, .int .u64 0, .int .u64 0, .int .u64 0, .int .u64 0, .int .u64 0, .int .u64 0, .int .u64 0, .int .u64 0, .int .u64 0, .slice none 0 0, .slice none 0 0] [.int .u64 0, .int .u64 0, .int .u64 0, .int .u64 0, .int .u64 0, .int .u64 0, .int .u64 0, .int .u64 0, .int .u64 0, .int .u64 0, .slice none 0 0, .slice none 0 0] ?_
                  intro v86 Y C
                  replace BB := belowC BB C (by omega)
                  replace Xg10 := Xg10.chg C (show g10 ≠ g2 by omega)
                  replace N0 := nlC2 N0 C (fun h => by have := kA0 h; have := kB0 h; omega)
                  replace N1 := nlC2 N1 C (fun h => by have := kA1 h; have := kB1 h; omega)
                  clear C Xg2
                  have Xg2 := Y
                  clear Y
                  refine t 3 (.int .i64 210) ?_
                  refine gl_nil ?_
                  refine ge_then ?_
                  refine gc_ret ?_
                  refine ge_tr ?_
                  refine ge_ret (.tuple #[.agg #[.int .u64 0, .int .u64 0, .int .u64 0, .int .u64 0, .int .u64 0, .int .u64 0, .int .u64 0, .int .u64 0, .int .u64 0, .int .u64 0, .slice none 0 0, .slice none 0 0], .int .i64 210]) (rsct 2 3 (T := 28) (by kernel_rfl) (by kernel_rfl) (by kernel_rfl) (lr Xg2 0)) ?_
                  exact zR (eD_no (by omega) (ex5 ho E0 E2 Ex23 eA0 Ex48 eA1 (.inl cz78))) (by decide) BB
    · refine tq 20 (.bool ((x11 : Int) != 1196183089)) (.bool true) (congrArg Value.bool (bne_iff_ne.2 cz14)) ?_
      refine t 21 (.bool true) ?_
      refine tn 22 ?_
      refine tn 23 ?_
      refine tn 24 ?_
      refine tn 25 ?_
      refine tn 26 ?_
      refine tn 27 ?_
      refine t 28 (.bool true) ?_
      refine gl_nil ?_
      refine ge_then ?_
      refine gc_fr [(0, .slice ao n c), (2, pg g2), (3, .int .i64 0), (4, pg g8), (5, pg g10), (28, .bool true)] (by kernel_rfl) ?_
      refine gc_yes ?_
      refine gc_seq ?_
      refine gc_reg ?_
      refine t 29 (.agg #[.int .u64 0, .int .u64 0, .int .u64 0, .int .u64 0, .int .u64 0, .int .u64 0, .int .u64 0, .int .u64 0, .int .u64 0, .int .u64 0, .slice none 0 0, .slice none 0 0]) ?_
      refine ts Xg2 0 (.agg #[.int .u64 0, .int .u64 0, .int .u64 0, .int .u64 0, .int .u64 0, .int .u64 0, .int .u64 0, .int .u64 0, .int .u64 0, .int .u64 0, .slice none 0 0, .slice none 0 0]) [.int .u64 0, .int .u64 0, .int .u64 0, .int .u64 0, .int .u64 0, .int .u64 0, .int .u64 0, .int .u64 0, .int .u64 0, .int .u64 0, .slice none 0 0, .slice none 0 0] [.int .u64 0, .int .u64 0, .int .u64 0, .int .u64 0, .int .u64 0, .int .u64 0, .int .u64 0, .int .u64 0, .int .u64 0, .int .u64 0, .slice none 0 0, .slice none 0 0] ?_
      intro v88 Y C
      replace BB := belowC BB C (by omega)
      replace RD := RfA.offB RD Xg2 rfl (by omega) (chg_but C)
      replace Xg10 := Xg10.chg C (show g10 ≠ g2 by omega)
      clear C Xg2
      have Xg2 := Y
      clear Y
      refine t 3 (.int .i64 210) ?_
      refine gl_nil ?_
      refine ge_then ?_
      refine gc_ret ?_
      refine ge_tr ?_
      refine ge_ret (.tuple #[.agg #[.int .u64 0, .int .u64 0, .int .u64 0, .int .u64 0, .int .u64 0, .int .u64 0, .int .u64 0, .int .u64 0, .int .u64 0, .int .u64 0, .slice none 0 0, .slice none 0 0], .int .i64 210]) (rsct 2 3 (T := 28) (by kernel_rfl) (by kernel_rfl) (by kernel_rfl) (lr Xg2 0)) ?_
      exact zR (eD_no (by omega) (ex1 ho Ex11 cz14)) (by decide) BB
end Gn
end Go.Proofs.YtpoifdokmjhclaaGreat

namespace Go.Proofs.YtpoifdokmjhclaaGreat
namespace Ks
open Go.RowKit Go.Lib Pg Gl
attribute [local go_sem] Oper.semAt_some
set_option maxRecDepth 100000
set_option linter.unusedVariables false
set_option linter.unusedSimpArgs false
theorem fo_f {w : World} {k : Int} {n : Nat} {m0 m1 : Int} (hf : Ky.frm k = ((n : Int), m0, m1)) : Calls Tryz.prog 105 #[.int .i64 k] w fun e w' => e = .returned (.agg #[.int .i64 (n : Int), .int .u8 m0, .int .u8 m1]) ∧ Below w.heap.size w w' := by
  have u := Ky.formOf_any (w := w) (k := k)
  rw [hf] at u
  exact u
theorem usesA_b {w : World} {n x y : Int} {r : Bool} (h : decide (8 < n) = r) : Calls Tryz.prog 106 #[.agg #[.int .i64 n, .int .u8 x, .int .u8 y]] w fun e w' => e = .returned (.bool r) ∧ Below w.heap.size w w' := by
  subst h
  exact Ky.usesA_any (w := w) (n := n) (x := x) (y := y)
theorem usesB_b {w : World} {n x y : Int} {r : Bool} (h : decide (16 < n) = r) : Calls Tryz.prog 107 #[.agg #[.int .i64 n, .int .u8 x, .int .u8 y]] w fun e w' => e = .returned (.bool r) ∧ Below w.heap.size w w' := by
  subst h
  exact Ky.usesB_any (w := w) (n := n) (x := x) (y := y)
theorem turned_b {w : World} {k a : Int} (h0 : 0 ≤ a) (h1 : a < 18446744073709551616) : Calls Tryz.prog 109 #[.int .i64 k, .int .u64 a] w fun e w' => e = .returned (.int .u64 (Ky.tn k a)) ∧ Below w.heap.size w w' := by
  refine (Ky.turned_any h0 h1).mono ?_
  rintro e w' ⟨rfl, rfl⟩
  exact ⟨rfl, Below.refl _ _⟩
theorem run_eqf {ρ : Operand → Value} {w : World} {o : Oper} {n m0 m1 : Int} (hn : n ≠ 0) (ho : ∃ u v, o.op = .binOp .eql 204 u v 204 ∧ ρ u = .agg #[.int .i64 n, .int .u8 m0, .int .u8 m1] ∧ ρ v = .agg #[.int .i64 0, .int .u8 0, .int .u8 0] := by exact ⟨_, _, rfl, by kernel_rfl, by kernel_rfl⟩) : (execOp ρ o).run Tryz.prog w = .ok (.value (.bool false)) w := by
  obtain ⟨u, v, h, e1, e2⟩ := ho
  simp only [execOp, h, e1, e2]
  go_simp
  try simp [hn]
set_option maxHeartbeats 2000000 in
theorem mk_n {w : World} {k a b : Int} {n : Nat} {m0 m1 : Int} (hf : Ky.frm k = ((n : Int), m0, m1)) (hn : n ≤ 18) (h0 : 0 ≤ m0 ∧ m0 < 256) (h1 : 0 ≤ m1 ∧ m1 < 256) (ha : 0 ≤ a ∧ a < 18446744073709551616) (he : (n : Int) ≠ 0 ∧ (a ≠ 0 → 8 < (n : Int)) ∧ (b ≠ 0 → 16 < (n : Int))) : Calls Tryz.prog 72 #[.agg #[.int .i64 k, .int .u64 a, .int .u64 b]] w fun e w' => ∃ v, e = .returned (.tuple #[v, .int .i64 0]) ∧ OB w' (w.heap.size ≤ ·) v (Ky.mk k a b) ∧ Below w.heap.size w w' := by
  have BB := Below.refl w.heap.size w
  refine gc_enter (n := 46) Tryz.func72 rfl (by kernel_rfl) (by kernel_rfl) ?_
  refine gc_seq ?_
  refine gc_reg ?_
  refine ta 1 [.int .i64 k, .int .u64 a, .int .u64 b] 103 (pg) ?_
  intro v1 g2 Xg2 hg2 B
  have yg2 := Nat.le_trans BB.size hg2
  skip
  replace BB := joinB BB B
  clear B
  refine t 2 (.slice none 0 0) ?_
  refine t 3 (.int .i64 0) ?_
  refine gl_nil ?_
  refine ge_then ?_
  refine gc_seq ?_
  refine gc_reg ?_
  refine t 6 (pg g2) ?_
  refine tl 7 (.int .i64 k) Xg2 0 ?_
  refine tc 8 105 #[.int .i64 k] (fo_f hf) ?_
  rintro _ v3 ⟨rfl, B⟩
  refine ⟨_, rfl, ?_⟩
  replace BB := joinB BB B
  replace Xg2 := Xg2.keep B
  clear B
  have lXg2 := Xg2.lt
  refine ta 4 [.int .i64 0, .int .u8 0, .int .u8 0] 204 (pg) ?_
  intro v4 g5 Xg5 hg5 B
  have yg5 := Nat.le_trans BB.size hg5
  have lXg2g5 := Xg2.lt
  replace BB := joinB BB B
  replace Xg2 := Xg2.keep B
  clear B
  refine ts Xg5 0 (.agg #[.int .i64 (n : Int), .int .u8 m0, .int .u8 m1]) [.int .i64 (n : Int), .int .u8 m0, .int .u8 m1] [.int .i64 (n : Int), .int .u8 m0, .int .u8 m1] ?_
  intro v6 Y C
  replace BB := belowC BB C (by omega)
  replace Xg2 := Xg2.chg C (show g2 ≠ g5 by omega)
  clear C Xg5
  have Xg5 := Y
  clear Y
  refine gl_nil ?_
  refine ge_then ?_
  refine gc_join (fun (_ : Unit) => [(1, pg g2), (4, pg g5), (31, .bool false)]) (fun _ w' => Below w.heap.size w w' ∧ Blk w' g2 [.int .i64 k, .int .u64 a, .int .u64 b] 103 ∧ Blk w' g5 [.int .i64 (n : Int), .int .u8 m0, .int .u8 m1] 204) ?_ ?_
  · refine gc_seq ?_
    refine gc_reg ?_
    refine tlr 9 [.int .i64 (n : Int), .int .u8 m0, .int .u8 m1] Xg5 0 ?_
    refine t 10 (.agg #[.int .i64 0, .int .u8 0, .int .u8 0]) ?_
    refine tr 11 (.bool false) (run_eqf (n := (n : Int)) (m0 := m0) (m1 := m1) he.1) ?_
    refine t 12 (.bool false) ?_
    refine t 13 (pq g2 1) ?_
    refine tl 14 (.int .u64 a) Xg2 1 ?_
    by_cases c7 : (a : Int) = 0
    · refine tq 15 (.bool ((a : Int) != 0)) (.bool false) (congrArg Value.bool (bne_eq_false_iff_eq.2 c7)) ?_
      refine t 16 (.bool false) ?_
      refine tn 17 ?_
      refine tn 18 ?_
      refine tn 19 ?_
      refine t 20 (.bool false) ?_
      refine t 21 (.bool false) ?_
      refine t 22 (.bool false) ?_
      refine t 23 (pq g2 2) ?_
      refine tl 24 (.int .u64 b) Xg2 2 ?_
      by_cases c8 : (b : Int) = 0
      · refine tq 25 (.bool ((b : Int) != 0)) (.bool false) (congrArg Value.bool (bne_eq_false_iff_eq.2 c8)) ?_
        refine t 26 (.bool false) ?_
        refine tn 27 ?_
        refine tn 28 ?_
        refine tn 29 ?_
        refine t 30 (.bool false) ?_
        refine t 31 (.bool false) ?_
        refine gl_nil ?_
        refine ge_then ?_
        refine gc_fr [(1, pg g2), (2, .slice none 0 0), (3, .int .i64 0), (4, pg g5), (31, .bool false)] (by kernel_rfl) ?_
        refine gc_no ?_
        refine gc_skip ?_
        exact ge_join () ⟨BB, Xg2, Xg5⟩ (by kernel_rfl)
      · refine tq 25 (.bool ((b : Int) != 0)) (.bool true) (congrArg Value.bool (bne_iff_ne.2 c8)) ?_
        refine t 26 (.bool true) ?_
        refine tlr 27 [.int .i64 (n : Int), .int .u8 m0, .int .u8 m1] Xg5 0 ?_
        refine tc 28 107 #[.agg #[.int .i64 (n : Int), .int .u8 m0, .int .u8 m1]] (usesB_b (r := true) (by exact decide_eq_true (he.2.2 (by omega)))) ?_
        rintro _ v9 ⟨rfl, B⟩
        refine ⟨_, rfl, ?_⟩
        replace BB := joinB BB B
        replace Xg2 := Xg2.keep B
        replace Xg5 := Xg5.keep B
        clear B
        refine t 29 (.bool false) ?_
        refine t 30 (.bool false) ?_
        refine t 31 (.bool false) ?_
        refine gl_nil ?_
        refine ge_then ?_
        refine gc_fr [(1, pg g2), (2, .slice none 0 0), (3, .int .i64 0), (4, pg g5), (31, .bool false)] (by kernel_rfl) ?_
        refine gc_no ?_
        refine gc_skip ?_
        exact ge_join () ⟨BB, Xg2, Xg5⟩ (by kernel_rfl)
    · refine tq 15 (.bool ((a : Int) != 0)) (.bool true) (congrArg Value.bool (bne_iff_ne.2 c7)) ?_
      refine t 16 (.bool true) ?_
      refine tlr 17 [.int .i64 (n : Int), .int .u8 m0, .int .u8 m1] Xg5 0 ?_
      refine tc 18 106 #[.agg #[.int .i64 (n : Int), .int .u8 m0, .int .u8 m1]] (usesA_b (r := true) (by exact decide_eq_true (he.2.1 (by omega)))) ?_
      rintro _ v10 ⟨rfl, B⟩
      refine ⟨_, rfl, ?_⟩
      replace BB := joinB BB B
      replace Xg2 := Xg2.keep B
      replace Xg5 := Xg5.keep B
      clear B
      refine t 19 (.bool false) ?_
      refine t 20 (.bool false) ?_
      refine t 21 (.bool false) ?_
      refine t 22 (.bool false) ?_
      refine t 23 (pq g2 2) ?_
      refine tl 24 (.int .u64 b) Xg2 2 ?_
      by_cases c11 : (b : Int) = 0
      · refine tq 25 (.bool ((b : Int) != 0)) (.bool false) (congrArg Value.bool (bne_eq_false_iff_eq.2 c11)) ?_
        refine t 26 (.bool false) ?_
        refine tn 27 ?_
        refine tn 28 ?_
        refine tn 29 ?_
        refine t 30 (.bool false) ?_
        refine t 31 (.bool false) ?_
        refine gl_nil ?_
        refine ge_then ?_
        refine gc_fr [(1, pg g2), (2, .slice none 0 0), (3, .int .i64 0), (4, pg g5), (31, .bool false)] (by kernel_rfl) ?_
        refine gc_no ?_
        refine gc_skip ?_
        exact ge_join () ⟨BB, Xg2, Xg5⟩ (by kernel_rfl)
      · refine tq 25 (.bool ((b : Int) != 0)) (.bool true) (congrArg Value.bool (bne_iff_ne.2 c11)) ?_
        refine t 26 (.bool true) ?_
        refine tlr 27 [.int .i64 (n : Int), .int .u8 m0, .int .u8 m1] Xg5 0 ?_
        refine tc 28 107 #[.agg #[.int .i64 (n : Int), .int .u8 m0, .int .u8 m1]] (usesB_b (r := true) (by exact decide_eq_true (he.2.2 (by omega)))) ?_
        rintro _ v12 ⟨rfl, B⟩
        refine ⟨_, rfl, ?_⟩
        replace BB := joinB BB B
        replace Xg2 := Xg2.keep B
        replace Xg5 := Xg5.keep B
        clear B
        refine t 29 (.bool false) ?_
        refine t 30 (.bool false) ?_
        refine t 31 (.bool false) ?_
        refine gl_nil ?_
        refine ge_then ?_
        refine gc_fr [(1, pg g2), (2, .slice none 0 0), (3, .int .i64 0), (4, pg g5), (31, .bool false)] (by kernel_rfl) ?_
        refine gc_no ?_
        refine gc_skip ?_
        exact ge_join () ⟨BB, Xg2, Xg5⟩ (by kernel_rfl)
  clear Xg2 Xg5 BB
  rintro _ v13 ⟨BB, Xg2, Xg5⟩
  refine gc_seq ?_
  replace BB := BB.drew
  replace Xg2 := Xg2.drew
  replace Xg5 := Xg5.drew
  refine gc_draw (fun w' => Blk w' g5 [.int .i64 (n : Int), .int .u8 m0, .int .u8 m1] 204 ∧ Blk w' g2 [.int .i64 k, .int .u64 a, .int .u64 b] 103) (fun _ => false) ⟨Xg5, Xg2⟩ ?_
  refine zlr 0 32 [.int .i64 (n : Int), .int .u8 m0, .int .u8 m1] (fun _ h => h.1) 0 ?_
  refine z 1 33 (pg g2) ?_
  refine zl 2 34 (.int .i64 k) (fun _ h => h.2) 0 ?_
  refine z 3 35 (pq g2 1) ?_
  refine zl 4 36 (.int .u64 a) (fun _ h => h.2) 1 ?_
  refine zc 5 37 109 #[.int .i64 k, .int .u64 a] (turned_b ha.1 ha.2) ?_
  rintro _ v14 ⟨rfl, B⟩
  replace BB := joinB BB B
  replace Xg2 := Xg2.keep B
  replace Xg5 := Xg5.keep B
  clear B
  refine ⟨_, rfl, ⟨Xg5, Xg2⟩, ?_⟩
  obtain ⟨T, hT⟩ : ∃ T, T = (v14).heap.size := ⟨_, rfl⟩
  have hTw : w.heap.size ≤ T := by rw [hT]; exact BB.size
  refine zc 6 38 108 #[.agg #[.int .i64 (n : Int), .int .u8 m0, .int .u8 m1], .int .u64 (Ky.tn k a)] (Ky.begin_any (n := n) (a := Ky.tn k a) (by omega) h0 h1) ?_
  rintro _ v15 ⟨u, rfl, U, B⟩
  rw [← hT] at U
  have Bs := B.size
  replace BB := joinB BB B
  replace Xg2 := Xg2.keep B
  replace Xg5 := Xg5.keep B
  clear B
  have hTs : T ≤ _ := Nat.le_trans (Nat.le_of_eq hT) Bs
  refine ⟨_, rfl, ⟨Xg5, Xg2⟩, ?_⟩
  refine z 7 5 (u) ?_
  refine gz_done ?_
  refine ge_then ?_
  refine gc_seq ?_
  refine gc_seq ?_
  refine gc_reg ?_
  refine tlr 39 [.int .i64 (n : Int), .int .u8 m0, .int .u8 m1] Xg5 0 ?_
  by_cases c16 : (16 : Int) < n
  · refine tc 40 107 #[.agg #[.int .i64 (n : Int), .int .u8 m0, .int .u8 m1]] (usesB_b (r := true) (decide_eq_true c16)) ?_
    rintro _ v17 ⟨rfl, B⟩
    refine ⟨_, rfl, ?_⟩
    replace BB := joinB BB B
    replace Xg2 := Xg2.keep B
    replace Xg5 := Xg5.keep B
    replace U := U.keep B
    replace hTs := Nat.le_trans hTs B.size
    clear B
    refine gl_nil ?_
    refine ge_then ?_
    refine gc_yes ?_
    refine gc_reg ?_
    refine t 41 (u) ?_
    refine t 42 (pq g2 2) ?_
    refine tl 43 (.int .u64 b) Xg2 2 ?_
    clear Xg2
    clear Xg5
    refine tc 44 110 #[u, .int .u64 b] (Ky.appendNumber_any U hTs (Nat.le_trans (Ky.mkb_len _ _) (by decide))) ?_
    rintro _ v18 ⟨u2, rfl, U2, B2⟩
    refine ⟨_, rfl, ?_⟩
    replace BB := BB.trans (B2.mono hTw)
    clear U
    refine t 5 (u2) ?_
    refine gl_nil ?_
    refine ge_then ?_
    refine gc_fr [(5, u2)] (by kernel_rfl) ?_
    refine gc_seq ?_
    refine gc_reg ?_
    refine t 45 (u2) ?_
    refine t 2 (u2) ?_
    refine t 3 (.int .i64 0) ?_
    refine gl_nil ?_
    refine ge_then ?_
    refine gc_ret ?_
    refine ge_ret (.tuple #[u2, .int .i64 0]) (rs2 2 3 (by kernel_rfl) (by kernel_rfl) (by kernel_rfl)) ?_
    refine ⟨_, rfl, ?_, BB⟩
    rw [show Ky.mk k a b = _ by unfold Ky.mk; rw [hf, if_pos (show (16 : Int) < (n : Int) from c16)]]
    exact (U2).mono (fun b _ h => Nat.le_trans hTw h)
  · refine tc 40 107 #[.agg #[.int .i64 (n : Int), .int .u8 m0, .int .u8 m1]] (usesB_b (r := false) (decide_eq_false c16)) ?_
    rintro _ v19 ⟨rfl, B⟩
    refine ⟨_, rfl, ?_⟩
    replace BB := joinB BB B
    replace Xg2 := Xg2.keep B
    replace Xg5 := Xg5.keep B
    replace U := U.keep B
    replace hTs := Nat.le_trans hTs B.size
    clear B
    refine gl_nil ?_
    refine ge_then ?_
    refine gc_no ?_
    refine gc_skip ?_
    refine ge_then ?_
    refine gc_seq ?_
    refine gc_reg ?_
    refine t 45 (u) ?_
    refine t 2 (u) ?_
    refine t 3 (.int .i64 0) ?_
    refine gl_nil ?_
    refine ge_then ?_
    refine gc_fr [(2, u), (3, .int .i64 0)] (by kernel_rfl) ?_
    refine gc_ret ?_
    refine ge_ret (.tuple #[u, .int .i64 0]) (rs2 2 3 (by kernel_rfl) (by kernel_rfl) (by kernel_rfl)) ?_
    refine ⟨_, rfl, ?_, BB⟩
    rw [show Ky.mk k a b = _ by unfold Ky.mk; rw [hf, if_neg (show ¬ (16 : Int) < (n : Int) from c16), List.append_nil]]
    exact (U).mono (fun b _ h => Nat.le_trans hTw h)
theorem mk_g {w : World} {k a b : Int} (ha : 0 ≤ a ∧ a < 18446744073709551616) (hE : Ky.mkE k a b = false) : Calls Tryz.prog 72 #[.agg #[.int .i64 k, .int .u64 a, .int .u64 b]] w fun e w' => ∃ v, e = .returned (.tuple #[v, .int .i64 0]) ∧ OB w' (w.heap.size ≤ ·) v (Ky.mk k a b) ∧ Below w.heap.size w w' := by
  obtain ⟨n, m0, m1, hf, hn, hm0, hm1, hz⟩ := Ky.frm_shape k
  unfold Ky.mkE at hE
  rw [hf] at hE
  simp at hE
  exact mk_n hf hn hm0 hm1 ha ⟨by omega, fun h => by omega, fun h => by omega⟩
end Ks
end Go.Proofs.YtpoifdokmjhclaaGreat
