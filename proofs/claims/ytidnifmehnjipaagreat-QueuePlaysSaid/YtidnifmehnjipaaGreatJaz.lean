/- Several texts, joined: QuW, QuX, GlD, QuY. -/
import Derived.Test.YtidnifmehnjipaaGreatJax
import Derived.Test.YtidnifmehnjipaaGreatJat
import Derived.Test.YtidnifmehnjipaaGreatJay
import Derived.Test.YtidnifmehnjipaaGreatJap
import Derived.Test.YtidnifmehnjipaaGreatJal
namespace Go.Proofs.YtidnifmehnjipaaGreat
namespace Qu
open Go.RowKit Go.Lib Pg Lim Gl Kv Bk Pw
attribute [local go_sem] Oper.semAt_some
set_option maxRecDepth 100000
set_option linter.unusedVariables false
set_option linter.unusedSimpArgs false
set_option maxHeartbeats 2000000
theorem rread_q {w : World} {v : Value} {l : List Int} {r : Nat} (hr : ∀ k : Nat, k < 18 → Ky.frm k = Ky.frm r → k = r) (hr1 : r < 18) (hr0 : 0 < r) (h17 : (Ky.frm r).1 = 17) (h : By w v l) (hf : Ky.frm r = Ky.fIn l) : Calls Tryz.prog 157 #[v] w fun e w' => e = .returned (.tuple #[.agg #[.int .i64 (r : Int), .int .u64 (Ky.rdA r l), .int .u64 (Ky.rdB l)], .int .i64 0]) ∧ Below w.heap.size w w' := by
  have hl : l.length = 17 := by
    have e := congrArg Prod.fst hf
    rw [h17] at e
    unfold Ky.fIn at e
    simp only at e
    omega
  obtain ⟨ao, c, rfl, h1, h2, h3, h4, h5⟩ := id h.ex
  rcases h5 with rfl | ⟨b, o, rfl, _⟩
  · simp at hl
  rw [hl] at h ⊢
  exact Ks.rread17 h hr1 hr0 hf hr
theorem rentry {w : World} {kv vv : Value} {kl vl : List Int} {r : Nat} (hr : ∀ k : Nat, k < 18 → Ky.frm k = Ky.frm r → k = r) (hr1 : r < 18) (hr0 : 0 < r) (h17 : (Ky.frm r).1 = 17) (hk : ByU w kv kl) (hkl : kl.length ≤ 1000000000) (h0 : 0 < kl.length) (hf : Ky.frm r = Ky.fIn kl) (hv : ByU w vv vl) : Calls Tryz.prog 110 #[.agg #[kv, vv]] w fun e w' => e = .returned (.tuple #[.agg #[.int .i64 (r : Nat), .int .u64 (Ky.rdA r kl), .int .u64 (Ky.rdB kl)], .agg #[.int .u64 (Ky.rdB kl), .int .i64 (wrap64 (numB vl))]]) ∧ Below w.heap.size w w' := by
  have BB := Below.refl w.heap.size w
  obtain ⟨kd, hkd⟩ : ∃ k, wrap64 (numB vl) = k := ⟨_, rfl⟩
  refine gc_enter (n := 26) Tryz.func110 rfl (by kernel_rfl) (by kernel_rfl) ?_
  refine gc_seq ?_
  refine gc_reg ?_
  refine ta 1 [kv, vv] 96 (pg) ?_
  intro v1 g2 Xg2 hg2 B
  replace BB := joinB BB B
  replace hk := byu_keep hk B
  replace hv := byu_keep hv B
  clear B
  have lXg2 := Xg2.lt
  refine ta 2 [.int .i64 0, .int .u64 0, .int .u64 0] 90 (pg) ?_
  intro v3 g4 Xg4 hg4 B
  replace BB := joinB BB B
  replace hk := byu_keep hk B
  replace hv := byu_keep hv B
  replace Xg2 := Xg2.keep B
  clear B
  have lXg2 := Xg2.lt
  have lXg4 := Xg4.lt
  refine ta 3 [.int .u64 0, .int .i64 0] 61 (pg) ?_
  intro v5 g6 Xg6 hg6 B
  replace BB := joinB BB B
  replace hk := byu_keep hk B
  replace hv := byu_keep hv B
  replace Xg2 := Xg2.keep B
  replace Xg4 := Xg4.keep B
  clear B
  refine gl_nil ?_
  refine ge_then ?_
  refine gc_seq ?_
  refine gc_reg ?_
  refine t 9 (pg g2) ?_
  refine tl 10 (kv) Xg2 0 ?_
  refine tc 11 157 #[kv] (rread_q (r := r) hr hr1 hr0 h17 hk.byt hf) ?_
  rintro _ v7 ⟨rfl, B⟩
  refine ⟨_, rfl, ?_⟩
  replace BB := joinB BB B
  replace hk := byu_keep hk B
  replace hv := byu_keep hv B
  replace Xg2 := Xg2.keep B
  replace Xg4 := Xg4.keep B
  replace Xg6 := Xg6.keep B
  clear B
  clear hk
  refine t 8 (.tuple #[.agg #[.int .i64 (r : Nat), .int .u64 (Ky.rdA r kl), .int .u64 (Ky.rdB kl)], .int .i64 0]) ?_
  refine t 12 (.agg #[.int .i64 (r : Nat), .int .u64 (Ky.rdA r kl), .int .u64 (Ky.rdB kl)]) ?_
  refine t 13 (.int .i64 0) ?_
  have lXg2 := Xg2.lt
  have lXg4 := Xg4.lt
  have lXg6 := Xg6.lt
  refine ta 4 [.int .i64 0, .int .u64 0, .int .u64 0] 90 (pg) ?_
  intro v8 g9 Xg9 hg9 B
  replace BB := joinB BB B
  replace hv := byu_keep hv B
  replace Xg2 := Xg2.keep B
  replace Xg4 := Xg4.keep B
  replace Xg6 := Xg6.keep B
  clear B
  refine ts Xg9 0 (.agg #[.int .i64 (r : Nat), .int .u64 (Ky.rdA r kl), .int .u64 (Ky.rdB kl)]) [.int .i64 (r : Nat), .int .u64 (Ky.rdA r kl), .int .u64 (Ky.rdB kl)] [.int .i64 (r : Nat), .int .u64 (Ky.rdA r kl), .int .u64 (Ky.rdB kl)] ?_
  intro v10 Y C
  replace BB := belowC BB C (by omega)
  replace hv := byu_cell hv Xg9 C (by decide)
  replace Xg2 := Xg2.chg C (show g2 ≠ g9 by omega)
  replace Xg4 := Xg4.chg C (show g4 ≠ g9 by omega)
  replace Xg6 := Xg6.chg C (show g6 ≠ g9 by omega)
  clear C Xg9
  have Xg9 := Y
  clear Y
  refine t 5 (.int .i64 0) ?_
  refine gl_nil ?_
  refine ge_then ?_
  refine gc_fr [(1, pg g2), (2, pg g4), (3, pg g6), (4, pg g9)] (by kernel_rfl) ?_
  refine gc_seq ?_
  refine gc_reg ?_
  refine t 15 (pq g2 1) ?_
  refine tl 16 (vv) Xg2 1 ?_
  refine tc 17 108 #[vv] (rnumber_rd hv) ?_
  rintro _ v11 ⟨rfl, B⟩
  refine ⟨_, rfl, ?_⟩
  replace BB := joinB BB B
  replace hv := byu_keep hv B
  replace Xg2 := Xg2.keep B
  replace Xg4 := Xg4.keep B
  replace Xg6 := Xg6.keep B
  replace Xg9 := Xg9.keep B
  clear B
  clear hv
  refine t 14 (.tuple #[.int .u64 (numB vl), .int .i64 (Rc.outR (Rc.stNumber vl))]) ?_
  refine t 18 (.int .u64 (numB vl)) ?_
  refine t 19 (.int .i64 (Rc.outR (Rc.stNumber vl))) ?_
  refine t 6 (.int .u64 (numB vl)) ?_
  refine t 7 (.int .i64 (Rc.outR (Rc.stNumber vl))) ?_
  refine gl_nil ?_
  refine ge_then ?_
  refine gc_seq ?_
  replace BB := BB.drew
  replace Xg2 := Xg2.drew
  replace Xg4 := Xg4.drew
  replace Xg6 := Xg6.drew
  replace Xg9 := Xg9.drew
  refine gc_draw (fun w' => Blk w' g9 [.int .i64 (r : Nat), .int .u64 (Ky.rdA r kl), .int .u64 (Ky.rdB kl)] 90) (fun _ => false) Xg9 ?_
  refine zlr 0 20 [.int .i64 (r : Nat), .int .u64 (Ky.rdA r kl), .int .u64 (Ky.rdB kl)] (fun _ h => h) 0 ?_
  refine z 1 21 (pq g9 2) ?_
  refine zl 2 22 (.int .u64 (Ky.rdB kl)) (fun _ h => h) 2 ?_
  refine z 3 23 (.int .u64 (numB vl)) ?_
  refine zr 4 24 (.int .i64 kd) (fun _ _ => run_cvK hkd) ?_
  refine zr 5 25 (.agg #[.int .u64 (Ky.rdB kl), .int .i64 kd]) (fun _ _ => run_bE) ?_
  refine zs 6 Xg4 0 (.agg #[.int .i64 (r : Nat), .int .u64 (Ky.rdA r kl), .int .u64 (Ky.rdB kl)]) [.int .i64 (r : Nat), .int .u64 (Ky.rdA r kl), .int .u64 (Ky.rdB kl)] [.int .i64 (r : Nat), .int .u64 (Ky.rdA r kl), .int .u64 (Ky.rdB kl)] ?_
  intro v12 Y C
  replace BB := belowC BB C (by omega)
  replace Xg2 := Xg2.chg C (show g2 ≠ g4 by omega)
  replace Xg6 := Xg6.chg C (show g6 ≠ g4 by omega)
  replace Xg9 := Xg9.chg C (show g9 ≠ g4 by omega)
  clear C Xg4
  have Xg4 := Y
  clear Y
  refine ⟨Xg9, ?_⟩
  refine zs 7 Xg6 0 (.agg #[.int .u64 (Ky.rdB kl), .int .i64 kd]) [.int .u64 (Ky.rdB kl), .int .i64 kd] [.int .u64 (Ky.rdB kl), .int .i64 kd] ?_
  intro v13 Y C
  replace BB := belowC BB C (by omega)
  replace Xg2 := Xg2.chg C (show g2 ≠ g6 by omega)
  replace Xg4 := Xg4.chg C (show g4 ≠ g6 by omega)
  replace Xg9 := Xg9.chg C (show g9 ≠ g6 by omega)
  clear C Xg6
  have Xg6 := Y
  clear Y
  refine ⟨Xg9, ?_⟩
  refine gz_done ?_
  refine ge_then ?_
  refine gc_fr [(2, pg g4), (3, pg g6)] (by kernel_rfl) ?_
  refine gc_ret ?_
  refine ge_ret (.tuple #[.agg #[.int .i64 (r : Nat), .int .u64 (Ky.rdA r kl), .int .u64 (Ky.rdB kl)], .agg #[.int .u64 (Ky.rdB kl), .int .i64 kd]]) (rscc 2 3 (T := 90) (U := 61) (by kernel_rfl) (by kernel_rfl) (by kernel_rfl) (lr Xg4 0) (lr Xg6 0)) ?_
  rw [hkd]
  exact ⟨rfl, BB⟩
theorem frm_u14 : ∀ k : Nat, k < 18 → Ky.frm k = Ky.frm (14 : Nat) → k = 14 := by decide +kernel
theorem frm_u15 : ∀ k : Nat, k < 18 → Ky.frm k = Ky.frm (15 : Nat) → k = 15 := by decide +kernel
theorem ByU.take {w : World} {a : Option Addr} {n c : Nat} {l : List Int} (h : ByU w (.slice a n c) l) (m : Nat) (hm : m ≤ n) : ByU w (.slice a m c) (l.take m) := ⟨Ky.By.take h.byt m hm, fun b o k d e => by cases e; exact h.u8 b o n c rfl⟩
theorem runder_u {w : World} {k a : Int} (h0 : 0 ≤ a) (h1 : a < 18446744073709551616) (hk : 16 < (Ky.frm k).1) : Calls Tryz.prog 111 #[.int .i64 k, .int .u64 a] w fun e w' => ∃ v, e = .returned (.tuple #[v, .int .i64 0]) ∧ ByU w' v (Ky.mkb (Ky.frm k) (Ky.tn k a)) ∧ Below w.heap.size w w' := by
  have u1 := fun w => Ky.rform_any (w := w) (k := k)
  have u2 := fun w => Ky.rmake_any (w := w) (k := k) (a := a) (b := 0) h0 h1
  obtain ⟨n, N, m0, m1, hf, hN, hN2, h8, h16, hm, hm0, hm1, hz, h10⟩ := Ky.frm_doc k
  · have hE : Ky.mkE k a 0 = false := by unfold Ky.mkE; simp; omega
    have hL := Ky.under_len (a := a) hk
    have hlen : 8 ≤ (Ky.mk k a 0).length := by
      unfold Ky.mk; rw [if_pos hk]; simp [Ky.be_length]
    rw [hE] at u2
    rw [← hL]
    rw [hf] at hk u1
    simp only [hN] at u1
    have hN3 : ¬ ((N : Int) < 2) := by have := h16; simp only at hk; omega
    clear hf hN h8 h16 hm hm0 hm1 hz h10 hE hL hN2
    generalize hmk : Ky.mk k a 0 = L at *
    simp only [Bool.false_eq_true, if_false] at u2
    obtain ⟨ln, hln⟩ : ∃ ln, Hid (L.length = ln) := ⟨_, rfl⟩
    rw [hln.out] at hlen ⊢
    have HL := hid3 hlen
    have g1 : (8 : Int) ≤ ln := by omega
    clear hmk hk hlen
    go_enter Tryz.func111, Tryz.ntmps111
    go_wp2_with first
      | (go_at_call 88; refine (u1 _).mono ?_; rintro e w1 ⟨rfl, rfl⟩)
      | (go_at_call 37; go_loud (refine (u2 _).mono ?_; rintro e w2 ⟨v2, rfl, O2, B2⟩; obtain ⟨a2, c2, rfl⟩ := Ky.OB.sh O2; rw [hln.out] at O2 ⊢; have BY := ByU.of O2; have hcap := (Ky.By.lens BY.byt).2; have g2 : (ln : Int) - 8 ≤ c2 := (by omega); have g3 : IntKind.i64.wrap ((ln : Int) - 8) = ((ln - 8 : Nat) : Int) := (by rw [IntKind.wrap_i64]; omega); replace BY := hid3 BY; clear O2 hcap))
    go_ret2
    exact ⟨_, rfl, ByU.take BY.out (ln - 8) (by omega), B2⟩
def LD (es : List En) (h : Int) (i : Nat) : List (Int × Int) := ((es.take i).filter (fun e => decide (Ky.rdA 14 e.kl ≤ h))).map entp
def LF (es : List En) (i : Nat) : List (Int × Int) := (es.take i).map entp
theorem LD_len (es : List En) (h : Int) (i : Nat) : (LD es h i).length ≤ i := by
  unfold LD
  rw [List.length_map]
  exact Nat.le_trans (List.length_filter_le _ _) (by rw [List.length_take]; omega)
theorem LF_len (es : List En) (i : Nat) : (LF es i).length ≤ i := by
  unfold LF
  rw [List.length_map, List.length_take]
  omega
theorem LD_yes {es : List En} {h : Int} {i : Nat} {e : En} (he : es[i]? = some e) (hc : Ky.rdA 14 e.kl ≤ h) : LD es h (i + 1) = LD es h i ++ [entp e] := by
  unfold LD
  rw [List.take_add_one, he, List.filter_append, List.map_append]
  simp [hc]
theorem LD_no {es : List En} {h : Int} {i : Nat} {e : En} (he : es[i]? = some e) (hc : ¬ Ky.rdA 14 e.kl ≤ h) : LD es h (i + 1) = LD es h i := by
  unfold LD
  rw [List.take_add_one, he, List.filter_append, List.map_append]
  simp [hc]
theorem LF_yes {es : List En} {i : Nat} {e : En} (he : es[i]? = some e) : LF es (i + 1) = LF es i ++ [entp e] := by
  unfold LF
  rw [List.take_add_one, he, List.map_append]
  rfl
structure REntE (B : Nat) (w : World) (X : Nat → Prop) (q : Nat) (E : Ents) (n : Nat) (l : List (Int × Int)) (e : Ending) (w' : World) : Prop where
  ex : ∃ v, e = .returned v ∧ EA w' w.heap.size v l ∧ ∃ X' n', Rx B w' X' q E n' ∧ n' ≤ n + 1 + E.length ∧ (∀ b, X' b → X b ∨ w.heap.size ≤ b) ∧ Chg (· = q) w w'
theorem rdue {B : Nat} {w : World} {X : Nat → Prop} {q : Nat} {E : Ents} {n : Nat} {h : Int} (h0 : Rx B w X q E n) (hh : Uq h) (hKy : Kys E) (hn : n ≤ 3000000000000000000) (hm : E.length ≤ 100000) : Calls Tryz.prog 58 #[pg q, .int .u64 h] w (REntE B w X q E n (upto E (p14 h))) := by
  have hRk := hKy.k113
  have BB := Below.refl w.heap.size w
  refine gc_enter (n := 36) Tryz.func58 rfl (by kernel_rfl) (by kernel_rfl) ?_
  refine gc_seq ?_
  refine gc_reg ?_
  refine t 4 (.slice none 0 0) ?_
  refine gl_nil ?_
  refine ge_then ?_
  refine gc_seq ?_
  refine gc_reg ?_
  refine t 5 (.slice none 0 0) ?_
  refine gl_nil ?_
  refine ge_then ?_
  refine gc_seq ?_
  refine gc_reg ?_
  refine t 10 (pg q) ?_
  refine ta 11 [.int .u8 113] 5 (sg 1) ?_
  intro v1 g2 Xg2 hg2 B
  replace BB := joinB BB B
  clear B
  refine tc 12 109 #[pg q, sg 1 g2] (all9 (h0.keep BB) (byu1 (by decide) Xg2) (by decide) hn (by omega)) ?_
  rintro _ v3 ⟨vl, es, rfl, P, he, Y, n1, S, hn1, hY, C⟩
  refine ⟨_, rfl, ?_⟩
  obtain ⟨av, cv, rfl⟩ := P.shape
  have hml : es.length ≤ E.length := by
    have := congrArg List.length he
    rw [List.length_map] at this
    rw [this]
    exact List.length_filter_le _ _
  have hfr : ∀ x ∈ es, Ky.frm (14 : Nat) = Ky.fIn x.kl ∧ x.kl.length ≤ 1000000000 ∧ 0 < x.kl.length := fun x hx => by
    have hm2 : x.kl2 ∈ E.filter (fun y => decide ([113] <+: y.1)) := by rw [← show es.map En.kl2 = E.filter (fun y => decide ([113] <+: y.1)) from he]; exact List.mem_map.2 ⟨x, hx, rfl⟩
    have h1 := of_decide_eq_true (List.mem_filter.1 hm2).2
    exact ⟨hRk _ (List.mem_filter.1 hm2).1 h1, (S.rs.small _ (List.mem_filter.1 hm2).1).1, show 1 ≤ x.kl.length from Nat.le_trans (by decide) h1.length_le⟩
  obtain ⟨M_, hm0⟩ : ∃ m, es.length = m := ⟨_, rfl⟩
  obtain ⟨pb, hao⟩ : ∃ pb, 0 < M_ → av = some ⟨pb, 0, none⟩ := by
    rcases P.ex with ⟨_, e1⟩ | ⟨b, c, e1, _⟩
    · exact ⟨0, fun h => by rw [e1] at hm0; simp at hm0; omega⟩
    · exact ⟨b, fun _ => by cases e1; rfl⟩
  rw [hm0]
  refine t 6 (.slice av M_ cv) ?_
  refine gl_nil ?_
  refine ge_then ?_
  refine gc_seq ?_
  refine gc_seq ?_
  refine gc_reg ?_
  refine t 7 (.int .i64 0) ?_
  refine gl_nil ?_
  refine ge_then ?_
  refine gc_block ?_
  obtain ⟨VA, hVA⟩ : ∃ V, v3 = V := ⟨_, rfl⟩
  rw [hVA] at P S C ⊢
  refine gc_loop (fun s => M_ - s.1) (fun (s : Nat × Option Addr × Nat × Nat) => [(1, .int .u64 h), (5, .slice s.2.1 s.2.2.1 s.2.2.2), (6, .slice av M_ cv), (7, .int .i64 (s.1 : Int))]) (fun s w' => s.1 ≤ M_ ∧ Below VA.heap.size VA w' ∧ EA w' VA.heap.size (.slice s.2.1 s.2.2.1 s.2.2.2) (LD es h s.1)) ((0, none, 0, 0) : Nat × Option Addr × Nat × Nat) ⟨Nat.zero_le _, Below.refl _ _, EA.nil _ _⟩ (by kernel_rfl) ?_
  rintro ⟨i, a, k, d⟩ v4 ⟨hi, BV, U⟩
  dsimp only at hi U
  have zV := BV.size
  have B0 := Below.refl v4.heap.size v4
  refine gc_seq ?_
  refine gc_seq ?_
  refine gc_reg ?_
  refine t 13 (.int .i64 (i : Int)) ?_
  refine t 14 (.slice av M_ cv) ?_
  refine t 15 (.int .i64 ((M_ : Nat) : Int)) ?_
  by_cases ci : (i : Int) < ((M_ : Nat) : Int)
  · have hk_i : i < M_ := by omega
    obtain ⟨ei, hei⟩ : ∃ x, es[i]? = some x := ⟨es[i], List.getElem?_eq_getElem (by omega)⟩
    have hce : VA.cell? ⟨pb, 0 + i * 2, none⟩ = some ei.kv ∧ VA.cell? ⟨pb, 0 + i * 2 + 1, none⟩ = some ei.vv := by
      have ha := hao (by omega)
      subst ha
      rw [Nat.zero_add]
      exact ⟨(P.cells hei).1, (P.cells hei).2.1⟩
    refine tq 16 (.bool (decide ((i : Int) < ((M_ : Nat) : Int)))) (.bool true) (congrArg Value.bool (decide_eq_true ci)) ?_
    refine gl_nil ?_
    refine ge_then ?_
    refine gc_yes ?_
    refine gc_skip ?_
    refine ge_then ?_
    refine gc_seq ?_
    refine gc_block ?_
    refine gc_seq ?_
    refine gc_reg ?_
    refine t 20 (.slice av M_ cv) ?_
    refine t 21 (.int .i64 (i : Int)) ?_
    refine tr 22 (pq pb (0 + i * 2)) (run_ixa 2 pb 0 M_ cv i hk_i hao) ?_
    refine tr 23 (.agg #[ei.kv, ei.vv]) (run_ldP (cellB BV hce.1) (cellB BV hce.2)) ?_
    refine tc 24 110 #[.agg #[ei.kv, ei.vv]] (rentry (r := 14) frm_u14 (by decide) (by decide) rfl (ByU.of (OB.keep (P.ents _ (List.mem_of_getElem? hei)).k BV)) (hfr _ (List.mem_of_getElem? hei)).2.1 (hfr _ (List.mem_of_getElem? hei)).2.2 (hfr _ (List.mem_of_getElem? hei)).1 (ByU.of (OB.keep (P.ents _ (List.mem_of_getElem? hei)).v BV))) ?_
    rintro _ v5 ⟨rfl, B⟩
    refine ⟨_, rfl, ?_⟩
    replace BV := joinB BV B
    replace B0 := joinB B0 B
    clear B
    refine t 19 (.tuple #[.agg #[.int .i64 (14 : Nat), .int .u64 (Ky.rdA 14 ei.kl), .int .u64 (Ky.rdB ei.kl)], .agg #[.int .u64 (Ky.rdB ei.kl), .int .i64 (wrap64 (numB ei.vl))]]) ?_
    refine t 25 (.agg #[.int .i64 (14 : Nat), .int .u64 (Ky.rdA 14 ei.kl), .int .u64 (Ky.rdB ei.kl)]) ?_
    refine t 26 (.agg #[.int .u64 (Ky.rdB ei.kl), .int .i64 (wrap64 (numB ei.vl))]) ?_
    refine ta 8 [.int .i64 0, .int .u64 0, .int .u64 0] 90 (pg) ?_
    intro v6 g7 Xg7 hg7 B
    have zBVg7 := Nat.le_trans BV.size hg7
    have zB0g7 := Nat.le_trans B0.size hg7
    replace BV := joinB BV B
    replace B0 := joinB B0 B
    clear B
    have lXg7 := Xg7.lt
    refine ta 9 [.int .u64 0, .int .i64 0] 61 (pg) ?_
    intro v8 g9 Xg9 hg9 B
    have zBVg9 := Nat.le_trans BV.size hg9
    have zB0g9 := Nat.le_trans B0.size hg9
    replace BV := joinB BV B
    replace B0 := joinB B0 B
    replace Xg7 := Xg7.keep B
    clear B
    refine ts Xg7 0 (.agg #[.int .i64 (14 : Nat), .int .u64 (Ky.rdA 14 ei.kl), .int .u64 (Ky.rdB ei.kl)]) [.int .i64 (14 : Nat), .int .u64 (Ky.rdA 14 ei.kl), .int .u64 (Ky.rdB ei.kl)] [.int .i64 (14 : Nat), .int .u64 (Ky.rdA 14 ei.kl), .int .u64 (Ky.rdB ei.kl)] ?_
    intro v10 Y C
    replace BV := belowC BV C (by omega)
    replace B0 := belowC B0 C (by omega)
    replace Xg9 := Xg9.chg C (show g9 ≠ g7 by omega)
    clear C Xg7
    have Xg7 := Y
    clear Y
    refine ts Xg9 0 (.agg #[.int .u64 (Ky.rdB ei.kl), .int .i64 (wrap64 (numB ei.vl))]) [.int .u64 (Ky.rdB ei.kl), .int .i64 (wrap64 (numB ei.vl))] [.int .u64 (Ky.rdB ei.kl), .int .i64 (wrap64 (numB ei.vl))] ?_
    intro v11 Y C
    replace BV := belowC BV C (by omega)
    replace B0 := belowC B0 C (by omega)
    replace Xg7 := Xg7.chg C (show g7 ≠ g9 by omega)
    clear C Xg9
    have Xg9 := Y
    clear Y
    refine gl_nil ?_
    refine ge_then ?_
    refine gc_fr [(1, .int .u64 h), (5, .slice a k d), (6, .slice av M_ cv), (7, .int .i64 (i : Int)), (8, pg g7), (9, pg g9), (13, .int .i64 (i : Int)), (14, .slice av M_ cv), (15, .int .i64 ((M_ : Nat) : Int)), (16, .bool true), (19, .tuple #[.agg #[.int .i64 (14 : Nat), .int .u64 (Ky.rdA 14 ei.kl), .int .u64 (Ky.rdB ei.kl)], .agg #[.int .u64 (Ky.rdB ei.kl), .int .i64 (wrap64 (numB ei.vl))]]), (20, .slice av M_ cv), (21, .int .i64 (i : Int)), (22, pq pb (0 + i * 2)), (23, .agg #[ei.kv, ei.vv]), (24, .tuple #[.agg #[.int .i64 (14 : Nat), .int .u64 (Ky.rdA 14 ei.kl), .int .u64 (Ky.rdB ei.kl)], .agg #[.int .u64 (Ky.rdB ei.kl), .int .i64 (wrap64 (numB ei.vl))]]), (25, .agg #[.int .i64 (14 : Nat), .int .u64 (Ky.rdA 14 ei.kl), .int .u64 (Ky.rdB ei.kl)]), (26, .agg #[.int .u64 (Ky.rdB ei.kl), .int .i64 (wrap64 (numB ei.vl))])] (by kernel_rfl) ?_
    refine gc_seq ?_
    refine gc_reg ?_
    refine t 27 (pq g7 1) ?_
    refine tl 28 (.int .u64 (Ky.rdA 14 ei.kl)) Xg7 1 ?_
    refine t 29 (.int .u64 h) ?_
    by_cases c12 : (Ky.rdA 14 ei.kl : Int) ≤ h
    · refine tq 30 (.bool (decide ((Ky.rdA 14 ei.kl : Int) ≤ h))) (.bool true) (congrArg Value.bool (decide_eq_true c12)) ?_
      refine gl_nil ?_
      refine ge_then ?_
      refine gc_yes ?_
      refine gc_reg ?_
      refine t 31 (.slice a k d) ?_
      refine tlr 32 [.int .u64 (Ky.rdB ei.kl), .int .i64 (wrap64 (numB ei.vl))] Xg9 0 ?_
      have lXg7 := Xg7.lt
      have lXg9 := Xg9.lt
      refine ta 33 [.int .u64 (Ky.rdB ei.kl), .int .i64 (wrap64 (numB ei.vl))] 61 (sg 1) ?_
      intro v13 g14 Xg14 hg14 B
      have zBVg14 := Nat.le_trans BV.size hg14
      have zB0g14 := Nat.le_trans B0.size hg14
      replace BV := joinB BV B
      replace B0 := joinB B0 B
      replace Xg7 := Xg7.keep B
      replace Xg9 := Xg9.keep B
      clear B
      have zC := B0.size
      have hll := LD_len es h i
      obtain ⟨v5, w5, hr5, U5, C5⟩ := app_e (p := entp ei) (a := ⟨g14, 0, none⟩) 74 (U.keep B0) (by omega) (by omega) (Xg14.cell (i := 0) rfl) (Xg14.cell (i := 1) rfl)
      obtain ⟨a5, c5, rfl⟩ := U5.shape
      obtain ⟨k5, hk5⟩ : ∃ k, ((LD es h i) ++ [entp ei]).length = k := ⟨_, rfl⟩
      rw [hk5] at U5 hr5
      refine tw 34 (.slice a5 k5 c5) _ (run_apE hr5) ?_
      have BV5 : Below VA.heap.size VA w5 := BV.trans (C5.below (fun b h => by omega) BV.size)
      clear BV B0 Xg7 Xg9 Xg14
      refine t 5 (.slice a5 k5 c5) ?_
      refine gl_nil ?_
      refine ge_bn ?_
      refine ge_then ?_
      refine gc_reg ?_
      refine t 17 (.int .i64 (i : Int)) ?_
      refine tq 18 (.int .i64 (IntKind.i64.wrap ((i : Int) + 1))) (.int .i64 ((i : Int) + 1)) (wi (by omega)) ?_
      refine t 7 (.int .i64 ((i : Int) + 1)) ?_
      refine gl_nil ?_
      rw [← LD_yes hei c12] at U5
      exact ge_round ((i + 1, a5, k5, c5) : Nat × Option Addr × Nat × Nat) (by show M_ - (i + 1) < M_ - i; omega) ⟨hk_i, BV5, U5⟩ (by kernel_rfl)
    · refine tq 30 (.bool (decide ((Ky.rdA 14 ei.kl : Int) ≤ h))) (.bool false) (congrArg Value.bool (decide_eq_false c12)) ?_
      refine gl_nil ?_
      refine ge_then ?_
      refine gc_no ?_
      refine gc_skip ?_
      refine ge_bn ?_
      refine ge_then ?_
      refine gc_reg ?_
      refine t 17 (.int .i64 (i : Int)) ?_
      refine tq 18 (.int .i64 (IntKind.i64.wrap ((i : Int) + 1))) (.int .i64 ((i : Int) + 1)) (wi (by omega)) ?_
      refine t 7 (.int .i64 ((i : Int) + 1)) ?_
      refine gl_nil ?_
      exact ge_round ((i + 1, a, k, d) : Nat × Option Addr × Nat × Nat) (by show M_ - (i + 1) < M_ - i; omega) ⟨hk_i, BV, by show EA _ _ _ (LD es h (i + 1)); rw [LD_no hei c12]; exact U.keep B0⟩ (by kernel_rfl)
  · refine tq 16 (.bool (decide ((i : Int) < ((M_ : Nat) : Int)))) (.bool false) (congrArg Value.bool (decide_eq_false ci)) ?_
    refine gl_nil ?_
    refine ge_then ?_
    refine gc_no ?_
    refine gc_exit ?_
    refine ge_tx ?_
    refine ge_tx ?_
    refine ge_bx ?_
    refine ge_then ?_
    refine gc_seq ?_
    refine gc_reg ?_
    refine t 35 (.slice a k d) ?_
    refine t 4 (.slice a k d) ?_
    refine gl_nil ?_
    refine ge_then ?_
    refine gc_ret ?_
    refine ge_ret (.slice a k d) (rs1 4 (by kernel_rfl) (by kernel_rfl)) ?_
    have hN : LD es h i = upto E (p14 h) := by
      unfold LD upto
      rw [List.take_of_length_le (by omega), ← Kys.upto hKy hh, ← show es.map En.kl2 = E.filter (fun y => decide ([113] <+: y.1)) from he, List.filter_map, List.map_map]
      rfl
    rw [hN] at U
    exact ⟨_, rfl, EA.low (EA.keep U B0) (by have := C.size; have := BB.size; omega), Y, n1, S.keep BV, hn1, fun b hb => (hY b hb).imp id (fun h => Nat.le_trans BB.size h), ((Chg.of (F := fun x => x = q) BB).trans C (fun _ _ h => h)).trans (Chg.of (F := fun x => x = q) BV) (fun _ _ h => h)⟩
theorem rfrom {B : Nat} {w : World} {X : Nat → Prop} {q : Nat} {E : Ents} {n : Nat} {h : Int} (h0 : Rx B w X q E n) (hh : Uq h) (hKy : Kys E) (hn : n ≤ 3000000000000000000) (hm : E.length ≤ 100000) : Calls Tryz.prog 59 #[pg q, .int .u64 h] w (REntE B w X q E n (under E (p15 h))) := by
  have hRk := hKy.k15 hh
  have BB := Below.refl w.heap.size w
  refine gc_enter (n := 39) Tryz.func59 rfl (by kernel_rfl) (by kernel_rfl) ?_
  refine gc_seq ?_
  refine gc_reg ?_
  refine t 4 (.slice none 0 0) ?_
  refine gl_nil ?_
  refine ge_then ?_
  refine gc_seq ?_
  refine gc_reg ?_
  refine t 5 (.slice none 0 0) ?_
  refine gl_nil ?_
  refine ge_then ?_
  refine gc_seq ?_
  refine gc_reg ?_
  refine t 13 (.int .u64 h) ?_
  refine tc 14 111 #[.int .i64 15, .int .u64 h] (runder_u (k := 15) hh.1 hh.2 (by decide)) ?_
  rintro _ v1 ⟨u, rfl, U1, B⟩
  refine ⟨_, rfl, ?_⟩
  replace BB := joinB BB B
  clear B
  refine t 12 (.tuple #[u, .int .i64 0]) ?_
  refine t 15 (u) ?_
  refine t 16 (.int .i64 0) ?_
  refine t 6 (u) ?_
  refine t 7 (.int .i64 0) ?_
  refine gl_nil ?_
  refine ge_then ?_
  refine gc_seq ?_
  refine gc_reg ?_
  refine t 17 (pg q) ?_
  refine t 18 (u) ?_
  refine tc 19 109 #[pg q, u] (all9 (h0.keep BB) U1 (Nat.le_trans (Ky.mkb_len _ _) (by decide)) hn (by omega)) ?_
  rintro _ v2 ⟨vl, es, rfl, P, he, Y, n1, S, hn1, hY, C⟩
  refine ⟨_, rfl, ?_⟩
  obtain ⟨av, cv, rfl⟩ := P.shape
  have hml : es.length ≤ E.length := by
    have := congrArg List.length he
    rw [List.length_map] at this
    rw [this]
    exact List.length_filter_le _ _
  have hfr : ∀ x ∈ es, Ky.frm (15 : Nat) = Ky.fIn x.kl ∧ x.kl.length ≤ 1000000000 ∧ 0 < x.kl.length := fun x hx => by
    have hm2 : x.kl2 ∈ E.filter (fun y => decide (p15 h <+: y.1)) := by rw [← show es.map En.kl2 = E.filter (fun y => decide (p15 h <+: y.1)) from he]; exact List.mem_map.2 ⟨x, hx, rfl⟩
    have h1 := of_decide_eq_true (List.mem_filter.1 hm2).2
    exact ⟨hRk _ (List.mem_filter.1 hm2).1 h1, (S.rs.small _ (List.mem_filter.1 hm2).1).1, show 1 ≤ x.kl.length from Nat.le_trans (by rw [p15_eq]; simp) h1.length_le⟩
  obtain ⟨M_, hm0⟩ : ∃ m, es.length = m := ⟨_, rfl⟩
  obtain ⟨pb, hao⟩ : ∃ pb, 0 < M_ → av = some ⟨pb, 0, none⟩ := by
    rcases P.ex with ⟨_, e1⟩ | ⟨b, c, e1, _⟩
    · exact ⟨0, fun h => by rw [e1] at hm0; simp at hm0; omega⟩
    · exact ⟨b, fun _ => by cases e1; rfl⟩
  rw [hm0]
  refine t 8 (.slice av M_ cv) ?_
  refine gl_nil ?_
  refine ge_then ?_
  refine gc_fr [(4, .slice none 0 0), (5, .slice none 0 0), (8, .slice av M_ cv)] (by kernel_rfl) ?_
  refine gc_seq ?_
  refine gc_seq ?_
  refine gc_reg ?_
  refine t 9 (.int .i64 0) ?_
  refine gl_nil ?_
  refine ge_then ?_
  refine gc_block ?_
  obtain ⟨VA, hVA⟩ : ∃ V, v2 = V := ⟨_, rfl⟩
  rw [hVA] at P S C ⊢
  refine gc_loop (fun s => M_ - s.1) (fun (s : Nat × Option Addr × Nat × Nat) => [(5, .slice s.2.1 s.2.2.1 s.2.2.2), (8, .slice av M_ cv), (9, .int .i64 (s.1 : Int))]) (fun s w' => s.1 ≤ M_ ∧ Below VA.heap.size VA w' ∧ EA w' VA.heap.size (.slice s.2.1 s.2.2.1 s.2.2.2) (LF es s.1)) ((0, none, 0, 0) : Nat × Option Addr × Nat × Nat) ⟨Nat.zero_le _, Below.refl _ _, EA.nil _ _⟩ (by kernel_rfl) ?_
  rintro ⟨i, a, k, d⟩ v3 ⟨hi, BV, U⟩
  dsimp only at hi U
  have zV := BV.size
  have B0 := Below.refl v3.heap.size v3
  refine gc_seq ?_
  refine gc_seq ?_
  refine gc_reg ?_
  refine t 20 (.int .i64 (i : Int)) ?_
  refine t 21 (.slice av M_ cv) ?_
  refine t 22 (.int .i64 ((M_ : Nat) : Int)) ?_
  by_cases ci : (i : Int) < ((M_ : Nat) : Int)
  · have hk_i : i < M_ := by omega
    obtain ⟨ei, hei⟩ : ∃ x, es[i]? = some x := ⟨es[i], List.getElem?_eq_getElem (by omega)⟩
    have hce : VA.cell? ⟨pb, 0 + i * 2, none⟩ = some ei.kv ∧ VA.cell? ⟨pb, 0 + i * 2 + 1, none⟩ = some ei.vv := by
      have ha := hao (by omega)
      subst ha
      rw [Nat.zero_add]
      exact ⟨(P.cells hei).1, (P.cells hei).2.1⟩
    refine tq 23 (.bool (decide ((i : Int) < ((M_ : Nat) : Int)))) (.bool true) (congrArg Value.bool (decide_eq_true ci)) ?_
    refine gl_nil ?_
    refine ge_then ?_
    refine gc_yes ?_
    refine gc_skip ?_
    refine ge_then ?_
    refine gc_seq ?_
    refine gc_block ?_
    refine gc_seq ?_
    refine gc_reg ?_
    refine t 27 (.slice av M_ cv) ?_
    refine t 28 (.int .i64 (i : Int)) ?_
    refine tr 29 (pq pb (0 + i * 2)) (run_ixa 2 pb 0 M_ cv i hk_i hao) ?_
    refine tr 30 (.agg #[ei.kv, ei.vv]) (run_ldP (cellB BV hce.1) (cellB BV hce.2)) ?_
    refine tc 31 110 #[.agg #[ei.kv, ei.vv]] (rentry (r := 15) frm_u15 (by decide) (by decide) rfl (ByU.of (OB.keep (P.ents _ (List.mem_of_getElem? hei)).k BV)) (hfr _ (List.mem_of_getElem? hei)).2.1 (hfr _ (List.mem_of_getElem? hei)).2.2 (hfr _ (List.mem_of_getElem? hei)).1 (ByU.of (OB.keep (P.ents _ (List.mem_of_getElem? hei)).v BV))) ?_
    rintro _ v4 ⟨rfl, B⟩
    refine ⟨_, rfl, ?_⟩
    replace BV := joinB BV B
    replace B0 := joinB B0 B
    clear B
    refine t 26 (.tuple #[.agg #[.int .i64 (15 : Nat), .int .u64 (Ky.rdA 15 ei.kl), .int .u64 (Ky.rdB ei.kl)], .agg #[.int .u64 (Ky.rdB ei.kl), .int .i64 (wrap64 (numB ei.vl))]]) ?_
    refine t 32 (.agg #[.int .i64 (15 : Nat), .int .u64 (Ky.rdA 15 ei.kl), .int .u64 (Ky.rdB ei.kl)]) ?_
    refine t 33 (.agg #[.int .u64 (Ky.rdB ei.kl), .int .i64 (wrap64 (numB ei.vl))]) ?_
    refine ta 10 [.int .i64 0, .int .u64 0, .int .u64 0] 90 (pg) ?_
    intro v5 g6 Xg6 hg6 B
    have zBVg6 := Nat.le_trans BV.size hg6
    have zB0g6 := Nat.le_trans B0.size hg6
    replace BV := joinB BV B
    replace B0 := joinB B0 B
    clear B
    have lXg6 := Xg6.lt
    refine ta 11 [.int .u64 0, .int .i64 0] 61 (pg) ?_
    intro v7 g8 Xg8 hg8 B
    have zBVg8 := Nat.le_trans BV.size hg8
    have zB0g8 := Nat.le_trans B0.size hg8
    replace BV := joinB BV B
    replace B0 := joinB B0 B
    replace Xg6 := Xg6.keep B
    clear B
    refine ts Xg6 0 (.agg #[.int .i64 (15 : Nat), .int .u64 (Ky.rdA 15 ei.kl), .int .u64 (Ky.rdB ei.kl)]) [.int .i64 (15 : Nat), .int .u64 (Ky.rdA 15 ei.kl), .int .u64 (Ky.rdB ei.kl)] [.int .i64 (15 : Nat), .int .u64 (Ky.rdA 15 ei.kl), .int .u64 (Ky.rdB ei.kl)] ?_
    intro v9 Y C
    replace BV := belowC BV C (by omega)
    replace B0 := belowC B0 C (by omega)
    replace Xg8 := Xg8.chg C (show g8 ≠ g6 by omega)
    clear C Xg6
    have Xg6 := Y
    clear Y
    refine ts Xg8 0 (.agg #[.int .u64 (Ky.rdB ei.kl), .int .i64 (wrap64 (numB ei.vl))]) [.int .u64 (Ky.rdB ei.kl), .int .i64 (wrap64 (numB ei.vl))] [.int .u64 (Ky.rdB ei.kl), .int .i64 (wrap64 (numB ei.vl))] ?_
    intro v10 Y C
    replace BV := belowC BV C (by omega)
    replace B0 := belowC B0 C (by omega)
    replace Xg6 := Xg6.chg C (show g6 ≠ g8 by omega)
    clear C Xg8
    have Xg8 := Y
    clear Y
    refine gl_nil ?_
    refine ge_then ?_
    refine gc_fr [(5, .slice a k d), (8, .slice av M_ cv), (9, .int .i64 (i : Int)), (10, pg g6), (11, pg g8), (20, .int .i64 (i : Int)), (21, .slice av M_ cv), (22, .int .i64 ((M_ : Nat) : Int)), (23, .bool true), (26, .tuple #[.agg #[.int .i64 (15 : Nat), .int .u64 (Ky.rdA 15 ei.kl), .int .u64 (Ky.rdB ei.kl)], .agg #[.int .u64 (Ky.rdB ei.kl), .int .i64 (wrap64 (numB ei.vl))]]), (27, .slice av M_ cv), (28, .int .i64 (i : Int)), (29, pq pb (0 + i * 2)), (30, .agg #[ei.kv, ei.vv]), (31, .tuple #[.agg #[.int .i64 (15 : Nat), .int .u64 (Ky.rdA 15 ei.kl), .int .u64 (Ky.rdB ei.kl)], .agg #[.int .u64 (Ky.rdB ei.kl), .int .i64 (wrap64 (numB ei.vl))]]), (32, .agg #[.int .i64 (15 : Nat), .int .u64 (Ky.rdA 15 ei.kl), .int .u64 (Ky.rdB ei.kl)]), (33, .agg #[.int .u64 (Ky.rdB ei.kl), .int .i64 (wrap64 (numB ei.vl))])] (by kernel_rfl) ?_
    refine gc_reg ?_
    refine t 34 (.slice a k d) ?_
    refine tlr 35 [.int .u64 (Ky.rdB ei.kl), .int .i64 (wrap64 (numB ei.vl))] Xg8 0 ?_
    have lXg6 := Xg6.lt
    have lXg8 := Xg8.lt
    refine ta 36 [.int .u64 (Ky.rdB ei.kl), .int .i64 (wrap64 (numB ei.vl))] 61 (sg 1) ?_
    intro v11 g12 Xg12 hg12 B
    have zBVg12 := Nat.le_trans BV.size hg12
    have zB0g12 := Nat.le_trans B0.size hg12
    replace BV := joinB BV B
    replace B0 := joinB B0 B
    replace Xg6 := Xg6.keep B
    replace Xg8 := Xg8.keep B
    clear B
    have zC := B0.size
    have hll := LF_len es i
    obtain ⟨v5, w5, hr5, U5, C5⟩ := app_e (p := entp ei) (a := ⟨g12, 0, none⟩) 74 (U.keep B0) (by omega) (by omega) (Xg12.cell (i := 0) rfl) (Xg12.cell (i := 1) rfl)
    obtain ⟨a5, c5, rfl⟩ := U5.shape
    obtain ⟨k5, hk5⟩ : ∃ k, ((LF es i) ++ [entp ei]).length = k := ⟨_, rfl⟩
    rw [hk5] at U5 hr5
    refine tw 37 (.slice a5 k5 c5) _ (run_apE hr5) ?_
    have BV5 : Below VA.heap.size VA w5 := BV.trans (C5.below (fun b h => by omega) BV.size)
    clear BV B0 Xg6 Xg8 Xg12
    refine t 5 (.slice a5 k5 c5) ?_
    refine gl_nil ?_
    refine ge_bn ?_
    refine ge_then ?_
    refine gc_reg ?_
    refine t 24 (.int .i64 (i : Int)) ?_
    refine tq 25 (.int .i64 (IntKind.i64.wrap ((i : Int) + 1))) (.int .i64 ((i : Int) + 1)) (wi (by omega)) ?_
    refine t 9 (.int .i64 ((i : Int) + 1)) ?_
    refine gl_nil ?_
    rw [← LF_yes hei] at U5
    exact ge_round ((i + 1, a5, k5, c5) : Nat × Option Addr × Nat × Nat) (by show M_ - (i + 1) < M_ - i; omega) ⟨hk_i, BV5, U5⟩ (by kernel_rfl)
  · refine tq 23 (.bool (decide ((i : Int) < ((M_ : Nat) : Int)))) (.bool false) (congrArg Value.bool (decide_eq_false ci)) ?_
    refine gl_nil ?_
    refine ge_then ?_
    refine gc_no ?_
    refine gc_exit ?_
    refine ge_tx ?_
    refine ge_tx ?_
    refine ge_bx ?_
    refine ge_then ?_
    refine gc_seq ?_
    refine gc_reg ?_
    refine t 38 (.slice a k d) ?_
    refine t 4 (.slice a k d) ?_
    refine gl_nil ?_
    refine ge_then ?_
    refine gc_ret ?_
    refine ge_ret (.slice a k d) (rs1 4 (by kernel_rfl) (by kernel_rfl)) ?_
    have hN : LF es i = under E (p15 h) := by
      unfold LF under
      rw [List.take_of_length_le (by omega), ← show es.map En.kl2 = E.filter (fun y => decide (p15 h <+: y.1)) from he, List.map_map]
      rfl
    rw [hN] at U
    exact ⟨_, rfl, EA.low (EA.keep U B0) (by have := C.size; have := BB.size; omega), Y, n1, S.keep BV, hn1, fun b hb => (hY b hb).imp id (fun h => Nat.le_trans BB.size h), ((Chg.of (F := fun x => x = q) BB).trans C (fun _ _ h => h)).trans (Chg.of (F := fun x => x = q) BV) (fun _ _ h => h)⟩
structure EntF (B : Nat) (w : World) (K : Nat → Prop) (g : Nat) (E : Ents) (W : List Ents) (n N : Nat) (l : List (Int × Int)) (e : Ending) (w' : World) : Prop where
  ex : ∃ v n', e = .returned v ∧ EA w' w.heap.size v l ∧ Sx B w' K g E W n' N ∧ n ≤ n' ∧ n' ≤ n + 1 + N ∧ l.length ≤ N ∧ Chg (· = g) w w'
theorem due_x {B : Nat} {w : World} {K : Nat → Prop} {g : Nat} {E : Ents} {W : List Ents} {n N : Nat} {v : Int} (h : Sx B w K g E W n N) (hv : Uq v) (hK : Kys E) (hN : N ≤ 100000000) (hx : n + N ≤ 2000000000000000000) : Calls Tryz.prog 29 #[pg g, .int .u64 v] w (EntF B w K g E W n N (upto E (p14 v))) := by
  refine (due_sa h.sa hv (Nat.le_trans (Ky.mkb_len _ _) (by decide)) (hK.k14 hv) hN hx).mono ?_
  rintro e w' ⟨u, j, rfl, hE, rfl, S, C⟩
  have hl : (upto E (p14 v)).length ≤ N := by
    refine Nat.le_trans ?_ h.sa.size
    unfold upto
    rw [List.length_map]
    exact List.length_filter_le _ _
  exact ⟨u, _, rfl, hE, ⟨S, Nat.le_trans h.lo C.size, h.kb⟩, by omega, by have : (upto E (Ky.mkb (Ky.frm 14) (Ky.tn 14 v))).length ≤ N := hl; omega, hl, C⟩
theorem from_x {B : Nat} {w : World} {K : Nat → Prop} {g : Nat} {E : Ents} {W : List Ents} {n N : Nat} {v : Int} (h : Sx B w K g E W n N) (hv : Uq v) (hK : Kys E) (hN : N ≤ 100000000) (hx : n + N ≤ 2000000000000000000) : Calls Tryz.prog 30 #[pg g, .int .u64 v] w (EntF B w K g E W n N (under E (p15 v))) := by
  refine (from_sa h.sa hv (Nat.le_trans (Ky.mkb_len _ _) (by decide)) (hK.k15 hv) hN hx).mono ?_
  rintro e w' ⟨u, j, rfl, hE, rfl, S, C⟩
  have hl : (under E (p15 v)).length ≤ N := by
    refine Nat.le_trans ?_ h.sa.size
    unfold under
    rw [List.length_map]
    exact List.length_filter_le _ _
  exact ⟨u, _, rfl, hE, ⟨S, Nat.le_trans h.lo C.size, h.kb⟩, by omega, by have : (under E (Ky.mkb (Ky.frm 15) (Ky.tn 15 v))).length ≤ N := hl; omega, hl, C⟩
end Qu
end Go.Proofs.YtidnifmehnjipaaGreat

namespace Go.Proofs.YtidnifmehnjipaaGreat
namespace Qu
open Go.RowKit Go.Lib Pg Lim Gl Kv Bk Pw
attribute [local go_sem] Oper.semAt_some
set_option maxRecDepth 100000
set_option linter.unusedVariables false
set_option linter.unusedSimpArgs false
set_option maxHeartbeats 2000000
def bgE (x : Int) : Ents := put [] (Ky.mk 2 0 0) (pv 3 x)
def kE0 : Ents := bgE 7
def kE1 : Ents := beginE kE0 12 (uv 20 16 0 5 0 9) 20 16 5
def kE2 : Ents := beginE kE1 13 (mv 20 16 17 0 4 0 0) 20 16 4
def kE3 : Ents := lessU kE2 7 4
def kE4 : Ents := fewM kE3 8 3
def kE5 : Ents := dropE kE4 8 13
theorem kf1 : nxtB (chn kE0) = 7 := by decide +kernel
theorem kf2 : nxtB (chn kE1) = 8 := by decide +kernel
theorem kf3 : cntQ kE2 20 16 = 2 := by decide +kernel
theorem kf4 : (Kv.look kE2 (Ky.mk 12 7 0)).isSome = true := by decide +kernel
theorem kf5 : (Kv.look kE3 (Ky.mk 12 8 0)).isSome = false ∧ lessU kE3 8 4 = kE3 := by decide +kernel
theorem kf6 : (Kv.look kE3 (Ky.mk 13 8 0)).isSome = true := by decide +kernel
theorem kf7 : (Kv.look kE4 (Ky.mk 13 7 0)).isSome = false ∧ fewM kE4 7 0 = kE4 := by decide +kernel
theorem kf8 : ((Kv.look kE4 (Ky.mk 12 7 0)).isSome = true ∧ uX (got kE4 (Ky.mk 12 7 0)) 0 = 20 ∧ uX (got kE4 (Ky.mk 12 7 0)) 1 = 16) ∧ (uX (got kE4 (Ky.mk 12 7 0)) 2 = 0 ∧ uX (got kE4 (Ky.mk 12 7 0)) 3 = 5) ∧ (uX (got kE4 (Ky.mk 12 7 0)) 4 = 0 ∧ uX (got kE4 (Ky.mk 12 7 0)) 5 = 4) := by decide +kernel
theorem kf9 : ((Kv.look kE4 (Ky.mk 13 8 0)).isSome = true ∧ mX (got kE4 (Ky.mk 13 8 0)) 0 = 20 ∧ mX (got kE4 (Ky.mk 13 8 0)) 1 = 16) ∧ (mX (got kE4 (Ky.mk 13 8 0)) 2 = 17 ∧ mX (got kE4 (Ky.mk 13 8 0)) 3 = 0) ∧ (mX (got kE4 (Ky.mk 13 8 0)) 4 = 4 ∧ mX (got kE4 (Ky.mk 13 8 0)) 5 = 0) ∧ mX (got kE4 (Ky.mk 13 8 0)) 6 = 3 := by decide +kernel
theorem kf10 : upto kE4 (p14 5) = [(8, 13), (7, 12)] := by decide +kernel
theorem kf11 : upto kE4 (p14 4) = [(8, 13)] := by decide +kernel
theorem kf12 : under kE4 (p15 16) = [(7, 12), (8, 13)] := by decide +kernel
theorem kf13 : dropB kE4 8 12 = false ∧ dropE kE4 8 12 = kE4 := by decide +kernel
theorem kf14 : dropB kE4 8 13 = true ∧ cntQ kE5 20 16 = 1 := by decide +kernel
theorem bg_qs {x : Int} (hx : Uq x) : Qs (bgE x) x [] := by
  have L : ∀ {k a b : Int}, Ok k a b → Kv.look (bgE x) (Ky.mk k a b) = if 2 = k ∧ 0 = a ∧ 0 = b then some (pv 3 x) else none := fun ho => by
    unfold bgE
    rw [lkp List.Pairwise.nil ok2 ho]
    rfl
  have hch : chn (bgE x) = pv 3 x := by
    unfold chn got
    rw [L ok2, if_pos (by simp)]
    rfl
  obtain ⟨p1, p2⟩ := pv_back2 (x := 3) (y := x) (by decide) hx
  refine ⟨Rise.put List.Pairwise.nil _ _, keys_put (fun _ h => by cases h) ok2, by rw [hch]; exact p2, by rw [hch, p1]; decide, hx.1, List.Pairwise.nil, (fun _ h => by cases h), (fun _ h => by cases h), ?_, ?_, ?_, ?_⟩
  · intro k i hk hi _
    rw [L (okr hk hi), if_neg (by omega)]
  · intro d i hd hi v
    rw [L (ok14 hd hi), if_neg (by omega)]
    exact ⟨(fun h => by cases h), (fun ⟨_, h, _⟩ => by cases h)⟩
  · intro d i hd hi v
    rw [L (ok15 hd hi), if_neg (by omega)]
    exact ⟨(fun h => by cases h), (fun ⟨_, h, _⟩ => by cases h)⟩
  · intro a b ha hb
    rw [L (ok17 ha hb), if_neg (by omega)]
    rfl
theorem kys4 : Kys kE4 := by
  have h0 := bg_qs (x := 7) (by decide)
  have h1 : Qs kE1 (7 + 1) [⟨7, 12, 20, 16, 5⟩] := h0.begin (by decide) (by decide) (e := ⟨7, 12, 20, 16, 5⟩) rfl (.inl rfl) (by decide) (by decide) (by decide) (r := uv 20 16 0 5 0 9) ⟨(fun _ => by decide +kernel), (fun h => by cases h)⟩
  have h2 : Qs kE2 (7 + 1 + 1) [⟨7, 12, 20, 16, 5⟩, ⟨8, 13, 20, 16, 4⟩] := h1.begin (by decide) (by decide) (e := ⟨8, 13, 20, 16, 4⟩) rfl (.inr rfl) (by decide) (by decide) (by decide) (r := mv 20 16 17 0 4 0 0) ⟨(fun h => by cases h), (fun _ => by decide +kernel)⟩
  have o1 : Oct (got kE2 (Ky.mk 12 7 0)) := by unfold Oct; decide +kernel
  have h3 : Qs kE3 (7 + 1 + 1) _ := h2.less (id := 7) (y := 4) (by decide) (by decide) (by decide) o1
  have o2 : Oct (got kE3 (Ky.mk 13 8 0)) := by unfold Oct; decide +kernel
  exact (h3.few (id := 8) (y := 3) (by decide) (by decide) (by decide) o2).keys
theorem SxE.cast {B : Nat} {w : World} {K : Nat → Prop} {g : Nat} {E : Ents} {W : List Ents} {n N : Nat} {E' : Ents} {r r' : Value} {P : Nat} {args : Array Value} (h : Calls Tryz.prog P args w (SxE B w K g E W n N r)) (hE : E = E') (hr : r = r') : Calls Tryz.prog P args w (SxE B w K g E' W n N r') := by subst hE hr; exact h
theorem SxF.cast {B : Nat} {w : World} {K : Nat → Prop} {g : Nat} {E : Ents} {W : List Ents} {n N : Nat} {E' : Ents} {r r' : Value} {P : Nat} {args : Array Value} (h : Calls Tryz.prog P args w (SxF B w K g E W n N r)) (hE : E = E') (hr : r = r') : Calls Tryz.prog P args w (SxF B w K g E' W n N r') := by subst hE hr; exact h
theorem EntF.cast {B : Nat} {w : World} {K : Nat → Prop} {g : Nat} {E : Ents} {W : List Ents} {n N : Nat} {l l' : List (Int × Int)} {P : Nat} {args : Array Value} (h : Calls Tryz.prog P args w (EntF B w K g E W n N l)) (hl : l = l') : Calls Tryz.prog P args w (EntF B w K g E W n N l') := by subst hl; exact h
structure FndV (B : Nat) (w : World) (K : Nat → Prop) (g : Nat) (E : Ents) (W : List Ents) (n N : Nat) (x0 x1 x2 x3 x4 x5 x6 : Int) (b : Bool) (e : Ending) (w' : World) : Prop where
  ex : ∃ a6 n6 c6, e = .returned (.tuple #[.agg #[.int .u64 x0, .int .u64 x1, .int .u64 x2, .int .u64 x3, .int .u64 x4, .int .u64 x5, .slice a6 n6 c6], .bool b]) ∧ ∃ z6 K', Sx B w' K' g E W n N ∧ (∀ b, K' b → K b ∨ w.heap.size ≤ b) ∧ Chg K w w' ∧ Nq w' K' z6 a6 n6 c6 x6 ∧ n6 ≤ 510 ∧ (n6 = 0 ∨ w.heap.size ≤ z6)
theorem FndM.val {B : Nat} {w : World} {K : Nat → Prop} {g : Nat} {E : Ents} {W : List Ents} {n N : Nat} {L : List Int} {x0 x1 x2 x3 x4 x5 x6 : Int} {b b' : Bool} {P : Nat} {args : Array Value} (h : Calls Tryz.prog P args w (FndM B w K g E W n N L b)) (h0 : mX L 0 = x0) (h1 : mX L 1 = x1) (h2 : mX L 2 = x2) (h3 : mX L 3 = x3) (h4 : mX L 4 = x4) (h5 : mX L 5 = x5) (h6 : mX L 6 = x6) (hb : b = b') : Calls Tryz.prog P args w (FndV B w K g E W n N x0 x1 x2 x3 x4 x5 x6 b') := by
  subst h0 h1 h2 h3 h4 h5 h6 hb
  exact h.mono fun e w' h => ⟨h.ex⟩
theorem nk_nil (w : World) (K : Nat → Prop) : Nk w K 0 none 0 0 0 := ⟨.inl rfl, .inl rfl, fun w' _ => (natO_nil w').a⟩
theorem n3_lit {w : World} {b : Nat} (c : w.cell? ⟨b, 0, none⟩ = some (.int .u64 3)) : NatO w (some ⟨b, 0, none⟩) 1 1 3 := ⟨b, 0, [3], rfl, Nat.le_refl _, by refine ⟨fun y hy => ?_, by rfl, by decide⟩; simp at hy; subst hy; decide, ⟨.inr rfl, fun i hi => by
    obtain rfl : i = 0 := by simp at hi; omega
    exact c⟩⟩
theorem nk_3 {w : World} {K : Nat → Prop} {b : Nat} (X : Blk w b [.int .u64 3] 22) (hK : ¬ K b) : Nk w K b (some ⟨b, 0, none⟩) 1 1 3 := ⟨.inr X.lt, .inr hK, fun w' h => (n3_lit (by rw [World.cell?_of_block (w := w) (h (by decide))]; exact X.cell (i := 0) rfl)).a⟩
theorem run_nqU {ρ : Operand → Value} {w : World} {o : Oper} {x0 x1 x2 x3 x4 x5 : Int} (ho : ∃ u v, o.op = .binOp .neq 42 u v 42 ∧ ρ u = .agg #[.int .u64 x0, .int .u64 x1, .int .u64 x2, .int .u64 x3, .int .u64 x4, .int .u64 x5] ∧ ρ v = .agg #[.int .u64 x0, .int .u64 x1, .int .u64 x2, .int .u64 x3, .int .u64 x4, .int .u64 x5] := by exact ⟨_, _, rfl, by kernel_rfl, by kernel_rfl⟩) : (execOp ρ o).run Tryz.prog w = .ok (.value (.bool false)) w := by
  obtain ⟨u, v, h, e1, e2⟩ := ho
  simp only [execOp, h, e1, e2]
  go_simp
theorem run_eqU {ρ : Operand → Value} {w : World} {o : Oper} {x0 x1 x2 x3 x4 x5 : Int} (ho : ∃ u v, o.op = .binOp .eql 42 u v 42 ∧ ρ u = .agg #[.int .u64 x0, .int .u64 x1, .int .u64 x2, .int .u64 x3, .int .u64 x4, .int .u64 x5] ∧ ρ v = .agg #[.int .u64 x0, .int .u64 x1, .int .u64 x2, .int .u64 x3, .int .u64 x4, .int .u64 x5] := by exact ⟨_, _, rfl, by kernel_rfl, by kernel_rfl⟩) : (execOp ρ o).run Tryz.prog w = .ok (.value (.bool true)) w := by
  obtain ⟨u, v, h, e1, e2⟩ := ho
  simp only [execOp, h, e1, e2]
  go_simp
theorem begun_any {w : World} {x : Int} : Calls Tryz.prog 7 #[.int .u64 x] w fun e w' => ∃ Bz g K, e = .returned (pg g) ∧ Sx Bz w' K g (bgE x) [] 1 2 ∧ w.heap.size ≤ Bz ∧ (∀ b, K b → Bz ≤ b) ∧ Below w.heap.size w w' := by
  have BB := Below.refl w.heap.size w
  refine gc_enter (n := 19) Tryz.func7 rfl (by kernel_rfl) (by kernel_rfl) ?_
  refine gc_seq ?_
  refine gc_reg ?_
  refine t 2 (.pointer none) ?_
  refine gl_nil ?_
  refine ge_then ?_
  refine gc_seq ?_
  refine gc_reg ?_
  obtain ⟨Bz, hBz⟩ : ∃ Bz, Bz = (w).heap.size := ⟨_, rfl⟩
  have hwB : w.heap.size ≤ Bz := by rw [hBz]; exact BB.size
  refine tc 6 6 #[] (snewP Bz hBz) ?_
  rintro _ v1 ⟨g0, K0, rfl, S0, hK0, B0⟩
  refine ⟨_, rfl, ?_⟩
  replace BB := joinB BB B0
  have A := S0.at
  clear S0
  refine t 3 (pg g0) ?_
  refine gl_nil ?_
  refine ge_then ?_
  refine gc_seq ?_
  refine gc_reg ?_
  refine t 8 (.agg #[.int .i64 2, .int .u64 0, .int .u64 0]) ?_
  refine tc 9 32 #[.agg #[.int .i64 2, .int .u64 0, .int .u64 0]] (mk_key (k := 2) (a := 0) (b := 0) (by decide) mkE2) ?_
  rintro _ v4 ⟨kv3, rfl, U2, B⟩
  refine ⟨_, rfl, ?_⟩
  replace BB := joinB BB B
  replace A := A.keep B
  clear B
  refine t 7 (.tuple #[kv3, .int .i64 0]) ?_
  refine t 10 (kv3) ?_
  refine t 11 (.int .i64 0) ?_
  refine t 4 (kv3) ?_
  refine t 5 (.int .i64 0) ?_
  refine gl_nil ?_
  refine ge_then ?_
  refine gc_seq ?_
  refine gc_reg ?_
  refine t 12 (pg g0) ?_
  refine t 13 (kv3) ?_
  refine t 14 (.int .u64 x) ?_
  refine t 15 (.agg #[.int .u64 3, .int .u64 x]) ?_
  refine tc 16 34 #[.agg #[.int .u64 3, .int .u64 x]] (put_chain) ?_
  rintro _ v7 ⟨pv6, rfl, U5, B⟩
  refine ⟨_, rfl, ?_⟩
  replace BB := joinB BB B
  replace A := A.keep B
  replace U2 := byu_keep U2 B
  clear B
  refine tc 17 33 #[pg g0, kv3, pv6] (qset A.sx U2 mkE2 U5 (Nat.le_trans (pv_len _ _) (by decide)) (by omega) (by omega)) ?_
  rintro _ v9 ⟨rfl, K8, S, hK, hC⟩
  refine ⟨_, rfl, ?_⟩
  replace BB := belowO BB hC (fun b hb => Nat.le_trans hwB (A.sx.kb b hb))
  replace U2 := A.byu U2 hC
  replace U5 := A.byu U5 hC
  replace A := A.op S hK hC
  clear S hK hC
  clear U2
  clear U5
  refine gl_nil ?_
  refine ge_then ?_
  refine gc_fr [(2, .pointer none), (3, pg g0)] (by kernel_rfl) ?_
  refine gc_seq ?_
  refine gc_reg ?_
  refine t 18 (pg g0) ?_
  refine t 2 (pg g0) ?_
  refine gl_nil ?_
  refine ge_then ?_
  refine gc_ret ?_
  refine ge_ret (pg g0) (rs1 2 (by kernel_rfl) (by kernel_rfl)) ?_
  exact ⟨_, _, _, rfl, A.sx, hwB, fun b hb => A.sx.kb b hb, BB⟩
end Qu
end Go.Proofs.YtidnifmehnjipaaGreat

namespace Go.Proofs.YtidnifmehnjipaaGreat
namespace Gl
open Go.RowKit Go.Lib Pg
def sameL (n : Nat) (L L' : List Nat) : Bool := (List.range n).all fun i => hasL L i == hasL L' i
theorem arr_same {n : Nat} {L L' : List Nat} (h : sameL n L L' = true) : arr n L = arr n L' := by
  unfold arr
  rw [List.map_congr_left fun i hi => by have := List.all_eq_true.1 h i hi; simpa using this]
section
variable {P : Program} {n : Nat} {ds : List Deferred} {ops : Array Oper} {Q : Exit → Act → World → Prop} {S : World → Prop} {Z : Nat → Bool} {fuel : Nat} {L : List Nat} {l : Fr} {w : World}
theorem gz_join {α : Type} (L' : List Nat) (k : Nat) (fr : α → Fr) (F : α → World → Prop) (h1 : (∀ s w', F s w' → GZ P n ds ops Q S Z k L' (fr s) w') → GZ P n ds ops Q S Z fuel L l w) (h2 : ∀ s w', F s w' → GZ P n ds ops Q S Z k L' (fr s) w') : GZ P n ds ops Q S Z fuel L l w := h1 h2
theorem gz_to {α : Type} {L' : List Nat} {fr : α → Fr} {F : α → World → Prop} (J : ∀ s w', F s w' → GZ P n ds ops Q S Z fuel L' (fr s) w') (s : α) (hF : F s w) (hl : (fr s).map (fun p => lk l p.1) = (fr s).map (fun p => some p.2) := by kernel_rfl) (hL : sameL ops.size L L' = true := by kernel_rfl) : GZ P n ds ops Q S Z fuel L l w := ⟨fun ok hS a r => by rw [arr_same hL]; exact (J s w hF).out ok hS a (r.sub (sub_of hl))⟩
end
end Gl
end Go.Proofs.YtidnifmehnjipaaGreat

namespace Go.Proofs.YtidnifmehnjipaaGreat
namespace Qu
open Go.RowKit Go.Lib Pg Lim Gl Kv Bk Pw
attribute [local go_sem] Oper.semAt_some
set_option maxRecDepth 100000
set_option linter.unusedVariables false
set_option linter.unusedSimpArgs false
set_option maxHeartbeats 2000000
theorem kU : (.tuple #[.agg (uA (got kE4 (Ky.mk 12 7 0))), .bool (Kv.look kE4 (Ky.mk 12 7 0)).isSome] : Value) = .tuple #[.agg #[.int .u64 20, .int .u64 16, .int .u64 0, .int .u64 5, .int .u64 0, .int .u64 4], .bool true] := by
  obtain ⟨⟨a, b, c⟩, ⟨d, e⟩, f, g⟩ := kf8
  unfold uA
  rw [a, b, c, d, e, f, g]
theorem known12 {w : World} : Calls Tryz.prog 4 #[] w fun e w' => e = .returned (.bool true) ∧ Below w.heap.size w w' := by
  have BB := Below.refl w.heap.size w
  refine gc_enter (n := 119) Tryz.func4 rfl (by kernel_rfl) (by kernel_rfl) ?_
  refine gc_seq ?_
  refine gc_reg ?_
  refine t 0 (.bool false) ?_
  refine gl_nil ?_
  refine ge_then ?_
  refine gc_seq ?_
  refine gc_reg ?_
  refine tc 10 7 #[.int .u64 7] (begun_any) ?_
  rintro _ v1 ⟨Bz, g0, K0, rfl, S0, hwB, hK0, B0⟩
  refine ⟨_, rfl, ?_⟩
  replace BB := joinB BB B0
  clear B0
  have A := S0.at
  clear S0
  refine t 1 (pg g0) ?_
  refine gl_nil ?_
  refine ge_then ?_
  refine gc_seq ?_
  refine gc_seq ?_
  refine gc_reg ?_
  refine t 11 (pg g0) ?_
  refine t 12 (.bool false) ?_
  refine gl_nil ?_
  refine ge_then ?_
  refine gc_no ?_
  refine gc_skip ?_
  refine ge_then ?_
  refine gc_seq ?_
  refine gc_reg ?_
  refine t 13 (pg g0) ?_
  refine t 14 (.agg #[.int .u64 20, .int .u64 16, .int .u64 0, .int .u64 5, .int .u64 0, .int .u64 9]) ?_
  refine tc 15 11 #[pg g0, .agg #[.int .u64 20, .int .u64 16, .int .u64 0, .int .u64 5, .int .u64 0, .int .u64 9]] (SxE.cast (E' := kE1) (unbond_any (E := kE0) A.sx (by decide) (by decide) (by decide) (by omega) (by omega)) rfl (congrArg (Value.int .u64) kf1)) ?_
  rintro _ v3 ⟨rfl, K2, S, hK, hC⟩
  refine ⟨_, rfl, ?_⟩
  replace BB := belowO BB hC (fun b hb => Nat.le_trans hwB (A.sx.kb b hb))
  replace A := A.op S hK hC
  clear S hK hC
  refine t 2 (.int .u64 7) ?_
  refine gl_nil ?_
  refine ge_then ?_
  refine gc_seq ?_
  refine gc_reg ?_
  refine t 16 (pg g0) ?_
  refine t 17 (.agg #[.int .u64 20, .int .u64 16, .int .u64 17, .int .u64 0, .int .u64 4, .int .u64 0, .slice none 0 0]) ?_
  refine tc 18 13 #[pg g0, .agg #[.int .u64 20, .int .u64 16, .int .u64 17, .int .u64 0, .int .u64 4, .int .u64 0, .slice none 0 0]] (SxE.cast (E' := kE2) (move_any (E := kE1) A.sx (by decide) (by decide) (by decide) (nk_nil _ _) (by decide) (by omega) (by omega)) rfl (congrArg (Value.int .u64) kf2)) ?_
  rintro _ v5 ⟨rfl, K4, S, hK, hC⟩
  refine ⟨_, rfl, ?_⟩
  replace BB := belowO BB hC (fun b hb => Nat.le_trans hwB (A.sx.kb b hb))
  replace A := A.op S hK hC
  clear S hK hC
  refine t 3 (.int .u64 8) ?_
  refine gl_nil ?_
  refine ge_then ?_
  refine gc_fr [(0, .bool false), (1, pg g0), (2, .int .u64 7), (3, .int .u64 8)] (by kernel_rfl) ?_
  refine gc_seq ?_
  refine gc_seq ?_
  refine gc_reg ?_
  refine t 19 (.int .u64 7) ?_
  refine t 20 (.bool false) ?_
  refine t 21 (.bool false) ?_
  refine t 22 (.int .u64 8) ?_
  refine t 23 (.bool false) ?_
  refine t 24 (.bool false) ?_
  refine t 25 (.bool false) ?_
  refine t 26 (pg g0) ?_
  refine tc 27 24 #[pg g0, .int .u64 20, .int .u64 16] (SxE.cast (E := kE2) (count_get A.sx (by decide) (by omega) (by omega)) rfl (congrArg (Value.int .u64) kf3)) ?_
  rintro _ v7 ⟨rfl, K6, S, hK, hC⟩
  refine ⟨_, rfl, ?_⟩
  replace BB := belowO BB hC (fun b hb => Nat.le_trans hwB (A.sx.kb b hb))
  replace A := A.op S hK hC
  clear S hK hC
  refine t 28 (.bool false) ?_
  refine t 29 (.bool false) ?_
  refine t 30 (.bool false) ?_
  refine t 31 (pg g0) ?_
  refine tc 32 15 #[pg g0, .int .u64 7, .int .u64 4] (SxF.cast (E' := kE3) (less_any (E := kE2) A.sx (by decide) (by omega) (by omega)) rfl (congrArg Value.bool kf4)) ?_
  rintro _ v12 ⟨rfl, K8, n9, N10, S, qn9, qN10, hK, hC⟩
  refine ⟨_, rfl, ?_⟩
  replace BB := belowO BB hC (fun b hb => Nat.le_trans hwB (A.sx.kb b hb))
  replace A := A.op S hK hC
  clear S hK hC
  refine t 33 (.bool false) ?_
  refine t 34 (.bool false) ?_
  refine t 35 (.bool false) ?_
  refine t 36 (pg g0) ?_
  refine tc 37 15 #[pg g0, .int .u64 8, .int .u64 4] (SxF.cast (less_any (E := kE3) A.sx (by decide) (by omega) (by omega)) kf5.2 (congrArg Value.bool kf5.1)) ?_
  rintro _ v17 ⟨rfl, K13, n14, N15, S, qn14, qN15, hK, hC⟩
  refine ⟨_, rfl, ?_⟩
  replace BB := belowO BB hC (fun b hb => Nat.le_trans hwB (A.sx.kb b hb))
  replace A := A.op S hK hC
  clear S hK hC
  refine t 38 (.bool false) ?_
  refine t 39 (.bool false) ?_
  refine t 40 (pg g0) ?_
  refine ta 41 [.int .u64 3] 22 (sg 1) ?_
  intro v18 g19 Xg19 hg19 B
  have yg19 := Nat.le_trans BB.size hg19
  have zg19 := Nat.le_trans A.size hg19
  have nXg19 := A.new hg19
  replace BB := joinB BB B
  replace A := A.keep B
  clear B
  refine t 42 (.agg #[sg 1 g19]) ?_
  refine tc 43 17 #[pg g0, .int .u64 8, .agg #[sg 1 g19]] (SxF.cast (E' := kE4) (fewer_any (E := kE3) A.sx (by decide) (nk_3 Xg19 nXg19) (by decide) (by omega) (by omega)) rfl (congrArg Value.bool kf6)) ?_
  rintro _ v24 ⟨rfl, K20, n21, N22, S, qn21, qN22, hK, hC⟩
  refine ⟨_, rfl, ?_⟩
  replace BB := belowO BB hC (fun b hb => Nat.le_trans hwB (A.sx.kb b hb))
  have mXg19 := not_op Xg19 nXg19 hK
  replace Xg19 := Xg19.chg hC nXg19
  replace nXg19 := mXg19
  clear mXg19
  replace A := A.op S hK hC
  clear S hK hC
  refine t 44 (.bool false) ?_
  refine t 45 (.bool false) ?_
  refine t 46 (.bool false) ?_
  refine t 47 (pg g0) ?_
  refine t 48 (.agg #[.slice none 0 0]) ?_
  refine tc 49 17 #[pg g0, .int .u64 7, .agg #[.slice none 0 0]] (SxF.cast (fewer_any (E := kE4) A.sx (by decide) (nk_nil _ _) (by decide) (by omega) (by omega)) kf7.2 (congrArg Value.bool kf7.1)) ?_
  rintro _ v29 ⟨rfl, K25, n26, N27, S, qn26, qN27, hK, hC⟩
  refine ⟨_, rfl, ?_⟩
  replace BB := belowO BB hC (fun b hb => Nat.le_trans hwB (A.sx.kb b hb))
  have mXg19 := not_op Xg19 nXg19 hK
  replace Xg19 := Xg19.chg hC nXg19
  replace nXg19 := mXg19
  clear mXg19
  replace A := A.op S hK hC
  clear S hK hC
  refine t 50 (.bool false) ?_
  refine gl_nil ?_
  refine ge_then ?_
  clear Xg19
  refine gc_fr [(0, .bool false), (1, pg g0), (50, .bool false)] (by kernel_rfl) ?_
  refine gc_no ?_
  refine gc_skip ?_
  refine ge_then ?_
  refine gc_seq ?_
  refine gc_reg ?_
  refine t 52 (pg g0) ?_
  refine tc 53 25 #[pg g0, .int .u64 7] (SxE.cast (unbonding_any (E := kE4) A.sx (by decide) (by omega) (by omega)) rfl kU) ?_
  rintro _ v31 ⟨rfl, K30, S, hK, hC⟩
  refine ⟨_, rfl, ?_⟩
  replace BB := belowO BB hC (fun b hb => Nat.le_trans hwB (A.sx.kb b hb))
  replace A := A.op S hK hC
  clear S hK hC
  refine t 51 (.tuple #[.agg #[.int .u64 20, .int .u64 16, .int .u64 0, .int .u64 5, .int .u64 0, .int .u64 4], .bool true]) ?_
  refine t 54 (.agg #[.int .u64 20, .int .u64 16, .int .u64 0, .int .u64 5, .int .u64 0, .int .u64 4]) ?_
  refine t 55 (.bool true) ?_
  refine ta 4 [.int .u64 0, .int .u64 0, .int .u64 0, .int .u64 0, .int .u64 0, .int .u64 0] 42 (pg) ?_
  intro v32 g33 Xg33 hg33 B
  have yg33 := Nat.le_trans BB.size hg33
  have zg33 := Nat.le_trans A.size hg33
  have nXg33 := A.new hg33
  replace BB := joinB BB B
  replace A := A.keep B
  clear B
  refine ts Xg33 0 (.agg #[.int .u64 20, .int .u64 16, .int .u64 0, .int .u64 5, .int .u64 0, .int .u64 4]) [.int .u64 20, .int .u64 16, .int .u64 0, .int .u64 5, .int .u64 0, .int .u64 4] [.int .u64 20, .int .u64 16, .int .u64 0, .int .u64 5, .int .u64 0, .int .u64 4] ?_
  intro v34 Y C
  replace BB := belowC BB C (by omega)
  replace A := Bk.At.cell A Xg33 C zg33 nXg33 (by decide)
  clear C Xg33
  have Xg33 := Y
  clear Y
  refine t 5 (.bool true) ?_
  refine gl_nil ?_
  refine ge_then ?_
  refine gc_seq ?_
  refine gc_reg ?_
  refine t 57 (pg g0) ?_
  have szA := A.sx.sa.lt A.sx.sa.top
  refine tc 58 26 #[pg g0, .int .u64 8] (FndM.val (moving_any (E := kE4) A.sx (by decide) (by omega) (by omega)) kf9.1.2.1 kf9.1.2.2 kf9.2.1.1 kf9.2.1.2 kf9.2.2.1.1 kf9.2.2.1.2 kf9.2.2.2 kf9.1.1) ?_
  rintro _ v37 ⟨ak, nk, ck, rfl, zk, K36, S, hK, hC, Qk, mk, hzk⟩
  refine ⟨_, rfl, ?_⟩
  replace BB := belowO BB hC (fun b hb => Nat.le_trans hwB (A.sx.kb b hb))
  have mXg33 := not_op Xg33 nXg33 hK
  replace Xg33 := Xg33.chg hC nXg33
  replace nXg33 := mXg33
  clear mXg33
  replace A := A.op S hK hC
  clear S hK hC
  refine t 56 (.tuple #[.agg #[.int .u64 20, .int .u64 16, .int .u64 17, .int .u64 0, .int .u64 4, .int .u64 0, .slice ak nk ck], .bool true]) ?_
  refine t 59 (.agg #[.int .u64 20, .int .u64 16, .int .u64 17, .int .u64 0, .int .u64 4, .int .u64 0, .slice ak nk ck]) ?_
  refine t 60 (.bool true) ?_
  have lXg33 := Xg33.lt
  have lQk := Qk.lt
  refine ta 6 [.int .u64 0, .int .u64 0, .int .u64 0, .int .u64 0, .int .u64 0, .int .u64 0, .slice none 0 0] 48 (pg) ?_
  intro v38 g39 Xg39 hg39 B
  have yg39 := Nat.le_trans BB.size hg39
  have zg39 := Nat.le_trans A.size hg39
  have nXg39 := A.new hg39
  replace BB := joinB BB B
  replace A := A.keep B
  replace Xg33 := Xg33.keep B
  replace Qk := Qk.keep B
  clear B
  refine ts Xg39 0 (.agg #[.int .u64 20, .int .u64 16, .int .u64 17, .int .u64 0, .int .u64 4, .int .u64 0, .slice ak nk ck]) [.int .u64 20, .int .u64 16, .int .u64 17, .int .u64 0, .int .u64 4, .int .u64 0, .slice ak nk ck] [.int .u64 20, .int .u64 16, .int .u64 17, .int .u64 0, .int .u64 4, .int .u64 0, .slice ak nk ck] ?_
  intro v40 Y C
  replace BB := belowC BB C (by omega)
  replace A := Bk.At.cell A Xg39 C zg39 nXg39 (by decide)
  replace Xg33 := Xg33.chg C (show g33 ≠ g39 by omega)
  replace Qk := Qk.cell C (show nk = 0 ∨ zk ≠ g39 by omega)
  clear C Xg39
  have Xg39 := Y
  clear Y
  refine t 7 (.bool true) ?_
  refine gl_nil ?_
  refine ge_then ?_
  refine gc_fr [(0, .bool false), (1, pg g0), (4, pg g33), (5, .bool true), (6, pg g39), (7, .bool true)] (by kernel_rfl) ?_
  refine gc_seq ?_
  refine gc_seq ?_
  refine gc_reg ?_
  refine t 61 (.bool true) ?_
  refine t 62 (.bool false) ?_
  refine t 63 (.bool false) ?_
  refine t 64 (.bool true) ?_
  refine t 65 (.bool false) ?_
  refine t 66 (.bool false) ?_
  refine t 67 (.bool false) ?_
  refine tlr 68 [.int .u64 20, .int .u64 16, .int .u64 0, .int .u64 5, .int .u64 0, .int .u64 4] Xg33 0 ?_
  refine t 69 (.agg #[.int .u64 20, .int .u64 16, .int .u64 0, .int .u64 5, .int .u64 0, .int .u64 4]) ?_
  refine tr 70 (.bool false) (run_nqU (x0 := 20) (x1 := 16) (x2 := 0) (x3 := 5) (x4 := 0) (x5 := 4)) ?_
  refine t 71 (.bool false) ?_
  refine t 72 (.bool false) ?_
  refine tlr 73 [.int .u64 20, .int .u64 16, .int .u64 17, .int .u64 0, .int .u64 4, .int .u64 0, .slice ak nk ck] Xg39 0 ?_
  have lXg33 := Xg33.lt
  have lQk := Qk.lt
  have lXg39 := Xg39.lt
  refine ta 74 [.int .u64 3] 22 (sg 1) ?_
  intro v41 g42 Xg42 hg42 B
  have yg42 := Nat.le_trans BB.size hg42
  have zg42 := Nat.le_trans A.size hg42
  have nXg42 := A.new hg42
  replace BB := joinB BB B
  replace A := A.keep B
  replace Xg33 := Xg33.keep B
  replace Qk := Qk.keep B
  replace Xg39 := Xg39.keep B
  clear B
  refine t 75 (.agg #[sg 1 g42]) ?_
  refine t 76 (.agg #[.int .u64 20, .int .u64 16, .int .u64 17, .int .u64 0, .int .u64 4, .int .u64 0, sg 1 g42]) ?_
  refine tc 77 27 #[.agg #[.int .u64 20, .int .u64 16, .int .u64 17, .int .u64 0, .int .u64 4, .int .u64 0, .slice ak nk ck], .agg #[.int .u64 20, .int .u64 16, .int .u64 17, .int .u64 0, .int .u64 4, .int .u64 0, sg 1 g42]] (move_same Qk.o (n3_lit (Xg42.cell (i := 0) rfl)) (Nat.le_trans mk (by decide)) (by decide)) ?_
  rintro _ v43 ⟨rfl, B⟩
  refine ⟨_, rfl, ?_⟩
  replace BB := joinB BB B
  replace A := A.keep B
  replace Xg33 := Xg33.keep B
  replace Qk := Qk.keep B
  replace Xg39 := Xg39.keep B
  replace Xg42 := Xg42.keep B
  clear B
  clear Qk
  refine t 78 (.bool false) ?_
  refine t 79 (.bool false) ?_
  refine gl_nil ?_
  refine ge_then ?_
  clear Xg33
  clear Xg39
  clear Xg42
  refine gc_fr [(0, .bool false), (1, pg g0), (79, .bool false)] (by kernel_rfl) ?_
  refine gc_no ?_
  refine gc_skip ?_
  refine ge_then ?_
  refine gc_seq ?_
  refine gc_reg ?_
  refine tr 80 (.agg #[.int .u64 7, .int .i64 12]) (run_bE) ?_
  refine tr 81 (.agg #[.int .u64 8, .int .i64 13]) (run_bE) ?_
  refine ta 8 [.int .u64 0, .int .i64 0] 61 (pg) ?_
  intro v44 g45 Xg45 hg45 B
  have yg45 := Nat.le_trans BB.size hg45
  have zg45 := Nat.le_trans A.size hg45
  have nXg45 := A.new hg45
  replace BB := joinB BB B
  replace A := A.keep B
  clear B
  have lXg45 := Xg45.lt
  refine ta 9 [.int .u64 0, .int .i64 0] 61 (pg) ?_
  intro v46 g47 Xg47 hg47 B
  have yg47 := Nat.le_trans BB.size hg47
  have zg47 := Nat.le_trans A.size hg47
  have nXg47 := A.new hg47
  replace BB := joinB BB B
  replace A := A.keep B
  replace Xg45 := Xg45.keep B
  clear B
  refine ts Xg45 0 (.agg #[.int .u64 7, .int .i64 12]) [.int .u64 7, .int .i64 12] [.int .u64 7, .int .i64 12] ?_
  intro v48 Y C
  replace BB := belowC BB C (by omega)
  replace A := Bk.At.cell A Xg45 C zg45 nXg45 (by decide)
  replace Xg47 := Xg47.chg C (show g47 ≠ g45 by omega)
  clear C Xg45
  have Xg45 := Y
  clear Y
  refine ts Xg47 0 (.agg #[.int .u64 8, .int .i64 13]) [.int .u64 8, .int .i64 13] [.int .u64 8, .int .i64 13] ?_
  intro v49 Y C
  replace BB := belowC BB C (by omega)
  replace A := Bk.At.cell A Xg47 C zg47 nXg47 (by decide)
  replace Xg45 := Xg45.chg C (show g45 ≠ g47 by omega)
  clear C Xg47
  have Xg47 := Y
  clear Y
  refine gl_nil ?_
  refine ge_then ?_
  refine gc_seq ?_
  replace BB := BB.drew
  replace A := A.drew
  replace Xg45 := Xg45.drew
  replace Xg47 := Xg47.drew
  refine gc_draw (fun w' => Blk w' g47 [.int .u64 8, .int .i64 13] 61 ∧ Blk w' g45 [.int .u64 7, .int .i64 12] 61) (fun _ => false) ⟨Xg47, Xg45⟩ ?_
  refine z 0 82 (pg g0) ?_
  refine zlr 2 84 [.int .u64 8, .int .i64 13] (fun _ h => h.1) 0 ?_
  refine zlr 3 85 [.int .u64 7, .int .i64 12] (fun _ h => h.2) 0 ?_
  refine gz_join [0, 1, 2, 3, 4, 5, 6, 7, 9] 29 (fun (_ : Unit) => [(0, .bool false), (1, pg g0), (8, pg g45), (9, pg g47), (88, .bool true), (89, pg g0), (91, .agg #[.int .u64 8, .int .i64 13])]) (fun _ w' => Below w.heap.size w w' ∧ Blk w' g45 [.int .u64 7, .int .i64 12] 61 ∧ Blk w' g47 [.int .u64 8, .int .i64 13] 61 ∧ ∃ K n N, Sx Bz w' K g0 kE4 [] n N ∧ n ≤ 1000 ∧ N ≤ 1000 ∧ ¬ K g45 ∧ ¬ K g47) ?_ ?_
  · intro J50
    refine gz_ready [1, 4] ?_
    have lgn83 := A.sx.sa.lt A.sx.sa.top
    refine ga_call 1 (some 83) 29 #[pg g0, .int .u64 5] (EntF.cast (due_x (E := kE4) A.sx (by decide) kys4 (by omega) (by omega)) kf10) ?_ ?_
    · rintro _ v51 ⟨va, n83, rfl, Ua, S, qn83a, qn83b, qn83c, C⟩
      have hC := C.mono (fun b _ (e : b = g0) => e ▸ A.sx.sa.top)
      replace BB := belowO BB hC (fun b hb => Nat.le_trans hwB (A.sx.kb b hb))
      have mXg45 := not_op Xg45 nXg45 (fun _ h => .inl h)
      replace Xg45 := Xg45.chg hC nXg45
      replace nXg45 := mXg45
      clear mXg45
      have mXg47 := not_op Xg47 nXg47 (fun _ h => .inl h)
      replace Xg47 := Xg47.chg hC nXg47
      replace nXg47 := mXg47
      clear mXg47
      replace A := A.op S (fun _ h => .inl h) hC
      clear S hC C
      refine ⟨_, rfl, ⟨Xg47, Xg45⟩, ?_⟩
      have lXg45 := Xg45.lt
      have lXg47 := Xg47.lt
      refine za 4 86 [.int .u64 8, .int .i64 13, .int .u64 7, .int .i64 12] 61 (sg 2) ?_
      intro v52 g53 Xg53 hg53 B
      have yg53 := Nat.le_trans BB.size hg53
      have zg53 := Nat.le_trans A.size hg53
      have nXg53 := A.new hg53
      replace BB := joinB BB B
      replace A := A.keep B
      replace Xg45 := Xg45.keep B
      replace Xg47 := Xg47.keep B
      replace Ua := Ua.keep B
      clear B
      refine ⟨⟨Xg47, Xg45⟩, ?_⟩
      refine zc 5 87 28 #[va, sg 2 g53] (entries_ea Ua (ea_lit [(8, 13), (7, 12)] Xg53 rfl (Nat.zero_le _) (by decide)) (by decide)) ?_
      rintro _ v54 ⟨rfl, B⟩
      replace BB := joinB BB B
      replace A := A.keep B
      replace Xg45 := Xg45.keep B
      replace Xg47 := Xg47.keep B
      replace Ua := Ua.keep B
      replace Xg53 := Xg53.keep B
      clear B
      clear Ua
      refine ⟨_, rfl, ⟨Xg47, Xg45⟩, ?_⟩
      refine z 6 88 (.bool true) ?_
      refine z 7 89 (pg g0) ?_
      refine zlr 9 91 [.int .u64 8, .int .i64 13] (fun _ h => h.1) 0 ?_
      exact gz_to J50 () ⟨BB, Xg45, Xg47, _, _, _, A.sx, by omega, by omega, nXg45, nXg47⟩
    have lXg45 := Xg45.lt
    have lXg47 := Xg47.lt
    refine zaa 4 86 [.int .u64 8, .int .i64 13, .int .u64 7, .int .i64 12] 61 (sg 2) ?_ ?_
    · intro v55 g56 Xg56 hg56 B
      have yg56 := Nat.le_trans BB.size hg56
      have zg56 := Nat.le_trans A.size hg56
      have nXg56 := A.new hg56
      replace BB := joinB BB B
      replace A := A.keep B
      replace Xg45 := Xg45.keep B
      replace Xg47 := Xg47.keep B
      clear B
      refine ⟨⟨Xg47, Xg45⟩, ?_⟩
      have lgn83 := A.sx.sa.lt A.sx.sa.top
      refine zc 1 83 29 #[pg g0, .int .u64 5] (EntF.cast (due_x (E := kE4) A.sx (by decide) kys4 (by omega) (by omega)) kf10) ?_
      rintro _ v57 ⟨va, n83, rfl, Ua, S, qn83a, qn83b, qn83c, C⟩
      have hC := C.mono (fun b _ (e : b = g0) => e ▸ A.sx.sa.top)
      replace BB := belowO BB hC (fun b hb => Nat.le_trans hwB (A.sx.kb b hb))
      have mXg45 := not_op Xg45 nXg45 (fun _ h => .inl h)
      replace Xg45 := Xg45.chg hC nXg45
      replace nXg45 := mXg45
      clear mXg45
      have mXg47 := not_op Xg47 nXg47 (fun _ h => .inl h)
      replace Xg47 := Xg47.chg hC nXg47
      replace nXg47 := mXg47
      clear mXg47
      have mXg56 := not_op Xg56 nXg56 (fun _ h => .inl h)
      replace Xg56 := Xg56.chg hC nXg56
      replace nXg56 := mXg56
      clear mXg56
      replace A := A.op S (fun _ h => .inl h) hC
      clear S hC C
      refine ⟨_, rfl, ⟨Xg47, Xg45⟩, ?_⟩
      refine zc 5 87 28 #[va, sg 2 g56] (entries_ea Ua (ea_lit [(8, 13), (7, 12)] Xg56 rfl (Nat.zero_le _) (by decide)) (by decide)) ?_
      rintro _ v58 ⟨rfl, B⟩
      replace BB := joinB BB B
      replace A := A.keep B
      replace Xg45 := Xg45.keep B
      replace Xg47 := Xg47.keep B
      replace Xg56 := Xg56.keep B
      replace Ua := Ua.keep B
      clear B
      clear Ua
      refine ⟨_, rfl, ⟨Xg47, Xg45⟩, ?_⟩
      refine z 6 88 (.bool true) ?_
      refine z 7 89 (pg g0) ?_
      refine zlr 9 91 [.int .u64 8, .int .i64 13] (fun _ h => h.1) 0 ?_
      exact gz_to J50 () ⟨BB, Xg45, Xg47, _, _, _, A.sx, by omega, by omega, nXg45, nXg47⟩
    exact ga_nil
  clear BB
  clear A
  clear Xg45 nXg45
  clear Xg47 nXg47
  rintro _ v59 ⟨BB, Xg45, Xg47, Kj60, nj60, Nj60, S, qj60, rj60, nXg45, nXg47⟩
  have A := S.at
  clear S
  refine gz_join [0, 1, 2, 3, 4, 5, 6, 7, 8, 9, 10, 11, 12, 13, 14, 16, 17] 21 (fun (_ : Unit) => [(0, .bool false), (1, pg g0), (9, pg g47), (95, .bool true), (96, pg g0), (98, .agg #[.int .u64 7, .int .i64 12]), (99, .agg #[.int .u64 8, .int .i64 13])]) (fun _ w' => Below w.heap.size w w' ∧ Blk w' g45 [.int .u64 7, .int .i64 12] 61 ∧ Blk w' g47 [.int .u64 8, .int .i64 13] 61 ∧ ∃ K n N, Sx Bz w' K g0 kE4 [] n N ∧ n ≤ 10000 ∧ N ≤ 1000 ∧ ¬ K g45 ∧ ¬ K g47) ?_ ?_
  · intro J61
    refine gz_ready [8, 10] ?_
    have lgn90 := A.sx.sa.lt A.sx.sa.top
    refine ga_call 8 (some 90) 29 #[pg g0, .int .u64 4] (EntF.cast (due_x (E := kE4) A.sx (by decide) kys4 (by omega) (by omega)) kf11) ?_ ?_
    · rintro _ v62 ⟨vb, n90, rfl, Ub, S, qn90a, qn90b, qn90c, C⟩
      have hC := C.mono (fun b _ (e : b = g0) => e ▸ A.sx.sa.top)
      replace BB := belowO BB hC (fun b hb => Nat.le_trans hwB (A.sx.kb b hb))
      have mXg45 := not_op Xg45 nXg45 (fun _ h => .inl h)
      replace Xg45 := Xg45.chg hC nXg45
      replace nXg45 := mXg45
      clear mXg45
      have mXg47 := not_op Xg47 nXg47 (fun _ h => .inl h)
      replace Xg47 := Xg47.chg hC nXg47
      replace nXg47 := mXg47
      clear mXg47
      replace A := A.op S (fun _ h => .inl h) hC
      clear S hC C
      refine ⟨_, rfl, ⟨Xg47, Xg45⟩, ?_⟩
      have lXg45 := Xg45.lt
      have lXg47 := Xg47.lt
      refine za 10 92 [.int .u64 8, .int .i64 13] 61 (sg 1) ?_
      intro v63 g64 Xg64 hg64 B
      have yg64 := Nat.le_trans BB.size hg64
      have zg64 := Nat.le_trans A.size hg64
      have nXg64 := A.new hg64
      replace BB := joinB BB B
      replace A := A.keep B
      replace Xg45 := Xg45.keep B
      replace Xg47 := Xg47.keep B
      replace Ub := Ub.keep B
      clear B
      refine ⟨⟨Xg47, Xg45⟩, ?_⟩
      refine zc 11 93 28 #[vb, sg 1 g64] (entries_ea Ub (ea_lit [(8, 13)] Xg64 rfl (Nat.zero_le _) (by decide)) (by decide)) ?_
      rintro _ v65 ⟨rfl, B⟩
      replace BB := joinB BB B
      replace A := A.keep B
      replace Xg45 := Xg45.keep B
      replace Xg47 := Xg47.keep B
      replace Ub := Ub.keep B
      replace Xg64 := Xg64.keep B
      clear B
      clear Ub
      refine ⟨_, rfl, ⟨Xg47, Xg45⟩, ?_⟩
      refine z 12 94 (.bool true) ?_
      refine z 13 95 (.bool true) ?_
      refine z 14 96 (pg g0) ?_
      refine zlr 16 98 [.int .u64 7, .int .i64 12] (fun _ h => h.2) 0 ?_
      refine zlr 17 99 [.int .u64 8, .int .i64 13] (fun _ h => h.1) 0 ?_
      exact gz_to J61 () ⟨BB, Xg45, Xg47, _, _, _, A.sx, by omega, by omega, nXg45, nXg47⟩
    have lXg45 := Xg45.lt
    have lXg47 := Xg47.lt
    refine zaa 10 92 [.int .u64 8, .int .i64 13] 61 (sg 1) ?_ ?_
    · intro v66 g67 Xg67 hg67 B
      have yg67 := Nat.le_trans BB.size hg67
      have zg67 := Nat.le_trans A.size hg67
      have nXg67 := A.new hg67
      replace BB := joinB BB B
      replace A := A.keep B
      replace Xg45 := Xg45.keep B
      replace Xg47 := Xg47.keep B
      clear B
      refine ⟨⟨Xg47, Xg45⟩, ?_⟩
      have lgn90 := A.sx.sa.lt A.sx.sa.top
      refine zc 8 90 29 #[pg g0, .int .u64 4] (EntF.cast (due_x (E := kE4) A.sx (by decide) kys4 (by omega) (by omega)) kf11) ?_
      rintro _ v68 ⟨vb, n90, rfl, Ub, S, qn90a, qn90b, qn90c, C⟩
      have hC := C.mono (fun b _ (e : b = g0) => e ▸ A.sx.sa.top)
      replace BB := belowO BB hC (fun b hb => Nat.le_trans hwB (A.sx.kb b hb))
      have mXg45 := not_op Xg45 nXg45 (fun _ h => .inl h)
      replace Xg45 := Xg45.chg hC nXg45
      replace nXg45 := mXg45
      clear mXg45
      have mXg47 := not_op Xg47 nXg47 (fun _ h => .inl h)
      replace Xg47 := Xg47.chg hC nXg47
      replace nXg47 := mXg47
      clear mXg47
      have mXg67 := not_op Xg67 nXg67 (fun _ h => .inl h)
      replace Xg67 := Xg67.chg hC nXg67
      replace nXg67 := mXg67
      clear mXg67
      replace A := A.op S (fun _ h => .inl h) hC
      clear S hC C
      refine ⟨_, rfl, ⟨Xg47, Xg45⟩, ?_⟩
      refine zc 11 93 28 #[vb, sg 1 g67] (entries_ea Ub (ea_lit [(8, 13)] Xg67 rfl (Nat.zero_le _) (by decide)) (by decide)) ?_
      rintro _ v69 ⟨rfl, B⟩
      replace BB := joinB BB B
      replace A := A.keep B
      replace Xg45 := Xg45.keep B
      replace Xg47 := Xg47.keep B
      replace Xg67 := Xg67.keep B
      replace Ub := Ub.keep B
      clear B
      clear Ub
      refine ⟨_, rfl, ⟨Xg47, Xg45⟩, ?_⟩
      refine z 12 94 (.bool true) ?_
      refine z 13 95 (.bool true) ?_
      refine z 14 96 (pg g0) ?_
      refine zlr 16 98 [.int .u64 7, .int .i64 12] (fun _ h => h.2) 0 ?_
      refine zlr 17 99 [.int .u64 8, .int .i64 13] (fun _ h => h.1) 0 ?_
      exact gz_to J61 () ⟨BB, Xg45, Xg47, _, _, _, A.sx, by omega, by omega, nXg45, nXg47⟩
    exact ga_nil
  clear BB
  clear A
  clear Xg45 nXg45
  clear Xg47 nXg47
  rintro _ v70 ⟨BB, Xg45, Xg47, Kj71, nj71, Nj71, S, qj71, rj71, nXg45, nXg47⟩
  have A := S.at
  clear S
  refine gz_join [0, 1, 2, 3, 4, 5, 6, 7, 8, 9, 10, 11, 12, 13, 14, 15, 16, 17, 18, 19, 20, 21, 22, 23] 14 (fun (_ : Unit) => [(0, .bool false), (1, pg g0), (9, pg g47), (103, .bool true), (104, pg g0), (105, .agg #[.int .u64 8, .int .i64 12])]) (fun _ w' => Below w.heap.size w w' ∧ Blk w' g45 [.int .u64 7, .int .i64 12] 61 ∧ Blk w' g47 [.int .u64 8, .int .i64 13] 61 ∧ ∃ K n N, Sx Bz w' K g0 kE4 [] n N ∧ n ≤ 100000 ∧ N ≤ 1000 ∧ ¬ K g45 ∧ ¬ K g47) ?_ ?_
  · intro J72
    refine gz_ready [15, 18] ?_
    have lgn97 := A.sx.sa.lt A.sx.sa.top
    refine ga_call 15 (some 97) 30 #[pg g0, .int .u64 16] (EntF.cast (from_x (E := kE4) A.sx (by decide) kys4 (by omega) (by omega)) kf12) ?_ ?_
    · rintro _ v73 ⟨vc, n97, rfl, Uc, S, qn97a, qn97b, qn97c, C⟩
      have hC := C.mono (fun b _ (e : b = g0) => e ▸ A.sx.sa.top)
      replace BB := belowO BB hC (fun b hb => Nat.le_trans hwB (A.sx.kb b hb))
      have mXg45 := not_op Xg45 nXg45 (fun _ h => .inl h)
      replace Xg45 := Xg45.chg hC nXg45
      replace nXg45 := mXg45
      clear mXg45
      have mXg47 := not_op Xg47 nXg47 (fun _ h => .inl h)
      replace Xg47 := Xg47.chg hC nXg47
      replace nXg47 := mXg47
      clear mXg47
      replace A := A.op S (fun _ h => .inl h) hC
      clear S hC C
      refine ⟨_, rfl, ⟨Xg47, Xg45⟩, ?_⟩
      have lXg45 := Xg45.lt
      have lXg47 := Xg47.lt
      refine za 18 100 [.int .u64 7, .int .i64 12, .int .u64 8, .int .i64 13] 61 (sg 2) ?_
      intro v74 g75 Xg75 hg75 B
      have yg75 := Nat.le_trans BB.size hg75
      have zg75 := Nat.le_trans A.size hg75
      have nXg75 := A.new hg75
      replace BB := joinB BB B
      replace A := A.keep B
      replace Xg45 := Xg45.keep B
      replace Xg47 := Xg47.keep B
      replace Uc := Uc.keep B
      clear B
      refine ⟨⟨Xg47, Xg45⟩, ?_⟩
      refine zc 19 101 28 #[vc, sg 2 g75] (entries_ea Uc (ea_lit [(7, 12), (8, 13)] Xg75 rfl (Nat.zero_le _) (by decide)) (by decide)) ?_
      rintro _ v76 ⟨rfl, B⟩
      replace BB := joinB BB B
      replace A := A.keep B
      replace Xg45 := Xg45.keep B
      replace Xg47 := Xg47.keep B
      replace Uc := Uc.keep B
      replace Xg75 := Xg75.keep B
      clear B
      clear Uc
      refine ⟨_, rfl, ⟨Xg47, Xg45⟩, ?_⟩
      refine z 20 102 (.bool true) ?_
      refine z 21 103 (.bool true) ?_
      refine z 22 104 (pg g0) ?_
      refine zr 23 105 (.agg #[.int .u64 8, .int .i64 12]) (fun _ _ => run_bE) ?_
      exact gz_to J72 () ⟨BB, Xg45, Xg47, _, _, _, A.sx, by omega, by omega, nXg45, nXg47⟩
    have lXg45 := Xg45.lt
    have lXg47 := Xg47.lt
    refine zaa 18 100 [.int .u64 7, .int .i64 12, .int .u64 8, .int .i64 13] 61 (sg 2) ?_ ?_
    · intro v77 g78 Xg78 hg78 B
      have yg78 := Nat.le_trans BB.size hg78
      have zg78 := Nat.le_trans A.size hg78
      have nXg78 := A.new hg78
      replace BB := joinB BB B
      replace A := A.keep B
      replace Xg45 := Xg45.keep B
      replace Xg47 := Xg47.keep B
      clear B
      refine ⟨⟨Xg47, Xg45⟩, ?_⟩
      have lgn97 := A.sx.sa.lt A.sx.sa.top
      refine zc 15 97 30 #[pg g0, .int .u64 16] (EntF.cast (from_x (E := kE4) A.sx (by decide) kys4 (by omega) (by omega)) kf12) ?_
      rintro _ v79 ⟨vc, n97, rfl, Uc, S, qn97a, qn97b, qn97c, C⟩
      have hC := C.mono (fun b _ (e : b = g0) => e ▸ A.sx.sa.top)
      replace BB := belowO BB hC (fun b hb => Nat.le_trans hwB (A.sx.kb b hb))
      have mXg45 := not_op Xg45 nXg45 (fun _ h => .inl h)
      replace Xg45 := Xg45.chg hC nXg45
      replace nXg45 := mXg45
      clear mXg45
      have mXg47 := not_op Xg47 nXg47 (fun _ h => .inl h)
      replace Xg47 := Xg47.chg hC nXg47
      replace nXg47 := mXg47
      clear mXg47
      have mXg78 := not_op Xg78 nXg78 (fun _ h => .inl h)
      replace Xg78 := Xg78.chg hC nXg78
      replace nXg78 := mXg78
      clear mXg78
      replace A := A.op S (fun _ h => .inl h) hC
      clear S hC C
      refine ⟨_, rfl, ⟨Xg47, Xg45⟩, ?_⟩
      refine zc 19 101 28 #[vc, sg 2 g78] (entries_ea Uc (ea_lit [(7, 12), (8, 13)] Xg78 rfl (Nat.zero_le _) (by decide)) (by decide)) ?_
      rintro _ v80 ⟨rfl, B⟩
      replace BB := joinB BB B
      replace A := A.keep B
      replace Xg45 := Xg45.keep B
      replace Xg47 := Xg47.keep B
      replace Xg78 := Xg78.keep B
      replace Uc := Uc.keep B
      clear B
      clear Uc
      refine ⟨_, rfl, ⟨Xg47, Xg45⟩, ?_⟩
      refine z 20 102 (.bool true) ?_
      refine z 21 103 (.bool true) ?_
      refine z 22 104 (pg g0) ?_
      refine zr 23 105 (.agg #[.int .u64 8, .int .i64 12]) (fun _ _ => run_bE) ?_
      exact gz_to J72 () ⟨BB, Xg45, Xg47, _, _, _, A.sx, by omega, by omega, nXg45, nXg47⟩
    exact ga_nil
  clear BB
  clear A
  clear Xg45 nXg45
  clear Xg47 nXg47
  rintro _ v81 ⟨BB, Xg45, Xg47, Kj82, nj82, Nj82, S, qj82, rj82, nXg45, nXg47⟩
  have A := S.at
  clear S
  refine zc 24 106 19 #[pg g0, .agg #[.int .u64 8, .int .i64 12]] (SxF.cast (drop_any (E := kE4) A.sx (by decide) (by omega) (by omega)) kf13.2 (congrArg Value.bool kf13.1)) ?_
  rintro _ v87 ⟨rfl, K83, n84, N85, S, qn84, qN85, hK, hC⟩
  replace BB := belowO BB hC (fun b hb => Nat.le_trans hwB (A.sx.kb b hb))
  have mXg45 := not_op Xg45 nXg45 hK
  replace Xg45 := Xg45.chg hC nXg45
  replace nXg45 := mXg45
  clear mXg45
  have mXg47 := not_op Xg47 nXg47 hK
  replace Xg47 := Xg47.chg hC nXg47
  replace nXg47 := mXg47
  clear mXg47
  replace A := A.op S hK hC
  clear S hK hC
  refine ⟨_, rfl, ⟨Xg47, Xg45⟩, ?_⟩
  refine z 25 107 (.bool true) ?_
  refine z 26 108 (.bool true) ?_
  refine z 27 109 (.bool true) ?_
  refine z 28 110 (pg g0) ?_
  refine zlr 29 111 [.int .u64 8, .int .i64 13] (fun _ h => h.1) 0 ?_
  refine zc 30 112 19 #[pg g0, .agg #[.int .u64 8, .int .i64 13]] (SxF.cast (E' := kE5) (drop_any (E := kE4) A.sx (by decide) (by omega) (by omega)) rfl (congrArg Value.bool kf14.1)) ?_
  rintro _ v92 ⟨rfl, K88, n89, N90, S, qn89, qN90, hK, hC⟩
  replace BB := belowO BB hC (fun b hb => Nat.le_trans hwB (A.sx.kb b hb))
  have mXg45 := not_op Xg45 nXg45 hK
  replace Xg45 := Xg45.chg hC nXg45
  replace nXg45 := mXg45
  clear mXg45
  have mXg47 := not_op Xg47 nXg47 hK
  replace Xg47 := Xg47.chg hC nXg47
  replace nXg47 := mXg47
  clear mXg47
  replace A := A.op S hK hC
  clear S hK hC
  refine ⟨_, rfl, ⟨Xg47, Xg45⟩, ?_⟩
  refine z 31 113 (.bool true) ?_
  refine z 32 114 (.bool true) ?_
  refine z 33 115 (pg g0) ?_
  refine zc 34 116 24 #[pg g0, .int .u64 20, .int .u64 16] (SxE.cast (E := kE5) (count_get A.sx (by decide) (by omega) (by omega)) rfl (congrArg (Value.int .u64) kf14.2)) ?_
  rintro _ v94 ⟨rfl, K93, S, hK, hC⟩
  replace BB := belowO BB hC (fun b hb => Nat.le_trans hwB (A.sx.kb b hb))
  have mXg45 := not_op Xg45 nXg45 hK
  replace Xg45 := Xg45.chg hC nXg45
  replace nXg45 := mXg45
  clear mXg45
  have mXg47 := not_op Xg47 nXg47 hK
  replace Xg47 := Xg47.chg hC nXg47
  replace nXg47 := mXg47
  clear mXg47
  replace A := A.op S hK hC
  clear S hK hC
  refine ⟨_, rfl, ⟨Xg47, Xg45⟩, ?_⟩
  refine z 35 117 (.bool true) ?_
  refine z 36 118 (.bool true) ?_
  refine z 37 0 (.bool true) ?_
  refine gz_done ?_
  refine ge_then ?_
  refine gc_fr [(0, .bool true)] (by kernel_rfl) ?_
  refine gc_ret ?_
  refine ge_ret (.bool true) (rs1 0 (by kernel_rfl) (by kernel_rfl)) ?_
  exact ⟨rfl, BB⟩
end Qu
end Go.Proofs.YtidnifmehnjipaaGreat
