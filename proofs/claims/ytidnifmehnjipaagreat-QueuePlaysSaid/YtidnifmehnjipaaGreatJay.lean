/- Several texts, joined: KyRk. -/
import Derived.Test.YtidnifmehnjipaaGreatJal
import Derived.Test.YtidnifmehnjipaaGreatJat
namespace Go.Proofs.YtidnifmehnjipaaGreat
namespace Ks
open Go.RowKit Go.Lib Pg Gl
attribute [local go_sem] Oper.semAt_some
set_option maxRecDepth 100000
set_option linter.unusedVariables false
set_option linter.unusedSimpArgs false
set_option maxHeartbeats 2000000
theorem rform_b {w : World} {k : Int} {N m0 m1 : Int} (h : Ky.frm k = (N, m0, m1)) : Calls Tryz.prog 88 #[.int .i64 k] w fun e w' => e = .returned (.tuple #[.int .u8 m0, .int .i64 (N / 8), .int .u8 m1]) ∧ Below w.heap.size w w' := by
  refine (Ky.rform_any (k := k)).mono ?_
  rw [h]
  rintro e w' ⟨rfl, rfl⟩
  exact ⟨rfl, Below.refl _ _⟩
theorem frm_k (k : Nat) (h : k < 18) (h0 : 1 ≤ k) : ∃ N m0 m1 : Int, Ky.frm k = (N, m0, m1) ∧ ((N = 1 ∧ m1 = 0) ∨ (N = 9 ∧ m1 = 0) ∨ (N = 10 ∧ m1 ≠ 0) ∨ (N = 17 ∧ m1 = 0) ∨ (N = 18 ∧ m1 ≠ 0)) := ⟨_, _, _, rfl, Ky.frm_form k h h0⟩
theorem bv8 {l : List Int} (ho : Oct l) : 0 ≤ Ky.bv ((l.drop 1).take 8) ∧ Ky.bv ((l.drop 1).take 8) < 18446744073709551616 := by
  exact Ky.bv_u64 (fun x hx => ho x (List.mem_of_mem_drop (List.mem_of_mem_take hx))) (by rw [List.length_take]; omega)
theorem rdB_17 {l : List Int} (hl : l.length = 17) : Ky.bv (((l.drop 1).drop 8).take 8) = Ky.rdB l := by
  rw [Ky.rdB, if_pos (by omega), hl, List.drop_drop, List.take_of_length_le (by rw [List.length_drop]; omega)]
theorem rmk17 {w : World} {k : Nat} {N m0 m1 : Int} {l : List Int} (ho : Oct l) (hN : N = 17) (hfk : Ky.frm k = (N, m0, m1)) : Calls Tryz.prog 37 #[.agg #[.int .i64 (k : Int), .int .u64 (Ky.rdA k l), .int .u64 (Ky.rdB l)]] w fun e w' => ∃ ao n c, e = .returned (.tuple #[.slice ao n c, .int .i64 0]) ∧ By w' (.slice ao n c) (Ky.mk k (Ky.rdA k l) (Ky.rdB l)) ∧ Below w.heap.size w w' := by
  have r := Ky.rdA_u64 (k := k) ho
  refine (Ky.rmake_any (w := w) (b := Ky.rdB l) r.1 r.2).mono ?_
  rw [show Ky.mkE k (Ky.rdA k l) (Ky.rdB l) = false by unfold Ky.mkE; rw [hfk, hN]; simp]
  rintro e w' ⟨v, rfl, O, b⟩
  obtain ⟨ao, c, rfl⟩ := Ky.OB.sh O
  exact ⟨ao, _, c, rfl, O.by, b⟩
theorem run_s1 {ρ : Operand → Value} {w : World} {op : Oper} {b o c : Nat} (hc : 17 ≤ c) (ho : ∃ x, op.op = .slice 36 x (some (.const (.int .i64 1))) none none ∧ ρ x = .slice (some ⟨b, o, none⟩) 17 c ∧ ρ (.const (.int .i64 1)) = .int .i64 1 := by exact ⟨_, rfl, by kernel_rfl, by kernel_rfl⟩) : (execOp ρ op).run Tryz.prog w = .ok (.value (.slice (some ⟨b, o + 1, none⟩) 16 (c - 1))) w := by
  obtain ⟨x, h, hx, h1⟩ := ho
  have h2 : ¬ ((c : Int) = 1) := by omega
  have h3 : (17 : Int) ≤ c := by omega
  have h4 : ¬ ((c : Int) < 17) := by omega
  simp only [execOp, h, hx, h1]
  go_simp
  omega
theorem found17 {k r : Nat} {l : List Int} (e : k = r) (hr1 : r < 18) (hr0 : 0 < r) (ho : Oct l) (hf : Ky.frm r = Ky.fIn l) : decide (Ky.mk k (Ky.rdA k l) (Ky.rdB l) = l) = true := by
  subst e
  exact decide_eq_true (Ky.fIn_mk hr1 hr0 ho hf)
theorem miss17 {k r : Nat} {N m0 m1 : Int} {l : List Int} (e : k ≠ r) (hk1 : 1 ≤ k) (hk : k < 18) (ho : Oct l) (hfk : Ky.frm k = (N, m0, m1)) (hN : N = 17) (hl : l.length = 17) (hf : Ky.frm r = Ky.fIn l) (hun : ∀ k : Nat, k < 18 → Ky.frm k = Ky.frm r → k = r) : decide (Ky.mk k (Ky.rdA k l) (Ky.rdB l) = l) = false :=
  decide_eq_false fun h => e (hun k hk ((Ky.mk_fIn hk hk1 ho (by rw [hfk, hN, hl]; rfl) h).trans hf.symm))
theorem rread17 {w : World} {b o c r : Nat} {l : List Int} (h : By w (.slice (some ⟨b, o, none⟩) 17 c) l) (hr1 : r < 18) (hr0 : 0 < r) (hf : Ky.frm r = Ky.fIn l) (hun : ∀ k : Nat, k < 18 → Ky.frm k = Ky.frm r → k = r) : Calls Tryz.prog 157 #[.slice (some ⟨b, o, none⟩) 17 c] w fun e w' => e = .returned (.tuple #[.agg #[.int .i64 (r : Int), .int .u64 (Ky.rdA r l), .int .u64 (Ky.rdB l)], .int .i64 0]) ∧ Below w.heap.size w w' := by
  have hl : l.length = 17 := (Ky.By.lens h).1
  have hN17 : ∀ {k : Nat} {N m0 m1 : Int}, Ky.frm k = (N, m0, m1) → k = r → ¬ N = 17 → False := fun {k N m0 m1} h1 e h2 => by
    subst e
    rw [h1] at hf
    have h3 := congrArg Prod.fst hf
    unfold Ky.fIn at h3
    simp only [hl] at h3
    exact h2 h3
  have BB := Below.refl w.heap.size w
  have hc := (Ky.By.lens h).2.1
  have hcm := (Ky.By.lens h).2.2
  refine gc_enter (n := 70) Tryz.func157 rfl (by kernel_rfl) (by kernel_rfl) ?_
  refine gc_seq ?_
  refine gc_reg ?_
  refine ta 2 [.int .i64 0, .int .u64 0, .int .u64 0] 90 (pg) ?_
  intro v1 g2 Xg2 hg2 B
  have yg2 := Nat.le_trans BB.size hg2
  skip
  replace BB := joinB BB B
  clear B
  refine t 3 (.int .i64 0) ?_
  refine gl_nil ?_
  refine ge_then ?_
  refine gc_seq ?_
  refine gc_seq ?_
  refine gc_reg ?_
  refine t 4 (.int .i64 1) ?_
  refine gl_nil ?_
  refine ge_then ?_
  refine gc_block ?_
  refine gc_loop (fun s => 18 - s) (fun (s : Nat) => [(0, .slice (some ⟨b, o, none⟩) 17 c), (2, pg g2), (3, .int .i64 0), (4, .int .i64 (s : Int))]) (fun s w' => 1 ≤ s ∧ s ≤ r ∧ Below w.heap.size w w' ∧ Blk w' g2 [.int .i64 0, .int .u64 0, .int .u64 0] 90) (1 : Nat) ⟨Nat.le_refl _, hr0, BB, Xg2⟩ (by kernel_rfl) ?_
  clear BB
  clear Xg2
  rintro k v3 ⟨hk1, hkr, BB, Xg2⟩
  obtain ⟨N, m0, m1, hfk, hNk⟩ := frm_k k (by omega) hk1
  have hwv := BB.size
  have lg := Xg2.lt
  refine gc_seq ?_
  refine gc_seq ?_
  refine gc_reg ?_
  refine t 13 (.int .i64 (k : Int)) ?_
  have c4 : (k : Int) ≤ 17 := by omega
  refine tq 14 (.bool (decide ((k : Int) ≤ 17))) (.bool true) (congrArg Value.bool (decide_eq_true c4)) ?_
  refine gl_nil ?_
  refine ge_then ?_
  refine gc_yes ?_
  refine gc_skip ?_
  refine ge_then ?_
  refine gc_seq ?_
  refine gc_block ?_
  refine gc_seq ?_
  refine gc_reg ?_
  refine t 18 (.int .i64 (k : Int)) ?_
  refine tc 19 88 #[.int .i64 (k : Int)] (rform_b hfk) ?_
  rintro _ v5 ⟨rfl, B⟩
  refine ⟨_, rfl, ?_⟩
  replace BB := joinB BB B
  replace Xg2 := Xg2.keep B
  clear B
  refine t 17 (.tuple #[.int .u8 m0, .int .i64 (N / 8), .int .u8 m1]) ?_
  refine t 20 (.int .u8 m0) ?_
  refine t 21 (.int .i64 (N / 8)) ?_
  refine t 22 (.int .u8 m1) ?_
  refine t 5 (.int .u8 m0) ?_
  refine t 6 (.int .i64 (N / 8)) ?_
  refine t 7 (.int .u8 m1) ?_
  refine gl_nil ?_
  refine ge_then ?_
  refine gc_seq ?_
  refine gc_reg ?_
  refine t 23 (.int .i64 (N / 8)) ?_
  refine tq 24 (.int .i64 (IntKind.i64.wrap (8 * (N / 8)))) (.int .i64 (8 * (N / 8))) (wi (by omega)) ?_
  refine tq 25 (.int .i64 (IntKind.i64.wrap (1 + (8 * (N / 8))))) (.int .i64 (1 + (8 * (N / 8)))) (wi (by omega)) ?_
  refine t 8 (.int .i64 (1 + (8 * (N / 8)))) ?_
  refine gl_nil ?_
  refine ge_then ?_
  refine gc_fr [(0, .slice (some ⟨b, o, none⟩) 17 c), (2, pg g2), (3, .int .i64 0), (4, .int .i64 (k : Int)), (6, .int .i64 (N / 8)), (7, .int .u8 m1), (8, .int .i64 (1 + (8 * (N / 8)))), (13, .int .i64 (k : Int)), (14, .bool true), (17, .tuple #[.int .u8 m0, .int .i64 (N / 8), .int .u8 m1]), (18, .int .i64 (k : Int)), (19, .tuple #[.int .u8 m0, .int .i64 (N / 8), .int .u8 m1]), (20, .int .u8 m0), (21, .int .i64 (N / 8)), (22, .int .u8 m1), (23, .int .i64 (N / 8)), (24, .int .i64 (8 * (N / 8))), (25, .int .i64 (1 + (8 * (N / 8))))] (by kernel_rfl) ?_
  refine gc_seq ?_
  refine gc_seq ?_
  refine gc_reg ?_
  refine t 26 (.int .u8 m1) ?_
  by_cases hN : N = 17
  · have c6 : (m1 : Int) = 0 := by omega
    refine tq 27 (.bool ((m1 : Int) != 0)) (.bool false) (congrArg Value.bool (bne_eq_false_iff_eq.2 c6)) ?_
    refine gl_nil ?_
    refine ge_then ?_
    refine gc_no ?_
    refine gc_skip ?_
    refine ge_then ?_
    refine gc_seq ?_
    refine gc_seq ?_
    refine gc_reg ?_
    refine t 30 (.slice (some ⟨b, o, none⟩) 17 c) ?_
    refine t 31 (.int .i64 17) ?_
    refine t 32 (.int .i64 (1 + (8 * (N / 8)))) ?_
    have c7 : (17 : Int) = 1 + (8 * (N / 8)) := by omega
    refine tq 33 (.bool ((17 : Int) != 1 + (8 * (N / 8)))) (.bool false) (congrArg Value.bool (bne_eq_false_iff_eq.2 c7)) ?_
    refine gl_nil ?_
    refine ge_then ?_
    refine gc_no ?_
    refine gc_skip ?_
    refine ge_then ?_
    refine gc_seq ?_
    refine gc_reg ?_
    refine t 34 (.int .i64 (k : Int)) ?_
    refine t 35 (.agg #[.int .i64 (k : Int), .int .u64 0, .int .u64 0]) ?_
    have lXg2 := Xg2.lt
    refine ta 9 [.int .i64 0, .int .u64 0, .int .u64 0] 90 (pg) ?_
    intro v8 g9 Xg9 hg9 B
    have yg9 := Nat.le_trans BB.size hg9
    have lXg2g9 := Xg2.lt
    replace BB := joinB BB B
    replace Xg2 := Xg2.keep B
    clear B
    refine ts Xg9 0 (.agg #[.int .i64 (k : Int), .int .u64 0, .int .u64 0]) [.int .i64 (k : Int), .int .u64 0, .int .u64 0] [.int .i64 (k : Int), .int .u64 0, .int .u64 0] ?_
    intro v10 Y C
    replace BB := belowC BB C (by omega)
    replace Xg2 := Xg2.chg C (show g2 ≠ g9 by omega)
    clear C Xg9
    have Xg9 := Y
    clear Y
    refine gl_nil ?_
    refine ge_then ?_
    refine gc_seq ?_
    refine gc_reg ?_
    refine t 36 (.slice (some ⟨b, o, none⟩) 17 c) ?_
    refine tr 37 (.slice (some ⟨b, o + 1, none⟩) 16 (c - 1)) (run_s1 hc) ?_
    refine t 38 (.agg #[.slice (some ⟨b, o + 1, none⟩) 16 (c - 1), .int .i64 0]) ?_
    have lXg2 := Xg2.lt
    have lXg9 := Xg9.lt
    refine ta 39 [.slice (some ⟨b, o + 1, none⟩) 16 (c - 1), .int .i64 0] 243 (pg) ?_
    intro v11 g12 Xg12 hg12 B
    have yg12 := Nat.le_trans BB.size hg12
    have lXg2g12 := Xg2.lt
    have lXg9g12 := Xg9.lt
    replace BB := joinB BB B
    replace Xg2 := Xg2.keep B
    replace Xg9 := Xg9.keep B
    clear B
    refine t 10 (pg g12) ?_
    refine gl_nil ?_
    refine ge_then ?_
    refine gc_fr [(0, .slice (some ⟨b, o, none⟩) 17 c), (2, pg g2), (3, .int .i64 0), (4, .int .i64 (k : Int)), (6, .int .i64 (N / 8)), (7, .int .u8 m1), (8, .int .i64 (1 + (8 * (N / 8)))), (9, pg g9), (10, pg g12), (13, .int .i64 (k : Int)), (14, .bool true), (17, .tuple #[.int .u8 m0, .int .i64 (N / 8), .int .u8 m1]), (18, .int .i64 (k : Int)), (19, .tuple #[.int .u8 m0, .int .i64 (N / 8), .int .u8 m1]), (20, .int .u8 m0), (21, .int .i64 (N / 8)), (22, .int .u8 m1), (23, .int .i64 (N / 8)), (24, .int .i64 (8 * (N / 8))), (25, .int .i64 (1 + (8 * (N / 8)))), (26, .int .u8 m1), (27, .bool false), (30, .slice (some ⟨b, o, none⟩) 17 c), (31, .int .i64 17), (32, .int .i64 (1 + (8 * (N / 8)))), (33, .bool false), (34, .int .i64 (k : Int)), (35, .agg #[.int .i64 (k : Int), .int .u64 0, .int .u64 0]), (36, .slice (some ⟨b, o, none⟩) 17 c), (37, .slice (some ⟨b, o + 1, none⟩) 16 (c - 1)), (38, .agg #[.slice (some ⟨b, o + 1, none⟩) 16 (c - 1), .int .i64 0]), (39, pg g12)] (by kernel_rfl) ?_
    refine gc_seq ?_
    refine gc_seq ?_
    refine gc_reg ?_
    refine t 40 (.int .i64 (N / 8)) ?_
    have c13 : (0 : Int) < N / 8 := by omega
    refine tq 41 (.bool (decide ((0 : Int) < N / 8))) (.bool true) (congrArg Value.bool (decide_eq_true c13)) ?_
    refine gl_nil ?_
    refine ge_then ?_
    refine gc_yes ?_
    refine gc_reg ?_
    refine t 42 (pg g12) ?_
    refine tc 43 146 #[pg g12, .int .i64 8] (Ky.rU_got (m := 8) (Ky.By.drop h 1 (by decide)) BB (by omega) Xg12 (by decide) (by decide)) ?_
    rintro _ v14 ⟨rfl, Y, C⟩
    refine ⟨_, rfl, ?_⟩
    replace BB := belowC BB C (by omega)
    replace Xg2 := Xg2.chg C (show g2 ≠ g12 by omega)
    replace Xg9 := Xg9.chg C (show g9 ≠ g12 by omega)
    replace Xg12 := Y (by omega)
    clear Y C
    refine t 44 (pq g9 1) ?_
    refine ts Xg9 1 (.int .u64 (Ky.bv ((l.drop 1).take 8))) [.int .u64 (Ky.bv ((l.drop 1).take 8))] [.int .i64 (k : Int), .int .u64 (Ky.bv ((l.drop 1).take 8)), .int .u64 0] ?_
    intro v15 Y C
    replace BB := belowC BB C (by omega)
    replace Xg2 := Xg2.chg C (show g2 ≠ g9 by omega)
    replace Xg12 := Xg12.chg C (show g12 ≠ g9 by omega)
    clear C Xg9
    have Xg9 := Y
    clear Y
    refine gl_nil ?_
    refine ge_then ?_
    refine gc_seq ?_
    refine gc_seq ?_
    refine gc_reg ?_
    refine t 45 (.int .u8 m1) ?_
    have c16 : (m1 : Int) = 0 := by omega
    refine tq 46 (.bool ((m1 : Int) != 0)) (.bool false) (congrArg Value.bool (bne_eq_false_iff_eq.2 c16)) ?_
    refine gl_nil ?_
    refine ge_then ?_
    refine gc_no ?_
    refine gc_skip ?_
    refine ge_then ?_
    refine gc_seq ?_
    refine gc_seq ?_
    refine gc_reg ?_
    refine t 49 (.int .i64 (N / 8)) ?_
    have c17 : (1 : Int) < N / 8 := by omega
    refine tq 50 (.bool (decide ((1 : Int) < N / 8))) (.bool true) (congrArg Value.bool (decide_eq_true c17)) ?_
    refine gl_nil ?_
    refine ge_then ?_
    refine gc_yes ?_
    refine gc_reg ?_
    refine t 51 (pg g12) ?_
    refine tc 52 146 #[pg g12, .int .i64 8] (Ky.rU_got (m := 8) (Ky.By.drop (Ky.By.drop h 1 (by decide)) 8 (by decide)) BB (by omega) Xg12 (by decide) (by decide)) ?_
    rintro _ v18 ⟨rfl, -, C⟩
    refine ⟨_, rfl, ?_⟩
    replace BB := belowC BB C (by omega)
    replace Xg2 := Xg2.chg C (show g2 ≠ g12 by omega)
    replace Xg9 := Xg9.chg C (show g9 ≠ g12 by omega)
    clear Xg12 C
    refine t 53 (pq g9 2) ?_
    refine ts Xg9 2 (.int .u64 (Ky.bv (((l.drop 1).drop 8).take 8))) [.int .u64 (Ky.bv (((l.drop 1).drop 8).take 8))] [.int .i64 (k : Int), .int .u64 (Ky.bv ((l.drop 1).take 8)), .int .u64 (Ky.bv (((l.drop 1).drop 8).take 8))] ?_
    intro v19 Y C
    replace BB := belowC BB C (by omega)
    replace Xg2 := Xg2.chg C (show g2 ≠ g9 by omega)
    clear C Xg9
    have Xg9 := Y
    clear Y
    refine gl_nil ?_
    refine ge_then ?_
    refine gc_fr [(0, .slice (some ⟨b, o, none⟩) 17 c), (2, pg g2), (3, .int .i64 0), (4, .int .i64 (k : Int)), (6, .int .i64 (N / 8)), (7, .int .u8 m1), (8, .int .i64 (1 + (8 * (N / 8)))), (9, pg g9), (10, pg g12), (13, .int .i64 (k : Int)), (14, .bool true), (17, .tuple #[.int .u8 m0, .int .i64 (N / 8), .int .u8 m1]), (18, .int .i64 (k : Int)), (19, .tuple #[.int .u8 m0, .int .i64 (N / 8), .int .u8 m1]), (20, .int .u8 m0), (21, .int .i64 (N / 8)), (22, .int .u8 m1), (23, .int .i64 (N / 8)), (24, .int .i64 (8 * (N / 8))), (25, .int .i64 (1 + (8 * (N / 8)))), (26, .int .u8 m1), (27, .bool false), (30, .slice (some ⟨b, o, none⟩) 17 c), (31, .int .i64 17), (32, .int .i64 (1 + (8 * (N / 8)))), (33, .bool false), (34, .int .i64 (k : Int)), (35, .agg #[.int .i64 (k : Int), .int .u64 0, .int .u64 0]), (36, .slice (some ⟨b, o, none⟩) 17 c), (37, .slice (some ⟨b, o + 1, none⟩) 16 (c - 1)), (38, .agg #[.slice (some ⟨b, o + 1, none⟩) 16 (c - 1), .int .i64 0]), (39, pg g12), (40, .int .i64 (N / 8)), (41, .bool true), (42, pg g12), (43, .int .u64 (Ky.bv ((l.drop 1).take 8))), (44, pq g9 1), (45, .int .u8 m1), (46, .bool false), (49, .int .i64 (N / 8)), (50, .bool true), (51, pg g12), (52, .int .u64 (Ky.bv (((l.drop 1).drop 8).take 8))), (53, pq g9 2)] (by kernel_rfl) ?_
    refine gc_join (fun (_ : Unit) => [(0, .slice (some ⟨b, o, none⟩) 17 c), (2, pg g2), (3, .int .i64 0), (4, .int .i64 (k : Int)), (9, pg g9)]) (fun _ w' => Below w.heap.size w w' ∧ Blk w' g2 [.int .i64 0, .int .u64 0, .int .u64 0] 90 ∧ Blk w' g9 [.int .i64 (k : Int), .int .u64 (Ky.rdA k l), .int .u64 (Ky.rdB l)] 90) ?_ ?_
    · refine gc_seq ?_
      refine gc_reg ?_
      refine t 54 (.int .i64 (k : Int)) ?_
      by_cases c20 : (k : Int) = 10
      · refine tq 55 (.bool ((k : Int) == 10)) (.bool true) (congrArg Value.bool (beq_iff_eq.2 c20)) ?_
        refine gl_nil ?_
        refine ge_then ?_
        refine gc_yes ?_
        refine gc_reg ?_
        refine t 56 (pq g9 1) ?_
        refine tl 57 (.int .u64 (Ky.bv ((l.drop 1).take 8))) Xg9 1 ?_
        refine tq 58 (.int .u64 (IntKind.u64.wrap (18446744073709551615 - (Ky.bv ((l.drop 1).take 8))))) (.int .u64 (18446744073709551615 - (Ky.bv ((l.drop 1).take 8)))) (wu (by have := bv8 h.oct; omega)) ?_
        refine t 59 (pq g9 1) ?_
        refine ts Xg9 1 (.int .u64 (18446744073709551615 - (Ky.bv ((l.drop 1).take 8)))) [.int .u64 (18446744073709551615 - (Ky.bv ((l.drop 1).take 8)))] [.int .i64 (k : Int), .int .u64 (18446744073709551615 - (Ky.bv ((l.drop 1).take 8))), .int .u64 (Ky.bv (((l.drop 1).drop 8).take 8))] ?_
        intro v21 Y C
        replace BB := belowC BB C (by omega)
        replace Xg2 := Xg2.chg C (show g2 ≠ g9 by omega)
        clear C Xg9
        have Xg9 := Y
        clear Y
        refine gl_nil ?_
        have EA : Ky.rdA k l = (18446744073709551615 - (Ky.bv ((l.drop 1).take 8))) := by rw [Ky.rdA, if_pos (by omega)]; unfold Ky.tn; rw [if_pos c20]
        rw [← EA, rdB_17 hl] at Xg9
        exact ge_join () ⟨BB, Xg2, Xg9⟩ (by kernel_rfl)
      · refine tq 55 (.bool ((k : Int) == 10)) (.bool false) (congrArg Value.bool (beq_eq_false_iff_ne.2 c20)) ?_
        refine gl_nil ?_
        refine ge_then ?_
        refine gc_no ?_
        refine gc_skip ?_
        have EA : Ky.rdA k l = (Ky.bv ((l.drop 1).take 8)) := by rw [Ky.rdA, if_pos (by omega)]; unfold Ky.tn; rw [if_neg c20]
        rw [← EA, rdB_17 hl] at Xg9
        exact ge_join () ⟨BB, Xg2, Xg9⟩ (by kernel_rfl)
    clear BB
    clear Xg2
    clear Xg9
    rintro _ v22 ⟨BB, Xg2, Xg9⟩
    refine gc_seq ?_
    refine gc_reg ?_
    refine tlr 61 [.int .i64 (k : Int), .int .u64 (Ky.rdA k l), .int .u64 (Ky.rdB l)] Xg9 0 ?_
    refine tc 62 37 #[.agg #[.int .i64 (k : Int), .int .u64 (Ky.rdA k l), .int .u64 (Ky.rdB l)]] (rmk17 h.oct hN hfk) ?_
    rintro _ v23 ⟨am, nm, cm, rfl, O8, B⟩
    refine ⟨_, rfl, ?_⟩
    replace BB := joinB BB B
    replace Xg2 := Xg2.keep B
    replace Xg9 := Xg9.keep B
    clear B
    refine t 60 (.tuple #[.slice am nm cm, .int .i64 0]) ?_
    refine t 63 (.slice am nm cm) ?_
    refine t 64 (.int .i64 0) ?_
    refine t 11 (.slice am nm cm) ?_
    refine t 12 (.int .i64 0) ?_
    refine gl_nil ?_
    refine ge_then ?_
    refine gc_seq ?_
    refine gc_reg ?_
    refine t 65 (.slice am nm cm) ?_
    refine t 66 (.slice (some ⟨b, o, none⟩) 17 c) ?_
    by_cases c24 : k = r
    · refine tc 67 61 #[.slice am nm cm, .slice (some ⟨b, o, none⟩) 17 c] (Ky.bytes_is O8 (h.keep BB) (Nat.le_trans (Ky.mk_len _ _ _) (by decide)) (by omega) (r := true) (found17 c24 hr1 hr0 h.oct hf)) ?_
      rintro _ v25 ⟨rfl, B⟩
      refine ⟨_, rfl, ?_⟩
      replace BB := joinB BB B
      replace Xg2 := Xg2.keep B
      replace Xg9 := Xg9.keep B
      replace O8 := By.keep O8 B
      clear B
      clear O8
      refine gl_nil ?_
      refine ge_then ?_
      refine gc_yes ?_
      refine gc_seq ?_
      refine gc_reg ?_
      refine tlr 68 [.int .i64 (k : Int), .int .u64 (Ky.rdA k l), .int .u64 (Ky.rdB l)] Xg9 0 ?_
      refine ts Xg2 0 (.agg #[.int .i64 (k : Int), .int .u64 (Ky.rdA k l), .int .u64 (Ky.rdB l)]) [.int .i64 (k : Int), .int .u64 (Ky.rdA k l), .int .u64 (Ky.rdB l)] [.int .i64 (k : Int), .int .u64 (Ky.rdA k l), .int .u64 (Ky.rdB l)] ?_
      intro v26 Y C
      replace BB := belowC BB C (by omega)
      replace Xg9 := Xg9.chg C (show g9 ≠ g2 by omega)
      clear C Xg2
      have Xg2 := Y
      clear Y
      refine t 3 (.int .i64 0) ?_
      refine gl_nil ?_
      refine ge_then ?_
      refine gc_fr [(0, .slice (some ⟨b, o, none⟩) 17 c), (2, pg g2), (3, .int .i64 0), (4, .int .i64 (k : Int)), (9, pg g9), (11, .slice am nm cm), (60, .tuple #[.slice am nm cm, .int .i64 0]), (61, .agg #[.int .i64 (k : Int), .int .u64 (Ky.rdA k l), .int .u64 (Ky.rdB l)]), (62, .tuple #[.slice am nm cm, .int .i64 0]), (63, .slice am nm cm), (64, .int .i64 0), (65, .slice am nm cm), (66, .slice (some ⟨b, o, none⟩) 17 c), (67, .bool true), (68, .agg #[.int .i64 (k : Int), .int .u64 (Ky.rdA k l), .int .u64 (Ky.rdB l)])] (by kernel_rfl) ?_
      refine gc_ret ?_
      refine ge_br ?_
      refine ge_tr ?_
      refine ge_tr ?_
      refine ge_br ?_
      refine ge_tr ?_
      refine ge_ret (.tuple #[.agg #[.int .i64 (k : Int), .int .u64 (Ky.rdA k l), .int .u64 (Ky.rdB l)], .int .i64 0]) (rsct 2 3 (T := 90) (by kernel_rfl) (by kernel_rfl) (by kernel_rfl) (lr Xg2 0)) ?_
      obtain rfl : k = r := c24
      exact ⟨rfl, BB⟩
    · refine tc 67 61 #[.slice am nm cm, .slice (some ⟨b, o, none⟩) 17 c] (Ky.bytes_is O8 (h.keep BB) (Nat.le_trans (Ky.mk_len _ _ _) (by decide)) (by omega) (r := false) (miss17 c24 hk1 (by omega) h.oct hfk hN hl hf hun)) ?_
      rintro _ v27 ⟨rfl, B⟩
      refine ⟨_, rfl, ?_⟩
      replace BB := joinB BB B
      replace Xg2 := Xg2.keep B
      replace Xg9 := Xg9.keep B
      replace O8 := By.keep O8 B
      clear B
      clear O8
      refine gl_nil ?_
      refine ge_then ?_
      refine gc_no ?_
      refine gc_skip ?_
      refine ge_bn ?_
      refine ge_then ?_
      refine gc_reg ?_
      refine t 15 (.int .i64 (k : Int)) ?_
      refine tq 16 (.int .i64 (IntKind.i64.wrap ((k : Int) + 1))) (.int .i64 ((k : Int) + 1)) (wi (by omega)) ?_
      refine t 4 (.int .i64 ((k : Int) + 1)) ?_
      refine gl_nil ?_
      have hne : k ≠ r := c24
      exact ge_round (k + 1) (by show 18 - (k + 1) < 18 - k; omega) ⟨by omega, by omega, BB, Xg2⟩ (by kernel_rfl)
  · by_cases c28 : (m1 : Int) = 0
    · refine tq 27 (.bool ((m1 : Int) != 0)) (.bool false) (congrArg Value.bool (bne_eq_false_iff_eq.2 c28)) ?_
      refine gl_nil ?_
      refine ge_then ?_
      refine gc_no ?_
      refine gc_skip ?_
      refine ge_then ?_
      refine gc_seq ?_
      refine gc_seq ?_
      refine gc_reg ?_
      refine t 30 (.slice (some ⟨b, o, none⟩) 17 c) ?_
      refine t 31 (.int .i64 17) ?_
      refine t 32 (.int .i64 (1 + (8 * (N / 8)))) ?_
      have c29 : ¬ ((17 : Int) = 1 + (8 * (N / 8))) := by omega
      refine tq 33 (.bool ((17 : Int) != 1 + (8 * (N / 8)))) (.bool true) (congrArg Value.bool (bne_iff_ne.2 c29)) ?_
      refine gl_nil ?_
      refine ge_then ?_
      refine gc_yes ?_
      refine gc_exit ?_
      refine ge_tx ?_
      refine ge_bx ?_
      refine ge_then ?_
      refine gc_reg ?_
      refine t 15 (.int .i64 (k : Int)) ?_
      refine tq 16 (.int .i64 (IntKind.i64.wrap ((k : Int) + 1))) (.int .i64 ((k : Int) + 1)) (wi (by omega)) ?_
      refine t 4 (.int .i64 ((k : Int) + 1)) ?_
      refine gl_nil ?_
      have hne : k ≠ r := fun e => hN17 hfk e hN
      exact ge_round (k + 1) (by show 18 - (k + 1) < 18 - k; omega) ⟨by omega, by omega, BB, Xg2⟩ (by kernel_rfl)
    · refine tq 27 (.bool ((m1 : Int) != 0)) (.bool true) (congrArg Value.bool (bne_iff_ne.2 c28)) ?_
      refine gl_nil ?_
      refine ge_then ?_
      refine gc_yes ?_
      refine gc_reg ?_
      refine t 28 (.int .i64 (1 + (8 * (N / 8)))) ?_
      refine tq 29 (.int .i64 (IntKind.i64.wrap ((1 + (8 * (N / 8))) + 1))) (.int .i64 ((1 + (8 * (N / 8))) + 1)) (wi (by omega)) ?_
      refine t 8 (.int .i64 ((1 + (8 * (N / 8))) + 1)) ?_
      refine gl_nil ?_
      refine ge_then ?_
      refine gc_seq ?_
      refine gc_seq ?_
      refine gc_reg ?_
      refine t 30 (.slice (some ⟨b, o, none⟩) 17 c) ?_
      refine t 31 (.int .i64 17) ?_
      refine t 32 (.int .i64 ((1 + (8 * (N / 8))) + 1)) ?_
      have c30 : ¬ ((17 : Int) = (1 + (8 * (N / 8))) + 1) := by omega
      refine tq 33 (.bool ((17 : Int) != (1 + (8 * (N / 8))) + 1)) (.bool true) (congrArg Value.bool (bne_iff_ne.2 c30)) ?_
      refine gl_nil ?_
      refine ge_then ?_
      refine gc_yes ?_
      refine gc_exit ?_
      refine ge_tx ?_
      refine ge_bx ?_
      refine ge_then ?_
      refine gc_reg ?_
      refine t 15 (.int .i64 (k : Int)) ?_
      refine tq 16 (.int .i64 (IntKind.i64.wrap ((k : Int) + 1))) (.int .i64 ((k : Int) + 1)) (wi (by omega)) ?_
      refine t 4 (.int .i64 ((k : Int) + 1)) ?_
      refine gl_nil ?_
      have hne : k ≠ r := fun e => hN17 hfk e hN
      exact ge_round (k + 1) (by show 18 - (k + 1) < 18 - k; omega) ⟨by omega, by omega, BB, Xg2⟩ (by kernel_rfl)
end Ks
end Go.Proofs.YtidnifmehnjipaaGreat
