/- Several texts, joined: QuV. -/
import Derived.Test.YtidnifmehnjipaaGreatJaw
import Derived.Test.YtidnifmehnjipaaGreatJar
namespace Go.Proofs.YtidnifmehnjipaaGreat
namespace Qu
open Go.RowKit Go.Lib Pg Lim Gl Kv Bk Pw
attribute [local go_sem] Oper.semAt_some
set_option maxRecDepth 100000
set_option linter.unusedVariables false
set_option linter.unusedSimpArgs false
set_option maxHeartbeats 2000000
theorem rscc {P : Program} {n : Nat} {w : World} {l : Fr} {fn : Func} (j k : Nat) {T U : TypeId} {g g' : Nat} {u v : Value} (h : fn.results = #[.cell j T, .cell k U]) (hu : lk l j = some (.pointer (some ⟨g, 0, none⟩))) (hv : lk l k = some (.pointer (some ⟨g', 0, none⟩))) (hl : (loadVar T ⟨g, 0, none⟩).run P w = .ok u w) (hl' : (loadVar U ⟨g', 0, none⟩).run P w = .ok v w) (a : Act) (r : Rd n [] l a) : (results fn a.tmps).run P w = .ok (.tuple #[u, v]) w := by
  have h1 := r.gD hu
  have h2 := r.gD hv
  simp at h1 h2
  simp [results, h, h1, h2, asAddr, hl, hl']
theorem run_cvI {ρ : Operand → Value} {w : World} {o : Oper} {x : Int} (ho : ∃ u, o.op = .convert 22 3 u ∧ ρ u = .int .u64 x := by exact ⟨_, rfl, by kernel_rfl⟩) : (execOp ρ o).run Tryz.prog w = .ok (.value (.int .i64 (wrap64 x))) w := by
  obtain ⟨u, h, h1⟩ := ho
  simp only [execOp, h, h1]
  go_simp
  rw [IntKind.wrap_i64]
  unfold wrap64
  rfl
theorem run_cvK {ρ : Operand → Value} {w : World} {o : Oper} {x k : Int} (hx : wrap64 x = k) (ho : ∃ u, o.op = .convert 22 3 u ∧ ρ u = .int .u64 x := by exact ⟨_, rfl, by kernel_rfl⟩) : (execOp ρ o).run Tryz.prog w = .ok (.value (.int .i64 k)) w := by
  subst hx
  exact run_cvI ho
theorem run_bE {ρ : Operand → Value} {w : World} {o : Oper} {x y : Int} (ho : ∃ u v, o.op = .build 61 #[(0, u), (1, v)] ∧ ρ u = .int .u64 x ∧ ρ v = .int .i64 y := by exact ⟨_, _, rfl, by kernel_rfl, by kernel_rfl⟩) : (execOp ρ o).run Tryz.prog w = .ok (.value (.agg #[.int .u64 x, .int .i64 y])) w := by
  obtain ⟨u, v, h, h1, h2⟩ := ho
  simp only [execOp, h, h1, h2]
  go_simp
theorem run_nqE {ρ : Operand → Value} {w : World} {o : Oper} {x y x' y' : Int} (h1 : x = x') (h2 : y = y') (ho : ∃ u v, o.op = .binOp .neq 61 u v 61 ∧ ρ u = .agg #[.int .u64 x, .int .i64 y] ∧ ρ v = .agg #[.int .u64 x', .int .i64 y'] := by exact ⟨_, _, rfl, by kernel_rfl, by kernel_rfl⟩) : (execOp ρ o).run Tryz.prog w = .ok (.value (.bool false)) w := by
  obtain ⟨u, v, h, e1, e2⟩ := ho
  subst h1 h2
  simp only [execOp, h, e1, e2]
  go_simp
theorem run_eqE {ρ : Operand → Value} {w : World} {o : Oper} {x y x' y' : Int} {b : Bool} (hb : decide (x = x' ∧ y = y') = b) (ho : ∃ u v, o.op = .binOp .eql 61 u v 61 ∧ ρ u = .agg #[.int .u64 x, .int .i64 y] ∧ ρ v = .agg #[.int .u64 x', .int .i64 y'] := by exact ⟨_, _, rfl, by kernel_rfl, by kernel_rfl⟩) : (execOp ρ o).run Tryz.prog w = .ok (.value (.bool b)) w := by
  obtain ⟨u, v, h, e1, e2⟩ := ho
  subst hb
  simp only [execOp, h, e1, e2]
  by_cases h1 : x = x' <;> by_cases h2 : y = y' <;> (go_simp; try simp [h1, h2])
theorem ld_en {w : World} {g o : Nat} {a b : Value} (c0 : w.cell? ⟨g, o, none⟩ = some a) (c1 : w.cell? ⟨g, o + 1, none⟩ = some b) : (loadVar 61 ⟨g, o, none⟩).run Tryz.prog w = .ok (.agg #[a, b]) w := by go_simp
theorem run_ldE {ρ : Operand → Value} {o : Oper} {w : World} {b off : Nat} {x y : Value} (c0 : w.cell? ⟨b, off, none⟩ = some x) (c1 : w.cell? ⟨b, off + 1, none⟩ = some y) (ho : ∃ p, o.op = .load 61 p ∧ ρ p = .pointer (some ⟨b, off, none⟩) := by exact ⟨_, rfl, by kernel_rfl⟩) : (execOp ρ o).run Tryz.prog w = .ok (.value (.agg #[x, y])) w := by
  obtain ⟨p, h, hp⟩ := ho
  have := ld_en c0 c1
  simp only [execOp, h, hp]
  simp [Instr.loadAt, Instr.sureAddr, Result.andThen, this]
theorem ld_pr {w : World} {g o : Nat} {a b : Value} (c0 : w.cell? ⟨g, o, none⟩ = some a) (c1 : w.cell? ⟨g, o + 1, none⟩ = some b) : (loadVar 96 ⟨g, o, none⟩).run Tryz.prog w = .ok (.agg #[a, b]) w := by go_simp
theorem run_ldP {ρ : Operand → Value} {o : Oper} {w : World} {b off : Nat} {x y : Value} (c0 : w.cell? ⟨b, off, none⟩ = some x) (c1 : w.cell? ⟨b, off + 1, none⟩ = some y) (ho : ∃ p, o.op = .load 96 p ∧ ρ p = .pointer (some ⟨b, off, none⟩) := by exact ⟨_, rfl, by kernel_rfl⟩) : (execOp ρ o).run Tryz.prog w = .ok (.value (.agg #[x, y])) w := by
  obtain ⟨p, h, hp⟩ := ho
  have := ld_pr c0 c1
  simp only [execOp, h, hp]
  simp [Instr.loadAt, Instr.sureAddr, Result.andThen, this]
theorem run_apE {ρ : Operand → Value} {w w' : World} {o : Oper} {u v r : Value} (hr : (Builtin.append_ #[74, 74] 74 #[u, v]).run Tryz.prog w = .ok r w') (ho : ∃ x y, o.op = .call { callee := .builtin .append, args := #[x, y], argTypes := #[74, 74] } ∧ o.type = 74 ∧ ρ x = u ∧ ρ y = v := by exact ⟨_, _, rfl, rfl, by kernel_rfl, by kernel_rfl⟩) : (execOp ρ o).run Tryz.prog w = .ok (.value r) w' := by
  obtain ⟨x, y, h, ht, h1, h2⟩ := ho
  unfold execOp
  simp only [h, ht, resolve, invoke, builtin, Sem.run_bind, Sem.run_pure, Result.andThen_ok, List.map_toArray, List.map_cons, List.map_nil, h1, h2, hr]
theorem EA.cells {w : World} {B : Nat} {a : Option Addr} {n c : Nat} {l : List (Int × Int)} (h : EA w B (.slice a n c) l) : n = l.length ∧ ∃ pb, (0 < n → a = some ⟨pb, 0, none⟩) ∧ ∀ i, i < n → w.cell? ⟨pb, 0 + i * 2, none⟩ = some (.int .u64 (l.getD i (0, 0)).1) ∧ w.cell? ⟨pb, 0 + i * 2 + 1, none⟩ = some (.int .i64 (l.getD i (0, 0)).2) := by
  have key : ∀ (l : List (Int × Int)) (i : Nat), i < l.length → (ecl l)[i * 2]? = some (.int .u64 (l.getD i (0, 0)).1) ∧ (ecl l)[i * 2 + 1]? = some (.int .i64 (l.getD i (0, 0)).2) := by
    intro l
    induction l with
    | nil => intro i h; simp at h
    | cons p l ih =>
      intro i h
      match i with
      | 0 => exact ⟨rfl, rfl⟩
      | i + 1 =>
        have := ih i (by simpa using h)
        have e : ecl (p :: l) = .int .u64 p.1 :: .int .i64 p.2 :: ecl l := rfl
        rw [e, show (i + 1) * 2 = i * 2 + 1 + 1 by omega]
        simpa using this
  rcases h.ex with ⟨e, rfl⟩ | ⟨b, c', e, _, hR⟩
  · cases e
    exact ⟨rfl, 0, fun h => by omega, fun i h => by omega⟩
  · cases e
    refine ⟨rfl, b, fun _ => rfl, fun i hi => ?_⟩
    rw [Nat.zero_add]
    exact ⟨hR.cell (key l i hi).1, hR.cell (key l i hi).2⟩
theorem ea_lit {w : World} {g B : Nat} {cs : List Value} (l : List (Int × Int)) (X : Blk w g cs 61) (e : cs = ecl l) (hB : B ≤ g) (hl : l.length ≤ 1000000) : EA w B (sg l.length g) l := by
  subst e
  exact ⟨.inr ⟨g, l.length, rfl, hB, ⟨[], by simpa using X, ecl_len l, by simpa using ecl_len l, Nat.le_refl _, Nat.le_trans hl (by decide)⟩⟩⟩
theorem entries_at {w : World} {a a' : Option Addr} {n c c' pb pb' : Nat} {xs ks : Nat → Int} (hn : n ≤ 9000000000000000000) (ha : 0 < n → a = some ⟨pb, 0, none⟩) (ha' : 0 < n → a' = some ⟨pb', 0, none⟩) (hc : ∀ i, i < n → w.cell? ⟨pb, 0 + i * 2, none⟩ = some (.int .u64 (xs i)) ∧ w.cell? ⟨pb, 0 + i * 2 + 1, none⟩ = some (.int .i64 (ks i))) (hc' : ∀ i, i < n → w.cell? ⟨pb', 0 + i * 2, none⟩ = some (.int .u64 (xs i)) ∧ w.cell? ⟨pb', 0 + i * 2 + 1, none⟩ = some (.int .i64 (ks i))) : Calls Tryz.prog 28 #[.slice a n c, .slice a' n c'] w fun e w' => e = .returned (.bool true) ∧ Below w.heap.size w w' := by
  have BB := Below.refl w.heap.size w
  refine gc_enter (n := 26) Tryz.func28 rfl (by kernel_rfl) (by kernel_rfl) ?_
  refine gc_seq ?_
  refine gc_reg ?_
  refine t 4 (.bool false) ?_
  refine gl_nil ?_
  refine ge_then ?_
  refine gc_seq ?_
  refine gc_seq ?_
  refine gc_reg ?_
  refine t 6 (.slice a n c) ?_
  refine t 7 (.int .i64 ((n : Nat) : Int)) ?_
  refine t 8 (.slice a' n c') ?_
  refine t 9 (.int .i64 ((n : Nat) : Int)) ?_
  refine tq 10 (.bool (((n : Nat) : Int) != ((n : Nat) : Int))) (.bool false) (congrArg Value.bool (bne_self_eq_false _)) ?_
  refine gl_nil ?_
  refine ge_then ?_
  refine gc_no ?_
  refine gc_skip ?_
  refine ge_then ?_
  refine gc_seq ?_
  refine gc_seq ?_
  refine gc_reg ?_
  refine t 5 (.int .i64 0) ?_
  refine gl_nil ?_
  refine ge_then ?_
  refine gc_block ?_
  refine gc_loop (fun s => n - s) (fun (s : Nat) => [(0, .slice a n c), (1, .slice a' n c'), (5, .int .i64 (s : Int))]) (fun s w' => s ≤ n ∧ Below w.heap.size w w') (0 : Nat) ⟨Nat.zero_le _, BB⟩ (by kernel_rfl) ?_
  clear BB
  rintro i v1 ⟨hi, BB⟩
  refine gc_seq ?_
  refine gc_seq ?_
  refine gc_reg ?_
  refine t 11 (.int .i64 (i : Int)) ?_
  refine t 12 (.slice a n c) ?_
  refine t 13 (.int .i64 ((n : Nat) : Int)) ?_
  by_cases ci : (i : Int) < ((n : Nat) : Int)
  · have hk_i : i < n := by omega
    refine tq 14 (.bool (decide ((i : Int) < ((n : Nat) : Int)))) (.bool true) (congrArg Value.bool (decide_eq_true ci)) ?_
    refine gl_nil ?_
    refine ge_then ?_
    refine gc_yes ?_
    refine gc_skip ?_
    refine ge_then ?_
    refine gc_seq ?_
    refine gc_block ?_
    refine gc_seq ?_
    replace BB := BB.drew
    refine gc_draw (fun w' => Below w.heap.size w w') (fun _ => false) BB ?_
    refine z 0 17 (.slice a n c) ?_
    refine z 1 18 (.int .i64 (i : Int)) ?_
    refine zr 2 19 (pq pb (0 + i * 2)) (fun _ h => run_ixa 2 pb 0 n c i hk_i ha) ?_
    refine zr 3 20 (.agg #[.int .u64 (xs i), .int .i64 (ks i)]) (fun _ h => run_ldE (cellB h (hc i hk_i).1) (cellB h (hc i hk_i).2)) ?_
    refine z 4 21 (.slice a' n c') ?_
    refine z 5 22 (.int .i64 (i : Int)) ?_
    refine zr 6 23 (pq pb' (0 + i * 2)) (fun _ h => run_ixa 2 pb' 0 n c' i hk_i ha') ?_
    refine zr 7 24 (.agg #[.int .u64 (xs i), .int .i64 (ks i)]) (fun _ h => run_ldE (cellB h (hc' i hk_i).1) (cellB h (hc' i hk_i).2)) ?_
    refine zr 8 25 (.bool false) (fun _ _ => run_nqE (x := xs i) (y := ks i) (x' := xs i) (y' := ks i) rfl rfl) ?_
    refine gz_done ?_
    refine ge_then ?_
    refine gc_fr [(0, .slice a n c), (1, .slice a' n c'), (5, .int .i64 (i : Int)), (11, .int .i64 (i : Int)), (12, .slice a n c), (13, .int .i64 ((n : Nat) : Int)), (14, .bool true), (17, .slice a n c), (18, .int .i64 (i : Int)), (19, pq pb (0 + i * 2)), (20, .agg #[.int .u64 (xs i), .int .i64 (ks i)]), (21, .slice a' n c'), (22, .int .i64 (i : Int)), (23, pq pb' (0 + i * 2)), (24, .agg #[.int .u64 (xs i), .int .i64 (ks i)]), (25, .bool false)] (by kernel_rfl) ?_
    refine gc_no ?_
    refine gc_skip ?_
    refine ge_bn ?_
    refine ge_then ?_
    refine gc_reg ?_
    refine t 15 (.int .i64 (i : Int)) ?_
    refine tq 16 (.int .i64 (IntKind.i64.wrap ((i : Int) + 1))) (.int .i64 ((i : Int) + 1)) (wi (by omega)) ?_
    refine t 5 (.int .i64 ((i : Int) + 1)) ?_
    refine gl_nil ?_
    exact ge_round (i + 1) (by show n - (i + 1) < n - i; omega) ⟨hk_i, BB⟩ (by kernel_rfl)
  · refine tq 14 (.bool (decide ((i : Int) < ((n : Nat) : Int)))) (.bool false) (congrArg Value.bool (decide_eq_false ci)) ?_
    refine gl_nil ?_
    refine ge_then ?_
    refine gc_no ?_
    refine gc_exit ?_
    refine ge_tx ?_
    refine ge_tx ?_
    refine ge_bx ?_
    refine ge_then ?_
    refine gc_seq ?_
    refine gc_reg ?_
    refine t 4 (.bool true) ?_
    refine gl_nil ?_
    refine ge_then ?_
    refine gc_ret ?_
    refine ge_ret (.bool true) (rs1 4 (by kernel_rfl) (by kernel_rfl)) ?_
    exact ⟨rfl, BB⟩
theorem entries_ea {w : World} {B B' : Nat} {u v : Value} {l : List (Int × Int)} (h : EA w B u l) (h' : EA w B' v l) (hl : l.length ≤ 9000000000000000000) : Calls Tryz.prog 28 #[u, v] w fun e w' => e = .returned (.bool true) ∧ Below w.heap.size w w' := by
  obtain ⟨a, c, rfl⟩ := h.shape
  obtain ⟨a', c', rfl⟩ := h'.shape
  obtain ⟨_, pb, h1, h2⟩ := h.cells
  obtain ⟨_, pb', h1', h2'⟩ := h'.cells
  exact entries_at hl h1 h1' h2 h2'
theorem cnt_take {l : List (Int × Int)} {i : Nat} {a b : Int} (hi : i < l.length) : (l.take (i + 1)).count (a, b) = (l.take i).count (a, b) + if (l.getD i (0, 0)).1 = a ∧ (l.getD i (0, 0)).2 = b then 1 else 0 := by
  rw [List.take_add_one, List.getElem?_eq_getElem hi, List.count_append]
  have e : l.getD i (0, 0) = l[i] := by simp [List.getD, hi]
  rw [e]
  by_cases h : l[i].1 = a ∧ l[i].2 = b
  · rw [if_pos h]
    have : l[i] = (a, b) := by rw [← h.1, ← h.2]
    rw [this]
    simp
  · rw [if_neg h]
    have : l[i] ≠ (a, b) := fun q => h (by rw [q]; exact ⟨rfl, rfl⟩)
    simp [this]
theorem nSameQ {w : World} {a a' : Option Addr} {n c n' c' : Nat} {x : Int} (h : NatO w a n c x) (h' : NatO w a' n' c' x) (hn : n ≤ 1000000) (hn' : n' ≤ 1000000) : Calls Tryz.prog 118 #[.slice a n c, .slice a' n' c'] w fun e w' => e = .returned (.bool true) ∧ Below w.heap.size w w' := by
  have t := nSame h h' (by omega) (by omega)
  rw [decide_eq_true (show x = x from rfl)] at t
  exact t
theorem dec_same {w : World} {a a' : Option Addr} {n c n' c' : Nat} {x : Int} (h : NatO w a n c x) (h' : NatO w a' n' c' x) (hn : n ≤ 1000000) (hn' : n' ≤ 1000000) : Calls Tryz.prog 68 #[.agg #[.slice a n c], .agg #[.slice a' n' c']] w fun e w' => e = .returned (.bool true) ∧ Below w.heap.size w w' := by
  have BB := Below.refl w.heap.size w
  refine gc_enter (n := 10) Tryz.func68 rfl (by kernel_rfl) (by kernel_rfl) ?_
  refine gc_seq ?_
  refine gc_reg ?_
  refine ta 2 [.slice a n c] 46 (pg) ?_
  intro v1 g2 Xg2 hg2 B
  replace BB := joinB BB B
  replace h := h.keep B
  replace h' := h'.keep B
  clear B
  refine ta 3 [.slice a' n' c'] 46 (pg) ?_
  intro v3 g4 Xg4 hg4 B
  replace BB := joinB BB B
  replace h := h.keep B
  replace h' := h'.keep B
  replace Xg2 := Xg2.keep B
  clear B
  refine t 4 (.bool false) ?_
  refine gl_nil ?_
  refine ge_then ?_
  refine gc_seq ?_
  refine gc_reg ?_
  refine t 5 (pg g2) ?_
  refine tl 6 (.slice a n c) Xg2 0 ?_
  refine t 7 (pg g4) ?_
  refine tl 8 (.slice a' n' c') Xg4 0 ?_
  refine tc 9 118 #[.slice a n c, .slice a' n' c'] (nSameQ h h' hn hn') ?_
  rintro _ v5 ⟨rfl, B⟩
  refine ⟨_, rfl, ?_⟩
  replace BB := joinB BB B
  replace h := h.keep B
  replace h' := h'.keep B
  replace Xg2 := Xg2.keep B
  replace Xg4 := Xg4.keep B
  clear B
  refine t 4 (.bool true) ?_
  refine gl_nil ?_
  refine ge_then ?_
  refine gc_ret ?_
  refine ge_ret (.bool true) (rs1 4 (by kernel_rfl) (by kernel_rfl)) ?_
  exact ⟨rfl, BB⟩
theorem move_same {w : World} {x0 x1 x2 x3 x4 x5 : Int} {a a' : Option Addr} {n c n' c' : Nat} {x : Int} (h : NatO w a n c x) (h' : NatO w a' n' c' x) (hn : n ≤ 1000000) (hn' : n' ≤ 1000000) : Calls Tryz.prog 27 #[.agg #[.int .u64 x0, .int .u64 x1, .int .u64 x2, .int .u64 x3, .int .u64 x4, .int .u64 x5, .slice a n c], .agg #[.int .u64 x0, .int .u64 x1, .int .u64 x2, .int .u64 x3, .int .u64 x4, .int .u64 x5, .slice a' n' c']] w fun e w' => e = .returned (.bool true) ∧ Below w.heap.size w w' := by
  have BB := Below.refl w.heap.size w
  refine gc_enter (n := 52) Tryz.func27 rfl (by kernel_rfl) (by kernel_rfl) ?_
  refine gc_seq ?_
  refine gc_reg ?_
  refine ta 2 [.int .u64 x0, .int .u64 x1, .int .u64 x2, .int .u64 x3, .int .u64 x4, .int .u64 x5, .slice a n c] 48 (pg) ?_
  intro v1 g2 Xg2 hg2 B
  replace BB := joinB BB B
  replace h := h.keep B
  replace h' := h'.keep B
  clear B
  refine ta 3 [.int .u64 x0, .int .u64 x1, .int .u64 x2, .int .u64 x3, .int .u64 x4, .int .u64 x5, .slice a' n' c'] 48 (pg) ?_
  intro v3 g4 Xg4 hg4 B
  replace BB := joinB BB B
  replace h := h.keep B
  replace h' := h'.keep B
  replace Xg2 := Xg2.keep B
  clear B
  refine t 4 (.bool false) ?_
  refine gl_nil ?_
  refine ge_then ?_
  refine gc_seq ?_
  refine gc_reg ?_
  refine t 5 (pg g2) ?_
  refine tl 6 (.int .u64 x0) Xg2 0 ?_
  refine t 7 (pg g4) ?_
  refine tl 8 (.int .u64 x0) Xg4 0 ?_
  refine tq 9 (.bool ((x0 : Int) == x0)) (.bool true) (congrArg Value.bool (beq_self_eq_true _)) ?_
  refine t 10 (.bool true) ?_
  refine t 11 (pq g2 1) ?_
  refine tl 12 (.int .u64 x1) Xg2 1 ?_
  refine t 13 (pq g4 1) ?_
  refine tl 14 (.int .u64 x1) Xg4 1 ?_
  refine tq 15 (.bool ((x1 : Int) == x1)) (.bool true) (congrArg Value.bool (beq_self_eq_true _)) ?_
  refine t 16 (.bool true) ?_
  refine t 17 (.bool true) ?_
  refine t 18 (pq g2 2) ?_
  refine tl 19 (.int .u64 x2) Xg2 2 ?_
  refine t 20 (pq g4 2) ?_
  refine tl 21 (.int .u64 x2) Xg4 2 ?_
  refine tq 22 (.bool ((x2 : Int) == x2)) (.bool true) (congrArg Value.bool (beq_self_eq_true _)) ?_
  refine t 23 (.bool true) ?_
  refine t 24 (.bool true) ?_
  refine t 25 (pq g2 3) ?_
  refine tl 26 (.int .u64 x3) Xg2 3 ?_
  refine t 27 (pq g4 3) ?_
  refine tl 28 (.int .u64 x3) Xg4 3 ?_
  refine tq 29 (.bool ((x3 : Int) == x3)) (.bool true) (congrArg Value.bool (beq_self_eq_true _)) ?_
  refine t 30 (.bool true) ?_
  refine t 31 (.bool true) ?_
  refine t 32 (pq g2 4) ?_
  refine tl 33 (.int .u64 x4) Xg2 4 ?_
  refine t 34 (pq g4 4) ?_
  refine tl 35 (.int .u64 x4) Xg4 4 ?_
  refine tq 36 (.bool ((x4 : Int) == x4)) (.bool true) (congrArg Value.bool (beq_self_eq_true _)) ?_
  refine t 37 (.bool true) ?_
  refine t 38 (.bool true) ?_
  refine t 39 (pq g2 5) ?_
  refine tl 40 (.int .u64 x5) Xg2 5 ?_
  refine t 41 (pq g4 5) ?_
  refine tl 42 (.int .u64 x5) Xg4 5 ?_
  refine tq 43 (.bool ((x5 : Int) == x5)) (.bool true) (congrArg Value.bool (beq_self_eq_true _)) ?_
  refine t 44 (.bool true) ?_
  refine t 45 (.bool true) ?_
  refine t 46 (pq g2 6) ?_
  refine tlr 47 [.slice a n c] Xg2 6 ?_
  refine t 48 (pq g4 6) ?_
  refine tlr 49 [.slice a' n' c'] Xg4 6 ?_
  refine tc 50 68 #[.agg #[.slice a n c], .agg #[.slice a' n' c']] (dec_same h h' hn hn') ?_
  rintro _ v5 ⟨rfl, B⟩
  refine ⟨_, rfl, ?_⟩
  replace BB := joinB BB B
  replace h := h.keep B
  replace h' := h'.keep B
  replace Xg2 := Xg2.keep B
  replace Xg4 := Xg4.keep B
  clear B
  refine t 51 (.bool true) ?_
  refine t 4 (.bool true) ?_
  refine gl_nil ?_
  refine ge_then ?_
  refine gc_fr [(4, .bool true)] (by kernel_rfl) ?_
  refine gc_ret ?_
  refine ge_ret (.bool true) (rs1 4 (by kernel_rfl) (by kernel_rfl)) ?_
  exact ⟨rfl, BB⟩
end Qu
end Go.Proofs.YtidnifmehnjipaaGreat
