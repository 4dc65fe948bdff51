/- Several texts, joined: QuV, QuW, QuX, QuY. -/
import Derived.Test.YtliajmpchofiiaaGreatJau
import Derived.Test.YtliajmpchofiiaaGreatJap
import Derived.Test.YtliajmpchofiiaaGreatJar
import Derived.Test.YtliajmpchofiiaaGreatJan
namespace Go.Proofs.YtliajmpchofiiaaGreat
namespace Qu
open Go.RowKit Go.Lib Pg Lim Gl Kv Bk Pw
attribute [local go_sem] Oper.semAt_some
set_option maxRecDepth 100000
set_option linter.unusedVariables false
set_option linter.unusedSimpArgs false
set_option maxHeartbeats 2000000
theorem rscc {P : Program} {n : Nat} {w : World} {l : Fr} {fn : Func} (j k : Nat) {T U : TypeId} {g g' : Nat} {u v : Value} (h : fn.results = #[.cell j T, .cell k U]) (hu : lk l j = some (.pointer (some ⟨g, 0, none⟩))) (hv : lk l k = some (.pointer (some ⟨g', 0, none⟩))) (hl : (loadVar T ⟨g, 0, none⟩).run P w = .ok u w) (hl' : (loadVar U ⟨g', 0, none⟩).run P w = .ok v w) (a : Act) (r : Rd n [] l a) : (results fn a.tmps).run P w = .ok (.tuple #[u, v]) w := by
  have h1 := r.gD hu
  have h2 := r.gD hv
  simp at h1 h2
  simp [results, h, h1, h2, asAddr, hl, hl']
theorem run_cvI {ρ : Operand → Value} {w : World} {o : Oper} {x : Int} (ho : ∃ u, o.op = .convert 27 3 u ∧ ρ u = .int .u64 x := by exact ⟨_, rfl, by kernel_rfl⟩) : (execOp ρ o).run Tryz.prog w = .ok (.value (.int .i64 (wrap64 x))) w := by
  obtain ⟨u, h, h1⟩ := ho
  simp only [execOp, h, h1]
  go_simp
  rw [IntKind.wrap_i64]
  unfold wrap64
  rfl
theorem run_cvK {ρ : Operand → Value} {w : World} {o : Oper} {x k : Int} (hx : wrap64 x = k) (ho : ∃ u, o.op = .convert 27 3 u ∧ ρ u = .int .u64 x := by exact ⟨_, rfl, by kernel_rfl⟩) : (execOp ρ o).run Tryz.prog w = .ok (.value (.int .i64 k)) w := by
  subst hx
  exact run_cvI ho
theorem run_bE {ρ : Operand → Value} {w : World} {o : Oper} {x y : Int} (ho : ∃ u v, o.op = .build 64 #[(0, u), (1, v)] ∧ ρ u = .int .u64 x ∧ ρ v = .int .i64 y := by exact ⟨_, _, rfl, by kernel_rfl, by kernel_rfl⟩) : (execOp ρ o).run Tryz.prog w = .ok (.value (.agg #[.int .u64 x, .int .i64 y])) w := by
  obtain ⟨u, v, h, h1, h2⟩ := ho
  simp only [execOp, h, h1, h2]
  go_simp
theorem run_nqE {ρ : Operand → Value} {w : World} {o : Oper} {x y x' y' : Int} (h1 : x = x') (h2 : y = y') (ho : ∃ u v, o.op = .binOp .neq 64 u v 64 ∧ ρ u = .agg #[.int .u64 x, .int .i64 y] ∧ ρ v = .agg #[.int .u64 x', .int .i64 y'] := by exact ⟨_, _, rfl, by kernel_rfl, by kernel_rfl⟩) : (execOp ρ o).run Tryz.prog w = .ok (.value (.bool false)) w := by
  obtain ⟨u, v, h, e1, e2⟩ := ho
  subst h1 h2
  simp only [execOp, h, e1, e2]
  go_simp
theorem run_eqE {ρ : Operand → Value} {w : World} {o : Oper} {x y x' y' : Int} {b : Bool} (hb : decide (x = x' ∧ y = y') = b) (ho : ∃ u v, o.op = .binOp .eql 64 u v 64 ∧ ρ u = .agg #[.int .u64 x, .int .i64 y] ∧ ρ v = .agg #[.int .u64 x', .int .i64 y'] := by exact ⟨_, _, rfl, by kernel_rfl, by kernel_rfl⟩) : (execOp ρ o).run Tryz.prog w = .ok (.value (.bool b)) w := by
  obtain ⟨u, v, h, e1, e2⟩ := ho
  subst hb
  simp only [execOp, h, e1, e2]
  by_cases h1 : x = x' <;> by_cases h2 : y = y' <;> (go_simp; try simp [h1, h2])
theorem ld_en {w : World} {g o : Nat} {a b : Value} (c0 : w.cell? ⟨g, o, none⟩ = some a) (c1 : w.cell? ⟨g, o + 1, none⟩ = some b) : (loadVar 64 ⟨g, o, none⟩).run Tryz.prog w = .ok (.agg #[a, b]) w := by go_simp
theorem run_ldE {ρ : Operand → Value} {o : Oper} {w : World} {b off : Nat} {x y : Value} (c0 : w.cell? ⟨b, off, none⟩ = some x) (c1 : w.cell? ⟨b, off + 1, none⟩ = some y) (ho : ∃ p, o.op = .load 64 p ∧ ρ p = .pointer (some ⟨b, off, none⟩) := by exact ⟨_, rfl, by kernel_rfl⟩) : (execOp ρ o).run Tryz.prog w = .ok (.value (.agg #[x, y])) w := by
  obtain ⟨p, h, hp⟩ := ho
  have := ld_en c0 c1
  simp only [execOp, h, hp]
  simp [Instr.loadAt, Instr.sureAddr, Result.andThen, this]
theorem ld_pr {w : World} {g o : Nat} {a b : Value} (c0 : w.cell? ⟨g, o, none⟩ = some a) (c1 : w.cell? ⟨g, o + 1, none⟩ = some b) : (loadVar 110 ⟨g, o, none⟩).run Tryz.prog w = .ok (.agg #[a, b]) w := by go_simp
theorem run_ldP {ρ : Operand → Value} {o : Oper} {w : World} {b off : Nat} {x y : Value} (c0 : w.cell? ⟨b, off, none⟩ = some x) (c1 : w.cell? ⟨b, off + 1, none⟩ = some y) (ho : ∃ p, o.op = .load 110 p ∧ ρ p = .pointer (some ⟨b, off, none⟩) := by exact ⟨_, rfl, by kernel_rfl⟩) : (execOp ρ o).run Tryz.prog w = .ok (.value (.agg #[x, y])) w := by
  obtain ⟨p, h, hp⟩ := ho
  have := ld_pr c0 c1
  simp only [execOp, h, hp]
  simp [Instr.loadAt, Instr.sureAddr, Result.andThen, this]
theorem run_apE {ρ : Operand → Value} {w w' : World} {o : Oper} {u v r : Value} (hr : (Builtin.append_ #[70, 70] 70 #[u, v]).run Tryz.prog w = .ok r w') (ho : ∃ x y, o.op = .call { callee := .builtin .append, args := #[x, y], argTypes := #[70, 70] } ∧ o.type = 70 ∧ ρ x = u ∧ ρ y = v := by exact ⟨_, _, rfl, rfl, by kernel_rfl, by kernel_rfl⟩) : (execOp ρ o).run Tryz.prog w = .ok (.value r) w' := by
  obtain ⟨x, y, h, ht, h1, h2⟩ := ho
  unfold execOp
  simp only [h, ht, resolve, invoke, builtin, Sem.run_bind, Sem.run_pure, Result.andThen_ok, List.map_toArray, List.map_cons, List.map_nil, h1, h2, hr]
theorem EA.cells {w : World} {B : Nat} {a : Option Addr} {n c : Nat} {l : List (Int × Int)} (h : EA w B (.slice a n c) l) : n = l.length ∧ ∃ pb, (0 < n → a = some ⟨pb, 0, none⟩) ∧ ∀ i, i < n → w.cell? ⟨pb, 0 + i * 2, none⟩ = some (.int .u64 (l.getD i (0, 0)).1) ∧ w.cell? ⟨pb, 0 + i * 2 + 1, none⟩ = some (.int .i64 (l.getD i (0, 0)).2) := by
  have key : ∀ (l : List (Int × Int)) (i : Nat), i < l.length → (ecl l)[i * 2]? = some (.int .u64 (l.getD i (0, 0)).1) ∧ (ecl l)[i * 2 + 1]? = some (.int .i64 (l.getD i (0, 0)).2) := by
    intro l
    induction l with
    | nil => intro i h; simp at h
    | cons p l ih =>
      intro i h
      match i with
      | 0 => exact ⟨rfl, rfl⟩
      | i + 1 =>
        have := ih i (by simpa using h)
        have e : ecl (p :: l) = .int .u64 p.1 :: .int .i64 p.2 :: ecl l := rfl
        rw [e, show (i + 1) * 2 = i * 2 + 1 + 1 by omega]
        simpa using this
  rcases h.ex with ⟨e, rfl⟩ | ⟨b, c', e, _, hR⟩
  · cases e
    exact ⟨rfl, 0, fun h => by omega, fun i h => by omega⟩
  · cases e
    refine ⟨rfl, b, fun _ => rfl, fun i hi => ?_⟩
    rw [Nat.zero_add]
    exact ⟨hR.cell (key l i hi).1, hR.cell (key l i hi).2⟩
theorem ea_lit {w : World} {g B : Nat} {cs : List Value} (l : List (Int × Int)) (X : Blk w g cs 64) (e : cs = ecl l) (hB : B ≤ g) (hl : l.length ≤ 1000000) : EA w B (sg l.length g) l := by
  subst e
  exact ⟨.inr ⟨g, l.length, rfl, hB, ⟨[], by simpa using X, ecl_len l, by simpa using ecl_len l, Nat.le_refl _, Nat.le_trans hl (by decide)⟩⟩⟩
theorem entries_at {w : World} {a a' : Option Addr} {n c c' pb pb' : Nat} {xs ks : Nat → Int} (hn : n ≤ 9000000000000000000) (ha : 0 < n → a = some ⟨pb, 0, none⟩) (ha' : 0 < n → a' = some ⟨pb', 0, none⟩) (hc : ∀ i, i < n → w.cell? ⟨pb, 0 + i * 2, none⟩ = some (.int .u64 (xs i)) ∧ w.cell? ⟨pb, 0 + i * 2 + 1, none⟩ = some (.int .i64 (ks i))) (hc' : ∀ i, i < n → w.cell? ⟨pb', 0 + i * 2, none⟩ = some (.int .u64 (xs i)) ∧ w.cell? ⟨pb', 0 + i * 2 + 1, none⟩ = some (.int .i64 (ks i))) : Calls Tryz.prog 47 #[.slice a n c, .slice a' n c'] w fun e w' => e = .returned (.bool true) ∧ Below w.heap.size w w' := by
  have BB := Below.refl w.heap.size w
  refine gc_enter (n := 26) Tryz.func47 rfl (by kernel_rfl) (by kernel_rfl) ?_
  refine gc_seq ?_
  refine gc_reg ?_
  refine t 4 (.bool false) ?_
  refine gl_nil ?_
  refine ge_then ?_
  refine gc_seq ?_
  refine gc_seq ?_
  refine gc_reg ?_
  refine t 6 (.slice a n c) ?_
  refine t 7 (.int .i64 ((n : Nat) : Int)) ?_
  refine t 8 (.slice a' n c') ?_
  refine t 9 (.int .i64 ((n : Nat) : Int)) ?_
  refine tq 10 (.bool (((n : Nat) : Int) != ((n : Nat) : Int))) (.bool false) (congrArg Value.bool (bne_self_eq_false _)) ?_
  refine gl_nil ?_
  refine ge_then ?_
  refine gc_no ?_
  refine gc_skip ?_
  refine ge_then ?_
  refine gc_seq ?_
  refine gc_seq ?_
  refine gc_reg ?_
  refine t 5 (.int .i64 0) ?_
  refine gl_nil ?_
  refine ge_then ?_
  refine gc_block ?_
  refine gc_loop (fun s => n - s) (fun (s : Nat) => [(0, .slice a n c), (1, .slice a' n c'), (5, .int .i64 (s : Int))]) (fun s w' => s ≤ n ∧ Below w.heap.size w w') (0 : Nat) ⟨Nat.zero_le _, BB⟩ (by kernel_rfl) ?_
  clear BB
  rintro i v1 ⟨hi, BB⟩
  refine gc_seq ?_
  refine gc_seq ?_
  refine gc_reg ?_
  refine t 11 (.int .i64 (i : Int)) ?_
  refine t 12 (.slice a n c) ?_
  refine t 13 (.int .i64 ((n : Nat) : Int)) ?_
  by_cases ci : (i : Int) < ((n : Nat) : Int)
  · have hk_i : i < n := by omega
    refine tq 14 (.bool (decide ((i : Int) < ((n : Nat) : Int)))) (.bool true) (congrArg Value.bool (decide_eq_true ci)) ?_
    refine gl_nil ?_
    refine ge_then ?_
    refine gc_yes ?_
    refine gc_skip ?_
    refine ge_then ?_
    refine gc_seq ?_
    refine gc_block ?_
    refine gc_seq ?_
    replace BB := BB.drew
    refine gc_draw (fun w' => Below w.heap.size w w') (fun _ => false) BB ?_
    refine z 0 17 (.slice a n c) ?_
    refine z 1 18 (.int .i64 (i : Int)) ?_
    refine zr 2 19 (pq pb (0 + i * 2)) (fun _ h => run_ixa 2 pb 0 n c i hk_i ha) ?_
    refine zr 3 20 (.agg #[.int .u64 (xs i), .int .i64 (ks i)]) (fun _ h => run_ldE (cellB h (hc i hk_i).1) (cellB h (hc i hk_i).2)) ?_
    refine z 4 21 (.slice a' n c') ?_
    refine z 5 22 (.int .i64 (i : Int)) ?_
    refine zr 6 23 (pq pb' (0 + i * 2)) (fun _ h => run_ixa 2 pb' 0 n c' i hk_i ha') ?_
    refine zr 7 24 (.agg #[.int .u64 (xs i), .int .i64 (ks i)]) (fun _ h => run_ldE (cellB h (hc' i hk_i).1) (cellB h (hc' i hk_i).2)) ?_
    refine zr 8 25 (.bool false) (fun _ _ => run_nqE (x := xs i) (y := ks i) (x' := xs i) (y' := ks i) rfl rfl) ?_
    refine gz_done ?_
    refine ge_then ?_
    refine gc_fr [(0, .slice a n c), (1, .slice a' n c'), (5, .int .i64 (i : Int)), (11, .int .i64 (i : Int)), (12, .slice a n c), (13, .int .i64 ((n : Nat) : Int)), (14, .bool true), (17, .slice a n c), (18, .int .i64 (i : Int)), (19, pq pb (0 + i * 2)), (20, .agg #[.int .u64 (xs i), .int .i64 (ks i)]), (21, .slice a' n c'), (22, .int .i64 (i : Int)), (23, pq pb' (0 + i * 2)), (24, .agg #[.int .u64 (xs i), .int .i64 (ks i)]), (25, .bool false)] (by kernel_rfl) ?_
    refine gc_no ?_
    refine gc_skip ?_
    refine ge_bn ?_
    refine ge_then ?_
    refine gc_reg ?_
    refine t 15 (.int .i64 (i : Int)) ?_
    refine tq 16 (.int .i64 (IntKind.i64.wrap ((i : Int) + 1))) (.int .i64 ((i : Int) + 1)) (wi (by omega)) ?_
    refine t 5 (.int .i64 ((i : Int) + 1)) ?_
    refine gl_nil ?_
    exact ge_round (i + 1) (by show n - (i + 1) < n - i; omega) ⟨hk_i, BB⟩ (by kernel_rfl)
  · refine tq 14 (.bool (decide ((i : Int) < ((n : Nat) : Int)))) (.bool false) (congrArg Value.bool (decide_eq_false ci)) ?_
    refine gl_nil ?_
    refine ge_then ?_
    refine gc_no ?_
    refine gc_exit ?_
    refine ge_tx ?_
    refine ge_tx ?_
    refine ge_bx ?_
    refine ge_then ?_
    refine gc_seq ?_
    refine gc_reg ?_
    refine t 4 (.bool true) ?_
    refine gl_nil ?_
    refine ge_then ?_
    refine gc_ret ?_
    refine ge_ret (.bool true) (rs1 4 (by kernel_rfl) (by kernel_rfl)) ?_
    exact ⟨rfl, BB⟩
theorem entries_ea {w : World} {B B' : Nat} {u v : Value} {l : List (Int × Int)} (h : EA w B u l) (h' : EA w B' v l) (hl : l.length ≤ 9000000000000000000) : Calls Tryz.prog 47 #[u, v] w fun e w' => e = .returned (.bool true) ∧ Below w.heap.size w w' := by
  obtain ⟨a, c, rfl⟩ := h.shape
  obtain ⟨a', c', rfl⟩ := h'.shape
  obtain ⟨_, pb, h1, h2⟩ := h.cells
  obtain ⟨_, pb', h1', h2'⟩ := h'.cells
  exact entries_at hl h1 h1' h2 h2'
theorem cnt_take {l : List (Int × Int)} {i : Nat} {a b : Int} (hi : i < l.length) : (l.take (i + 1)).count (a, b) = (l.take i).count (a, b) + if (l.getD i (0, 0)).1 = a ∧ (l.getD i (0, 0)).2 = b then 1 else 0 := by
  rw [List.take_add_one, List.getElem?_eq_getElem hi, List.count_append]
  have e : l.getD i (0, 0) = l[i] := by simp [List.getD, hi]
  rw [e]
  by_cases h : l[i].1 = a ∧ l[i].2 = b
  · rw [if_pos h]
    have : l[i] = (a, b) := by rw [← h.1, ← h.2]
    rw [this]
    simp
  · rw [if_neg h]
    have : l[i] ≠ (a, b) := fun q => h (by rw [q]; exact ⟨rfl, rfl⟩)
    simp [this]
theorem in_at {w : World} {a : Option Addr} {n c pb : Nat} {l : List (Int × Int)} {ei ek : Int} (hn : n ≤ 9000000000000000000) (hnl : n = l.length) (ha : 0 < n → a = some ⟨pb, 0, none⟩) (hc : ∀ i, i < n → w.cell? ⟨pb, 0 + i * 2, none⟩ = some (.int .u64 (l.getD i (0, 0)).1) ∧ w.cell? ⟨pb, 0 + i * 2 + 1, none⟩ = some (.int .i64 (l.getD i (0, 0)).2)) : Calls Tryz.prog 31 #[.slice a n c, .agg #[.int .u64 ei, .int .i64 ek]] w fun e w' => e = .returned (.bool (decide (l.count (ei, ek) = 1))) ∧ Below w.heap.size w w' := by
  have BB := Below.refl w.heap.size w
  refine gc_enter (n := 23) Tryz.func31 rfl (by kernel_rfl) (by kernel_rfl) ?_
  refine gc_seq ?_
  refine gc_reg ?_
  refine ta 3 [.int .u64 ei, .int .i64 ek] 64 (pg) ?_
  intro v1 g2 Xg2 hg2 B
  replace BB := joinB BB B
  clear B
  refine t 4 (.bool false) ?_
  refine gl_nil ?_
  refine ge_then ?_
  refine gc_seq ?_
  refine gc_reg ?_
  refine t 5 (.int .i64 0) ?_
  refine gl_nil ?_
  refine ge_then ?_
  refine gc_seq ?_
  refine gc_seq ?_
  refine gc_reg ?_
  refine t 6 (.int .i64 0) ?_
  refine gl_nil ?_
  refine ge_then ?_
  refine gc_block ?_
  refine gc_loop (fun s => n - s.1) (fun (s : Nat × Nat) => [(0, .slice a n c), (3, pg g2), (5, .int .i64 (s.2 : Int)), (6, .int .i64 (s.1 : Int))]) (fun s w' => s.1 ≤ n ∧ s.2 ≤ s.1 ∧ s.2 = (l.take s.1).count (ei, ek) ∧ Below w.heap.size w w' ∧ Blk w' g2 [.int .u64 ei, .int .i64 ek] 64) ((0, 0) : Nat × Nat) ⟨Nat.zero_le _, Nat.le_refl _, by simp, BB, Xg2⟩ (by kernel_rfl) ?_
  clear BB
  clear Xg2
  rintro ⟨i, m⟩ v3 ⟨hi, hm, hq, BB, X0⟩
  dsimp only at hi hm hq
  refine gc_seq ?_
  refine gc_seq ?_
  refine gc_reg ?_
  refine t 7 (.int .i64 (i : Int)) ?_
  refine t 8 (.slice a n c) ?_
  refine t 9 (.int .i64 ((n : Nat) : Int)) ?_
  by_cases ci : (i : Int) < ((n : Nat) : Int)
  · have hk_i : i < n := by omega
    refine tq 10 (.bool (decide ((i : Int) < ((n : Nat) : Int)))) (.bool true) (congrArg Value.bool (decide_eq_true ci)) ?_
    refine gl_nil ?_
    refine ge_then ?_
    refine gc_yes ?_
    refine gc_skip ?_
    refine ge_then ?_
    refine gc_seq ?_
    refine gc_block ?_
    refine gc_seq ?_
    replace BB := BB.drew
    replace X0 := X0.drew
    refine gc_draw (fun w' => Blk w' g2 [.int .u64 ei, .int .i64 ek] 64 ∧ Below w.heap.size w w') (fun _ => false) ⟨X0, BB⟩ ?_
    refine z 0 13 (.slice a n c) ?_
    refine z 1 14 (.int .i64 (i : Int)) ?_
    refine zr 2 15 (pq pb (0 + i * 2)) (fun _ h => run_ixa 2 pb 0 n c i hk_i ha) ?_
    refine zr 3 16 (.agg #[.int .u64 (l.getD i (0, 0)).1, .int .i64 (l.getD i (0, 0)).2]) (fun _ h => run_ldE (cellB h.2 (hc i hk_i).1) (cellB h.2 (hc i hk_i).2)) ?_
    refine zlr 4 17 [.int .u64 ei, .int .i64 ek] (fun _ h => h.1) 0 ?_
    by_cases c4 : (l.getD i (0, 0)).1 = ei ∧ (l.getD i (0, 0)).2 = ek
    · refine zr 5 18 (.bool true) (fun _ _ => run_eqE (x := (l.getD i (0, 0)).1) (y := (l.getD i (0, 0)).2) (x' := ei) (y' := ek) (decide_eq_true c4)) ?_
      refine gz_done ?_
      refine ge_then ?_
      refine gc_yes ?_
      refine gc_reg ?_
      refine t 19 (.int .i64 (m : Int)) ?_
      refine tq 20 (.int .i64 (IntKind.i64.wrap ((m : Int) + 1))) (.int .i64 ((m : Int) + 1)) (wi (by omega)) ?_
      refine t 5 (.int .i64 ((m : Int) + 1)) ?_
      refine gl_nil ?_
      refine ge_bn ?_
      refine ge_then ?_
      refine gc_fr [(0, .slice a n c), (3, pg g2), (5, .int .i64 ((m : Int) + 1)), (6, .int .i64 (i : Int)), (7, .int .i64 (i : Int)), (8, .slice a n c), (9, .int .i64 ((n : Nat) : Int)), (10, .bool true), (13, .slice a n c), (14, .int .i64 (i : Int)), (15, pq pb (0 + i * 2)), (16, .agg #[.int .u64 (l.getD i (0, 0)).1, .int .i64 (l.getD i (0, 0)).2]), (17, .agg #[.int .u64 ei, .int .i64 ek]), (18, .bool true), (19, .int .i64 (m : Int)), (20, .int .i64 ((m : Int) + 1))] (by kernel_rfl) ?_
      refine gc_reg ?_
      refine t 11 (.int .i64 (i : Int)) ?_
      refine tq 12 (.int .i64 (IntKind.i64.wrap ((i : Int) + 1))) (.int .i64 ((i : Int) + 1)) (wi (by omega)) ?_
      refine t 6 (.int .i64 ((i : Int) + 1)) ?_
      refine gl_nil ?_
      exact ge_round ((i + 1, m + 1) : Nat × Nat) (by show n - (i + 1) < n - i; omega) ⟨hk_i, by show m + 1 ≤ i + 1; omega, by show m + 1 = (l.take (i + 1)).count (ei, ek); rw [cnt_take (by omega), if_pos c4, hq], BB, X0⟩ (by kernel_rfl)
    · refine zr 5 18 (.bool false) (fun _ _ => run_eqE (x := (l.getD i (0, 0)).1) (y := (l.getD i (0, 0)).2) (x' := ei) (y' := ek) (decide_eq_false c4)) ?_
      refine gz_done ?_
      refine ge_then ?_
      refine gc_no ?_
      refine gc_skip ?_
      refine ge_bn ?_
      refine ge_then ?_
      refine gc_reg ?_
      refine t 11 (.int .i64 (i : Int)) ?_
      refine tq 12 (.int .i64 (IntKind.i64.wrap ((i : Int) + 1))) (.int .i64 ((i : Int) + 1)) (wi (by omega)) ?_
      refine t 6 (.int .i64 ((i : Int) + 1)) ?_
      refine gl_nil ?_
      exact ge_round ((i + 1, m) : Nat × Nat) (by show n - (i + 1) < n - i; omega) ⟨hk_i, by show m ≤ i + 1; omega, by show m = (l.take (i + 1)).count (ei, ek); rw [cnt_take (by omega), if_neg c4, hq, Nat.add_zero], BB, X0⟩ (by kernel_rfl)
  · refine tq 10 (.bool (decide ((i : Int) < ((n : Nat) : Int)))) (.bool false) (congrArg Value.bool (decide_eq_false ci)) ?_
    refine gl_nil ?_
    refine ge_then ?_
    refine gc_no ?_
    refine gc_exit ?_
    refine ge_tx ?_
    refine ge_tx ?_
    refine ge_bx ?_
    refine ge_then ?_
    refine gc_seq ?_
    refine gc_reg ?_
    refine t 21 (.int .i64 (m : Int)) ?_
    by_cases c5 : (m : Int) = 1
    · refine tq 22 (.bool ((m : Int) == 1)) (.bool true) (congrArg Value.bool (beq_iff_eq.2 c5)) ?_
      refine t 4 (.bool true) ?_
      refine gl_nil ?_
      refine ge_then ?_
      refine gc_ret ?_
      refine ge_ret (.bool true) (rs1 4 (by kernel_rfl) (by kernel_rfl)) ?_
      have hc2 : (l.take i).count (ei, ek) = l.count (ei, ek) := by rw [List.take_of_length_le (by omega)]
      rw [show decide (l.count (ei, ek) = 1) = true from decide_eq_true (by omega)]
      exact ⟨rfl, BB⟩
    · refine tq 22 (.bool ((m : Int) == 1)) (.bool false) (congrArg Value.bool (beq_eq_false_iff_ne.2 c5)) ?_
      refine t 4 (.bool false) ?_
      refine gl_nil ?_
      refine ge_then ?_
      refine gc_ret ?_
      refine ge_ret (.bool false) (rs1 4 (by kernel_rfl) (by kernel_rfl)) ?_
      have hc2 : (l.take i).count (ei, ek) = l.count (ei, ek) := by rw [List.take_of_length_le (by omega)]
      rw [show decide (l.count (ei, ek) = 1) = false from decide_eq_false (by omega)]
      exact ⟨rfl, BB⟩
theorem in_ea {w : World} {B : Nat} {v : Value} {l : List (Int × Int)} {ei ek : Int} (h : EA w B v l) (hl : l.length ≤ 9000000000000000000) : Calls Tryz.prog 31 #[v, .agg #[.int .u64 ei, .int .i64 ek]] w fun e w' => e = .returned (.bool (decide (l.count (ei, ek) = 1))) ∧ Below w.heap.size w w' := by
  obtain ⟨a, c, rfl⟩ := h.shape
  obtain ⟨h0, pb, h1, h2⟩ := h.cells
  exact in_at hl h0 h1 h2
theorem nSameQ {w : World} {a a' : Option Addr} {n c n' c' : Nat} {x : Int} (h : NatO w a n c x) (h' : NatO w a' n' c' x) (hn : n ≤ 1000000) (hn' : n' ≤ 1000000) : Calls Tryz.prog 148 #[.slice a n c, .slice a' n' c'] w fun e w' => e = .returned (.bool true) ∧ Below w.heap.size w w' := by
  have t := nSame h h' (by omega) (by omega)
  rw [decide_eq_true (show x = x from rfl)] at t
  exact t
theorem dec_same {w : World} {a a' : Option Addr} {n c n' c' : Nat} {x : Int} (h : NatO w a n c x) (h' : NatO w a' n' c' x) (hn : n ≤ 1000000) (hn' : n' ≤ 1000000) : Calls Tryz.prog 93 #[.agg #[.slice a n c], .agg #[.slice a' n' c']] w fun e w' => e = .returned (.bool true) ∧ Below w.heap.size w w' := by
  have BB := Below.refl w.heap.size w
  refine gc_enter (n := 10) Tryz.func93 rfl (by kernel_rfl) (by kernel_rfl) ?_
  refine gc_seq ?_
  refine gc_reg ?_
  refine ta 2 [.slice a n c] 49 (pg) ?_
  intro v1 g2 Xg2 hg2 B
  replace BB := joinB BB B
  replace h := h.keep B
  replace h' := h'.keep B
  clear B
  refine ta 3 [.slice a' n' c'] 49 (pg) ?_
  intro v3 g4 Xg4 hg4 B
  replace BB := joinB BB B
  replace h := h.keep B
  replace h' := h'.keep B
  replace Xg2 := Xg2.keep B
  clear B
  refine t 4 (.bool false) ?_
  refine gl_nil ?_
  refine ge_then ?_
  refine gc_seq ?_
  refine gc_reg ?_
  refine t 5 (pg g2) ?_
  refine tl 6 (.slice a n c) Xg2 0 ?_
  refine t 7 (pg g4) ?_
  refine tl 8 (.slice a' n' c') Xg4 0 ?_
  refine tc 9 148 #[.slice a n c, .slice a' n' c'] (nSameQ h h' hn hn') ?_
  rintro _ v5 ⟨rfl, B⟩
  refine ⟨_, rfl, ?_⟩
  replace BB := joinB BB B
  replace h := h.keep B
  replace h' := h'.keep B
  replace Xg2 := Xg2.keep B
  replace Xg4 := Xg4.keep B
  clear B
  refine t 4 (.bool true) ?_
  refine gl_nil ?_
  refine ge_then ?_
  refine gc_ret ?_
  refine ge_ret (.bool true) (rs1 4 (by kernel_rfl) (by kernel_rfl)) ?_
  exact ⟨rfl, BB⟩
theorem move_same {w : World} {x0 x1 x2 x3 x4 x5 : Int} {a a' : Option Addr} {n c n' c' : Nat} {x : Int} (h : NatO w a n c x) (h' : NatO w a' n' c' x) (hn : n ≤ 1000000) (hn' : n' ≤ 1000000) : Calls Tryz.prog 39 #[.agg #[.int .u64 x0, .int .u64 x1, .int .u64 x2, .int .u64 x3, .int .u64 x4, .int .u64 x5, .slice a n c], .agg #[.int .u64 x0, .int .u64 x1, .int .u64 x2, .int .u64 x3, .int .u64 x4, .int .u64 x5, .slice a' n' c']] w fun e w' => e = .returned (.bool true) ∧ Below w.heap.size w w' := by
  have BB := Below.refl w.heap.size w
  refine gc_enter (n := 52) Tryz.func39 rfl (by kernel_rfl) (by kernel_rfl) ?_
  refine gc_seq ?_
  refine gc_reg ?_
  refine ta 2 [.int .u64 x0, .int .u64 x1, .int .u64 x2, .int .u64 x3, .int .u64 x4, .int .u64 x5, .slice a n c] 51 (pg) ?_
  intro v1 g2 Xg2 hg2 B
  replace BB := joinB BB B
  replace h := h.keep B
  replace h' := h'.keep B
  clear B
  refine ta 3 [.int .u64 x0, .int .u64 x1, .int .u64 x2, .int .u64 x3, .int .u64 x4, .int .u64 x5, .slice a' n' c'] 51 (pg) ?_
  intro v3 g4 Xg4 hg4 B
  replace BB := joinB BB B
  replace h := h.keep B
  replace h' := h'.keep B
  replace Xg2 := Xg2.keep B
  clear B
  refine t 4 (.bool false) ?_
  refine gl_nil ?_
  refine ge_then ?_
  refine gc_seq ?_
  refine gc_reg ?_
  refine t 5 (pg g2) ?_
  refine tl 6 (.int .u64 x0) Xg2 0 ?_
  refine t 7 (pg g4) ?_
  refine tl 8 (.int .u64 x0) Xg4 0 ?_
  refine tq 9 (.bool ((x0 : Int) == x0)) (.bool true) (congrArg Value.bool (beq_self_eq_true _)) ?_
  refine t 10 (.bool true) ?_
  refine t 11 (pq g2 1) ?_
  refine tl 12 (.int .u64 x1) Xg2 1 ?_
  refine t 13 (pq g4 1) ?_
  refine tl 14 (.int .u64 x1) Xg4 1 ?_
  refine tq 15 (.bool ((x1 : Int) == x1)) (.bool true) (congrArg Value.bool (beq_self_eq_true _)) ?_
  refine t 16 (.bool true) ?_
  refine t 17 (.bool true) ?_
  refine t 18 (pq g2 2) ?_
  refine tl 19 (.int .u64 x2) Xg2 2 ?_
  refine t 20 (pq g4 2) ?_
  refine tl 21 (.int .u64 x2) Xg4 2 ?_
  refine tq 22 (.bool ((x2 : Int) == x2)) (.bool true) (congrArg Value.bool (beq_self_eq_true _)) ?_
  refine t 23 (.bool true) ?_
  refine t 24 (.bool true) ?_
  refine t 25 (pq g2 3) ?_
  refine tl 26 (.int .u64 x3) Xg2 3 ?_
  refine t 27 (pq g4 3) ?_
  refine tl 28 (.int .u64 x3) Xg4 3 ?_
  refine tq 29 (.bool ((x3 : Int) == x3)) (.bool true) (congrArg Value.bool (beq_self_eq_true _)) ?_
  refine t 30 (.bool true) ?_
  refine t 31 (.bool true) ?_
  refine t 32 (pq g2 4) ?_
  refine tl 33 (.int .u64 x4) Xg2 4 ?_
  refine t 34 (pq g4 4) ?_
  refine tl 35 (.int .u64 x4) Xg4 4 ?_
  refine tq 36 (.bool ((x4 : Int) == x4)) (.bool true) (congrArg Value.bool (beq_self_eq_true _)) ?_
  refine t 37 (.bool true) ?_
  refine t 38 (.bool true) ?_
  refine t 39 (pq g2 5) ?_
  refine tl 40 (.int .u64 x5) Xg2 5 ?_
  refine t 41 (pq g4 5) ?_
  refine tl 42 (.int .u64 x5) Xg4 5 ?_
  refine tq 43 (.bool ((x5 : Int) == x5)) (.bool true) (congrArg Value.bool (beq_self_eq_true _)) ?_
  refine t 44 (.bool true) ?_
  refine t 45 (.bool true) ?_
  refine t 46 (pq g2 6) ?_
  refine tlr 47 [.slice a n c] Xg2 6 ?_
  refine t 48 (pq g4 6) ?_
  refine tlr 49 [.slice a' n' c'] Xg4 6 ?_
  refine tc 50 93 #[.agg #[.slice a n c], .agg #[.slice a' n' c']] (dec_same h h' hn hn') ?_
  rintro _ v5 ⟨rfl, B⟩
  refine ⟨_, rfl, ?_⟩
  replace BB := joinB BB B
  replace h := h.keep B
  replace h' := h'.keep B
  replace Xg2 := Xg2.keep B
  replace Xg4 := Xg4.keep B
  clear B
  refine t 51 (.bool true) ?_
  refine t 4 (.bool true) ?_
  refine gl_nil ?_
  refine ge_then ?_
  refine gc_fr [(4, .bool true)] (by kernel_rfl) ?_
  refine gc_ret ?_
  refine ge_ret (.bool true) (rs1 4 (by kernel_rfl) (by kernel_rfl)) ?_
  exact ⟨rfl, BB⟩
end Qu
end Go.Proofs.YtliajmpchofiiaaGreat

namespace Go.Proofs.YtliajmpchofiiaaGreat
namespace Qu
open Go.RowKit Go.Lib Pg Lim Gl Kv Bk Pw
attribute [local go_sem] Oper.semAt_some
set_option maxRecDepth 100000
set_option linter.unusedVariables false
set_option linter.unusedSimpArgs false
set_option maxHeartbeats 2000000
theorem rentry {w : World} {kv vv : Value} {kl vl : List Int} {r : Nat} (hr : ∀ k : Nat, k < 18 → Ky.frm k = Ky.frm r → k = r) (hr1 : r < 18) (hr0 : 0 < r) (hk : ByU w kv kl) (hkl : kl.length ≤ 1000000000) (h0 : 0 < kl.length) (hf : Ky.frm r = Ky.fIn kl) (hv : ByU w vv vl) : Calls Tryz.prog 133 #[.agg #[kv, vv]] w fun e w' => e = .returned (.tuple #[.agg #[.int .i64 (r : Nat), .int .u64 (Ky.rdA r kl), .int .u64 (Ky.rdB kl)], .agg #[.int .u64 (Ky.rdB kl), .int .i64 (wrap64 (numB vl))]]) ∧ Below w.heap.size w w' := by
  have BB := Below.refl w.heap.size w
  obtain ⟨kd, hkd⟩ : ∃ k, wrap64 (numB vl) = k := ⟨_, rfl⟩
  refine gc_enter (n := 26) Tryz.func133 rfl (by kernel_rfl) (by kernel_rfl) ?_
  refine gc_seq ?_
  refine gc_reg ?_
  refine ta 1 [kv, vv] 110 (pg) ?_
  intro v1 g2 Xg2 hg2 B
  replace BB := joinB BB B
  replace hk := byu_keep hk B
  replace hv := byu_keep hv B
  clear B
  have lXg2 := Xg2.lt
  refine ta 2 [.int .i64 0, .int .u64 0, .int .u64 0] 104 (pg) ?_
  intro v3 g4 Xg4 hg4 B
  replace BB := joinB BB B
  replace hk := byu_keep hk B
  replace hv := byu_keep hv B
  replace Xg2 := Xg2.keep B
  clear B
  have lXg2 := Xg2.lt
  have lXg4 := Xg4.lt
  refine ta 3 [.int .u64 0, .int .i64 0] 64 (pg) ?_
  intro v5 g6 Xg6 hg6 B
  replace BB := joinB BB B
  replace hk := byu_keep hk B
  replace hv := byu_keep hv B
  replace Xg2 := Xg2.keep B
  replace Xg4 := Xg4.keep B
  clear B
  refine gl_nil ?_
  refine ge_then ?_
  refine gc_seq ?_
  refine gc_reg ?_
  refine t 9 (pg g2) ?_
  refine tl 10 (kv) Xg2 0 ?_
  refine tc 11 184 #[kv] (rread_k (r := r) hr hr1 hr0 hk.byt hkl h0 hf) ?_
  rintro _ v7 ⟨rfl, B⟩
  refine ⟨_, rfl, ?_⟩
  replace BB := joinB BB B
  replace hk := byu_keep hk B
  replace hv := byu_keep hv B
  replace Xg2 := Xg2.keep B
  replace Xg4 := Xg4.keep B
  replace Xg6 := Xg6.keep B
  clear B
  clear hk
  refine t 8 (.tuple #[.agg #[.int .i64 (r : Nat), .int .u64 (Ky.rdA r kl), .int .u64 (Ky.rdB kl)], .int .i64 0]) ?_
  refine t 12 (.agg #[.int .i64 (r : Nat), .int .u64 (Ky.rdA r kl), .int .u64 (Ky.rdB kl)]) ?_
  refine t 13 (.int .i64 0) ?_
  have lXg2 := Xg2.lt
  have lXg4 := Xg4.lt
  have lXg6 := Xg6.lt
  refine ta 4 [.int .i64 0, .int .u64 0, .int .u64 0] 104 (pg) ?_
  intro v8 g9 Xg9 hg9 B
  replace BB := joinB BB B
  replace hv := byu_keep hv B
  replace Xg2 := Xg2.keep B
  replace Xg4 := Xg4.keep B
  replace Xg6 := Xg6.keep B
  clear B
  refine ts Xg9 0 (.agg #[.int .i64 (r : Nat), .int .u64 (Ky.rdA r kl), .int .u64 (Ky.rdB kl)]) [.int .i64 (r : Nat), .int .u64 (Ky.rdA r kl), .int .u64 (Ky.rdB kl)] [.int .i64 (r : Nat), .int .u64 (Ky.rdA r kl), .int .u64 (Ky.rdB kl)] ?_
  intro v10 Y C
  replace BB := belowC BB C (by omega)
  replace hv := byu_cell hv Xg9 C (by decide)
  replace Xg2 := Xg2.chg C (show g2 ≠ g9 by omega)
  replace Xg4 := Xg4.chg C (show g4 ≠ g9 by omega)
  replace Xg6 := Xg6.chg C (show g6 ≠ g9 by omega)
  clear C Xg9
  have Xg9 := Y
  clear Y
  refine t 5 (.int .i64 0) ?_
  refine gl_nil ?_
  refine ge_then ?_
  refine gc_fr [(1, pg g2), (2, pg g4), (3, pg g6), (4, pg g9)] (by kernel_rfl) ?_
  refine gc_seq ?_
  refine gc_reg ?_
  refine t 15 (pq g2 1) ?_
  refine tl 16 (vv) Xg2 1 ?_
  refine tc 17 131 #[vv] (rnumber_rd hv) ?_
  rintro _ v11 ⟨rfl, B⟩
  refine ⟨_, rfl, ?_⟩
  replace BB := joinB BB B
  replace hv := byu_keep hv B
  replace Xg2 := Xg2.keep B
  replace Xg4 := Xg4.keep B
  replace Xg6 := Xg6.keep B
  replace Xg9 := Xg9.keep B
  clear B
  clear hv
  refine t 14 (.tuple #[.int .u64 (numB vl), .int .i64 (Rc.outR (Rc.stNumber vl))]) ?_
  refine t 18 (.int .u64 (numB vl)) ?_
  refine t 19 (.int .i64 (Rc.outR (Rc.stNumber vl))) ?_
  refine t 6 (.int .u64 (numB vl)) ?_
  refine t 7 (.int .i64 (Rc.outR (Rc.stNumber vl))) ?_
  refine gl_nil ?_
  refine ge_then ?_
  refine gc_seq ?_
  replace BB := BB.drew
  replace Xg2 := Xg2.drew
  replace Xg4 := Xg4.drew
  replace Xg6 := Xg6.drew
  replace Xg9 := Xg9.drew
  refine gc_draw (fun w' => Blk w' g9 [.int .i64 (r : Nat), .int .u64 (Ky.rdA r kl), .int .u64 (Ky.rdB kl)] 104) (fun _ => false) Xg9 ?_
  refine zlr 0 20 [.int .i64 (r : Nat), .int .u64 (Ky.rdA r kl), .int .u64 (Ky.rdB kl)] (fun _ h => h) 0 ?_
  refine z 1 21 (pq g9 2) ?_
  refine zl 2 22 (.int .u64 (Ky.rdB kl)) (fun _ h => h) 2 ?_
  refine z 3 23 (.int .u64 (numB vl)) ?_
  refine zr 4 24 (.int .i64 kd) (fun _ _ => run_cvK hkd) ?_
  refine zr 5 25 (.agg #[.int .u64 (Ky.rdB kl), .int .i64 kd]) (fun _ _ => run_bE) ?_
  refine zs 6 Xg4 0 (.agg #[.int .i64 (r : Nat), .int .u64 (Ky.rdA r kl), .int .u64 (Ky.rdB kl)]) [.int .i64 (r : Nat), .int .u64 (Ky.rdA r kl), .int .u64 (Ky.rdB kl)] [.int .i64 (r : Nat), .int .u64 (Ky.rdA r kl), .int .u64 (Ky.rdB kl)] ?_
  intro v12 Y C
  replace BB := belowC BB C (by omega)
  replace Xg2 := Xg2.chg C (show g2 ≠ g4 by omega)
  replace Xg6 := Xg6.chg C (show g6 ≠ g4 by omega)
  replace Xg9 := Xg9.chg C (show g9 ≠ g4 by omega)
  clear C Xg4
  have Xg4 := Y
  clear Y
  refine ⟨Xg9, ?_⟩
  refine zs 7 Xg6 0 (.agg #[.int .u64 (Ky.rdB kl), .int .i64 kd]) [.int .u64 (Ky.rdB kl), .int .i64 kd] [.int .u64 (Ky.rdB kl), .int .i64 kd] ?_
  intro v13 Y C
  replace BB := belowC BB C (by omega)
  replace Xg2 := Xg2.chg C (show g2 ≠ g6 by omega)
  replace Xg4 := Xg4.chg C (show g4 ≠ g6 by omega)
  replace Xg9 := Xg9.chg C (show g9 ≠ g6 by omega)
  clear C Xg6
  have Xg6 := Y
  clear Y
  refine ⟨Xg9, ?_⟩
  refine gz_done ?_
  refine ge_then ?_
  refine gc_fr [(2, pg g4), (3, pg g6)] (by kernel_rfl) ?_
  refine gc_ret ?_
  refine ge_ret (.tuple #[.agg #[.int .i64 (r : Nat), .int .u64 (Ky.rdA r kl), .int .u64 (Ky.rdB kl)], .agg #[.int .u64 (Ky.rdB kl), .int .i64 kd]]) (rscc 2 3 (T := 104) (U := 64) (by kernel_rfl) (by kernel_rfl) (by kernel_rfl) (lr Xg4 0) (lr Xg6 0)) ?_
  rw [hkd]
  exact ⟨rfl, BB⟩
theorem frm_u14 : ∀ k : Nat, k < 18 → Ky.frm k = Ky.frm (14 : Nat) → k = 14 := by decide +kernel
theorem frm_u15 : ∀ k : Nat, k < 18 → Ky.frm k = Ky.frm (15 : Nat) → k = 15 := by decide +kernel
theorem ByU.take {w : World} {a : Option Addr} {n c : Nat} {l : List Int} (h : ByU w (.slice a n c) l) (m : Nat) (hm : m ≤ n) : ByU w (.slice a m c) (l.take m) := ⟨Ky.By.take h.byt m hm, fun b o k d e => by cases e; exact h.u8 b o n c rfl⟩
theorem runder_u {w : World} {k a : Int} (h0 : 0 ≤ a) (h1 : a < 18446744073709551616) (hk : 16 < (Ky.frm k).1) : Calls Tryz.prog 134 #[.int .i64 k, .int .u64 a] w fun e w' => ∃ v, e = .returned (.tuple #[v, .int .i64 0]) ∧ ByU w' v (Ky.mkb (Ky.frm k) (Ky.tn k a)) ∧ Below w.heap.size w w' := by
  have u1 := fun w => Ky.rform_any (w := w) (k := k)
  have u2 := fun w => Ky.rmake_any (w := w) (k := k) (a := a) (b := 0) h0 h1
  obtain ⟨n, N, m0, m1, hf, hN, hN2, h8, h16, hm, hm0, hm1, hz, h10⟩ := Ky.frm_doc k
  · have hE : Ky.mkE k a 0 = false := by unfold Ky.mkE; simp; omega
    have hL := Ky.under_len (a := a) hk
    have hlen : 8 ≤ (Ky.mk k a 0).length := by
      unfold Ky.mk; rw [if_pos hk]; simp [Ky.be_length]
    rw [hE] at u2
    rw [← hL]
    rw [hf] at hk u1
    simp only [hN] at u1
    have hN3 : ¬ ((N : Int) < 2) := by have := h16; simp only at hk; omega
    clear hf hN h8 h16 hm hm0 hm1 hz h10 hE hL hN2
    generalize hmk : Ky.mk k a 0 = L at *
    simp only [Bool.false_eq_true, if_false] at u2
    obtain ⟨ln, hln⟩ : ∃ ln, Hid (L.length = ln) := ⟨_, rfl⟩
    rw [hln.out] at hlen ⊢
    have HL := hid3 hlen
    have g1 : (8 : Int) ≤ ln := by omega
    clear hmk hk hlen
    go_enter Tryz.func134, Tryz.ntmps134
    go_wp2_with first
      | (go_at_call 111; refine (u1 _).mono ?_; rintro e w1 ⟨rfl, rfl⟩)
      | (go_at_call 54; go_loud (refine (u2 _).mono ?_; rintro e w2 ⟨v2, rfl, O2, B2⟩; obtain ⟨a2, c2, rfl⟩ := Ky.OB.sh O2; rw [hln.out] at O2 ⊢; have BY := ByU.of O2; have hcap := (Ky.By.lens BY.byt).2; have g2 : (ln : Int) - 8 ≤ c2 := (by omega); have g3 : IntKind.i64.wrap ((ln : Int) - 8) = ((ln - 8 : Nat) : Int) := (by rw [IntKind.wrap_i64]; omega); replace BY := hid3 BY; clear O2 hcap))
    go_ret2
    exact ⟨_, rfl, ByU.take BY.out (ln - 8) (by omega), B2⟩
def LD (es : List En) (h : Int) (i : Nat) : List (Int × Int) := ((es.take i).filter (fun e => decide (Ky.rdA 14 e.kl ≤ h))).map entp
def LF (es : List En) (i : Nat) : List (Int × Int) := (es.take i).map entp
theorem LD_len (es : List En) (h : Int) (i : Nat) : (LD es h i).length ≤ i := by
  unfold LD
  rw [List.length_map]
  exact Nat.le_trans (List.length_filter_le _ _) (by rw [List.length_take]; omega)
theorem LF_len (es : List En) (i : Nat) : (LF es i).length ≤ i := by
  unfold LF
  rw [List.length_map, List.length_take]
  omega
theorem LD_yes {es : List En} {h : Int} {i : Nat} {e : En} (he : es[i]? = some e) (hc : Ky.rdA 14 e.kl ≤ h) : LD es h (i + 1) = LD es h i ++ [entp e] := by
  unfold LD
  rw [List.take_add_one, he, List.filter_append, List.map_append]
  simp [hc]
theorem LD_no {es : List En} {h : Int} {i : Nat} {e : En} (he : es[i]? = some e) (hc : ¬ Ky.rdA 14 e.kl ≤ h) : LD es h (i + 1) = LD es h i := by
  unfold LD
  rw [List.take_add_one, he, List.filter_append, List.map_append]
  simp [hc]
theorem LF_yes {es : List En} {i : Nat} {e : En} (he : es[i]? = some e) : LF es (i + 1) = LF es i ++ [entp e] := by
  unfold LF
  rw [List.take_add_one, he, List.map_append]
  rfl
structure REntE (B : Nat) (w : World) (X : Nat → Prop) (q : Nat) (E : Ents) (n : Nat) (l : List (Int × Int)) (e : Ending) (w' : World) : Prop where
  ex : ∃ v, e = .returned v ∧ EA w' w.heap.size v l ∧ ∃ X' n', Rx B w' X' q E n' ∧ n' ≤ n + 1 + E.length ∧ (∀ b, X' b → X b ∨ w.heap.size ≤ b) ∧ Chg (· = q) w w'
theorem rdue {B : Nat} {w : World} {X : Nat → Prop} {q : Nat} {E : Ents} {n : Nat} {h : Int} (h0 : Rx B w X q E n) (hh : Uq h) (hKy : Kys E) (hn : n ≤ 3000000000000000000) (hm : E.length ≤ 100000) : Calls Tryz.prog 75 #[pg q, .int .u64 h] w (REntE B w X q E n (upto E (p14 h))) := by
  have hRk := hKy.k113
  have BB := Below.refl w.heap.size w
  refine gc_enter (n := 36) Tryz.func75 rfl (by kernel_rfl) (by kernel_rfl) ?_
  refine gc_seq ?_
  refine gc_reg ?_
  refine t 4 (.slice none 0 0) ?_
  refine gl_nil ?_
  refine ge_then ?_
  refine gc_seq ?_
  refine gc_reg ?_
  refine t 5 (.slice none 0 0) ?_
  refine gl_nil ?_
  refine ge_then ?_
  refine gc_seq ?_
  refine gc_reg ?_
  refine t 10 (pg q) ?_
  refine ta 11 [.int .u8 113] 5 (sg 1) ?_
  intro v1 g2 Xg2 hg2 B
  replace BB := joinB BB B
  clear B
  refine tc 12 132 #[pg q, sg 1 g2] (all9 (h0.keep BB) (byu1 (by decide) Xg2) (by decide) hn (by omega)) ?_
  rintro _ v3 ⟨vl, es, rfl, P, he, Y, n1, S, hn1, hY, C⟩
  refine ⟨_, rfl, ?_⟩
  obtain ⟨av, cv, rfl⟩ := P.shape
  have hml : es.length ≤ E.length := by
    have := congrArg List.length he
    rw [List.length_map] at this
    rw [this]
    exact List.length_filter_le _ _
  have hfr : ∀ x ∈ es, Ky.frm (14 : Nat) = Ky.fIn x.kl ∧ x.kl.length ≤ 1000000000 ∧ 0 < x.kl.length := fun x hx => by
    have hm2 : x.kl2 ∈ E.filter (fun y => decide ([113] <+: y.1)) := by rw [← show es.map En.kl2 = E.filter (fun y => decide ([113] <+: y.1)) from he]; exact List.mem_map.2 ⟨x, hx, rfl⟩
    have h1 := of_decide_eq_true (List.mem_filter.1 hm2).2
    exact ⟨hRk _ (List.mem_filter.1 hm2).1 h1, (S.rs.small _ (List.mem_filter.1 hm2).1).1, show 1 ≤ x.kl.length from Nat.le_trans (by decide) h1.length_le⟩
  obtain ⟨M_, hm0⟩ : ∃ m, es.length = m := ⟨_, rfl⟩
  obtain ⟨pb, hao⟩ : ∃ pb, 0 < M_ → av = some ⟨pb, 0, none⟩ := by
    rcases P.ex with ⟨_, e1⟩ | ⟨b, c, e1, _⟩
    · exact ⟨0, fun h => by rw [e1] at hm0; simp at hm0; omega⟩
    · exact ⟨b, fun _ => by cases e1; rfl⟩
  rw [hm0]
  refine t 6 (.slice av M_ cv) ?_
  refine gl_nil ?_
  refine ge_then ?_
  refine gc_seq ?_
  refine gc_seq ?_
  refine gc_reg ?_
  refine t 7 (.int .i64 0) ?_
  refine gl_nil ?_
  refine ge_then ?_
  refine gc_block ?_
  obtain ⟨VA, hVA⟩ : ∃ V, v3 = V := ⟨_, rfl⟩
  rw [hVA] at P S C ⊢
  refine gc_loop (fun s => M_ - s.1) (fun (s : Nat × Option Addr × Nat × Nat) => [(1, .int .u64 h), (5, .slice s.2.1 s.2.2.1 s.2.2.2), (6, .slice av M_ cv), (7, .int .i64 (s.1 : Int))]) (fun s w' => s.1 ≤ M_ ∧ Below VA.heap.size VA w' ∧ EA w' VA.heap.size (.slice s.2.1 s.2.2.1 s.2.2.2) (LD es h s.1)) ((0, none, 0, 0) : Nat × Option Addr × Nat × Nat) ⟨Nat.zero_le _, Below.refl _ _, EA.nil _ _⟩ (by kernel_rfl) ?_
  rintro ⟨i, a, k, d⟩ v4 ⟨hi, BV, U⟩
  dsimp only at hi U
  have zV := BV.size
  have B0 := Below.refl v4.heap.size v4
  refine gc_seq ?_
  refine gc_seq ?_
  refine gc_reg ?_
  refine t 13 (.int .i64 (i : Int)) ?_
  refine t 14 (.slice av M_ cv) ?_
  refine t 15 (.int .i64 ((M_ : Nat) : Int)) ?_
  by_cases ci : (i : Int) < ((M_ : Nat) : Int)
  · have hk_i : i < M_ := by omega
    obtain ⟨ei, hei⟩ : ∃ x, es[i]? = some x := ⟨es[i], List.getElem?_eq_getElem (by omega)⟩
    have hce : VA.cell? ⟨pb, 0 + i * 2, none⟩ = some ei.kv ∧ VA.cell? ⟨pb, 0 + i * 2 + 1, none⟩ = some ei.vv := by
      have ha := hao (by omega)
      subst ha
      rw [Nat.zero_add]
      exact ⟨(P.cells hei).1, (P.cells hei).2.1⟩
    refine tq 16 (.bool (decide ((i : Int) < ((M_ : Nat) : Int)))) (.bool true) (congrArg Value.bool (decide_eq_true ci)) ?_
    refine gl_nil ?_
    refine ge_then ?_
    refine gc_yes ?_
    refine gc_skip ?_
    refine ge_then ?_
    refine gc_seq ?_
    refine gc_block ?_
    refine gc_seq ?_
    refine gc_reg ?_
    refine t 20 (.slice av M_ cv) ?_
    refine t 21 (.int .i64 (i : Int)) ?_
    refine tr 22 (pq pb (0 + i * 2)) (run_ixa 2 pb 0 M_ cv i hk_i hao) ?_
    refine tr 23 (.agg #[ei.kv, ei.vv]) (run_ldP (cellB BV hce.1) (cellB BV hce.2)) ?_
    refine tc 24 133 #[.agg #[ei.kv, ei.vv]] (rentry (r := 14) frm_u14 (by decide) (by decide) (ByU.of (OB.keep (P.ents _ (List.mem_of_getElem? hei)).k BV)) (hfr _ (List.mem_of_getElem? hei)).2.1 (hfr _ (List.mem_of_getElem? hei)).2.2 (hfr _ (List.mem_of_getElem? hei)).1 (ByU.of (OB.keep (P.ents _ (List.mem_of_getElem? hei)).v BV))) ?_
    rintro _ v5 ⟨rfl, B⟩
    refine ⟨_, rfl, ?_⟩
    replace BV := joinB BV B
    replace B0 := joinB B0 B
    clear B
    refine t 19 (.tuple #[.agg #[.int .i64 (14 : Nat), .int .u64 (Ky.rdA 14 ei.kl), .int .u64 (Ky.rdB ei.kl)], .agg #[.int .u64 (Ky.rdB ei.kl), .int .i64 (wrap64 (numB ei.vl))]]) ?_
    refine t 25 (.agg #[.int .i64 (14 : Nat), .int .u64 (Ky.rdA 14 ei.kl), .int .u64 (Ky.rdB ei.kl)]) ?_
    refine t 26 (.agg #[.int .u64 (Ky.rdB ei.kl), .int .i64 (wrap64 (numB ei.vl))]) ?_
    refine ta 8 [.int .i64 0, .int .u64 0, .int .u64 0] 104 (pg) ?_
    intro v6 g7 Xg7 hg7 B
    have zBVg7 := Nat.le_trans BV.size hg7
    have zB0g7 := Nat.le_trans B0.size hg7
    replace BV := joinB BV B
    replace B0 := joinB B0 B
    clear B
    have lXg7 := Xg7.lt
    refine ta 9 [.int .u64 0, .int .i64 0] 64 (pg) ?_
    intro v8 g9 Xg9 hg9 B
    have zBVg9 := Nat.le_trans BV.size hg9
    have zB0g9 := Nat.le_trans B0.size hg9
    replace BV := joinB BV B
    replace B0 := joinB B0 B
    replace Xg7 := Xg7.keep B
    clear B
    refine ts Xg7 0 (.agg #[.int .i64 (14 : Nat), .int .u64 (Ky.rdA 14 ei.kl), .int .u64 (Ky.rdB ei.kl)]) [.int .i64 (14 : Nat), .int .u64 (Ky.rdA 14 ei.kl), .int .u64 (Ky.rdB ei.kl)] [.int .i64 (14 : Nat), .int .u64 (Ky.rdA 14 ei.kl), .int .u64 (Ky.rdB ei.kl)] ?_
    intro v10 Y C
    replace BV := belowC BV C (by omega)
    replace B0 := belowC B0 C (by omega)
    replace Xg9 := Xg9.chg C (show g9 ≠ g7 by omega)
    clear C Xg7
    have Xg7 := Y
    clear Y
    refine ts Xg9 0 (.agg #[.int .u64 (Ky.rdB ei.kl), .int .i64 (wrap64 (numB ei.vl))]) [.int .u64 (Ky.rdB ei.kl), .int .i64 (wrap64 (numB ei.vl))] [.int .u64 (Ky.rdB ei.kl), .int .i64 (wrap64 (numB ei.vl))] ?_
    intro v11 Y C
    replace BV := belowC BV C (by omega)
    replace B0 := belowC B0 C (by omega)
    replace Xg7 := Xg7.chg C (show g7 ≠ g9 by omega)
    clear C Xg9
    have Xg9 := Y
    clear Y
    refine gl_nil ?_
    refine ge_then ?_
    refine gc_fr [(1, .int .u64 h), (5, .slice a k d), (6, .slice av M_ cv), (7, .int .i64 (i : Int)), (8, pg g7), (9, pg g9), (13, .int .i64 (i : Int)), (14, .slice av M_ cv), (15, .int .i64 ((M_ : Nat) : Int)), (16, .bool true), (19, .tuple #[.agg #[.int .i64 (14 : Nat), .int .u64 (Ky.rdA 14 ei.kl), .int .u64 (Ky.rdB ei.kl)], .agg #[.int .u64 (Ky.rdB ei.kl), .int .i64 (wrap64 (numB ei.vl))]]), (20, .slice av M_ cv), (21, .int .i64 (i : Int)), (22, pq pb (0 + i * 2)), (23, .agg #[ei.kv, ei.vv]), (24, .tuple #[.agg #[.int .i64 (14 : Nat), .int .u64 (Ky.rdA 14 ei.kl), .int .u64 (Ky.rdB ei.kl)], .agg #[.int .u64 (Ky.rdB ei.kl), .int .i64 (wrap64 (numB ei.vl))]]), (25, .agg #[.int .i64 (14 : Nat), .int .u64 (Ky.rdA 14 ei.kl), .int .u64 (Ky.rdB ei.kl)]), (26, .agg #[.int .u64 (Ky.rdB ei.kl), .int .i64 (wrap64 (numB ei.vl))])] (by kernel_rfl) ?_
    refine gc_seq ?_
    refine gc_reg ?_
    refine t 27 (pq g7 1) ?_
    refine tl 28 (.int .u64 (Ky.rdA 14 ei.kl)) Xg7 1 ?_
    refine t 29 (.int .u64 h) ?_
    by_cases c12 : (Ky.rdA 14 ei.kl : Int) ≤ h
    · refine tq 30 (.bool (decide ((Ky.rdA 14 ei.kl : Int) ≤ h))) (.bool true) (congrArg Value.bool (decide_eq_true c12)) ?_
      refine gl_nil ?_
      refine ge_then ?_
      refine gc_yes ?_
      refine gc_reg ?_
      refine t 31 (.slice a k d) ?_
      refine tlr 32 [.int .u64 (Ky.rdB ei.kl), .int .i64 (wrap64 (numB ei.vl))] Xg9 0 ?_
      have lXg7 := Xg7.lt
      have lXg9 := Xg9.lt
      refine ta 33 [.int .u64 (Ky.rdB ei.kl), .int .i64 (wrap64 (numB ei.vl))] 64 (sg 1) ?_
      intro v13 g14 Xg14 hg14 B
      have zBVg14 := Nat.le_trans BV.size hg14
      have zB0g14 := Nat.le_trans B0.size hg14
      replace BV := joinB BV B
      replace B0 := joinB B0 B
      replace Xg7 := Xg7.keep B
      replace Xg9 := Xg9.keep B
      clear B
      have zC := B0.size
      have hll := LD_len es h i
      obtain ⟨v5, w5, hr5, U5, C5⟩ := app_e (p := entp ei) (a := ⟨g14, 0, none⟩) 70 (U.keep B0) (by omega) (by omega) (Xg14.cell (i := 0) rfl) (Xg14.cell (i := 1) rfl)
      obtain ⟨a5, c5, rfl⟩ := U5.shape
      obtain ⟨k5, hk5⟩ : ∃ k, ((LD es h i) ++ [entp ei]).length = k := ⟨_, rfl⟩
      rw [hk5] at U5 hr5
      refine tw 34 (.slice a5 k5 c5) _ (run_apE hr5) ?_
      have BV5 : Below VA.heap.size VA w5 := BV.trans (C5.below (fun b h => by omega) BV.size)
      clear BV B0 Xg7 Xg9 Xg14
      refine t 5 (.slice a5 k5 c5) ?_
      refine gl_nil ?_
      refine ge_bn ?_
      refine ge_then ?_
      refine gc_reg ?_
      refine t 17 (.int .i64 (i : Int)) ?_
      refine tq 18 (.int .i64 (IntKind.i64.wrap ((i : Int) + 1))) (.int .i64 ((i : Int) + 1)) (wi (by omega)) ?_
      refine t 7 (.int .i64 ((i : Int) + 1)) ?_
      refine gl_nil ?_
      rw [← LD_yes hei c12] at U5
      exact ge_round ((i + 1, a5, k5, c5) : Nat × Option Addr × Nat × Nat) (by show M_ - (i + 1) < M_ - i; omega) ⟨hk_i, BV5, U5⟩ (by kernel_rfl)
    · refine tq 30 (.bool (decide ((Ky.rdA 14 ei.kl : Int) ≤ h))) (.bool false) (congrArg Value.bool (decide_eq_false c12)) ?_
      refine gl_nil ?_
      refine ge_then ?_
      refine gc_no ?_
      refine gc_skip ?_
      refine ge_bn ?_
      refine ge_then ?_
      refine gc_reg ?_
      refine t 17 (.int .i64 (i : Int)) ?_
      refine tq 18 (.int .i64 (IntKind.i64.wrap ((i : Int) + 1))) (.int .i64 ((i : Int) + 1)) (wi (by omega)) ?_
      refine t 7 (.int .i64 ((i : Int) + 1)) ?_
      refine gl_nil ?_
      exact ge_round ((i + 1, a, k, d) : Nat × Option Addr × Nat × Nat) (by show M_ - (i + 1) < M_ - i; omega) ⟨hk_i, BV, by show EA _ _ _ (LD es h (i + 1)); rw [LD_no hei c12]; exact U.keep B0⟩ (by kernel_rfl)
  · refine tq 16 (.bool (decide ((i : Int) < ((M_ : Nat) : Int)))) (.bool false) (congrArg Value.bool (decide_eq_false ci)) ?_
    refine gl_nil ?_
    refine ge_then ?_
    refine gc_no ?_
    refine gc_exit ?_
    refine ge_tx ?_
    refine ge_tx ?_
    refine ge_bx ?_
    refine ge_then ?_
    refine gc_seq ?_
    refine gc_reg ?_
    refine t 35 (.slice a k d) ?_
    refine t 4 (.slice a k d) ?_
    refine gl_nil ?_
    refine ge_then ?_
    refine gc_ret ?_
    refine ge_ret (.slice a k d) (rs1 4 (by kernel_rfl) (by kernel_rfl)) ?_
    have hN : LD es h i = upto E (p14 h) := by
      unfold LD upto
      rw [List.take_of_length_le (by omega), ← Kys.upto hKy hh, ← show es.map En.kl2 = E.filter (fun y => decide ([113] <+: y.1)) from he, List.filter_map, List.map_map]
      rfl
    rw [hN] at U
    exact ⟨_, rfl, EA.low (EA.keep U B0) (by have := C.size; have := BB.size; omega), Y, n1, S.keep BV, hn1, fun b hb => (hY b hb).imp id (fun h => Nat.le_trans BB.size h), ((Chg.of (F := fun x => x = q) BB).trans C (fun _ _ h => h)).trans (Chg.of (F := fun x => x = q) BV) (fun _ _ h => h)⟩
theorem rfrom {B : Nat} {w : World} {X : Nat → Prop} {q : Nat} {E : Ents} {n : Nat} {h : Int} (h0 : Rx B w X q E n) (hh : Uq h) (hKy : Kys E) (hn : n ≤ 3000000000000000000) (hm : E.length ≤ 100000) : Calls Tryz.prog 76 #[pg q, .int .u64 h] w (REntE B w X q E n (under E (p15 h))) := by
  have hRk := hKy.k15 hh
  have BB := Below.refl w.heap.size w
  refine gc_enter (n := 39) Tryz.func76 rfl (by kernel_rfl) (by kernel_rfl) ?_
  refine gc_seq ?_
  refine gc_reg ?_
  refine t 4 (.slice none 0 0) ?_
  refine gl_nil ?_
  refine ge_then ?_
  refine gc_seq ?_
  refine gc_reg ?_
  refine t 5 (.slice none 0 0) ?_
  refine gl_nil ?_
  refine ge_then ?_
  refine gc_seq ?_
  refine gc_reg ?_
  refine t 13 (.int .u64 h) ?_
  refine tc 14 134 #[.int .i64 15, .int .u64 h] (runder_u (k := 15) hh.1 hh.2 (by decide)) ?_
  rintro _ v1 ⟨u, rfl, U1, B⟩
  refine ⟨_, rfl, ?_⟩
  replace BB := joinB BB B
  clear B
  refine t 12 (.tuple #[u, .int .i64 0]) ?_
  refine t 15 (u) ?_
  refine t 16 (.int .i64 0) ?_
  refine t 6 (u) ?_
  refine t 7 (.int .i64 0) ?_
  refine gl_nil ?_
  refine ge_then ?_
  refine gc_seq ?_
  refine gc_reg ?_
  refine t 17 (pg q) ?_
  refine t 18 (u) ?_
  refine tc 19 132 #[pg q, u] (all9 (h0.keep BB) U1 (Nat.le_trans (Ky.mkb_len _ _) (by decide)) hn (by omega)) ?_
  rintro _ v2 ⟨vl, es, rfl, P, he, Y, n1, S, hn1, hY, C⟩
  refine ⟨_, rfl, ?_⟩
  obtain ⟨av, cv, rfl⟩ := P.shape
  have hml : es.length ≤ E.length := by
    have := congrArg List.length he
    rw [List.length_map] at this
    rw [this]
    exact List.length_filter_le _ _
  have hfr : ∀ x ∈ es, Ky.frm (15 : Nat) = Ky.fIn x.kl ∧ x.kl.length ≤ 1000000000 ∧ 0 < x.kl.length := fun x hx => by
    have hm2 : x.kl2 ∈ E.filter (fun y => decide (p15 h <+: y.1)) := by rw [← show es.map En.kl2 = E.filter (fun y => decide (p15 h <+: y.1)) from he]; exact List.mem_map.2 ⟨x, hx, rfl⟩
    have h1 := of_decide_eq_true (List.mem_filter.1 hm2).2
    exact ⟨hRk _ (List.mem_filter.1 hm2).1 h1, (S.rs.small _ (List.mem_filter.1 hm2).1).1, show 1 ≤ x.kl.length from Nat.le_trans (by rw [p15_eq]; simp) h1.length_le⟩
  obtain ⟨M_, hm0⟩ : ∃ m, es.length = m := ⟨_, rfl⟩
  obtain ⟨pb, hao⟩ : ∃ pb, 0 < M_ → av = some ⟨pb, 0, none⟩ := by
    rcases P.ex with ⟨_, e1⟩ | ⟨b, c, e1, _⟩
    · exact ⟨0, fun h => by rw [e1] at hm0; simp at hm0; omega⟩
    · exact ⟨b, fun _ => by cases e1; rfl⟩
  rw [hm0]
  refine t 8 (.slice av M_ cv) ?_
  refine gl_nil ?_
  refine ge_then ?_
  refine gc_fr [(4, .slice none 0 0), (5, .slice none 0 0), (8, .slice av M_ cv)] (by kernel_rfl) ?_
  refine gc_seq ?_
  refine gc_seq ?_
  refine gc_reg ?_
  refine t 9 (.int .i64 0) ?_
  refine gl_nil ?_
  refine ge_then ?_
  refine gc_block ?_
  obtain ⟨VA, hVA⟩ : ∃ V, v2 = V := ⟨_, rfl⟩
  rw [hVA] at P S C ⊢
  refine gc_loop (fun s => M_ - s.1) (fun (s : Nat × Option Addr × Nat × Nat) => [(5, .slice s.2.1 s.2.2.1 s.2.2.2), (8, .slice av M_ cv), (9, .int .i64 (s.1 : Int))]) (fun s w' => s.1 ≤ M_ ∧ Below VA.heap.size VA w' ∧ EA w' VA.heap.size (.slice s.2.1 s.2.2.1 s.2.2.2) (LF es s.1)) ((0, none, 0, 0) : Nat × Option Addr × Nat × Nat) ⟨Nat.zero_le _, Below.refl _ _, EA.nil _ _⟩ (by kernel_rfl) ?_
  rintro ⟨i, a, k, d⟩ v3 ⟨hi, BV, U⟩
  dsimp only at hi U
  have zV := BV.size
  have B0 := Below.refl v3.heap.size v3
  refine gc_seq ?_
  refine gc_seq ?_
  refine gc_reg ?_
  refine t 20 (.int .i64 (i : Int)) ?_
  refine t 21 (.slice av M_ cv) ?_
  refine t 22 (.int .i64 ((M_ : Nat) : Int)) ?_
  by_cases ci : (i : Int) < ((M_ : Nat) : Int)
  · have hk_i : i < M_ := by omega
    obtain ⟨ei, hei⟩ : ∃ x, es[i]? = some x := ⟨es[i], List.getElem?_eq_getElem (by omega)⟩
    have hce : VA.cell? ⟨pb, 0 + i * 2, none⟩ = some ei.kv ∧ VA.cell? ⟨pb, 0 + i * 2 + 1, none⟩ = some ei.vv := by
      have ha := hao (by omega)
      subst ha
      rw [Nat.zero_add]
      exact ⟨(P.cells hei).1, (P.cells hei).2.1⟩
    refine tq 23 (.bool (decide ((i : Int) < ((M_ : Nat) : Int)))) (.bool true) (congrArg Value.bool (decide_eq_true ci)) ?_
    refine gl_nil ?_
    refine ge_then ?_
    refine gc_yes ?_
    refine gc_skip ?_
    refine ge_then ?_
    refine gc_seq ?_
    refine gc_block ?_
    refine gc_seq ?_
    refine gc_reg ?_
    refine t 27 (.slice av M_ cv) ?_
    refine t 28 (.int .i64 (i : Int)) ?_
    refine tr 29 (pq pb (0 + i * 2)) (run_ixa 2 pb 0 M_ cv i hk_i hao) ?_
    refine tr 30 (.agg #[ei.kv, ei.vv]) (run_ldP (cellB BV hce.1) (cellB BV hce.2)) ?_
    refine tc 31 133 #[.agg #[ei.kv, ei.vv]] (rentry (r := 15) frm_u15 (by decide) (by decide) (ByU.of (OB.keep (P.ents _ (List.mem_of_getElem? hei)).k BV)) (hfr _ (List.mem_of_getElem? hei)).2.1 (hfr _ (List.mem_of_getElem? hei)).2.2 (hfr _ (List.mem_of_getElem? hei)).1 (ByU.of (OB.keep (P.ents _ (List.mem_of_getElem? hei)).v BV))) ?_
    rintro _ v4 ⟨rfl, B⟩
    refine ⟨_, rfl, ?_⟩
    replace BV := joinB BV B
    replace B0 := joinB B0 B
    clear B
    refine t 26 (.tuple #[.agg #[.int .i64 (15 : Nat), .int .u64 (Ky.rdA 15 ei.kl), .int .u64 (Ky.rdB ei.kl)], .agg #[.int .u64 (Ky.rdB ei.kl), .int .i64 (wrap64 (numB ei.vl))]]) ?_
    refine t 32 (.agg #[.int .i64 (15 : Nat), .int .u64 (Ky.rdA 15 ei.kl), .int .u64 (Ky.rdB ei.kl)]) ?_
    refine t 33 (.agg #[.int .u64 (Ky.rdB ei.kl), .int .i64 (wrap64 (numB ei.vl))]) ?_
    refine ta 10 [.int .i64 0, .int .u64 0, .int .u64 0] 104 (pg) ?_
    intro v5 g6 Xg6 hg6 B
    have zBVg6 := Nat.le_trans BV.size hg6
    have zB0g6 := Nat.le_trans B0.size hg6
    replace BV := joinB BV B
    replace B0 := joinB B0 B
    clear B
    have lXg6 := Xg6.lt
    refine ta 11 [.int .u64 0, .int .i64 0] 64 (pg) ?_
    intro v7 g8 Xg8 hg8 B
    have zBVg8 := Nat.le_trans BV.size hg8
    have zB0g8 := Nat.le_trans B0.size hg8
    replace BV := joinB BV B
    replace B0 := joinB B0 B
    replace Xg6 := Xg6.keep B
    clear B
    refine ts Xg6 0 (.agg #[.int .i64 (15 : Nat), .int .u64 (Ky.rdA 15 ei.kl), .int .u64 (Ky.rdB ei.kl)]) [.int .i64 (15 : Nat), .int .u64 (Ky.rdA 15 ei.kl), .int .u64 (Ky.rdB ei.kl)] [.int .i64 (15 : Nat), .int .u64 (Ky.rdA 15 ei.kl), .int .u64 (Ky.rdB ei.kl)] ?_
    intro v9 Y C
    replace BV := belowC BV C (by omega)
    replace B0 := belowC B0 C (by omega)
    replace Xg8 := Xg8.chg C (show g8 ≠ g6 by omega)
    clear C Xg6
    have Xg6 := Y
    clear Y
    refine ts Xg8 0 (.agg #[.int .u64 (Ky.rdB ei.kl), .int .i64 (wrap64 (numB ei.vl))]) [.int .u64 (Ky.rdB ei.kl), .int .i64 (wrap64 (numB ei.vl))] [.int .u64 (Ky.rdB ei.kl), .int .i64 (wrap64 (numB ei.vl))] ?_
    intro v10 Y C
    replace BV := belowC BV C (by omega)
    replace B0 := belowC B0 C (by omega)
    replace Xg6 := Xg6.chg C (show g6 ≠ g8 by omega)
    clear C Xg8
    have Xg8 := Y
    clear Y
    refine gl_nil ?_
    refine ge_then ?_
    refine gc_fr [(5, .slice a k d), (8, .slice av M_ cv), (9, .int .i64 (i : Int)), (10, pg g6), (11, pg g8), (20, .int .i64 (i : Int)), (21, .slice av M_ cv), (22, .int .i64 ((M_ : Nat) : Int)), (23, .bool true), (26, .tuple #[.agg #[.int .i64 (15 : Nat), .int .u64 (Ky.rdA 15 ei.kl), .int .u64 (Ky.rdB ei.kl)], .agg #[.int .u64 (Ky.rdB ei.kl), .int .i64 (wrap64 (numB ei.vl))]]), (27, .slice av M_ cv), (28, .int .i64 (i : Int)), (29, pq pb (0 + i * 2)), (30, .agg #[ei.kv, ei.vv]), (31, .tuple #[.agg #[.int .i64 (15 : Nat), .int .u64 (Ky.rdA 15 ei.kl), .int .u64 (Ky.rdB ei.kl)], .agg #[.int .u64 (Ky.rdB ei.kl), .int .i64 (wrap64 (numB ei.vl))]]), (32, .agg #[.int .i64 (15 : Nat), .int .u64 (Ky.rdA 15 ei.kl), .int .u64 (Ky.rdB ei.kl)]), (33, .agg #[.int .u64 (Ky.rdB ei.kl), .int .i64 (wrap64 (numB ei.vl))])] (by kernel_rfl) ?_
    refine gc_reg ?_
    refine t 34 (.slice a k d) ?_
    refine tlr 35 [.int .u64 (Ky.rdB ei.kl), .int .i64 (wrap64 (numB ei.vl))] Xg8 0 ?_
    have lXg6 := Xg6.lt
    have lXg8 := Xg8.lt
    refine ta 36 [.int .u64 (Ky.rdB ei.kl), .int .i64 (wrap64 (numB ei.vl))] 64 (sg 1) ?_
    intro v11 g12 Xg12 hg12 B
    have zBVg12 := Nat.le_trans BV.size hg12
    have zB0g12 := Nat.le_trans B0.size hg12
    replace BV := joinB BV B
    replace B0 := joinB B0 B
    replace Xg6 := Xg6.keep B
    replace Xg8 := Xg8.keep B
    clear B
    have zC := B0.size
    have hll := LF_len es i
    obtain ⟨v5, w5, hr5, U5, C5⟩ := app_e (p := entp ei) (a := ⟨g12, 0, none⟩) 70 (U.keep B0) (by omega) (by omega) (Xg12.cell (i := 0) rfl) (Xg12.cell (i := 1) rfl)
    obtain ⟨a5, c5, rfl⟩ := U5.shape
    obtain ⟨k5, hk5⟩ : ∃ k, ((LF es i) ++ [entp ei]).length = k := ⟨_, rfl⟩
    rw [hk5] at U5 hr5
    refine tw 37 (.slice a5 k5 c5) _ (run_apE hr5) ?_
    have BV5 : Below VA.heap.size VA w5 := BV.trans (C5.below (fun b h => by omega) BV.size)
    clear BV B0 Xg6 Xg8 Xg12
    refine t 5 (.slice a5 k5 c5) ?_
    refine gl_nil ?_
    refine ge_bn ?_
    refine ge_then ?_
    refine gc_reg ?_
    refine t 24 (.int .i64 (i : Int)) ?_
    refine tq 25 (.int .i64 (IntKind.i64.wrap ((i : Int) + 1))) (.int .i64 ((i : Int) + 1)) (wi (by omega)) ?_
    refine t 9 (.int .i64 ((i : Int) + 1)) ?_
    refine gl_nil ?_
    rw [← LF_yes hei] at U5
    exact ge_round ((i + 1, a5, k5, c5) : Nat × Option Addr × Nat × Nat) (by show M_ - (i + 1) < M_ - i; omega) ⟨hk_i, BV5, U5⟩ (by kernel_rfl)
  · refine tq 23 (.bool (decide ((i : Int) < ((M_ : Nat) : Int)))) (.bool false) (congrArg Value.bool (decide_eq_false ci)) ?_
    refine gl_nil ?_
    refine ge_then ?_
    refine gc_no ?_
    refine gc_exit ?_
    refine ge_tx ?_
    refine ge_tx ?_
    refine ge_bx ?_
    refine ge_then ?_
    refine gc_seq ?_
    refine gc_reg ?_
    refine t 38 (.slice a k d) ?_
    refine t 4 (.slice a k d) ?_
    refine gl_nil ?_
    refine ge_then ?_
    refine gc_ret ?_
    refine ge_ret (.slice a k d) (rs1 4 (by kernel_rfl) (by kernel_rfl)) ?_
    have hN : LF es i = under E (p15 h) := by
      unfold LF under
      rw [List.take_of_length_le (by omega), ← show es.map En.kl2 = E.filter (fun y => decide (p15 h <+: y.1)) from he, List.map_map]
      rfl
    rw [hN] at U
    exact ⟨_, rfl, EA.low (EA.keep U B0) (by have := C.size; have := BB.size; omega), Y, n1, S.keep BV, hn1, fun b hb => (hY b hb).imp id (fun h => Nat.le_trans BB.size h), ((Chg.of (F := fun x => x = q) BB).trans C (fun _ _ h => h)).trans (Chg.of (F := fun x => x = q) BV) (fun _ _ h => h)⟩
structure EntF (B : Nat) (w : World) (K : Nat → Prop) (g : Nat) (E : Ents) (W : List Ents) (n N : Nat) (l : List (Int × Int)) (e : Ending) (w' : World) : Prop where
  ex : ∃ v n', e = .returned v ∧ EA w' w.heap.size v l ∧ Sx B w' K g E W n' N ∧ n ≤ n' ∧ n' ≤ n + 1 + N ∧ l.length ≤ N ∧ Chg (· = g) w w'
theorem due_x {B : Nat} {w : World} {K : Nat → Prop} {g : Nat} {E : Ents} {W : List Ents} {n N : Nat} {v : Int} (h : Sx B w K g E W n N) (hv : Uq v) (hK : Kys E) (hN : N ≤ 100000000) (hx : n + N ≤ 2000000000000000000) : Calls Tryz.prog 32 #[pg g, .int .u64 v] w (EntF B w K g E W n N (upto E (p14 v))) := by
  refine (due_sa h.sa hv (Nat.le_trans (Ky.mkb_len _ _) (by decide)) (hK.k14 hv) hN hx).mono ?_
  rintro e w' ⟨u, j, rfl, hE, rfl, S, C⟩
  have hl : (upto E (p14 v)).length ≤ N := by
    refine Nat.le_trans ?_ h.sa.size
    unfold upto
    rw [List.length_map]
    exact List.length_filter_le _ _
  exact ⟨u, _, rfl, hE, ⟨S, Nat.le_trans h.lo C.size, h.kb⟩, by omega, by have : (upto E (Ky.mkb (Ky.frm 14) (Ky.tn 14 v))).length ≤ N := hl; omega, hl, C⟩
theorem from_x {B : Nat} {w : World} {K : Nat → Prop} {g : Nat} {E : Ents} {W : List Ents} {n N : Nat} {v : Int} (h : Sx B w K g E W n N) (hv : Uq v) (hK : Kys E) (hN : N ≤ 100000000) (hx : n + N ≤ 2000000000000000000) : Calls Tryz.prog 33 #[pg g, .int .u64 v] w (EntF B w K g E W n N (under E (p15 v))) := by
  refine (from_sa h.sa hv (Nat.le_trans (Ky.mkb_len _ _) (by decide)) (hK.k15 hv) hN hx).mono ?_
  rintro e w' ⟨u, j, rfl, hE, rfl, S, C⟩
  have hl : (under E (p15 v)).length ≤ N := by
    refine Nat.le_trans ?_ h.sa.size
    unfold under
    rw [List.length_map]
    exact List.length_filter_le _ _
  exact ⟨u, _, rfl, hE, ⟨S, Nat.le_trans h.lo C.size, h.kb⟩, by omega, by have : (under E (Ky.mkb (Ky.frm 15) (Ky.tn 15 v))).length ≤ N := hl; omega, hl, C⟩
end Qu
end Go.Proofs.YtliajmpchofiiaaGreat

namespace Go.Proofs.YtliajmpchofiiaaGreat
namespace Qu
open Go.RowKit Go.Lib Pg Lim Gl Kv Bk Pw
attribute [local go_sem] Oper.semAt_some
set_option maxRecDepth 100000
set_option linter.unusedVariables false
set_option linter.unusedSimpArgs false
set_option maxHeartbeats 2000000
def bgE (x : Int) : Ents := put [] (Ky.mk 2 0 0) (pv 3 x)
def kE0 : Ents := bgE 7
def kE1 : Ents := beginE kE0 12 (uv 20 16 0 5 0 9) 20 16 5
def kE2 : Ents := beginE kE1 13 (mv 20 16 17 0 4 0 0) 20 16 4
def kE3 : Ents := lessU kE2 7 4
def kE4 : Ents := fewM kE3 8 3
def kE5 : Ents := dropE kE4 8 13
theorem kf1 : nxtB (chn kE0) = 7 := by decide +kernel
theorem kf2 : nxtB (chn kE1) = 8 := by decide +kernel
theorem kf3 : cntQ kE2 20 16 = 2 := by decide +kernel
theorem kf4 : (Kv.look kE2 (Ky.mk 12 7 0)).isSome = true := by decide +kernel
theorem kf5 : (Kv.look kE3 (Ky.mk 12 8 0)).isSome = false ∧ lessU kE3 8 4 = kE3 := by decide +kernel
theorem kf6 : (Kv.look kE3 (Ky.mk 13 8 0)).isSome = true := by decide +kernel
theorem kf7 : (Kv.look kE4 (Ky.mk 13 7 0)).isSome = false ∧ fewM kE4 7 0 = kE4 := by decide +kernel
theorem kf8 : ((Kv.look kE4 (Ky.mk 12 7 0)).isSome = true ∧ uX (got kE4 (Ky.mk 12 7 0)) 0 = 20 ∧ uX (got kE4 (Ky.mk 12 7 0)) 1 = 16) ∧ (uX (got kE4 (Ky.mk 12 7 0)) 2 = 0 ∧ uX (got kE4 (Ky.mk 12 7 0)) 3 = 5) ∧ (uX (got kE4 (Ky.mk 12 7 0)) 4 = 0 ∧ uX (got kE4 (Ky.mk 12 7 0)) 5 = 4) := by decide +kernel
theorem kf9 : ((Kv.look kE4 (Ky.mk 13 8 0)).isSome = true ∧ mX (got kE4 (Ky.mk 13 8 0)) 0 = 20 ∧ mX (got kE4 (Ky.mk 13 8 0)) 1 = 16) ∧ (mX (got kE4 (Ky.mk 13 8 0)) 2 = 17 ∧ mX (got kE4 (Ky.mk 13 8 0)) 3 = 0) ∧ (mX (got kE4 (Ky.mk 13 8 0)) 4 = 4 ∧ mX (got kE4 (Ky.mk 13 8 0)) 5 = 0) ∧ mX (got kE4 (Ky.mk 13 8 0)) 6 = 3 := by decide +kernel
theorem kf10 : upto kE4 (p14 5) = [(8, 13), (7, 12)] := by decide +kernel
theorem kf11 : upto kE4 (p14 4) = [(8, 13)] := by decide +kernel
theorem kf12 : under kE4 (p15 16) = [(7, 12), (8, 13)] := by decide +kernel
theorem kf13 : dropB kE4 8 12 = false ∧ dropE kE4 8 12 = kE4 := by decide +kernel
theorem kf14 : dropB kE4 8 13 = true ∧ cntQ kE5 20 16 = 1 := by decide +kernel
theorem bg_qs {x : Int} (hx : Uq x) : Qs (bgE x) x [] := by
  have L : ∀ {k a b : Int}, Ok k a b → Kv.look (bgE x) (Ky.mk k a b) = if 2 = k ∧ 0 = a ∧ 0 = b then some (pv 3 x) else none := fun ho => by
    unfold bgE
    rw [lkp List.Pairwise.nil ok2 ho]
    rfl
  have hch : chn (bgE x) = pv 3 x := by
    unfold chn got
    rw [L ok2, if_pos (by simp)]
    rfl
  obtain ⟨p1, p2⟩ := pv_back2 (x := 3) (y := x) (by decide) hx
  refine ⟨Rise.put List.Pairwise.nil _ _, keys_put (fun _ h => by cases h) ok2, by rw [hch]; exact p2, by rw [hch, p1]; decide, hx.1, List.Pairwise.nil, (fun _ h => by cases h), (fun _ h => by cases h), ?_, ?_, ?_, ?_⟩
  · intro k i hk hi _
    rw [L (okr hk hi), if_neg (by omega)]
  · intro d i hd hi v
    rw [L (ok14 hd hi), if_neg (by omega)]
    exact ⟨(fun h => by cases h), (fun ⟨_, h, _⟩ => by cases h)⟩
  · intro d i hd hi v
    rw [L (ok15 hd hi), if_neg (by omega)]
    exact ⟨(fun h => by cases h), (fun ⟨_, h, _⟩ => by cases h)⟩
  · intro a b ha hb
    rw [L (ok17 ha hb), if_neg (by omega)]
    rfl
theorem kys4 : Kys kE4 := by
  have h0 := bg_qs (x := 7) (by decide)
  have h1 : Qs kE1 (7 + 1) [⟨7, 12, 20, 16, 5⟩] := h0.begin (by decide) (by decide) (e := ⟨7, 12, 20, 16, 5⟩) rfl (.inl rfl) (by decide) (by decide) (by decide) (r := uv 20 16 0 5 0 9) ⟨(fun _ => by decide +kernel), (fun h => by cases h)⟩
  have h2 : Qs kE2 (7 + 1 + 1) [⟨7, 12, 20, 16, 5⟩, ⟨8, 13, 20, 16, 4⟩] := h1.begin (by decide) (by decide) (e := ⟨8, 13, 20, 16, 4⟩) rfl (.inr rfl) (by decide) (by decide) (by decide) (r := mv 20 16 17 0 4 0 0) ⟨(fun h => by cases h), (fun _ => by decide +kernel)⟩
  have o1 : Oct (got kE2 (Ky.mk 12 7 0)) := by unfold Oct; decide +kernel
  have h3 : Qs kE3 (7 + 1 + 1) _ := h2.less (id := 7) (y := 4) (by decide) (by decide) (by decide) o1
  have o2 : Oct (got kE3 (Ky.mk 13 8 0)) := by unfold Oct; decide +kernel
  exact (h3.few (id := 8) (y := 3) (by decide) (by decide) (by decide) o2).keys
theorem SxE.cast {B : Nat} {w : World} {K : Nat → Prop} {g : Nat} {E : Ents} {W : List Ents} {n N : Nat} {E' : Ents} {r r' : Value} {P : Nat} {args : Array Value} (h : Calls Tryz.prog P args w (SxE B w K g E W n N r)) (hE : E = E') (hr : r = r') : Calls Tryz.prog P args w (SxE B w K g E' W n N r') := by subst hE hr; exact h
theorem SxF.cast {B : Nat} {w : World} {K : Nat → Prop} {g : Nat} {E : Ents} {W : List Ents} {n N : Nat} {E' : Ents} {r r' : Value} {P : Nat} {args : Array Value} (h : Calls Tryz.prog P args w (SxF B w K g E W n N r)) (hE : E = E') (hr : r = r') : Calls Tryz.prog P args w (SxF B w K g E' W n N r') := by subst hE hr; exact h
theorem EntF.cast {B : Nat} {w : World} {K : Nat → Prop} {g : Nat} {E : Ents} {W : List Ents} {n N : Nat} {l l' : List (Int × Int)} {P : Nat} {args : Array Value} (h : Calls Tryz.prog P args w (EntF B w K g E W n N l)) (hl : l = l') : Calls Tryz.prog P args w (EntF B w K g E W n N l') := by subst hl; exact h
structure FndV (B : Nat) (w : World) (K : Nat → Prop) (g : Nat) (E : Ents) (W : List Ents) (n N : Nat) (x0 x1 x2 x3 x4 x5 x6 : Int) (b : Bool) (e : Ending) (w' : World) : Prop where
  ex : ∃ a6 n6 c6, e = .returned (.tuple #[.agg #[.int .u64 x0, .int .u64 x1, .int .u64 x2, .int .u64 x3, .int .u64 x4, .int .u64 x5, .slice a6 n6 c6], .bool b]) ∧ ∃ z6 K', Sx B w' K' g E W n N ∧ (∀ b, K' b → K b ∨ w.heap.size ≤ b) ∧ Chg K w w' ∧ Nq w' K' z6 a6 n6 c6 x6 ∧ n6 ≤ 510 ∧ (n6 = 0 ∨ w.heap.size ≤ z6)
theorem FndM.val {B : Nat} {w : World} {K : Nat → Prop} {g : Nat} {E : Ents} {W : List Ents} {n N : Nat} {L : List Int} {x0 x1 x2 x3 x4 x5 x6 : Int} {b b' : Bool} {P : Nat} {args : Array Value} (h : Calls Tryz.prog P args w (FndM B w K g E W n N L b)) (h0 : mX L 0 = x0) (h1 : mX L 1 = x1) (h2 : mX L 2 = x2) (h3 : mX L 3 = x3) (h4 : mX L 4 = x4) (h5 : mX L 5 = x5) (h6 : mX L 6 = x6) (hb : b = b') : Calls Tryz.prog P args w (FndV B w K g E W n N x0 x1 x2 x3 x4 x5 x6 b') := by
  subst h0 h1 h2 h3 h4 h5 h6 hb
  exact h.mono fun e w' h => ⟨h.ex⟩
theorem nk_nil (w : World) (K : Nat → Prop) : Nk w K 0 none 0 0 0 := ⟨.inl rfl, .inl rfl, fun w' _ => (natO_nil w').a⟩
theorem n3_lit {w : World} {b : Nat} (c : w.cell? ⟨b, 0, none⟩ = some (.int .u64 3)) : NatO w (some ⟨b, 0, none⟩) 1 1 3 := ⟨b, 0, [3], rfl, Nat.le_refl _, by refine ⟨fun y hy => ?_, by rfl, by decide⟩; simp at hy; subst hy; decide, ⟨.inr rfl, fun i hi => by
    obtain rfl : i = 0 := by simp at hi; omega
    exact c⟩⟩
theorem nk_3 {w : World} {K : Nat → Prop} {b : Nat} (X : Blk w b [.int .u64 3] 27) (hK : ¬ K b) : Nk w K b (some ⟨b, 0, none⟩) 1 1 3 := ⟨.inr X.lt, .inr hK, fun w' h => (n3_lit (by rw [World.cell?_of_block (w := w) (h (by decide))]; exact X.cell (i := 0) rfl)).a⟩
theorem run_nqU {ρ : Operand → Value} {w : World} {o : Oper} {x0 x1 x2 x3 x4 x5 : Int} (ho : ∃ u v, o.op = .binOp .neq 46 u v 46 ∧ ρ u = .agg #[.int .u64 x0, .int .u64 x1, .int .u64 x2, .int .u64 x3, .int .u64 x4, .int .u64 x5] ∧ ρ v = .agg #[.int .u64 x0, .int .u64 x1, .int .u64 x2, .int .u64 x3, .int .u64 x4, .int .u64 x5] := by exact ⟨_, _, rfl, by kernel_rfl, by kernel_rfl⟩) : (execOp ρ o).run Tryz.prog w = .ok (.value (.bool false)) w := by
  obtain ⟨u, v, h, e1, e2⟩ := ho
  simp only [execOp, h, e1, e2]
  go_simp
theorem run_eqU {ρ : Operand → Value} {w : World} {o : Oper} {x0 x1 x2 x3 x4 x5 : Int} (ho : ∃ u v, o.op = .binOp .eql 46 u v 46 ∧ ρ u = .agg #[.int .u64 x0, .int .u64 x1, .int .u64 x2, .int .u64 x3, .int .u64 x4, .int .u64 x5] ∧ ρ v = .agg #[.int .u64 x0, .int .u64 x1, .int .u64 x2, .int .u64 x3, .int .u64 x4, .int .u64 x5] := by exact ⟨_, _, rfl, by kernel_rfl, by kernel_rfl⟩) : (execOp ρ o).run Tryz.prog w = .ok (.value (.bool true)) w := by
  obtain ⟨u, v, h, e1, e2⟩ := ho
  simp only [execOp, h, e1, e2]
  go_simp
theorem begun_any {w : World} {x : Int} : Calls Tryz.prog 14 #[.int .u64 x] w fun e w' => ∃ Bz g K, e = .returned (pg g) ∧ Sx Bz w' K g (bgE x) [] 1 2 ∧ w.heap.size ≤ Bz ∧ (∀ b, K b → Bz ≤ b) ∧ Below w.heap.size w w' := by
  have BB := Below.refl w.heap.size w
  refine gc_enter (n := 19) Tryz.func14 rfl (by kernel_rfl) (by kernel_rfl) ?_
  refine gc_seq ?_
  refine gc_reg ?_
  refine t 2 (.pointer none) ?_
  refine gl_nil ?_
  refine ge_then ?_
  refine gc_seq ?_
  refine gc_reg ?_
  obtain ⟨Bz, hBz⟩ : ∃ Bz, Bz = (w).heap.size := ⟨_, rfl⟩
  have hwB : w.heap.size ≤ Bz := by rw [hBz]; exact BB.size
  refine tc 6 13 #[] (snewP Bz hBz) ?_
  rintro _ v1 ⟨g0, K0, rfl, S0, hK0, B0⟩
  refine ⟨_, rfl, ?_⟩
  replace BB := joinB BB B0
  have A := S0.at
  clear S0
  refine t 3 (pg g0) ?_
  refine gl_nil ?_
  refine ge_then ?_
  refine gc_seq ?_
  refine gc_reg ?_
  refine t 8 (.agg #[.int .i64 2, .int .u64 0, .int .u64 0]) ?_
  refine tc 9 49 #[.agg #[.int .i64 2, .int .u64 0, .int .u64 0]] (mk_key (k := 2) (a := 0) (b := 0) (by decide) mkE2) ?_
  rintro _ v4 ⟨kv3, rfl, U2, B⟩
  refine ⟨_, rfl, ?_⟩
  replace BB := joinB BB B
  replace A := A.keep B
  clear B
  refine t 7 (.tuple #[kv3, .int .i64 0]) ?_
  refine t 10 (kv3) ?_
  refine t 11 (.int .i64 0) ?_
  refine t 4 (kv3) ?_
  refine t 5 (.int .i64 0) ?_
  refine gl_nil ?_
  refine ge_then ?_
  refine gc_seq ?_
  refine gc_reg ?_
  refine t 12 (pg g0) ?_
  refine t 13 (kv3) ?_
  refine t 14 (.int .u64 x) ?_
  refine t 15 (.agg #[.int .u64 3, .int .u64 x]) ?_
  refine tc 16 51 #[.agg #[.int .u64 3, .int .u64 x]] (put_chain) ?_
  rintro _ v7 ⟨pv6, rfl, U5, B⟩
  refine ⟨_, rfl, ?_⟩
  replace BB := joinB BB B
  replace A := A.keep B
  replace U2 := byu_keep U2 B
  clear B
  refine tc 17 50 #[pg g0, kv3, pv6] (qset A.sx U2 mkE2 U5 (Nat.le_trans (pv_len _ _) (by decide)) (by omega) (by omega)) ?_
  rintro _ v9 ⟨rfl, K8, S, hK, hC⟩
  refine ⟨_, rfl, ?_⟩
  replace BB := belowO BB hC (fun b hb => Nat.le_trans hwB (A.sx.kb b hb))
  replace U2 := A.byu U2 hC
  replace U5 := A.byu U5 hC
  replace A := A.op S hK hC
  clear S hK hC
  clear U2
  clear U5
  refine gl_nil ?_
  refine ge_then ?_
  refine gc_fr [(2, .pointer none), (3, pg g0)] (by kernel_rfl) ?_
  refine gc_seq ?_
  refine gc_reg ?_
  refine t 18 (pg g0) ?_
  refine t 2 (pg g0) ?_
  refine gl_nil ?_
  refine ge_then ?_
  refine gc_ret ?_
  refine ge_ret (pg g0) (rs1 2 (by kernel_rfl) (by kernel_rfl)) ?_
  exact ⟨_, _, _, rfl, A.sx, hwB, fun b hb => A.sx.kb b hb, BB⟩
end Qu
end Go.Proofs.YtliajmpchofiiaaGreat

namespace Go.Proofs.YtliajmpchofiiaaGreat
namespace Qu
open Go.RowKit Go.Lib Pg Lim Gl Kv Bk Pw
attribute [local go_sem] Oper.semAt_some
set_option maxRecDepth 100000
set_option linter.unusedVariables false
set_option linter.unusedSimpArgs false
set_option maxHeartbeats 2000000
theorem kU : (.tuple #[.agg #[.int .u64 (uX (got kE4 (Ky.mk 12 7 0)) 0), .int .u64 (uX (got kE4 (Ky.mk 12 7 0)) 1), .int .u64 (uX (got kE4 (Ky.mk 12 7 0)) 2), .int .u64 (uX (got kE4 (Ky.mk 12 7 0)) 3), .int .u64 (uX (got kE4 (Ky.mk 12 7 0)) 4), .int .u64 (uX (got kE4 (Ky.mk 12 7 0)) 5)], .bool (Kv.look kE4 (Ky.mk 12 7 0)).isSome] : Value) = .tuple #[.agg #[.int .u64 20, .int .u64 16, .int .u64 0, .int .u64 5, .int .u64 0, .int .u64 4], .bool true] := by
  obtain ⟨⟨a, b, c⟩, ⟨d, e⟩, f, g⟩ := kf8
  rw [a, b, c, d, e, f, g]
theorem known12 {w : World} : Calls Tryz.prog 11 #[] w fun e w' => e = .returned (.bool true) ∧ Below w.heap.size w w' := by
  have BB := Below.refl w.heap.size w
  refine gc_enter (n := 119) Tryz.func11 rfl (by kernel_rfl) (by kernel_rfl) ?_
  refine gc_seq ?_
  refine gc_reg ?_
  refine t 0 (.bool false) ?_
  refine gl_nil ?_
  refine ge_then ?_
  refine gc_seq ?_
  refine gc_reg ?_
  refine tc 10 14 #[.int .u64 7] (begun_any) ?_
  rintro _ v1 ⟨Bz, g0, K0, rfl, S0, hwB, hK0, B0⟩
  refine ⟨_, rfl, ?_⟩
  replace BB := joinB BB B0
  clear B0
  have A := S0.at
  clear S0
  refine t 1 (pg g0) ?_
  refine gl_nil ?_
  refine ge_then ?_
  refine gc_seq ?_
  refine gc_seq ?_
  refine gc_reg ?_
  refine t 11 (pg g0) ?_
  refine t 12 (.bool false) ?_
  refine gl_nil ?_
  refine ge_then ?_
  refine gc_no ?_
  refine gc_skip ?_
  refine ge_then ?_
  refine gc_seq ?_
  refine gc_reg ?_
  refine t 13 (pg g0) ?_
  refine t 14 (.agg #[.int .u64 20, .int .u64 16, .int .u64 0, .int .u64 5, .int .u64 0, .int .u64 9]) ?_
  refine tc 15 18 #[pg g0, .agg #[.int .u64 20, .int .u64 16, .int .u64 0, .int .u64 5, .int .u64 0, .int .u64 9]] (SxE.cast (E' := kE1) (unbond_any (E := kE0) A.sx (by decide) (by decide) (by decide) (by omega) (by omega)) rfl (congrArg (Value.int .u64) kf1)) ?_
  rintro _ v3 ⟨rfl, K2, S, hK, hC⟩
  refine ⟨_, rfl, ?_⟩
  replace BB := belowO BB hC (fun b hb => Nat.le_trans hwB (A.sx.kb b hb))
  replace A := A.op S hK hC
  clear S hK hC
  refine t 2 (.int .u64 7) ?_
  refine gl_nil ?_
  refine ge_then ?_
  refine gc_seq ?_
  refine gc_reg ?_
  refine t 16 (pg g0) ?_
  refine t 17 (.agg #[.int .u64 20, .int .u64 16, .int .u64 17, .int .u64 0, .int .u64 4, .int .u64 0, .slice none 0 0]) ?_
  refine tc 18 20 #[pg g0, .agg #[.int .u64 20, .int .u64 16, .int .u64 17, .int .u64 0, .int .u64 4, .int .u64 0, .slice none 0 0]] (SxE.cast (E' := kE2) (move_any (E := kE1) A.sx (by decide) (by decide) (by decide) (nk_nil _ _) (by decide) (by omega) (by omega)) rfl (congrArg (Value.int .u64) kf2)) ?_
  rintro _ v5 ⟨rfl, K4, S, hK, hC⟩
  refine ⟨_, rfl, ?_⟩
  replace BB := belowO BB hC (fun b hb => Nat.le_trans hwB (A.sx.kb b hb))
  replace A := A.op S hK hC
  clear S hK hC
  refine t 3 (.int .u64 8) ?_
  refine gl_nil ?_
  refine ge_then ?_
  refine gc_fr [(0, .bool false), (1, pg g0), (2, .int .u64 7), (3, .int .u64 8)] (by kernel_rfl) ?_
  refine gc_seq ?_
  refine gc_seq ?_
  refine gc_reg ?_
  refine t 19 (.int .u64 7) ?_
  refine t 20 (.bool false) ?_
  refine t 21 (.bool false) ?_
  refine t 22 (.int .u64 8) ?_
  refine t 23 (.bool false) ?_
  refine t 24 (.bool false) ?_
  refine t 25 (.bool false) ?_
  refine t 26 (pg g0) ?_
  refine tc 27 34 #[pg g0, .int .u64 20, .int .u64 16] (SxE.cast (E := kE2) (count_get A.sx (by decide) (by omega) (by omega)) rfl (congrArg (Value.int .u64) kf3)) ?_
  rintro _ v7 ⟨rfl, K6, S, hK, hC⟩
  refine ⟨_, rfl, ?_⟩
  replace BB := belowO BB hC (fun b hb => Nat.le_trans hwB (A.sx.kb b hb))
  replace A := A.op S hK hC
  clear S hK hC
  refine t 28 (.bool false) ?_
  refine t 29 (.bool false) ?_
  refine t 30 (.bool false) ?_
  refine t 31 (pg g0) ?_
  refine tc 32 22 #[pg g0, .int .u64 7, .int .u64 4] (SxF.cast (E' := kE3) (less_any (E := kE2) A.sx (by decide) (by omega) (by omega)) rfl (congrArg Value.bool kf4)) ?_
  rintro _ v12 ⟨rfl, K8, n9, N10, S, qn9, qN10, hK, hC⟩
  refine ⟨_, rfl, ?_⟩
  replace BB := belowO BB hC (fun b hb => Nat.le_trans hwB (A.sx.kb b hb))
  replace A := A.op S hK hC
  clear S hK hC
  refine t 33 (.bool false) ?_
  refine t 34 (.bool false) ?_
  refine t 35 (.bool false) ?_
  refine t 36 (pg g0) ?_
  refine tc 37 22 #[pg g0, .int .u64 8, .int .u64 4] (SxF.cast (less_any (E := kE3) A.sx (by decide) (by omega) (by omega)) kf5.2 (congrArg Value.bool kf5.1)) ?_
  rintro _ v17 ⟨rfl, K13, n14, N15, S, qn14, qN15, hK, hC⟩
  refine ⟨_, rfl, ?_⟩
  replace BB := belowO BB hC (fun b hb => Nat.le_trans hwB (A.sx.kb b hb))
  replace A := A.op S hK hC
  clear S hK hC
  refine t 38 (.bool false) ?_
  refine t 39 (.bool false) ?_
  refine t 40 (pg g0) ?_
  refine ta 41 [.int .u64 3] 27 (sg 1) ?_
  intro v18 g19 Xg19 hg19 B
  have yg19 := Nat.le_trans BB.size hg19
  have zg19 := Nat.le_trans A.size hg19
  have nXg19 := A.new hg19
  replace BB := joinB BB B
  replace A := A.keep B
  clear B
  refine t 42 (.agg #[sg 1 g19]) ?_
  refine tc 43 24 #[pg g0, .int .u64 8, .agg #[sg 1 g19]] (SxF.cast (E' := kE4) (fewer_any (E := kE3) A.sx (by decide) (nk_3 Xg19 nXg19) (by decide) (by omega) (by omega)) rfl (congrArg Value.bool kf6)) ?_
  rintro _ v24 ⟨rfl, K20, n21, N22, S, qn21, qN22, hK, hC⟩
  refine ⟨_, rfl, ?_⟩
  replace BB := belowO BB hC (fun b hb => Nat.le_trans hwB (A.sx.kb b hb))
  have mXg19 := not_op Xg19 nXg19 hK
  replace Xg19 := Xg19.chg hC nXg19
  replace nXg19 := mXg19
  clear mXg19
  replace A := A.op S hK hC
  clear S hK hC
  refine t 44 (.bool false) ?_
  refine t 45 (.bool false) ?_
  refine t 46 (.bool false) ?_
  refine t 47 (pg g0) ?_
  refine t 48 (.agg #[.slice none 0 0]) ?_
  refine tc 49 24 #[pg g0, .int .u64 7, .agg #[.slice none 0 0]] (SxF.cast (fewer_any (E := kE4) A.sx (by decide) (nk_nil _ _) (by decide) (by omega) (by omega)) kf7.2 (congrArg Value.bool kf7.1)) ?_
  rintro _ v29 ⟨rfl, K25, n26, N27, S, qn26, qN27, hK, hC⟩
  refine ⟨_, rfl, ?_⟩
  replace BB := belowO BB hC (fun b hb => Nat.le_trans hwB (A.sx.kb b hb))
  have mXg19 := not_op Xg19 nXg19 hK
  replace Xg19 := Xg19.chg hC nXg19
  replace nXg19 := mXg19
  clear mXg19
  replace A := A.op S hK hC
  clear S hK hC
  refine t 50 (.bool false) ?_
  refine gl_nil ?_
  refine ge_then ?_
  clear Xg19
  refine gc_fr [(0, .bool false), (1, pg g0), (50, .bool false)] (by kernel_rfl) ?_
  refine gc_no ?_
  refine gc_skip ?_
  refine ge_then ?_
  refine gc_seq ?_
  refine gc_reg ?_
  refine t 52 (pg g0) ?_
  refine tc 53 37 #[pg g0, .int .u64 7] (SxE.cast (unbonding_any (E := kE4) A.sx (by decide) (by omega) (by omega)) rfl kU) ?_
  rintro _ v31 ⟨rfl, K30, S, hK, hC⟩
  refine ⟨_, rfl, ?_⟩
  replace BB := belowO BB hC (fun b hb => Nat.le_trans hwB (A.sx.kb b hb))
  replace A := A.op S hK hC
  clear S hK hC
  refine t 51 (.tuple #[.agg #[.int .u64 20, .int .u64 16, .int .u64 0, .int .u64 5, .int .u64 0, .int .u64 4], .bool true]) ?_
  refine t 54 (.agg #[.int .u64 20, .int .u64 16, .int .u64 0, .int .u64 5, .int .u64 0, .int .u64 4]) ?_
  refine t 55 (.bool true) ?_
  refine ta 4 [.int .u64 0, .int .u64 0, .int .u64 0, .int .u64 0, .int .u64 0, .int .u64 0] 46 (pg) ?_
  intro v32 g33 Xg33 hg33 B
  have yg33 := Nat.le_trans BB.size hg33
  have zg33 := Nat.le_trans A.size hg33
  have nXg33 := A.new hg33
  replace BB := joinB BB B
  replace A := A.keep B
  clear B
  refine ts Xg33 0 (.agg #[.int .u64 20, .int .u64 16, .int .u64 0, .int .u64 5, .int .u64 0, .int .u64 4]) [.int .u64 20, .int .u64 16, .int .u64 0, .int .u64 5, .int .u64 0, .int .u64 4] [.int .u64 20, .int .u64 16, .int .u64 0, .int .u64 5, .int .u64 0, .int .u64 4] ?_
  intro v34 Y C
  replace BB := belowC BB C (by omega)
  replace A := Bk.At.cell A Xg33 C zg33 nXg33 (by decide)
  clear C Xg33
  have Xg33 := Y
  clear Y
  refine t 5 (.bool true) ?_
  refine gl_nil ?_
  refine ge_then ?_
  refine gc_seq ?_
  refine gc_reg ?_
  refine t 57 (pg g0) ?_
  have szA := A.sx.sa.lt A.sx.sa.top
  refine tc 58 38 #[pg g0, .int .u64 8] (FndM.val (moving_any (E := kE4) A.sx (by decide) (by omega) (by omega)) kf9.1.2.1 kf9.1.2.2 kf9.2.1.1 kf9.2.1.2 kf9.2.2.1.1 kf9.2.2.1.2 kf9.2.2.2 kf9.1.1) ?_
  rintro _ v37 ⟨ak, nk, ck, rfl, zk, K36, S, hK, hC, Qk, mk, hzk⟩
  refine ⟨_, rfl, ?_⟩
  replace BB := belowO BB hC (fun b hb => Nat.le_trans hwB (A.sx.kb b hb))
  have mXg33 := not_op Xg33 nXg33 hK
  replace Xg33 := Xg33.chg hC nXg33
  replace nXg33 := mXg33
  clear mXg33
  replace A := A.op S hK hC
  clear S hK hC
  refine t 56 (.tuple #[.agg #[.int .u64 20, .int .u64 16, .int .u64 17, .int .u64 0, .int .u64 4, .int .u64 0, .slice ak nk ck], .bool true]) ?_
  refine t 59 (.agg #[.int .u64 20, .int .u64 16, .int .u64 17, .int .u64 0, .int .u64 4, .int .u64 0, .slice ak nk ck]) ?_
  refine t 60 (.bool true) ?_
  have lXg33 := Xg33.lt
  have lQk := Qk.lt
  refine ta 6 [.int .u64 0, .int .u64 0, .int .u64 0, .int .u64 0, .int .u64 0, .int .u64 0, .slice none 0 0] 51 (pg) ?_
  intro v38 g39 Xg39 hg39 B
  have yg39 := Nat.le_trans BB.size hg39
  have zg39 := Nat.le_trans A.size hg39
  have nXg39 := A.new hg39
  replace BB := joinB BB B
  replace A := A.keep B
  replace Xg33 := Xg33.keep B
  replace Qk := Qk.keep B
  clear B
  refine ts Xg39 0 (.agg #[.int .u64 20, .int .u64 16, .int .u64 17, .int .u64 0, .int .u64 4, .int .u64 0, .slice ak nk ck]) [.int .u64 20, .int .u64 16, .int .u64 17, .int .u64 0, .int .u64 4, .int .u64 0, .slice ak nk ck] [.int .u64 20, .int .u64 16, .int .u64 17, .int .u64 0, .int .u64 4, .int .u64 0, .slice ak nk ck] ?_
  intro v40 Y C
  replace BB := belowC BB C (by omega)
  replace A := Bk.At.cell A Xg39 C zg39 nXg39 (by decide)
  replace Xg33 := Xg33.chg C (show g33 ≠ g39 by omega)
  replace Qk := Qk.cell C (show nk = 0 ∨ zk ≠ g39 by omega)
  clear C Xg39
  have Xg39 := Y
  clear Y
  refine t 7 (.bool true) ?_
  refine gl_nil ?_
  refine ge_then ?_
  refine gc_fr [(0, .bool false), (1, pg g0), (4, pg g33), (5, .bool true), (6, pg g39), (7, .bool true)] (by kernel_rfl) ?_
  refine gc_seq ?_
  refine gc_seq ?_
  refine gc_reg ?_
  refine t 61 (.bool true) ?_
  refine t 62 (.bool false) ?_
  refine t 63 (.bool false) ?_
  refine t 64 (.bool true) ?_
  refine t 65 (.bool false) ?_
  refine t 66 (.bool false) ?_
  refine t 67 (.bool false) ?_
  refine tlr 68 [.int .u64 20, .int .u64 16, .int .u64 0, .int .u64 5, .int .u64 0, .int .u64 4] Xg33 0 ?_
  refine t 69 (.agg #[.int .u64 20, .int .u64 16, .int .u64 0, .int .u64 5, .int .u64 0, .int .u64 4]) ?_
  refine tr 70 (.bool false) (run_nqU (x0 := 20) (x1 := 16) (x2 := 0) (x3 := 5) (x4 := 0) (x5 := 4)) ?_
  refine t 71 (.bool false) ?_
  refine t 72 (.bool false) ?_
  refine tlr 73 [.int .u64 20, .int .u64 16, .int .u64 17, .int .u64 0, .int .u64 4, .int .u64 0, .slice ak nk ck] Xg39 0 ?_
  have lXg33 := Xg33.lt
  have lQk := Qk.lt
  have lXg39 := Xg39.lt
  refine ta 74 [.int .u64 3] 27 (sg 1) ?_
  intro v41 g42 Xg42 hg42 B
  have yg42 := Nat.le_trans BB.size hg42
  have zg42 := Nat.le_trans A.size hg42
  have nXg42 := A.new hg42
  replace BB := joinB BB B
  replace A := A.keep B
  replace Xg33 := Xg33.keep B
  replace Qk := Qk.keep B
  replace Xg39 := Xg39.keep B
  clear B
  refine t 75 (.agg #[sg 1 g42]) ?_
  refine t 76 (.agg #[.int .u64 20, .int .u64 16, .int .u64 17, .int .u64 0, .int .u64 4, .int .u64 0, sg 1 g42]) ?_
  refine tc 77 39 #[.agg #[.int .u64 20, .int .u64 16, .int .u64 17, .int .u64 0, .int .u64 4, .int .u64 0, .slice ak nk ck], .agg #[.int .u64 20, .int .u64 16, .int .u64 17, .int .u64 0, .int .u64 4, .int .u64 0, sg 1 g42]] (move_same Qk.o (n3_lit (Xg42.cell (i := 0) rfl)) (Nat.le_trans mk (by decide)) (by decide)) ?_
  rintro _ v43 ⟨rfl, B⟩
  refine ⟨_, rfl, ?_⟩
  replace BB := joinB BB B
  replace A := A.keep B
  replace Xg33 := Xg33.keep B
  replace Qk := Qk.keep B
  replace Xg39 := Xg39.keep B
  replace Xg42 := Xg42.keep B
  clear B
  clear Qk
  refine t 78 (.bool false) ?_
  refine t 79 (.bool false) ?_
  refine gl_nil ?_
  refine ge_then ?_
  clear Xg33
  clear Xg39
  clear Xg42
  refine gc_fr [(0, .bool false), (1, pg g0), (79, .bool false)] (by kernel_rfl) ?_
  refine gc_no ?_
  refine gc_skip ?_
  refine ge_then ?_
  refine gc_seq ?_
  refine gc_reg ?_
  refine tr 80 (.agg #[.int .u64 7, .int .i64 12]) (run_bE) ?_
  refine tr 81 (.agg #[.int .u64 8, .int .i64 13]) (run_bE) ?_
  refine ta 8 [.int .u64 0, .int .i64 0] 64 (pg) ?_
  intro v44 g45 Xg45 hg45 B
  have yg45 := Nat.le_trans BB.size hg45
  have zg45 := Nat.le_trans A.size hg45
  have nXg45 := A.new hg45
  replace BB := joinB BB B
  replace A := A.keep B
  clear B
  have lXg45 := Xg45.lt
  refine ta 9 [.int .u64 0, .int .i64 0] 64 (pg) ?_
  intro v46 g47 Xg47 hg47 B
  have yg47 := Nat.le_trans BB.size hg47
  have zg47 := Nat.le_trans A.size hg47
  have nXg47 := A.new hg47
  replace BB := joinB BB B
  replace A := A.keep B
  replace Xg45 := Xg45.keep B
  clear B
  refine ts Xg45 0 (.agg #[.int .u64 7, .int .i64 12]) [.int .u64 7, .int .i64 12] [.int .u64 7, .int .i64 12] ?_
  intro v48 Y C
  replace BB := belowC BB C (by omega)
  replace A := Bk.At.cell A Xg45 C zg45 nXg45 (by decide)
  replace Xg47 := Xg47.chg C (show g47 ≠ g45 by omega)
  clear C Xg45
  have Xg45 := Y
  clear Y
  refine ts Xg47 0 (.agg #[.int .u64 8, .int .i64 13]) [.int .u64 8, .int .i64 13] [.int .u64 8, .int .i64 13] ?_
  intro v49 Y C
  replace BB := belowC BB C (by omega)
  replace A := Bk.At.cell A Xg47 C zg47 nXg47 (by decide)
  replace Xg45 := Xg45.chg C (show g45 ≠ g47 by omega)
  clear C Xg47
  have Xg47 := Y
  clear Y
  refine gl_nil ?_
  refine ge_then ?_
  refine gc_seq ?_
  replace BB := BB.drew
  replace A := A.drew
  replace Xg45 := Xg45.drew
  replace Xg47 := Xg47.drew
  refine gc_draw (fun w' => Blk w' g47 [.int .u64 8, .int .i64 13] 64 ∧ Blk w' g45 [.int .u64 7, .int .i64 12] 64) (fun _ => false) ⟨Xg47, Xg45⟩ ?_
  refine z 0 82 (pg g0) ?_
  refine zlr 2 84 [.int .u64 8, .int .i64 13] (fun _ h => h.1) 0 ?_
  refine zlr 3 85 [.int .u64 7, .int .i64 12] (fun _ h => h.2) 0 ?_
  refine gz_ready [1, 4] ?_
  have lgn83 := A.sx.sa.lt A.sx.sa.top
  refine ga_call 1 (some 83) 32 #[pg g0, .int .u64 5] (EntF.cast (due_x (E := kE4) A.sx (by decide) kys4 (by omega) (by omega)) kf10) ?_ ?_
  · rintro _ v50 ⟨va, n83, rfl, Ua, S, qn83a, qn83b, qn83c, C⟩
    have hC := C.mono (fun b _ (e : b = g0) => e ▸ A.sx.sa.top)
    replace BB := belowO BB hC (fun b hb => Nat.le_trans hwB (A.sx.kb b hb))
    have mXg45 := not_op Xg45 nXg45 (fun _ h => .inl h)
    replace Xg45 := Xg45.chg hC nXg45
    replace nXg45 := mXg45
    clear mXg45
    have mXg47 := not_op Xg47 nXg47 (fun _ h => .inl h)
    replace Xg47 := Xg47.chg hC nXg47
    replace nXg47 := mXg47
    clear mXg47
    replace A := A.op S (fun _ h => .inl h) hC
    clear S hC C
    refine ⟨_, rfl, ⟨Xg47, Xg45⟩, ?_⟩
    have lXg45 := Xg45.lt
    have lXg47 := Xg47.lt
    refine za 4 86 [.int .u64 8, .int .i64 13, .int .u64 7, .int .i64 12] 64 (sg 2) ?_
    intro v51 g52 Xg52 hg52 B
    have yg52 := Nat.le_trans BB.size hg52
    have zg52 := Nat.le_trans A.size hg52
    have nXg52 := A.new hg52
    replace BB := joinB BB B
    replace A := A.keep B
    replace Xg45 := Xg45.keep B
    replace Xg47 := Xg47.keep B
    replace Ua := Ua.keep B
    clear B
    refine ⟨⟨Xg47, Xg45⟩, ?_⟩
    refine zc 5 87 47 #[va, sg 2 g52] (entries_ea Ua (ea_lit [(8, 13), (7, 12)] Xg52 rfl (Nat.zero_le _) (by decide)) (by decide)) ?_
    rintro _ v53 ⟨rfl, B⟩
    replace BB := joinB BB B
    replace A := A.keep B
    replace Xg45 := Xg45.keep B
    replace Xg47 := Xg47.keep B
    replace Ua := Ua.keep B
    replace Xg52 := Xg52.keep B
    clear B
    clear Ua
    refine ⟨_, rfl, ⟨Xg47, Xg45⟩, ?_⟩
    refine z 6 88 (.bool true) ?_
    refine z 7 89 (pg g0) ?_
    refine zlr 9 91 [.int .u64 8, .int .i64 13] (fun _ h => h.1) 0 ?_
    refine gz_ready [8, 10] ?_
    have lgn90 := A.sx.sa.lt A.sx.sa.top
    refine ga_call 8 (some 90) 32 #[pg g0, .int .u64 4] (EntF.cast (due_x (E := kE4) A.sx (by decide) kys4 (by omega) (by omega)) kf11) ?_ ?_
    · rintro _ v54 ⟨vb, n90, rfl, Ub, S, qn90a, qn90b, qn90c, C⟩
      have hC := C.mono (fun b _ (e : b = g0) => e ▸ A.sx.sa.top)
      replace BB := belowO BB hC (fun b hb => Nat.le_trans hwB (A.sx.kb b hb))
      have mXg45 := not_op Xg45 nXg45 (fun _ h => .inl h)
      replace Xg45 := Xg45.chg hC nXg45
      replace nXg45 := mXg45
      clear mXg45
      have mXg47 := not_op Xg47 nXg47 (fun _ h => .inl h)
      replace Xg47 := Xg47.chg hC nXg47
      replace nXg47 := mXg47
      clear mXg47
      have mXg52 := not_op Xg52 nXg52 (fun _ h => .inl h)
      replace Xg52 := Xg52.chg hC nXg52
      replace nXg52 := mXg52
      clear mXg52
      replace A := A.op S (fun _ h => .inl h) hC
      clear S hC C
      refine ⟨_, rfl, ⟨Xg47, Xg45⟩, ?_⟩
      have lXg45 := Xg45.lt
      have lXg47 := Xg47.lt
      have lXg52 := Xg52.lt
      refine za 10 92 [.int .u64 8, .int .i64 13] 64 (sg 1) ?_
      intro v55 g56 Xg56 hg56 B
      have yg56 := Nat.le_trans BB.size hg56
      have zg56 := Nat.le_trans A.size hg56
      have nXg56 := A.new hg56
      replace BB := joinB BB B
      replace A := A.keep B
      replace Xg45 := Xg45.keep B
      replace Xg47 := Xg47.keep B
      replace Xg52 := Xg52.keep B
      replace Ub := Ub.keep B
      clear B
      refine ⟨⟨Xg47, Xg45⟩, ?_⟩
      refine zc 11 93 47 #[vb, sg 1 g56] (entries_ea Ub (ea_lit [(8, 13)] Xg56 rfl (Nat.zero_le _) (by decide)) (by decide)) ?_
      rintro _ v57 ⟨rfl, B⟩
      replace BB := joinB BB B
      replace A := A.keep B
      replace Xg45 := Xg45.keep B
      replace Xg47 := Xg47.keep B
      replace Xg52 := Xg52.keep B
      replace Ub := Ub.keep B
      replace Xg56 := Xg56.keep B
      clear B
      clear Ub
      refine ⟨_, rfl, ⟨Xg47, Xg45⟩, ?_⟩
      refine z 12 94 (.bool true) ?_
      refine z 13 95 (.bool true) ?_
      refine z 14 96 (pg g0) ?_
      refine zlr 16 98 [.int .u64 7, .int .i64 12] (fun _ h => h.2) 0 ?_
      refine zlr 17 99 [.int .u64 8, .int .i64 13] (fun _ h => h.1) 0 ?_
      refine gz_ready [15, 18] ?_
      have lgn97 := A.sx.sa.lt A.sx.sa.top
      refine ga_call 15 (some 97) 33 #[pg g0, .int .u64 16] (EntF.cast (from_x (E := kE4) A.sx (by decide) kys4 (by omega) (by omega)) kf12) ?_ ?_
      · rintro _ v58 ⟨vc, n97, rfl, Uc, S, qn97a, qn97b, qn97c, C⟩
        have hC := C.mono (fun b _ (e : b = g0) => e ▸ A.sx.sa.top)
        replace BB := belowO BB hC (fun b hb => Nat.le_trans hwB (A.sx.kb b hb))
        have mXg45 := not_op Xg45 nXg45 (fun _ h => .inl h)
        replace Xg45 := Xg45.chg hC nXg45
        replace nXg45 := mXg45
        clear mXg45
        have mXg47 := not_op Xg47 nXg47 (fun _ h => .inl h)
        replace Xg47 := Xg47.chg hC nXg47
        replace nXg47 := mXg47
        clear mXg47
        have mXg52 := not_op Xg52 nXg52 (fun _ h => .inl h)
        replace Xg52 := Xg52.chg hC nXg52
        replace nXg52 := mXg52
        clear mXg52
        have mXg56 := not_op Xg56 nXg56 (fun _ h => .inl h)
        replace Xg56 := Xg56.chg hC nXg56
        replace nXg56 := mXg56
        clear mXg56
        replace A := A.op S (fun _ h => .inl h) hC
        clear S hC C
        refine ⟨_, rfl, ⟨Xg47, Xg45⟩, ?_⟩
        have lXg45 := Xg45.lt
        have lXg47 := Xg47.lt
        have lXg52 := Xg52.lt
        have lXg56 := Xg56.lt
        refine za 18 100 [.int .u64 7, .int .i64 12, .int .u64 8, .int .i64 13] 64 (sg 2) ?_
        intro v59 g60 Xg60 hg60 B
        have yg60 := Nat.le_trans BB.size hg60
        have zg60 := Nat.le_trans A.size hg60
        have nXg60 := A.new hg60
        replace BB := joinB BB B
        replace A := A.keep B
        replace Xg45 := Xg45.keep B
        replace Xg47 := Xg47.keep B
        replace Xg52 := Xg52.keep B
        replace Xg56 := Xg56.keep B
        replace Uc := Uc.keep B
        clear B
        refine ⟨⟨Xg47, Xg45⟩, ?_⟩
        refine zc 19 101 47 #[vc, sg 2 g60] (entries_ea Uc (ea_lit [(7, 12), (8, 13)] Xg60 rfl (Nat.zero_le _) (by decide)) (by decide)) ?_
        rintro _ v61 ⟨rfl, B⟩
        replace BB := joinB BB B
        replace A := A.keep B
        replace Xg45 := Xg45.keep B
        replace Xg47 := Xg47.keep B
        replace Xg52 := Xg52.keep B
        replace Xg56 := Xg56.keep B
        replace Uc := Uc.keep B
        replace Xg60 := Xg60.keep B
        clear B
        clear Uc
        refine ⟨_, rfl, ⟨Xg47, Xg45⟩, ?_⟩
        refine z 20 102 (.bool true) ?_
        refine z 21 103 (.bool true) ?_
        refine z 22 104 (pg g0) ?_
        refine zr 23 105 (.agg #[.int .u64 8, .int .i64 12]) (fun _ _ => run_bE) ?_
        refine zc 24 106 26 #[pg g0, .agg #[.int .u64 8, .int .i64 12]] (SxF.cast (drop_any (E := kE4) A.sx (by decide) (by omega) (by omega)) kf13.2 (congrArg Value.bool kf13.1)) ?_
        rintro _ v66 ⟨rfl, K62, n63, N64, S, qn63, qN64, hK, hC⟩
        replace BB := belowO BB hC (fun b hb => Nat.le_trans hwB (A.sx.kb b hb))
        have mXg45 := not_op Xg45 nXg45 hK
        replace Xg45 := Xg45.chg hC nXg45
        replace nXg45 := mXg45
        clear mXg45
        have mXg47 := not_op Xg47 nXg47 hK
        replace Xg47 := Xg47.chg hC nXg47
        replace nXg47 := mXg47
        clear mXg47
        have mXg52 := not_op Xg52 nXg52 hK
        replace Xg52 := Xg52.chg hC nXg52
        replace nXg52 := mXg52
        clear mXg52
        have mXg56 := not_op Xg56 nXg56 hK
        replace Xg56 := Xg56.chg hC nXg56
        replace nXg56 := mXg56
        clear mXg56
        have mXg60 := not_op Xg60 nXg60 hK
        replace Xg60 := Xg60.chg hC nXg60
        replace nXg60 := mXg60
        clear mXg60
        replace A := A.op S hK hC
        clear S hK hC
        refine ⟨_, rfl, ⟨Xg47, Xg45⟩, ?_⟩
        refine z 25 107 (.bool true) ?_
        refine z 26 108 (.bool true) ?_
        refine z 27 109 (.bool true) ?_
        refine z 28 110 (pg g0) ?_
        refine zlr 29 111 [.int .u64 8, .int .i64 13] (fun _ h => h.1) 0 ?_
        refine zc 30 112 26 #[pg g0, .agg #[.int .u64 8, .int .i64 13]] (SxF.cast (E' := kE5) (drop_any (E := kE4) A.sx (by decide) (by omega) (by omega)) rfl (congrArg Value.bool kf14.1)) ?_
        rintro _ v71 ⟨rfl, K67, n68, N69, S, qn68, qN69, hK, hC⟩
        replace BB := belowO BB hC (fun b hb => Nat.le_trans hwB (A.sx.kb b hb))
        have mXg45 := not_op Xg45 nXg45 hK
        replace Xg45 := Xg45.chg hC nXg45
        replace nXg45 := mXg45
        clear mXg45
        have mXg47 := not_op Xg47 nXg47 hK
        replace Xg47 := Xg47.chg hC nXg47
        replace nXg47 := mXg47
        clear mXg47
        have mXg52 := not_op Xg52 nXg52 hK
        replace Xg52 := Xg52.chg hC nXg52
        replace nXg52 := mXg52
        clear mXg52
        have mXg56 := not_op Xg56 nXg56 hK
        replace Xg56 := Xg56.chg hC nXg56
        replace nXg56 := mXg56
        clear mXg56
        have mXg60 := not_op Xg60 nXg60 hK
        replace Xg60 := Xg60.chg hC nXg60
        replace nXg60 := mXg60
        clear mXg60
        replace A := A.op S hK hC
        clear S hK hC
        refine ⟨_, rfl, ⟨Xg47, Xg45⟩, ?_⟩
        refine z 31 113 (.bool true) ?_
        refine z 32 114 (.bool true) ?_
        refine z 33 115 (pg g0) ?_
        refine zc 34 116 34 #[pg g0, .int .u64 20, .int .u64 16] (SxE.cast (E := kE5) (count_get A.sx (by decide) (by omega) (by omega)) rfl (congrArg (Value.int .u64) kf14.2)) ?_
        rintro _ v73 ⟨rfl, K72, S, hK, hC⟩
        replace BB := belowO BB hC (fun b hb => Nat.le_trans hwB (A.sx.kb b hb))
        have mXg45 := not_op Xg45 nXg45 hK
        replace Xg45 := Xg45.chg hC nXg45
        replace nXg45 := mXg45
        clear mXg45
        have mXg47 := not_op Xg47 nXg47 hK
        replace Xg47 := Xg47.chg hC nXg47
        replace nXg47 := mXg47
        clear mXg47
        have mXg52 := not_op Xg52 nXg52 hK
        replace Xg52 := Xg52.chg hC nXg52
        replace nXg52 := mXg52
        clear mXg52
        have mXg56 := not_op Xg56 nXg56 hK
        replace Xg56 := Xg56.chg hC nXg56
        replace nXg56 := mXg56
        clear mXg56
        have mXg60 := not_op Xg60 nXg60 hK
        replace Xg60 := Xg60.chg hC nXg60
        replace nXg60 := mXg60
        clear mXg60
        replace A := A.op S hK hC
        clear S hK hC
        refine ⟨_, rfl, ⟨Xg47, Xg45⟩, ?_⟩
        refine z 35 117 (.bool true) ?_
        refine z 36 118 (.bool true) ?_
        refine z 37 0 (.bool true) ?_
        refine gz_done ?_
        refine ge_then ?_
        clear Xg45
        clear Xg47
        clear Xg52
        clear Xg56
        clear Xg60
        refine gc_fr [(0, .bool true)] (by kernel_rfl) ?_
        refine gc_ret ?_
        refine ge_ret (.bool true) (rs1 0 (by kernel_rfl) (by kernel_rfl)) ?_
        exact ⟨rfl, BB⟩
      have lXg45 := Xg45.lt
      have lXg47 := Xg47.lt
      have lXg52 := Xg52.lt
      have lXg56 := Xg56.lt
      refine zaa 18 100 [.int .u64 7, .int .i64 12, .int .u64 8, .int .i64 13] 64 (sg 2) ?_ ?_
      · intro v74 g75 Xg75 hg75 B
        have yg75 := Nat.le_trans BB.size hg75
        have zg75 := Nat.le_trans A.size hg75
        have nXg75 := A.new hg75
        replace BB := joinB BB B
        replace A := A.keep B
        replace Xg45 := Xg45.keep B
        replace Xg47 := Xg47.keep B
        replace Xg52 := Xg52.keep B
        replace Xg56 := Xg56.keep B
        clear B
        refine ⟨⟨Xg47, Xg45⟩, ?_⟩
        have lgn97 := A.sx.sa.lt A.sx.sa.top
        refine zc 15 97 33 #[pg g0, .int .u64 16] (EntF.cast (from_x (E := kE4) A.sx (by decide) kys4 (by omega) (by omega)) kf12) ?_
        rintro _ v76 ⟨vc, n97, rfl, Uc, S, qn97a, qn97b, qn97c, C⟩
        have hC := C.mono (fun b _ (e : b = g0) => e ▸ A.sx.sa.top)
        replace BB := belowO BB hC (fun b hb => Nat.le_trans hwB (A.sx.kb b hb))
        have mXg45 := not_op Xg45 nXg45 (fun _ h => .inl h)
        replace Xg45 := Xg45.chg hC nXg45
        replace nXg45 := mXg45
        clear mXg45
        have mXg47 := not_op Xg47 nXg47 (fun _ h => .inl h)
        replace Xg47 := Xg47.chg hC nXg47
        replace nXg47 := mXg47
        clear mXg47
        have mXg52 := not_op Xg52 nXg52 (fun _ h => .inl h)
        replace Xg52 := Xg52.chg hC nXg52
        replace nXg52 := mXg52
        clear mXg52
        have mXg56 := not_op Xg56 nXg56 (fun _ h => .inl h)
        replace Xg56 := Xg56.chg hC nXg56
        replace nXg56 := mXg56
        clear mXg56
        have mXg75 := not_op Xg75 nXg75 (fun _ h => .inl h)
        replace Xg75 := Xg75.chg hC nXg75
        replace nXg75 := mXg75
        clear mXg75
        replace A := A.op S (fun _ h => .inl h) hC
        clear S hC C
        refine ⟨_, rfl, ⟨Xg47, Xg45⟩, ?_⟩
        refine zc 19 101 47 #[vc, sg 2 g75] (entries_ea Uc (ea_lit [(7, 12), (8, 13)] Xg75 rfl (Nat.zero_le _) (by decide)) (by decide)) ?_
        rintro _ v77 ⟨rfl, B⟩
        replace BB := joinB BB B
        replace A := A.keep B
        replace Xg45 := Xg45.keep B
        replace Xg47 := Xg47.keep B
        replace Xg52 := Xg52.keep B
        replace Xg56 := Xg56.keep B
        replace Xg75 := Xg75.keep B
        replace Uc := Uc.keep B
        clear B
        clear Uc
        refine ⟨_, rfl, ⟨Xg47, Xg45⟩, ?_⟩
        refine z 20 102 (.bool true) ?_
        refine z 21 103 (.bool true) ?_
        refine z 22 104 (pg g0) ?_
        refine zr 23 105 (.agg #[.int .u64 8, .int .i64 12]) (fun _ _ => run_bE) ?_
        refine zc 24 106 26 #[pg g0, .agg #[.int .u64 8, .int .i64 12]] (SxF.cast (drop_any (E := kE4) A.sx (by decide) (by omega) (by omega)) kf13.2 (congrArg Value.bool kf13.1)) ?_
        rintro _ v82 ⟨rfl, K78, n79, N80, S, qn79, qN80, hK, hC⟩
        replace BB := belowO BB hC (fun b hb => Nat.le_trans hwB (A.sx.kb b hb))
        have mXg45 := not_op Xg45 nXg45 hK
        replace Xg45 := Xg45.chg hC nXg45
        replace nXg45 := mXg45
        clear mXg45
        have mXg47 := not_op Xg47 nXg47 hK
        replace Xg47 := Xg47.chg hC nXg47
        replace nXg47 := mXg47
        clear mXg47
        have mXg52 := not_op Xg52 nXg52 hK
        replace Xg52 := Xg52.chg hC nXg52
        replace nXg52 := mXg52
        clear mXg52
        have mXg56 := not_op Xg56 nXg56 hK
        replace Xg56 := Xg56.chg hC nXg56
        replace nXg56 := mXg56
        clear mXg56
        have mXg75 := not_op Xg75 nXg75 hK
        replace Xg75 := Xg75.chg hC nXg75
        replace nXg75 := mXg75
        clear mXg75
        replace A := A.op S hK hC
        clear S hK hC
        refine ⟨_, rfl, ⟨Xg47, Xg45⟩, ?_⟩
        refine z 25 107 (.bool true) ?_
        refine z 26 108 (.bool true) ?_
        refine z 27 109 (.bool true) ?_
        refine z 28 110 (pg g0) ?_
        refine zlr 29 111 [.int .u64 8, .int .i64 13] (fun _ h => h.1) 0 ?_
        refine zc 30 112 26 #[pg g0, .agg #[.int .u64 8, .int .i64 13]] (SxF.cast (E' := kE5) (drop_any (E := kE4) A.sx (by decide) (by omega) (by omega)) rfl (congrArg Value.bool kf14.1)) ?_
        rintro _ v87 ⟨rfl, K83, n84, N85, S, qn84, qN85, hK, hC⟩
        replace BB := belowO BB hC (fun b hb => Nat.le_trans hwB (A.sx.kb b hb))
        have mXg45 := not_op Xg45 nXg45 hK
        replace Xg45 := Xg45.chg hC nXg45
        replace nXg45 := mXg45
        clear mXg45
        have mXg47 := not_op Xg47 nXg47 hK
        replace Xg47 := Xg47.chg hC nXg47
        replace nXg47 := mXg47
        clear mXg47
        have mXg52 := not_op Xg52 nXg52 hK
        replace Xg52 := Xg52.chg hC nXg52
        replace nXg52 := mXg52
        clear mXg52
        have mXg56 := not_op Xg56 nXg56 hK
        replace Xg56 := Xg56.chg hC nXg56
        replace nXg56 := mXg56
        clear mXg56
        have mXg75 := not_op Xg75 nXg75 hK
        replace Xg75 := Xg75.chg hC nXg75
        replace nXg75 := mXg75
        clear mXg75
        replace A := A.op S hK hC
        clear S hK hC
        refine ⟨_, rfl, ⟨Xg47, Xg45⟩, ?_⟩
        refine z 31 113 (.bool true) ?_
        refine z 32 114 (.bool true) ?_
        refine z 33 115 (pg g0) ?_
        refine zc 34 116 34 #[pg g0, .int .u64 20, .int .u64 16] (SxE.cast (E := kE5) (count_get A.sx (by decide) (by omega) (by omega)) rfl (congrArg (Value.int .u64) kf14.2)) ?_
        rintro _ v89 ⟨rfl, K88, S, hK, hC⟩
        replace BB := belowO BB hC (fun b hb => Nat.le_trans hwB (A.sx.kb b hb))
        have mXg45 := not_op Xg45 nXg45 hK
        replace Xg45 := Xg45.chg hC nXg45
        replace nXg45 := mXg45
        clear mXg45
        have mXg47 := not_op Xg47 nXg47 hK
        replace Xg47 := Xg47.chg hC nXg47
        replace nXg47 := mXg47
        clear mXg47
        have mXg52 := not_op Xg52 nXg52 hK
        replace Xg52 := Xg52.chg hC nXg52
        replace nXg52 := mXg52
        clear mXg52
        have mXg56 := not_op Xg56 nXg56 hK
        replace Xg56 := Xg56.chg hC nXg56
        replace nXg56 := mXg56
        clear mXg56
        have mXg75 := not_op Xg75 nXg75 hK
        replace Xg75 := Xg75.chg hC nXg75
        replace nXg75 := mXg75
        clear mXg75
        replace A := A.op S hK hC
        clear S hK hC
        refine ⟨_, rfl, ⟨Xg47, Xg45⟩, ?_⟩
        refine z 35 117 (.bool true) ?_
        refine z 36 118 (.bool true) ?_
        refine z 37 0 (.bool true) ?_
        refine gz_done ?_
        refine ge_then ?_
        clear Xg45
        clear Xg47
        clear Xg52
        clear Xg56
        clear Xg75
        refine gc_fr [(0, .bool true)] (by kernel_rfl) ?_
        refine gc_ret ?_
        refine ge_ret (.bool true) (rs1 0 (by kernel_rfl) (by kernel_rfl)) ?_
        exact ⟨rfl, BB⟩
      exact ga_nil
    have lXg45 := Xg45.lt
    have lXg47 := Xg47.lt
    have lXg52 := Xg52.lt
    refine zaa 10 92 [.int .u64 8, .int .i64 13] 64 (sg 1) ?_ ?_
    · intro v90 g91 Xg91 hg91 B
      have yg91 := Nat.le_trans BB.size hg91
      have zg91 := Nat.le_trans A.size hg91
      have nXg91 := A.new hg91
      replace BB := joinB BB B
      replace A := A.keep B
      replace Xg45 := Xg45.keep B
      replace Xg47 := Xg47.keep B
      replace Xg52 := Xg52.keep B
      clear B
      refine ⟨⟨Xg47, Xg45⟩, ?_⟩
      have lgn90 := A.sx.sa.lt A.sx.sa.top
      refine zc 8 90 32 #[pg g0, .int .u64 4] (EntF.cast (due_x (E := kE4) A.sx (by decide) kys4 (by omega) (by omega)) kf11) ?_
      rintro _ v92 ⟨vb, n90, rfl, Ub, S, qn90a, qn90b, qn90c, C⟩
      have hC := C.mono (fun b _ (e : b = g0) => e ▸ A.sx.sa.top)
      replace BB := belowO BB hC (fun b hb => Nat.le_trans hwB (A.sx.kb b hb))
      have mXg45 := not_op Xg45 nXg45 (fun _ h => .inl h)
      replace Xg45 := Xg45.chg hC nXg45
      replace nXg45 := mXg45
      clear mXg45
      have mXg47 := not_op Xg47 nXg47 (fun _ h => .inl h)
      replace Xg47 := Xg47.chg hC nXg47
      replace nXg47 := mXg47
      clear mXg47
      have mXg52 := not_op Xg52 nXg52 (fun _ h => .inl h)
      replace Xg52 := Xg52.chg hC nXg52
      replace nXg52 := mXg52
      clear mXg52
      have mXg91 := not_op Xg91 nXg91 (fun _ h => .inl h)
      replace Xg91 := Xg91.chg hC nXg91
      replace nXg91 := mXg91
      clear mXg91
      replace A := A.op S (fun _ h => .inl h) hC
      clear S hC C
      refine ⟨_, rfl, ⟨Xg47, Xg45⟩, ?_⟩
      refine zc 11 93 47 #[vb, sg 1 g91] (entries_ea Ub (ea_lit [(8, 13)] Xg91 rfl (Nat.zero_le _) (by decide)) (by decide)) ?_
      rintro _ v93 ⟨rfl, B⟩
      replace BB := joinB BB B
      replace A := A.keep B
      replace Xg45 := Xg45.keep B
      replace Xg47 := Xg47.keep B
      replace Xg52 := Xg52.keep B
      replace Xg91 := Xg91.keep B
      replace Ub := Ub.keep B
      clear B
      clear Ub
      refine ⟨_, rfl, ⟨Xg47, Xg45⟩, ?_⟩
      refine z 12 94 (.bool true) ?_
      refine z 13 95 (.bool true) ?_
      refine z 14 96 (pg g0) ?_
      refine zlr 16 98 [.int .u64 7, .int .i64 12] (fun _ h => h.2) 0 ?_
      refine zlr 17 99 [.int .u64 8, .int .i64 13] (fun _ h => h.1) 0 ?_
      refine gz_ready [15, 18] ?_
      have lgn97 := A.sx.sa.lt A.sx.sa.top
      refine ga_call 15 (some 97) 33 #[pg g0, .int .u64 16] (EntF.cast (from_x (E := kE4) A.sx (by decide) kys4 (by omega) (by omega)) kf12) ?_ ?_
      · rintro _ v94 ⟨vc, n97, rfl, Uc, S, qn97a, qn97b, qn97c, C⟩
        have hC := C.mono (fun b _ (e : b = g0) => e ▸ A.sx.sa.top)
        replace BB := belowO BB hC (fun b hb => Nat.le_trans hwB (A.sx.kb b hb))
        have mXg45 := not_op Xg45 nXg45 (fun _ h => .inl h)
        replace Xg45 := Xg45.chg hC nXg45
        replace nXg45 := mXg45
        clear mXg45
        have mXg47 := not_op Xg47 nXg47 (fun _ h => .inl h)
        replace Xg47 := Xg47.chg hC nXg47
        replace nXg47 := mXg47
        clear mXg47
        have mXg52 := not_op Xg52 nXg52 (fun _ h => .inl h)
        replace Xg52 := Xg52.chg hC nXg52
        replace nXg52 := mXg52
        clear mXg52
        have mXg91 := not_op Xg91 nXg91 (fun _ h => .inl h)
        replace Xg91 := Xg91.chg hC nXg91
        replace nXg91 := mXg91
        clear mXg91
        replace A := A.op S (fun _ h => .inl h) hC
        clear S hC C
        refine ⟨_, rfl, ⟨Xg47, Xg45⟩, ?_⟩
        have lXg45 := Xg45.lt
        have lXg47 := Xg47.lt
        have lXg52 := Xg52.lt
        have lXg91 := Xg91.lt
        refine za 18 100 [.int .u64 7, .int .i64 12, .int .u64 8, .int .i64 13] 64 (sg 2) ?_
        intro v95 g96 Xg96 hg96 B
        have yg96 := Nat.le_trans BB.size hg96
        have zg96 := Nat.le_trans A.size hg96
        have nXg96 := A.new hg96
        replace BB := joinB BB B
        replace A := A.keep B
        replace Xg45 := Xg45.keep B
        replace Xg47 := Xg47.keep B
        replace Xg52 := Xg52.keep B
        replace Xg91 := Xg91.keep B
        replace Uc := Uc.keep B
        clear B
        refine ⟨⟨Xg47, Xg45⟩, ?_⟩
        refine zc 19 101 47 #[vc, sg 2 g96] (entries_ea Uc (ea_lit [(7, 12), (8, 13)] Xg96 rfl (Nat.zero_le _) (by decide)) (by decide)) ?_
        rintro _ v97 ⟨rfl, B⟩
        replace BB := joinB BB B
        replace A := A.keep B
        replace Xg45 := Xg45.keep B
        replace Xg47 := Xg47.keep B
        replace Xg52 := Xg52.keep B
        replace Xg91 := Xg91.keep B
        replace Uc := Uc.keep B
        replace Xg96 := Xg96.keep B
        clear B
        clear Uc
        refine ⟨_, rfl, ⟨Xg47, Xg45⟩, ?_⟩
        refine z 20 102 (.bool true) ?_
        refine z 21 103 (.bool true) ?_
        refine z 22 104 (pg g0) ?_
        refine zr 23 105 (.agg #[.int .u64 8, .int .i64 12]) (fun _ _ => run_bE) ?_
        refine zc 24 106 26 #[pg g0, .agg #[.int .u64 8, .int .i64 12]] (SxF.cast (drop_any (E := kE4) A.sx (by decide) (by omega) (by omega)) kf13.2 (congrArg Value.bool kf13.1)) ?_
        rintro _ v102 ⟨rfl, K98, n99, N100, S, qn99, qN100, hK, hC⟩
        replace BB := belowO BB hC (fun b hb => Nat.le_trans hwB (A.sx.kb b hb))
        have mXg45 := not_op Xg45 nXg45 hK
        replace Xg45 := Xg45.chg hC nXg45
        replace nXg45 := mXg45
        clear mXg45
        have mXg47 := not_op Xg47 nXg47 hK
        replace Xg47 := Xg47.chg hC nXg47
        replace nXg47 := mXg47
        clear mXg47
        have mXg52 := not_op Xg52 nXg52 hK
        replace Xg52 := Xg52.chg hC nXg52
        replace nXg52 := mXg52
        clear mXg52
        have mXg91 := not_op Xg91 nXg91 hK
        replace Xg91 := Xg91.chg hC nXg91
        replace nXg91 := mXg91
        clear mXg91
        have mXg96 := not_op Xg96 nXg96 hK
        replace Xg96 := Xg96.chg hC nXg96
        replace nXg96 := mXg96
        clear mXg96
        replace A := A.op S hK hC
        clear S hK hC
        refine ⟨_, rfl, ⟨Xg47, Xg45⟩, ?_⟩
        refine z 25 107 (.bool true) ?_
        refine z 26 108 (.bool true) ?_
        refine z 27 109 (.bool true) ?_
        refine z 28 110 (pg g0) ?_
        refine zlr 29 111 [.int .u64 8, .int .i64 13] (fun _ h => h.1) 0 ?_
        refine zc 30 112 26 #[pg g0, .agg #[.int .u64 8, .int .i64 13]] (SxF.cast (E' := kE5) (drop_any (E := kE4) A.sx (by decide) (by omega) (by omega)) rfl (congrArg Value.bool kf14.1)) ?_
        rintro _ v107 ⟨rfl, K103, n104, N105, S, qn104, qN105, hK, hC⟩
        replace BB := belowO BB hC (fun b hb => Nat.le_trans hwB (A.sx.kb b hb))
        have mXg45 := not_op Xg45 nXg45 hK
        replace Xg45 := Xg45.chg hC nXg45
        replace nXg45 := mXg45
        clear mXg45
        have mXg47 := not_op Xg47 nXg47 hK
        replace Xg47 := Xg47.chg hC nXg47
        replace nXg47 := mXg47
        clear mXg47
        have mXg52 := not_op Xg52 nXg52 hK
        replace Xg52 := Xg52.chg hC nXg52
        replace nXg52 := mXg52
        clear mXg52
        have mXg91 := not_op Xg91 nXg91 hK
        replace Xg91 := Xg91.chg hC nXg91
        replace nXg91 := mXg91
        clear mXg91
        have mXg96 := not_op Xg96 nXg96 hK
        replace Xg96 := Xg96.chg hC nXg96
        replace nXg96 := mXg96
        clear mXg96
        replace A := A.op S hK hC
        clear S hK hC
        refine ⟨_, rfl, ⟨Xg47, Xg45⟩, ?_⟩
        refine z 31 113 (.bool true) ?_
        refine z 32 114 (.bool true) ?_
        refine z 33 115 (pg g0) ?_
        refine zc 34 116 34 #[pg g0, .int .u64 20, .int .u64 16] (SxE.cast (E := kE5) (count_get A.sx (by decide) (by omega) (by omega)) rfl (congrArg (Value.int .u64) kf14.2)) ?_
        rintro _ v109 ⟨rfl, K108, S, hK, hC⟩
        replace BB := belowO BB hC (fun b hb => Nat.le_trans hwB (A.sx.kb b hb))
        have mXg45 := not_op Xg45 nXg45 hK
        replace Xg45 := Xg45.chg hC nXg45
        replace nXg45 := mXg45
        clear mXg45
        have mXg47 := not_op Xg47 nXg47 hK
        replace Xg47 := Xg47.chg hC nXg47
        replace nXg47 := mXg47
        clear mXg47
        have mXg52 := not_op Xg52 nXg52 hK
        replace Xg52 := Xg52.chg hC nXg52
        replace nXg52 := mXg52
        clear mXg52
        have mXg91 := not_op Xg91 nXg91 hK
        replace Xg91 := Xg91.chg hC nXg91
        replace nXg91 := mXg91
        clear mXg91
        have mXg96 := not_op Xg96 nXg96 hK
        replace Xg96 := Xg96.chg hC nXg96
        replace nXg96 := mXg96
        clear mXg96
        replace A := A.op S hK hC
        clear S hK hC
        refine ⟨_, rfl, ⟨Xg47, Xg45⟩, ?_⟩
        refine z 35 117 (.bool true) ?_
        refine z 36 118 (.bool true) ?_
        refine z 37 0 (.bool true) ?_
        refine gz_done ?_
        refine ge_then ?_
        clear Xg45
        clear Xg47
        clear Xg52
        clear Xg91
        clear Xg96
        refine gc_fr [(0, .bool true)] (by kernel_rfl) ?_
        refine gc_ret ?_
        refine ge_ret (.bool true) (rs1 0 (by kernel_rfl) (by kernel_rfl)) ?_
        exact ⟨rfl, BB⟩
      have lXg45 := Xg45.lt
      have lXg47 := Xg47.lt
      have lXg52 := Xg52.lt
      have lXg91 := Xg91.lt
      refine zaa 18 100 [.int .u64 7, .int .i64 12, .int .u64 8, .int .i64 13] 64 (sg 2) ?_ ?_
      · intro v110 g111 Xg111 hg111 B
        have yg111 := Nat.le_trans BB.size hg111
        have zg111 := Nat.le_trans A.size hg111
        have nXg111 := A.new hg111
        replace BB := joinB BB B
        replace A := A.keep B
        replace Xg45 := Xg45.keep B
        replace Xg47 := Xg47.keep B
        replace Xg52 := Xg52.keep B
        replace Xg91 := Xg91.keep B
        clear B
        refine ⟨⟨Xg47, Xg45⟩, ?_⟩
        have lgn97 := A.sx.sa.lt A.sx.sa.top
        refine zc 15 97 33 #[pg g0, .int .u64 16] (EntF.cast (from_x (E := kE4) A.sx (by decide) kys4 (by omega) (by omega)) kf12) ?_
        rintro _ v112 ⟨vc, n97, rfl, Uc, S, qn97a, qn97b, qn97c, C⟩
        have hC := C.mono (fun b _ (e : b = g0) => e ▸ A.sx.sa.top)
        replace BB := belowO BB hC (fun b hb => Nat.le_trans hwB (A.sx.kb b hb))
        have mXg45 := not_op Xg45 nXg45 (fun _ h => .inl h)
        replace Xg45 := Xg45.chg hC nXg45
        replace nXg45 := mXg45
        clear mXg45
        have mXg47 := not_op Xg47 nXg47 (fun _ h => .inl h)
        replace Xg47 := Xg47.chg hC nXg47
        replace nXg47 := mXg47
        clear mXg47
        have mXg52 := not_op Xg52 nXg52 (fun _ h => .inl h)
        replace Xg52 := Xg52.chg hC nXg52
        replace nXg52 := mXg52
        clear mXg52
        have mXg91 := not_op Xg91 nXg91 (fun _ h => .inl h)
        replace Xg91 := Xg91.chg hC nXg91
        replace nXg91 := mXg91
        clear mXg91
        have mXg111 := not_op Xg111 nXg111 (fun _ h => .inl h)
        replace Xg111 := Xg111.chg hC nXg111
        replace nXg111 := mXg111
        clear mXg111
        replace A := A.op S (fun _ h => .inl h) hC
        clear S hC C
        refine ⟨_, rfl, ⟨Xg47, Xg45⟩, ?_⟩
        refine zc 19 101 47 #[vc, sg 2 g111] (entries_ea Uc (ea_lit [(7, 12), (8, 13)] Xg111 rfl (Nat.zero_le _) (by decide)) (by decide)) ?_
        rintro _ v113 ⟨rfl, B⟩
        replace BB := joinB BB B
        replace A := A.keep B
        replace Xg45 := Xg45.keep B
        replace Xg47 := Xg47.keep B
        replace Xg52 := Xg52.keep B
        replace Xg91 := Xg91.keep B
        replace Xg111 := Xg111.keep B
        replace Uc := Uc.keep B
        clear B
        clear Uc
        refine ⟨_, rfl, ⟨Xg47, Xg45⟩, ?_⟩
        refine z 20 102 (.bool true) ?_
        refine z 21 103 (.bool true) ?_
        refine z 22 104 (pg g0) ?_
        refine zr 23 105 (.agg #[.int .u64 8, .int .i64 12]) (fun _ _ => run_bE) ?_
        refine zc 24 106 26 #[pg g0, .agg #[.int .u64 8, .int .i64 12]] (SxF.cast (drop_any (E := kE4) A.sx (by decide) (by omega) (by omega)) kf13.2 (congrArg Value.bool kf13.1)) ?_
        rintro _ v118 ⟨rfl, K114, n115, N116, S, qn115, qN116, hK, hC⟩
        replace BB := belowO BB hC (fun b hb => Nat.le_trans hwB (A.sx.kb b hb))
        have mXg45 := not_op Xg45 nXg45 hK
        replace Xg45 := Xg45.chg hC nXg45
        replace nXg45 := mXg45
        clear mXg45
        have mXg47 := not_op Xg47 nXg47 hK
        replace Xg47 := Xg47.chg hC nXg47
        replace nXg47 := mXg47
        clear mXg47
        have mXg52 := not_op Xg52 nXg52 hK
        replace Xg52 := Xg52.chg hC nXg52
        replace nXg52 := mXg52
        clear mXg52
        have mXg91 := not_op Xg91 nXg91 hK
        replace Xg91 := Xg91.chg hC nXg91
        replace nXg91 := mXg91
        clear mXg91
        have mXg111 := not_op Xg111 nXg111 hK
        replace Xg111 := Xg111.chg hC nXg111
        replace nXg111 := mXg111
        clear mXg111
        replace A := A.op S hK hC
        clear S hK hC
        refine ⟨_, rfl, ⟨Xg47, Xg45⟩, ?_⟩
        refine z 25 107 (.bool true) ?_
        refine z 26 108 (.bool true) ?_
        refine z 27 109 (.bool true) ?_
        refine z 28 110 (pg g0) ?_
        refine zlr 29 111 [.int .u64 8, .int .i64 13] (fun _ h => h.1) 0 ?_
        refine zc 30 112 26 #[pg g0, .agg #[.int .u64 8, .int .i64 13]] (SxF.cast (E' := kE5) (drop_any (E := kE4) A.sx (by decide) (by omega) (by omega)) rfl (congrArg Value.bool kf14.1)) ?_
        rintro _ v123 ⟨rfl, K119, n120, N121, S, qn120, qN121, hK, hC⟩
        replace BB := belowO BB hC (fun b hb => Nat.le_trans hwB (A.sx.kb b hb))
        have mXg45 := not_op Xg45 nXg45 hK
        replace Xg45 := Xg45.chg hC nXg45
        replace nXg45 := mXg45
        clear mXg45
        have mXg47 := not_op Xg47 nXg47 hK
        replace Xg47 := Xg47.chg hC nXg47
        replace nXg47 := mXg47
        clear mXg47
        have mXg52 := not_op Xg52 nXg52 hK
        replace Xg52 := Xg52.chg hC nXg52
        replace nXg52 := mXg52
        clear mXg52
        have mXg91 := not_op Xg91 nXg91 hK
        replace Xg91 := Xg91.chg hC nXg91
        replace nXg91 := mXg91
        clear mXg91
        have mXg111 := not_op Xg111 nXg111 hK
        replace Xg111 := Xg111.chg hC nXg111
        replace nXg111 := mXg111
        clear mXg111
        replace A := A.op S hK hC
        clear S hK hC
        refine ⟨_, rfl, ⟨Xg47, Xg45⟩, ?_⟩
        refine z 31 113 (.bool true) ?_
        refine z 32 114 (.bool true) ?_
        refine z 33 115 (pg g0) ?_
        refine zc 34 116 34 #[pg g0, .int .u64 20, .int .u64 16] (SxE.cast (E := kE5) (count_get A.sx (by decide) (by omega) (by omega)) rfl (congrArg (Value.int .u64) kf14.2)) ?_
        rintro _ v125 ⟨rfl, K124, S, hK, hC⟩
        replace BB := belowO BB hC (fun b hb => Nat.le_trans hwB (A.sx.kb b hb))
        have mXg45 := not_op Xg45 nXg45 hK
        replace Xg45 := Xg45.chg hC nXg45
        replace nXg45 := mXg45
        clear mXg45
        have mXg47 := not_op Xg47 nXg47 hK
        replace Xg47 := Xg47.chg hC nXg47
        replace nXg47 := mXg47
        clear mXg47
        have mXg52 := not_op Xg52 nXg52 hK
        replace Xg52 := Xg52.chg hC nXg52
        replace nXg52 := mXg52
        clear mXg52
        have mXg91 := not_op Xg91 nXg91 hK
        replace Xg91 := Xg91.chg hC nXg91
        replace nXg91 := mXg91
        clear mXg91
        have mXg111 := not_op Xg111 nXg111 hK
        replace Xg111 := Xg111.chg hC nXg111
        replace nXg111 := mXg111
        clear mXg111
        replace A := A.op S hK hC
        clear S hK hC
        refine ⟨_, rfl, ⟨Xg47, Xg45⟩, ?_⟩
        refine z 35 117 (.bool true) ?_
        refine z 36 118 (.bool true) ?_
        refine z 37 0 (.bool true) ?_
        refine gz_done ?_
        refine ge_then ?_
        clear Xg45
        clear Xg47
        clear Xg52
        clear Xg91
        clear Xg111
        refine gc_fr [(0, .bool true)] (by kernel_rfl) ?_
        refine gc_ret ?_
        refine ge_ret (.bool true) (rs1 0 (by kernel_rfl) (by kernel_rfl)) ?_
        exact ⟨rfl, BB⟩
      exact ga_nil
    exact ga_nil
  have lXg45 := Xg45.lt
  have lXg47 := Xg47.lt
  refine zaa 4 86 [.int .u64 8, .int .i64 13, .int .u64 7, .int .i64 12] 64 (sg 2) ?_ ?_
  · intro v126 g127 Xg127 hg127 B
    have yg127 := Nat.le_trans BB.size hg127
    have zg127 := Nat.le_trans A.size hg127
    have nXg127 := A.new hg127
    replace BB := joinB BB B
    replace A := A.keep B
    replace Xg45 := Xg45.keep B
    replace Xg47 := Xg47.keep B
    clear B
    refine ⟨⟨Xg47, Xg45⟩, ?_⟩
    have lgn83 := A.sx.sa.lt A.sx.sa.top
    refine zc 1 83 32 #[pg g0, .int .u64 5] (EntF.cast (due_x (E := kE4) A.sx (by decide) kys4 (by omega) (by omega)) kf10) ?_
    rintro _ v128 ⟨va, n83, rfl, Ua, S, qn83a, qn83b, qn83c, C⟩
    have hC := C.mono (fun b _ (e : b = g0) => e ▸ A.sx.sa.top)
    replace BB := belowO BB hC (fun b hb => Nat.le_trans hwB (A.sx.kb b hb))
    have mXg45 := not_op Xg45 nXg45 (fun _ h => .inl h)
    replace Xg45 := Xg45.chg hC nXg45
    replace nXg45 := mXg45
    clear mXg45
    have mXg47 := not_op Xg47 nXg47 (fun _ h => .inl h)
    replace Xg47 := Xg47.chg hC nXg47
    replace nXg47 := mXg47
    clear mXg47
    have mXg127 := not_op Xg127 nXg127 (fun _ h => .inl h)
    replace Xg127 := Xg127.chg hC nXg127
    replace nXg127 := mXg127
    clear mXg127
    replace A := A.op S (fun _ h => .inl h) hC
    clear S hC C
    refine ⟨_, rfl, ⟨Xg47, Xg45⟩, ?_⟩
    refine zc 5 87 47 #[va, sg 2 g127] (entries_ea Ua (ea_lit [(8, 13), (7, 12)] Xg127 rfl (Nat.zero_le _) (by decide)) (by decide)) ?_
    rintro _ v129 ⟨rfl, B⟩
    replace BB := joinB BB B
    replace A := A.keep B
    replace Xg45 := Xg45.keep B
    replace Xg47 := Xg47.keep B
    replace Xg127 := Xg127.keep B
    replace Ua := Ua.keep B
    clear B
    clear Ua
    refine ⟨_, rfl, ⟨Xg47, Xg45⟩, ?_⟩
    refine z 6 88 (.bool true) ?_
    refine z 7 89 (pg g0) ?_
    refine zlr 9 91 [.int .u64 8, .int .i64 13] (fun _ h => h.1) 0 ?_
    refine gz_ready [8, 10] ?_
    have lgn90 := A.sx.sa.lt A.sx.sa.top
    refine ga_call 8 (some 90) 32 #[pg g0, .int .u64 4] (EntF.cast (due_x (E := kE4) A.sx (by decide) kys4 (by omega) (by omega)) kf11) ?_ ?_
    · rintro _ v130 ⟨vb, n90, rfl, Ub, S, qn90a, qn90b, qn90c, C⟩
      have hC := C.mono (fun b _ (e : b = g0) => e ▸ A.sx.sa.top)
      replace BB := belowO BB hC (fun b hb => Nat.le_trans hwB (A.sx.kb b hb))
      have mXg45 := not_op Xg45 nXg45 (fun _ h => .inl h)
      replace Xg45 := Xg45.chg hC nXg45
      replace nXg45 := mXg45
      clear mXg45
      have mXg47 := not_op Xg47 nXg47 (fun _ h => .inl h)
      replace Xg47 := Xg47.chg hC nXg47
      replace nXg47 := mXg47
      clear mXg47
      have mXg127 := not_op Xg127 nXg127 (fun _ h => .inl h)
      replace Xg127 := Xg127.chg hC nXg127
      replace nXg127 := mXg127
      clear mXg127
      replace A := A.op S (fun _ h => .inl h) hC
      clear S hC C
      refine ⟨_, rfl, ⟨Xg47, Xg45⟩, ?_⟩
      have lXg45 := Xg45.lt
      have lXg47 := Xg47.lt
      have lXg127 := Xg127.lt
      refine za 10 92 [.int .u64 8, .int .i64 13] 64 (sg 1) ?_
      intro v131 g132 Xg132 hg132 B
      have yg132 := Nat.le_trans BB.size hg132
      have zg132 := Nat.le_trans A.size hg132
      have nXg132 := A.new hg132
      replace BB := joinB BB B
      replace A := A.keep B
      replace Xg45 := Xg45.keep B
      replace Xg47 := Xg47.keep B
      replace Xg127 := Xg127.keep B
      replace Ub := Ub.keep B
      clear B
      refine ⟨⟨Xg47, Xg45⟩, ?_⟩
      refine zc 11 93 47 #[vb, sg 1 g132] (entries_ea Ub (ea_lit [(8, 13)] Xg132 rfl (Nat.zero_le _) (by decide)) (by decide)) ?_
      rintro _ v133 ⟨rfl, B⟩
      replace BB := joinB BB B
      replace A := A.keep B
      replace Xg45 := Xg45.keep B
      replace Xg47 := Xg47.keep B
      replace Xg127 := Xg127.keep B
      replace Ub := Ub.keep B
      replace Xg132 := Xg132.keep B
      clear B
      clear Ub
      refine ⟨_, rfl, ⟨Xg47, Xg45⟩, ?_⟩
      refine z 12 94 (.bool true) ?_
      refine z 13 95 (.bool true) ?_
      refine z 14 96 (pg g0) ?_
      refine zlr 16 98 [.int .u64 7, .int .i64 12] (fun _ h => h.2) 0 ?_
      refine zlr 17 99 [.int .u64 8, .int .i64 13] (fun _ h => h.1) 0 ?_
      refine gz_ready [15, 18] ?_
      have lgn97 := A.sx.sa.lt A.sx.sa.top
      refine ga_call 15 (some 97) 33 #[pg g0, .int .u64 16] (EntF.cast (from_x (E := kE4) A.sx (by decide) kys4 (by omega) (by omega)) kf12) ?_ ?_
      · rintro _ v134 ⟨vc, n97, rfl, Uc, S, qn97a, qn97b, qn97c, C⟩
        have hC := C.mono (fun b _ (e : b = g0) => e ▸ A.sx.sa.top)
        replace BB := belowO BB hC (fun b hb => Nat.le_trans hwB (A.sx.kb b hb))
        have mXg45 := not_op Xg45 nXg45 (fun _ h => .inl h)
        replace Xg45 := Xg45.chg hC nXg45
        replace nXg45 := mXg45
        clear mXg45
        have mXg47 := not_op Xg47 nXg47 (fun _ h => .inl h)
        replace Xg47 := Xg47.chg hC nXg47
        replace nXg47 := mXg47
        clear mXg47
        have mXg127 := not_op Xg127 nXg127 (fun _ h => .inl h)
        replace Xg127 := Xg127.chg hC nXg127
        replace nXg127 := mXg127
        clear mXg127
        have mXg132 := not_op Xg132 nXg132 (fun _ h => .inl h)
        replace Xg132 := Xg132.chg hC nXg132
        replace nXg132 := mXg132
        clear mXg132
        replace A := A.op S (fun _ h => .inl h) hC
        clear S hC C
        refine ⟨_, rfl, ⟨Xg47, Xg45⟩, ?_⟩
        have lXg45 := Xg45.lt
        have lXg47 := Xg47.lt
        have lXg127 := Xg127.lt
        have lXg132 := Xg132.lt
        refine za 18 100 [.int .u64 7, .int .i64 12, .int .u64 8, .int .i64 13] 64 (sg 2) ?_
        intro v135 g136 Xg136 hg136 B
        have yg136 := Nat.le_trans BB.size hg136
        have zg136 := Nat.le_trans A.size hg136
        have nXg136 := A.new hg136
        replace BB := joinB BB B
        replace A := A.keep B
        replace Xg45 := Xg45.keep B
        replace Xg47 := Xg47.keep B
        replace Xg127 := Xg127.keep B
        replace Xg132 := Xg132.keep B
        replace Uc := Uc.keep B
        clear B
        refine ⟨⟨Xg47, Xg45⟩, ?_⟩
        refine zc 19 101 47 #[vc, sg 2 g136] (entries_ea Uc (ea_lit [(7, 12), (8, 13)] Xg136 rfl (Nat.zero_le _) (by decide)) (by decide)) ?_
        rintro _ v137 ⟨rfl, B⟩
        replace BB := joinB BB B
        replace A := A.keep B
        replace Xg45 := Xg45.keep B
        replace Xg47 := Xg47.keep B
        replace Xg127 := Xg127.keep B
        replace Xg132 := Xg132.keep B
        replace Uc := Uc.keep B
        replace Xg136 := Xg136.keep B
        clear B
        clear Uc
        refine ⟨_, rfl, ⟨Xg47, Xg45⟩, ?_⟩
        refine z 20 102 (.bool true) ?_
        refine z 21 103 (.bool true) ?_
        refine z 22 104 (pg g0) ?_
        refine zr 23 105 (.agg #[.int .u64 8, .int .i64 12]) (fun _ _ => run_bE) ?_
        refine zc 24 106 26 #[pg g0, .agg #[.int .u64 8, .int .i64 12]] (SxF.cast (drop_any (E := kE4) A.sx (by decide) (by omega) (by omega)) kf13.2 (congrArg Value.bool kf13.1)) ?_
        rintro _ v142 ⟨rfl, K138, n139, N140, S, qn139, qN140, hK, hC⟩
        replace BB := belowO BB hC (fun b hb => Nat.le_trans hwB (A.sx.kb b hb))
        have mXg45 := not_op Xg45 nXg45 hK
        replace Xg45 := Xg45.chg hC nXg45
        replace nXg45 := mXg45
        clear mXg45
        have mXg47 := not_op Xg47 nXg47 hK
        replace Xg47 := Xg47.chg hC nXg47
        replace nXg47 := mXg47
        clear mXg47
        have mXg127 := not_op Xg127 nXg127 hK
        replace Xg127 := Xg127.chg hC nXg127
        replace nXg127 := mXg127
        clear mXg127
        have mXg132 := not_op Xg132 nXg132 hK
        replace Xg132 := Xg132.chg hC nXg132
        replace nXg132 := mXg132
        clear mXg132
        have mXg136 := not_op Xg136 nXg136 hK
        replace Xg136 := Xg136.chg hC nXg136
        replace nXg136 := mXg136
        clear mXg136
        replace A := A.op S hK hC
        clear S hK hC
        refine ⟨_, rfl, ⟨Xg47, Xg45⟩, ?_⟩
        refine z 25 107 (.bool true) ?_
        refine z 26 108 (.bool true) ?_
        refine z 27 109 (.bool true) ?_
        refine z 28 110 (pg g0) ?_
        refine zlr 29 111 [.int .u64 8, .int .i64 13] (fun _ h => h.1) 0 ?_
        refine zc 30 112 26 #[pg g0, .agg #[.int .u64 8, .int .i64 13]] (SxF.cast (E' := kE5) (drop_any (E := kE4) A.sx (by decide) (by omega) (by omega)) rfl (congrArg Value.bool kf14.1)) ?_
        rintro _ v147 ⟨rfl, K143, n144, N145, S, qn144, qN145, hK, hC⟩
        replace BB := belowO BB hC (fun b hb => Nat.le_trans hwB (A.sx.kb b hb))
        have mXg45 := not_op Xg45 nXg45 hK
        replace Xg45 := Xg45.chg hC nXg45
        replace nXg45 := mXg45
        clear mXg45
        have mXg47 := not_op Xg47 nXg47 hK
        replace Xg47 := Xg47.chg hC nXg47
        replace nXg47 := mXg47
        clear mXg47
        have mXg127 := not_op Xg127 nXg127 hK
        replace Xg127 := Xg127.chg hC nXg127
        replace nXg127 := mXg127
        clear mXg127
        have mXg132 := not_op Xg132 nXg132 hK
        replace Xg132 := Xg132.chg hC nXg132
        replace nXg132 := mXg132
        clear mXg132
        have mXg136 := not_op Xg136 nXg136 hK
        replace Xg136 := Xg136.chg hC nXg136
        replace nXg136 := mXg136
        clear mXg136
        replace A := A.op S hK hC
        clear S hK hC
        refine ⟨_, rfl, ⟨Xg47, Xg45⟩, ?_⟩
        refine z 31 113 (.bool true) ?_
        refine z 32 114 (.bool true) ?_
        refine z 33 115 (pg g0) ?_
        refine zc 34 116 34 #[pg g0, .int .u64 20, .int .u64 16] (SxE.cast (E := kE5) (count_get A.sx (by decide) (by omega) (by omega)) rfl (congrArg (Value.int .u64) kf14.2)) ?_
        rintro _ v149 ⟨rfl, K148, S, hK, hC⟩
        replace BB := belowO BB hC (fun b hb => Nat.le_trans hwB (A.sx.kb b hb))
        have mXg45 := not_op Xg45 nXg45 hK
        replace Xg45 := Xg45.chg hC nXg45
        replace nXg45 := mXg45
        clear mXg45
        have mXg47 := not_op Xg47 nXg47 hK
        replace Xg47 := Xg47.chg hC nXg47
        replace nXg47 := mXg47
        clear mXg47
        have mXg127 := not_op Xg127 nXg127 hK
        replace Xg127 := Xg127.chg hC nXg127
        replace nXg127 := mXg127
        clear mXg127
        have mXg132 := not_op Xg132 nXg132 hK
        replace Xg132 := Xg132.chg hC nXg132
        replace nXg132 := mXg132
        clear mXg132
        have mXg136 := not_op Xg136 nXg136 hK
        replace Xg136 := Xg136.chg hC nXg136
        replace nXg136 := mXg136
        clear mXg136
        replace A := A.op S hK hC
        clear S hK hC
        refine ⟨_, rfl, ⟨Xg47, Xg45⟩, ?_⟩
        refine z 35 117 (.bool true) ?_
        refine z 36 118 (.bool true) ?_
        refine z 37 0 (.bool true) ?_
        refine gz_done ?_
        refine ge_then ?_
        clear Xg45
        clear Xg47
        clear Xg127
        clear Xg132
        clear Xg136
        refine gc_fr [(0, .bool true)] (by kernel_rfl) ?_
        refine gc_ret ?_
        refine ge_ret (.bool true) (rs1 0 (by kernel_rfl) (by kernel_rfl)) ?_
        exact ⟨rfl, BB⟩
      have lXg45 := Xg45.lt
      have lXg47 := Xg47.lt
      have lXg127 := Xg127.lt
      have lXg132 := Xg132.lt
      refine zaa 18 100 [.int .u64 7, .int .i64 12, .int .u64 8, .int .i64 13] 64 (sg 2) ?_ ?_
      · intro v150 g151 Xg151 hg151 B
        have yg151 := Nat.le_trans BB.size hg151
        have zg151 := Nat.le_trans A.size hg151
        have nXg151 := A.new hg151
        replace BB := joinB BB B
        replace A := A.keep B
        replace Xg45 := Xg45.keep B
        replace Xg47 := Xg47.keep B
        replace Xg127 := Xg127.keep B
        replace Xg132 := Xg132.keep B
        clear B
        refine ⟨⟨Xg47, Xg45⟩, ?_⟩
        have lgn97 := A.sx.sa.lt A.sx.sa.top
        refine zc 15 97 33 #[pg g0, .int .u64 16] (EntF.cast (from_x (E := kE4) A.sx (by decide) kys4 (by omega) (by omega)) kf12) ?_
        rintro _ v152 ⟨vc, n97, rfl, Uc, S, qn97a, qn97b, qn97c, C⟩
        have hC := C.mono (fun b _ (e : b = g0) => e ▸ A.sx.sa.top)
        replace BB := belowO BB hC (fun b hb => Nat.le_trans hwB (A.sx.kb b hb))
        have mXg45 := not_op Xg45 nXg45 (fun _ h => .inl h)
        replace Xg45 := Xg45.chg hC nXg45
        replace nXg45 := mXg45
        clear mXg45
        have mXg47 := not_op Xg47 nXg47 (fun _ h => .inl h)
        replace Xg47 := Xg47.chg hC nXg47
        replace nXg47 := mXg47
        clear mXg47
        have mXg127 := not_op Xg127 nXg127 (fun _ h => .inl h)
        replace Xg127 := Xg127.chg hC nXg127
        replace nXg127 := mXg127
        clear mXg127
        have mXg132 := not_op Xg132 nXg132 (fun _ h => .inl h)
        replace Xg132 := Xg132.chg hC nXg132
        replace nXg132 := mXg132
        clear mXg132
        have mXg151 := not_op Xg151 nXg151 (fun _ h => .inl h)
        replace Xg151 := Xg151.chg hC nXg151
        replace nXg151 := mXg151
        clear mXg151
        replace A := A.op S (fun _ h => .inl h) hC
        clear S hC C
        refine ⟨_, rfl, ⟨Xg47, Xg45⟩, ?_⟩
        refine zc 19 101 47 #[vc, sg 2 g151] (entries_ea Uc (ea_lit [(7, 12), (8, 13)] Xg151 rfl (Nat.zero_le _) (by decide)) (by decide)) ?_
        rintro _ v153 ⟨rfl, B⟩
        replace BB := joinB BB B
        replace A := A.keep B
        replace Xg45 := Xg45.keep B
        replace Xg47 := Xg47.keep B
        replace Xg127 := Xg127.keep B
        replace Xg132 := Xg132.keep B
        replace Xg151 := Xg151.keep B
        replace Uc := Uc.keep B
        clear B
        clear Uc
        refine ⟨_, rfl, ⟨Xg47, Xg45⟩, ?_⟩
        refine z 20 102 (.bool true) ?_
        refine z 21 103 (.bool true) ?_
        refine z 22 104 (pg g0) ?_
        refine zr 23 105 (.agg #[.int .u64 8, .int .i64 12]) (fun _ _ => run_bE) ?_
        refine zc 24 106 26 #[pg g0, .agg #[.int .u64 8, .int .i64 12]] (SxF.cast (drop_any (E := kE4) A.sx (by decide) (by omega) (by omega)) kf13.2 (congrArg Value.bool kf13.1)) ?_
        rintro _ v158 ⟨rfl, K154, n155, N156, S, qn155, qN156, hK, hC⟩
        replace BB := belowO BB hC (fun b hb => Nat.le_trans hwB (A.sx.kb b hb))
        have mXg45 := not_op Xg45 nXg45 hK
        replace Xg45 := Xg45.chg hC nXg45
        replace nXg45 := mXg45
        clear mXg45
        have mXg47 := not_op Xg47 nXg47 hK
        replace Xg47 := Xg47.chg hC nXg47
        replace nXg47 := mXg47
        clear mXg47
        have mXg127 := not_op Xg127 nXg127 hK
        replace Xg127 := Xg127.chg hC nXg127
        replace nXg127 := mXg127
        clear mXg127
        have mXg132 := not_op Xg132 nXg132 hK
        replace Xg132 := Xg132.chg hC nXg132
        replace nXg132 := mXg132
        clear mXg132
        have mXg151 := not_op Xg151 nXg151 hK
        replace Xg151 := Xg151.chg hC nXg151
        replace nXg151 := mXg151
        clear mXg151
        replace A := A.op S hK hC
        clear S hK hC
        refine ⟨_, rfl, ⟨Xg47, Xg45⟩, ?_⟩
        refine z 25 107 (.bool true) ?_
        refine z 26 108 (.bool true) ?_
        refine z 27 109 (.bool true) ?_
        refine z 28 110 (pg g0) ?_
        refine zlr 29 111 [.int .u64 8, .int .i64 13] (fun _ h => h.1) 0 ?_
        refine zc 30 112 26 #[pg g0, .agg #[.int .u64 8, .int .i64 13]] (SxF.cast (E' := kE5) (drop_any (E := kE4) A.sx (by decide) (by omega) (by omega)) rfl (congrArg Value.bool kf14.1)) ?_
        rintro _ v163 ⟨rfl, K159, n160, N161, S, qn160, qN161, hK, hC⟩
        replace BB := belowO BB hC (fun b hb => Nat.le_trans hwB (A.sx.kb b hb))
        have mXg45 := not_op Xg45 nXg45 hK
        replace Xg45 := Xg45.chg hC nXg45
        replace nXg45 := mXg45
        clear mXg45
        have mXg47 := not_op Xg47 nXg47 hK
        replace Xg47 := Xg47.chg hC nXg47
        replace nXg47 := mXg47
        clear mXg47
        have mXg127 := not_op Xg127 nXg127 hK
        replace Xg127 := Xg127.chg hC nXg127
        replace nXg127 := mXg127
        clear mXg127
        have mXg132 := not_op Xg132 nXg132 hK
        replace Xg132 := Xg132.chg hC nXg132
        replace nXg132 := mXg132
        clear mXg132
        have mXg151 := not_op Xg151 nXg151 hK
        replace Xg151 := Xg151.chg hC nXg151
        replace nXg151 := mXg151
        clear mXg151
        replace A := A.op S hK hC
        clear S hK hC
        refine ⟨_, rfl, ⟨Xg47, Xg45⟩, ?_⟩
        refine z 31 113 (.bool true) ?_
        refine z 32 114 (.bool true) ?_
        refine z 33 115 (pg g0) ?_
        refine zc 34 116 34 #[pg g0, .int .u64 20, .int .u64 16] (SxE.cast (E := kE5) (count_get A.sx (by decide) (by omega) (by omega)) rfl (congrArg (Value.int .u64) kf14.2)) ?_
        rintro _ v165 ⟨rfl, K164, S, hK, hC⟩
        replace BB := belowO BB hC (fun b hb => Nat.le_trans hwB (A.sx.kb b hb))
        have mXg45 := not_op Xg45 nXg45 hK
        replace Xg45 := Xg45.chg hC nXg45
        replace nXg45 := mXg45
        clear mXg45
        have mXg47 := not_op Xg47 nXg47 hK
        replace Xg47 := Xg47.chg hC nXg47
        replace nXg47 := mXg47
        clear mXg47
        have mXg127 := not_op Xg127 nXg127 hK
        replace Xg127 := Xg127.chg hC nXg127
        replace nXg127 := mXg127
        clear mXg127
        have mXg132 := not_op Xg132 nXg132 hK
        replace Xg132 := Xg132.chg hC nXg132
        replace nXg132 := mXg132
        clear mXg132
        have mXg151 := not_op Xg151 nXg151 hK
        replace Xg151 := Xg151.chg hC nXg151
        replace nXg151 := mXg151
        clear mXg151
        replace A := A.op S hK hC
        clear S hK hC
        refine ⟨_, rfl, ⟨Xg47, Xg45⟩, ?_⟩
        refine z 35 117 (.bool true) ?_
        refine z 36 118 (.bool true) ?_
        refine z 37 0 (.bool true) ?_
        refine gz_done ?_
        refine ge_then ?_
        clear Xg45
        clear Xg47
        clear Xg127
        clear Xg132
        clear Xg151
        refine gc_fr [(0, .bool true)] (by kernel_rfl) ?_
        refine gc_ret ?_
        refine ge_ret (.bool true) (rs1 0 (by kernel_rfl) (by kernel_rfl)) ?_
        exact ⟨rfl, BB⟩
      exact ga_nil
    have lXg45 := Xg45.lt
    have lXg47 := Xg47.lt
    have lXg127 := Xg127.lt
    refine zaa 10 92 [.int .u64 8, .int .i64 13] 64 (sg 1) ?_ ?_
    · intro v166 g167 Xg167 hg167 B
      have yg167 := Nat.le_trans BB.size hg167
      have zg167 := Nat.le_trans A.size hg167
      have nXg167 := A.new hg167
      replace BB := joinB BB B
      replace A := A.keep B
      replace Xg45 := Xg45.keep B
      replace Xg47 := Xg47.keep B
      replace Xg127 := Xg127.keep B
      clear B
      refine ⟨⟨Xg47, Xg45⟩, ?_⟩
      have lgn90 := A.sx.sa.lt A.sx.sa.top
      refine zc 8 90 32 #[pg g0, .int .u64 4] (EntF.cast (due_x (E := kE4) A.sx (by decide) kys4 (by omega) (by omega)) kf11) ?_
      rintro _ v168 ⟨vb, n90, rfl, Ub, S, qn90a, qn90b, qn90c, C⟩
      have hC := C.mono (fun b _ (e : b = g0) => e ▸ A.sx.sa.top)
      replace BB := belowO BB hC (fun b hb => Nat.le_trans hwB (A.sx.kb b hb))
      have mXg45 := not_op Xg45 nXg45 (fun _ h => .inl h)
      replace Xg45 := Xg45.chg hC nXg45
      replace nXg45 := mXg45
      clear mXg45
      have mXg47 := not_op Xg47 nXg47 (fun _ h => .inl h)
      replace Xg47 := Xg47.chg hC nXg47
      replace nXg47 := mXg47
      clear mXg47
      have mXg127 := not_op Xg127 nXg127 (fun _ h => .inl h)
      replace Xg127 := Xg127.chg hC nXg127
      replace nXg127 := mXg127
      clear mXg127
      have mXg167 := not_op Xg167 nXg167 (fun _ h => .inl h)
      replace Xg167 := Xg167.chg hC nXg167
      replace nXg167 := mXg167
      clear mXg167
      replace A := A.op S (fun _ h => .inl h) hC
      clear S hC C
      refine ⟨_, rfl, ⟨Xg47, Xg45⟩, ?_⟩
      refine zc 11 93 47 #[vb, sg 1 g167] (entries_ea Ub (ea_lit [(8, 13)] Xg167 rfl (Nat.zero_le _) (by decide)) (by decide)) ?_
      rintro _ v169 ⟨rfl, B⟩
      replace BB := joinB BB B
      replace A := A.keep B
      replace Xg45 := Xg45.keep B
      replace Xg47 := Xg47.keep B
      replace Xg127 := Xg127.keep B
      replace Xg167 := Xg167.keep B
      replace Ub := Ub.keep B
      clear B
      clear Ub
      refine ⟨_, rfl, ⟨Xg47, Xg45⟩, ?_⟩
      refine z 12 94 (.bool true) ?_
      refine z 13 95 (.bool true) ?_
      refine z 14 96 (pg g0) ?_
      refine zlr 16 98 [.int .u64 7, .int .i64 12] (fun _ h => h.2) 0 ?_
      refine zlr 17 99 [.int .u64 8, .int .i64 13] (fun _ h => h.1) 0 ?_
      refine gz_ready [15, 18] ?_
      have lgn97 := A.sx.sa.lt A.sx.sa.top
      refine ga_call 15 (some 97) 33 #[pg g0, .int .u64 16] (EntF.cast (from_x (E := kE4) A.sx (by decide) kys4 (by omega) (by omega)) kf12) ?_ ?_
      · rintro _ v170 ⟨vc, n97, rfl, Uc, S, qn97a, qn97b, qn97c, C⟩
        have hC := C.mono (fun b _ (e : b = g0) => e ▸ A.sx.sa.top)
        replace BB := belowO BB hC (fun b hb => Nat.le_trans hwB (A.sx.kb b hb))
        have mXg45 := not_op Xg45 nXg45 (fun _ h => .inl h)
        replace Xg45 := Xg45.chg hC nXg45
        replace nXg45 := mXg45
        clear mXg45
        have mXg47 := not_op Xg47 nXg47 (fun _ h => .inl h)
        replace Xg47 := Xg47.chg hC nXg47
        replace nXg47 := mXg47
        clear mXg47
        have mXg127 := not_op Xg127 nXg127 (fun _ h => .inl h)
        replace Xg127 := Xg127.chg hC nXg127
        replace nXg127 := mXg127
        clear mXg127
        have mXg167 := not_op Xg167 nXg167 (fun _ h => .inl h)
        replace Xg167 := Xg167.chg hC nXg167
        replace nXg167 := mXg167
        clear mXg167
        replace A := A.op S (fun _ h => .inl h) hC
        clear S hC C
        refine ⟨_, rfl, ⟨Xg47, Xg45⟩, ?_⟩
        have lXg45 := Xg45.lt
        have lXg47 := Xg47.lt
        have lXg127 := Xg127.lt
        have lXg167 := Xg167.lt
        refine za 18 100 [.int .u64 7, .int .i64 12, .int .u64 8, .int .i64 13] 64 (sg 2) ?_
        intro v171 g172 Xg172 hg172 B
        have yg172 := Nat.le_trans BB.size hg172
        have zg172 := Nat.le_trans A.size hg172
        have nXg172 := A.new hg172
        replace BB := joinB BB B
        replace A := A.keep B
        replace Xg45 := Xg45.keep B
        replace Xg47 := Xg47.keep B
        replace Xg127 := Xg127.keep B
        replace Xg167 := Xg167.keep B
        replace Uc := Uc.keep B
        clear B
        refine ⟨⟨Xg47, Xg45⟩, ?_⟩
        refine zc 19 101 47 #[vc, sg 2 g172] (entries_ea Uc (ea_lit [(7, 12), (8, 13)] Xg172 rfl (Nat.zero_le _) (by decide)) (by decide)) ?_
        rintro _ v173 ⟨rfl, B⟩
        replace BB := joinB BB B
        replace A := A.keep B
        replace Xg45 := Xg45.keep B
        replace Xg47 := Xg47.keep B
        replace Xg127 := Xg127.keep B
        replace Xg167 := Xg167.keep B
        replace Uc := Uc.keep B
        replace Xg172 := Xg172.keep B
        clear B
        clear Uc
        refine ⟨_, rfl, ⟨Xg47, Xg45⟩, ?_⟩
        refine z 20 102 (.bool true) ?_
        refine z 21 103 (.bool true) ?_
        refine z 22 104 (pg g0) ?_
        refine zr 23 105 (.agg #[.int .u64 8, .int .i64 12]) (fun _ _ => run_bE) ?_
        refine zc 24 106 26 #[pg g0, .agg #[.int .u64 8, .int .i64 12]] (SxF.cast (drop_any (E := kE4) A.sx (by decide) (by omega) (by omega)) kf13.2 (congrArg Value.bool kf13.1)) ?_
        rintro _ v178 ⟨rfl, K174, n175, N176, S, qn175, qN176, hK, hC⟩
        replace BB := belowO BB hC (fun b hb => Nat.le_trans hwB (A.sx.kb b hb))
        have mXg45 := not_op Xg45 nXg45 hK
        replace Xg45 := Xg45.chg hC nXg45
        replace nXg45 := mXg45
        clear mXg45
        have mXg47 := not_op Xg47 nXg47 hK
        replace Xg47 := Xg47.chg hC nXg47
        replace nXg47 := mXg47
        clear mXg47
        have mXg127 := not_op Xg127 nXg127 hK
        replace Xg127 := Xg127.chg hC nXg127
        replace nXg127 := mXg127
        clear mXg127
        have mXg167 := not_op Xg167 nXg167 hK
        replace Xg167 := Xg167.chg hC nXg167
        replace nXg167 := mXg167
        clear mXg167
        have mXg172 := not_op Xg172 nXg172 hK
        replace Xg172 := Xg172.chg hC nXg172
        replace nXg172 := mXg172
        clear mXg172
        replace A := A.op S hK hC
        clear S hK hC
        refine ⟨_, rfl, ⟨Xg47, Xg45⟩, ?_⟩
        refine z 25 107 (.bool true) ?_
        refine z 26 108 (.bool true) ?_
        refine z 27 109 (.bool true) ?_
        refine z 28 110 (pg g0) ?_
        refine zlr 29 111 [.int .u64 8, .int .i64 13] (fun _ h => h.1) 0 ?_
        refine zc 30 112 26 #[pg g0, .agg #[.int .u64 8, .int .i64 13]] (SxF.cast (E' := kE5) (drop_any (E := kE4) A.sx (by decide) (by omega) (by omega)) rfl (congrArg Value.bool kf14.1)) ?_
        rintro _ v183 ⟨rfl, K179, n180, N181, S, qn180, qN181, hK, hC⟩
        replace BB := belowO BB hC (fun b hb => Nat.le_trans hwB (A.sx.kb b hb))
        have mXg45 := not_op Xg45 nXg45 hK
        replace Xg45 := Xg45.chg hC nXg45
        replace nXg45 := mXg45
        clear mXg45
        have mXg47 := not_op Xg47 nXg47 hK
        replace Xg47 := Xg47.chg hC nXg47
        replace nXg47 := mXg47
        clear mXg47
        have mXg127 := not_op Xg127 nXg127 hK
        replace Xg127 := Xg127.chg hC nXg127
        replace nXg127 := mXg127
        clear mXg127
        have mXg167 := not_op Xg167 nXg167 hK
        replace Xg167 := Xg167.chg hC nXg167
        replace nXg167 := mXg167
        clear mXg167
        have mXg172 := not_op Xg172 nXg172 hK
        replace Xg172 := Xg172.chg hC nXg172
        replace nXg172 := mXg172
        clear mXg172
        replace A := A.op S hK hC
        clear S hK hC
        refine ⟨_, rfl, ⟨Xg47, Xg45⟩, ?_⟩
        refine z 31 113 (.bool true) ?_
        refine z 32 114 (.bool true) ?_
        refine z 33 115 (pg g0) ?_
        refine zc 34 116 34 #[pg g0, .int .u64 20, .int .u64 16] (SxE.cast (E := kE5) (count_get A.sx (by decide) (by omega) (by omega)) rfl (congrArg (Value.int .u64) kf14.2)) ?_
        rintro _ v185 ⟨rfl, K184, S, hK, hC⟩
        replace BB := belowO BB hC (fun b hb => Nat.le_trans hwB (A.sx.kb b hb))
        have mXg45 := not_op Xg45 nXg45 hK
        replace Xg45 := Xg45.chg hC nXg45
        replace nXg45 := mXg45
        clear mXg45
        have mXg47 := not_op Xg47 nXg47 hK
        replace Xg47 := Xg47.chg hC nXg47
        replace nXg47 := mXg47
        clear mXg47
        have mXg127 := not_op Xg127 nXg127 hK
        replace Xg127 := Xg127.chg hC nXg127
        replace nXg127 := mXg127
        clear mXg127
        have mXg167 := not_op Xg167 nXg167 hK
        replace Xg167 := Xg167.chg hC nXg167
        replace nXg167 := mXg167
        clear mXg167
        have mXg172 := not_op Xg172 nXg172 hK
        replace Xg172 := Xg172.chg hC nXg172
        replace nXg172 := mXg172
        clear mXg172
        replace A := A.op S hK hC
        clear S hK hC
        refine ⟨_, rfl, ⟨Xg47, Xg45⟩, ?_⟩
        refine z 35 117 (.bool true) ?_
        refine z 36 118 (.bool true) ?_
        refine z 37 0 (.bool true) ?_
        refine gz_done ?_
        refine ge_then ?_
        clear Xg45
        clear Xg47
        clear Xg127
        clear Xg167
        clear Xg172
        refine gc_fr [(0, .bool true)] (by kernel_rfl) ?_
        refine gc_ret ?_
        refine ge_ret (.bool true) (rs1 0 (by kernel_rfl) (by kernel_rfl)) ?_
        exact ⟨rfl, BB⟩
      have lXg45 := Xg45.lt
      have lXg47 := Xg47.lt
      have lXg127 := Xg127.lt
      have lXg167 := Xg167.lt
      refine zaa 18 100 [.int .u64 7, .int .i64 12, .int .u64 8, .int .i64 13] 64 (sg 2) ?_ ?_
      · intro v186 g187 Xg187 hg187 B
        have yg187 := Nat.le_trans BB.size hg187
        have zg187 := Nat.le_trans A.size hg187
        have nXg187 := A.new hg187
        replace BB := joinB BB B
        replace A := A.keep B
        replace Xg45 := Xg45.keep B
        replace Xg47 := Xg47.keep B
        replace Xg127 := Xg127.keep B
        replace Xg167 := Xg167.keep B
        clear B
        refine ⟨⟨Xg47, Xg45⟩, ?_⟩
        have lgn97 := A.sx.sa.lt A.sx.sa.top
        refine zc 15 97 33 #[pg g0, .int .u64 16] (EntF.cast (from_x (E := kE4) A.sx (by decide) kys4 (by omega) (by omega)) kf12) ?_
        rintro _ v188 ⟨vc, n97, rfl, Uc, S, qn97a, qn97b, qn97c, C⟩
        have hC := C.mono (fun b _ (e : b = g0) => e ▸ A.sx.sa.top)
        replace BB := belowO BB hC (fun b hb => Nat.le_trans hwB (A.sx.kb b hb))
        have mXg45 := not_op Xg45 nXg45 (fun _ h => .inl h)
        replace Xg45 := Xg45.chg hC nXg45
        replace nXg45 := mXg45
        clear mXg45
        have mXg47 := not_op Xg47 nXg47 (fun _ h => .inl h)
        replace Xg47 := Xg47.chg hC nXg47
        replace nXg47 := mXg47
        clear mXg47
        have mXg127 := not_op Xg127 nXg127 (fun _ h => .inl h)
        replace Xg127 := Xg127.chg hC nXg127
        replace nXg127 := mXg127
        clear mXg127
        have mXg167 := not_op Xg167 nXg167 (fun _ h => .inl h)
        replace Xg167 := Xg167.chg hC nXg167
        replace nXg167 := mXg167
        clear mXg167
        have mXg187 := not_op Xg187 nXg187 (fun _ h => .inl h)
        replace Xg187 := Xg187.chg hC nXg187
        replace nXg187 := mXg187
        clear mXg187
        replace A := A.op S (fun _ h => .inl h) hC
        clear S hC C
        refine ⟨_, rfl, ⟨Xg47, Xg45⟩, ?_⟩
        refine zc 19 101 47 #[vc, sg 2 g187] (entries_ea Uc (ea_lit [(7, 12), (8, 13)] Xg187 rfl (Nat.zero_le _) (by decide)) (by decide)) ?_
        rintro _ v189 ⟨rfl, B⟩
        replace BB := joinB BB B
        replace A := A.keep B
        replace Xg45 := Xg45.keep B
        replace Xg47 := Xg47.keep B
        replace Xg127 := Xg127.keep B
        replace Xg167 := Xg167.keep B
        replace Xg187 := Xg187.keep B
        replace Uc := Uc.keep B
        clear B
        clear Uc
        refine ⟨_, rfl, ⟨Xg47, Xg45⟩, ?_⟩
        refine z 20 102 (.bool true) ?_
        refine z 21 103 (.bool true) ?_
        refine z 22 104 (pg g0) ?_
        refine zr 23 105 (.agg #[.int .u64 8, .int .i64 12]) (fun _ _ => run_bE) ?_
        refine zc 24 106 26 #[pg g0, .agg #[.int .u64 8, .int .i64 12]] (SxF.cast (drop_any (E := kE4) A.sx (by decide) (by omega) (by omega)) kf13.2 (congrArg Value.bool kf13.1)) ?_
        rintro _ v194 ⟨rfl, K190, n191, N192, S, qn191, qN192, hK, hC⟩
        replace BB := belowO BB hC (fun b hb => Nat.le_trans hwB (A.sx.kb b hb))
        have mXg45 := not_op Xg45 nXg45 hK
        replace Xg45 := Xg45.chg hC nXg45
        replace nXg45 := mXg45
        clear mXg45
        have mXg47 := not_op Xg47 nXg47 hK
        replace Xg47 := Xg47.chg hC nXg47
        replace nXg47 := mXg47
        clear mXg47
        have mXg127 := not_op Xg127 nXg127 hK
        replace Xg127 := Xg127.chg hC nXg127
        replace nXg127 := mXg127
        clear mXg127
        have mXg167 := not_op Xg167 nXg167 hK
        replace Xg167 := Xg167.chg hC nXg167
        replace nXg167 := mXg167
        clear mXg167
        have mXg187 := not_op Xg187 nXg187 hK
        replace Xg187 := Xg187.chg hC nXg187
        replace nXg187 := mXg187
        clear mXg187
        replace A := A.op S hK hC
        clear S hK hC
        refine ⟨_, rfl, ⟨Xg47, Xg45⟩, ?_⟩
        refine z 25 107 (.bool true) ?_
        refine z 26 108 (.bool true) ?_
        refine z 27 109 (.bool true) ?_
        refine z 28 110 (pg g0) ?_
        refine zlr 29 111 [.int .u64 8, .int .i64 13] (fun _ h => h.1) 0 ?_
        refine zc 30 112 26 #[pg g0, .agg #[.int .u64 8, .int .i64 13]] (SxF.cast (E' := kE5) (drop_any (E := kE4) A.sx (by decide) (by omega) (by omega)) rfl (congrArg Value.bool kf14.1)) ?_
        rintro _ v199 ⟨rfl, K195, n196, N197, S, qn196, qN197, hK, hC⟩
        replace BB := belowO BB hC (fun b hb => Nat.le_trans hwB (A.sx.kb b hb))
        have mXg45 := not_op Xg45 nXg45 hK
        replace Xg45 := Xg45.chg hC nXg45
        replace nXg45 := mXg45
        clear mXg45
        have mXg47 := not_op Xg47 nXg47 hK
        replace Xg47 := Xg47.chg hC nXg47
        replace nXg47 := mXg47
        clear mXg47
        have mXg127 := not_op Xg127 nXg127 hK
        replace Xg127 := Xg127.chg hC nXg127
        replace nXg127 := mXg127
        clear mXg127
        have mXg167 := not_op Xg167 nXg167 hK
        replace Xg167 := Xg167.chg hC nXg167
        replace nXg167 := mXg167
        clear mXg167
        have mXg187 := not_op Xg187 nXg187 hK
        replace Xg187 := Xg187.chg hC nXg187
        replace nXg187 := mXg187
        clear mXg187
        replace A := A.op S hK hC
        clear S hK hC
        refine ⟨_, rfl, ⟨Xg47, Xg45⟩, ?_⟩
        refine z 31 113 (.bool true) ?_
        refine z 32 114 (.bool true) ?_
        refine z 33 115 (pg g0) ?_
        refine zc 34 116 34 #[pg g0, .int .u64 20, .int .u64 16] (SxE.cast (E := kE5) (count_get A.sx (by decide) (by omega) (by omega)) rfl (congrArg (Value.int .u64) kf14.2)) ?_
        rintro _ v201 ⟨rfl, K200, S, hK, hC⟩
        replace BB := belowO BB hC (fun b hb => Nat.le_trans hwB (A.sx.kb b hb))
        have mXg45 := not_op Xg45 nXg45 hK
        replace Xg45 := Xg45.chg hC nXg45
        replace nXg45 := mXg45
        clear mXg45
        have mXg47 := not_op Xg47 nXg47 hK
        replace Xg47 := Xg47.chg hC nXg47
        replace nXg47 := mXg47
        clear mXg47
        have mXg127 := not_op Xg127 nXg127 hK
        replace Xg127 := Xg127.chg hC nXg127
        replace nXg127 := mXg127
        clear mXg127
        have mXg167 := not_op Xg167 nXg167 hK
        replace Xg167 := Xg167.chg hC nXg167
        replace nXg167 := mXg167
        clear mXg167
        have mXg187 := not_op Xg187 nXg187 hK
        replace Xg187 := Xg187.chg hC nXg187
        replace nXg187 := mXg187
        clear mXg187
        replace A := A.op S hK hC
        clear S hK hC
        refine ⟨_, rfl, ⟨Xg47, Xg45⟩, ?_⟩
        refine z 35 117 (.bool true) ?_
        refine z 36 118 (.bool true) ?_
        refine z 37 0 (.bool true) ?_
        refine gz_done ?_
        refine ge_then ?_
        clear Xg45
        clear Xg47
        clear Xg127
        clear Xg167
        clear Xg187
        refine gc_fr [(0, .bool true)] (by kernel_rfl) ?_
        refine gc_ret ?_
        refine ge_ret (.bool true) (rs1 0 (by kernel_rfl) (by kernel_rfl)) ?_
        exact ⟨rfl, BB⟩
      exact ga_nil
    exact ga_nil
  exact ga_nil
end Qu
end Go.Proofs.YtliajmpchofiiaaGreat
