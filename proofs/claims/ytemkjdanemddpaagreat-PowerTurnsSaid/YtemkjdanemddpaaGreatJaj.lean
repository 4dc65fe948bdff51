/- Several texts, joined: PtD, PtE. -/
import Derived.Test.YtemkjdanemddpaaGreatJai
namespace Go.Proofs.YtemkjdanemddpaaGreat
namespace Pt
open Go.RowKit Go.Lib Pg Gl So
set_option maxRecDepth 100000
set_option linter.unusedVariables false
set_option linter.unusedSimpArgs false
set_option maxHeartbeats 4000000
theorem has_any {w : World} {a : Option Addr} {n c b o : Nat} {xs : Nat → Int} {x : Int} (u : Nu w a n b o xs) (hn : n ≤ 1000000) : Calls Tryz.prog 57 #[.slice a n c, .int .u64 x] w fun e w' => ∃ q : Bool, e = .returned (.bool q) ∧ (q = true ↔ El n xs x) ∧ Below w.heap.size w w' := by
  have BB := Below.refl w.heap.size w
  refine gc_enter (n := 18) Tryz.func57 rfl (by kernel_rfl) (by kernel_rfl) ?_
  refine gc_seq ?_
  refine gc_reg ?_
  refine t 4 (.bool false) ?_
  refine gl_nil ?_
  refine ge_then ?_
  refine gc_seq ?_
  refine gc_seq ?_
  refine gc_reg ?_
  refine t 5 (.int .i64 0) ?_
  refine gl_nil ?_
  refine ge_then ?_
  refine gc_block ?_
  refine gc_loop (fun s => n - s) (fun (s : Nat) => [(0, .slice a n c), (1, .int .u64 x), (5, .int .i64 (s : Int))]) (fun s w' => s ≤ n ∧ Below w.heap.size w w' ∧ ¬ El s xs x) (0 : Nat) ⟨Nat.zero_le _, BB, fun ⟨i, h, _⟩ => absurd h (Nat.not_lt_zero _)⟩ (by kernel_rfl) ?_
  clear BB
  rintro i v1 ⟨hi, BB, hno⟩
  refine gc_seq ?_
  refine gc_seq ?_
  refine gc_reg ?_
  refine t 6 (.int .i64 (i : Int)) ?_
  refine t 7 (.slice a n c) ?_
  refine t 8 (.int .i64 ((n : Nat) : Int)) ?_
  by_cases ci : (i : Int) < ((n : Nat) : Int)
  · have hk_i : i < n := by omega
    refine tq 9 (.bool (decide ((i : Int) < ((n : Nat) : Int)))) (.bool true) (congrArg Value.bool (decide_eq_true ci)) ?_
    refine gl_nil ?_
    refine ge_then ?_
    refine gc_yes ?_
    refine gc_skip ?_
    refine ge_then ?_
    refine gc_seq ?_
    refine gc_block ?_
    refine gc_seq ?_
    refine gc_reg ?_
    refine t 12 (.slice a n c) ?_
    refine t 13 (.int .i64 (i : Int)) ?_
    refine tr 14 (pq b (o + i * 1)) (run_ixa 1 b o n c i hk_i u.ptr) ?_
    refine tr 15 (.int .u64 (xs i)) (run_ld64 ((u.keep BB).cell i hk_i)) ?_
    refine t 16 (.int .u64 x) ?_
    by_cases c2 : (xs i : Int) = x
    · refine tq 17 (.bool ((xs i : Int) == x)) (.bool true) (congrArg Value.bool (beq_iff_eq.2 c2)) ?_
      refine gl_nil ?_
      refine ge_then ?_
      refine gc_yes ?_
      refine gc_seq ?_
      refine gc_reg ?_
      refine t 4 (.bool true) ?_
      refine gl_nil ?_
      refine ge_then ?_
      refine gc_ret ?_
      refine ge_br ?_
      refine ge_tr ?_
      refine ge_tr ?_
      refine ge_br ?_
      refine ge_tr ?_
      refine ge_ret (.bool true) (rs1 4 (by kernel_rfl) (by kernel_rfl)) ?_
      exact ⟨true, rfl, iff_of_true rfl ⟨i, hk_i, c2⟩, BB⟩
    · refine tq 17 (.bool ((xs i : Int) == x)) (.bool false) (congrArg Value.bool (beq_eq_false_iff_ne.2 c2)) ?_
      refine gl_nil ?_
      refine ge_then ?_
      refine gc_no ?_
      refine gc_skip ?_
      refine ge_bn ?_
      refine ge_then ?_
      refine gc_reg ?_
      refine t 10 (.int .i64 (i : Int)) ?_
      refine tq 11 (.int .i64 (IntKind.i64.wrap ((i : Int) + 1))) (.int .i64 ((i : Int) + 1)) (wi (by omega)) ?_
      refine t 5 (.int .i64 ((i : Int) + 1)) ?_
      refine gl_nil ?_
      exact ge_round (i + 1) (by show n - (i + 1) < n - i; omega) ⟨hk_i, BB, fun h => ((el_succ xs i x).2 h).elim hno (fun e => c2 e.symm)⟩ (by kernel_rfl)
  · refine tq 9 (.bool (decide ((i : Int) < ((n : Nat) : Int)))) (.bool false) (congrArg Value.bool (decide_eq_false ci)) ?_
    refine gl_nil ?_
    refine ge_then ?_
    refine gc_no ?_
    refine gc_exit ?_
    refine ge_tx ?_
    refine ge_tx ?_
    refine ge_bx ?_
    refine ge_then ?_
    refine gc_seq ?_
    refine gc_reg ?_
    refine t 4 (.bool false) ?_
    refine gl_nil ?_
    refine ge_then ?_
    refine gc_ret ?_
    refine ge_ret (.bool false) (rs1 4 (by kernel_rfl) (by kernel_rfl)) ?_
    obtain rfl : i = n := by omega
    exact ⟨false, rfl, iff_of_false (by decide) hno, BB⟩
theorem run_len {ρ : Operand → Value} {w : World} {o : Oper} (a : Option Addr) (n c : Nat) (ho : ∃ x, o.op = .call { callee := .builtin .len, args := #[x], argTypes := #[40] } ∧ ρ x = .slice a n c := by exact ⟨_, rfl, by kernel_rfl⟩) : (execOp ρ o).run Tryz.prog w = .ok (.value (.int .i64 ((n : Nat) : Int))) w := by
  obtain ⟨x, h, h1⟩ := ho
  unfold execOp
  simp only [h, resolve, invoke, builtin, Sem.run_bind, Sem.run_pure, Result.andThen_ok, List.map_toArray, List.map_cons, List.map_nil, h1]
  simp [Builtin.len_, run_underlying und_su, goInt]
section
variable {n k j : Nat} {f h h2 : Nat → Int} {x : Int} {p : Int → Prop}
/-- where x goes in -/
structure Ins2 (n k : Nat) (f : Nat → Int) (x : Int) : Prop where
  le : k ≤ n
  lo : ∀ i, i < k → f i < x
/-- what stands behind k is moved by one: from the end down to j -/
structure Mv (n k j : Nat) (f h : Nat → Int) : Prop where
  le : k ≤ j ∧ j ≤ n
  lo : ∀ i, i < j → h i = f i
  hi : ∀ i, j < i → i ≤ n → h i = f (i - 1)
theorem Mv.start (hk : k ≤ n) (h1 : ∀ i, i < n → h i = f i) : Mv n k n f h := ⟨⟨hk, Nat.le_refl _⟩, h1, fun i a b => by omega⟩
theorem Mv.step (m : Mv n k j f h) (hj : k < j) : Mv n k (j - 1) f (pu h j (h (j - 1))) := by
  have hl := m.le
  refine ⟨by omega, fun i hi => ?_, fun i h1 h3 => ?_⟩
  · unfold pu; rw [if_neg (by omega)]; exact m.lo i (by omega)
  · unfold pu
    split
    · rename_i e; subst e; exact m.lo _ (by omega)
    · exact m.hi i (by omega) h3
theorem pw_at {l : List Int} (h : l.Pairwise (· < ·)) {i j : Nat} {a b : Int} (hi : l[i]? = some a) (hj : l[j]? = some b) (hij : i < j) : a < b := by
  obtain ⟨b1, e1⟩ := List.getElem?_eq_some_iff.1 hi
  obtain ⟨b2, e2⟩ := List.getElem?_eq_some_iff.1 hj
  have := List.pairwise_iff_getElem.1 h i j b1 b2 hij
  rw [e1, e2] at this
  exact this
/-- x put in at its place -/
theorem Oly.ins (o : Oly p (seg 0 n f)) (i2 : Ins2 n k f x) (hk : k = n ∨ x ≤ f k) (hx : ¬ El n f x) (m : Mv n k k f h) : Oly (fun v => p v ∨ v = x) (seg 0 (n + 1) (pu h k x)) := by
  have hl := i2.le
  have up : ∀ i j, i < j → j < n → f i < f j := fun i j h1 h2 => pw_at o.up (seg_at (by omega)) (seg_at h2) h1
  have vlo : ∀ i, i < k → pu h k x i = f i := fun i hi => by unfold pu; rw [if_neg (by omega)]; exact m.lo i hi
  have vk : pu h k x k = x := if_pos rfl
  have vhi : ∀ i, k < i → i ≤ n → pu h k x i = f (i - 1) := fun i h1 h2 => by unfold pu; rw [if_neg (by omega)]; exact m.hi i h1 h2
  have above : ∀ i, k ≤ i → i < n → x < f i := fun i h1 h2 => by
    rcases hk with e | e
    · omega
    · have hne : x ≠ f k := fun e2 => hx ⟨k, by omega, e2.symm⟩
      rcases Nat.eq_or_lt_of_le h1 with c | c
      · subst c; omega
      · have := up k i c h2; omega
  refine ⟨?_, fun v => ?_⟩
  · rw [List.pairwise_iff_getElem]
    intro i j hi hj hij
    rw [seg0_len] at hi hj
    have e1 := List.getElem?_eq_getElem (l := seg 0 (n + 1) (pu h k x)) (i := i) (by rw [seg0_len]; exact hi)
    have e2 := List.getElem?_eq_getElem (l := seg 0 (n + 1) (pu h k x)) (i := j) (by rw [seg0_len]; exact hj)
    rw [seg_at hi] at e1
    rw [seg_at hj] at e2
    rw [← Option.some.inj e1, ← Option.some.inj e2]
    rcases Nat.lt_trichotomy i k with c | c | c <;> rcases Nat.lt_trichotomy j k with d | d | d
    · rw [vlo i c, vlo j d]; exact up i j hij (by omega)
    · subst d; rw [vlo i c, vk]; exact i2.lo i c
    · rw [vlo i c, vhi j d (by omega)]
      have := i2.lo i c
      have := above (j - 1) (by omega) (by omega)
      omega
    · omega
    · omega
    · subst c; rw [vk, vhi j d (by omega)]; exact above (j - 1) (by omega) (by omega)
    · omega
    · omega
    · rw [vhi i c (by omega), vhi j d (by omega)]; exact up (i - 1) (j - 1) (by omega) (by omega)
  · rw [← o.mem v, seg_mem, seg_mem]
    constructor
    · rintro ⟨i, -, hi, e⟩
      rcases Nat.lt_trichotomy i k with c | c | c
      · exact .inl ⟨i, Nat.zero_le _, by omega, by rw [← vlo i c]; exact e⟩
      · subst c; rw [vk] at e; exact .inr e.symm
      · exact .inl ⟨i - 1, Nat.zero_le _, by omega, by rw [← vhi i c (by omega)]; exact e⟩
    · rintro (⟨i, -, hi, e⟩ | rfl)
      · rcases Nat.lt_or_ge i k with c | c
        · exact ⟨i, Nat.zero_le _, by omega, by rw [vlo i c]; exact e⟩
        · exact ⟨i + 1, Nat.zero_le _, by omega, by rw [vhi (i + 1) (by omega) (by omega)]; exact e⟩
      · exact ⟨k, Nat.zero_le _, by omega, vk⟩
end
theorem without_any {w : World} {a a' : Option Addr} {n c b o n' c' b' o' : Nat} {xs ys : Nat → Int} (u : Nu w a n b o xs) (u' : Nu w a' n' b' o' ys) (hn : n ≤ 1000) (hn' : n' ≤ 1000) : Calls Tryz.prog 38 #[.slice a n c, .slice a' n' c'] w fun e w' => ∃ v m f, e = .returned v ∧ UB w' w.heap.size v m f ∧ Oly (fun v => El n xs v ∧ ¬ El n' ys v) (seg 0 m f) ∧ m ≤ n ∧ Below w.heap.size w w' := by
  have BB := Below.refl w.heap.size w
  refine gc_enter (n := 73) Tryz.func38 rfl (by kernel_rfl) (by kernel_rfl) ?_
  refine gc_seq ?_
  refine gc_reg ?_
  refine t 4 (.slice none 0 0) ?_
  refine gl_nil ?_
  refine ge_then ?_
  refine gc_seq ?_
  refine gc_reg ?_
  refine t 5 (.slice none 0 0) ?_
  refine gl_nil ?_
  refine ge_then ?_
  refine gc_seq ?_
  refine gc_seq ?_
  refine gc_reg ?_
  refine t 6 (.int .i64 0) ?_
  refine gl_nil ?_
  refine ge_then ?_
  refine gc_block ?_
  refine gc_loop (fun s => n - s.1) (fun (s : Nat × Option Addr × Nat × Nat × (Nat → Int)) => [(0, .slice a n c), (1, .slice a' n' c'), (5, .slice s.2.1 s.2.2.1 s.2.2.2.1), (6, .int .i64 (s.1 : Int))]) (fun s w' => s.1 ≤ n ∧ Below w.heap.size w w' ∧ UB w' w.heap.size (.slice s.2.1 s.2.2.1 s.2.2.2.1) s.2.2.1 s.2.2.2.2 ∧ Oly (fun v => El s.1 xs v ∧ ¬ El n' ys v) (seg 0 s.2.2.1 s.2.2.2.2) ∧ s.2.2.1 ≤ s.1) ((0, none, 0, 0, fun _ => 0) : Nat × Option Addr × Nat × Nat × (Nat → Int)) ⟨Nat.zero_le _, BB, UB.nil _ _ _, ⟨List.Pairwise.nil, fun v => iff_of_false List.not_mem_nil (fun ⟨⟨i, h, _⟩, _⟩ => absurd h (Nat.not_lt_zero _))⟩, Nat.le_refl _⟩ (by kernel_rfl) ?_
  clear BB
  rintro ⟨i, ao, q, d, f⟩ v1 ⟨hi, BB, U, O, hq⟩
  dsimp only at hi BB U O hq
  refine gc_seq ?_
  refine gc_seq ?_
  refine gc_reg ?_
  refine t 9 (.int .i64 (i : Int)) ?_
  refine t 10 (.slice a n c) ?_
  refine t 11 (.int .i64 ((n : Nat) : Int)) ?_
  by_cases ci : (i : Int) < ((n : Nat) : Int)
  · have hk_i : i < n := by omega
    refine tq 12 (.bool (decide ((i : Int) < ((n : Nat) : Int)))) (.bool true) (congrArg Value.bool (decide_eq_true ci)) ?_
    refine gl_nil ?_
    refine ge_then ?_
    refine gc_yes ?_
    refine gc_skip ?_
    refine ge_then ?_
    refine gc_seq ?_
    refine gc_block ?_
    refine gc_seq ?_
    refine gc_seq ?_
    refine gc_reg ?_
    refine t 15 (.slice a' n' c') ?_
    refine t 16 (.slice a n c) ?_
    refine t 17 (.int .i64 (i : Int)) ?_
    refine tr 18 (pq b (o + i * 1)) (run_ixa 1 b o n c i hk_i u.ptr) ?_
    refine tr 19 (.int .u64 (xs i)) (run_ld64 ((u.keep BB).cell i hk_i)) ?_
    refine tc 20 57 #[.slice a' n' c', .int .u64 (xs i)] (has_any (u'.keep BB) (by omega)) ?_
    rintro _ v2 ⟨z1, rfl, hz1, B⟩
    refine ⟨_, rfl, ?_⟩
    replace BB := joinB BB B
    replace U := U.keep B
    clear B
    by_cases c3 : z1 = true
    · refine tq 21 (.bool z1) (.bool true) (congrArg Value.bool c3) ?_
      refine tn 22 ?_
      refine tn 23 ?_
      refine tn 24 ?_
      refine tn 25 ?_
      refine tn 26 ?_
      refine tn 27 ?_
      refine t 28 (.bool true) ?_
      refine gl_nil ?_
      refine ge_then ?_
      refine gc_fr [(0, .slice a n c), (1, .slice a' n' c'), (5, .slice ao q d), (6, .int .i64 (i : Int)), (9, .int .i64 (i : Int)), (10, .slice a n c), (11, .int .i64 ((n : Nat) : Int)), (12, .bool true), (15, .slice a' n' c'), (16, .slice a n c), (17, .int .i64 (i : Int)), (18, pq b (o + i * 1)), (19, .int .u64 (xs i)), (20, .bool z1), (21, .bool true), (22, undef), (23, undef), (24, undef), (25, undef), (26, undef), (27, undef), (28, .bool true)] (by kernel_rfl) ?_
      refine gc_yes ?_
      have hyb : El n' ys (xs i) := hz1.1 c3
      refine gc_exit ?_
      refine ge_tx ?_
      refine ge_bx ?_
      refine ge_then ?_
      refine gc_reg ?_
      refine t 13 (.int .i64 (i : Int)) ?_
      refine tq 14 (.int .i64 (IntKind.i64.wrap ((i : Int) + 1))) (.int .i64 ((i : Int) + 1)) (wi (by omega)) ?_
      refine t 6 (.int .i64 ((i : Int) + 1)) ?_
      refine gl_nil ?_
      exact ge_round ((i + 1, ao, q, d, f) : Nat × Option Addr × Nat × Nat × (Nat → Int)) (by show n - (i + 1) < n - i; omega) ⟨hk_i, BB, U, O.iff (fun v => by rw [← el_succ]; by_cases e : v = xs i <;> simp [e, hyb]), by show q ≤ i + 1; omega⟩ (by kernel_rfl)
    · refine tq 21 (.bool z1) (.bool false) (congrArg Value.bool (Bool.eq_false_iff.2 c3)) ?_
      refine t 22 (.slice ao q d) ?_
      refine t 23 (.slice a n c) ?_
      refine t 24 (.int .i64 (i : Int)) ?_
      refine tr 25 (pq b (o + i * 1)) (run_ixa 1 b o n c i hk_i u.ptr) ?_
      refine tr 26 (.int .u64 (xs i)) (run_ld64 ((u.keep BB).cell i hk_i)) ?_
      obtain ⟨bh, Uh, -⟩ := U.nu
      refine tc 27 57 #[.slice ao q d, .int .u64 (xs i)] (has_any Uh (by omega)) ?_
      rintro _ v4 ⟨z2, rfl, hz2, B⟩
      refine ⟨_, rfl, ?_⟩
      clear Uh
      replace BB := joinB BB B
      replace U := U.keep B
      clear B
      refine t 28 (.bool z2) ?_
      refine gl_nil ?_
      refine ge_then ?_
      refine gc_fr [(0, .slice a n c), (1, .slice a' n' c'), (5, .slice ao q d), (6, .int .i64 (i : Int)), (9, .int .i64 (i : Int)), (10, .slice a n c), (11, .int .i64 ((n : Nat) : Int)), (12, .bool true), (15, .slice a' n' c'), (16, .slice a n c), (17, .int .i64 (i : Int)), (18, pq b (o + i * 1)), (19, .int .u64 (xs i)), (20, .bool z1), (21, .bool false), (22, .slice ao q d), (23, .slice a n c), (24, .int .i64 (i : Int)), (25, pq b (o + i * 1)), (26, .int .u64 (xs i)), (27, .bool z2), (28, .bool z2)] (by kernel_rfl) ?_
      rcases Bool.eq_false_or_eq_true (z2) with b5 | b5
      · have hpo : El q f (xs i) := hz2.1 b5
        refine gc_yes (hc := congrArg Value.bool b5) ?_
        have hyo : El i xs (xs i) ∧ ¬ El n' ys (xs i) := (O.mem _).1 (seg_mem.2 (by obtain ⟨j, h1, h2⟩ := hpo; exact ⟨j, Nat.zero_le _, h1, h2⟩))
        refine gc_exit ?_
        refine ge_tx ?_
        refine ge_bx ?_
        refine ge_then ?_
        refine gc_reg ?_
        refine t 13 (.int .i64 (i : Int)) ?_
        refine tq 14 (.int .i64 (IntKind.i64.wrap ((i : Int) + 1))) (.int .i64 ((i : Int) + 1)) (wi (by omega)) ?_
        refine t 6 (.int .i64 ((i : Int) + 1)) ?_
        refine gl_nil ?_
        exact ge_round ((i + 1, ao, q, d, f) : Nat × Option Addr × Nat × Nat × (Nat → Int)) (by show n - (i + 1) < n - i; omega) ⟨hk_i, BB, U, O.iff (fun v => by rw [← el_succ]; by_cases e : v = xs i <;> simp [e, hyo.1, hyo.2]), by show q ≤ i + 1; omega⟩ (by kernel_rfl)
      · have hno : ¬ El q f (xs i) := fun e => absurd (hz2.2 e) (by rw [b5]; decide)
        refine gc_no (hc := congrArg Value.bool b5) ?_
        refine gc_skip ?_
        refine ge_then ?_
        refine gc_seq ?_
        have hnb : ¬ El n' ys (xs i) := fun e => c3 (hz1.2 e)
        refine gc_reg ?_
        refine t 7 (.int .i64 0) ?_
        refine gl_nil ?_
        refine ge_then ?_
        refine gc_join (fun (s : Nat) => [(0, .slice a n c), (1, .slice a' n' c'), (5, .slice ao q d), (6, .int .i64 (i : Int)), (7, .int .i64 (s : Int))]) (fun s w' => Below w.heap.size w w' ∧ UB w' w.heap.size (.slice ao q d) q f ∧ Ins2 q s f (xs i) ∧ (s = q ∨ xs i ≤ f s)) ?_ ?_
        · refine gc_block ?_
          refine gc_loop (fun s => q - s) (fun (s : Nat) => [(0, .slice a n c), (1, .slice a' n' c'), (5, .slice ao q d), (6, .int .i64 (i : Int)), (7, .int .i64 (s : Int))]) (fun s w' => Below w.heap.size w w' ∧ UB w' w.heap.size (.slice ao q d) q f ∧ Ins2 q s f (xs i)) (0 : Nat) ⟨BB, U, ⟨Nat.zero_le _, fun i h => absurd h (Nat.not_lt_zero _)⟩⟩ (by kernel_rfl) ?_
          clear BB
          clear U
          rintro k v6 ⟨BB, U, I2⟩
          have hkq := I2.le
          refine gc_seq ?_
          refine gc_seq ?_
          obtain ⟨bo, Uo, -⟩ := U.nu
          replace BB := BB.drew
          replace U := U.drew
          replace Uo := Uo.drew
          refine gc_draw (fun w' => Below w.heap.size w w' ∧ Nu w' ao q bo 0 f) (fun _ => false) ⟨BB, Uo⟩ ?_
          refine z 0 29 (.int .i64 (k : Int)) ?_
          refine z 1 30 (.slice ao q d) ?_
          refine zr 2 31 (.int .i64 ((q : Nat) : Int)) (fun _ _ => run_len ao q d) ?_
          by_cases ck1 : (k : Int) < ((q : Nat) : Int)
          · have hk_k : k < q := by omega
            refine zq 3 32 (.bool (decide ((k : Int) < ((q : Nat) : Int)))) (.bool true) (congrArg Value.bool (decide_eq_true ck1)) ?_
            refine z 4 33 (.bool true) ?_
            refine z 5 34 (.slice ao q d) ?_
            refine z 6 35 (.int .i64 (k : Int)) ?_
            refine zr 7 36 (pq bo (0 + k * 1)) (fun _ _ => run_ixa 1 bo 0 q d k hk_k Uo.ptr) ?_
            refine zr 8 37 (.int .u64 (f k)) (fun _ h => run_ld64 (h.2.cell k hk_k)) ?_
            refine z 9 38 (.slice a n c) ?_
            refine z 10 39 (.int .i64 (i : Int)) ?_
            refine zr 11 40 (pq b (o + i * 1)) (fun _ _ => run_ixa 1 b o n c i hk_i u.ptr) ?_
            refine zr 12 41 (.int .u64 (xs i)) (fun _ h => run_ld64 ((u.keep h.1).cell i hk_i)) ?_
            by_cases c7 : (f k : Int) < xs i
            · refine zq 13 42 (.bool (decide ((f k : Int) < xs i))) (.bool true) (congrArg Value.bool (decide_eq_true c7)) ?_
              refine z 14 43 (.bool true) ?_
              refine gz_done ?_
              refine ge_then ?_
              refine gc_fr [(0, .slice a n c), (1, .slice a' n' c'), (5, .slice ao q d), (6, .int .i64 (i : Int)), (7, .int .i64 (k : Int)), (29, .int .i64 (k : Int)), (30, .slice ao q d), (31, .int .i64 ((q : Nat) : Int)), (32, .bool true), (33, .bool true), (34, .slice ao q d), (35, .int .i64 (k : Int)), (36, pq bo (0 + k * 1)), (37, .int .u64 (f k)), (38, .slice a n c), (39, .int .i64 (i : Int)), (40, pq b (o + i * 1)), (41, .int .u64 (xs i)), (42, .bool true), (43, .bool true)] (by kernel_rfl) ?_
              refine gc_yes ?_
              refine gc_skip ?_
              refine ge_then ?_
              refine gc_block ?_
              refine gc_reg ?_
              refine t 44 (.int .i64 (k : Int)) ?_
              refine tq 45 (.int .i64 (IntKind.i64.wrap ((k : Int) + 1))) (.int .i64 ((k : Int) + 1)) (wi (by omega)) ?_
              refine t 7 (.int .i64 ((k : Int) + 1)) ?_
              refine gl_nil ?_
              refine ge_bn ?_
              exact ge_round (k + 1) (by show q - (k + 1) < q - k; omega) ⟨BB, U, ⟨hk_k, fun j hj => (Nat.eq_or_lt_of_le (Nat.le_of_lt_succ hj)).elim (fun e => by rw [e]; exact c7) (fun e => I2.lo j e)⟩⟩ (by kernel_rfl)
            · refine zq 13 42 (.bool (decide ((f k : Int) < xs i))) (.bool false) (congrArg Value.bool (decide_eq_false c7)) ?_
              refine z 14 43 (.bool false) ?_
              refine gz_done ?_
              refine ge_then ?_
              refine gc_fr [(0, .slice a n c), (1, .slice a' n' c'), (5, .slice ao q d), (6, .int .i64 (i : Int)), (7, .int .i64 (k : Int)), (29, .int .i64 (k : Int)), (30, .slice ao q d), (31, .int .i64 ((q : Nat) : Int)), (32, .bool true), (33, .bool true), (34, .slice ao q d), (35, .int .i64 (k : Int)), (36, pq bo (0 + k * 1)), (37, .int .u64 (f k)), (38, .slice a n c), (39, .int .i64 (i : Int)), (40, pq b (o + i * 1)), (41, .int .u64 (xs i)), (42, .bool false), (43, .bool false)] (by kernel_rfl) ?_
              refine gc_no ?_
              refine gc_exit ?_
              refine ge_tx ?_
              refine ge_tx ?_
              refine ge_bx ?_
              exact ge_join (k : Nat) ⟨BB, U, I2, .inr (Int.not_lt.1 c7)⟩ (by kernel_rfl)
          · refine zq 3 32 (.bool (decide ((k : Int) < ((q : Nat) : Int)))) (.bool false) (congrArg Value.bool (decide_eq_false ck1)) ?_
            refine z 4 33 (.bool false) ?_
            refine zn 5 34 ?_
            refine zn 6 35 ?_
            refine zn 7 36 ?_
            refine zn 8 37 ?_
            refine zn 9 38 ?_
            refine zn 10 39 ?_
            refine zn 11 40 ?_
            refine zn 12 41 ?_
            refine zn 13 42 ?_
            refine z 14 43 (.bool false) ?_
            refine gz_done ?_
            refine ge_then ?_
            refine gc_fr [(0, .slice a n c), (1, .slice a' n' c'), (5, .slice ao q d), (6, .int .i64 (i : Int)), (7, .int .i64 (k : Int)), (29, .int .i64 (k : Int)), (30, .slice ao q d), (31, .int .i64 ((q : Nat) : Int)), (32, .bool false), (33, .bool false), (34, undef), (35, undef), (36, undef), (37, undef), (38, undef), (39, undef), (40, undef), (41, undef), (42, undef), (43, .bool false)] (by kernel_rfl) ?_
            refine gc_no ?_
            refine gc_exit ?_
            refine ge_tx ?_
            refine ge_tx ?_
            refine ge_bx ?_
            exact ge_join (k : Nat) ⟨BB, U, I2, .inl (by omega)⟩ (by kernel_rfl)
        clear BB
        clear U
        rintro k v8 ⟨BB, U, I2, hkx⟩
        have hkq := I2.le
        refine gc_seq ?_
        refine gc_reg ?_
        refine t 46 (.slice ao q d) ?_
        refine ta 47 [.int .u64 0] 31 (sg 1) ?_
        intro v9 g10 Xg10 hg10 B
        replace BB := joinB BB B
        replace U := U.keep B
        clear B
        obtain ⟨ak, ck, w5, f5, hr5, U5, hf5, hx5, C5⟩ := app_ub U Xg10 BB.size (by omega)
        refine tw 48 (.slice ak (q + 1) ck) _ (run_apU hr5) ?_
        replace BB := BB.trans (C5.below (fun b h => h.1) BB.size)
        clear U Xg10 C5 hr5
        obtain ⟨e0, -⟩ | ⟨bg, c9, eg, hbg, XG, hck, hcm⟩ := U5.ex
        · cases e0
        obtain rfl : ck = c9 := by cases eg; rfl
        have hak : ak = some ⟨bg, 0, none⟩ := by cases eg; rfl
        subst hak
        refine t 5 (.slice (some ⟨bg, 0, none⟩) (q + 1) ck) ?_
        refine gl_nil ?_
        refine ge_then ?_
        refine gc_seq ?_
        refine gc_seq ?_
        refine gc_reg ?_
        refine t 49 (.slice (some ⟨bg, 0, none⟩) (q + 1) ck) ?_
        refine t 50 (.int .i64 ((q + 1 : Nat) : Int)) ?_
        refine tq 51 (.int .i64 (IntKind.i64.wrap (((q + 1 : Nat) : Int) - 1))) (.int .i64 (q : Int)) ((wi (by omega)).trans (congrArg (Value.int .i64) (by omega))) ?_
        refine t 8 (.int .i64 (q : Int)) ?_
        refine gl_nil ?_
        refine ge_then ?_
        refine gc_block ?_
        refine gc_loop (fun s => s.1) (fun (s : Nat × (Nat → Int)) => [(0, .slice a n c), (1, .slice a' n' c'), (5, .slice (some ⟨bg, 0, none⟩) (q + 1) ck), (6, .int .i64 (i : Int)), (7, .int .i64 (k : Int)), (8, .int .i64 (s.1 : Int))]) (fun s w' => Below w.heap.size w w' ∧ Blk w' bg (cs ck s.2) 31 ∧ Mv q k s.1 f s.2) ((q, f5) : Nat × (Nat → Int)) ⟨BB, XG, Mv.start hkq hf5⟩ (by kernel_rfl) ?_
        clear BB XG
        rintro ⟨j, h1⟩ v11 ⟨BB, XG, MV⟩
        dsimp only at BB XG MV
        have hml := MV.le
        refine gc_seq ?_
        refine gc_seq ?_
        refine gc_reg ?_
        refine t 52 (.int .i64 (j : Int)) ?_
        refine t 53 (.int .i64 (k : Int)) ?_
        by_cases c12 : (k : Int) < (j : Int)
        · refine tq 54 (.bool (decide ((k : Int) < (j : Int)))) (.bool true) (congrArg Value.bool (decide_eq_true c12)) ?_
          refine gl_nil ?_
          refine ge_then ?_
          refine gc_yes ?_
          refine gc_skip ?_
          refine ge_then ?_
          refine gc_seq ?_
          refine gc_block ?_
          refine gc_reg ?_
          refine t 57 (.slice (some ⟨bg, 0, none⟩) (q + 1) ck) ?_
          refine t 58 (.int .i64 (j : Int)) ?_
          refine t 59 (.slice (some ⟨bg, 0, none⟩) (q + 1) ck) ?_
          refine t 60 (.int .i64 (j : Int)) ?_
          refine tq 61 (.int .i64 (IntKind.i64.wrap ((j : Int) - 1))) (.int .i64 ((j - 1 : Nat) : Int)) ((wi (by omega)).trans (congrArg (Value.int .i64) (by omega))) ?_
          refine tr 62 (pq bg (j - 1)) (congr_v (by simp) (run_ixs 1 bg 0 (q + 1) ck (j - 1) (by omega))) ?_
          refine tr 63 (.int .u64 (h1 (j - 1))) (run_ld64 (XG.cell (cs_at (by omega)))) ?_
          refine tr 64 (pq bg j) (congr_v (by simp) (run_ixs 1 bg 0 (q + 1) ck j (by omega))) ?_
          refine ts XG j (.int .u64 (h1 (j - 1))) [.int .u64 (h1 (j - 1))] (cs ck (pu h1 j (h1 (j - 1)))) ?_ (hb := cs_fit (by omega)) (he := cs_put (by omega))
          intro v13 Y C
          replace BB := belowC BB C hbg
          clear XG C
          have XG := Y
          clear Y
          refine gl_nil ?_
          refine ge_bn ?_
          refine ge_then ?_
          refine gc_reg ?_
          refine t 55 (.int .i64 (j : Int)) ?_
          refine tq 56 (.int .i64 (IntKind.i64.wrap ((j : Int) - 1))) (.int .i64 ((j - 1 : Nat) : Int)) ((wi (by omega)).trans (congrArg (Value.int .i64) (by omega))) ?_
          refine t 8 (.int .i64 ((j - 1 : Nat) : Int)) ?_
          refine gl_nil ?_
          exact ge_round ((j - 1, pu h1 j (h1 (j - 1))) : Nat × (Nat → Int)) (by show j - 1 < j; omega) ⟨BB, XG, MV.step (by omega)⟩ (by kernel_rfl)
        · refine tq 54 (.bool (decide ((k : Int) < (j : Int)))) (.bool false) (congrArg Value.bool (decide_eq_false c12)) ?_
          refine gl_nil ?_
          refine ge_then ?_
          refine gc_no ?_
          refine gc_exit ?_
          refine ge_tx ?_
          refine ge_tx ?_
          refine ge_bx ?_
          refine ge_then ?_
          obtain rfl : j = k := by omega
          have O2 := O.ins I2 hkx hno MV
          refine gc_reg ?_
          refine t 65 (.slice (some ⟨bg, 0, none⟩) (q + 1) ck) ?_
          refine t 66 (.int .i64 (j : Int)) ?_
          refine t 67 (.slice a n c) ?_
          refine t 68 (.int .i64 (i : Int)) ?_
          refine tr 69 (pq b (o + i * 1)) (run_ixa 1 b o n c i hk_i u.ptr) ?_
          refine tr 70 (.int .u64 (xs i)) (run_ld64 ((u.keep BB).cell i hk_i)) ?_
          refine tr 71 (pq bg j) (congr_v (by simp) (run_ixs 1 bg 0 (q + 1) ck j (by omega))) ?_
          refine ts XG j (.int .u64 (xs i)) [.int .u64 (xs i)] (cs ck (pu h1 j (xs i))) ?_ (hb := cs_fit (by omega)) (he := cs_put (by omega))
          intro v14 Y C
          replace BB := belowC BB C hbg
          clear XG C
          have XG := Y
          clear Y
          refine gl_nil ?_
          refine ge_bn ?_
          refine ge_then ?_
          refine gc_reg ?_
          refine t 13 (.int .i64 (i : Int)) ?_
          refine tq 14 (.int .i64 (IntKind.i64.wrap ((i : Int) + 1))) (.int .i64 ((i : Int) + 1)) (wi (by omega)) ?_
          refine t 6 (.int .i64 ((i : Int) + 1)) ?_
          refine gl_nil ?_
          exact ge_round ((i + 1, some ⟨bg, 0, none⟩, q + 1, ck, pu h1 j (xs i)) : Nat × Option Addr × Nat × Nat × (Nat → Int)) (by show n - (i + 1) < n - i; omega) ⟨hk_i, BB, ⟨.inr ⟨bg, ck, rfl, hbg, XG, hck, hcm⟩⟩, O2.iff (fun v => by rw [← el_succ]; by_cases e : v = xs i <;> simp [e, hnb]), by show q + 1 ≤ i + 1; omega⟩ (by kernel_rfl)
  · refine tq 12 (.bool (decide ((i : Int) < ((n : Nat) : Int)))) (.bool false) (congrArg Value.bool (decide_eq_false ci)) ?_
    refine gl_nil ?_
    refine ge_then ?_
    refine gc_no ?_
    refine gc_exit ?_
    refine ge_tx ?_
    refine ge_tx ?_
    refine ge_bx ?_
    refine ge_then ?_
    refine gc_seq ?_
    refine gc_reg ?_
    refine t 72 (.slice ao q d) ?_
    refine t 4 (.slice ao q d) ?_
    refine gl_nil ?_
    refine ge_then ?_
    refine gc_ret ?_
    refine ge_ret (.slice ao q d) (rs1 4 (by kernel_rfl) (by kernel_rfl)) ?_
    obtain rfl : i = n := by omega
    exact ⟨_, q, f, rfl, U, O, hq, BB⟩
theorem rturns_any {w : World} {a a' : Option Addr} {n c b o n' c' b' o' : Nat} {xs ys : Nat → Int} (u : Nu w a n b o xs) (u' : Nu w a' n' b' o' ys) (hn : n ≤ 1000) (hn' : n' ≤ 1000) : Calls Tryz.prog 23 #[.slice a n c, .slice a' n' c'] w fun e w' => ∃ va vb na nb fa fb, e = .returned (.tuple #[va, vb]) ∧ UB w' w.heap.size va na fa ∧ UB w' w.heap.size vb nb fb ∧ Oly (fun x => El n xs x ∧ ¬ El n' ys x) (seg 0 na fa) ∧ Oly (fun x => El n' ys x ∧ ¬ El n xs x) (seg 0 nb fb) ∧ na ≤ 2000 ∧ nb ≤ 2000 ∧ Below w.heap.size w w' := by
  have BB := Below.refl w.heap.size w
  refine gc_enter (n := 12) Tryz.func23 rfl (by kernel_rfl) (by kernel_rfl) ?_
  refine gc_seq ?_
  refine gc_reg ?_
  refine t 4 (.slice none 0 0) ?_
  refine t 5 (.slice none 0 0) ?_
  refine gl_nil ?_
  refine ge_then ?_
  refine gc_seq ?_
  refine gc_reg ?_
  refine t 6 (.slice a n c) ?_
  refine t 7 (.slice a' n' c') ?_
  have za := BB.size
  refine tc 8 38 #[.slice a n c, .slice a' n' c'] (without_any (u.keep BB) (u'.keep BB) hn hn') ?_
  rintro _ v1 ⟨va, na, fa, rfl, Ua, Oa, la, B⟩
  refine ⟨_, rfl, ?_⟩
  replace Ua := Ua.low (B' := w.heap.size) (by omega)
  replace BB := joinB BB B
  clear B
  refine t 9 (.slice a' n' c') ?_
  refine t 10 (.slice a n c) ?_
  have zb := BB.size
  refine tc 11 38 #[.slice a' n' c', .slice a n c] (without_any (u'.keep BB) (u.keep BB) hn' hn) ?_
  rintro _ v2 ⟨vb, nb, fb, rfl, Ub, Ob, lb, B⟩
  refine ⟨_, rfl, ?_⟩
  replace Ub := Ub.low (B' := w.heap.size) (by omega)
  replace BB := joinB BB B
  replace Ua := Ua.keep B
  clear B
  refine t 4 (va) ?_
  refine t 5 (vb) ?_
  refine gl_nil ?_
  refine ge_then ?_
  refine gc_fr [(4, va), (5, vb)] (by kernel_rfl) ?_
  refine gc_ret ?_
  refine ge_ret (.tuple #[va, vb]) (rs2 4 5 (by kernel_rfl) (by kernel_rfl) (by kernel_rfl)) ?_
  exact ⟨_, _, na, nb, fa, fb, rfl, Ua, Ub, Oa, Ob, by omega, by omega, BB⟩
end Pt
end Go.Proofs.YtemkjdanemddpaaGreat

namespace Go.Proofs.YtemkjdanemddpaaGreat
namespace Pt
open Go.RowKit Go.Lib Pg Gl So
set_option maxRecDepth 100000
set_option linter.unusedVariables false
set_option linter.unusedSimpArgs false
set_option maxHeartbeats 4000000
section
variable {w w' w1 : World} {B n n' b o c c' g : Nat} {v : Value} {f h fb : Nat → Int} {a a' : Option Addr} {xs : Nat → Int}
theorem add_cell2 {j : Nat} {u : Value} (h : w.cell? ⟨b, o + j * 1, none⟩ = some u) : w.cell? ((⟨b, o, none⟩ : Addr).add j) = some u := by
  rw [Nat.mul_one] at h
  by_cases e : j = 0
  · subst e; exact h
  · simpa [Addr.add, e] using h
theorem app_all (u : Nu w a n b o xs) (hn : n ≤ 1000) (ha : n = 0 → a = none → c = 0) : ∃ a2 c2 w' b2, (Builtin.append_ #[40, 40] 40 #[.slice none 0 0, .slice a n c]).run Tryz.prog w = .ok (.slice a2 n c2) w' ∧ Nu w' a2 n b2 0 xs ∧ Below w.heap.size w w' := by
  obtain ⟨i0, hi, hz0, hz1, hz2⟩ := info_parts info_u64
  rcases Nat.eq_zero_or_pos n with e | e
  · subst e
    refine ⟨none, 0, w, 0, ?_, ⟨fun h => absurd h (by decide), fun i hi => absurd hi (Nat.not_lt_zero _)⟩, Below.refl _ _⟩
    cases a <;> simp [Builtin.append_, run_underlying und_su, sizeOf, typeInfo, hi, Builtin.lenOf, Builtin.firstCells, loadCells, loadCellsFrom]
  · rw [u.ptr e]
    have hr := run_append_nil (P := Tryz.prog) w 40 40 31 i0 (.int .u64 0) und_su hi hz0 ⟨b, o, none⟩ n c ((List.range n).map fun k => .int .u64 (xs k)) (by rw [hz1]; simp) (fun j v hj => by
      have hjn : j < n := by have := (List.getElem?_eq_some_iff.1 hj).1; simpa using this
      simp [hjn] at hj
      subst hj
      exact add_cell2 (u.cell j hjn)) e (by omega) (by rw [hz2]; omega)
    have hge := grownCap_ge w n 0 31
    have hb := heap_alloc_new w.drew (.cells (((List.range n).map fun k => Value.int .u64 (xs k)).toArray ++ Builtin.zeroCells (Value.int .u64 0).cells (grownCap w n 0 31 - n)) 31)
    have bb := below_alloc w.drew (.cells (((List.range n).map fun k => Value.int .u64 (xs k)).toArray ++ Builtin.zeroCells (Value.int .u64 0).cells (grownCap w n 0 31 - n)) 31)
    refine ⟨_, _, _, w.heap.size, hr, ⟨fun _ => rfl, fun i hi => ?_⟩, ⟨bb.os, bb.tape, bb.output, bb.size, bb.block⟩⟩
    rw [Nat.zero_add, Nat.mul_one]
    show World.cell? _ ⟨w.drew.heap.size, i, none⟩ = _
    simp only [World.cell?, hb]
    rw [Array.getElem?_append_left (by simpa using hi)]
    simp [hi]
theorem cs_inj {f h : Nat → Int} (e : cs c f = cs c' h) : c = c' := by
  have := congrArg List.length e
  rwa [cs_len, cs_len] at this
/-- a list that is written over, beside another one, which may lie in the same block -/
theorem UB.over (u : UB w B v n fb) (X : Blk w g (cs c f) 31) (Y : Blk w1 g (cs c h) 31) (C : Chg (· = g) w w1) : ∃ f2, UB w1 B v n f2 := by
  rcases u.ex with ⟨rfl, rfl⟩ | ⟨b, c', rfl, h1, h2, h3, h4⟩
  · exact ⟨fb, UB.nil _ _ _⟩
  · by_cases e : b = g
    · subst e
      have e1 := X.blk.symm.trans h2.blk
      have e2 : (cs c f).toArray = (cs c' fb).toArray := by
        simpa using e1
      have e3 := cs_inj (List.toArray_inj e2)
      subst e3
      exact ⟨h, ⟨.inr ⟨b, c, rfl, h1, Y, h3, h4⟩⟩⟩
    · exact ⟨fb, ⟨.inr ⟨b, c', rfl, h1, h2.chg C e, h3, h4⟩⟩⟩
/-- its block, where it has a number -/
theorem UB.blk (u : UB w B (.slice a n c) n f) (hn : 0 < n) : ∃ g, a = some ⟨g, 0, none⟩ ∧ B ≤ g ∧ Blk w g (cs c f) 31 ∧ n ≤ c ∧ c ≤ maxLen := by
  rcases u.ex with ⟨e, rfl⟩ | ⟨b, c', e, h1, h2, h3, h4⟩
  · exact absurd hn (by decide)
  · cases e
    exact ⟨b, rfl, h1, h2, h3, h4⟩
end
end Pt
end Go.Proofs.YtemkjdanemddpaaGreat
