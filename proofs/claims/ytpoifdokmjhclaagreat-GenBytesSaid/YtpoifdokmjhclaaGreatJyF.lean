/- Several texts, joined: GnT. -/
import Derived.Test.YtpoifdokmjhclaaGreatJyE
import Derived.Test.YtpoifdokmjhclaaGreatJya
import Derived.Test.YtpoifdokmjhclaaGreatJyd
namespace Go.Proofs.YtpoifdokmjhclaaGreat
namespace Pt
open Go.RowKit Go.Lib Pg Lim Gl Kv Bk Pw
attribute [local go_sem] Oper.semAt_some
set_option maxRecDepth 100000
set_option linter.unusedVariables false
set_option linter.unusedSimpArgs false
set_option maxHeartbeats 2000000
theorem len64_1 {w : World} : Calls Tryz.prog 302 #[.int .u64 1] w fun e w' => e = .returned (.int .i64 1) ∧ w' = w := len64 1 w (by decide) (by decide)
theorem len_1 {w : World} : Calls Tryz.prog 242 #[.int .u64 1] w fun e w' => e = .returned (.int .i64 1) ∧ w' = w := by
  refine gc_enter (n := 8) Tryz.func242 rfl (by kernel_rfl) (by kernel_rfl) ?_
  refine gc_seq ?_
  refine gc_reg ?_
  refine t 2 (.int .i64 0) ?_
  refine gl_nil ?_
  refine ge_then ?_
  refine gc_seq ?_
  refine gc_no ?_
  refine gc_skip ?_
  refine ge_then ?_
  refine gc_seq ?_
  refine gc_reg ?_
  refine t 6 (.int .u64 1) ?_
  refine tc 7 302 #[.int .u64 1] (len64_1) ?_
  rintro _ v1 ⟨rfl, hw⟩
  refine ⟨_, rfl, ?_⟩
  subst hw
  refine t 2 (.int .i64 1) ?_
  refine gl_nil ?_
  refine ge_then ?_
  refine gc_ret ?_
  refine ge_ret (.int .i64 1) (rs1 2 (by kernel_rfl) (by kernel_rfl)) ?_
  exact ⟨rfl, rfl⟩
theorem len64_0 {w : World} : Calls Tryz.prog 302 #[.int .u64 0] w fun e w' => e = .returned (.int .i64 0) ∧ w' = w := len64 0 w (by decide) (by decide)
theorem len_0 {w : World} : Calls Tryz.prog 242 #[.int .u64 0] w fun e w' => e = .returned (.int .i64 0) ∧ w' = w := by
  refine gc_enter (n := 8) Tryz.func242 rfl (by kernel_rfl) (by kernel_rfl) ?_
  refine gc_seq ?_
  refine gc_reg ?_
  refine t 2 (.int .i64 0) ?_
  refine gl_nil ?_
  refine ge_then ?_
  refine gc_seq ?_
  refine gc_no ?_
  refine gc_skip ?_
  refine ge_then ?_
  refine gc_seq ?_
  refine gc_reg ?_
  refine t 6 (.int .u64 0) ?_
  refine tc 7 302 #[.int .u64 0] (len64_0) ?_
  rintro _ v1 ⟨rfl, hw⟩
  refine ⟨_, rfl, ?_⟩
  subst hw
  refine t 2 (.int .i64 0) ?_
  refine gl_nil ?_
  refine ge_then ?_
  refine gc_ret ?_
  refine ge_ret (.int .i64 0) (rs1 2 (by kernel_rfl) (by kernel_rfl)) ?_
  exact ⟨rfl, rfl⟩
theorem len_k {w : World} {k : Nat} (hk : k ≤ 1) : Calls Tryz.prog 242 #[.int .u64 ((k : Nat) : Int)] w fun e w' => e = .returned (.int .i64 ((k : Nat) : Int)) ∧ w' = w := by
  rcases (show k = 0 ∨ k = 1 by omega) with rfl | rfl
  · exact len_0
  · exact len_1
theorem cv_ku {ρ : Operand → Value} {w : World} {o : Oper} {k : Nat} (hk : k ≤ 1) (ho : ∃ u, o.op = .convert 3 118 u ∧ ρ u = .int .i64 ((k : Nat) : Int) := by exact ⟨_, rfl, by kernel_rfl⟩) : (execOp ρ o).run Tryz.prog w = .ok (.value (.int .u64 ((k : Nat) : Int))) w := by
  obtain ⟨u, h, h1⟩ := ho
  simp only [execOp, h, h1]
  go_simp
  rw [IntKind.wrap_u64]
  omega
theorem ins_k {w : World} {ao : Option Addr} {k c : Nat} (hk : k ≤ 1) : Calls Tryz.prog 292 #[.slice ao k c, .int .i64 0, .int .i64 ((k : Nat) : Int)] w fun e w' => e = .returned (.tuple #[]) ∧ w' = w := by
  refine gc_enter (n := 49) Tryz.func292 rfl (by kernel_rfl) (by kernel_rfl) ?_
  refine gc_seq ?_
  refine gc_reg ?_
  refine t 8 (.int .i64 0) ?_
  refine t 9 (.int .i64 1) ?_
  refine t 6 (.int .i64 1) ?_
  refine gl_nil ?_
  refine ge_then ?_
  refine gc_block ?_
  refine gc_loop (fun _ => 0) (fun (_ : Unit) => [(2, .int .i64 ((k : Nat) : Int)), (6, .int .i64 1)]) (fun _ w' => w' = w) () rfl (by kernel_rfl) ?_
  rintro _ v1 rfl
  refine gc_seq ?_
  refine gc_seq ?_
  refine gc_reg ?_
  refine t 10 (.int .i64 1) ?_
  refine t 11 (.int .i64 ((k : Nat) : Int)) ?_
  refine tq 12 (.bool (decide ((1 : Int) < ((k : Nat) : Int)))) (.bool false) (congrArg Value.bool (decide_eq_false (by omega))) ?_
  refine gl_nil ?_
  refine ge_then ?_
  refine gc_no ?_
  refine gc_exit ?_
  refine ge_tx ?_
  refine ge_tx ?_
  refine ge_bx ?_
  refine ge_end (.tuple #[]) (rs0 (by kernel_rfl)) ?_
  exact ⟨rfl, rfl⟩
theorem pdq_k {w : World} {ao : Option Addr} {k c : Nat} (hk : k ≤ 1) : Calls Tryz.prog 241 #[.slice ao k c, .int .i64 0, .int .i64 ((k : Nat) : Int), .int .i64 ((k : Nat) : Int)] w fun e w' => e = .returned (.tuple #[]) ∧ w' = w := by
  refine gc_enter (n := 134) Tryz.func241 rfl (by kernel_rfl) (by kernel_rfl) ?_
  refine gc_seq ?_
  refine gc_reg ?_
  refine t 8 (.bool true) ?_
  refine gl_nil ?_
  refine ge_then ?_
  refine gc_seq ?_
  refine gc_reg ?_
  refine t 9 (.bool true) ?_
  refine gl_nil ?_
  refine ge_then ?_
  refine gc_block ?_
  refine gc_loop (fun _ => 0) (fun (_ : Unit) => [(0, .slice ao k c), (1, .int .i64 0), (2, .int .i64 ((k : Nat) : Int))]) (fun _ w' => w' = w) () rfl (by kernel_rfl) ?_
  rintro _ v1 rfl
  refine gc_block ?_
  refine gc_seq ?_
  refine gc_reg ?_
  refine t 19 (.int .i64 ((k : Nat) : Int)) ?_
  refine t 20 (.int .i64 0) ?_
  refine tq 21 (.int .i64 (IntKind.i64.wrap (((k : Nat) : Int) - 0))) (.int .i64 (((k : Nat) : Int) - 0)) (wi (by omega)) ?_
  refine t 10 (.int .i64 (((k : Nat) : Int) - 0)) ?_
  refine gl_nil ?_
  refine ge_then ?_
  refine gc_seq ?_
  refine gc_seq ?_
  refine gc_reg ?_
  refine t 22 (.int .i64 (((k : Nat) : Int) - 0)) ?_
  refine tq 23 (.bool (decide ((((k : Nat) : Int) - 0 : Int) ≤ 12))) (.bool true) (congrArg Value.bool (decide_eq_true (by omega))) ?_
  refine gl_nil ?_
  refine ge_then ?_
  refine gc_yes ?_
  refine gc_seq ?_
  refine gc_reg ?_
  refine t 24 (.slice ao k c) ?_
  refine t 25 (.int .i64 0) ?_
  refine t 26 (.int .i64 ((k : Nat) : Int)) ?_
  refine tc 27 292 #[.slice ao k c, .int .i64 0, .int .i64 ((k : Nat) : Int)] (ins_k hk) ?_
  rintro _ v2 ⟨rfl, hw⟩
  refine ⟨_, rfl, ?_⟩
  subst hw
  refine gl_nil ?_
  refine ge_then ?_
  refine gc_ret ?_
  refine ge_tr ?_
  refine ge_br ?_
  refine ge_tr ?_
  refine ge_br ?_
  refine ge_ret (.tuple #[]) (rs0 (by kernel_rfl)) ?_
  exact ⟨rfl, rfl⟩
theorem sort_k {w : World} {ao : Option Addr} {k c : Nat} (hk : k ≤ 1) : Calls Tryz.prog 192 #[.slice ao k c] w fun e w' => e = .returned (.tuple #[]) ∧ w' = w := by
  refine gc_enter (n := 11) Tryz.func192 rfl (by kernel_rfl) (by kernel_rfl) ?_
  refine gc_seq ?_
  refine gc_reg ?_
  refine t 3 (.slice ao k c) ?_
  refine t 4 (.int .i64 ((k : Nat) : Int)) ?_
  refine t 2 (.int .i64 ((k : Nat) : Int)) ?_
  refine gl_nil ?_
  refine ge_then ?_
  refine gc_reg ?_
  refine t 5 (.slice ao k c) ?_
  refine t 6 (.int .i64 ((k : Nat) : Int)) ?_
  refine t 7 (.int .i64 ((k : Nat) : Int)) ?_
  refine tr 8 (.int .u64 ((k : Nat) : Int)) (cv_ku hk) ?_
  refine tc 9 242 #[.int .u64 ((k : Nat) : Int)] (len_k hk) ?_
  rintro _ v1 ⟨rfl, hw⟩
  refine ⟨_, rfl, ?_⟩
  subst hw
  refine tc 10 241 #[.slice ao k c, .int .i64 0, .int .i64 ((k : Nat) : Int), .int .i64 ((k : Nat) : Int)] (pdq_k hk) ?_
  rintro _ v2 ⟨rfl, hw⟩
  refine ⟨_, rfl, ?_⟩
  subst hw
  refine gl_nil ?_
  refine ge_end (.tuple #[]) (rs0 (by kernel_rfl)) ?_
  exact ⟨rfl, rfl⟩
/-- what lies at a place that is no variable -/
structure MapG (w : World) (g : Nat) (o : Obj) : Prop where
  ob : w.heap[g]? = some o
section
variable {w w' : World} {g B : Nat} {o : Obj} {v : Value} {l : List Int}
theorem MapG.lt (h : MapG w g o) : g < w.heap.size := lt_of_block h.ob
theorem MapG.keep (h : MapG w g o) (b : Below w.heap.size w w') : MapG w' g o := ⟨(b.block g h.lt).trans h.ob⟩
theorem MapG.chg {x : Nat} (h : MapG w g o) (C : Chg (· = x) w w') (hne : g ≠ x) : MapG w' g o := ⟨(C.same g h.lt hne).trans h.ob⟩
theorem MapG.cel {F : Nat → Prop} (h : MapG w g o) (ho : ∀ cs t m, o ≠ .cells cs t m) (C : Chg F w w') (hF : ∀ b, F b → ∃ cs t, Blk w b cs t) : MapG w' g o := ⟨(C.same g h.lt (fun hf => by
  obtain ⟨cs, t, k⟩ := hF g hf
  have := k.blk.symm.trans h.ob
  cases this
  exact ho _ _ _ rfl)).trans h.ob⟩
theorem UA.itg (h : UA w B v l) (I : MapG w g o) (ho : ∀ cs t m, o ≠ .cells cs t m) (C : Chg (· = g) w w') : UA w' B v l := ⟨h.ex.imp id (fun ⟨b, c, e, hl, hR⟩ => ⟨b, c, e, hl, hR.chg C (fun hb => by
  have hb' : b = g := hb
  subst hb'
  obtain ⟨cs, k⟩ := hR.kind
  have := k.blk.symm.trans I.ob
  cases this
  exact ho _ _ _ rfl)⟩)⟩
theorem UA.oneg {x : Int} {a : Option Addr} {k d : Nat} (h : UA w B (.slice a k d) [x]) : k = 1 := by
  rcases h.ex with ⟨_, e⟩ | ⟨b, c, e, _⟩
  · cases e
  · cases e; rfl
end
theorem run_apG {ρ : Operand → Value} {w w' : World} {o : Oper} {u v r : Value} (hr : (Builtin.append_ #[52, 52] 52 #[u, v]).run Tryz.prog w = .ok r w') (ho : ∃ x y, o.op = .call { callee := .builtin .append, args := #[x, y], argTypes := #[52, 52] } ∧ o.type = 52 ∧ ρ x = u ∧ ρ y = v := by exact ⟨_, _, rfl, rfl, by kernel_rfl, by kernel_rfl⟩) : (execOp ρ o).run Tryz.prog w = .ok (.value r) w' := by
  obtain ⟨x, y, h, ht, h1, h2⟩ := ho
  unfold execOp
  simp only [h, ht, resolve, invoke, builtin, Sem.run_bind, Sem.run_pure, Result.andThen_ok, List.map_toArray, List.map_cons, List.map_nil, h1, h2, hr]
theorem UA.zero {w : World} {B : Nat} {a : Option Addr} {k d : Nat} (h : UA w B (.slice a k d) []) : k = 0 := by
  rcases h.ex with ⟨e, _⟩ | ⟨b, c, e, _⟩
  · cases e; rfl
  · cases e; rfl
def e0G : MapEntry := ⟨.int .u64 16, .int .i64 2, 0⟩
def esG : Array MapEntry := #[e0G]
theorem esG_mem {e : MapEntry} (h : e ∈ esG.toList) : e = e0G := by simpa [esG] using h
theorem esG_nd : (esG.toList.map (·.born)).Nodup := by decide +kernel
theorem esG_born : ∀ x ∈ esG.toList, x.born < 1 := fun x h => by cases esG_mem h; decide
theorem only_g1 {w : World} {bm : Nat} (M : MapG w bm (.map esG 1)) : Calls Tryz.prog 146 #[.map (some bm), .int .i64 1] w fun e w' => ∃ v, e = .returned v ∧ UA w' w.heap.size v [] ∧ Below w.heap.size w w' := by
  have BB := Below.refl w.heap.size w
  refine gc_enter (n := 25) Tryz.func146 rfl (by kernel_rfl) (by kernel_rfl) ?_
  refine gc_seq ?_
  refine gc_reg ?_
  refine t 4 (.slice none 0 0) ?_
  refine gl_nil ?_
  refine ge_then ?_
  refine gc_seq ?_
  refine gc_reg ?_
  refine t 5 (.slice none 0 0) ?_
  refine gl_nil ?_
  refine ge_then ?_
  refine gc_seq ?_
  refine gc_seq ?_
  refine gc_reg ?_
  refine t 8 (.map (some bm)) ?_
  refine trg 9 M.ob ?_
  intro v1 r hI hr B
  have I : MapG _ r _ := ⟨hI⟩
  have hbr : bm < r := Nat.lt_of_lt_of_le M.lt hr
  have hwr : w.heap.size ≤ r := Nat.le_trans BB.size hr
  clear hI
  replace BB := joinB BB B
  replace M := M.keep B
  clear B
  refine gl_nil ?_
  refine ge_then ?_
  refine gc_block ?_
  refine gc_loop (fun s => (leftOf esG s.1).size) (fun (s : Array Nat × Option Addr × Nat × Nat) => [(1, .int .i64 1), (5, .slice s.2.1 s.2.2.1 s.2.2.2), (9, pg r)]) (fun s w' => Below w.heap.size w w' ∧ MapG w' bm (.map esG 1) ∧ MapG w' r (.mapIter (some bm) 1 s.1 1) ∧ UA w' w.heap.size (.slice s.2.1 s.2.2.1 s.2.2.2) ([] : List Int)) ((#[], none, 0, 0) : Array Nat × Option Addr × Nat × Nat) ⟨BB, M, I, by simpa using UA.nil _ _⟩ (by kernel_rfl) ?_
  clear BB
  clear M
  clear I
  rintro ⟨sn, a, k, d⟩ v2 ⟨BB, M, I, U⟩
  dsimp only at I U
  refine gc_seq ?_
  refine gc_reg ?_
  refine tnx 10 I.ob M.ob esG_born (Nat.le_refl _) ?_ ?_
  · intro h0
    have h1 := UA.zero U
    subst h1
    refine t 11 (.bool false) ?_
    refine gl_nil ?_
    refine ge_then ?_
    refine gc_seq ?_
    refine gc_no ?_
    refine gc_exit ?_
    refine ge_tx ?_
    refine ge_tx ?_
    refine ge_bx ?_
    refine ge_then ?_
    refine gc_seq ?_
    refine gc_reg ?_
    refine t 22 (.slice a 0 d) ?_
    refine tc 23 192 #[.slice a 0 d] (sort_k (Nat.zero_le 1)) ?_
    rintro _ v3 ⟨rfl, hw⟩
    refine ⟨_, rfl, ?_⟩
    subst hw
    refine gl_nil ?_
    refine ge_then ?_
    refine gc_seq ?_
    refine gc_reg ?_
    refine t 24 (.slice a 0 d) ?_
    refine t 4 (.slice a 0 d) ?_
    refine gl_nil ?_
    refine ge_then ?_
    refine gc_ret ?_
    refine ge_ret (.slice a 0 d) (rs1 4 (by kernel_rfl) (by kernel_rfl)) ?_
    exact ⟨_, rfl, U, BB⟩
  · intro e he v4 hI C
    have hm := mem_left he
    obtain rfl := esG_mem hm.1
    replace BB := belowC BB C hwr
    replace U := UA.itg U I (fun _ _ _ h => by cases h) C
    replace M := M.chg C (by omega)
    clear I
    have I : MapG _ r _ := ⟨hI⟩
    clear hI C
    refine t 11 (.bool true) ?_
    refine gl_nil ?_
    refine ge_then ?_
    refine gc_seq ?_
    refine gc_yes ?_
    refine gc_skip ?_
    refine ge_then ?_
    refine gc_block ?_
    refine gc_seq ?_
    refine gc_reg ?_
    refine tr 12 (.tuple #[.int .u64 16, .int .i64 2]) (run_en e0G I.ob M.ob (by simp [esG]) esG_nd) ?_
    refine t 13 (.int .u64 16) ?_
    refine t 14 (.int .i64 2) ?_
    refine t 6 (.int .u64 16) ?_
    refine t 7 (.int .i64 2) ?_
    refine gl_nil ?_
    refine ge_then ?_
    refine gc_seq ?_
    refine gc_reg ?_
    refine t 15 (.int .i64 2) ?_
    refine t 16 (.int .i64 1) ?_
    refine t 17 (.bool false) ?_
    refine gl_nil ?_
    refine ge_then ?_
    refine gc_no ?_
    refine gc_skip ?_
    refine ge_bn ?_
    have U6 : UA v4 w.heap.size (.slice a k d) ([] : List Int) := U
    exact ge_round ((sn.push 0, a, k, d) : Array Nat × Option Addr × Nat × Nat) (left_shrinks esG sn e0G he) ⟨BB, M, I, U6⟩ (by kernel_rfl)
theorem only_g2 {w : World} {bm : Nat} (M : MapG w bm (.map esG 1)) : Calls Tryz.prog 146 #[.map (some bm), .int .i64 2] w fun e w' => ∃ v, e = .returned v ∧ UA w' w.heap.size v [16] ∧ Below w.heap.size w w' := by
  have BB := Below.refl w.heap.size w
  refine gc_enter (n := 25) Tryz.func146 rfl (by kernel_rfl) (by kernel_rfl) ?_
  refine gc_seq ?_
  refine gc_reg ?_
  refine t 4 (.slice none 0 0) ?_
  refine gl_nil ?_
  refine ge_then ?_
  refine gc_seq ?_
  refine gc_reg ?_
  refine t 5 (.slice none 0 0) ?_
  refine gl_nil ?_
  refine ge_then ?_
  refine gc_seq ?_
  refine gc_seq ?_
  refine gc_reg ?_
  refine t 8 (.map (some bm)) ?_
  refine trg 9 M.ob ?_
  intro v1 r hI hr B
  have I : MapG _ r _ := ⟨hI⟩
  have hbr : bm < r := Nat.lt_of_lt_of_le M.lt hr
  have hwr : w.heap.size ≤ r := Nat.le_trans BB.size hr
  clear hI
  replace BB := joinB BB B
  replace M := M.keep B
  clear B
  refine gl_nil ?_
  refine ge_then ?_
  refine gc_block ?_
  refine gc_loop (fun s => (leftOf esG s.1).size) (fun (s : Array Nat × Option Addr × Nat × Nat) => [(1, .int .i64 2), (5, .slice s.2.1 s.2.2.1 s.2.2.2), (9, pg r)]) (fun s w' => Below w.heap.size w w' ∧ MapG w' bm (.map esG 1) ∧ MapG w' r (.mapIter (some bm) 1 s.1 1) ∧ UA w' w.heap.size (.slice s.2.1 s.2.2.1 s.2.2.2) (if s.1.contains 0 then [16] else [])) ((#[], none, 0, 0) : Array Nat × Option Addr × Nat × Nat) ⟨BB, M, I, by simpa using UA.nil _ _⟩ (by kernel_rfl) ?_
  clear BB
  clear M
  clear I
  rintro ⟨sn, a, k, d⟩ v2 ⟨BB, M, I, U⟩
  dsimp only at I U
  refine gc_seq ?_
  refine gc_reg ?_
  refine tnx 10 I.ob M.ob esG_born (Nat.le_refl _) ?_ ?_
  · intro h0
    have hc : sn.contains 0 = true := all_seen esG sn h0 e0G (by simp [esG])
    rw [if_pos hc] at U
    have h1 := UA.oneg U
    subst h1
    refine t 11 (.bool false) ?_
    refine gl_nil ?_
    refine ge_then ?_
    refine gc_seq ?_
    refine gc_no ?_
    refine gc_exit ?_
    refine ge_tx ?_
    refine ge_tx ?_
    refine ge_bx ?_
    refine ge_then ?_
    refine gc_seq ?_
    refine gc_reg ?_
    refine t 22 (.slice a 1 d) ?_
    refine tc 23 192 #[.slice a 1 d] (sort_k (Nat.le_refl 1)) ?_
    rintro _ v3 ⟨rfl, hw⟩
    refine ⟨_, rfl, ?_⟩
    subst hw
    refine gl_nil ?_
    refine ge_then ?_
    refine gc_seq ?_
    refine gc_reg ?_
    refine t 24 (.slice a 1 d) ?_
    refine t 4 (.slice a 1 d) ?_
    refine gl_nil ?_
    refine ge_then ?_
    refine gc_ret ?_
    refine ge_ret (.slice a 1 d) (rs1 4 (by kernel_rfl) (by kernel_rfl)) ?_
    exact ⟨_, rfl, U, BB⟩
  · intro e he v4 hI C
    have hm := mem_left he
    obtain rfl := esG_mem hm.1
    replace BB := belowC BB C hwr
    replace U := UA.itg U I (fun _ _ _ h => by cases h) C
    replace M := M.chg C (by omega)
    clear I
    have I : MapG _ r _ := ⟨hI⟩
    clear hI C
    refine t 11 (.bool true) ?_
    refine gl_nil ?_
    refine ge_then ?_
    refine gc_seq ?_
    refine gc_yes ?_
    refine gc_skip ?_
    refine ge_then ?_
    refine gc_block ?_
    refine gc_seq ?_
    refine gc_reg ?_
    refine tr 12 (.tuple #[.int .u64 16, .int .i64 2]) (run_en e0G I.ob M.ob (by simp [esG]) esG_nd) ?_
    refine t 13 (.int .u64 16) ?_
    refine t 14 (.int .i64 2) ?_
    refine t 6 (.int .u64 16) ?_
    refine t 7 (.int .i64 2) ?_
    refine gl_nil ?_
    refine ge_then ?_
    refine gc_seq ?_
    refine gc_reg ?_
    refine t 15 (.int .i64 2) ?_
    refine t 16 (.int .i64 2) ?_
    refine t 17 (.bool true) ?_
    refine gl_nil ?_
    refine ge_then ?_
    refine gc_yes ?_
    refine gc_reg ?_
    refine t 18 (.slice a k d) ?_
    refine t 19 (.int .u64 16) ?_
    refine ta 20 [.int .u64 16] 22 (sg 1) ?_
    intro v5 g6 Xg6 hg6 B
    replace BB := joinB BB B
    replace M := M.keep B
    replace I := I.keep B
    replace U := U.keep B
    clear B
    rw [if_neg (by have := hm.2; simp [e0G] at this; simp [this])] at U
    obtain ⟨v5, w5, hr5, U5, C5⟩ := app_u (a := ⟨g6, 0, none⟩) 52 U BB.size (by simp) (Xg6.cell (i := 0) rfl)
    obtain ⟨a5, c5, rfl⟩ := U5.shape
    refine tw 21 (.slice a5 1 c5) _ (run_apG hr5) ?_
    replace BB := BB.trans (C5.below (fun b h => h.1) BB.size)
    replace M := M.cel (fun _ _ _ h => by cases h) C5 (fun b h => by obtain ⟨_, cs, k⟩ := h; exact ⟨cs, _, k⟩)
    replace I := I.cel (fun _ _ _ h => by cases h) C5 (fun b h => by obtain ⟨_, cs, k⟩ := h; exact ⟨cs, _, k⟩)
    clear U Xg6 C5 hr5
    have U := U5
    clear U5
    refine t 5 (.slice a5 1 c5) ?_
    refine gl_nil ?_
    refine ge_bn ?_
    have U6 : UA w5 w.heap.size (.slice a5 1 c5) (if (sn.push 0).contains 0 then [16] else []) := by rw [if_pos (by simp)]; exact U
    exact ge_round ((sn.push 0, a5, 1, c5) : Array Nat × Option Addr × Nat × Nat) (left_shrinks esG sn e0G he) ⟨BB, M, I, U6⟩ (by kernel_rfl)
theorem turns_g {w : World} {a : Option Addr} {c d xb : Nat} {sp : List Value} (XB : Blk w xb (.int .u64 16 :: sp) 22) : Calls Tryz.prog 98 #[.slice a 0 c, .slice (some ⟨xb, 0, none⟩) 1 d] w fun e w' => ∃ va vb, e = .returned (.tuple #[va, vb]) ∧ UA w' w.heap.size va [] ∧ UA w' w.heap.size vb [16] ∧ Below w.heap.size w w' := by
  have BB := Below.refl w.heap.size w
  refine gc_enter (n := 38) Tryz.func98 rfl (by kernel_rfl) (by kernel_rfl) ?_
  refine gc_seq ?_
  refine gc_reg ?_
  refine t 4 (.slice none 0 0) ?_
  refine t 5 (.slice none 0 0) ?_
  refine gl_nil ?_
  refine ge_then ?_
  refine gc_seq ?_
  refine gc_reg ?_
  refine tmk 11 ?_
  intro v1 bm hM hbm B
  have hwb := Nat.le_trans BB.size hbm
  have lb := XB.lt
  have hxb : xb ≠ bm := by omega
  replace BB := joinB BB B
  replace XB := XB.keep B
  clear B
  have M : MapG v1 bm (.map (#[] : Array MapEntry) 0) := ⟨hM⟩
  clear hM
  refine t 6 (.map (some bm)) ?_
  refine gl_nil ?_
  refine ge_then ?_
  refine gc_seq ?_
  refine gc_seq ?_
  refine gc_reg ?_
  refine t 12 (.slice a 0 c) ?_
  refine t 13 (.int .i64 0) ?_
  refine t 14 (.int .i64 0) ?_
  refine gl_nil ?_
  refine ge_then ?_
  refine gc_block ?_
  refine gc_loop (fun _ => 0) (fun (_ : Unit) => [(1, .slice (some ⟨xb, 0, none⟩) 1 d), (6, .map (some bm)), (12, .slice a 0 c), (13, .int .i64 0), (14, .int .i64 0)]) (fun _ w' => Below w.heap.size w w' ∧ Blk w' xb (.int .u64 16 :: sp) 22 ∧ MapG w' bm (.map (#[] : Array MapEntry) 0)) () ⟨BB, XB, M⟩ (by kernel_rfl) ?_
  clear BB XB M
  rintro _ v2 ⟨BB, XB, M⟩
  refine gc_seq ?_
  refine gc_reg ?_
  refine t 15 (.bool false) ?_
  refine gl_nil ?_
  refine ge_then ?_
  refine gc_seq ?_
  refine gc_no ?_
  refine gc_exit ?_
  refine ge_tx ?_
  refine ge_tx ?_
  refine ge_bx ?_
  refine ge_then ?_
  refine gc_seq ?_
  refine gc_seq ?_
  refine gc_reg ?_
  refine t 23 (.slice (some ⟨xb, 0, none⟩) 1 d) ?_
  refine t 24 (.int .i64 1) ?_
  refine t 25 (.int .i64 0) ?_
  refine gl_nil ?_
  refine ge_then ?_
  refine gc_block ?_
  refine gc_loop (fun s => 1 - s) (fun (s : Nat) => [(6, .map (some bm)), (23, .slice (some ⟨xb, 0, none⟩) 1 d), (24, .int .i64 1), (25, .int .i64 (s : Int))]) (fun s w' => Below w.heap.size w w' ∧ Blk w' xb (.int .u64 16 :: sp) 22 ∧ ((s = 0 ∧ MapG w' bm (.map (#[] : Array MapEntry) 0)) ∨ (s = 1 ∧ MapG w' bm (.map (#[⟨.int .u64 16, .int .i64 2, 0⟩] : Array MapEntry) 1)))) 0 ⟨BB, XB, .inl ⟨rfl, M⟩⟩ (by kernel_rfl) ?_
  clear BB XB M
  rintro i v3 ⟨BB, XB, H⟩
  rcases H with ⟨rfl, M⟩ | ⟨rfl, M⟩
  · skip
    refine gc_seq ?_
    refine gc_reg ?_
    refine t 26 (.bool true) ?_
    refine gl_nil ?_
    refine ge_then ?_
    refine gc_seq ?_
    refine gc_yes ?_
    refine gc_skip ?_
    refine ge_then ?_
    refine gc_seq ?_
    refine gc_block ?_
    refine gc_seq ?_
    refine gc_reg ?_
    refine t 27 (pg xb) ?_
    refine tl 28 (.int .u64 16) XB 0 ?_
    refine t 10 (.int .u64 16) ?_
    refine gl_nil ?_
    refine ge_then ?_
    refine gc_reg ?_
    refine t 29 (.map (some bm)) ?_
    refine t 30 (.int .u64 16) ?_
    refine tr 31 (.int .i64 0) (run_lk 16 (.int .i64 0) (r := none) M.ob (by rfl) rfl) ?_
    refine t 32 (.int .i64 2) ?_
    refine tmu0 16 (.int .i64 2) (#[⟨.int .u64 16, .int .i64 2, 0⟩] : Array MapEntry) M.ob (by rfl) (by rfl) ?_
    intro v4 hM C
    replace BB := belowC BB C hwb
    replace XB := XB.chg C hxb
    clear M
    have M : MapG v4 bm (.map (#[⟨.int .u64 16, .int .i64 2, 0⟩] : Array MapEntry) 1) := ⟨hM⟩
    clear hM C
    refine gl_nil ?_
    refine ge_bn ?_
    refine ge_then ?_
    refine gc_reg ?_
    refine t 33 (.int .i64 1) ?_
    refine t 25 (.int .i64 1) ?_
    refine gl_nil ?_
    exact ge_round (1 : Nat) (by decide) ⟨BB, XB, .inr ⟨rfl, M⟩⟩ (by kernel_rfl)
  · skip
    refine gc_seq ?_
    refine gc_reg ?_
    refine t 26 (.bool false) ?_
    refine gl_nil ?_
    refine ge_then ?_
    refine gc_seq ?_
    refine gc_no ?_
    refine gc_exit ?_
    refine ge_tx ?_
    refine ge_tx ?_
    refine ge_bx ?_
    refine ge_then ?_
    refine gc_seq ?_
    refine gc_reg ?_
    refine t 34 (.map (some bm)) ?_
    have zz := BB.size
    refine tc 35 146 #[.map (some bm), .int .i64 1] (only_g1 (M : MapG _ bm (.map esG 1))) ?_
    rintro _ v5 ⟨va, rfl, Ua, B⟩
    refine ⟨_, rfl, ?_⟩
    replace Ua := Ua.low (B' := w.heap.size) (by omega)
    replace BB := joinB BB B
    replace XB := XB.keep B
    replace M := M.keep B
    clear B
    refine t 36 (.map (some bm)) ?_
    refine tc 37 146 #[.map (some bm), .int .i64 2] (only_g2 (M : MapG _ bm (.map esG 1))) ?_
    rintro _ v6 ⟨vb, rfl, Ub, B⟩
    refine ⟨_, rfl, ?_⟩
    have zb := BB.size
    replace Ub := Ub.low (B' := w.heap.size) (by omega)
    replace BB := joinB BB B
    replace XB := XB.keep B
    replace M := M.keep B
    replace Ua := Ua.keep B
    clear B
    refine t 4 (va) ?_
    refine t 5 (vb) ?_
    refine gl_nil ?_
    refine ge_then ?_
    refine gc_ret ?_
    refine ge_ret (.tuple #[va, vb]) (rs2 4 5 (by kernel_rfl) (by kernel_rfl) (by kernel_rfl)) ?_
    exact ⟨_, _, rfl, Ua, Ub, BB⟩
end Pt
end Go.Proofs.YtpoifdokmjhclaaGreat
