/- Several texts, joined: PtC. -/
import Derived.Test.YtemkjdanemddpaaGreatJah
namespace Go.Proofs.YtemkjdanemddpaaGreat
namespace Pt
open Go.RowKit Go.Lib Pg Gl So
set_option maxRecDepth 100000
set_option linter.unusedVariables false
set_option linter.unusedSimpArgs false
set_option maxHeartbeats 4000000
theorem ins_nil {w : World} : Calls Tryz.prog 98 #[.slice none 0 0, .int .i64 0, .int .i64 0] w fun e w' => e = .returned (.tuple #[]) ∧ Below w.heap.size w w' := by
  have BB := Below.refl w.heap.size w
  refine gc_enter (n := 49) Tryz.func98 rfl (by kernel_rfl) (by kernel_rfl) ?_
  refine gc_seq ?_
  refine gc_reg ?_
  refine t 8 (.int .i64 0) ?_
  refine t 9 (.int .i64 1) ?_
  refine t 6 (.int .i64 1) ?_
  refine gl_nil ?_
  refine ge_then ?_
  refine gc_block ?_
  refine gc_rds 0 ?_
  refine gc_seq ?_
  refine gc_seq ?_
  refine gc_reg ?_
  refine t 10 (.int .i64 1) ?_
  refine t 11 (.int .i64 0) ?_
  refine t 12 (.bool false) ?_
  refine gl_nil ?_
  refine ge_then ?_
  refine gc_no ?_
  refine gc_exit ?_
  refine ge_tx ?_
  refine ge_tx ?_
  refine ge_bx ?_
  refine ge_end (.tuple #[]) (rs0 (by kernel_rfl)) ?_
  exact ⟨rfl, BB⟩
theorem pdq_nil {w : World} : Calls Tryz.prog 82 #[.slice none 0 0, .int .i64 0, .int .i64 0, .int .i64 0] w fun e w' => e = .returned (.tuple #[]) ∧ Below w.heap.size w w' := by
  have BB := Below.refl w.heap.size w
  refine gc_enter (n := 134) Tryz.func82 rfl (by kernel_rfl) (by kernel_rfl) ?_
  refine gc_seq ?_
  refine gc_reg ?_
  refine t 8 (.bool true) ?_
  refine gl_nil ?_
  refine ge_then ?_
  refine gc_seq ?_
  refine gc_reg ?_
  refine t 9 (.bool true) ?_
  refine gl_nil ?_
  refine ge_then ?_
  refine gc_block ?_
  refine gc_rds 0 ?_
  refine gc_block ?_
  refine gc_seq ?_
  refine gc_reg ?_
  refine t 19 (.int .i64 0) ?_
  refine t 20 (.int .i64 0) ?_
  refine t 21 (.int .i64 0) ?_
  refine t 10 (.int .i64 0) ?_
  refine gl_nil ?_
  refine ge_then ?_
  refine gc_seq ?_
  refine gc_seq ?_
  refine gc_reg ?_
  refine t 22 (.int .i64 0) ?_
  refine t 23 (.bool true) ?_
  refine gl_nil ?_
  refine ge_then ?_
  refine gc_fr [(0, .slice none 0 0), (1, .int .i64 0), (2, .int .i64 0), (3, .int .i64 0), (8, .bool true), (9, .bool true), (10, .int .i64 0), (19, .int .i64 0), (20, .int .i64 0), (21, .int .i64 0), (22, .int .i64 0), (23, .bool true)] (by kernel_rfl) ?_
  refine gc_yes ?_
  refine gc_seq ?_
  refine gc_reg ?_
  refine t 24 (.slice none 0 0) ?_
  refine t 25 (.int .i64 0) ?_
  refine t 26 (.int .i64 0) ?_
  refine tc 27 98 #[.slice none 0 0, .int .i64 0, .int .i64 0] (ins_nil) ?_
  rintro _ v1 ⟨rfl, B⟩
  refine ⟨_, rfl, ?_⟩
  replace BB := joinB BB B
  clear B
  refine gl_nil ?_
  refine ge_then ?_
  refine gc_ret ?_
  refine ge_tr ?_
  refine ge_br ?_
  refine ge_tr ?_
  refine ge_br ?_
  refine ge_ret (.tuple #[]) (rs0 (by kernel_rfl)) ?_
  exact ⟨rfl, BB⟩
theorem sort_nil {w : World} : Calls Tryz.prog 56 #[.slice none 0 0] w fun e w' => e = .returned (.tuple #[]) ∧ Below w.heap.size w w' := by
  have BB := Below.refl w.heap.size w
  refine gc_enter (n := 11) Tryz.func56 rfl (by kernel_rfl) (by kernel_rfl) ?_
  refine gc_seq ?_
  refine gc_reg ?_
  refine t 3 (.slice none 0 0) ?_
  refine t 4 (.int .i64 0) ?_
  refine t 2 (.int .i64 0) ?_
  refine gl_nil ?_
  refine ge_then ?_
  refine gc_reg ?_
  refine t 5 (.slice none 0 0) ?_
  refine t 6 (.int .i64 0) ?_
  refine t 7 (.int .i64 0) ?_
  refine tr 8 (.int .u64 0) (cvB 0 (by decide)) ?_
  refine tc 9 83 #[.int .u64 0] (len_any (x := 0) (by decide) (by decide)) ?_
  rintro _ v1 ⟨rfl, B⟩
  refine ⟨_, rfl, ?_⟩
  replace BB := joinB BB B
  clear B
  refine tc 10 82 #[.slice none 0 0, .int .i64 0, .int .i64 0, .int .i64 0] (pdq_nil) ?_
  rintro _ v2 ⟨rfl, B⟩
  refine ⟨_, rfl, ?_⟩
  replace BB := joinB BB B
  clear B
  refine gl_nil ?_
  refine ge_end (.tuple #[]) (rs0 (by kernel_rfl)) ?_
  exact ⟨rfl, BB⟩
/-- a list of its own is sorted -/
theorem sort_ub {w : World} {B n : Nat} {v : Value} {f : Nat → Int} (u : UB w B v n f) (hn : n ≤ 1000000) : Calls Tryz.prog 56 #[v] w fun e w' => ∃ h, e = .returned (.tuple #[]) ∧ UB w' B v n h ∧ Pm 0 n f h ∧ Srt 0 n h ∧ Ch B w w' := by
  rcases u.ex with ⟨rfl, rfl⟩ | ⟨b, c, rfl, h1, h2, h3, h4⟩
  · refine sort_nil.mono ?_
    rintro e w' ⟨he, hB⟩
    exact ⟨f, he, UB.nil _ _ _, Pm.refl, srt_one (by decide), Chg.of hB⟩
  · refine (sort_any h2 h3 (by omega)).mono ?_
    rintro e w' ⟨h, he, R, p, s⟩
    refine ⟨h, he, ⟨.inr ⟨b, c, rfl, h1, R.blk, h3, h4⟩⟩, p, s, ⟨R.chg.os, R.chg.tape, R.chg.output, R.chg.size, fun k hk hF => R.chg.same k hk (fun e => hF ?_)⟩⟩
    have e' : k = b := e
    subst e'
    exact ⟨h1, _, h2⟩
theorem numbers_nu {w : World} {a a' : Option Addr} {n c c' b o b' o' : Nat} {xs : Nat → Int} (hn : n ≤ 1000000) (u : Nu w a n b o xs) (u' : Nu w a' n b' o' xs) : Calls Tryz.prog 15 #[.slice a n c, .slice a' n c'] w fun e w' => e = .returned (.bool true) ∧ Below w.heap.size w w' := by
  have BB := Below.refl w.heap.size w
  refine gc_enter (n := 26) Tryz.func15 rfl (by kernel_rfl) (by kernel_rfl) ?_
  refine gc_seq ?_
  refine gc_reg ?_
  refine t 4 (.bool false) ?_
  refine gl_nil ?_
  refine ge_then ?_
  refine gc_seq ?_
  refine gc_seq ?_
  refine gc_reg ?_
  refine t 6 (.slice a n c) ?_
  refine t 7 (.int .i64 ((n : Nat) : Int)) ?_
  refine t 8 (.slice a' n c') ?_
  refine t 9 (.int .i64 ((n : Nat) : Int)) ?_
  refine tq 10 (.bool (((n : Nat) : Int) != ((n : Nat) : Int))) (.bool false) (congrArg Value.bool (bne_self_eq_false _)) ?_
  refine gl_nil ?_
  refine ge_then ?_
  refine gc_no ?_
  refine gc_skip ?_
  refine ge_then ?_
  refine gc_seq ?_
  refine gc_seq ?_
  refine gc_reg ?_
  refine t 5 (.int .i64 0) ?_
  refine gl_nil ?_
  refine ge_then ?_
  refine gc_block ?_
  refine gc_loop (fun s => n - s) (fun (s : Nat) => [(0, .slice a n c), (1, .slice a' n c'), (5, .int .i64 (s : Int))]) (fun s w' => s ≤ n ∧ Below w.heap.size w w') (0 : Nat) ⟨Nat.zero_le _, BB⟩ (by kernel_rfl) ?_
  clear BB
  rintro i v1 ⟨hi, BB⟩
  refine gc_seq ?_
  refine gc_seq ?_
  refine gc_reg ?_
  refine t 11 (.int .i64 (i : Int)) ?_
  refine t 12 (.slice a n c) ?_
  refine t 13 (.int .i64 ((n : Nat) : Int)) ?_
  by_cases ci : (i : Int) < ((n : Nat) : Int)
  · have hk_i : i < n := by omega
    refine tq 14 (.bool (decide ((i : Int) < ((n : Nat) : Int)))) (.bool true) (congrArg Value.bool (decide_eq_true ci)) ?_
    refine gl_nil ?_
    refine ge_then ?_
    refine gc_yes ?_
    refine gc_skip ?_
    refine ge_then ?_
    refine gc_seq ?_
    refine gc_block ?_
    refine gc_seq ?_
    replace BB := BB.drew
    refine gc_draw (fun w' => Below w.heap.size w w') (fun _ => false) BB ?_
    refine z 0 17 (.slice a n c) ?_
    refine z 1 18 (.int .i64 (i : Int)) ?_
    refine zr 2 19 (pq b (o + i * 1)) (fun _ _ => run_ixa 1 b o n c i hk_i u.ptr) ?_
    refine zr 3 20 (.int .u64 (xs i)) (fun _ h => run_ld64 ((u.keep h).cell i hk_i)) ?_
    refine z 4 21 (.slice a' n c') ?_
    refine z 5 22 (.int .i64 (i : Int)) ?_
    refine zr 6 23 (pq b' (o' + i * 1)) (fun _ _ => run_ixa 1 b' o' n c' i hk_i u'.ptr) ?_
    refine zr 7 24 (.int .u64 (xs i)) (fun _ h => run_ld64 ((u'.keep h).cell i hk_i)) ?_
    refine zq 8 25 (.bool ((xs i : Int) != xs i)) (.bool false) (congrArg Value.bool (bne_self_eq_false _)) ?_
    refine gz_done ?_
    refine ge_then ?_
    refine gc_fr [(0, .slice a n c), (1, .slice a' n c'), (5, .int .i64 (i : Int)), (11, .int .i64 (i : Int)), (12, .slice a n c), (13, .int .i64 ((n : Nat) : Int)), (14, .bool true), (17, .slice a n c), (18, .int .i64 (i : Int)), (19, pq b (o + i * 1)), (20, .int .u64 (xs i)), (21, .slice a' n c'), (22, .int .i64 (i : Int)), (23, pq b' (o' + i * 1)), (24, .int .u64 (xs i)), (25, .bool false)] (by kernel_rfl) ?_
    refine gc_no ?_
    refine gc_skip ?_
    refine ge_bn ?_
    refine ge_then ?_
    refine gc_reg ?_
    refine t 15 (.int .i64 (i : Int)) ?_
    refine tq 16 (.int .i64 (IntKind.i64.wrap ((i : Int) + 1))) (.int .i64 ((i : Int) + 1)) (wi (by omega)) ?_
    refine t 5 (.int .i64 ((i : Int) + 1)) ?_
    refine gl_nil ?_
    exact ge_round (i + 1) (by show n - (i + 1) < n - i; omega) ⟨hk_i, BB⟩ (by kernel_rfl)
  · refine tq 14 (.bool (decide ((i : Int) < ((n : Nat) : Int)))) (.bool false) (congrArg Value.bool (decide_eq_false ci)) ?_
    refine gl_nil ?_
    refine ge_then ?_
    refine gc_no ?_
    refine gc_exit ?_
    refine ge_tx ?_
    refine ge_tx ?_
    refine ge_bx ?_
    refine ge_then ?_
    refine gc_seq ?_
    refine gc_reg ?_
    refine t 4 (.bool true) ?_
    refine gl_nil ?_
    refine ge_then ?_
    refine gc_ret ?_
    refine ge_ret (.bool true) (rs1 4 (by kernel_rfl) (by kernel_rfl)) ?_
    exact ⟨rfl, BB⟩
theorem only_any {w : World} {bm : Nat} {side : Int} {L : List (Int × Int)} (M : MapW w bm (mo L)) (nd : (L.map Prod.fst).Nodup) (hL0 : L.length ≤ 10000) : Calls Tryz.prog 37 #[.map (some bm), .int .i64 side] w fun e w' => ∃ v n f, e = .returned v ∧ UB w' w.heap.size v n f ∧ Oly (fun x => (x, side) ∈ L) (seg 0 n f) ∧ n ≤ L.length ∧ Below w.heap.size w w' := by
  have BB := Below.refl w.heap.size w
  refine gc_enter (n := 25) Tryz.func37 rfl (by kernel_rfl) (by kernel_rfl) ?_
  refine gc_seq ?_
  refine gc_reg ?_
  refine t 4 (.slice none 0 0) ?_
  refine gl_nil ?_
  refine ge_then ?_
  refine gc_seq ?_
  refine gc_reg ?_
  refine t 5 (.slice none 0 0) ?_
  refine gl_nil ?_
  refine ge_then ?_
  refine gc_seq ?_
  refine gc_seq ?_
  refine gc_reg ?_
  refine t 8 (.map (some bm)) ?_
  refine trg 9 M.ob ?_
  intro v1 r hI hr B
  have I : MapW _ r _ := ⟨hI⟩
  have hbr : bm < r := Nat.lt_of_lt_of_le M.lt hr
  have hwr : w.heap.size ≤ r := Nat.le_trans BB.size hr
  clear hI
  replace BB := joinB BB B
  replace M := M.keep B
  clear B
  refine gl_nil ?_
  refine ge_then ?_
  refine gc_block ?_
  refine gc_loop (fun s => (leftOf (mE 0 L).toArray s.1).size) (fun (s : Array Nat × Option Addr × Nat × Nat × (Nat → Int)) => [(1, .int .i64 side), (5, .slice s.2.1 s.2.2.1 s.2.2.2.1), (9, pg r)]) (fun s w' => Below w.heap.size w w' ∧ MapW w' bm (mo L) ∧ MapW w' r (.mapIter (some bm) L.length s.1 L.length) ∧ UB w' w.heap.size (.slice s.2.1 s.2.2.1 s.2.2.2.1) s.2.2.1 s.2.2.2.2 ∧ Oi L side s.1 (seg 0 s.2.2.1 s.2.2.2.2)) ((#[], none, 0, 0, fun _ => 0) : Array Nat × Option Addr × Nat × Nat × (Nat → Int)) ⟨BB, M, I, UB.nil _ _ _, Oi.start⟩ (by kernel_rfl) ?_
  clear BB
  clear M
  clear I
  rintro ⟨sn, a, q, d, f⟩ v2 ⟨BB, M, I, U, O⟩
  dsimp only at I U O
  have hq : q ≤ L.length := by have := O.few; rw [seg0_len] at this; omega
  refine gc_seq ?_
  refine gc_reg ?_
  refine tnx 10 I.ob M.ob old_mE (Nat.le_refl _) ?_ ?_
  · intro h0
    refine t 11 (.bool false) ?_
    refine gl_nil ?_
    refine ge_then ?_
    refine gc_seq ?_
    refine gc_no ?_
    refine gc_exit ?_
    refine ge_tx ?_
    refine ge_tx ?_
    refine ge_bx ?_
    refine ge_then ?_
    refine gc_seq ?_
    refine gc_reg ?_
    refine t 22 (.slice a q d) ?_
    refine tc 23 56 #[.slice a q d] (sort_ub U (by omega)) ?_
    rintro _ v3 ⟨h, rfl, U6, p6, s6, C6⟩
    refine ⟨_, rfl, ?_⟩
    replace BB := BB.trans (C6.below (fun b h => h.1) BB.size)
    refine gl_nil ?_
    refine ge_then ?_
    refine gc_seq ?_
    refine gc_reg ?_
    refine t 24 (.slice a q d) ?_
    refine t 4 (.slice a q d) ?_
    refine gl_nil ?_
    refine ge_then ?_
    refine gc_ret ?_
    refine ge_ret (.slice a q d) (rs1 4 (by kernel_rfl) (by kernel_rfl)) ?_
    have nd6 := p6.per.nodup_iff.2 O.nd
    exact ⟨_, q, h, rfl, U6, ⟨rise s6 nd6, fun x => (p6.per.mem_iff).trans (O.done h0 x)⟩, hq, BB⟩
  · intro e he v4 hI C
    have hm := mem_left he
    obtain ⟨k, v, hL, ee⟩ := mem_mE hm.1
    obtain ⟨ey, en⟩ := O.step nd he hL
    have hsh := left_shrinks (mE 0 L).toArray sn e he
    replace BB := belowC BB C hwr
    replace U := U.it I (fun _ _ _ h => by cases h) C
    replace M := M.chg C (by omega)
    clear I
    have I : MapW _ r _ := ⟨hI⟩
    clear hI C
    obtain ⟨bn, hbn⟩ : ∃ bn, e.born = bn := ⟨_, rfl⟩
    rw [hbn] at ee hL ey en hsh
    subst ee
    refine t 11 (.bool true) ?_
    refine gl_nil ?_
    refine ge_then ?_
    refine gc_seq ?_
    refine gc_yes ?_
    refine gc_skip ?_
    refine ge_then ?_
    refine gc_block ?_
    refine gc_seq ?_
    refine gc_reg ?_
    refine tr 12 (.tuple #[.int .u64 k, .int .i64 v]) (run_en ⟨.int .u64 k, .int .i64 v, bn⟩ I.ob M.ob hm.1 nd_mE) ?_
    refine t 13 (.int .u64 k) ?_
    refine t 14 (.int .i64 v) ?_
    refine t 6 (.int .u64 k) ?_
    refine t 7 (.int .i64 v) ?_
    refine gl_nil ?_
    refine ge_then ?_
    refine gc_seq ?_
    refine gc_reg ?_
    refine t 15 (.int .i64 v) ?_
    refine t 16 (.int .i64 side) ?_
    by_cases c5 : (v : Int) = side
    · refine tq 17 (.bool ((v : Int) == side)) (.bool true) (congrArg Value.bool (beq_iff_eq.2 c5)) ?_
      refine gl_nil ?_
      refine ge_then ?_
      refine gc_yes ?_
      refine gc_reg ?_
      refine t 18 (.slice a q d) ?_
      refine t 19 (.int .u64 k) ?_
      refine ta 20 [.int .u64 k] 31 (sg 1) ?_
      intro v6 g7 Xg7 hg7 B
      replace BB := joinB BB B
      replace M := M.keep B
      replace I := I.keep B
      replace U := U.keep B
      clear B
      obtain ⟨ak, ck, w5, f5, hr5, U5, hf5, hx5, C5⟩ := app_ub U Xg7 BB.size (by omega)
      refine tw 21 (.slice ak (q + 1) ck) _ (run_apU hr5) ?_
      replace BB := BB.trans (C5.below (fun b h => h.1) BB.size)
      replace M := M.cel (fun _ _ _ h => by cases h) C5 (fun b h => by obtain ⟨_, cs, k⟩ := h; exact ⟨cs, _, k⟩)
      replace I := I.cel (fun _ _ _ h => by cases h) C5 (fun b h => by obtain ⟨_, cs, k⟩ := h; exact ⟨cs, _, k⟩)
      clear U Xg7 C5 hr5
      have U := U5
      clear U5
      refine t 5 (.slice ak (q + 1) ck) ?_
      refine gl_nil ?_
      refine ge_bn ?_
      exact ge_round ((sn.push bn, ak, q + 1, ck, f5) : Array Nat × Option Addr × Nat × Nat × (Nat → Int)) hsh ⟨BB, M, I, U, by show Oi L side (sn.push bn) (seg 0 (q + 1) f5); rw [seg_app hf5 hx5]; exact ey c5⟩ (by kernel_rfl)
    · refine tq 17 (.bool ((v : Int) == side)) (.bool false) (congrArg Value.bool (beq_eq_false_iff_ne.2 c5)) ?_
      refine gl_nil ?_
      refine ge_then ?_
      refine gc_no ?_
      refine gc_skip ?_
      refine ge_bn ?_
      exact ge_round ((sn.push bn, a, q, d, f) : Array Nat × Option Addr × Nat × Nat × (Nat → Int)) hsh ⟨BB, M, I, U, en c5⟩ (by kernel_rfl)
theorem el_succ (z : Nat → Int) (i : Nat) (q : Int) : El i z q ∨ q = z i ↔ El (i + 1) z q := by
  constructor
  · rintro (⟨j, h, e⟩ | rfl)
    · exact ⟨j, by omega, e⟩
    · exact ⟨i, by omega, rfl⟩
  · rintro ⟨j, h, e⟩
    by_cases c : j = i
    · subst c; exact .inr e.symm
    · exact .inl ⟨j, by omega, e⟩
theorem turns_any {w : World} {a a' : Option Addr} {n c b o n' c' b' o' : Nat} {xs ys : Nat → Int} (u : Nu w a n b o xs) (u' : Nu w a' n' b' o' ys) (hn : n ≤ 1000) (hn' : n' ≤ 1000) : Calls Tryz.prog 22 #[.slice a n c, .slice a' n' c'] w fun e w' => ∃ va vb na nb fa fb, e = .returned (.tuple #[va, vb]) ∧ UB w' w.heap.size va na fa ∧ UB w' w.heap.size vb nb fb ∧ Oly (fun x => El n xs x ∧ ¬ El n' ys x) (seg 0 na fa) ∧ Oly (fun x => El n' ys x ∧ ¬ El n xs x) (seg 0 nb fb) ∧ na ≤ 2000 ∧ nb ≤ 2000 ∧ Below w.heap.size w w' := by
  have BB := Below.refl w.heap.size w
  refine gc_enter (n := 38) Tryz.func22 rfl (by kernel_rfl) (by kernel_rfl) ?_
  refine gc_seq ?_
  refine gc_reg ?_
  refine t 4 (.slice none 0 0) ?_
  refine t 5 (.slice none 0 0) ?_
  refine gl_nil ?_
  refine ge_then ?_
  refine gc_seq ?_
  refine gc_reg ?_
  refine tmk 11 ?_
  intro v1 bm hM hbm B
  have hwb := Nat.le_trans BB.size hbm
  replace BB := joinB BB B
  clear B
  have M : MapW v1 bm (mo []) := ⟨hM⟩
  clear hM
  refine t 6 (.map (some bm)) ?_
  refine gl_nil ?_
  refine ge_then ?_
  refine gc_seq ?_
  refine gc_seq ?_
  refine gc_reg ?_
  refine t 12 (.slice a n c) ?_
  refine t 13 (.int .i64 ((n : Nat) : Int)) ?_
  refine t 14 (.int .i64 0) ?_
  refine gl_nil ?_
  refine ge_then ?_
  refine gc_block ?_
  refine gc_loop (fun s => n - s.1) (fun (s : Nat × List (Int × Int)) => [(1, .slice a' n' c'), (6, .map (some bm)), (12, .slice a n c), (13, .int .i64 ((n : Nat) : Int)), (14, .int .i64 (s.1 : Int))]) (fun s w' => s.1 ≤ n ∧ Below w.heap.size w w' ∧ MapW w' bm (mo s.2) ∧ Sd (El s.1 xs) (fun _ => False) s.2 ∧ s.2.length ≤ s.1) ((0, []) : Nat × List (Int × Int)) ⟨Nat.zero_le _, BB, M, Sd.nil.iff (fun q => ⟨False.elim, fun ⟨i, h, _⟩ => absurd h (Nat.not_lt_zero _)⟩) (fun _ => Iff.rfl), Nat.zero_le _⟩ (by kernel_rfl) ?_
  clear BB
  clear M
  skip
  rintro ⟨i, L⟩ v2 ⟨hi, BB, M, Sdd, hLl⟩
  dsimp only at hi BB M Sdd hLl
  refine gc_seq ?_
  refine gc_reg ?_
  by_cases ci : (i : Int) < ((n : Nat) : Int)
  · have hk_i : i < n := by omega
    refine tq 15 (.bool (decide ((i : Int) < ((n : Nat) : Int)))) (.bool true) (congrArg Value.bool (decide_eq_true ci)) ?_
    refine gl_nil ?_
    refine ge_then ?_
    refine gc_seq ?_
    refine gc_yes ?_
    refine gc_skip ?_
    refine ge_then ?_
    refine gc_seq ?_
    refine gc_block ?_
    refine gc_seq ?_
    refine gc_reg ?_
    refine tr 16 (pq b (o + i * 1)) (run_ixa 1 b o n c i hk_i u.ptr) ?_
    refine tr 17 (.int .u64 (xs i)) (run_ld64 ((u.keep BB).cell i hk_i)) ?_
    refine t 8 (.int .u64 (xs i)) ?_
    refine gl_nil ?_
    refine ge_then ?_
    refine gc_reg ?_
    refine t 18 (.map (some bm)) ?_
    refine t 19 (.int .u64 (xs i)) ?_
    refine tr 20 (.int .i64 (gv L (xs i))) (run_lkG (xs i) M) ?_
    refine tr 21 (.int .i64 (or1 (gv L (xs i)))) (run_or (gv L (xs i)) (Sdd.rng (xs i))) ?_
    refine tmuG (xs i) (or1 (gv L (xs i))) M ?_
    intro v3 M2 C
    replace BB := belowC BB C hwb
    clear M C
    have M := M2
    clear M2
    refine gl_nil ?_
    refine ge_bn ?_
    refine ge_then ?_
    refine gc_reg ?_
    refine tq 22 (.int .i64 (IntKind.i64.wrap ((i : Int) + 1))) (.int .i64 ((i : Int) + 1)) (wi (by omega)) ?_
    refine t 14 (.int .i64 ((i : Int) + 1)) ?_
    refine gl_nil ?_
    exact ge_round ((i + 1, ups (xs i) (or1 (gv L (xs i))) L) : Nat × List (Int × Int)) (by show n - (i + 1) < n - i; omega) ⟨hk_i, BB, M, (Sdd.one (xs i)).iff (fun q => el_succ xs i q) (fun _ => Iff.rfl), by have := len_ups (k := xs i) (x := or1 (gv L (xs i))) (L := L); show (ups _ _ L).length ≤ (i + 1); omega⟩ (by kernel_rfl)
  · refine tq 15 (.bool (decide ((i : Int) < ((n : Nat) : Int)))) (.bool false) (congrArg Value.bool (decide_eq_false ci)) ?_
    refine gl_nil ?_
    refine ge_then ?_
    refine gc_seq ?_
    refine gc_no ?_
    refine gc_exit ?_
    refine ge_tx ?_
    refine ge_tx ?_
    refine ge_bx ?_
    refine ge_then ?_
    refine gc_seq ?_
    refine gc_seq ?_
    refine gc_reg ?_
    refine t 23 (.slice a' n' c') ?_
    refine t 24 (.int .i64 ((n' : Nat) : Int)) ?_
    refine t 25 (.int .i64 0) ?_
    refine gl_nil ?_
    refine ge_then ?_
    refine gc_block ?_
    refine gc_loop (fun s => n' - s.1) (fun (s : Nat × List (Int × Int)) => [(6, .map (some bm)), (23, .slice a' n' c'), (24, .int .i64 ((n' : Nat) : Int)), (25, .int .i64 (s.1 : Int))]) (fun s w' => s.1 ≤ n' ∧ Below w.heap.size w w' ∧ MapW w' bm (mo s.2) ∧ Sd (El n xs) (El s.1 ys) s.2 ∧ s.2.length ≤ n + s.1) ((0, L) : Nat × List (Int × Int)) ⟨Nat.zero_le _, BB, M, Sdd.iff (fun q => by rw [show i = n by omega]) (fun q => ⟨False.elim, fun ⟨i, h, _⟩ => absurd h (Nat.not_lt_zero _)⟩), by show L.length ≤ n + 0; omega⟩ (by kernel_rfl) ?_
    clear BB
    clear M
    clear Sdd hLl hi
    rintro ⟨i, L⟩ v4 ⟨hi, BB, M, Sdd, hLl⟩
    dsimp only at hi BB M Sdd hLl
    refine gc_seq ?_
    refine gc_reg ?_
    by_cases ci : (i : Int) < ((n' : Nat) : Int)
    · have hk_i : i < n' := by omega
      refine tq 26 (.bool (decide ((i : Int) < ((n' : Nat) : Int)))) (.bool true) (congrArg Value.bool (decide_eq_true ci)) ?_
      refine gl_nil ?_
      refine ge_then ?_
      refine gc_seq ?_
      refine gc_yes ?_
      refine gc_skip ?_
      refine ge_then ?_
      refine gc_seq ?_
      refine gc_block ?_
      refine gc_seq ?_
      refine gc_reg ?_
      refine tr 27 (pq b' (o' + i * 1)) (run_ixa 1 b' o' n' c' i hk_i u'.ptr) ?_
      refine tr 28 (.int .u64 (ys i)) (run_ld64 ((u'.keep BB).cell i hk_i)) ?_
      refine t 10 (.int .u64 (ys i)) ?_
      refine gl_nil ?_
      refine ge_then ?_
      refine gc_reg ?_
      refine t 29 (.map (some bm)) ?_
      refine t 30 (.int .u64 (ys i)) ?_
      refine tr 31 (.int .i64 (gv L (ys i))) (run_lkG (ys i) M) ?_
      refine tr 32 (.int .i64 (or2 (gv L (ys i)))) (run_or2 (gv L (ys i)) (Sdd.rng (ys i))) ?_
      refine tmuG (ys i) (or2 (gv L (ys i))) M ?_
      intro v5 M2 C
      replace BB := belowC BB C hwb
      clear M C
      have M := M2
      clear M2
      refine gl_nil ?_
      refine ge_bn ?_
      refine ge_then ?_
      refine gc_reg ?_
      refine tq 33 (.int .i64 (IntKind.i64.wrap ((i : Int) + 1))) (.int .i64 ((i : Int) + 1)) (wi (by omega)) ?_
      refine t 25 (.int .i64 ((i : Int) + 1)) ?_
      refine gl_nil ?_
      exact ge_round ((i + 1, ups (ys i) (or2 (gv L (ys i))) L) : Nat × List (Int × Int)) (by show n' - (i + 1) < n' - i; omega) ⟨hk_i, BB, M, (Sdd.two (ys i)).iff (fun _ => Iff.rfl) (fun q => el_succ ys i q), by have := len_ups (k := ys i) (x := or2 (gv L (ys i))) (L := L); show (ups _ _ L).length ≤ n + (i + 1); omega⟩ (by kernel_rfl)
    · refine tq 26 (.bool (decide ((i : Int) < ((n' : Nat) : Int)))) (.bool false) (congrArg Value.bool (decide_eq_false ci)) ?_
      refine gl_nil ?_
      refine ge_then ?_
      refine gc_seq ?_
      refine gc_no ?_
      refine gc_exit ?_
      refine ge_tx ?_
      refine ge_tx ?_
      refine ge_bx ?_
      refine ge_then ?_
      refine gc_seq ?_
      refine gc_reg ?_
      refine t 34 (.map (some bm)) ?_
      have za := BB.size
      refine tc 35 37 #[.map (some bm), .int .i64 1] (only_any M Sdd.nd (by omega)) ?_
      rintro _ v6 ⟨va, na, fa, rfl, Ua, Oa, la, B⟩
      refine ⟨_, rfl, ?_⟩
      replace Ua := Ua.low (B' := w.heap.size) (by omega)
      replace BB := joinB BB B
      replace M := M.keep B
      clear B
      refine t 36 (.map (some bm)) ?_
      have zb := BB.size
      refine tc 37 37 #[.map (some bm), .int .i64 2] (only_any M Sdd.nd (by omega)) ?_
      rintro _ v7 ⟨vb, nb, fb, rfl, Ub, Ob, lb, B⟩
      refine ⟨_, rfl, ?_⟩
      replace Ub := Ub.low (B' := w.heap.size) (by omega)
      replace BB := joinB BB B
      replace M := M.keep B
      replace Ua := Ua.keep B
      clear B
      refine t 4 (va) ?_
      refine t 5 (vb) ?_
      refine gl_nil ?_
      refine ge_then ?_
      refine gc_ret ?_
      refine ge_ret (.tuple #[va, vb]) (rs2 4 5 (by kernel_rfl) (by kernel_rfl) (by kernel_rfl)) ?_
      obtain rfl : i = n' := by omega
      exact ⟨_, _, na, nb, fa, fb, rfl, Ua, Ub, Oa.iff (fun x => (Sdd.sp x 1).trans (by simp [Cls])), Ob.iff (fun x => (Sdd.sp x 2).trans (by simp [Cls, And.comm])), by omega, by omega, BB⟩
end Pt
end Go.Proofs.YtemkjdanemddpaaGreat
