/- Several texts, joined: MgU, MgE. -/
import Derived.Test.YtgfglfpckjkcdaaJha
import Derived.Test.YtgfglfpckjkcdaaJea
namespace Go.Proofs.Ytgfglfpckjkcdaa
namespace Mg
open Go.RowKit Go.Lib Pg Lim Gl
theorem Blk.byt {B : Nat} {w w' : World} {g : Nat} {cs : List Value} {t : TypeId} (h : Blk w g cs t) (b : Byt B w w') (ht : t ≠ 5) : Blk w' g cs t := ⟨by rw [b.typ g _ t _ h.blk ht]; exact h.blk⟩
theorem be1 {x : Int} (h : 0 ≤ x ∧ x < 256) : be 1 x = [x] := by
  have h1 := be_val 1 h.1
  have h2 := be_length 1 x
  rw [p1, Int.emod_eq_of_lt h.1 h.2] at h1
  match hb : be 1 x, h2 with
  | [y], _ =>
    rw [hb] at h1
    simpa [bval] using h1
theorem blk_mine {w : World} {B g n : Nat} {L : List Int} (X : Blk w g (L.map (Value.int .u8)) 5) (hB : B ≤ g) (hn : L.length = n) (hm : n ≤ 1000000) : MineB w B (sg n g) L := by
  subst hn
  exact ⟨by rw [List.length_map, Nat.mul_one], .inr ⟨g, L.length, (L.map (Value.int .u8)).toArray, rfl, hB, X.blk, Nat.le_refl _, by unfold maxLen; omega, by simp, by rw [Nat.mul_one, List.take_of_length_le (by simp)]⟩⟩
theorem blk_bya {w : World} {g : Nat} {l : List Int} (X : Blk w g (l.map (Value.int .u8)) 5) (ho : Octets l) (hl : l.length ≤ 1000000) : ByA w g (some ⟨g, 0, none⟩) l.length l.length l := by
  obtain ⟨b, ao, c, e, -, A⟩ := (blk_mine X (Nat.le_refl g) rfl hl).bya ho
  cases e
  obtain ⟨o, h1, h2, h3, h4, h5⟩ := A.ex
  exact ⟨0, h1, h2, h3, h4, .inr rfl, fun i hi => by
    rw [Nat.zero_add]
    exact X.cell (by rw [List.getElem?_map, List.getElem?_eq_getElem hi, nth_eq hi]; rfl)⟩
theorem nil_bya {w : World} {b : Nat} : ByA w b none 0 0 [] := ⟨0, rfl, Nat.le_refl _, ⟨by decide, fun _ => rfl⟩, fun y hy => (by cases hy), .inl rfl, fun i hi => by simp at hi⟩
theorem app_mb {w : World} {B g : Nat} {v : Value} {L : List Int} {x : Int} (hM : MineB w B v L) (X : Blk w g [.int .u8 x] 5) (hx : 0 ≤ x ∧ x < 256) (hB : B ≤ w.heap.size) (hL : L.length ≤ 1000000) :
    ∃ v' w', (Builtin.append_ #[32, 32] 32 #[v, sg 1 g]).run Try.prog w = .ok v' w' ∧ MineB w' B v' (L ++ be 1 x) ∧ Byt B w w' := by
  obtain ⟨i0, hi, hz0, hz1, hz2⟩ := info_parts info_u8
  have H := run_append_own (P := Try.prog) w B 32 32 5 i0 (.int .u8 0) 1 1 under_bytes hi hz0 hz1 hz2 rfl (by decide) v L.length (L.map (Value.int .u8)) hM ⟨g, 0, none⟩ 1 1 [.int .u8 x] rfl
    (fun j u hj => by
      match j, hj with
      | 0, hj => cases hj; exact X.cell (i := 0) rfl
      | j + 1, hj => simp at hj)
    (fun u hu => by rw [List.mem_singleton] at hu; subst hu; rfl) (by unfold maxLen; omega) (by omega) hB
  obtain ⟨v', w', h1, h2, h3, -⟩ := H
  refine ⟨v', w', h1, ?_, Byt.grown hM h3⟩
  rw [be1 hx]
  unfold MineB
  rw [List.length_append, List.map_append]
  exact h2
/-- an append to a list that is full: the list itself stays -/
theorem app_full {w : World} {g g1 : Nat} {M : List Int} {x : Int} (h : Blk w g (M.map (Value.int .u8)) 5) (X : Blk w g1 [.int .u8 x] 5) (ho : Octets M) (hx : 0 ≤ x ∧ x < 256) (hl : M.length ≤ 100000) :
    ∃ b c w', (Builtin.append_ #[32, 32] 32 #[.slice (some ⟨g, 0, none⟩) M.length M.length, sg 1 g1]).run Try.prog w = .ok (.slice (some ⟨b, 0, none⟩) (M.length + 1) c) w' ∧ ByA w' b (some ⟨b, 0, none⟩) (M.length + 1) c (M ++ [x]) ∧ Below w.heap.size w w' := by
  obtain ⟨i0, hi, hz0, hz1, hz2⟩ := info_parts info_u8
  have hM := blk_mine h (Nat.le_refl g) rfl (show M.length ≤ 1000000 by omega)
  have holds := World.ownsRow.cells hM (g := g) rfl
  have hr := run_append_grow (P := Try.prog) w 32 32 5 i0 (.int .u8 0) under_bytes hi hz0 ⟨g, 0, none⟩ M.length M.length (M.map (Value.int .u8)) (by rw [List.length_map, hz1, Nat.mul_one]) holds ⟨g1, 0, none⟩ 1 1 [.int .u8 x] (by rw [hz1]; rfl)
    (fun j u hj => by
      match j, hj with
      | 0, hj => cases hj; exact X.cell (i := 0) rfl
      | j + 1, hj => simp at hj) (by omega) (by omega) (growslice_fits (by omega) (by rw [hz2]; omega))
  have hge := grownCap_ge w (M.length + 1) M.length 5
  have hcm : grownCap w (M.length + 1) M.length 5 ≤ maxLen := grownCap_le_maxLen w _ _ _ (by unfold maxLen; omega)
  refine ⟨_, _, _, hr, ⟨0, by simp, hge, ⟨by unfold maxLen at hcm; omega, fun e => by cases e⟩, fun y hy => ?_, .inr rfl, fun i hi => ?_⟩, ?_⟩
  · rcases List.mem_append.1 hy with h1 | h1
    · exact ho y h1
    · rw [List.mem_singleton] at h1; subst h1; exact hx
  · have hb := heap_alloc_new w.drew (.cells ((M.map (Value.int .u8)).toArray ++ [Value.int .u8 x].toArray ++ Builtin.zeroCells (Value.int .u8 0).cells (grownCap w (M.length + 1) M.length 5 - (M.length + 1))) 5)
    rw [Nat.zero_add]
    show World.cell? _ ⟨w.drew.heap.size, i, none⟩ = _
    simp only [World.cell?, hb]
    have e1 : ((M.map (Value.int .u8)).toArray ++ [Value.int .u8 x].toArray) = ((M ++ [x]).map (Value.int .u8)).toArray := by simp
    rw [e1, Array.getElem?_append_left (by simpa using hi), List.getElem?_toArray, List.getElem?_map, List.getElem?_eq_getElem hi, nth_eq hi]
    rfl
  · have b := below_alloc w.drew (.cells ((M.map (Value.int .u8)).toArray ++ [Value.int .u8 x].toArray ++ Builtin.zeroCells (Value.int .u8 0).cells (grownCap w (M.length + 1) M.length 5 - (M.length + 1))) 5)
    exact ⟨b.os, b.tape, b.output, b.size, b.block⟩
theorem run_apB {ρ : Operand → Value} {w w' : World} {o : Oper} {u v r : Value} (hr : (Builtin.append_ #[32, 32] 32 #[u, v]).run Try.prog w = .ok r w') (ho : ∃ x y, o.op = .call { callee := .builtin .append, args := #[x, y], argTypes := #[32, 32] } ∧ o.type = 32 ∧ ρ x = u ∧ ρ y = v := by exact ⟨_, _, rfl, rfl, by kernel_rfl, by kernel_rfl⟩) : (execOp ρ o).run Try.prog w = .ok (.value r) w' := by
  obtain ⟨x, y, h, ht, h1, h2⟩ := ho
  unfold execOp
  simp only [h, ht, resolve, invoke, builtin, Sem.run_bind, Sem.run_pure, Result.andThen_ok, List.map_toArray, List.map_cons, List.map_nil, h1, h2, hr]
theorem put8 {w : World} {B : Nat} {x : Int} {v : Value} {L : List Int} (hM : MineB w B v L) (hB : B ≤ w.heap.size) (hL : L.length ≤ 1000) :
    Calls Try.prog 19 #[v, .int .i64 8, .int .u64 x] w fun e w' => ∃ v', e = .returned v' ∧ MineB w' B v' (L ++ be 8 x) ∧ Byt B w w' := put_any (n := 8) hM hB (by decide) (by omega)
theorem bytT {w : World} {b0 b1 n0 c0 n1 c1 : Nat} {a0 a1 : Option Addr} {l : List Int} (h0 : ByA w b0 a0 n0 c0 l) (h1 : ByA w b1 a1 n1 c1 l) (hn : l.length ≤ 100000) :
    Calls Try.prog 11 #[.slice a0 n0 c0, .slice a1 n1 c1] w fun e w' => e = .returned (.bool true) ∧ Below w.heap.size w w' := by
  have e0 : l.length = n0 := by obtain ⟨o, h, _⟩ := h0.ex; exact h
  have e1 : l.length = n1 := by obtain ⟨o, h, _⟩ := h1.ex; exact h
  have h := bSame h0 h1 (by omega) (by omega)
  have e : eqB l l = true := by simp [eqB]
  rw [e] at h
  exact h
theorem no_of {p : Prop} [Decidable p] (h : false = decide p) : ¬ p := of_decide_eq_false h.symm
theorem nok1 {i : It} (k : i.k = 1) (h : ¬ okM i.m i.a i.b i.n = true) : ¬ Ok i := fun o => h (Ok.msg o k)
theorem nokK {m a b n : Int} (h : m < 1 ∨ 10 < m) : ¬ okM m a b n = true := fun q => by have := uK_rng (okM_is q).1; omega
theorem okM_mk {m a b n : Int} (hm : 1 ≤ m ∧ m ≤ 10) (ha : uA m = true ∨ a = 0) (hb : uB m = true ∨ b = 0) (hn : uN m = true ∨ n = 0) : okM m a b n = true := by
  have : uK m = true := by unfold uK; exact decide_eq_true hm
  simp only [okM, this, Bool.true_and, Bool.and_eq_true, Bool.or_eq_true, decide_eq_true_eq]
  exact ⟨ha, hb, hn⟩
theorem rf_box {w : World} {g b n c : Nat} {ao : Option Addr} {l : List Int} (X : Blk w g [.slice ao n c, .int .i64 0] 69) (A : ByA w b ao n c l) : RfA w g b ((0 : Int), l).1 ((0 : Int), l).2 := ⟨ao, n, c, ⟨X.blk⟩, A⟩
theorem e84 : be 1 84 = [84] := by decide
theorem e70 : be 1 70 = [70] := by decide
end Mg
end Go.Proofs.Ytgfglfpckjkcdaa

namespace Go.Proofs.Ytgfglfpckjkcdaa
namespace Mg
open Go.RowKit Go.Lib Pg Lim Gl
set_option maxRecDepth 100000
set_option linter.unusedVariables false
set_option linter.unusedSimpArgs false
set_option maxHeartbeats 2000000
theorem rUses_any {w : World} (k : Int) : Calls Try.prog 10 #[.int .i64 k] w fun e w' => e = .returned (.tuple #[.bool (uA k), .bool (uB k), .bool (uN k)]) ∧ Below w.heap.size w w' := by
  have BB := Below.refl w.heap.size w
  refine gc_enter (n := 18) Try.func10 rfl (by kernel_rfl) (by kernel_rfl) ?_
  refine gc_seq ?_
  refine gc_reg ?_
  refine t 2 (.bool false) ?_
  refine t 3 (.bool false) ?_
  refine t 4 (.bool false) ?_
  refine gl_nil ?_
  refine ge_then ?_
  refine gc_seq ?_
  refine gc_seq ?_
  refine gc_reg ?_
  refine t 5 (.int .i64 k) ?_
  refine gl_nil ?_
  refine ge_then ?_
  refine gc_block ?_
  refine gc_seq ?_
  refine gc_seq ?_
  refine gc_reg ?_
  by_cases c1 : (k : Int) = 1
  · refine tq 7 (.bool ((k : Int) == 1)) (.bool true) (congrArg Value.bool (beq_iff_eq.2 c1)) ?_
    refine t 6 (.bool true) ?_
    refine gl_nil ?_
    refine ge_then ?_
    refine gc_yes ?_
    refine gc_skip ?_
    refine ge_then ?_
    refine gc_yes ?_
    refine gc_seq ?_
    refine gc_reg ?_
    refine t 2 (.bool true) ?_
    refine t 3 (.bool false) ?_
    refine t 4 (.bool true) ?_
    refine gl_nil ?_
    refine ge_then ?_
    refine gc_ret ?_
    refine ge_br ?_
    refine ge_tr ?_
    refine ge_ret (.tuple #[.bool true, .bool false, .bool true]) (rs3 2 3 4 (by kernel_rfl) (by kernel_rfl) (by kernel_rfl) (by kernel_rfl)) ?_
    have e : uA k = true ∧ uB k = false ∧ uN k = true := by
      simp only [uA, uB, uN, Bool.or_eq_true, decide_eq_true_eq, Bool.or_eq_false_iff, decide_eq_false_iff_not]
      omega
    exact ⟨by rw [e.1, e.2.1, e.2.2], BB⟩
  · refine tq 7 (.bool ((k : Int) == 1)) (.bool false) (congrArg Value.bool (beq_eq_false_iff_ne.2 c1)) ?_
    refine t 6 (.bool false) ?_
    refine gl_nil ?_
    refine ge_then ?_
    refine gc_no ?_
    refine gc_seq ?_
    refine gc_reg ?_
    by_cases c2 : (k : Int) = 2
    · refine tq 8 (.bool ((k : Int) == 2)) (.bool true) (congrArg Value.bool (beq_iff_eq.2 c2)) ?_
      refine t 6 (.bool true) ?_
      refine gl_nil ?_
      refine ge_then ?_
      refine gc_yes ?_
      refine gc_skip ?_
      refine ge_then ?_
      refine gc_yes ?_
      refine gc_seq ?_
      refine gc_reg ?_
      refine t 2 (.bool true) ?_
      refine t 3 (.bool false) ?_
      refine t 4 (.bool true) ?_
      refine gl_nil ?_
      refine ge_then ?_
      refine gc_ret ?_
      refine ge_br ?_
      refine ge_tr ?_
      refine ge_ret (.tuple #[.bool true, .bool false, .bool true]) (rs3 2 3 4 (by kernel_rfl) (by kernel_rfl) (by kernel_rfl) (by kernel_rfl)) ?_
      have e : uA k = true ∧ uB k = false ∧ uN k = true := by
        simp only [uA, uB, uN, Bool.or_eq_true, decide_eq_true_eq, Bool.or_eq_false_iff, decide_eq_false_iff_not]
        omega
      exact ⟨by rw [e.1, e.2.1, e.2.2], BB⟩
    · refine tq 8 (.bool ((k : Int) == 2)) (.bool false) (congrArg Value.bool (beq_eq_false_iff_ne.2 c2)) ?_
      refine t 6 (.bool false) ?_
      refine gl_nil ?_
      refine ge_then ?_
      refine gc_no ?_
      refine gc_seq ?_
      refine gc_reg ?_
      by_cases c3 : (k : Int) = 3
      · refine tq 9 (.bool ((k : Int) == 3)) (.bool true) (congrArg Value.bool (beq_iff_eq.2 c3)) ?_
        refine t 6 (.bool true) ?_
        refine gl_nil ?_
        refine ge_then ?_
        refine gc_yes ?_
        refine gc_skip ?_
        refine ge_then ?_
        refine gc_yes ?_
        refine gc_seq ?_
        refine gc_reg ?_
        refine t 2 (.bool true) ?_
        refine t 3 (.bool false) ?_
        refine t 4 (.bool true) ?_
        refine gl_nil ?_
        refine ge_then ?_
        refine gc_ret ?_
        refine ge_br ?_
        refine ge_tr ?_
        refine ge_ret (.tuple #[.bool true, .bool false, .bool true]) (rs3 2 3 4 (by kernel_rfl) (by kernel_rfl) (by kernel_rfl) (by kernel_rfl)) ?_
        have e : uA k = true ∧ uB k = false ∧ uN k = true := by
          simp only [uA, uB, uN, Bool.or_eq_true, decide_eq_true_eq, Bool.or_eq_false_iff, decide_eq_false_iff_not]
          omega
        exact ⟨by rw [e.1, e.2.1, e.2.2], BB⟩
      · refine tq 9 (.bool ((k : Int) == 3)) (.bool false) (congrArg Value.bool (beq_eq_false_iff_ne.2 c3)) ?_
        refine t 6 (.bool false) ?_
        refine gl_nil ?_
        refine ge_then ?_
        refine gc_no ?_
        refine gc_seq ?_
        refine gc_reg ?_
        by_cases c4 : (k : Int) = 4
        · refine tq 10 (.bool ((k : Int) == 4)) (.bool true) (congrArg Value.bool (beq_iff_eq.2 c4)) ?_
          refine t 6 (.bool true) ?_
          refine gl_nil ?_
          refine ge_then ?_
          refine gc_yes ?_
          refine gc_skip ?_
          refine ge_then ?_
          refine gc_yes ?_
          refine gc_seq ?_
          refine gc_reg ?_
          refine t 2 (.bool true) ?_
          refine t 3 (.bool false) ?_
          refine t 4 (.bool true) ?_
          refine gl_nil ?_
          refine ge_then ?_
          refine gc_fr [(2, .bool true), (3, .bool false), (4, .bool true)] (by kernel_rfl) ?_
          refine gc_ret ?_
          refine ge_br ?_
          refine ge_tr ?_
          refine ge_ret (.tuple #[.bool true, .bool false, .bool true]) (rs3 2 3 4 (by kernel_rfl) (by kernel_rfl) (by kernel_rfl) (by kernel_rfl)) ?_
          have e : uA k = true ∧ uB k = false ∧ uN k = true := by
            simp only [uA, uB, uN, Bool.or_eq_true, decide_eq_true_eq, Bool.or_eq_false_iff, decide_eq_false_iff_not]
            omega
          exact ⟨by rw [e.1, e.2.1, e.2.2], BB⟩
        · refine tq 10 (.bool ((k : Int) == 4)) (.bool false) (congrArg Value.bool (beq_eq_false_iff_ne.2 c4)) ?_
          refine t 6 (.bool false) ?_
          refine gl_nil ?_
          refine ge_then ?_
          refine gc_no ?_
          refine gc_reg ?_
          by_cases c5 : (k : Int) = 10
          · refine tq 11 (.bool ((k : Int) == 10)) (.bool true) (congrArg Value.bool (beq_iff_eq.2 c5)) ?_
            refine t 6 (.bool true) ?_
            refine gl_nil ?_
            refine ge_then ?_
            refine gc_yes ?_
            refine gc_seq ?_
            refine gc_reg ?_
            refine t 2 (.bool true) ?_
            refine t 3 (.bool false) ?_
            refine t 4 (.bool true) ?_
            refine gl_nil ?_
            refine ge_then ?_
            refine gc_fr [(2, .bool true), (3, .bool false), (4, .bool true)] (by kernel_rfl) ?_
            refine gc_ret ?_
            refine ge_br ?_
            refine ge_tr ?_
            refine ge_ret (.tuple #[.bool true, .bool false, .bool true]) (rs3 2 3 4 (by kernel_rfl) (by kernel_rfl) (by kernel_rfl) (by kernel_rfl)) ?_
            have e : uA k = true ∧ uB k = false ∧ uN k = true := by
              simp only [uA, uB, uN, Bool.or_eq_true, decide_eq_true_eq, Bool.or_eq_false_iff, decide_eq_false_iff_not]
              omega
            exact ⟨by rw [e.1, e.2.1, e.2.2], BB⟩
          · refine tq 11 (.bool ((k : Int) == 10)) (.bool false) (congrArg Value.bool (beq_eq_false_iff_ne.2 c5)) ?_
            refine t 6 (.bool false) ?_
            refine gl_nil ?_
            refine ge_then ?_
            refine gc_no ?_
            refine gc_seq ?_
            refine gc_reg ?_
            by_cases c6 : (k : Int) = 5
            · refine tq 13 (.bool ((k : Int) == 5)) (.bool true) (congrArg Value.bool (beq_iff_eq.2 c6)) ?_
              refine t 12 (.bool true) ?_
              refine gl_nil ?_
              refine ge_then ?_
              refine gc_fr [(2, .bool false), (3, .bool false), (4, .bool false), (5, .int .i64 k), (12, .bool true)] (by kernel_rfl) ?_
              refine gc_yes ?_
              refine gc_seq ?_
              refine gc_reg ?_
              refine t 2 (.bool true) ?_
              refine t 3 (.bool true) ?_
              refine t 4 (.bool true) ?_
              refine gl_nil ?_
              refine ge_then ?_
              refine gc_ret ?_
              refine ge_br ?_
              refine ge_tr ?_
              refine ge_ret (.tuple #[.bool true, .bool true, .bool true]) (rs3 2 3 4 (by kernel_rfl) (by kernel_rfl) (by kernel_rfl) (by kernel_rfl)) ?_
              have e : uA k = true ∧ uB k = true ∧ uN k = true := by
                simp only [uA, uB, uN, Bool.or_eq_true, decide_eq_true_eq, Bool.or_eq_false_iff, decide_eq_false_iff_not]
                omega
              exact ⟨by rw [e.1, e.2.1, e.2.2], BB⟩
            · refine tq 13 (.bool ((k : Int) == 5)) (.bool false) (congrArg Value.bool (beq_eq_false_iff_ne.2 c6)) ?_
              refine t 12 (.bool false) ?_
              refine gl_nil ?_
              refine ge_then ?_
              refine gc_fr [(2, .bool false), (3, .bool false), (4, .bool false), (5, .int .i64 k), (12, .bool false)] (by kernel_rfl) ?_
              refine gc_no ?_
              refine gc_seq ?_
              refine gc_reg ?_
              by_cases c7 : (k : Int) = 6
              · refine tq 15 (.bool ((k : Int) == 6)) (.bool true) (congrArg Value.bool (beq_iff_eq.2 c7)) ?_
                refine t 14 (.bool true) ?_
                refine gl_nil ?_
                refine ge_then ?_
                refine gc_yes ?_
                refine gc_seq ?_
                refine gc_reg ?_
                refine t 2 (.bool true) ?_
                refine t 3 (.bool false) ?_
                refine t 4 (.bool false) ?_
                refine gl_nil ?_
                refine ge_then ?_
                refine gc_ret ?_
                refine ge_br ?_
                refine ge_tr ?_
                refine ge_ret (.tuple #[.bool true, .bool false, .bool false]) (rs3 2 3 4 (by kernel_rfl) (by kernel_rfl) (by kernel_rfl) (by kernel_rfl)) ?_
                have e : uA k = true ∧ uB k = false ∧ uN k = false := by
                  simp only [uA, uB, uN, Bool.or_eq_true, decide_eq_true_eq, Bool.or_eq_false_iff, decide_eq_false_iff_not]
                  omega
                exact ⟨by rw [e.1, e.2.1, e.2.2], BB⟩
              · refine tq 15 (.bool ((k : Int) == 6)) (.bool false) (congrArg Value.bool (beq_eq_false_iff_ne.2 c7)) ?_
                refine t 14 (.bool false) ?_
                refine gl_nil ?_
                refine ge_then ?_
                refine gc_no ?_
                refine gc_seq ?_
                refine gc_reg ?_
                by_cases c8 : (k : Int) = 9
                · refine tq 17 (.bool ((k : Int) == 9)) (.bool true) (congrArg Value.bool (beq_iff_eq.2 c8)) ?_
                  refine t 16 (.bool true) ?_
                  refine gl_nil ?_
                  refine ge_then ?_
                  refine gc_yes ?_
                  refine gc_seq ?_
                  refine gc_reg ?_
                  refine t 2 (.bool false) ?_
                  refine t 3 (.bool false) ?_
                  refine t 4 (.bool true) ?_
                  refine gl_nil ?_
                  refine ge_then ?_
                  refine gc_ret ?_
                  refine ge_br ?_
                  refine ge_tr ?_
                  refine ge_ret (.tuple #[.bool false, .bool false, .bool true]) (rs3 2 3 4 (by kernel_rfl) (by kernel_rfl) (by kernel_rfl) (by kernel_rfl)) ?_
                  have e : uA k = false ∧ uB k = false ∧ uN k = true := by
                    simp only [uA, uB, uN, Bool.or_eq_true, decide_eq_true_eq, Bool.or_eq_false_iff, decide_eq_false_iff_not]
                    omega
                  exact ⟨by rw [e.1, e.2.1, e.2.2], BB⟩
                · refine tq 17 (.bool ((k : Int) == 9)) (.bool false) (congrArg Value.bool (beq_eq_false_iff_ne.2 c8)) ?_
                  refine t 16 (.bool false) ?_
                  refine gl_nil ?_
                  refine ge_then ?_
                  refine gc_no ?_
                  refine gc_skip ?_
                  refine ge_bn ?_
                  refine ge_then ?_
                  refine gc_seq ?_
                  refine gc_reg ?_
                  refine t 2 (.bool false) ?_
                  refine t 3 (.bool false) ?_
                  refine t 4 (.bool false) ?_
                  refine gl_nil ?_
                  refine ge_then ?_
                  refine gc_ret ?_
                  refine ge_ret (.tuple #[.bool false, .bool false, .bool false]) (rs3 2 3 4 (by kernel_rfl) (by kernel_rfl) (by kernel_rfl) (by kernel_rfl)) ?_
                  have e : uA k = false ∧ uB k = false ∧ uN k = false := by
                    simp only [uA, uB, uN, Bool.or_eq_true, decide_eq_true_eq, Bool.or_eq_false_iff, decide_eq_false_iff_not]
                    omega
                  exact ⟨by rw [e.1, e.2.1, e.2.2], BB⟩
theorem renc_any {w : World} (i : It) : Calls Try.prog 8 #[.agg #[.int .i64 i.k, .int .u64 i.s, .int .u64 i.q, .int .u64 i.f, .int .i64 i.m, .int .u64 i.a, .int .u64 i.b, .int .u64 i.n, .int .i64 i.z, .int .u64 i.v, .int .u64 i.h]] w fun e w' => (Ok i ∧ ∃ v, e = .returned (.tuple #[v, .int .i64 0]) ∧ MineB w' w.heap.size v (bs i) ∧ Below w.heap.size w w') ∨ (¬ Ok i ∧ e = .returned (.tuple #[.slice none 0 0, .int .i64 170]) ∧ Below w.heap.size w w') := by
  have BB := Below.refl w.heap.size w
  refine gc_enter (n := 132) Try.func8 rfl (by kernel_rfl) (by kernel_rfl) ?_
  refine gc_seq ?_
  refine gc_reg ?_
  refine ta 1 [.int .i64 i.k, .int .u64 i.s, .int .u64 i.q, .int .u64 i.f, .int .i64 i.m, .int .u64 i.a, .int .u64 i.b, .int .u64 i.n, .int .i64 i.z, .int .u64 i.v, .int .u64 i.h] 30 (pg) ?_
  intro v1 g2 Xg2 hg2 B
  have zg2 := Nat.le_trans BB.size hg2
  replace BB := joinB BB B
  clear B
  refine t 2 (.slice none 0 0) ?_
  refine t 3 (.int .i64 0) ?_
  refine gl_nil ?_
  refine ge_then ?_
  refine gc_seq ?_
  refine gc_seq ?_
  refine gc_reg ?_
  refine t 9 (pg g2) ?_
  refine tl 10 (.int .i64 i.k) Xg2 0 ?_
  by_cases c3 : (i.k : Int) = 2
  · refine tq 11 (.bool ((i.k : Int) == 2)) (.bool true) (congrArg Value.bool (beq_iff_eq.2 c3)) ?_
    refine gl_nil ?_
    refine ge_then ?_
    refine gc_yes ?_
    refine gc_seq ?_
    refine gc_seq ?_
    refine gc_reg ?_
    refine t 12 (pq g2 1) ?_
    refine tlr 13 [.int .u64 i.s, .int .u64 i.q, .int .u64 i.f, .int .i64 i.m, .int .u64 i.a, .int .u64 i.b, .int .u64 i.n] Xg2 1 ?_
    refine t 14 (.agg #[.int .u64 0, .int .u64 0, .int .u64 0, .int .i64 0, .int .u64 0, .int .u64 0, .int .u64 0]) ?_
    by_cases c4 : i.s = 0 ∧ i.q = 0 ∧ i.f = 0 ∧ i.m = 0 ∧ i.a = 0 ∧ i.b = 0 ∧ i.n = 0
    · refine tr 15 (.bool false) (congr_v (congrArg Value.bool (decide_eq_false (fun z => z c4))) (neT i.s i.q i.f i.m i.a i.b i.n)) ?_
      refine t 16 (.bool false) ?_
      refine t 17 (pq g2 8) ?_
      refine t 18 (pq g2 8) ?_
      refine tl 19 (.int .i64 i.z) Xg2 8 ?_
      by_cases c5 : (i.z : Int) < 0
      · refine tq 20 (.bool (decide ((i.z : Int) < 0))) (.bool true) (congrArg Value.bool (decide_eq_true c5)) ?_
        refine t 21 (.bool true) ?_
        refine t 22 (.bool true) ?_
        refine tn 23 ?_
        refine tn 24 ?_
        refine tn 25 ?_
        refine tn 26 ?_
        refine t 27 (.bool true) ?_
        refine gl_nil ?_
        refine ge_then ?_
        refine gc_fr [(1, pg g2), (2, .slice none 0 0), (3, .int .i64 0), (27, .bool true)] (by kernel_rfl) ?_
        refine gc_yes ?_
        refine gc_seq ?_
        refine gc_reg ?_
        refine t 2 (.slice none 0 0) ?_
        refine t 3 (.int .i64 170) ?_
        refine gl_nil ?_
        refine ge_then ?_
        refine gc_ret ?_
        refine ge_tr ?_
        refine ge_tr ?_
        refine ge_ret (.tuple #[.slice none 0 0, .int .i64 170]) (rs2 2 3 (by kernel_rfl) (by kernel_rfl) (by kernel_rfl)) ?_
        exact .inr ⟨no_of (ok4 c3 (fun _ q => by omega)), rfl, BB⟩
      · refine tq 20 (.bool (decide ((i.z : Int) < 0))) (.bool false) (congrArg Value.bool (decide_eq_false c5)) ?_
        refine t 21 (.bool false) ?_
        refine t 22 (.bool false) ?_
        refine t 23 (pq g2 8) ?_
        refine t 24 (pq g2 8) ?_
        refine tl 25 (.int .i64 i.z) Xg2 8 ?_
        by_cases c6 : (255 : Int) < i.z
        · refine tq 26 (.bool (decide ((255 : Int) < i.z))) (.bool true) (congrArg Value.bool (decide_eq_true c6)) ?_
          refine t 27 (.bool true) ?_
          refine gl_nil ?_
          refine ge_then ?_
          refine gc_fr [(1, pg g2), (2, .slice none 0 0), (3, .int .i64 0), (27, .bool true)] (by kernel_rfl) ?_
          refine gc_yes ?_
          refine gc_seq ?_
          refine gc_reg ?_
          refine t 2 (.slice none 0 0) ?_
          refine t 3 (.int .i64 170) ?_
          refine gl_nil ?_
          refine ge_then ?_
          refine gc_ret ?_
          refine ge_tr ?_
          refine ge_tr ?_
          refine ge_ret (.tuple #[.slice none 0 0, .int .i64 170]) (rs2 2 3 (by kernel_rfl) (by kernel_rfl) (by kernel_rfl)) ?_
          exact .inr ⟨no_of (ok4 c3 (fun _ q => by omega)), rfl, BB⟩
        · refine tq 26 (.bool (decide ((255 : Int) < i.z))) (.bool false) (congrArg Value.bool (decide_eq_false c6)) ?_
          refine t 27 (.bool false) ?_
          refine gl_nil ?_
          refine ge_then ?_
          refine gc_fr [(1, pg g2), (2, .slice none 0 0), (3, .int .i64 0), (27, .bool false)] (by kernel_rfl) ?_
          refine gc_no ?_
          refine gc_skip ?_
          refine ge_then ?_
          refine gc_seq ?_
          replace BB := BB.drew
          replace Xg2 := Xg2.drew
          refine gc_draw (fun w' => Blk w' g2 [.int .i64 i.k, .int .u64 i.s, .int .u64 i.q, .int .u64 i.f, .int .i64 i.m, .int .u64 i.a, .int .u64 i.b, .int .u64 i.n, .int .i64 i.z, .int .u64 i.v, .int .u64 i.h] 30) (fun _ => false) Xg2 ?_
          refine z 0 28 (pq g2 8) ?_
          refine z 1 29 (pq g2 8) ?_
          refine zl 2 30 (.int .i64 i.z) (fun _ h => h) 8 ?_
          refine zr 3 31 (.int .u8 i.z) (fun _ _ => cv_iu i.z ⟨by omega, by omega⟩) ?_
          refine z 5 33 (pq g2 8) ?_
          refine z 6 34 (pq g2 9) ?_
          refine zl 7 35 (.int .u64 i.v) (fun _ h => h) 9 ?_
          refine z 9 37 (pq g2 8) ?_
          refine z 10 38 (pq g2 10) ?_
          refine zl 11 39 (.int .u64 i.h) (fun _ h => h) 10 ?_
          have lXg2 := Xg2.lt
          refine za 4 32 [.int .u8 70, .int .u8 i.z] 5 (sg 2) ?_
          intro v7 g8 Xg8 hg8 B
          have zg8 := Nat.le_trans BB.size hg8
          replace BB := joinB BB B
          replace Xg2 := Xg2.keep B
          clear B
          refine ⟨Xg2, ?_⟩
          refine zc 8 36 19 #[sg 2 g8, .int .i64 8, .int .u64 i.v] (put8 (x := i.v) (blk_mine (L := [70, i.z]) Xg8 zg8 rfl (by decide)) BB.size (by simp only [List.length_append, be_length, List.length_cons, List.length_nil]; omega)) ?_
          rintro _ v10 ⟨Vm9, rfl, m9, Y⟩
          clear Xg8
          replace BB := Byt.below Y BB (Nat.le_refl _) (Nat.le_refl _)
          replace Xg2 := Blk.byt Xg2 Y (by decide)
          clear Y
          refine ⟨_, rfl, Xg2, ?_⟩
          refine zc 12 40 19 #[Vm9, .int .i64 8, .int .u64 i.h] (put8 (x := i.h) m9 BB.size (by simp only [List.length_append, be_length, List.length_cons, List.length_nil]; omega)) ?_
          rintro _ v12 ⟨Vm11, rfl, m11, Y⟩
          replace BB := Byt.below Y BB (Nat.le_refl _) (Nat.le_refl _)
          replace Xg2 := Blk.byt Xg2 Y (by decide)
          clear m9
          clear Y
          refine ⟨_, rfl, Xg2, ?_⟩
          refine z 13 2 (Vm11) ?_
          refine z 14 3 (.int .i64 0) ?_
          refine gz_done ?_
          refine ge_then ?_
          refine gc_ret ?_
          refine ge_tr ?_
          refine ge_ret (.tuple #[Vm11, .int .i64 0]) (rs2 2 3 (by kernel_rfl) (by kernel_rfl) (by kernel_rfl)) ?_
          have e : bs i = ([70, i.z] ++ be 8 i.v ++ be 8 i.h) := by
            have hk : ¬ i.k = 1 := by omega
            unfold bs
            rw [if_neg hk, e70, be1 (x := i.z) ⟨by omega, by omega⟩]
            simp only [List.append_assoc, List.cons_append, List.nil_append]
          rw [← e] at m11
          exact .inl ⟨.inr ⟨c3, c4, by omega, by omega⟩, _, rfl, m11, BB⟩
    · refine tr 15 (.bool true) (congr_v (congrArg Value.bool (decide_eq_true c4)) (neT i.s i.q i.f i.m i.a i.b i.n)) ?_
      refine t 16 (.bool true) ?_
      refine tn 17 ?_
      refine tn 18 ?_
      refine tn 19 ?_
      refine tn 20 ?_
      refine t 21 (.bool true) ?_
      refine t 22 (.bool true) ?_
      refine tn 23 ?_
      refine tn 24 ?_
      refine tn 25 ?_
      refine tn 26 ?_
      refine t 27 (.bool true) ?_
      refine gl_nil ?_
      refine ge_then ?_
      refine gc_fr [(1, pg g2), (2, .slice none 0 0), (3, .int .i64 0), (27, .bool true)] (by kernel_rfl) ?_
      refine gc_yes ?_
      refine gc_seq ?_
      refine gc_reg ?_
      refine t 2 (.slice none 0 0) ?_
      refine t 3 (.int .i64 170) ?_
      refine gl_nil ?_
      refine ge_then ?_
      refine gc_ret ?_
      refine ge_tr ?_
      refine ge_tr ?_
      refine ge_ret (.tuple #[.slice none 0 0, .int .i64 170]) (rs2 2 3 (by kernel_rfl) (by kernel_rfl) (by kernel_rfl)) ?_
      exact .inr ⟨no_of (ok4 c3 (fun q => absurd q c4)), rfl, BB⟩
  · refine tq 11 (.bool ((i.k : Int) == 2)) (.bool false) (congrArg Value.bool (beq_eq_false_iff_ne.2 c3)) ?_
    refine gl_nil ?_
    refine ge_then ?_
    refine gc_no ?_
    refine gc_skip ?_
    refine ge_then ?_
    refine gc_seq ?_
    refine gc_reg ?_
    refine t 41 (pq g2 1) ?_
    refine t 42 (pq g2 4) ?_
    refine tlr 43 [.int .i64 i.m, .int .u64 i.a, .int .u64 i.b, .int .u64 i.n] Xg2 4 ?_
    have lXg2 := Xg2.lt
    refine ta 4 [.int .i64 0, .int .u64 0, .int .u64 0, .int .u64 0] 24 (pg) ?_
    intro v13 g14 Xg14 hg14 B
    have zg14 := Nat.le_trans BB.size hg14
    replace BB := joinB BB B
    replace Xg2 := Xg2.keep B
    clear B
    refine ts Xg14 0 (.agg #[.int .i64 i.m, .int .u64 i.a, .int .u64 i.b, .int .u64 i.n]) [.int .i64 i.m, .int .u64 i.a, .int .u64 i.b, .int .u64 i.n] [.int .i64 i.m, .int .u64 i.a, .int .u64 i.b, .int .u64 i.n] ?_
    intro v15 Y C
    replace BB := belowC BB C (by omega)
    replace Xg2 := Xg2.chg C (show g2 ≠ g14 by omega)
    clear C Xg14
    have Xg14 := Y
    clear Y
    refine gl_nil ?_
    refine ge_then ?_
    refine gc_seq ?_
    refine gc_reg ?_
    refine t 45 (pg g14) ?_
    refine tl 46 (.int .i64 i.m) Xg14 0 ?_
    refine tc 47 10 #[.int .i64 i.m] (rUses_any i.m) ?_
    rintro _ v16 ⟨rfl, B⟩
    refine ⟨_, rfl, ?_⟩
    replace BB := joinB BB B
    replace Xg2 := Xg2.keep B
    replace Xg14 := Xg14.keep B
    clear B
    refine t 44 (.tuple #[.bool (uA i.m), .bool (uB i.m), .bool (uN i.m)]) ?_
    refine t 48 (.bool (uA i.m)) ?_
    refine t 49 (.bool (uB i.m)) ?_
    refine t 50 (.bool (uN i.m)) ?_
    refine t 5 (.bool (uA i.m)) ?_
    refine t 6 (.bool (uB i.m)) ?_
    refine t 7 (.bool (uN i.m)) ?_
    refine gl_nil ?_
    refine ge_then ?_
    refine gc_fr [(1, pg g2), (2, .slice none 0 0), (3, .int .i64 0), (4, pg g14), (5, .bool (uA i.m)), (6, .bool (uB i.m)), (7, .bool (uN i.m))] (by kernel_rfl) ?_
    refine gc_seq ?_
    refine gc_seq ?_
    refine gc_reg ?_
    refine t 51 (pg g2) ?_
    refine tl 52 (.int .i64 i.k) Xg2 0 ?_
    by_cases c17 : (i.k : Int) = 1
    · refine tq 53 (.bool ((i.k : Int) != 1)) (.bool false) (congrArg Value.bool (bne_eq_false_iff_eq.2 c17)) ?_
      refine t 54 (.bool false) ?_
      refine t 55 (pq g2 8) ?_
      refine tlr 56 [.int .i64 i.z, .int .u64 i.v, .int .u64 i.h] Xg2 8 ?_
      refine t 57 (.agg #[.int .i64 0, .int .u64 0, .int .u64 0]) ?_
      by_cases c18 : i.z = 0 ∧ i.v = 0 ∧ i.h = 0
      · refine tr 58 (.bool false) (congr_v (congrArg Value.bool (decide_eq_false (fun z => z c18))) (neF i.z i.v i.h 0 0 0)) ?_
        refine t 59 (.bool false) ?_
        refine t 60 (.bool false) ?_
        refine t 61 (pg g14) ?_
        refine tl 62 (.int .i64 i.m) Xg14 0 ?_
        by_cases c19 : (i.m : Int) < 1
        · refine tq 63 (.bool (decide ((i.m : Int) < 1))) (.bool true) (congrArg Value.bool (decide_eq_true c19)) ?_
          refine t 64 (.bool true) ?_
          refine t 65 (.bool true) ?_
          refine tn 66 ?_
          refine tn 67 ?_
          refine tn 68 ?_
          refine t 69 (.bool true) ?_
          refine t 70 (.bool true) ?_
          refine tn 71 ?_
          refine tn 72 ?_
          refine tn 73 ?_
          refine tn 74 ?_
          refine tn 75 ?_
          refine tn 76 ?_
          refine tn 77 ?_
          refine t 78 (.bool true) ?_
          refine t 79 (.bool true) ?_
          refine tn 80 ?_
          refine tn 81 ?_
          refine tn 82 ?_
          refine tn 83 ?_
          refine tn 84 ?_
          refine tn 85 ?_
          refine tn 86 ?_
          refine t 87 (.bool true) ?_
          refine t 88 (.bool true) ?_
          refine tn 89 ?_
          refine tn 90 ?_
          refine tn 91 ?_
          refine tn 92 ?_
          refine tn 93 ?_
          refine tn 94 ?_
          refine tn 95 ?_
          refine t 96 (.bool true) ?_
          refine gl_nil ?_
          refine ge_then ?_
          refine gc_fr [(1, pg g2), (2, .slice none 0 0), (3, .int .i64 0), (4, pg g14), (5, .bool (uA i.m)), (6, .bool (uB i.m)), (7, .bool (uN i.m)), (96, .bool true)] (by kernel_rfl) ?_
          refine gc_yes ?_
          refine gc_seq ?_
          refine gc_reg ?_
          refine t 2 (.slice none 0 0) ?_
          refine t 3 (.int .i64 170) ?_
          refine gl_nil ?_
          refine ge_then ?_
          refine gc_ret ?_
          refine ge_tr ?_
          refine ge_ret (.tuple #[.slice none 0 0, .int .i64 170]) (rs2 2 3 (by kernel_rfl) (by kernel_rfl) (by kernel_rfl)) ?_
          exact .inr ⟨nok1 c17 (nokK (.inl c19)), rfl, BB⟩
        · refine tq 63 (.bool (decide ((i.m : Int) < 1))) (.bool false) (congrArg Value.bool (decide_eq_false c19)) ?_
          refine t 64 (.bool false) ?_
          refine t 65 (.bool false) ?_
          refine t 66 (pg g14) ?_
          refine tl 67 (.int .i64 i.m) Xg14 0 ?_
          by_cases c20 : (10 : Int) < i.m
          · refine tq 68 (.bool (decide ((10 : Int) < i.m))) (.bool true) (congrArg Value.bool (decide_eq_true c20)) ?_
            refine t 69 (.bool true) ?_
            refine t 70 (.bool true) ?_
            refine tn 71 ?_
            refine tn 72 ?_
            refine tn 73 ?_
            refine tn 74 ?_
            refine tn 75 ?_
            refine tn 76 ?_
            refine tn 77 ?_
            refine t 78 (.bool true) ?_
            refine t 79 (.bool true) ?_
            refine tn 80 ?_
            refine tn 81 ?_
            refine tn 82 ?_
            refine tn 83 ?_
            refine tn 84 ?_
            refine tn 85 ?_
            refine tn 86 ?_
            refine t 87 (.bool true) ?_
            refine t 88 (.bool true) ?_
            refine tn 89 ?_
            refine tn 90 ?_
            refine tn 91 ?_
            refine tn 92 ?_
            refine tn 93 ?_
            refine tn 94 ?_
            refine tn 95 ?_
            refine t 96 (.bool true) ?_
            refine gl_nil ?_
            refine ge_then ?_
            refine gc_fr [(1, pg g2), (2, .slice none 0 0), (3, .int .i64 0), (4, pg g14), (5, .bool (uA i.m)), (6, .bool (uB i.m)), (7, .bool (uN i.m)), (96, .bool true)] (by kernel_rfl) ?_
            refine gc_yes ?_
            refine gc_seq ?_
            refine gc_reg ?_
            refine t 2 (.slice none 0 0) ?_
            refine t 3 (.int .i64 170) ?_
            refine gl_nil ?_
            refine ge_then ?_
            refine gc_ret ?_
            refine ge_tr ?_
            refine ge_ret (.tuple #[.slice none 0 0, .int .i64 170]) (rs2 2 3 (by kernel_rfl) (by kernel_rfl) (by kernel_rfl)) ?_
            exact .inr ⟨nok1 c17 (nokK (.inr c20)), rfl, BB⟩
          · refine tq 68 (.bool (decide ((10 : Int) < i.m))) (.bool false) (congrArg Value.bool (decide_eq_false c20)) ?_
            refine t 69 (.bool false) ?_
            refine t 70 (.bool false) ?_
            by_cases c21 : (uA i.m) = true
            · refine tq 71 (.bool (uA i.m)) (.bool true) (congrArg Value.bool c21) ?_
              refine t 72 (.bool false) ?_
              refine t 73 (.bool false) ?_
              refine tn 74 ?_
              refine tn 75 ?_
              refine tn 76 ?_
              refine t 77 (.bool false) ?_
              refine t 78 (.bool false) ?_
              refine t 79 (.bool false) ?_
              by_cases c22 : (uB i.m) = true
              · refine tq 80 (.bool (uB i.m)) (.bool true) (congrArg Value.bool c22) ?_
                refine t 81 (.bool false) ?_
                refine t 82 (.bool false) ?_
                refine tn 83 ?_
                refine tn 84 ?_
                refine tn 85 ?_
                refine t 86 (.bool false) ?_
                refine t 87 (.bool false) ?_
                refine t 88 (.bool false) ?_
                by_cases c23 : (uN i.m) = true
                · refine tq 89 (.bool (uN i.m)) (.bool true) (congrArg Value.bool c23) ?_
                  refine t 90 (.bool false) ?_
                  refine t 91 (.bool false) ?_
                  refine tn 92 ?_
                  refine tn 93 ?_
                  refine tn 94 ?_
                  refine t 95 (.bool false) ?_
                  refine t 96 (.bool false) ?_
                  refine gl_nil ?_
                  refine ge_then ?_
                  refine gc_fr [(1, pg g2), (2, .slice none 0 0), (3, .int .i64 0), (4, pg g14), (5, .bool (uA i.m)), (6, .bool (uB i.m)), (7, .bool (uN i.m)), (96, .bool false)] (by kernel_rfl) ?_
                  refine gc_no ?_
                  refine gc_skip ?_
                  refine ge_then ?_
                  refine gc_seq ?_
                  replace BB := BB.drew
                  replace Xg2 := Xg2.drew
                  replace Xg14 := Xg14.drew
                  refine gc_draw (fun w' => Blk w' g2 [.int .i64 i.k, .int .u64 i.s, .int .u64 i.q, .int .u64 i.f, .int .i64 i.m, .int .u64 i.a, .int .u64 i.b, .int .u64 i.n, .int .i64 i.z, .int .u64 i.v, .int .u64 i.h] 30) (fun _ => false) Xg2 ?_
                  refine z 1 98 (pq g2 1) ?_
                  refine z 2 99 (pq g2 1) ?_
                  refine zl 3 100 (.int .u64 i.s) (fun _ h => h) 1 ?_
                  refine z 5 102 (pq g2 1) ?_
                  refine z 6 103 (pq g2 2) ?_
                  refine zl 7 104 (.int .u64 i.q) (fun _ h => h) 2 ?_
                  refine z 9 106 (pq g2 1) ?_
                  refine z 10 107 (pq g2 3) ?_
                  refine zl 11 108 (.int .u64 i.f) (fun _ h => h) 3 ?_
                  have lXg2 := Xg2.lt
                  have lXg14 := Xg14.lt
                  refine za 0 97 [.int .u8 84] 5 (sg 1) ?_
                  intro v24 g25 Xg25 hg25 B
                  have zg25 := Nat.le_trans BB.size hg25
                  replace BB := joinB BB B
                  replace Xg2 := Xg2.keep B
                  replace Xg14 := Xg14.keep B
                  clear B
                  refine ⟨Xg2, ?_⟩
                  refine zc 4 101 19 #[sg 1 g25, .int .i64 8, .int .u64 i.s] (put8 (x := i.s) (blk_mine (L := [84]) Xg25 zg25 rfl (by decide)) BB.size (by simp only [List.length_append, be_length, List.length_cons, List.length_nil]; omega)) ?_
                  rintro _ v27 ⟨Vm26, rfl, m26, Y⟩
                  clear Xg25
                  replace BB := Byt.below Y BB (Nat.le_refl _) (Nat.le_refl _)
                  replace Xg2 := Blk.byt Xg2 Y (by decide)
                  replace Xg14 := Blk.byt Xg14 Y (by decide)
                  clear Y
                  refine ⟨_, rfl, Xg2, ?_⟩
                  refine zc 8 105 19 #[Vm26, .int .i64 8, .int .u64 i.q] (put8 (x := i.q) m26 BB.size (by simp only [List.length_append, be_length, List.length_cons, List.length_nil]; omega)) ?_
                  rintro _ v29 ⟨Vm28, rfl, m28, Y⟩
                  replace BB := Byt.below Y BB (Nat.le_refl _) (Nat.le_refl _)
                  replace Xg2 := Blk.byt Xg2 Y (by decide)
                  replace Xg14 := Blk.byt Xg14 Y (by decide)
                  clear m26
                  clear Y
                  refine ⟨_, rfl, Xg2, ?_⟩
                  refine zc 12 109 19 #[Vm28, .int .i64 8, .int .u64 i.f] (put8 (x := i.f) m28 BB.size (by simp only [List.length_append, be_length, List.length_cons, List.length_nil]; omega)) ?_
                  rintro _ v31 ⟨Vm30, rfl, m30, Y⟩
                  replace BB := Byt.below Y BB (Nat.le_refl _) (Nat.le_refl _)
                  replace Xg2 := Blk.byt Xg2 Y (by decide)
                  replace Xg14 := Blk.byt Xg14 Y (by decide)
                  clear m28
                  clear Y
                  refine ⟨_, rfl, Xg2, ?_⟩
                  refine z 13 8 (Vm30) ?_
                  refine gz_done ?_
                  refine ge_then ?_
                  clear Xg2
                  refine gc_seq ?_
                  refine gc_reg ?_
                  refine t 110 (Vm30) ?_
                  refine t 111 (pg g14) ?_
                  refine tl 112 (.int .i64 i.m) Xg14 0 ?_
                  refine tr 113 (.int .u8 i.m) (cv_iu i.m ⟨by omega, by omega⟩) ?_
                  have lXg14 := Xg14.lt
                  refine ta 114 [.int .u8 i.m] 5 (sg 1) ?_
                  intro v32 g33 Xg33 hg33 B
                  have zg33 := Nat.le_trans BB.size hg33
                  replace BB := joinB BB B
                  replace Xg14 := Xg14.keep B
                  replace m30 := mineB_keep m30 B
                  clear B
                  obtain ⟨Vm34, v35, hr, m34, Y⟩ := app_mb m30 Xg33 ⟨by omega, by omega⟩ BB.size (by simp only [List.length_append, be_length, List.length_cons, List.length_nil]; omega)
                  refine tw 115 Vm34 _ (run_apB hr) ?_
                  clear hr
                  clear Xg33
                  replace BB := Byt.below Y BB (Nat.le_refl _) (Nat.le_refl _)
                  replace Xg14 := Blk.byt Xg14 Y (by decide)
                  clear m30
                  clear Y
                  refine t 8 (Vm34) ?_
                  refine gl_nil ?_
                  refine ge_then ?_
                  refine gc_fr [(2, .slice none 0 0), (3, .int .i64 0), (4, pg g14), (5, .bool (uA i.m)), (6, .bool (uB i.m)), (7, .bool (uN i.m)), (8, Vm34)] (by kernel_rfl) ?_
                  refine gc_seq ?_
                  refine gc_seq ?_
                  refine gc_reg ?_
                  refine tq 116 (.bool (uA i.m)) (.bool true) (congrArg Value.bool c21) ?_
                  refine gl_nil ?_
                  refine ge_then ?_
                  refine gc_yes ?_
                  refine gc_reg ?_
                  refine t 117 (Vm34) ?_
                  refine t 118 (pq g14 1) ?_
                  refine tl 119 (.int .u64 i.a) Xg14 1 ?_
                  refine tc 120 19 #[Vm34, .int .i64 8, .int .u64 i.a] (put8 (x := i.a) m34 BB.size (by simp only [List.length_append, be_length, List.length_cons, List.length_nil]; omega)) ?_
                  rintro _ v37 ⟨Vm36, rfl, m36, Y⟩
                  refine ⟨_, rfl, ?_⟩
                  replace BB := Byt.below Y BB (Nat.le_refl _) (Nat.le_refl _)
                  replace Xg14 := Blk.byt Xg14 Y (by decide)
                  clear m34
                  clear Y
                  refine t 8 (Vm36) ?_
                  refine gl_nil ?_
                  refine ge_then ?_
                  refine gc_seq ?_
                  refine gc_seq ?_
                  refine gc_reg ?_
                  refine tq 121 (.bool (uB i.m)) (.bool true) (congrArg Value.bool c22) ?_
                  refine gl_nil ?_
                  refine ge_then ?_
                  refine gc_yes ?_
                  refine gc_reg ?_
                  refine t 122 (Vm36) ?_
                  refine t 123 (pq g14 2) ?_
                  refine tl 124 (.int .u64 i.b) Xg14 2 ?_
                  refine tc 125 19 #[Vm36, .int .i64 8, .int .u64 i.b] (put8 (x := i.b) m36 BB.size (by simp only [List.length_append, be_length, List.length_cons, List.length_nil]; omega)) ?_
                  rintro _ v39 ⟨Vm38, rfl, m38, Y⟩
                  refine ⟨_, rfl, ?_⟩
                  replace BB := Byt.below Y BB (Nat.le_refl _) (Nat.le_refl _)
                  replace Xg14 := Blk.byt Xg14 Y (by decide)
                  clear m36
                  clear Y
                  refine t 8 (Vm38) ?_
                  refine gl_nil ?_
                  refine ge_then ?_
                  refine gc_seq ?_
                  refine gc_seq ?_
                  refine gc_reg ?_
                  refine tq 126 (.bool (uN i.m)) (.bool true) (congrArg Value.bool c23) ?_
                  refine gl_nil ?_
                  refine ge_then ?_
                  refine gc_yes ?_
                  refine gc_reg ?_
                  refine t 127 (Vm38) ?_
                  refine t 128 (pq g14 3) ?_
                  refine tl 129 (.int .u64 i.n) Xg14 3 ?_
                  refine tc 130 19 #[Vm38, .int .i64 8, .int .u64 i.n] (put8 (x := i.n) m38 BB.size (by simp only [List.length_append, be_length, List.length_cons, List.length_nil]; omega)) ?_
                  rintro _ v41 ⟨Vm40, rfl, m40, Y⟩
                  refine ⟨_, rfl, ?_⟩
                  replace BB := Byt.below Y BB (Nat.le_refl _) (Nat.le_refl _)
                  replace Xg14 := Blk.byt Xg14 Y (by decide)
                  clear m38
                  clear Y
                  refine t 8 (Vm40) ?_
                  refine gl_nil ?_
                  refine ge_then ?_
                  clear Xg14
                  refine gc_fr [(2, .slice none 0 0), (3, .int .i64 0), (8, Vm40)] (by kernel_rfl) ?_
                  refine gc_seq ?_
                  refine gc_reg ?_
                  refine t 131 (Vm40) ?_
                  refine t 2 (Vm40) ?_
                  refine t 3 (.int .i64 0) ?_
                  refine gl_nil ?_
                  refine ge_then ?_
                  refine gc_ret ?_
                  refine ge_ret (.tuple #[Vm40, .int .i64 0]) (rs2 2 3 (by kernel_rfl) (by kernel_rfl) (by kernel_rfl)) ?_
                  have e : bs i = ([84] ++ be 8 i.s ++ be 8 i.q ++ be 8 i.f ++ be 1 i.m ++ be 8 i.a ++ be 8 i.b ++ be 8 i.n) := by
                    unfold bs bsM opt
                    rw [if_pos c17, if_pos c21, if_pos c22, if_pos c23, e84]
                    simp only [List.append_assoc, List.append_nil, List.nil_append]
                  rw [← e] at m40
                  exact .inl ⟨.inl ⟨c17, c18, okM_mk ⟨by omega, by omega⟩ (.inl c21) (.inl c22) (.inl c23)⟩, _, rfl, m40, BB⟩
                · refine tq 89 (.bool (uN i.m)) (.bool false) (congrArg Value.bool (Bool.eq_false_iff.2 c23)) ?_
                  refine t 90 (.bool true) ?_
                  refine t 91 (.bool true) ?_
                  refine t 92 (pq g14 3) ?_
                  refine tl 93 (.int .u64 i.n) Xg14 3 ?_
                  by_cases c42 : (i.n : Int) = 0
                  · refine tq 94 (.bool ((i.n : Int) != 0)) (.bool false) (congrArg Value.bool (bne_eq_false_iff_eq.2 c42)) ?_
                    refine t 95 (.bool false) ?_
                    refine t 96 (.bool false) ?_
                    refine gl_nil ?_
                    refine ge_then ?_
                    refine gc_fr [(1, pg g2), (2, .slice none 0 0), (3, .int .i64 0), (4, pg g14), (5, .bool (uA i.m)), (6, .bool (uB i.m)), (7, .bool (uN i.m)), (96, .bool false)] (by kernel_rfl) ?_
                    refine gc_no ?_
                    refine gc_skip ?_
                    refine ge_then ?_
                    refine gc_seq ?_
                    replace BB := BB.drew
                    replace Xg2 := Xg2.drew
                    replace Xg14 := Xg14.drew
                    refine gc_draw (fun w' => Blk w' g2 [.int .i64 i.k, .int .u64 i.s, .int .u64 i.q, .int .u64 i.f, .int .i64 i.m, .int .u64 i.a, .int .u64 i.b, .int .u64 i.n, .int .i64 i.z, .int .u64 i.v, .int .u64 i.h] 30) (fun _ => false) Xg2 ?_
                    refine z 1 98 (pq g2 1) ?_
                    refine z 2 99 (pq g2 1) ?_
                    refine zl 3 100 (.int .u64 i.s) (fun _ h => h) 1 ?_
                    refine z 5 102 (pq g2 1) ?_
                    refine z 6 103 (pq g2 2) ?_
                    refine zl 7 104 (.int .u64 i.q) (fun _ h => h) 2 ?_
                    refine z 9 106 (pq g2 1) ?_
                    refine z 10 107 (pq g2 3) ?_
                    refine zl 11 108 (.int .u64 i.f) (fun _ h => h) 3 ?_
                    have lXg2 := Xg2.lt
                    have lXg14 := Xg14.lt
                    refine za 0 97 [.int .u8 84] 5 (sg 1) ?_
                    intro v43 g44 Xg44 hg44 B
                    have zg44 := Nat.le_trans BB.size hg44
                    replace BB := joinB BB B
                    replace Xg2 := Xg2.keep B
                    replace Xg14 := Xg14.keep B
                    clear B
                    refine ⟨Xg2, ?_⟩
                    refine zc 4 101 19 #[sg 1 g44, .int .i64 8, .int .u64 i.s] (put8 (x := i.s) (blk_mine (L := [84]) Xg44 zg44 rfl (by decide)) BB.size (by simp only [List.length_append, be_length, List.length_cons, List.length_nil]; omega)) ?_
                    rintro _ v46 ⟨Vm45, rfl, m45, Y⟩
                    clear Xg44
                    replace BB := Byt.below Y BB (Nat.le_refl _) (Nat.le_refl _)
                    replace Xg2 := Blk.byt Xg2 Y (by decide)
                    replace Xg14 := Blk.byt Xg14 Y (by decide)
                    clear Y
                    refine ⟨_, rfl, Xg2, ?_⟩
                    refine zc 8 105 19 #[Vm45, .int .i64 8, .int .u64 i.q] (put8 (x := i.q) m45 BB.size (by simp only [List.length_append, be_length, List.length_cons, List.length_nil]; omega)) ?_
                    rintro _ v48 ⟨Vm47, rfl, m47, Y⟩
                    replace BB := Byt.below Y BB (Nat.le_refl _) (Nat.le_refl _)
                    replace Xg2 := Blk.byt Xg2 Y (by decide)
                    replace Xg14 := Blk.byt Xg14 Y (by decide)
                    clear m45
                    clear Y
                    refine ⟨_, rfl, Xg2, ?_⟩
                    refine zc 12 109 19 #[Vm47, .int .i64 8, .int .u64 i.f] (put8 (x := i.f) m47 BB.size (by simp only [List.length_append, be_length, List.length_cons, List.length_nil]; omega)) ?_
                    rintro _ v50 ⟨Vm49, rfl, m49, Y⟩
                    replace BB := Byt.below Y BB (Nat.le_refl _) (Nat.le_refl _)
                    replace Xg2 := Blk.byt Xg2 Y (by decide)
                    replace Xg14 := Blk.byt Xg14 Y (by decide)
                    clear m47
                    clear Y
                    refine ⟨_, rfl, Xg2, ?_⟩
                    refine z 13 8 (Vm49) ?_
                    refine gz_done ?_
                    refine ge_then ?_
                    clear Xg2
                    refine gc_seq ?_
                    refine gc_reg ?_
                    refine t 110 (Vm49) ?_
                    refine t 111 (pg g14) ?_
                    refine tl 112 (.int .i64 i.m) Xg14 0 ?_
                    refine tr 113 (.int .u8 i.m) (cv_iu i.m ⟨by omega, by omega⟩) ?_
                    have lXg14 := Xg14.lt
                    refine ta 114 [.int .u8 i.m] 5 (sg 1) ?_
                    intro v51 g52 Xg52 hg52 B
                    have zg52 := Nat.le_trans BB.size hg52
                    replace BB := joinB BB B
                    replace Xg14 := Xg14.keep B
                    replace m49 := mineB_keep m49 B
                    clear B
                    obtain ⟨Vm53, v54, hr, m53, Y⟩ := app_mb m49 Xg52 ⟨by omega, by omega⟩ BB.size (by simp only [List.length_append, be_length, List.length_cons, List.length_nil]; omega)
                    refine tw 115 Vm53 _ (run_apB hr) ?_
                    clear hr
                    clear Xg52
                    replace BB := Byt.below Y BB (Nat.le_refl _) (Nat.le_refl _)
                    replace Xg14 := Blk.byt Xg14 Y (by decide)
                    clear m49
                    clear Y
                    refine t 8 (Vm53) ?_
                    refine gl_nil ?_
                    refine ge_then ?_
                    refine gc_fr [(2, .slice none 0 0), (3, .int .i64 0), (4, pg g14), (5, .bool (uA i.m)), (6, .bool (uB i.m)), (7, .bool (uN i.m)), (8, Vm53)] (by kernel_rfl) ?_
                    refine gc_seq ?_
                    refine gc_seq ?_
                    refine gc_reg ?_
                    refine tq 116 (.bool (uA i.m)) (.bool true) (congrArg Value.bool c21) ?_
                    refine gl_nil ?_
                    refine ge_then ?_
                    refine gc_yes ?_
                    refine gc_reg ?_
                    refine t 117 (Vm53) ?_
                    refine t 118 (pq g14 1) ?_
                    refine tl 119 (.int .u64 i.a) Xg14 1 ?_
                    refine tc 120 19 #[Vm53, .int .i64 8, .int .u64 i.a] (put8 (x := i.a) m53 BB.size (by simp only [List.length_append, be_length, List.length_cons, List.length_nil]; omega)) ?_
                    rintro _ v56 ⟨Vm55, rfl, m55, Y⟩
                    refine ⟨_, rfl, ?_⟩
                    replace BB := Byt.below Y BB (Nat.le_refl _) (Nat.le_refl _)
                    replace Xg14 := Blk.byt Xg14 Y (by decide)
                    clear m53
                    clear Y
                    refine t 8 (Vm55) ?_
                    refine gl_nil ?_
                    refine ge_then ?_
                    refine gc_seq ?_
                    refine gc_seq ?_
                    refine gc_reg ?_
                    refine tq 121 (.bool (uB i.m)) (.bool true) (congrArg Value.bool c22) ?_
                    refine gl_nil ?_
                    refine ge_then ?_
                    refine gc_yes ?_
                    refine gc_reg ?_
                    refine t 122 (Vm55) ?_
                    refine t 123 (pq g14 2) ?_
                    refine tl 124 (.int .u64 i.b) Xg14 2 ?_
                    refine tc 125 19 #[Vm55, .int .i64 8, .int .u64 i.b] (put8 (x := i.b) m55 BB.size (by simp only [List.length_append, be_length, List.length_cons, List.length_nil]; omega)) ?_
                    rintro _ v58 ⟨Vm57, rfl, m57, Y⟩
                    refine ⟨_, rfl, ?_⟩
                    replace BB := Byt.below Y BB (Nat.le_refl _) (Nat.le_refl _)
                    replace Xg14 := Blk.byt Xg14 Y (by decide)
                    clear m55
                    clear Y
                    refine t 8 (Vm57) ?_
                    refine gl_nil ?_
                    refine ge_then ?_
                    refine gc_seq ?_
                    refine gc_seq ?_
                    refine gc_reg ?_
                    refine tq 126 (.bool (uN i.m)) (.bool false) (congrArg Value.bool (Bool.eq_false_iff.2 c23)) ?_
                    refine gl_nil ?_
                    refine ge_then ?_
                    refine gc_no ?_
                    refine gc_skip ?_
                    refine ge_then ?_
                    clear Xg14
                    refine gc_seq ?_
                    refine gc_reg ?_
                    refine t 131 (Vm57) ?_
                    refine t 2 (Vm57) ?_
                    refine t 3 (.int .i64 0) ?_
                    refine gl_nil ?_
                    refine ge_then ?_
                    refine gc_fr [(2, Vm57), (3, .int .i64 0)] (by kernel_rfl) ?_
                    refine gc_ret ?_
                    refine ge_ret (.tuple #[Vm57, .int .i64 0]) (rs2 2 3 (by kernel_rfl) (by kernel_rfl) (by kernel_rfl)) ?_
                    have e : bs i = ([84] ++ be 8 i.s ++ be 8 i.q ++ be 8 i.f ++ be 1 i.m ++ be 8 i.a ++ be 8 i.b) := by
                      unfold bs bsM opt
                      rw [if_pos c17, if_pos c21, if_pos c22, if_neg c23, e84]
                      simp only [List.append_assoc, List.append_nil, List.nil_append]
                    rw [← e] at m57
                    exact .inl ⟨.inl ⟨c17, c18, okM_mk ⟨by omega, by omega⟩ (.inl c21) (.inl c22) (.inr c42)⟩, _, rfl, m57, BB⟩
                  · refine tq 94 (.bool ((i.n : Int) != 0)) (.bool true) (congrArg Value.bool (bne_iff_ne.2 c42)) ?_
                    refine t 95 (.bool true) ?_
                    refine t 96 (.bool true) ?_
                    refine gl_nil ?_
                    refine ge_then ?_
                    refine gc_fr [(1, pg g2), (2, .slice none 0 0), (3, .int .i64 0), (4, pg g14), (5, .bool (uA i.m)), (6, .bool (uB i.m)), (7, .bool (uN i.m)), (96, .bool true)] (by kernel_rfl) ?_
                    refine gc_yes ?_
                    refine gc_seq ?_
                    refine gc_reg ?_
                    refine t 2 (.slice none 0 0) ?_
                    refine t 3 (.int .i64 170) ?_
                    refine gl_nil ?_
                    refine ge_then ?_
                    refine gc_ret ?_
                    refine ge_tr ?_
                    refine ge_ret (.tuple #[.slice none 0 0, .int .i64 170]) (rs2 2 3 (by kernel_rfl) (by kernel_rfl) (by kernel_rfl)) ?_
                    exact .inr ⟨nok1 c17 (fun h => (okM_is h).2.2.2.elim c23 c42), rfl, BB⟩
              · refine tq 80 (.bool (uB i.m)) (.bool false) (congrArg Value.bool (Bool.eq_false_iff.2 c22)) ?_
                refine t 81 (.bool true) ?_
                refine t 82 (.bool true) ?_
                refine t 83 (pq g14 2) ?_
                refine tl 84 (.int .u64 i.b) Xg14 2 ?_
                by_cases c59 : (i.b : Int) = 0
                · refine tq 85 (.bool ((i.b : Int) != 0)) (.bool false) (congrArg Value.bool (bne_eq_false_iff_eq.2 c59)) ?_
                  refine t 86 (.bool false) ?_
                  refine t 87 (.bool false) ?_
                  refine t 88 (.bool false) ?_
                  by_cases c60 : (uN i.m) = true
                  · refine tq 89 (.bool (uN i.m)) (.bool true) (congrArg Value.bool c60) ?_
                    refine t 90 (.bool false) ?_
                    refine t 91 (.bool false) ?_
                    refine tn 92 ?_
                    refine tn 93 ?_
                    refine tn 94 ?_
                    refine t 95 (.bool false) ?_
                    refine t 96 (.bool false) ?_
                    refine gl_nil ?_
                    refine ge_then ?_
                    refine gc_fr [(1, pg g2), (2, .slice none 0 0), (3, .int .i64 0), (4, pg g14), (5, .bool (uA i.m)), (6, .bool (uB i.m)), (7, .bool (uN i.m)), (96, .bool false)] (by kernel_rfl) ?_
                    refine gc_no ?_
                    refine gc_skip ?_
                    refine ge_then ?_
                    refine gc_seq ?_
                    replace BB := BB.drew
                    replace Xg2 := Xg2.drew
                    replace Xg14 := Xg14.drew
                    refine gc_draw (fun w' => Blk w' g2 [.int .i64 i.k, .int .u64 i.s, .int .u64 i.q, .int .u64 i.f, .int .i64 i.m, .int .u64 i.a, .int .u64 i.b, .int .u64 i.n, .int .i64 i.z, .int .u64 i.v, .int .u64 i.h] 30) (fun _ => false) Xg2 ?_
                    refine z 1 98 (pq g2 1) ?_
                    refine z 2 99 (pq g2 1) ?_
                    refine zl 3 100 (.int .u64 i.s) (fun _ h => h) 1 ?_
                    refine z 5 102 (pq g2 1) ?_
                    refine z 6 103 (pq g2 2) ?_
                    refine zl 7 104 (.int .u64 i.q) (fun _ h => h) 2 ?_
                    refine z 9 106 (pq g2 1) ?_
                    refine z 10 107 (pq g2 3) ?_
                    refine zl 11 108 (.int .u64 i.f) (fun _ h => h) 3 ?_
                    have lXg2 := Xg2.lt
                    have lXg14 := Xg14.lt
                    refine za 0 97 [.int .u8 84] 5 (sg 1) ?_
                    intro v61 g62 Xg62 hg62 B
                    have zg62 := Nat.le_trans BB.size hg62
                    replace BB := joinB BB B
                    replace Xg2 := Xg2.keep B
                    replace Xg14 := Xg14.keep B
                    clear B
                    refine ⟨Xg2, ?_⟩
                    refine zc 4 101 19 #[sg 1 g62, .int .i64 8, .int .u64 i.s] (put8 (x := i.s) (blk_mine (L := [84]) Xg62 zg62 rfl (by decide)) BB.size (by simp only [List.length_append, be_length, List.length_cons, List.length_nil]; omega)) ?_
                    rintro _ v64 ⟨Vm63, rfl, m63, Y⟩
                    clear Xg62
                    replace BB := Byt.below Y BB (Nat.le_refl _) (Nat.le_refl _)
                    replace Xg2 := Blk.byt Xg2 Y (by decide)
                    replace Xg14 := Blk.byt Xg14 Y (by decide)
                    clear Y
                    refine ⟨_, rfl, Xg2, ?_⟩
                    refine zc 8 105 19 #[Vm63, .int .i64 8, .int .u64 i.q] (put8 (x := i.q) m63 BB.size (by simp only [List.length_append, be_length, List.length_cons, List.length_nil]; omega)) ?_
                    rintro _ v66 ⟨Vm65, rfl, m65, Y⟩
                    replace BB := Byt.below Y BB (Nat.le_refl _) (Nat.le_refl _)
                    replace Xg2 := Blk.byt Xg2 Y (by decide)
                    replace Xg14 := Blk.byt Xg14 Y (by decide)
                    clear m63
                    clear Y
                    refine ⟨_, rfl, Xg2, ?_⟩
                    refine zc 12 109 19 #[Vm65, .int .i64 8, .int .u64 i.f] (put8 (x := i.f) m65 BB.size (by simp only [List.length_append, be_length, List.length_cons, List.length_nil]; omega)) ?_
                    rintro _ v68 ⟨Vm67, rfl, m67, Y⟩
                    replace BB := Byt.below Y BB (Nat.le_refl _) (Nat.le_refl _)
                    replace Xg2 := Blk.byt Xg2 Y (by decide)
                    replace Xg14 := Blk.byt Xg14 Y (by decide)
                    clear m65
                    clear Y
                    refine ⟨_, rfl, Xg2, ?_⟩
                    refine z 13 8 (Vm67) ?_
                    refine gz_done ?_
                    refine ge_then ?_
                    clear Xg2
                    refine gc_seq ?_
                    refine gc_reg ?_
                    refine t 110 (Vm67) ?_
                    refine t 111 (pg g14) ?_
                    refine tl 112 (.int .i64 i.m) Xg14 0 ?_
                    refine tr 113 (.int .u8 i.m) (cv_iu i.m ⟨by omega, by omega⟩) ?_
                    have lXg14 := Xg14.lt
                    refine ta 114 [.int .u8 i.m] 5 (sg 1) ?_
                    intro v69 g70 Xg70 hg70 B
                    have zg70 := Nat.le_trans BB.size hg70
                    replace BB := joinB BB B
                    replace Xg14 := Xg14.keep B
                    replace m67 := mineB_keep m67 B
                    clear B
                    obtain ⟨Vm71, v72, hr, m71, Y⟩ := app_mb m67 Xg70 ⟨by omega, by omega⟩ BB.size (by simp only [List.length_append, be_length, List.length_cons, List.length_nil]; omega)
                    refine tw 115 Vm71 _ (run_apB hr) ?_
                    clear hr
                    clear Xg70
                    replace BB := Byt.below Y BB (Nat.le_refl _) (Nat.le_refl _)
                    replace Xg14 := Blk.byt Xg14 Y (by decide)
                    clear m67
                    clear Y
                    refine t 8 (Vm71) ?_
                    refine gl_nil ?_
                    refine ge_then ?_
                    refine gc_fr [(2, .slice none 0 0), (3, .int .i64 0), (4, pg g14), (5, .bool (uA i.m)), (6, .bool (uB i.m)), (7, .bool (uN i.m)), (8, Vm71)] (by kernel_rfl) ?_
                    refine gc_seq ?_
                    refine gc_seq ?_
                    refine gc_reg ?_
                    refine tq 116 (.bool (uA i.m)) (.bool true) (congrArg Value.bool c21) ?_
                    refine gl_nil ?_
                    refine ge_then ?_
                    refine gc_yes ?_
                    refine gc_reg ?_
                    refine t 117 (Vm71) ?_
                    refine t 118 (pq g14 1) ?_
                    refine tl 119 (.int .u64 i.a) Xg14 1 ?_
                    refine tc 120 19 #[Vm71, .int .i64 8, .int .u64 i.a] (put8 (x := i.a) m71 BB.size (by simp only [List.length_append, be_length, List.length_cons, List.length_nil]; omega)) ?_
                    rintro _ v74 ⟨Vm73, rfl, m73, Y⟩
                    refine ⟨_, rfl, ?_⟩
                    replace BB := Byt.below Y BB (Nat.le_refl _) (Nat.le_refl _)
                    replace Xg14 := Blk.byt Xg14 Y (by decide)
                    clear m71
                    clear Y
                    refine t 8 (Vm73) ?_
                    refine gl_nil ?_
                    refine ge_then ?_
                    refine gc_seq ?_
                    refine gc_seq ?_
                    refine gc_reg ?_
                    refine tq 121 (.bool (uB i.m)) (.bool false) (congrArg Value.bool (Bool.eq_false_iff.2 c22)) ?_
                    refine gl_nil ?_
                    refine ge_then ?_
                    refine gc_no ?_
                    refine gc_skip ?_
                    refine ge_then ?_
                    refine gc_seq ?_
                    refine gc_seq ?_
                    refine gc_reg ?_
                    refine tq 126 (.bool (uN i.m)) (.bool true) (congrArg Value.bool c60) ?_
                    refine gl_nil ?_
                    refine ge_then ?_
                    refine gc_yes ?_
                    refine gc_reg ?_
                    refine t 127 (Vm73) ?_
                    refine t 128 (pq g14 3) ?_
                    refine tl 129 (.int .u64 i.n) Xg14 3 ?_
                    refine tc 130 19 #[Vm73, .int .i64 8, .int .u64 i.n] (put8 (x := i.n) m73 BB.size (by simp only [List.length_append, be_length, List.length_cons, List.length_nil]; omega)) ?_
                    rintro _ v76 ⟨Vm75, rfl, m75, Y⟩
                    refine ⟨_, rfl, ?_⟩
                    replace BB := Byt.below Y BB (Nat.le_refl _) (Nat.le_refl _)
                    replace Xg14 := Blk.byt Xg14 Y (by decide)
                    clear m73
                    clear Y
                    refine t 8 (Vm75) ?_
                    refine gl_nil ?_
                    refine ge_then ?_
                    clear Xg14
                    refine gc_seq ?_
                    refine gc_reg ?_
                    refine t 131 (Vm75) ?_
                    refine t 2 (Vm75) ?_
                    refine t 3 (.int .i64 0) ?_
                    refine gl_nil ?_
                    refine ge_then ?_
                    refine gc_fr [(2, Vm75), (3, .int .i64 0)] (by kernel_rfl) ?_
                    refine gc_ret ?_
                    refine ge_ret (.tuple #[Vm75, .int .i64 0]) (rs2 2 3 (by kernel_rfl) (by kernel_rfl) (by kernel_rfl)) ?_
                    have e : bs i = ([84] ++ be 8 i.s ++ be 8 i.q ++ be 8 i.f ++ be 1 i.m ++ be 8 i.a ++ be 8 i.n) := by
                      unfold bs bsM opt
                      rw [if_pos c17, if_pos c21, if_neg c22, if_pos c60, e84]
                      simp only [List.append_assoc, List.append_nil, List.nil_append]
                    rw [← e] at m75
                    exact .inl ⟨.inl ⟨c17, c18, okM_mk ⟨by omega, by omega⟩ (.inl c21) (.inr c59) (.inl c60)⟩, _, rfl, m75, BB⟩
                  · refine tq 89 (.bool (uN i.m)) (.bool false) (congrArg Value.bool (Bool.eq_false_iff.2 c60)) ?_
                    refine t 90 (.bool true) ?_
                    refine t 91 (.bool true) ?_
                    refine t 92 (pq g14 3) ?_
                    refine tl 93 (.int .u64 i.n) Xg14 3 ?_
                    by_cases c77 : (i.n : Int) = 0
                    · refine tq 94 (.bool ((i.n : Int) != 0)) (.bool false) (congrArg Value.bool (bne_eq_false_iff_eq.2 c77)) ?_
                      refine t 95 (.bool false) ?_
                      refine t 96 (.bool false) ?_
                      refine gl_nil ?_
                      refine ge_then ?_
                      refine gc_fr [(1, pg g2), (2, .slice none 0 0), (3, .int .i64 0), (4, pg g14), (5, .bool (uA i.m)), (6, .bool (uB i.m)), (7, .bool (uN i.m)), (96, .bool false)] (by kernel_rfl) ?_
                      refine gc_no ?_
                      refine gc_skip ?_
                      refine ge_then ?_
                      refine gc_seq ?_
                      replace BB := BB.drew
                      replace Xg2 := Xg2.drew
                      replace Xg14 := Xg14.drew
                      refine gc_draw (fun w' => Blk w' g2 [.int .i64 i.k, .int .u64 i.s, .int .u64 i.q, .int .u64 i.f, .int .i64 i.m, .int .u64 i.a, .int .u64 i.b, .int .u64 i.n, .int .i64 i.z, .int .u64 i.v, .int .u64 i.h] 30) (fun _ => false) Xg2 ?_
                      refine z 1 98 (pq g2 1) ?_
                      refine z 2 99 (pq g2 1) ?_
                      refine zl 3 100 (.int .u64 i.s) (fun _ h => h) 1 ?_
                      refine z 5 102 (pq g2 1) ?_
                      refine z 6 103 (pq g2 2) ?_
                      refine zl 7 104 (.int .u64 i.q) (fun _ h => h) 2 ?_
                      refine z 9 106 (pq g2 1) ?_
                      refine z 10 107 (pq g2 3) ?_
                      refine zl 11 108 (.int .u64 i.f) (fun _ h => h) 3 ?_
                      have lXg2 := Xg2.lt
                      have lXg14 := Xg14.lt
                      refine za 0 97 [.int .u8 84] 5 (sg 1) ?_
                      intro v78 g79 Xg79 hg79 B
                      have zg79 := Nat.le_trans BB.size hg79
                      replace BB := joinB BB B
                      replace Xg2 := Xg2.keep B
                      replace Xg14 := Xg14.keep B
                      clear B
                      refine ⟨Xg2, ?_⟩
                      refine zc 4 101 19 #[sg 1 g79, .int .i64 8, .int .u64 i.s] (put8 (x := i.s) (blk_mine (L := [84]) Xg79 zg79 rfl (by decide)) BB.size (by simp only [List.length_append, be_length, List.length_cons, List.length_nil]; omega)) ?_
                      rintro _ v81 ⟨Vm80, rfl, m80, Y⟩
                      clear Xg79
                      replace BB := Byt.below Y BB (Nat.le_refl _) (Nat.le_refl _)
                      replace Xg2 := Blk.byt Xg2 Y (by decide)
                      replace Xg14 := Blk.byt Xg14 Y (by decide)
                      clear Y
                      refine ⟨_, rfl, Xg2, ?_⟩
                      refine zc 8 105 19 #[Vm80, .int .i64 8, .int .u64 i.q] (put8 (x := i.q) m80 BB.size (by simp only [List.length_append, be_length, List.length_cons, List.length_nil]; omega)) ?_
                      rintro _ v83 ⟨Vm82, rfl, m82, Y⟩
                      replace BB := Byt.below Y BB (Nat.le_refl _) (Nat.le_refl _)
                      replace Xg2 := Blk.byt Xg2 Y (by decide)
                      replace Xg14 := Blk.byt Xg14 Y (by decide)
                      clear m80
                      clear Y
                      refine ⟨_, rfl, Xg2, ?_⟩
                      refine zc 12 109 19 #[Vm82, .int .i64 8, .int .u64 i.f] (put8 (x := i.f) m82 BB.size (by simp only [List.length_append, be_length, List.length_cons, List.length_nil]; omega)) ?_
                      rintro _ v85 ⟨Vm84, rfl, m84, Y⟩
                      replace BB := Byt.below Y BB (Nat.le_refl _) (Nat.le_refl _)
                      replace Xg2 := Blk.byt Xg2 Y (by decide)
                      replace Xg14 := Blk.byt Xg14 Y (by decide)
                      clear m82
                      clear Y
                      refine ⟨_, rfl, Xg2, ?_⟩
                      refine z 13 8 (Vm84) ?_
                      refine gz_done ?_
                      refine ge_then ?_
                      clear Xg2
                      refine gc_seq ?_
                      refine gc_reg ?_
                      refine t 110 (Vm84) ?_
                      refine t 111 (pg g14) ?_
                      refine tl 112 (.int .i64 i.m) Xg14 0 ?_
                      refine tr 113 (.int .u8 i.m) (cv_iu i.m ⟨by omega, by omega⟩) ?_
                      have lXg14 := Xg14.lt
                      refine ta 114 [.int .u8 i.m] 5 (sg 1) ?_
                      intro v86 g87 Xg87 hg87 B
                      have zg87 := Nat.le_trans BB.size hg87
                      replace BB := joinB BB B
                      replace Xg14 := Xg14.keep B
                      replace m84 := mineB_keep m84 B
                      clear B
                      obtain ⟨Vm88, v89, hr, m88, Y⟩ := app_mb m84 Xg87 ⟨by omega, by omega⟩ BB.size (by simp only [List.length_append, be_length, List.length_cons, List.length_nil]; omega)
                      refine tw 115 Vm88 _ (run_apB hr) ?_
                      clear hr
                      clear Xg87
                      replace BB := Byt.below Y BB (Nat.le_refl _) (Nat.le_refl _)
                      replace Xg14 := Blk.byt Xg14 Y (by decide)
                      clear m84
                      clear Y
                      refine t 8 (Vm88) ?_
                      refine gl_nil ?_
                      refine ge_then ?_
                      refine gc_fr [(2, .slice none 0 0), (3, .int .i64 0), (4, pg g14), (5, .bool (uA i.m)), (6, .bool (uB i.m)), (7, .bool (uN i.m)), (8, Vm88)] (by kernel_rfl) ?_
                      refine gc_seq ?_
                      refine gc_seq ?_
                      refine gc_reg ?_
                      refine tq 116 (.bool (uA i.m)) (.bool true) (congrArg Value.bool c21) ?_
                      refine gl_nil ?_
                      refine ge_then ?_
                      refine gc_yes ?_
                      refine gc_reg ?_
                      refine t 117 (Vm88) ?_
                      refine t 118 (pq g14 1) ?_
                      refine tl 119 (.int .u64 i.a) Xg14 1 ?_
                      refine tc 120 19 #[Vm88, .int .i64 8, .int .u64 i.a] (put8 (x := i.a) m88 BB.size (by simp only [List.length_append, be_length, List.length_cons, List.length_nil]; omega)) ?_
                      rintro _ v91 ⟨Vm90, rfl, m90, Y⟩
                      refine ⟨_, rfl, ?_⟩
                      replace BB := Byt.below Y BB (Nat.le_refl _) (Nat.le_refl _)
                      replace Xg14 := Blk.byt Xg14 Y (by decide)
                      clear m88
                      clear Y
                      refine t 8 (Vm90) ?_
                      refine gl_nil ?_
                      refine ge_then ?_
                      refine gc_seq ?_
                      refine gc_seq ?_
                      refine gc_reg ?_
                      refine tq 121 (.bool (uB i.m)) (.bool false) (congrArg Value.bool (Bool.eq_false_iff.2 c22)) ?_
                      refine gl_nil ?_
                      refine ge_then ?_
                      refine gc_no ?_
                      refine gc_skip ?_
                      refine ge_then ?_
                      refine gc_seq ?_
                      refine gc_seq ?_
                      refine gc_reg ?_
                      refine tq 126 (.bool (uN i.m)) (.bool false) (congrArg Value.bool (Bool.eq_false_iff.2 c60)) ?_
                      refine gl_nil ?_
                      refine ge_then ?_
                      refine gc_no ?_
                      refine gc_skip ?_
                      refine ge_then ?_
                      clear Xg14
                      refine gc_seq ?_
                      refine gc_reg ?_
                      refine t 131 (Vm90) ?_
                      refine t 2 (Vm90) ?_
                      refine t 3 (.int .i64 0) ?_
                      refine gl_nil ?_
                      refine ge_then ?_
                      refine gc_ret ?_
                      refine ge_ret (.tuple #[Vm90, .int .i64 0]) (rs2 2 3 (by kernel_rfl) (by kernel_rfl) (by kernel_rfl)) ?_
                      have e : bs i = ([84] ++ be 8 i.s ++ be 8 i.q ++ be 8 i.f ++ be 1 i.m ++ be 8 i.a) := by
                        unfold bs bsM opt
                        rw [if_pos c17, if_pos c21, if_neg c22, if_neg c60, e84]
                        simp only [List.append_assoc, List.append_nil, List.nil_append]
                      rw [← e] at m90
                      exact .inl ⟨.inl ⟨c17, c18, okM_mk ⟨by omega, by omega⟩ (.inl c21) (.inr c59) (.inr c77)⟩, _, rfl, m90, BB⟩
                    · refine tq 94 (.bool ((i.n : Int) != 0)) (.bool true) (congrArg Value.bool (bne_iff_ne.2 c77)) ?_
                      refine t 95 (.bool true) ?_
                      refine t 96 (.bool true) ?_
                      refine gl_nil ?_
                      refine ge_then ?_
                      refine gc_fr [(1, pg g2), (2, .slice none 0 0), (3, .int .i64 0), (4, pg g14), (5, .bool (uA i.m)), (6, .bool (uB i.m)), (7, .bool (uN i.m)), (96, .bool true)] (by kernel_rfl) ?_
                      refine gc_yes ?_
                      refine gc_seq ?_
                      refine gc_reg ?_
                      refine t 2 (.slice none 0 0) ?_
                      refine t 3 (.int .i64 170) ?_
                      refine gl_nil ?_
                      refine ge_then ?_
                      refine gc_ret ?_
                      refine ge_tr ?_
                      refine ge_ret (.tuple #[.slice none 0 0, .int .i64 170]) (rs2 2 3 (by kernel_rfl) (by kernel_rfl) (by kernel_rfl)) ?_
                      exact .inr ⟨nok1 c17 (fun h => (okM_is h).2.2.2.elim c60 c77), rfl, BB⟩
                · refine tq 85 (.bool ((i.b : Int) != 0)) (.bool true) (congrArg Value.bool (bne_iff_ne.2 c59)) ?_
                  refine t 86 (.bool true) ?_
                  refine t 87 (.bool true) ?_
                  refine t 88 (.bool true) ?_
                  refine tn 89 ?_
                  refine tn 90 ?_
                  refine tn 91 ?_
                  refine tn 92 ?_
                  refine tn 93 ?_
                  refine tn 94 ?_
                  refine tn 95 ?_
                  refine t 96 (.bool true) ?_
                  refine gl_nil ?_
                  refine ge_then ?_
                  refine gc_fr [(1, pg g2), (2, .slice none 0 0), (3, .int .i64 0), (4, pg g14), (5, .bool (uA i.m)), (6, .bool (uB i.m)), (7, .bool (uN i.m)), (96, .bool true)] (by kernel_rfl) ?_
                  refine gc_yes ?_
                  refine gc_seq ?_
                  refine gc_reg ?_
                  refine t 2 (.slice none 0 0) ?_
                  refine t 3 (.int .i64 170) ?_
                  refine gl_nil ?_
                  refine ge_then ?_
                  refine gc_ret ?_
                  refine ge_tr ?_
                  refine ge_ret (.tuple #[.slice none 0 0, .int .i64 170]) (rs2 2 3 (by kernel_rfl) (by kernel_rfl) (by kernel_rfl)) ?_
                  exact .inr ⟨nok1 c17 (fun h => (okM_is h).2.2.1.elim c22 c59), rfl, BB⟩
            · refine tq 71 (.bool (uA i.m)) (.bool false) (congrArg Value.bool (Bool.eq_false_iff.2 c21)) ?_
              refine t 72 (.bool true) ?_
              refine t 73 (.bool true) ?_
              refine t 74 (pq g14 1) ?_
              refine tl 75 (.int .u64 i.a) Xg14 1 ?_
              by_cases c92 : (i.a : Int) = 0
              · refine tq 76 (.bool ((i.a : Int) != 0)) (.bool false) (congrArg Value.bool (bne_eq_false_iff_eq.2 c92)) ?_
                refine t 77 (.bool false) ?_
                refine t 78 (.bool false) ?_
                refine t 79 (.bool false) ?_
                by_cases c93 : (uB i.m) = true
                · refine tq 80 (.bool (uB i.m)) (.bool true) (congrArg Value.bool c93) ?_
                  refine t 81 (.bool false) ?_
                  refine t 82 (.bool false) ?_
                  refine tn 83 ?_
                  refine tn 84 ?_
                  refine tn 85 ?_
                  refine t 86 (.bool false) ?_
                  refine t 87 (.bool false) ?_
                  refine t 88 (.bool false) ?_
                  by_cases c94 : (uN i.m) = true
                  · refine tq 89 (.bool (uN i.m)) (.bool true) (congrArg Value.bool c94) ?_
                    refine t 90 (.bool false) ?_
                    refine t 91 (.bool false) ?_
                    refine tn 92 ?_
                    refine tn 93 ?_
                    refine tn 94 ?_
                    refine t 95 (.bool false) ?_
                    refine t 96 (.bool false) ?_
                    refine gl_nil ?_
                    refine ge_then ?_
                    refine gc_fr [(1, pg g2), (2, .slice none 0 0), (3, .int .i64 0), (4, pg g14), (5, .bool (uA i.m)), (6, .bool (uB i.m)), (7, .bool (uN i.m)), (96, .bool false)] (by kernel_rfl) ?_
                    refine gc_no ?_
                    refine gc_skip ?_
                    refine ge_then ?_
                    refine gc_seq ?_
                    replace BB := BB.drew
                    replace Xg2 := Xg2.drew
                    replace Xg14 := Xg14.drew
                    refine gc_draw (fun w' => Blk w' g2 [.int .i64 i.k, .int .u64 i.s, .int .u64 i.q, .int .u64 i.f, .int .i64 i.m, .int .u64 i.a, .int .u64 i.b, .int .u64 i.n, .int .i64 i.z, .int .u64 i.v, .int .u64 i.h] 30) (fun _ => false) Xg2 ?_
                    refine z 1 98 (pq g2 1) ?_
                    refine z 2 99 (pq g2 1) ?_
                    refine zl 3 100 (.int .u64 i.s) (fun _ h => h) 1 ?_
                    refine z 5 102 (pq g2 1) ?_
                    refine z 6 103 (pq g2 2) ?_
                    refine zl 7 104 (.int .u64 i.q) (fun _ h => h) 2 ?_
                    refine z 9 106 (pq g2 1) ?_
                    refine z 10 107 (pq g2 3) ?_
                    refine zl 11 108 (.int .u64 i.f) (fun _ h => h) 3 ?_
                    have lXg2 := Xg2.lt
                    have lXg14 := Xg14.lt
                    refine za 0 97 [.int .u8 84] 5 (sg 1) ?_
                    intro v95 g96 Xg96 hg96 B
                    have zg96 := Nat.le_trans BB.size hg96
                    replace BB := joinB BB B
                    replace Xg2 := Xg2.keep B
                    replace Xg14 := Xg14.keep B
                    clear B
                    refine ⟨Xg2, ?_⟩
                    refine zc 4 101 19 #[sg 1 g96, .int .i64 8, .int .u64 i.s] (put8 (x := i.s) (blk_mine (L := [84]) Xg96 zg96 rfl (by decide)) BB.size (by simp only [List.length_append, be_length, List.length_cons, List.length_nil]; omega)) ?_
                    rintro _ v98 ⟨Vm97, rfl, m97, Y⟩
                    clear Xg96
                    replace BB := Byt.below Y BB (Nat.le_refl _) (Nat.le_refl _)
                    replace Xg2 := Blk.byt Xg2 Y (by decide)
                    replace Xg14 := Blk.byt Xg14 Y (by decide)
                    clear Y
                    refine ⟨_, rfl, Xg2, ?_⟩
                    refine zc 8 105 19 #[Vm97, .int .i64 8, .int .u64 i.q] (put8 (x := i.q) m97 BB.size (by simp only [List.length_append, be_length, List.length_cons, List.length_nil]; omega)) ?_
                    rintro _ v100 ⟨Vm99, rfl, m99, Y⟩
                    replace BB := Byt.below Y BB (Nat.le_refl _) (Nat.le_refl _)
                    replace Xg2 := Blk.byt Xg2 Y (by decide)
                    replace Xg14 := Blk.byt Xg14 Y (by decide)
                    clear m97
                    clear Y
                    refine ⟨_, rfl, Xg2, ?_⟩
                    refine zc 12 109 19 #[Vm99, .int .i64 8, .int .u64 i.f] (put8 (x := i.f) m99 BB.size (by simp only [List.length_append, be_length, List.length_cons, List.length_nil]; omega)) ?_
                    rintro _ v102 ⟨Vm101, rfl, m101, Y⟩
                    replace BB := Byt.below Y BB (Nat.le_refl _) (Nat.le_refl _)
                    replace Xg2 := Blk.byt Xg2 Y (by decide)
                    replace Xg14 := Blk.byt Xg14 Y (by decide)
                    clear m99
                    clear Y
                    refine ⟨_, rfl, Xg2, ?_⟩
                    refine z 13 8 (Vm101) ?_
                    refine gz_done ?_
                    refine ge_then ?_
                    clear Xg2
                    refine gc_seq ?_
                    refine gc_reg ?_
                    refine t 110 (Vm101) ?_
                    refine t 111 (pg g14) ?_
                    refine tl 112 (.int .i64 i.m) Xg14 0 ?_
                    refine tr 113 (.int .u8 i.m) (cv_iu i.m ⟨by omega, by omega⟩) ?_
                    have lXg14 := Xg14.lt
                    refine ta 114 [.int .u8 i.m] 5 (sg 1) ?_
                    intro v103 g104 Xg104 hg104 B
                    have zg104 := Nat.le_trans BB.size hg104
                    replace BB := joinB BB B
                    replace Xg14 := Xg14.keep B
                    replace m101 := mineB_keep m101 B
                    clear B
                    obtain ⟨Vm105, v106, hr, m105, Y⟩ := app_mb m101 Xg104 ⟨by omega, by omega⟩ BB.size (by simp only [List.length_append, be_length, List.length_cons, List.length_nil]; omega)
                    refine tw 115 Vm105 _ (run_apB hr) ?_
                    clear hr
                    clear Xg104
                    replace BB := Byt.below Y BB (Nat.le_refl _) (Nat.le_refl _)
                    replace Xg14 := Blk.byt Xg14 Y (by decide)
                    clear m101
                    clear Y
                    refine t 8 (Vm105) ?_
                    refine gl_nil ?_
                    refine ge_then ?_
                    refine gc_fr [(2, .slice none 0 0), (3, .int .i64 0), (4, pg g14), (5, .bool (uA i.m)), (6, .bool (uB i.m)), (7, .bool (uN i.m)), (8, Vm105)] (by kernel_rfl) ?_
                    refine gc_seq ?_
                    refine gc_seq ?_
                    refine gc_reg ?_
                    refine tq 116 (.bool (uA i.m)) (.bool false) (congrArg Value.bool (Bool.eq_false_iff.2 c21)) ?_
                    refine gl_nil ?_
                    refine ge_then ?_
                    refine gc_no ?_
                    refine gc_skip ?_
                    refine ge_then ?_
                    refine gc_seq ?_
                    refine gc_seq ?_
                    refine gc_reg ?_
                    refine tq 121 (.bool (uB i.m)) (.bool true) (congrArg Value.bool c93) ?_
                    refine gl_nil ?_
                    refine ge_then ?_
                    refine gc_yes ?_
                    refine gc_reg ?_
                    refine t 122 (Vm105) ?_
                    refine t 123 (pq g14 2) ?_
                    refine tl 124 (.int .u64 i.b) Xg14 2 ?_
                    refine tc 125 19 #[Vm105, .int .i64 8, .int .u64 i.b] (put8 (x := i.b) m105 BB.size (by simp only [List.length_append, be_length, List.length_cons, List.length_nil]; omega)) ?_
                    rintro _ v108 ⟨Vm107, rfl, m107, Y⟩
                    refine ⟨_, rfl, ?_⟩
                    replace BB := Byt.below Y BB (Nat.le_refl _) (Nat.le_refl _)
                    replace Xg14 := Blk.byt Xg14 Y (by decide)
                    clear m105
                    clear Y
                    refine t 8 (Vm107) ?_
                    refine gl_nil ?_
                    refine ge_then ?_
                    refine gc_seq ?_
                    refine gc_seq ?_
                    refine gc_reg ?_
                    refine tq 126 (.bool (uN i.m)) (.bool true) (congrArg Value.bool c94) ?_
                    refine gl_nil ?_
                    refine ge_then ?_
                    refine gc_yes ?_
                    refine gc_reg ?_
                    refine t 127 (Vm107) ?_
                    refine t 128 (pq g14 3) ?_
                    refine tl 129 (.int .u64 i.n) Xg14 3 ?_
                    refine tc 130 19 #[Vm107, .int .i64 8, .int .u64 i.n] (put8 (x := i.n) m107 BB.size (by simp only [List.length_append, be_length, List.length_cons, List.length_nil]; omega)) ?_
                    rintro _ v110 ⟨Vm109, rfl, m109, Y⟩
                    refine ⟨_, rfl, ?_⟩
                    replace BB := Byt.below Y BB (Nat.le_refl _) (Nat.le_refl _)
                    replace Xg14 := Blk.byt Xg14 Y (by decide)
                    clear m107
                    clear Y
                    refine t 8 (Vm109) ?_
                    refine gl_nil ?_
                    refine ge_then ?_
                    clear Xg14
                    refine gc_seq ?_
                    refine gc_reg ?_
                    refine t 131 (Vm109) ?_
                    refine t 2 (Vm109) ?_
                    refine t 3 (.int .i64 0) ?_
                    refine gl_nil ?_
                    refine ge_then ?_
                    refine gc_fr [(2, Vm109), (3, .int .i64 0)] (by kernel_rfl) ?_
                    refine gc_ret ?_
                    refine ge_ret (.tuple #[Vm109, .int .i64 0]) (rs2 2 3 (by kernel_rfl) (by kernel_rfl) (by kernel_rfl)) ?_
                    have e : bs i = ([84] ++ be 8 i.s ++ be 8 i.q ++ be 8 i.f ++ be 1 i.m ++ be 8 i.b ++ be 8 i.n) := by
                      unfold bs bsM opt
                      rw [if_pos c17, if_neg c21, if_pos c93, if_pos c94, e84]
                      simp only [List.append_assoc, List.append_nil, List.nil_append]
                    rw [← e] at m109
                    exact .inl ⟨.inl ⟨c17, c18, okM_mk ⟨by omega, by omega⟩ (.inr c92) (.inl c93) (.inl c94)⟩, _, rfl, m109, BB⟩
                  · refine tq 89 (.bool (uN i.m)) (.bool false) (congrArg Value.bool (Bool.eq_false_iff.2 c94)) ?_
                    refine t 90 (.bool true) ?_
                    refine t 91 (.bool true) ?_
                    refine t 92 (pq g14 3) ?_
                    refine tl 93 (.int .u64 i.n) Xg14 3 ?_
                    by_cases c111 : (i.n : Int) = 0
                    · refine tq 94 (.bool ((i.n : Int) != 0)) (.bool false) (congrArg Value.bool (bne_eq_false_iff_eq.2 c111)) ?_
                      refine t 95 (.bool false) ?_
                      refine t 96 (.bool false) ?_
                      refine gl_nil ?_
                      refine ge_then ?_
                      refine gc_fr [(1, pg g2), (2, .slice none 0 0), (3, .int .i64 0), (4, pg g14), (5, .bool (uA i.m)), (6, .bool (uB i.m)), (7, .bool (uN i.m)), (96, .bool false)] (by kernel_rfl) ?_
                      refine gc_no ?_
                      refine gc_skip ?_
                      refine ge_then ?_
                      refine gc_seq ?_
                      replace BB := BB.drew
                      replace Xg2 := Xg2.drew
                      replace Xg14 := Xg14.drew
                      refine gc_draw (fun w' => Blk w' g2 [.int .i64 i.k, .int .u64 i.s, .int .u64 i.q, .int .u64 i.f, .int .i64 i.m, .int .u64 i.a, .int .u64 i.b, .int .u64 i.n, .int .i64 i.z, .int .u64 i.v, .int .u64 i.h] 30) (fun _ => false) Xg2 ?_
                      refine z 1 98 (pq g2 1) ?_
                      refine z 2 99 (pq g2 1) ?_
                      refine zl 3 100 (.int .u64 i.s) (fun _ h => h) 1 ?_
                      refine z 5 102 (pq g2 1) ?_
                      refine z 6 103 (pq g2 2) ?_
                      refine zl 7 104 (.int .u64 i.q) (fun _ h => h) 2 ?_
                      refine z 9 106 (pq g2 1) ?_
                      refine z 10 107 (pq g2 3) ?_
                      refine zl 11 108 (.int .u64 i.f) (fun _ h => h) 3 ?_
                      have lXg2 := Xg2.lt
                      have lXg14 := Xg14.lt
                      refine za 0 97 [.int .u8 84] 5 (sg 1) ?_
                      intro v112 g113 Xg113 hg113 B
                      have zg113 := Nat.le_trans BB.size hg113
                      replace BB := joinB BB B
                      replace Xg2 := Xg2.keep B
                      replace Xg14 := Xg14.keep B
                      clear B
                      refine ⟨Xg2, ?_⟩
                      refine zc 4 101 19 #[sg 1 g113, .int .i64 8, .int .u64 i.s] (put8 (x := i.s) (blk_mine (L := [84]) Xg113 zg113 rfl (by decide)) BB.size (by simp only [List.length_append, be_length, List.length_cons, List.length_nil]; omega)) ?_
                      rintro _ v115 ⟨Vm114, rfl, m114, Y⟩
                      clear Xg113
                      replace BB := Byt.below Y BB (Nat.le_refl _) (Nat.le_refl _)
                      replace Xg2 := Blk.byt Xg2 Y (by decide)
                      replace Xg14 := Blk.byt Xg14 Y (by decide)
                      clear Y
                      refine ⟨_, rfl, Xg2, ?_⟩
                      refine zc 8 105 19 #[Vm114, .int .i64 8, .int .u64 i.q] (put8 (x := i.q) m114 BB.size (by simp only [List.length_append, be_length, List.length_cons, List.length_nil]; omega)) ?_
                      rintro _ v117 ⟨Vm116, rfl, m116, Y⟩
                      replace BB := Byt.below Y BB (Nat.le_refl _) (Nat.le_refl _)
                      replace Xg2 := Blk.byt Xg2 Y (by decide)
                      replace Xg14 := Blk.byt Xg14 Y (by decide)
                      clear m114
                      clear Y
                      refine ⟨_, rfl, Xg2, ?_⟩
                      refine zc 12 109 19 #[Vm116, .int .i64 8, .int .u64 i.f] (put8 (x := i.f) m116 BB.size (by simp only [List.length_append, be_length, List.length_cons, List.length_nil]; omega)) ?_
                      rintro _ v119 ⟨Vm118, rfl, m118, Y⟩
                      replace BB := Byt.below Y BB (Nat.le_refl _) (Nat.le_refl _)
                      replace Xg2 := Blk.byt Xg2 Y (by decide)
                      replace Xg14 := Blk.byt Xg14 Y (by decide)
                      clear m116
                      clear Y
                      refine ⟨_, rfl, Xg2, ?_⟩
                      refine z 13 8 (Vm118) ?_
                      refine gz_done ?_
                      refine ge_then ?_
                      clear Xg2
                      refine gc_seq ?_
                      refine gc_reg ?_
                      refine t 110 (Vm118) ?_
                      refine t 111 (pg g14) ?_
                      refine tl 112 (.int .i64 i.m) Xg14 0 ?_
                      refine tr 113 (.int .u8 i.m) (cv_iu i.m ⟨by omega, by omega⟩) ?_
                      have lXg14 := Xg14.lt
                      refine ta 114 [.int .u8 i.m] 5 (sg 1) ?_
                      intro v120 g121 Xg121 hg121 B
                      have zg121 := Nat.le_trans BB.size hg121
                      replace BB := joinB BB B
                      replace Xg14 := Xg14.keep B
                      replace m118 := mineB_keep m118 B
                      clear B
                      obtain ⟨Vm122, v123, hr, m122, Y⟩ := app_mb m118 Xg121 ⟨by omega, by omega⟩ BB.size (by simp only [List.length_append, be_length, List.length_cons, List.length_nil]; omega)
                      refine tw 115 Vm122 _ (run_apB hr) ?_
                      clear hr
                      clear Xg121
                      replace BB := Byt.below Y BB (Nat.le_refl _) (Nat.le_refl _)
                      replace Xg14 := Blk.byt Xg14 Y (by decide)
                      clear m118
                      clear Y
                      refine t 8 (Vm122) ?_
                      refine gl_nil ?_
                      refine ge_then ?_
                      refine gc_fr [(2, .slice none 0 0), (3, .int .i64 0), (4, pg g14), (5, .bool (uA i.m)), (6, .bool (uB i.m)), (7, .bool (uN i.m)), (8, Vm122)] (by kernel_rfl) ?_
                      refine gc_seq ?_
                      refine gc_seq ?_
                      refine gc_reg ?_
                      refine tq 116 (.bool (uA i.m)) (.bool false) (congrArg Value.bool (Bool.eq_false_iff.2 c21)) ?_
                      refine gl_nil ?_
                      refine ge_then ?_
                      refine gc_no ?_
                      refine gc_skip ?_
                      refine ge_then ?_
                      refine gc_seq ?_
                      refine gc_seq ?_
                      refine gc_reg ?_
                      refine tq 121 (.bool (uB i.m)) (.bool true) (congrArg Value.bool c93) ?_
                      refine gl_nil ?_
                      refine ge_then ?_
                      refine gc_yes ?_
                      refine gc_reg ?_
                      refine t 122 (Vm122) ?_
                      refine t 123 (pq g14 2) ?_
                      refine tl 124 (.int .u64 i.b) Xg14 2 ?_
                      refine tc 125 19 #[Vm122, .int .i64 8, .int .u64 i.b] (put8 (x := i.b) m122 BB.size (by simp only [List.length_append, be_length, List.length_cons, List.length_nil]; omega)) ?_
                      rintro _ v125 ⟨Vm124, rfl, m124, Y⟩
                      refine ⟨_, rfl, ?_⟩
                      replace BB := Byt.below Y BB (Nat.le_refl _) (Nat.le_refl _)
                      replace Xg14 := Blk.byt Xg14 Y (by decide)
                      clear m122
                      clear Y
                      refine t 8 (Vm124) ?_
                      refine gl_nil ?_
                      refine ge_then ?_
                      refine gc_seq ?_
                      refine gc_seq ?_
                      refine gc_reg ?_
                      refine tq 126 (.bool (uN i.m)) (.bool false) (congrArg Value.bool (Bool.eq_false_iff.2 c94)) ?_
                      refine gl_nil ?_
                      refine ge_then ?_
                      refine gc_no ?_
                      refine gc_skip ?_
                      refine ge_then ?_
                      clear Xg14
                      refine gc_seq ?_
                      refine gc_reg ?_
                      refine t 131 (Vm124) ?_
                      refine t 2 (Vm124) ?_
                      refine t 3 (.int .i64 0) ?_
                      refine gl_nil ?_
                      refine ge_then ?_
                      refine gc_ret ?_
                      refine ge_ret (.tuple #[Vm124, .int .i64 0]) (rs2 2 3 (by kernel_rfl) (by kernel_rfl) (by kernel_rfl)) ?_
                      have e : bs i = ([84] ++ be 8 i.s ++ be 8 i.q ++ be 8 i.f ++ be 1 i.m ++ be 8 i.b) := by
                        unfold bs bsM opt
                        rw [if_pos c17, if_neg c21, if_pos c93, if_neg c94, e84]
                        simp only [List.append_assoc, List.append_nil, List.nil_append]
                      rw [← e] at m124
                      exact .inl ⟨.inl ⟨c17, c18, okM_mk ⟨by omega, by omega⟩ (.inr c92) (.inl c93) (.inr c111)⟩, _, rfl, m124, BB⟩
                    · refine tq 94 (.bool ((i.n : Int) != 0)) (.bool true) (congrArg Value.bool (bne_iff_ne.2 c111)) ?_
                      refine t 95 (.bool true) ?_
                      refine t 96 (.bool true) ?_
                      refine gl_nil ?_
                      refine ge_then ?_
                      refine gc_fr [(1, pg g2), (2, .slice none 0 0), (3, .int .i64 0), (4, pg g14), (5, .bool (uA i.m)), (6, .bool (uB i.m)), (7, .bool (uN i.m)), (96, .bool true)] (by kernel_rfl) ?_
                      refine gc_yes ?_
                      refine gc_seq ?_
                      refine gc_reg ?_
                      refine t 2 (.slice none 0 0) ?_
                      refine t 3 (.int .i64 170) ?_
                      refine gl_nil ?_
                      refine ge_then ?_
                      refine gc_ret ?_
                      refine ge_tr ?_
                      refine ge_ret (.tuple #[.slice none 0 0, .int .i64 170]) (rs2 2 3 (by kernel_rfl) (by kernel_rfl) (by kernel_rfl)) ?_
                      exact .inr ⟨nok1 c17 (fun h => (okM_is h).2.2.2.elim c94 c111), rfl, BB⟩
                · refine tq 80 (.bool (uB i.m)) (.bool false) (congrArg Value.bool (Bool.eq_false_iff.2 c93)) ?_
                  refine t 81 (.bool true) ?_
                  refine t 82 (.bool true) ?_
                  refine t 83 (pq g14 2) ?_
                  refine tl 84 (.int .u64 i.b) Xg14 2 ?_
                  by_cases c126 : (i.b : Int) = 0
                  · refine tq 85 (.bool ((i.b : Int) != 0)) (.bool false) (congrArg Value.bool (bne_eq_false_iff_eq.2 c126)) ?_
                    refine t 86 (.bool false) ?_
                    refine t 87 (.bool false) ?_
                    refine t 88 (.bool false) ?_
                    by_cases c127 : (uN i.m) = true
                    · refine tq 89 (.bool (uN i.m)) (.bool true) (congrArg Value.bool c127) ?_
                      refine t 90 (.bool false) ?_
                      refine t 91 (.bool false) ?_
                      refine tn 92 ?_
                      refine tn 93 ?_
                      refine tn 94 ?_
                      refine t 95 (.bool false) ?_
                      refine t 96 (.bool false) ?_
                      refine gl_nil ?_
                      refine ge_then ?_
                      refine gc_fr [(1, pg g2), (2, .slice none 0 0), (3, .int .i64 0), (4, pg g14), (5, .bool (uA i.m)), (6, .bool (uB i.m)), (7, .bool (uN i.m)), (96, .bool false)] (by kernel_rfl) ?_
                      refine gc_no ?_
                      refine gc_skip ?_
                      refine ge_then ?_
                      refine gc_seq ?_
                      replace BB := BB.drew
                      replace Xg2 := Xg2.drew
                      replace Xg14 := Xg14.drew
                      refine gc_draw (fun w' => Blk w' g2 [.int .i64 i.k, .int .u64 i.s, .int .u64 i.q, .int .u64 i.f, .int .i64 i.m, .int .u64 i.a, .int .u64 i.b, .int .u64 i.n, .int .i64 i.z, .int .u64 i.v, .int .u64 i.h] 30) (fun _ => false) Xg2 ?_
                      refine z 1 98 (pq g2 1) ?_
                      refine z 2 99 (pq g2 1) ?_
                      refine zl 3 100 (.int .u64 i.s) (fun _ h => h) 1 ?_
                      refine z 5 102 (pq g2 1) ?_
                      refine z 6 103 (pq g2 2) ?_
                      refine zl 7 104 (.int .u64 i.q) (fun _ h => h) 2 ?_
                      refine z 9 106 (pq g2 1) ?_
                      refine z 10 107 (pq g2 3) ?_
                      refine zl 11 108 (.int .u64 i.f) (fun _ h => h) 3 ?_
                      have lXg2 := Xg2.lt
                      have lXg14 := Xg14.lt
                      refine za 0 97 [.int .u8 84] 5 (sg 1) ?_
                      intro v128 g129 Xg129 hg129 B
                      have zg129 := Nat.le_trans BB.size hg129
                      replace BB := joinB BB B
                      replace Xg2 := Xg2.keep B
                      replace Xg14 := Xg14.keep B
                      clear B
                      refine ⟨Xg2, ?_⟩
                      refine zc 4 101 19 #[sg 1 g129, .int .i64 8, .int .u64 i.s] (put8 (x := i.s) (blk_mine (L := [84]) Xg129 zg129 rfl (by decide)) BB.size (by simp only [List.length_append, be_length, List.length_cons, List.length_nil]; omega)) ?_
                      rintro _ v131 ⟨Vm130, rfl, m130, Y⟩
                      clear Xg129
                      replace BB := Byt.below Y BB (Nat.le_refl _) (Nat.le_refl _)
                      replace Xg2 := Blk.byt Xg2 Y (by decide)
                      replace Xg14 := Blk.byt Xg14 Y (by decide)
                      clear Y
                      refine ⟨_, rfl, Xg2, ?_⟩
                      refine zc 8 105 19 #[Vm130, .int .i64 8, .int .u64 i.q] (put8 (x := i.q) m130 BB.size (by simp only [List.length_append, be_length, List.length_cons, List.length_nil]; omega)) ?_
                      rintro _ v133 ⟨Vm132, rfl, m132, Y⟩
                      replace BB := Byt.below Y BB (Nat.le_refl _) (Nat.le_refl _)
                      replace Xg2 := Blk.byt Xg2 Y (by decide)
                      replace Xg14 := Blk.byt Xg14 Y (by decide)
                      clear m130
                      clear Y
                      refine ⟨_, rfl, Xg2, ?_⟩
                      refine zc 12 109 19 #[Vm132, .int .i64 8, .int .u64 i.f] (put8 (x := i.f) m132 BB.size (by simp only [List.length_append, be_length, List.length_cons, List.length_nil]; omega)) ?_
                      rintro _ v135 ⟨Vm134, rfl, m134, Y⟩
                      replace BB := Byt.below Y BB (Nat.le_refl _) (Nat.le_refl _)
                      replace Xg2 := Blk.byt Xg2 Y (by decide)
                      replace Xg14 := Blk.byt Xg14 Y (by decide)
                      clear m132
                      clear Y
                      refine ⟨_, rfl, Xg2, ?_⟩
                      refine z 13 8 (Vm134) ?_
                      refine gz_done ?_
                      refine ge_then ?_
                      clear Xg2
                      refine gc_seq ?_
                      refine gc_reg ?_
                      refine t 110 (Vm134) ?_
                      refine t 111 (pg g14) ?_
                      refine tl 112 (.int .i64 i.m) Xg14 0 ?_
                      refine tr 113 (.int .u8 i.m) (cv_iu i.m ⟨by omega, by omega⟩) ?_
                      have lXg14 := Xg14.lt
                      refine ta 114 [.int .u8 i.m] 5 (sg 1) ?_
                      intro v136 g137 Xg137 hg137 B
                      have zg137 := Nat.le_trans BB.size hg137
                      replace BB := joinB BB B
                      replace Xg14 := Xg14.keep B
                      replace m134 := mineB_keep m134 B
                      clear B
                      obtain ⟨Vm138, v139, hr, m138, Y⟩ := app_mb m134 Xg137 ⟨by omega, by omega⟩ BB.size (by simp only [List.length_append, be_length, List.length_cons, List.length_nil]; omega)
                      refine tw 115 Vm138 _ (run_apB hr) ?_
                      clear hr
                      clear Xg137
                      replace BB := Byt.below Y BB (Nat.le_refl _) (Nat.le_refl _)
                      replace Xg14 := Blk.byt Xg14 Y (by decide)
                      clear m134
                      clear Y
                      refine t 8 (Vm138) ?_
                      refine gl_nil ?_
                      refine ge_then ?_
                      refine gc_fr [(2, .slice none 0 0), (3, .int .i64 0), (4, pg g14), (5, .bool (uA i.m)), (6, .bool (uB i.m)), (7, .bool (uN i.m)), (8, Vm138)] (by kernel_rfl) ?_
                      refine gc_seq ?_
                      refine gc_seq ?_
                      refine gc_reg ?_
                      refine tq 116 (.bool (uA i.m)) (.bool false) (congrArg Value.bool (Bool.eq_false_iff.2 c21)) ?_
                      refine gl_nil ?_
                      refine ge_then ?_
                      refine gc_no ?_
                      refine gc_skip ?_
                      refine ge_then ?_
                      refine gc_seq ?_
                      refine gc_seq ?_
                      refine gc_reg ?_
                      refine tq 121 (.bool (uB i.m)) (.bool false) (congrArg Value.bool (Bool.eq_false_iff.2 c93)) ?_
                      refine gl_nil ?_
                      refine ge_then ?_
                      refine gc_no ?_
                      refine gc_skip ?_
                      refine ge_then ?_
                      refine gc_seq ?_
                      refine gc_seq ?_
                      refine gc_reg ?_
                      refine tq 126 (.bool (uN i.m)) (.bool true) (congrArg Value.bool c127) ?_
                      refine gl_nil ?_
                      refine ge_then ?_
                      refine gc_yes ?_
                      refine gc_reg ?_
                      refine t 127 (Vm138) ?_
                      refine t 128 (pq g14 3) ?_
                      refine tl 129 (.int .u64 i.n) Xg14 3 ?_
                      refine tc 130 19 #[Vm138, .int .i64 8, .int .u64 i.n] (put8 (x := i.n) m138 BB.size (by simp only [List.length_append, be_length, List.length_cons, List.length_nil]; omega)) ?_
                      rintro _ v141 ⟨Vm140, rfl, m140, Y⟩
                      refine ⟨_, rfl, ?_⟩
                      replace BB := Byt.below Y BB (Nat.le_refl _) (Nat.le_refl _)
                      replace Xg14 := Blk.byt Xg14 Y (by decide)
                      clear m138
                      clear Y
                      refine t 8 (Vm140) ?_
                      refine gl_nil ?_
                      refine ge_then ?_
                      clear Xg14
                      refine gc_seq ?_
                      refine gc_reg ?_
                      refine t 131 (Vm140) ?_
                      refine t 2 (Vm140) ?_
                      refine t 3 (.int .i64 0) ?_
                      refine gl_nil ?_
                      refine ge_then ?_
                      refine gc_ret ?_
                      refine ge_ret (.tuple #[Vm140, .int .i64 0]) (rs2 2 3 (by kernel_rfl) (by kernel_rfl) (by kernel_rfl)) ?_
                      have e : bs i = ([84] ++ be 8 i.s ++ be 8 i.q ++ be 8 i.f ++ be 1 i.m ++ be 8 i.n) := by
                        unfold bs bsM opt
                        rw [if_pos c17, if_neg c21, if_neg c93, if_pos c127, e84]
                        simp only [List.append_assoc, List.append_nil, List.nil_append]
                      rw [← e] at m140
                      exact .inl ⟨.inl ⟨c17, c18, okM_mk ⟨by omega, by omega⟩ (.inr c92) (.inr c126) (.inl c127)⟩, _, rfl, m140, BB⟩
                    · refine tq 89 (.bool (uN i.m)) (.bool false) (congrArg Value.bool (Bool.eq_false_iff.2 c127)) ?_
                      refine t 90 (.bool true) ?_
                      refine t 91 (.bool true) ?_
                      refine t 92 (pq g14 3) ?_
                      refine tl 93 (.int .u64 i.n) Xg14 3 ?_
                      by_cases c142 : (i.n : Int) = 0
                      · refine tq 94 (.bool ((i.n : Int) != 0)) (.bool false) (congrArg Value.bool (bne_eq_false_iff_eq.2 c142)) ?_
                        refine t 95 (.bool false) ?_
                        refine t 96 (.bool false) ?_
                        refine gl_nil ?_
                        refine ge_then ?_
                        refine gc_fr [(1, pg g2), (2, .slice none 0 0), (3, .int .i64 0), (4, pg g14), (5, .bool (uA i.m)), (6, .bool (uB i.m)), (7, .bool (uN i.m)), (96, .bool false)] (by kernel_rfl) ?_
                        refine gc_no ?_
                        refine gc_skip ?_
                        refine ge_then ?_
                        refine gc_seq ?_
                        replace BB := BB.drew
                        replace Xg2 := Xg2.drew
                        replace Xg14 := Xg14.drew
                        refine gc_draw (fun w' => Blk w' g2 [.int .i64 i.k, .int .u64 i.s, .int .u64 i.q, .int .u64 i.f, .int .i64 i.m, .int .u64 i.a, .int .u64 i.b, .int .u64 i.n, .int .i64 i.z, .int .u64 i.v, .int .u64 i.h] 30) (fun _ => false) Xg2 ?_
                        refine z 1 98 (pq g2 1) ?_
                        refine z 2 99 (pq g2 1) ?_
                        refine zl 3 100 (.int .u64 i.s) (fun _ h => h) 1 ?_
                        refine z 5 102 (pq g2 1) ?_
                        refine z 6 103 (pq g2 2) ?_
                        refine zl 7 104 (.int .u64 i.q) (fun _ h => h) 2 ?_
                        refine z 9 106 (pq g2 1) ?_
                        refine z 10 107 (pq g2 3) ?_
                        refine zl 11 108 (.int .u64 i.f) (fun _ h => h) 3 ?_
                        have lXg2 := Xg2.lt
                        have lXg14 := Xg14.lt
                        refine za 0 97 [.int .u8 84] 5 (sg 1) ?_
                        intro v143 g144 Xg144 hg144 B
                        have zg144 := Nat.le_trans BB.size hg144
                        replace BB := joinB BB B
                        replace Xg2 := Xg2.keep B
                        replace Xg14 := Xg14.keep B
                        clear B
                        refine ⟨Xg2, ?_⟩
                        refine zc 4 101 19 #[sg 1 g144, .int .i64 8, .int .u64 i.s] (put8 (x := i.s) (blk_mine (L := [84]) Xg144 zg144 rfl (by decide)) BB.size (by simp only [List.length_append, be_length, List.length_cons, List.length_nil]; omega)) ?_
                        rintro _ v146 ⟨Vm145, rfl, m145, Y⟩
                        clear Xg144
                        replace BB := Byt.below Y BB (Nat.le_refl _) (Nat.le_refl _)
                        replace Xg2 := Blk.byt Xg2 Y (by decide)
                        replace Xg14 := Blk.byt Xg14 Y (by decide)
                        clear Y
                        refine ⟨_, rfl, Xg2, ?_⟩
                        refine zc 8 105 19 #[Vm145, .int .i64 8, .int .u64 i.q] (put8 (x := i.q) m145 BB.size (by simp only [List.length_append, be_length, List.length_cons, List.length_nil]; omega)) ?_
                        rintro _ v148 ⟨Vm147, rfl, m147, Y⟩
                        replace BB := Byt.below Y BB (Nat.le_refl _) (Nat.le_refl _)
                        replace Xg2 := Blk.byt Xg2 Y (by decide)
                        replace Xg14 := Blk.byt Xg14 Y (by decide)
                        clear m145
                        clear Y
                        refine ⟨_, rfl, Xg2, ?_⟩
                        refine zc 12 109 19 #[Vm147, .int .i64 8, .int .u64 i.f] (put8 (x := i.f) m147 BB.size (by simp only [List.length_append, be_length, List.length_cons, List.length_nil]; omega)) ?_
                        rintro _ v150 ⟨Vm149, rfl, m149, Y⟩
                        replace BB := Byt.below Y BB (Nat.le_refl _) (Nat.le_refl _)
                        replace Xg2 := Blk.byt Xg2 Y (by decide)
                        replace Xg14 := Blk.byt Xg14 Y (by decide)
                        clear m147
                        clear Y
                        refine ⟨_, rfl, Xg2, ?_⟩
                        refine z 13 8 (Vm149) ?_
                        refine gz_done ?_
                        refine ge_then ?_
                        clear Xg2
                        refine gc_seq ?_
                        refine gc_reg ?_
                        refine t 110 (Vm149) ?_
                        refine t 111 (pg g14) ?_
                        refine tl 112 (.int .i64 i.m) Xg14 0 ?_
                        refine tr 113 (.int .u8 i.m) (cv_iu i.m ⟨by omega, by omega⟩) ?_
                        have lXg14 := Xg14.lt
                        refine ta 114 [.int .u8 i.m] 5 (sg 1) ?_
                        intro v151 g152 Xg152 hg152 B
                        have zg152 := Nat.le_trans BB.size hg152
                        replace BB := joinB BB B
                        replace Xg14 := Xg14.keep B
                        replace m149 := mineB_keep m149 B
                        clear B
                        obtain ⟨Vm153, v154, hr, m153, Y⟩ := app_mb m149 Xg152 ⟨by omega, by omega⟩ BB.size (by simp only [List.length_append, be_length, List.length_cons, List.length_nil]; omega)
                        refine tw 115 Vm153 _ (run_apB hr) ?_
                        clear hr
                        clear Xg152
                        replace BB := Byt.below Y BB (Nat.le_refl _) (Nat.le_refl _)
                        replace Xg14 := Blk.byt Xg14 Y (by decide)
                        clear m149
                        clear Y
                        refine t 8 (Vm153) ?_
                        refine gl_nil ?_
                        refine ge_then ?_
                        refine gc_fr [(2, .slice none 0 0), (3, .int .i64 0), (4, pg g14), (5, .bool (uA i.m)), (6, .bool (uB i.m)), (7, .bool (uN i.m)), (8, Vm153)] (by kernel_rfl) ?_
                        refine gc_seq ?_
                        refine gc_seq ?_
                        refine gc_reg ?_
                        refine tq 116 (.bool (uA i.m)) (.bool false) (congrArg Value.bool (Bool.eq_false_iff.2 c21)) ?_
                        refine gl_nil ?_
                        refine ge_then ?_
                        refine gc_no ?_
                        refine gc_skip ?_
                        refine ge_then ?_
                        refine gc_seq ?_
                        refine gc_seq ?_
                        refine gc_reg ?_
                        refine tq 121 (.bool (uB i.m)) (.bool false) (congrArg Value.bool (Bool.eq_false_iff.2 c93)) ?_
                        refine gl_nil ?_
                        refine ge_then ?_
                        refine gc_no ?_
                        refine gc_skip ?_
                        refine ge_then ?_
                        refine gc_seq ?_
                        refine gc_seq ?_
                        refine gc_reg ?_
                        refine tq 126 (.bool (uN i.m)) (.bool false) (congrArg Value.bool (Bool.eq_false_iff.2 c127)) ?_
                        refine gl_nil ?_
                        refine ge_then ?_
                        refine gc_no ?_
                        refine gc_skip ?_
                        refine ge_then ?_
                        clear Xg14
                        refine gc_seq ?_
                        refine gc_reg ?_
                        refine t 131 (Vm153) ?_
                        refine t 2 (Vm153) ?_
                        refine t 3 (.int .i64 0) ?_
                        refine gl_nil ?_
                        refine ge_then ?_
                        refine gc_ret ?_
                        refine ge_ret (.tuple #[Vm153, .int .i64 0]) (rs2 2 3 (by kernel_rfl) (by kernel_rfl) (by kernel_rfl)) ?_
                        have e : bs i = ([84] ++ be 8 i.s ++ be 8 i.q ++ be 8 i.f ++ be 1 i.m) := by
                          unfold bs bsM opt
                          rw [if_pos c17, if_neg c21, if_neg c93, if_neg c127, e84]
                          simp only [List.append_assoc, List.append_nil, List.nil_append]
                        rw [← e] at m153
                        exact .inl ⟨.inl ⟨c17, c18, okM_mk ⟨by omega, by omega⟩ (.inr c92) (.inr c126) (.inr c142)⟩, _, rfl, m153, BB⟩
                      · refine tq 94 (.bool ((i.n : Int) != 0)) (.bool true) (congrArg Value.bool (bne_iff_ne.2 c142)) ?_
                        refine t 95 (.bool true) ?_
                        refine t 96 (.bool true) ?_
                        refine gl_nil ?_
                        refine ge_then ?_
                        refine gc_fr [(1, pg g2), (2, .slice none 0 0), (3, .int .i64 0), (4, pg g14), (5, .bool (uA i.m)), (6, .bool (uB i.m)), (7, .bool (uN i.m)), (96, .bool true)] (by kernel_rfl) ?_
                        refine gc_yes ?_
                        refine gc_seq ?_
                        refine gc_reg ?_
                        refine t 2 (.slice none 0 0) ?_
                        refine t 3 (.int .i64 170) ?_
                        refine gl_nil ?_
                        refine ge_then ?_
                        refine gc_ret ?_
                        refine ge_tr ?_
                        refine ge_ret (.tuple #[.slice none 0 0, .int .i64 170]) (rs2 2 3 (by kernel_rfl) (by kernel_rfl) (by kernel_rfl)) ?_
                        exact .inr ⟨nok1 c17 (fun h => (okM_is h).2.2.2.elim c127 c142), rfl, BB⟩
                  · refine tq 85 (.bool ((i.b : Int) != 0)) (.bool true) (congrArg Value.bool (bne_iff_ne.2 c126)) ?_
                    refine t 86 (.bool true) ?_
                    refine t 87 (.bool true) ?_
                    refine t 88 (.bool true) ?_
                    refine tn 89 ?_
                    refine tn 90 ?_
                    refine tn 91 ?_
                    refine tn 92 ?_
                    refine tn 93 ?_
                    refine tn 94 ?_
                    refine tn 95 ?_
                    refine t 96 (.bool true) ?_
                    refine gl_nil ?_
                    refine ge_then ?_
                    refine gc_fr [(1, pg g2), (2, .slice none 0 0), (3, .int .i64 0), (4, pg g14), (5, .bool (uA i.m)), (6, .bool (uB i.m)), (7, .bool (uN i.m)), (96, .bool true)] (by kernel_rfl) ?_
                    refine gc_yes ?_
                    refine gc_seq ?_
                    refine gc_reg ?_
                    refine t 2 (.slice none 0 0) ?_
                    refine t 3 (.int .i64 170) ?_
                    refine gl_nil ?_
                    refine ge_then ?_
                    refine gc_ret ?_
                    refine ge_tr ?_
                    refine ge_ret (.tuple #[.slice none 0 0, .int .i64 170]) (rs2 2 3 (by kernel_rfl) (by kernel_rfl) (by kernel_rfl)) ?_
                    exact .inr ⟨nok1 c17 (fun h => (okM_is h).2.2.1.elim c93 c126), rfl, BB⟩
              · refine tq 76 (.bool ((i.a : Int) != 0)) (.bool true) (congrArg Value.bool (bne_iff_ne.2 c92)) ?_
                refine t 77 (.bool true) ?_
                refine t 78 (.bool true) ?_
                refine t 79 (.bool true) ?_
                refine tn 80 ?_
                refine tn 81 ?_
                refine tn 82 ?_
                refine tn 83 ?_
                refine tn 84 ?_
                refine tn 85 ?_
                refine tn 86 ?_
                refine t 87 (.bool true) ?_
                refine t 88 (.bool true) ?_
                refine tn 89 ?_
                refine tn 90 ?_
                refine tn 91 ?_
                refine tn 92 ?_
                refine tn 93 ?_
                refine tn 94 ?_
                refine tn 95 ?_
                refine t 96 (.bool true) ?_
                refine gl_nil ?_
                refine ge_then ?_
                refine gc_fr [(1, pg g2), (2, .slice none 0 0), (3, .int .i64 0), (4, pg g14), (5, .bool (uA i.m)), (6, .bool (uB i.m)), (7, .bool (uN i.m)), (96, .bool true)] (by kernel_rfl) ?_
                refine gc_yes ?_
                refine gc_seq ?_
                refine gc_reg ?_
                refine t 2 (.slice none 0 0) ?_
                refine t 3 (.int .i64 170) ?_
                refine gl_nil ?_
                refine ge_then ?_
                refine gc_ret ?_
                refine ge_tr ?_
                refine ge_ret (.tuple #[.slice none 0 0, .int .i64 170]) (rs2 2 3 (by kernel_rfl) (by kernel_rfl) (by kernel_rfl)) ?_
                exact .inr ⟨nok1 c17 (fun h => (okM_is h).2.1.elim c21 c92), rfl, BB⟩
      · refine tr 58 (.bool true) (congr_v (congrArg Value.bool (decide_eq_true c18)) (neF i.z i.v i.h 0 0 0)) ?_
        refine t 59 (.bool true) ?_
        refine t 60 (.bool true) ?_
        refine tn 61 ?_
        refine tn 62 ?_
        refine tn 63 ?_
        refine t 64 (.bool true) ?_
        refine t 65 (.bool true) ?_
        refine tn 66 ?_
        refine tn 67 ?_
        refine tn 68 ?_
        refine t 69 (.bool true) ?_
        refine t 70 (.bool true) ?_
        refine tn 71 ?_
        refine tn 72 ?_
        refine tn 73 ?_
        refine tn 74 ?_
        refine tn 75 ?_
        refine tn 76 ?_
        refine tn 77 ?_
        refine t 78 (.bool true) ?_
        refine t 79 (.bool true) ?_
        refine tn 80 ?_
        refine tn 81 ?_
        refine tn 82 ?_
        refine tn 83 ?_
        refine tn 84 ?_
        refine tn 85 ?_
        refine tn 86 ?_
        refine t 87 (.bool true) ?_
        refine t 88 (.bool true) ?_
        refine tn 89 ?_
        refine tn 90 ?_
        refine tn 91 ?_
        refine tn 92 ?_
        refine tn 93 ?_
        refine tn 94 ?_
        refine tn 95 ?_
        refine t 96 (.bool true) ?_
        refine gl_nil ?_
        refine ge_then ?_
        refine gc_fr [(1, pg g2), (2, .slice none 0 0), (3, .int .i64 0), (4, pg g14), (5, .bool (uA i.m)), (6, .bool (uB i.m)), (7, .bool (uN i.m)), (96, .bool true)] (by kernel_rfl) ?_
        refine gc_yes ?_
        refine gc_seq ?_
        refine gc_reg ?_
        refine t 2 (.slice none 0 0) ?_
        refine t 3 (.int .i64 170) ?_
        refine gl_nil ?_
        refine ge_then ?_
        refine gc_ret ?_
        refine ge_tr ?_
        refine ge_ret (.tuple #[.slice none 0 0, .int .i64 170]) (rs2 2 3 (by kernel_rfl) (by kernel_rfl) (by kernel_rfl)) ?_
        exact .inr ⟨no_of (ok2 c17 c18), rfl, BB⟩
    · refine tq 53 (.bool ((i.k : Int) != 1)) (.bool true) (congrArg Value.bool (bne_iff_ne.2 c17)) ?_
      refine t 54 (.bool true) ?_
      refine tn 55 ?_
      refine tn 56 ?_
      refine tn 57 ?_
      refine tn 58 ?_
      refine t 59 (.bool true) ?_
      refine t 60 (.bool true) ?_
      refine tn 61 ?_
      refine tn 62 ?_
      refine tn 63 ?_
      refine t 64 (.bool true) ?_
      refine t 65 (.bool true) ?_
      refine tn 66 ?_
      refine tn 67 ?_
      refine tn 68 ?_
      refine t 69 (.bool true) ?_
      refine t 70 (.bool true) ?_
      refine tn 71 ?_
      refine tn 72 ?_
      refine tn 73 ?_
      refine tn 74 ?_
      refine tn 75 ?_
      refine tn 76 ?_
      refine tn 77 ?_
      refine t 78 (.bool true) ?_
      refine t 79 (.bool true) ?_
      refine tn 80 ?_
      refine tn 81 ?_
      refine tn 82 ?_
      refine tn 83 ?_
      refine tn 84 ?_
      refine tn 85 ?_
      refine tn 86 ?_
      refine t 87 (.bool true) ?_
      refine t 88 (.bool true) ?_
      refine tn 89 ?_
      refine tn 90 ?_
      refine tn 91 ?_
      refine tn 92 ?_
      refine tn 93 ?_
      refine tn 94 ?_
      refine tn 95 ?_
      refine t 96 (.bool true) ?_
      refine gl_nil ?_
      refine ge_then ?_
      refine gc_fr [(1, pg g2), (2, .slice none 0 0), (3, .int .i64 0), (4, pg g14), (5, .bool (uA i.m)), (6, .bool (uB i.m)), (7, .bool (uN i.m)), (96, .bool true)] (by kernel_rfl) ?_
      refine gc_yes ?_
      refine gc_seq ?_
      refine gc_reg ?_
      refine t 2 (.slice none 0 0) ?_
      refine t 3 (.int .i64 170) ?_
      refine gl_nil ?_
      refine ge_then ?_
      refine gc_ret ?_
      refine ge_tr ?_
      refine ge_ret (.tuple #[.slice none 0 0, .int .i64 170]) (rs2 2 3 (by kernel_rfl) (by kernel_rfl) (by kernel_rfl)) ?_
      exact .inr ⟨no_of (ok5 c17 c3), rfl, BB⟩
theorem renc_ok {w : World} {i : It} (h : Ok i) : Calls Try.prog 8 #[.agg #[.int .i64 i.k, .int .u64 i.s, .int .u64 i.q, .int .u64 i.f, .int .i64 i.m, .int .u64 i.a, .int .u64 i.b, .int .u64 i.n, .int .i64 i.z, .int .u64 i.v, .int .u64 i.h]] w fun e w' => ∃ b ao c, e = .returned (.tuple #[.slice ao (bs i).length c, .int .i64 0]) ∧ ByA w' b ao (bs i).length c (bs i) ∧ Below w.heap.size w w' := by
  refine (renc_any i).mono ?_
  rintro e w' (⟨-, v, rfl, M, B⟩ | ⟨h', -⟩)
  · obtain ⟨b, ao, c, rfl, -, A⟩ := M.bya (bs_oct i)
    exact ⟨b, ao, c, rfl, A, B⟩
  · exact absurd h h'
theorem renc_no {w : World} {i : It} (h : ¬ Ok i) : Calls Try.prog 8 #[.agg #[.int .i64 i.k, .int .u64 i.s, .int .u64 i.q, .int .u64 i.f, .int .i64 i.m, .int .u64 i.a, .int .u64 i.b, .int .u64 i.n, .int .i64 i.z, .int .u64 i.v, .int .u64 i.h]] w fun e w' => e = .returned (.tuple #[.slice none 0 0, .int .i64 170]) ∧ Below w.heap.size w w' := by
  refine (renc_any i).mono ?_
  rintro e w' (⟨h', -⟩ | ⟨-, he, B⟩)
  · exact absurd h' h
  · exact ⟨he, B⟩
theorem rdec_any {w : World} {b n c : Nat} {ao : Option Addr} {l : List Int} (A : ByA w b ao n c l) (hn : n ≤ 1000000000) : Calls Try.prog 14 #[.slice ao n c] w fun e w' => e = .returned (.tuple #[(dI l).1.val, .int .i64 (dI l).2]) ∧ Below w.heap.size w w' := by
  obtain ⟨o, hl, hnc, hc2, ho, hat⟩ := A.ex
  have BB := Below.refl w.heap.size w
  refine gc_enter (n := 101) Try.func14 rfl (by kernel_rfl) (by kernel_rfl) ?_
  refine gc_seq ?_
  refine gc_reg ?_
  refine ta 2 [.int .i64 0, .int .u64 0, .int .u64 0, .int .u64 0, .int .i64 0, .int .u64 0, .int .u64 0, .int .u64 0, .int .i64 0, .int .u64 0, .int .u64 0] 30 (pg) ?_
  intro v1 g2 Xg2 hg2 B
  have zg2 := Nat.le_trans BB.size hg2
  replace BB := joinB BB B
  clear B
  refine t 3 (.int .i64 0) ?_
  refine gl_nil ?_
  refine ge_then ?_
  refine gc_seq ?_
  refine gc_seq ?_
  refine gc_reg ?_
  refine t 9 (.slice ao n c) ?_
  refine t 10 (.int .i64 ((n : Nat) : Int)) ?_
  by_cases c3 : (1024 : Int) < ((n : Nat) : Int)
  · refine tq 11 (.bool (decide ((1024 : Int) < ((n : Nat) : Int)))) (.bool true) (congrArg Value.bool (decide_eq_true c3)) ?_
    refine gl_nil ?_
    refine ge_then ?_
    refine gc_yes ?_
    refine gc_seq ?_
    refine gc_reg ?_
    refine t 12 (.agg #[.int .i64 0, .int .u64 0, .int .u64 0, .int .u64 0, .int .i64 0, .int .u64 0, .int .u64 0, .int .u64 0, .int .i64 0, .int .u64 0, .int .u64 0]) ?_
    refine ts Xg2 0 (.agg #[.int .i64 0, .int .u64 0, .int .u64 0, .int .u64 0, .int .i64 0, .int .u64 0, .int .u64 0, .int .u64 0, .int .i64 0, .int .u64 0, .int .u64 0]) [.int .i64 0, .int .u64 0, .int .u64 0, .int .u64 0, .int .i64 0, .int .u64 0, .int .u64 0, .int .u64 0, .int .i64 0, .int .u64 0, .int .u64 0] [.int .i64 0, .int .u64 0, .int .u64 0, .int .u64 0, .int .i64 0, .int .u64 0, .int .u64 0, .int .u64 0, .int .i64 0, .int .u64 0, .int .u64 0] ?_
    intro v4 Y C
    replace BB := belowC BB C (by omega)
    clear C Xg2
    have Xg2 := Y
    clear Y
    refine t 3 (.int .i64 171) ?_
    refine gl_nil ?_
    refine ge_then ?_
    refine gc_ret ?_
    refine ge_tr ?_
    refine ge_ret (.tuple #[.agg #[.int .i64 0, .int .u64 0, .int .u64 0, .int .u64 0, .int .i64 0, .int .u64 0, .int .u64 0, .int .u64 0, .int .i64 0, .int .u64 0, .int .u64 0], .int .i64 171]) (rsct 2 3 (T := 30) (by kernel_rfl) (by kernel_rfl) (by kernel_rfl) (lr Xg2 0)) ?_
    have E := dI_1 (l := l) (by omega)
    exact ⟨by rw [← E]; rfl, BB⟩
  · refine tq 11 (.bool (decide ((1024 : Int) < ((n : Nat) : Int)))) (.bool false) (congrArg Value.bool (decide_eq_false c3)) ?_
    refine gl_nil ?_
    refine ge_then ?_
    refine gc_no ?_
    refine gc_skip ?_
    refine ge_then ?_
    refine gc_seq ?_
    refine gc_reg ?_
    refine t 13 (.slice ao n c) ?_
    refine t 14 (.agg #[.slice ao n c, .int .i64 0]) ?_
    have lXg2 := Xg2.lt
    refine ta 15 [.slice ao n c, .int .i64 0] 69 (pg) ?_
    intro v5 g6 Xg6 hg6 B
    have zg6 := Nat.le_trans BB.size hg6
    replace BB := joinB BB B
    replace Xg2 := Xg2.keep B
    clear B
    have RD := rf_box Xg6 (A.keep BB)
    clear Xg6
    have lRD := RD.lt
    refine t 4 (pg g6) ?_
    refine gl_nil ?_
    refine ge_then ?_
    refine gc_seq ?_
    refine gc_reg ?_
    have lXg2 := Xg2.lt
    have lRD := RD.lt
    refine ta 5 [.int .i64 0, .int .u64 0, .int .u64 0, .int .u64 0, .int .i64 0, .int .u64 0, .int .u64 0, .int .u64 0, .int .i64 0, .int .u64 0, .int .u64 0] 30 (pg) ?_
    intro v7 g8 Xg8 hg8 B
    have zg8 := Nat.le_trans BB.size hg8
    replace BB := joinB BB B
    replace Xg2 := Xg2.keep B
    replace RD := RD.keep B
    clear B
    refine gl_nil ?_
    refine ge_then ?_
    refine gc_seq ?_
    refine gc_seq ?_
    refine gc_reg ?_
    refine t 16 (pg g6) ?_
    refine tc 17 24 #[pg g6, .int .i64 1] (yU1 (s := ((0 : Int), l)) RD) ?_
    rintro _ v11 ⟨x9, s10, Ex9, Hx9, rfl, RX, U⟩
    refine ⟨_, rfl, ?_⟩
    replace BB := But.below U BB (by omega) (Nat.le_refl _)
    replace Xg2 := But.blk U Xg2 (show g2 ≠ g6 by omega)
    replace Xg8 := But.blk U Xg8 (show g8 ≠ g6 by omega)
    clear U
    clear RD
    have RD := RX
    clear RX
    refine gl_nil ?_
    refine ge_then ?_
    refine gc_block ?_
    refine gc_seq ?_
    refine gc_reg ?_
    by_cases c12 : (x9 : Int) = 70
    · refine tq 20 (.bool ((x9 : Int) == 70)) (.bool true) (congrArg Value.bool (beq_iff_eq.2 c12)) ?_
      refine t 19 (.bool true) ?_
      refine gl_nil ?_
      refine ge_then ?_
      refine gc_yes ?_
      refine gc_seq ?_
      refine gc_reg ?_
      refine t 21 (pg g8) ?_
      refine ts Xg8 0 (.int .i64 2) [.int .i64 2] [.int .i64 2, .int .u64 0, .int .u64 0, .int .u64 0, .int .i64 0, .int .u64 0, .int .u64 0, .int .u64 0, .int .i64 0, .int .u64 0, .int .u64 0] ?_
      intro v13 Y C
      replace BB := belowC BB C (by omega)
      replace Xg2 := Xg2.chg C (show g2 ≠ g8 by omega)
      replace RD := RfA.offB RD Xg8 rfl (by omega) (chg_but C)
      clear C Xg8
      have Xg8 := Y
      clear Y
      refine gl_nil ?_
      refine ge_then ?_
      refine gc_fr [(2, pg g2), (3, .int .i64 0), (4, pg g6), (5, pg g8)] (by kernel_rfl) ?_
      refine gc_seq ?_
      refine gc_reg ?_
      refine t 22 (pg g6) ?_
      refine tc 23 24 #[pg g6, .int .i64 1] (yU1 (s := s10) RD) ?_
      rintro _ v16 ⟨x14, s15, Ex14, Hx14, rfl, RX, U⟩
      refine ⟨_, rfl, ?_⟩
      replace BB := But.below U BB (by omega) (Nat.le_refl _)
      replace Xg2 := But.blk U Xg2 (show g2 ≠ g6 by omega)
      replace Xg8 := But.blk U Xg8 (show g8 ≠ g6 by omega)
      clear U
      clear RD
      have RD := RX
      clear RX
      refine tr 24 (.int .i64 x14) (cv_Ui x14 Hx14) ?_
      refine t 25 (pq g8 8) ?_
      refine t 26 (pq g8 8) ?_
      refine ts Xg8 8 (.int .i64 x14) [.int .i64 x14] [.int .i64 2, .int .u64 0, .int .u64 0, .int .u64 0, .int .i64 0, .int .u64 0, .int .u64 0, .int .u64 0, .int .i64 x14, .int .u64 0, .int .u64 0] ?_
      intro v17 Y C
      replace BB := belowC BB C (by omega)
      replace Xg2 := Xg2.chg C (show g2 ≠ g8 by omega)
      replace RD := RfA.offB RD Xg8 rfl (by omega) (chg_but C)
      clear C Xg8
      have Xg8 := Y
      clear Y
      refine gl_nil ?_
      refine ge_then ?_
      refine gc_seq ?_
      refine gc_reg ?_
      refine t 27 (pg g6) ?_
      refine tc 28 24 #[pg g6, .int .i64 8] (yU8 (s := s15) RD) ?_
      rintro _ v20 ⟨x18, s19, Ex18, rfl, RX, U⟩
      refine ⟨_, rfl, ?_⟩
      replace BB := But.below U BB (by omega) (Nat.le_refl _)
      replace Xg2 := But.blk U Xg2 (show g2 ≠ g6 by omega)
      replace Xg8 := But.blk U Xg8 (show g8 ≠ g6 by omega)
      clear U
      clear RD
      have RD := RX
      clear RX
      refine t 29 (pq g8 8) ?_
      refine t 30 (pq g8 9) ?_
      refine ts Xg8 9 (.int .u64 x18) [.int .u64 x18] [.int .i64 2, .int .u64 0, .int .u64 0, .int .u64 0, .int .i64 0, .int .u64 0, .int .u64 0, .int .u64 0, .int .i64 x14, .int .u64 x18, .int .u64 0] ?_
      intro v21 Y C
      replace BB := belowC BB C (by omega)
      replace Xg2 := Xg2.chg C (show g2 ≠ g8 by omega)
      replace RD := RfA.offB RD Xg8 rfl (by omega) (chg_but C)
      clear C Xg8
      have Xg8 := Y
      clear Y
      refine gl_nil ?_
      refine ge_then ?_
      refine gc_reg ?_
      refine t 31 (pg g6) ?_
      refine tc 32 24 #[pg g6, .int .i64 8] (yU8 (s := s19) RD) ?_
      rintro _ v24 ⟨x22, s23, Ex22, rfl, RX, U⟩
      refine ⟨_, rfl, ?_⟩
      replace BB := But.below U BB (by omega) (Nat.le_refl _)
      replace Xg2 := But.blk U Xg2 (show g2 ≠ g6 by omega)
      replace Xg8 := But.blk U Xg8 (show g8 ≠ g6 by omega)
      clear U
      clear RD
      have RD := RX
      clear RX
      refine t 33 (pq g8 8) ?_
      refine t 34 (pq g8 10) ?_
      refine ts Xg8 10 (.int .u64 x22) [.int .u64 x22] [.int .i64 2, .int .u64 0, .int .u64 0, .int .u64 0, .int .i64 0, .int .u64 0, .int .u64 0, .int .u64 0, .int .i64 x14, .int .u64 x18, .int .u64 x22] ?_
      intro v25 Y C
      replace BB := belowC BB C (by omega)
      replace Xg2 := Xg2.chg C (show g2 ≠ g8 by omega)
      replace RD := RfA.offB RD Xg8 rfl (by omega) (chg_but C)
      clear C Xg8
      have Xg8 := Y
      clear Y
      refine gl_nil ?_
      refine ge_bn ?_
      refine ge_then ?_
      refine gc_seq ?_
      refine gc_seq ?_
      refine gc_reg ?_
      refine t 96 (pg g6) ?_
      refine tc 97 25 #[pg g6] (rfEnd RD) ?_
      rintro _ v26 ⟨rfl, RX, U⟩
      refine ⟨_, rfl, ?_⟩
      replace BB := But.below U BB (by omega) (Nat.le_refl _)
      replace Xg2 := But.blk U Xg2 (show g2 ≠ g6 by omega)
      replace Xg8 := But.blk U Xg8 (show g8 ≠ g6 by omega)
      clear U
      clear RD RX
      by_cases c27 : (endE s23.1 s23.2 : Int) = 0
      · refine tq 98 (.bool ((endE s23.1 s23.2 : Int) != 0)) (.bool false) (congrArg Value.bool (bne_eq_false_iff_eq.2 c27)) ?_
        refine gl_nil ?_
        refine ge_then ?_
        refine gc_fr [(2, pg g2), (3, .int .i64 0), (5, pg g8), (98, .bool false)] (by kernel_rfl) ?_
        refine gc_no ?_
        refine gc_skip ?_
        refine ge_then ?_
        refine gc_seq ?_
        refine gc_reg ?_
        refine tlr 100 [.int .i64 2, .int .u64 0, .int .u64 0, .int .u64 0, .int .i64 0, .int .u64 0, .int .u64 0, .int .u64 0, .int .i64 x14, .int .u64 x18, .int .u64 x22] Xg8 0 ?_
        refine ts Xg2 0 (.agg #[.int .i64 2, .int .u64 0, .int .u64 0, .int .u64 0, .int .i64 0, .int .u64 0, .int .u64 0, .int .u64 0, .int .i64 x14, .int .u64 x18, .int .u64 x22]) [.int .i64 2, .int .u64 0, .int .u64 0, .int .u64 0, .int .i64 0, .int .u64 0, .int .u64 0, .int .u64 0, .int .i64 x14, .int .u64 x18, .int .u64 x22] [.int .i64 2, .int .u64 0, .int .u64 0, .int .u64 0, .int .i64 0, .int .u64 0, .int .u64 0, .int .u64 0, .int .i64 x14, .int .u64 x18, .int .u64 x22] ?_
        intro v28 Y C
        replace BB := belowC BB C (by omega)
        replace Xg8 := Xg8.chg C (show g8 ≠ g2 by omega)
        clear C Xg2
        have Xg2 := Y
        clear Y
        refine t 3 (.int .i64 0) ?_
        refine gl_nil ?_
        refine ge_then ?_
        clear Xg8
        refine gc_ret ?_
        refine ge_ret (.tuple #[.agg #[.int .i64 2, .int .u64 0, .int .u64 0, .int .u64 0, .int .i64 0, .int .u64 0, .int .u64 0, .int .u64 0, .int .i64 x14, .int .u64 x18, .int .u64 x22], .int .i64 0]) (rsct 2 3 (T := 30) (by kernel_rfl) (by kernel_rfl) (by kernel_rfl) (lr Xg2 0)) ?_
        have E := dI_3 (l := l) (by omega) (rI_f Ex9 c12 (rF_mk Ex14 Ex18 Ex22)) ⟨c27, .inr ⟨rfl, ⟨rfl, rfl, rfl, rfl, rfl, rfl, rfl⟩, Hx14.1, Int.le_of_lt_add_one Hx14.2⟩⟩
        exact ⟨by rw [← E]; rfl, BB⟩
      · refine tq 98 (.bool ((endE s23.1 s23.2 : Int) != 0)) (.bool true) (congrArg Value.bool (bne_iff_ne.2 c27)) ?_
        refine gl_nil ?_
        refine ge_then ?_
        refine gc_fr [(2, pg g2), (3, .int .i64 0), (5, pg g8), (98, .bool true)] (by kernel_rfl) ?_
        refine gc_yes ?_
        refine gc_seq ?_
        refine gc_reg ?_
        refine t 99 (.agg #[.int .i64 0, .int .u64 0, .int .u64 0, .int .u64 0, .int .i64 0, .int .u64 0, .int .u64 0, .int .u64 0, .int .i64 0, .int .u64 0, .int .u64 0]) ?_
        refine ts Xg2 0 (.agg #[.int .i64 0, .int .u64 0, .int .u64 0, .int .u64 0, .int .i64 0, .int .u64 0, .int .u64 0, .int .u64 0, .int .i64 0, .int .u64 0, .int .u64 0]) [.int .i64 0, .int .u64 0, .int .u64 0, .int .u64 0, .int .i64 0, .int .u64 0, .int .u64 0, .int .u64 0, .int .i64 0, .int .u64 0, .int .u64 0] [.int .i64 0, .int .u64 0, .int .u64 0, .int .u64 0, .int .i64 0, .int .u64 0, .int .u64 0, .int .u64 0, .int .i64 0, .int .u64 0, .int .u64 0] ?_
        intro v29 Y C
        replace BB := belowC BB C (by omega)
        replace Xg8 := Xg8.chg C (show g8 ≠ g2 by omega)
        clear C Xg2
        have Xg2 := Y
        clear Y
        refine t 3 (.int .i64 170) ?_
        refine gl_nil ?_
        refine ge_then ?_
        refine gc_ret ?_
        refine ge_tr ?_
        refine ge_ret (.tuple #[.agg #[.int .i64 0, .int .u64 0, .int .u64 0, .int .u64 0, .int .i64 0, .int .u64 0, .int .u64 0, .int .u64 0, .int .i64 0, .int .u64 0, .int .u64 0], .int .i64 170]) (rsct 2 3 (T := 30) (by kernel_rfl) (by kernel_rfl) (by kernel_rfl) (lr Xg2 0)) ?_
        have E := dI_2 (l := l) (by omega) (rI_f Ex9 c12 (rF_mk Ex14 Ex18 Ex22)) (fun q => c27 q.1)
        exact ⟨by rw [← E]; rfl, BB⟩
    · refine tq 20 (.bool ((x9 : Int) == 70)) (.bool false) (congrArg Value.bool (beq_eq_false_iff_ne.2 c12)) ?_
      refine t 19 (.bool false) ?_
      refine gl_nil ?_
      refine ge_then ?_
      refine gc_no ?_
      refine gc_seq ?_
      refine gc_reg ?_
      by_cases c30 : (x9 : Int) = 84
      · refine tq 36 (.bool ((x9 : Int) == 84)) (.bool true) (congrArg Value.bool (beq_iff_eq.2 c30)) ?_
        refine t 35 (.bool true) ?_
        refine gl_nil ?_
        refine ge_then ?_
        refine gc_fr [(2, pg g2), (3, .int .i64 0), (4, pg g6), (5, pg g8), (35, .bool true)] (by kernel_rfl) ?_
        refine gc_yes ?_
        refine gc_seq ?_
        refine gc_reg ?_
        refine t 37 (pg g8) ?_
        refine ts Xg8 0 (.int .i64 1) [.int .i64 1] [.int .i64 1, .int .u64 0, .int .u64 0, .int .u64 0, .int .i64 0, .int .u64 0, .int .u64 0, .int .u64 0, .int .i64 0, .int .u64 0, .int .u64 0] ?_
        intro v31 Y C
        replace BB := belowC BB C (by omega)
        replace Xg2 := Xg2.chg C (show g2 ≠ g8 by omega)
        replace RD := RfA.offB RD Xg8 rfl (by omega) (chg_but C)
        clear C Xg8
        have Xg8 := Y
        clear Y
        refine gl_nil ?_
        refine ge_then ?_
        refine gc_seq ?_
        refine gc_reg ?_
        refine t 38 (pg g6) ?_
        refine tc 39 24 #[pg g6, .int .i64 8] (yU8 (s := s10) RD) ?_
        rintro _ v34 ⟨x32, s33, Ex32, rfl, RX, U⟩
        refine ⟨_, rfl, ?_⟩
        replace BB := But.below U BB (by omega) (Nat.le_refl _)
        replace Xg2 := But.blk U Xg2 (show g2 ≠ g6 by omega)
        replace Xg8 := But.blk U Xg8 (show g8 ≠ g6 by omega)
        clear U
        clear RD
        have RD := RX
        clear RX
        refine t 40 (pq g8 1) ?_
        refine t 41 (pq g8 1) ?_
        refine ts Xg8 1 (.int .u64 x32) [.int .u64 x32] [.int .i64 1, .int .u64 x32, .int .u64 0, .int .u64 0, .int .i64 0, .int .u64 0, .int .u64 0, .int .u64 0, .int .i64 0, .int .u64 0, .int .u64 0] ?_
        intro v35 Y C
        replace BB := belowC BB C (by omega)
        replace Xg2 := Xg2.chg C (show g2 ≠ g8 by omega)
        replace RD := RfA.offB RD Xg8 rfl (by omega) (chg_but C)
        clear C Xg8
        have Xg8 := Y
        clear Y
        refine gl_nil ?_
        refine ge_then ?_
        refine gc_seq ?_
        refine gc_reg ?_
        refine t 42 (pg g6) ?_
        refine tc 43 24 #[pg g6, .int .i64 8] (yU8 (s := s33) RD) ?_
        rintro _ v38 ⟨x36, s37, Ex36, rfl, RX, U⟩
        refine ⟨_, rfl, ?_⟩
        replace BB := But.below U BB (by omega) (Nat.le_refl _)
        replace Xg2 := But.blk U Xg2 (show g2 ≠ g6 by omega)
        replace Xg8 := But.blk U Xg8 (show g8 ≠ g6 by omega)
        clear U
        clear RD
        have RD := RX
        clear RX
        refine t 44 (pq g8 1) ?_
        refine t 45 (pq g8 2) ?_
        refine ts Xg8 2 (.int .u64 x36) [.int .u64 x36] [.int .i64 1, .int .u64 x32, .int .u64 x36, .int .u64 0, .int .i64 0, .int .u64 0, .int .u64 0, .int .u64 0, .int .i64 0, .int .u64 0, .int .u64 0] ?_
        intro v39 Y C
        replace BB := belowC BB C (by omega)
        replace Xg2 := Xg2.chg C (show g2 ≠ g8 by omega)
        replace RD := RfA.offB RD Xg8 rfl (by omega) (chg_but C)
        clear C Xg8
        have Xg8 := Y
        clear Y
        refine gl_nil ?_
        refine ge_then ?_
        refine gc_seq ?_
        refine gc_reg ?_
        refine t 46 (pg g6) ?_
        refine tc 47 24 #[pg g6, .int .i64 8] (yU8 (s := s37) RD) ?_
        rintro _ v42 ⟨x40, s41, Ex40, rfl, RX, U⟩
        refine ⟨_, rfl, ?_⟩
        replace BB := But.below U BB (by omega) (Nat.le_refl _)
        replace Xg2 := But.blk U Xg2 (show g2 ≠ g6 by omega)
        replace Xg8 := But.blk U Xg8 (show g8 ≠ g6 by omega)
        clear U
        clear RD
        have RD := RX
        clear RX
        refine t 48 (pq g8 1) ?_
        refine t 49 (pq g8 3) ?_
        refine ts Xg8 3 (.int .u64 x40) [.int .u64 x40] [.int .i64 1, .int .u64 x32, .int .u64 x36, .int .u64 x40, .int .i64 0, .int .u64 0, .int .u64 0, .int .u64 0, .int .i64 0, .int .u64 0, .int .u64 0] ?_
        intro v43 Y C
        replace BB := belowC BB C (by omega)
        replace Xg2 := Xg2.chg C (show g2 ≠ g8 by omega)
        replace RD := RfA.offB RD Xg8 rfl (by omega) (chg_but C)
        clear C Xg8
        have Xg8 := Y
        clear Y
        refine gl_nil ?_
        refine ge_then ?_
        refine gc_seq ?_
        refine gc_reg ?_
        refine t 50 (pg g6) ?_
        refine tc 51 24 #[pg g6, .int .i64 1] (yU1 (s := s41) RD) ?_
        rintro _ v46 ⟨x44, s45, Ex44, Hx44, rfl, RX, U⟩
        refine ⟨_, rfl, ?_⟩
        replace BB := But.below U BB (by omega) (Nat.le_refl _)
        replace Xg2 := But.blk U Xg2 (show g2 ≠ g6 by omega)
        replace Xg8 := But.blk U Xg8 (show g8 ≠ g6 by omega)
        clear U
        clear RD
        have RD := RX
        clear RX
        refine tr 52 (.int .i64 x44) (cv_Ui x44 Hx44) ?_
        refine t 53 (pq g8 1) ?_
        refine t 54 (pq g8 4) ?_
        refine t 55 (pq g8 4) ?_
        refine ts Xg8 4 (.int .i64 x44) [.int .i64 x44] [.int .i64 1, .int .u64 x32, .int .u64 x36, .int .u64 x40, .int .i64 x44, .int .u64 0, .int .u64 0, .int .u64 0, .int .i64 0, .int .u64 0, .int .u64 0] ?_
        intro v47 Y C
        replace BB := belowC BB C (by omega)
        replace Xg2 := Xg2.chg C (show g2 ≠ g8 by omega)
        replace RD := RfA.offB RD Xg8 rfl (by omega) (chg_but C)
        clear C Xg8
        have Xg8 := Y
        clear Y
        refine gl_nil ?_
        refine ge_then ?_
        refine gc_fr [(2, pg g2), (3, .int .i64 0), (4, pg g6), (5, pg g8)] (by kernel_rfl) ?_
        refine gc_seq ?_
        refine gc_reg ?_
        refine t 57 (pq g8 1) ?_
        refine t 58 (pq g8 4) ?_
        refine t 59 (pq g8 4) ?_
        refine tl 60 (.int .i64 x44) Xg8 4 ?_
        refine tc 61 10 #[.int .i64 x44] (rUses_any x44) ?_
        rintro _ v48 ⟨rfl, B⟩
        refine ⟨_, rfl, ?_⟩
        replace BB := joinB BB B
        replace Xg2 := Xg2.keep B
        replace RD := RD.keep B
        replace Xg8 := Xg8.keep B
        clear B
        refine t 56 (.tuple #[.bool (uA x44), .bool (uB x44), .bool (uN x44)]) ?_
        refine t 62 (.bool (uA x44)) ?_
        refine t 63 (.bool (uB x44)) ?_
        refine t 64 (.bool (uN x44)) ?_
        refine t 6 (.bool (uA x44)) ?_
        refine t 7 (.bool (uB x44)) ?_
        refine t 8 (.bool (uN x44)) ?_
        refine gl_nil ?_
        refine ge_then ?_
        refine gc_seq ?_
        refine gc_seq ?_
        refine gc_reg ?_
        by_cases c49 : (uA x44) = true
        · refine tq 65 (.bool (uA x44)) (.bool true) (congrArg Value.bool c49) ?_
          refine gl_nil ?_
          refine ge_then ?_
          refine gc_yes ?_
          refine gc_reg ?_
          refine t 66 (pg g6) ?_
          refine tc 67 24 #[pg g6, .int .i64 8] (yU8 (s := s45) RD) ?_
          rintro _ v52 ⟨x50, s51, Ex50, rfl, RX, U⟩
          refine ⟨_, rfl, ?_⟩
          replace BB := But.below U BB (by omega) (Nat.le_refl _)
          replace Xg2 := But.blk U Xg2 (show g2 ≠ g6 by omega)
          replace Xg8 := But.blk U Xg8 (show g8 ≠ g6 by omega)
          clear U
          clear RD
          have RD := RX
          clear RX
          refine t 68 (pq g8 1) ?_
          refine t 69 (pq g8 4) ?_
          refine t 70 (pq g8 5) ?_
          refine ts Xg8 5 (.int .u64 x50) [.int .u64 x50] [.int .i64 1, .int .u64 x32, .int .u64 x36, .int .u64 x40, .int .i64 x44, .int .u64 x50, .int .u64 0, .int .u64 0, .int .i64 0, .int .u64 0, .int .u64 0] ?_
          intro v53 Y C
          replace BB := belowC BB C (by omega)
          replace Xg2 := Xg2.chg C (show g2 ≠ g8 by omega)
          replace RD := RfA.offB RD Xg8 rfl (by omega) (chg_but C)
          clear C Xg8
          have Xg8 := Y
          clear Y
          refine gl_nil ?_
          refine ge_then ?_
          refine gc_fr [(2, pg g2), (3, .int .i64 0), (4, pg g6), (5, pg g8), (7, .bool (uB x44)), (8, .bool (uN x44))] (by kernel_rfl) ?_
          refine gc_seq ?_
          refine gc_seq ?_
          refine gc_reg ?_
          by_cases c54 : (uB x44) = true
          · refine tq 71 (.bool (uB x44)) (.bool true) (congrArg Value.bool c54) ?_
            refine gl_nil ?_
            refine ge_then ?_
            refine gc_yes ?_
            refine gc_reg ?_
            refine t 72 (pg g6) ?_
            refine tc 73 24 #[pg g6, .int .i64 8] (yU8 (s := s51) RD) ?_
            rintro _ v57 ⟨x55, s56, Ex55, rfl, RX, U⟩
            refine ⟨_, rfl, ?_⟩
            replace BB := But.below U BB (by omega) (Nat.le_refl _)
            replace Xg2 := But.blk U Xg2 (show g2 ≠ g6 by omega)
            replace Xg8 := But.blk U Xg8 (show g8 ≠ g6 by omega)
            clear U
            clear RD
            have RD := RX
            clear RX
            refine t 74 (pq g8 1) ?_
            refine t 75 (pq g8 4) ?_
            refine t 76 (pq g8 6) ?_
            refine ts Xg8 6 (.int .u64 x55) [.int .u64 x55] [.int .i64 1, .int .u64 x32, .int .u64 x36, .int .u64 x40, .int .i64 x44, .int .u64 x50, .int .u64 x55, .int .u64 0, .int .i64 0, .int .u64 0, .int .u64 0] ?_
            intro v58 Y C
            replace BB := belowC BB C (by omega)
            replace Xg2 := Xg2.chg C (show g2 ≠ g8 by omega)
            replace RD := RfA.offB RD Xg8 rfl (by omega) (chg_but C)
            clear C Xg8
            have Xg8 := Y
            clear Y
            refine gl_nil ?_
            refine ge_then ?_
            refine gc_seq ?_
            refine gc_seq ?_
            refine gc_reg ?_
            by_cases c59 : (uN x44) = true
            · refine tq 77 (.bool (uN x44)) (.bool true) (congrArg Value.bool c59) ?_
              refine gl_nil ?_
              refine ge_then ?_
              refine gc_yes ?_
              refine gc_reg ?_
              refine t 78 (pg g6) ?_
              refine tc 79 24 #[pg g6, .int .i64 8] (yU8 (s := s56) RD) ?_
              rintro _ v62 ⟨x60, s61, Ex60, rfl, RX, U⟩
              refine ⟨_, rfl, ?_⟩
              replace BB := But.below U BB (by omega) (Nat.le_refl _)
              replace Xg2 := But.blk U Xg2 (show g2 ≠ g6 by omega)
              replace Xg8 := But.blk U Xg8 (show g8 ≠ g6 by omega)
              clear U
              clear RD
              have RD := RX
              clear RX
              refine t 80 (pq g8 1) ?_
              refine t 81 (pq g8 4) ?_
              refine t 82 (pq g8 7) ?_
              refine ts Xg8 7 (.int .u64 x60) [.int .u64 x60] [.int .i64 1, .int .u64 x32, .int .u64 x36, .int .u64 x40, .int .i64 x44, .int .u64 x50, .int .u64 x55, .int .u64 x60, .int .i64 0, .int .u64 0, .int .u64 0] ?_
              intro v63 Y C
              replace BB := belowC BB C (by omega)
              replace Xg2 := Xg2.chg C (show g2 ≠ g8 by omega)
              replace RD := RfA.offB RD Xg8 rfl (by omega) (chg_but C)
              clear C Xg8
              have Xg8 := Y
              clear Y
              refine gl_nil ?_
              refine ge_then ?_
              refine gc_seq ?_
              refine gc_reg ?_
              refine t 83 (pq g8 1) ?_
              refine t 84 (pq g8 4) ?_
              refine t 85 (pq g8 4) ?_
              refine tl 86 (.int .i64 x44) Xg8 4 ?_
              by_cases c64 : (x44 : Int) < 1
              · refine tq 87 (.bool (decide ((x44 : Int) < 1))) (.bool true) (congrArg Value.bool (decide_eq_true c64)) ?_
                refine t 88 (.bool true) ?_
                refine tn 89 ?_
                refine tn 90 ?_
                refine tn 91 ?_
                refine tn 92 ?_
                refine tn 93 ?_
                refine t 94 (.bool true) ?_
                refine gl_nil ?_
                refine ge_then ?_
                refine gc_fr [(2, pg g2), (3, .int .i64 0), (4, pg g6), (5, pg g8), (94, .bool true)] (by kernel_rfl) ?_
                refine gc_yes ?_
                refine gc_seq ?_
                refine gc_reg ?_
                refine t 95 (.agg #[.int .i64 0, .int .u64 0, .int .u64 0, .int .u64 0, .int .i64 0, .int .u64 0, .int .u64 0, .int .u64 0, .int .i64 0, .int .u64 0, .int .u64 0]) ?_
                refine ts Xg2 0 (.agg #[.int .i64 0, .int .u64 0, .int .u64 0, .int .u64 0, .int .i64 0, .int .u64 0, .int .u64 0, .int .u64 0, .int .i64 0, .int .u64 0, .int .u64 0]) [.int .i64 0, .int .u64 0, .int .u64 0, .int .u64 0, .int .i64 0, .int .u64 0, .int .u64 0, .int .u64 0, .int .i64 0, .int .u64 0, .int .u64 0] [.int .i64 0, .int .u64 0, .int .u64 0, .int .u64 0, .int .i64 0, .int .u64 0, .int .u64 0, .int .u64 0, .int .i64 0, .int .u64 0, .int .u64 0] ?_
                intro v65 Y C
                replace BB := belowC BB C (by omega)
                replace RD := RfA.offB RD Xg2 rfl (by omega) (chg_but C)
                replace Xg8 := Xg8.chg C (show g8 ≠ g2 by omega)
                clear C Xg2
                have Xg2 := Y
                clear Y
                refine t 3 (.int .i64 170) ?_
                refine gl_nil ?_
                refine ge_then ?_
                refine gc_ret ?_
                refine ge_br ?_
                refine ge_tr ?_
                refine ge_ret (.tuple #[.agg #[.int .i64 0, .int .u64 0, .int .u64 0, .int .u64 0, .int .i64 0, .int .u64 0, .int .u64 0, .int .u64 0, .int .i64 0, .int .u64 0, .int .u64 0], .int .i64 170]) (rsct 2 3 (T := 30) (by kernel_rfl) (by kernel_rfl) (by kernel_rfl) (lr Xg2 0)) ?_
                have E := dI_2 (l := l) (by omega) (rI_t Ex9 c30 (rT_mk Ex32 Ex36 Ex40 (rM_mk Ex44 (rq_t c49 Ex50) (rq_t c54 Ex55) (rq_t c59 Ex60)))) (fun q => nokK (.inl c64) (Ok.msg q.2 rfl))
                exact ⟨by rw [← E]; rfl, BB⟩
              · refine tq 87 (.bool (decide ((x44 : Int) < 1))) (.bool false) (congrArg Value.bool (decide_eq_false c64)) ?_
                refine t 88 (.bool false) ?_
                refine t 89 (pq g8 1) ?_
                refine t 90 (pq g8 4) ?_
                refine t 91 (pq g8 4) ?_
                refine tl 92 (.int .i64 x44) Xg8 4 ?_
                by_cases c66 : (10 : Int) < x44
                · refine tq 93 (.bool (decide ((10 : Int) < x44))) (.bool true) (congrArg Value.bool (decide_eq_true c66)) ?_
                  refine t 94 (.bool true) ?_
                  refine gl_nil ?_
                  refine ge_then ?_
                  refine gc_fr [(2, pg g2), (3, .int .i64 0), (4, pg g6), (5, pg g8), (94, .bool true)] (by kernel_rfl) ?_
                  refine gc_yes ?_
                  refine gc_seq ?_
                  refine gc_reg ?_
                  refine t 95 (.agg #[.int .i64 0, .int .u64 0, .int .u64 0, .int .u64 0, .int .i64 0, .int .u64 0, .int .u64 0, .int .u64 0, .int .i64 0, .int .u64 0, .int .u64 0]) ?_
                  refine ts Xg2 0 (.agg #[.int .i64 0, .int .u64 0, .int .u64 0, .int .u64 0, .int .i64 0, .int .u64 0, .int .u64 0, .int .u64 0, .int .i64 0, .int .u64 0, .int .u64 0]) [.int .i64 0, .int .u64 0, .int .u64 0, .int .u64 0, .int .i64 0, .int .u64 0, .int .u64 0, .int .u64 0, .int .i64 0, .int .u64 0, .int .u64 0] [.int .i64 0, .int .u64 0, .int .u64 0, .int .u64 0, .int .i64 0, .int .u64 0, .int .u64 0, .int .u64 0, .int .i64 0, .int .u64 0, .int .u64 0] ?_
                  intro v67 Y C
                  replace BB := belowC BB C (by omega)
                  replace RD := RfA.offB RD Xg2 rfl (by omega) (chg_but C)
                  replace Xg8 := Xg8.chg C (show g8 ≠ g2 by omega)
                  clear C Xg2
                  have Xg2 := Y
                  clear Y
                  refine t 3 (.int .i64 170) ?_
                  refine gl_nil ?_
                  refine ge_then ?_
                  refine gc_ret ?_
                  refine ge_br ?_
                  refine ge_tr ?_
                  refine ge_ret (.tuple #[.agg #[.int .i64 0, .int .u64 0, .int .u64 0, .int .u64 0, .int .i64 0, .int .u64 0, .int .u64 0, .int .u64 0, .int .i64 0, .int .u64 0, .int .u64 0], .int .i64 170]) (rsct 2 3 (T := 30) (by kernel_rfl) (by kernel_rfl) (by kernel_rfl) (lr Xg2 0)) ?_
                  have E := dI_2 (l := l) (by omega) (rI_t Ex9 c30 (rT_mk Ex32 Ex36 Ex40 (rM_mk Ex44 (rq_t c49 Ex50) (rq_t c54 Ex55) (rq_t c59 Ex60)))) (fun q => nokK (.inr c66) (Ok.msg q.2 rfl))
                  exact ⟨by rw [← E]; rfl, BB⟩
                · refine tq 93 (.bool (decide ((10 : Int) < x44))) (.bool false) (congrArg Value.bool (decide_eq_false c66)) ?_
                  refine t 94 (.bool false) ?_
                  refine gl_nil ?_
                  refine ge_then ?_
                  refine gc_fr [(2, pg g2), (3, .int .i64 0), (4, pg g6), (5, pg g8), (94, .bool false)] (by kernel_rfl) ?_
                  refine gc_no ?_
                  refine gc_skip ?_
                  refine ge_bn ?_
                  refine ge_then ?_
                  refine gc_seq ?_
                  refine gc_seq ?_
                  refine gc_reg ?_
                  refine t 96 (pg g6) ?_
                  refine tc 97 25 #[pg g6] (rfEnd RD) ?_
                  rintro _ v68 ⟨rfl, RX, U⟩
                  refine ⟨_, rfl, ?_⟩
                  replace BB := But.below U BB (by omega) (Nat.le_refl _)
                  replace Xg2 := But.blk U Xg2 (show g2 ≠ g6 by omega)
                  replace Xg8 := But.blk U Xg8 (show g8 ≠ g6 by omega)
                  clear U
                  clear RD RX
                  by_cases c69 : (endE s61.1 s61.2 : Int) = 0
                  · refine tq 98 (.bool ((endE s61.1 s61.2 : Int) != 0)) (.bool false) (congrArg Value.bool (bne_eq_false_iff_eq.2 c69)) ?_
                    refine gl_nil ?_
                    refine ge_then ?_
                    refine gc_no ?_
                    refine gc_skip ?_
                    refine ge_then ?_
                    refine gc_seq ?_
                    refine gc_reg ?_
                    refine tlr 100 [.int .i64 1, .int .u64 x32, .int .u64 x36, .int .u64 x40, .int .i64 x44, .int .u64 x50, .int .u64 x55, .int .u64 x60, .int .i64 0, .int .u64 0, .int .u64 0] Xg8 0 ?_
                    refine ts Xg2 0 (.agg #[.int .i64 1, .int .u64 x32, .int .u64 x36, .int .u64 x40, .int .i64 x44, .int .u64 x50, .int .u64 x55, .int .u64 x60, .int .i64 0, .int .u64 0, .int .u64 0]) [.int .i64 1, .int .u64 x32, .int .u64 x36, .int .u64 x40, .int .i64 x44, .int .u64 x50, .int .u64 x55, .int .u64 x60, .int .i64 0, .int .u64 0, .int .u64 0] [.int .i64 1, .int .u64 x32, .int .u64 x36, .int .u64 x40, .int .i64 x44, .int .u64 x50, .int .u64 x55, .int .u64 x60, .int .i64 0, .int .u64 0, .int .u64 0] ?_
                    intro v70 Y C
                    replace BB := belowC BB C (by omega)
                    replace Xg8 := Xg8.chg C (show g8 ≠ g2 by omega)
                    clear C Xg2
                    have Xg2 := Y
                    clear Y
                    refine t 3 (.int .i64 0) ?_
                    refine gl_nil ?_
                    refine ge_then ?_
                    clear Xg8
                    refine gc_ret ?_
                    refine ge_ret (.tuple #[.agg #[.int .i64 1, .int .u64 x32, .int .u64 x36, .int .u64 x40, .int .i64 x44, .int .u64 x50, .int .u64 x55, .int .u64 x60, .int .i64 0, .int .u64 0, .int .u64 0], .int .i64 0]) (rsct 2 3 (T := 30) (by kernel_rfl) (by kernel_rfl) (by kernel_rfl) (lr Xg2 0)) ?_
                    have E := dI_3 (l := l) (by omega) (rI_t Ex9 c30 (rT_mk Ex32 Ex36 Ex40 (rM_mk Ex44 (rq_t c49 Ex50) (rq_t c54 Ex55) (rq_t c59 Ex60)))) ⟨c69, .inl ⟨rfl, ⟨rfl, rfl, rfl⟩, okM_mk ⟨Int.not_lt.1 c64, Int.not_lt.1 c66⟩ (.inl c49) (.inl c54) (.inl c59)⟩⟩
                    exact ⟨by rw [← E]; rfl, BB⟩
                  · refine tq 98 (.bool ((endE s61.1 s61.2 : Int) != 0)) (.bool true) (congrArg Value.bool (bne_iff_ne.2 c69)) ?_
                    refine gl_nil ?_
                    refine ge_then ?_
                    refine gc_yes ?_
                    refine gc_seq ?_
                    refine gc_reg ?_
                    refine t 99 (.agg #[.int .i64 0, .int .u64 0, .int .u64 0, .int .u64 0, .int .i64 0, .int .u64 0, .int .u64 0, .int .u64 0, .int .i64 0, .int .u64 0, .int .u64 0]) ?_
                    refine ts Xg2 0 (.agg #[.int .i64 0, .int .u64 0, .int .u64 0, .int .u64 0, .int .i64 0, .int .u64 0, .int .u64 0, .int .u64 0, .int .i64 0, .int .u64 0, .int .u64 0]) [.int .i64 0, .int .u64 0, .int .u64 0, .int .u64 0, .int .i64 0, .int .u64 0, .int .u64 0, .int .u64 0, .int .i64 0, .int .u64 0, .int .u64 0] [.int .i64 0, .int .u64 0, .int .u64 0, .int .u64 0, .int .i64 0, .int .u64 0, .int .u64 0, .int .u64 0, .int .i64 0, .int .u64 0, .int .u64 0] ?_
                    intro v71 Y C
                    replace BB := belowC BB C (by omega)
                    replace Xg8 := Xg8.chg C (show g8 ≠ g2 by omega)
                    clear C Xg2
                    have Xg2 := Y
                    clear Y
                    refine t 3 (.int .i64 170) ?_
                    refine gl_nil ?_
                    refine ge_then ?_
                    refine gc_ret ?_
                    refine ge_tr ?_
                    refine ge_ret (.tuple #[.agg #[.int .i64 0, .int .u64 0, .int .u64 0, .int .u64 0, .int .i64 0, .int .u64 0, .int .u64 0, .int .u64 0, .int .i64 0, .int .u64 0, .int .u64 0], .int .i64 170]) (rsct 2 3 (T := 30) (by kernel_rfl) (by kernel_rfl) (by kernel_rfl) (lr Xg2 0)) ?_
                    have E := dI_2 (l := l) (by omega) (rI_t Ex9 c30 (rT_mk Ex32 Ex36 Ex40 (rM_mk Ex44 (rq_t c49 Ex50) (rq_t c54 Ex55) (rq_t c59 Ex60)))) (fun q => c69 q.1)
                    exact ⟨by rw [← E]; rfl, BB⟩
            · refine tq 77 (.bool (uN x44)) (.bool false) (congrArg Value.bool (Bool.eq_false_iff.2 c59)) ?_
              refine gl_nil ?_
              refine ge_then ?_
              refine gc_no ?_
              refine gc_skip ?_
              refine ge_then ?_
              refine gc_seq ?_
              refine gc_reg ?_
              refine t 83 (pq g8 1) ?_
              refine t 84 (pq g8 4) ?_
              refine t 85 (pq g8 4) ?_
              refine tl 86 (.int .i64 x44) Xg8 4 ?_
              by_cases c72 : (x44 : Int) < 1
              · refine tq 87 (.bool (decide ((x44 : Int) < 1))) (.bool true) (congrArg Value.bool (decide_eq_true c72)) ?_
                refine t 88 (.bool true) ?_
                refine tn 89 ?_
                refine tn 90 ?_
                refine tn 91 ?_
                refine tn 92 ?_
                refine tn 93 ?_
                refine t 94 (.bool true) ?_
                refine gl_nil ?_
                refine ge_then ?_
                refine gc_fr [(2, pg g2), (3, .int .i64 0), (4, pg g6), (5, pg g8), (94, .bool true)] (by kernel_rfl) ?_
                refine gc_yes ?_
                refine gc_seq ?_
                refine gc_reg ?_
                refine t 95 (.agg #[.int .i64 0, .int .u64 0, .int .u64 0, .int .u64 0, .int .i64 0, .int .u64 0, .int .u64 0, .int .u64 0, .int .i64 0, .int .u64 0, .int .u64 0]) ?_
                refine ts Xg2 0 (.agg #[.int .i64 0, .int .u64 0, .int .u64 0, .int .u64 0, .int .i64 0, .int .u64 0, .int .u64 0, .int .u64 0, .int .i64 0, .int .u64 0, .int .u64 0]) [.int .i64 0, .int .u64 0, .int .u64 0, .int .u64 0, .int .i64 0, .int .u64 0, .int .u64 0, .int .u64 0, .int .i64 0, .int .u64 0, .int .u64 0] [.int .i64 0, .int .u64 0, .int .u64 0, .int .u64 0, .int .i64 0, .int .u64 0, .int .u64 0, .int .u64 0, .int .i64 0, .int .u64 0, .int .u64 0] ?_
                intro v73 Y C
                replace BB := belowC BB C (by omega)
                replace RD := RfA.offB RD Xg2 rfl (by omega) (chg_but C)
                replace Xg8 := Xg8.chg C (show g8 ≠ g2 by omega)
                clear C Xg2
                have Xg2 := Y
                clear Y
                refine t 3 (.int .i64 170) ?_
                refine gl_nil ?_
                refine ge_then ?_
                refine gc_ret ?_
                refine ge_br ?_
                refine ge_tr ?_
                refine ge_ret (.tuple #[.agg #[.int .i64 0, .int .u64 0, .int .u64 0, .int .u64 0, .int .i64 0, .int .u64 0, .int .u64 0, .int .u64 0, .int .i64 0, .int .u64 0, .int .u64 0], .int .i64 170]) (rsct 2 3 (T := 30) (by kernel_rfl) (by kernel_rfl) (by kernel_rfl) (lr Xg2 0)) ?_
                have E := dI_2 (l := l) (by omega) (rI_t Ex9 c30 (rT_mk Ex32 Ex36 Ex40 (rM_mk Ex44 (rq_t c49 Ex50) (rq_t c54 Ex55) (rq_f (Bool.eq_false_iff.2 c59))))) (fun q => nokK (.inl c72) (Ok.msg q.2 rfl))
                exact ⟨by rw [← E]; rfl, BB⟩
              · refine tq 87 (.bool (decide ((x44 : Int) < 1))) (.bool false) (congrArg Value.bool (decide_eq_false c72)) ?_
                refine t 88 (.bool false) ?_
                refine t 89 (pq g8 1) ?_
                refine t 90 (pq g8 4) ?_
                refine t 91 (pq g8 4) ?_
                refine tl 92 (.int .i64 x44) Xg8 4 ?_
                by_cases c74 : (10 : Int) < x44
                · refine tq 93 (.bool (decide ((10 : Int) < x44))) (.bool true) (congrArg Value.bool (decide_eq_true c74)) ?_
                  refine t 94 (.bool true) ?_
                  refine gl_nil ?_
                  refine ge_then ?_
                  refine gc_fr [(2, pg g2), (3, .int .i64 0), (4, pg g6), (5, pg g8), (94, .bool true)] (by kernel_rfl) ?_
                  refine gc_yes ?_
                  refine gc_seq ?_
                  refine gc_reg ?_
                  refine t 95 (.agg #[.int .i64 0, .int .u64 0, .int .u64 0, .int .u64 0, .int .i64 0, .int .u64 0, .int .u64 0, .int .u64 0, .int .i64 0, .int .u64 0, .int .u64 0]) ?_
                  refine ts Xg2 0 (.agg #[.int .i64 0, .int .u64 0, .int .u64 0, .int .u64 0, .int .i64 0, .int .u64 0, .int .u64 0, .int .u64 0, .int .i64 0, .int .u64 0, .int .u64 0]) [.int .i64 0, .int .u64 0, .int .u64 0, .int .u64 0, .int .i64 0, .int .u64 0, .int .u64 0, .int .u64 0, .int .i64 0, .int .u64 0, .int .u64 0] [.int .i64 0, .int .u64 0, .int .u64 0, .int .u64 0, .int .i64 0, .int .u64 0, .int .u64 0, .int .u64 0, .int .i64 0, .int .u64 0, .int .u64 0] ?_
                  intro v75 Y C
                  replace BB := belowC BB C (by omega)
                  replace RD := RfA.offB RD Xg2 rfl (by omega) (chg_but C)
                  replace Xg8 := Xg8.chg C (show g8 ≠ g2 by omega)
                  clear C Xg2
                  have Xg2 := Y
                  clear Y
                  refine t 3 (.int .i64 170) ?_
                  refine gl_nil ?_
                  refine ge_then ?_
                  refine gc_ret ?_
                  refine ge_br ?_
                  refine ge_tr ?_
                  refine ge_ret (.tuple #[.agg #[.int .i64 0, .int .u64 0, .int .u64 0, .int .u64 0, .int .i64 0, .int .u64 0, .int .u64 0, .int .u64 0, .int .i64 0, .int .u64 0, .int .u64 0], .int .i64 170]) (rsct 2 3 (T := 30) (by kernel_rfl) (by kernel_rfl) (by kernel_rfl) (lr Xg2 0)) ?_
                  have E := dI_2 (l := l) (by omega) (rI_t Ex9 c30 (rT_mk Ex32 Ex36 Ex40 (rM_mk Ex44 (rq_t c49 Ex50) (rq_t c54 Ex55) (rq_f (Bool.eq_false_iff.2 c59))))) (fun q => nokK (.inr c74) (Ok.msg q.2 rfl))
                  exact ⟨by rw [← E]; rfl, BB⟩
                · refine tq 93 (.bool (decide ((10 : Int) < x44))) (.bool false) (congrArg Value.bool (decide_eq_false c74)) ?_
                  refine t 94 (.bool false) ?_
                  refine gl_nil ?_
                  refine ge_then ?_
                  refine gc_fr [(2, pg g2), (3, .int .i64 0), (4, pg g6), (5, pg g8), (94, .bool false)] (by kernel_rfl) ?_
                  refine gc_no ?_
                  refine gc_skip ?_
                  refine ge_bn ?_
                  refine ge_then ?_
                  refine gc_seq ?_
                  refine gc_seq ?_
                  refine gc_reg ?_
                  refine t 96 (pg g6) ?_
                  refine tc 97 25 #[pg g6] (rfEnd RD) ?_
                  rintro _ v76 ⟨rfl, RX, U⟩
                  refine ⟨_, rfl, ?_⟩
                  replace BB := But.below U BB (by omega) (Nat.le_refl _)
                  replace Xg2 := But.blk U Xg2 (show g2 ≠ g6 by omega)
                  replace Xg8 := But.blk U Xg8 (show g8 ≠ g6 by omega)
                  clear U
                  clear RD RX
                  by_cases c77 : (endE s56.1 s56.2 : Int) = 0
                  · refine tq 98 (.bool ((endE s56.1 s56.2 : Int) != 0)) (.bool false) (congrArg Value.bool (bne_eq_false_iff_eq.2 c77)) ?_
                    refine gl_nil ?_
                    refine ge_then ?_
                    refine gc_no ?_
                    refine gc_skip ?_
                    refine ge_then ?_
                    refine gc_seq ?_
                    refine gc_reg ?_
                    refine tlr 100 [.int .i64 1, .int .u64 x32, .int .u64 x36, .int .u64 x40, .int .i64 x44, .int .u64 x50, .int .u64 x55, .int .u64 0, .int .i64 0, .int .u64 0, .int .u64 0] Xg8 0 ?_
                    refine ts Xg2 0 (.agg #[.int .i64 1, .int .u64 x32, .int .u64 x36, .int .u64 x40, .int .i64 x44, .int .u64 x50, .int .u64 x55, .int .u64 0, .int .i64 0, .int .u64 0, .int .u64 0]) [.int .i64 1, .int .u64 x32, .int .u64 x36, .int .u64 x40, .int .i64 x44, .int .u64 x50, .int .u64 x55, .int .u64 0, .int .i64 0, .int .u64 0, .int .u64 0] [.int .i64 1, .int .u64 x32, .int .u64 x36, .int .u64 x40, .int .i64 x44, .int .u64 x50, .int .u64 x55, .int .u64 0, .int .i64 0, .int .u64 0, .int .u64 0] ?_
                    intro v78 Y C
                    replace BB := belowC BB C (by omega)
                    replace Xg8 := Xg8.chg C (show g8 ≠ g2 by omega)
                    clear C Xg2
                    have Xg2 := Y
                    clear Y
                    refine t 3 (.int .i64 0) ?_
                    refine gl_nil ?_
                    refine ge_then ?_
                    clear Xg8
                    refine gc_ret ?_
                    refine ge_ret (.tuple #[.agg #[.int .i64 1, .int .u64 x32, .int .u64 x36, .int .u64 x40, .int .i64 x44, .int .u64 x50, .int .u64 x55, .int .u64 0, .int .i64 0, .int .u64 0, .int .u64 0], .int .i64 0]) (rsct 2 3 (T := 30) (by kernel_rfl) (by kernel_rfl) (by kernel_rfl) (lr Xg2 0)) ?_
                    have E := dI_3 (l := l) (by omega) (rI_t Ex9 c30 (rT_mk Ex32 Ex36 Ex40 (rM_mk Ex44 (rq_t c49 Ex50) (rq_t c54 Ex55) (rq_f (Bool.eq_false_iff.2 c59))))) ⟨c77, .inl ⟨rfl, ⟨rfl, rfl, rfl⟩, okM_mk ⟨Int.not_lt.1 c72, Int.not_lt.1 c74⟩ (.inl c49) (.inl c54) (.inr rfl)⟩⟩
                    exact ⟨by rw [← E]; rfl, BB⟩
                  · refine tq 98 (.bool ((endE s56.1 s56.2 : Int) != 0)) (.bool true) (congrArg Value.bool (bne_iff_ne.2 c77)) ?_
                    refine gl_nil ?_
                    refine ge_then ?_
                    refine gc_yes ?_
                    refine gc_seq ?_
                    refine gc_reg ?_
                    refine t 99 (.agg #[.int .i64 0, .int .u64 0, .int .u64 0, .int .u64 0, .int .i64 0, .int .u64 0, .int .u64 0, .int .u64 0, .int .i64 0, .int .u64 0, .int .u64 0]) ?_
                    refine ts Xg2 0 (.agg #[.int .i64 0, .int .u64 0, .int .u64 0, .int .u64 0, .int .i64 0, .int .u64 0, .int .u64 0, .int .u64 0, .int .i64 0, .int .u64 0, .int .u64 0]) [.int .i64 0, .int .u64 0, .int .u64 0, .int .u64 0, .int .i64 0, .int .u64 0, .int .u64 0, .int .u64 0, .int .i64 0, .int .u64 0, .int .u64 0] [.int .i64 0, .int .u64 0, .int .u64 0, .int .u64 0, .int .i64 0, .int .u64 0, .int .u64 0, .int .u64 0, .int .i64 0, .int .u64 0, .int .u64 0] ?_
                    intro v79 Y C
                    replace BB := belowC BB C (by omega)
                    replace Xg8 := Xg8.chg C (show g8 ≠ g2 by omega)
                    clear C Xg2
                    have Xg2 := Y
                    clear Y
                    refine t 3 (.int .i64 170) ?_
                    refine gl_nil ?_
                    refine ge_then ?_
                    refine gc_ret ?_
                    refine ge_tr ?_
                    refine ge_ret (.tuple #[.agg #[.int .i64 0, .int .u64 0, .int .u64 0, .int .u64 0, .int .i64 0, .int .u64 0, .int .u64 0, .int .u64 0, .int .i64 0, .int .u64 0, .int .u64 0], .int .i64 170]) (rsct 2 3 (T := 30) (by kernel_rfl) (by kernel_rfl) (by kernel_rfl) (lr Xg2 0)) ?_
                    have E := dI_2 (l := l) (by omega) (rI_t Ex9 c30 (rT_mk Ex32 Ex36 Ex40 (rM_mk Ex44 (rq_t c49 Ex50) (rq_t c54 Ex55) (rq_f (Bool.eq_false_iff.2 c59))))) (fun q => c77 q.1)
                    exact ⟨by rw [← E]; rfl, BB⟩
          · refine tq 71 (.bool (uB x44)) (.bool false) (congrArg Value.bool (Bool.eq_false_iff.2 c54)) ?_
            refine gl_nil ?_
            refine ge_then ?_
            refine gc_no ?_
            refine gc_skip ?_
            refine ge_then ?_
            refine gc_seq ?_
            refine gc_seq ?_
            refine gc_reg ?_
            by_cases c80 : (uN x44) = true
            · refine tq 77 (.bool (uN x44)) (.bool true) (congrArg Value.bool c80) ?_
              refine gl_nil ?_
              refine ge_then ?_
              refine gc_yes ?_
              refine gc_reg ?_
              refine t 78 (pg g6) ?_
              refine tc 79 24 #[pg g6, .int .i64 8] (yU8 (s := s51) RD) ?_
              rintro _ v83 ⟨x81, s82, Ex81, rfl, RX, U⟩
              refine ⟨_, rfl, ?_⟩
              replace BB := But.below U BB (by omega) (Nat.le_refl _)
              replace Xg2 := But.blk U Xg2 (show g2 ≠ g6 by omega)
              replace Xg8 := But.blk U Xg8 (show g8 ≠ g6 by omega)
              clear U
              clear RD
              have RD := RX
              clear RX
              refine t 80 (pq g8 1) ?_
              refine t 81 (pq g8 4) ?_
              refine t 82 (pq g8 7) ?_
              refine ts Xg8 7 (.int .u64 x81) [.int .u64 x81] [.int .i64 1, .int .u64 x32, .int .u64 x36, .int .u64 x40, .int .i64 x44, .int .u64 x50, .int .u64 0, .int .u64 x81, .int .i64 0, .int .u64 0, .int .u64 0] ?_
              intro v84 Y C
              replace BB := belowC BB C (by omega)
              replace Xg2 := Xg2.chg C (show g2 ≠ g8 by omega)
              replace RD := RfA.offB RD Xg8 rfl (by omega) (chg_but C)
              clear C Xg8
              have Xg8 := Y
              clear Y
              refine gl_nil ?_
              refine ge_then ?_
              refine gc_seq ?_
              refine gc_reg ?_
              refine t 83 (pq g8 1) ?_
              refine t 84 (pq g8 4) ?_
              refine t 85 (pq g8 4) ?_
              refine tl 86 (.int .i64 x44) Xg8 4 ?_
              by_cases c85 : (x44 : Int) < 1
              · refine tq 87 (.bool (decide ((x44 : Int) < 1))) (.bool true) (congrArg Value.bool (decide_eq_true c85)) ?_
                refine t 88 (.bool true) ?_
                refine tn 89 ?_
                refine tn 90 ?_
                refine tn 91 ?_
                refine tn 92 ?_
                refine tn 93 ?_
                refine t 94 (.bool true) ?_
                refine gl_nil ?_
                refine ge_then ?_
                refine gc_fr [(2, pg g2), (3, .int .i64 0), (4, pg g6), (5, pg g8), (94, .bool true)] (by kernel_rfl) ?_
                refine gc_yes ?_
                refine gc_seq ?_
                refine gc_reg ?_
                refine t 95 (.agg #[.int .i64 0, .int .u64 0, .int .u64 0, .int .u64 0, .int .i64 0, .int .u64 0, .int .u64 0, .int .u64 0, .int .i64 0, .int .u64 0, .int .u64 0]) ?_
                refine ts Xg2 0 (.agg #[.int .i64 0, .int .u64 0, .int .u64 0, .int .u64 0, .int .i64 0, .int .u64 0, .int .u64 0, .int .u64 0, .int .i64 0, .int .u64 0, .int .u64 0]) [.int .i64 0, .int .u64 0, .int .u64 0, .int .u64 0, .int .i64 0, .int .u64 0, .int .u64 0, .int .u64 0, .int .i64 0, .int .u64 0, .int .u64 0] [.int .i64 0, .int .u64 0, .int .u64 0, .int .u64 0, .int .i64 0, .int .u64 0, .int .u64 0, .int .u64 0, .int .i64 0, .int .u64 0, .int .u64 0] ?_
                intro v86 Y C
                replace BB := belowC BB C (by omega)
                replace RD := RfA.offB RD Xg2 rfl (by omega) (chg_but C)
                replace Xg8 := Xg8.chg C (show g8 ≠ g2 by omega)
                clear C Xg2
                have Xg2 := Y
                clear Y
                refine t 3 (.int .i64 170) ?_
                refine gl_nil ?_
                refine ge_then ?_
                refine gc_ret ?_
                refine ge_br ?_
                refine ge_tr ?_
                refine ge_ret (.tuple #[.agg #[.int .i64 0, .int .u64 0, .int .u64 0, .int .u64 0, .int .i64 0, .int .u64 0, .int .u64 0, .int .u64 0, .int .i64 0, .int .u64 0, .int .u64 0], .int .i64 170]) (rsct 2 3 (T := 30) (by kernel_rfl) (by kernel_rfl) (by kernel_rfl) (lr Xg2 0)) ?_
                have E := dI_2 (l := l) (by omega) (rI_t Ex9 c30 (rT_mk Ex32 Ex36 Ex40 (rM_mk Ex44 (rq_t c49 Ex50) (rq_f (Bool.eq_false_iff.2 c54)) (rq_t c80 Ex81)))) (fun q => nokK (.inl c85) (Ok.msg q.2 rfl))
                exact ⟨by rw [← E]; rfl, BB⟩
              · refine tq 87 (.bool (decide ((x44 : Int) < 1))) (.bool false) (congrArg Value.bool (decide_eq_false c85)) ?_
                refine t 88 (.bool false) ?_
                refine t 89 (pq g8 1) ?_
                refine t 90 (pq g8 4) ?_
                refine t 91 (pq g8 4) ?_
                refine tl 92 (.int .i64 x44) Xg8 4 ?_
                by_cases c87 : (10 : Int) < x44
                · refine tq 93 (.bool (decide ((10 : Int) < x44))) (.bool true) (congrArg Value.bool (decide_eq_true c87)) ?_
                  refine t 94 (.bool true) ?_
                  refine gl_nil ?_
                  refine ge_then ?_
                  refine gc_fr [(2, pg g2), (3, .int .i64 0), (4, pg g6), (5, pg g8), (94, .bool true)] (by kernel_rfl) ?_
                  refine gc_yes ?_
                  refine gc_seq ?_
                  refine gc_reg ?_
                  refine t 95 (.agg #[.int .i64 0, .int .u64 0, .int .u64 0, .int .u64 0, .int .i64 0, .int .u64 0, .int .u64 0, .int .u64 0, .int .i64 0, .int .u64 0, .int .u64 0]) ?_
                  refine ts Xg2 0 (.agg #[.int .i64 0, .int .u64 0, .int .u64 0, .int .u64 0, .int .i64 0, .int .u64 0, .int .u64 0, .int .u64 0, .int .i64 0, .int .u64 0, .int .u64 0]) [.int .i64 0, .int .u64 0, .int .u64 0, .int .u64 0, .int .i64 0, .int .u64 0, .int .u64 0, .int .u64 0, .int .i64 0, .int .u64 0, .int .u64 0] [.int .i64 0, .int .u64 0, .int .u64 0, .int .u64 0, .int .i64 0, .int .u64 0, .int .u64 0, .int .u64 0, .int .i64 0, .int .u64 0, .int .u64 0] ?_
                  intro v88 Y C
                  replace BB := belowC BB C (by omega)
                  replace RD := RfA.offB RD Xg2 rfl (by omega) (chg_but C)
                  replace Xg8 := Xg8.chg C (show g8 ≠ g2 by omega)
                  clear C Xg2
                  have Xg2 := Y
                  clear Y
                  refine t 3 (.int .i64 170) ?_
                  refine gl_nil ?_
                  refine ge_then ?_
                  refine gc_ret ?_
                  refine ge_br ?_
                  refine ge_tr ?_
                  refine ge_ret (.tuple #[.agg #[.int .i64 0, .int .u64 0, .int .u64 0, .int .u64 0, .int .i64 0, .int .u64 0, .int .u64 0, .int .u64 0, .int .i64 0, .int .u64 0, .int .u64 0], .int .i64 170]) (rsct 2 3 (T := 30) (by kernel_rfl) (by kernel_rfl) (by kernel_rfl) (lr Xg2 0)) ?_
                  have E := dI_2 (l := l) (by omega) (rI_t Ex9 c30 (rT_mk Ex32 Ex36 Ex40 (rM_mk Ex44 (rq_t c49 Ex50) (rq_f (Bool.eq_false_iff.2 c54)) (rq_t c80 Ex81)))) (fun q => nokK (.inr c87) (Ok.msg q.2 rfl))
                  exact ⟨by rw [← E]; rfl, BB⟩
                · refine tq 93 (.bool (decide ((10 : Int) < x44))) (.bool false) (congrArg Value.bool (decide_eq_false c87)) ?_
                  refine t 94 (.bool false) ?_
                  refine gl_nil ?_
                  refine ge_then ?_
                  refine gc_fr [(2, pg g2), (3, .int .i64 0), (4, pg g6), (5, pg g8), (94, .bool false)] (by kernel_rfl) ?_
                  refine gc_no ?_
                  refine gc_skip ?_
                  refine ge_bn ?_
                  refine ge_then ?_
                  refine gc_seq ?_
                  refine gc_seq ?_
                  refine gc_reg ?_
                  refine t 96 (pg g6) ?_
                  refine tc 97 25 #[pg g6] (rfEnd RD) ?_
                  rintro _ v89 ⟨rfl, RX, U⟩
                  refine ⟨_, rfl, ?_⟩
                  replace BB := But.below U BB (by omega) (Nat.le_refl _)
                  replace Xg2 := But.blk U Xg2 (show g2 ≠ g6 by omega)
                  replace Xg8 := But.blk U Xg8 (show g8 ≠ g6 by omega)
                  clear U
                  clear RD RX
                  by_cases c90 : (endE s82.1 s82.2 : Int) = 0
                  · refine tq 98 (.bool ((endE s82.1 s82.2 : Int) != 0)) (.bool false) (congrArg Value.bool (bne_eq_false_iff_eq.2 c90)) ?_
                    refine gl_nil ?_
                    refine ge_then ?_
                    refine gc_no ?_
                    refine gc_skip ?_
                    refine ge_then ?_
                    refine gc_seq ?_
                    refine gc_reg ?_
                    refine tlr 100 [.int .i64 1, .int .u64 x32, .int .u64 x36, .int .u64 x40, .int .i64 x44, .int .u64 x50, .int .u64 0, .int .u64 x81, .int .i64 0, .int .u64 0, .int .u64 0] Xg8 0 ?_
                    refine ts Xg2 0 (.agg #[.int .i64 1, .int .u64 x32, .int .u64 x36, .int .u64 x40, .int .i64 x44, .int .u64 x50, .int .u64 0, .int .u64 x81, .int .i64 0, .int .u64 0, .int .u64 0]) [.int .i64 1, .int .u64 x32, .int .u64 x36, .int .u64 x40, .int .i64 x44, .int .u64 x50, .int .u64 0, .int .u64 x81, .int .i64 0, .int .u64 0, .int .u64 0] [.int .i64 1, .int .u64 x32, .int .u64 x36, .int .u64 x40, .int .i64 x44, .int .u64 x50, .int .u64 0, .int .u64 x81, .int .i64 0, .int .u64 0, .int .u64 0] ?_
                    intro v91 Y C
                    replace BB := belowC BB C (by omega)
                    replace Xg8 := Xg8.chg C (show g8 ≠ g2 by omega)
                    clear C Xg2
                    have Xg2 := Y
                    clear Y
                    refine t 3 (.int .i64 0) ?_
                    refine gl_nil ?_
                    refine ge_then ?_
                    clear Xg8
                    refine gc_ret ?_
                    refine ge_ret (.tuple #[.agg #[.int .i64 1, .int .u64 x32, .int .u64 x36, .int .u64 x40, .int .i64 x44, .int .u64 x50, .int .u64 0, .int .u64 x81, .int .i64 0, .int .u64 0, .int .u64 0], .int .i64 0]) (rsct 2 3 (T := 30) (by kernel_rfl) (by kernel_rfl) (by kernel_rfl) (lr Xg2 0)) ?_
                    have E := dI_3 (l := l) (by omega) (rI_t Ex9 c30 (rT_mk Ex32 Ex36 Ex40 (rM_mk Ex44 (rq_t c49 Ex50) (rq_f (Bool.eq_false_iff.2 c54)) (rq_t c80 Ex81)))) ⟨c90, .inl ⟨rfl, ⟨rfl, rfl, rfl⟩, okM_mk ⟨Int.not_lt.1 c85, Int.not_lt.1 c87⟩ (.inl c49) (.inr rfl) (.inl c80)⟩⟩
                    exact ⟨by rw [← E]; rfl, BB⟩
                  · refine tq 98 (.bool ((endE s82.1 s82.2 : Int) != 0)) (.bool true) (congrArg Value.bool (bne_iff_ne.2 c90)) ?_
                    refine gl_nil ?_
                    refine ge_then ?_
                    refine gc_yes ?_
                    refine gc_seq ?_
                    refine gc_reg ?_
                    refine t 99 (.agg #[.int .i64 0, .int .u64 0, .int .u64 0, .int .u64 0, .int .i64 0, .int .u64 0, .int .u64 0, .int .u64 0, .int .i64 0, .int .u64 0, .int .u64 0]) ?_
                    refine ts Xg2 0 (.agg #[.int .i64 0, .int .u64 0, .int .u64 0, .int .u64 0, .int .i64 0, .int .u64 0, .int .u64 0, .int .u64 0, .int .i64 0, .int .u64 0, .int .u64 0]) [.int .i64 0, .int .u64 0, .int .u64 0, .int .u64 0, .int .i64 0, .int .u64 0, .int .u64 0, .int .u64 0, .int .i64 0, .int .u64 0, .int .u64 0] [.int .i64 0, .int .u64 0, .int .u64 0, .int .u64 0, .int .i64 0, .int .u64 0, .int .u64 0, .int .u64 0, .int .i64 0, .int .u64 0, .int .u64 0] ?_
                    intro v92 Y C
                    replace BB := belowC BB C (by omega)
                    replace Xg8 := Xg8.chg C (show g8 ≠ g2 by omega)
                    clear C Xg2
                    have Xg2 := Y
                    clear Y
                    refine t 3 (.int .i64 170) ?_
                    refine gl_nil ?_
                    refine ge_then ?_
                    refine gc_ret ?_
                    refine ge_tr ?_
                    refine ge_ret (.tuple #[.agg #[.int .i64 0, .int .u64 0, .int .u64 0, .int .u64 0, .int .i64 0, .int .u64 0, .int .u64 0, .int .u64 0, .int .i64 0, .int .u64 0, .int .u64 0], .int .i64 170]) (rsct 2 3 (T := 30) (by kernel_rfl) (by kernel_rfl) (by kernel_rfl) (lr Xg2 0)) ?_
                    have E := dI_2 (l := l) (by omega) (rI_t Ex9 c30 (rT_mk Ex32 Ex36 Ex40 (rM_mk Ex44 (rq_t c49 Ex50) (rq_f (Bool.eq_false_iff.2 c54)) (rq_t c80 Ex81)))) (fun q => c90 q.1)
                    exact ⟨by rw [← E]; rfl, BB⟩
            · refine tq 77 (.bool (uN x44)) (.bool false) (congrArg Value.bool (Bool.eq_false_iff.2 c80)) ?_
              refine gl_nil ?_
              refine ge_then ?_
              refine gc_no ?_
              refine gc_skip ?_
              refine ge_then ?_
              refine gc_seq ?_
              refine gc_reg ?_
              refine t 83 (pq g8 1) ?_
              refine t 84 (pq g8 4) ?_
              refine t 85 (pq g8 4) ?_
              refine tl 86 (.int .i64 x44) Xg8 4 ?_
              by_cases c93 : (x44 : Int) < 1
              · refine tq 87 (.bool (decide ((x44 : Int) < 1))) (.bool true) (congrArg Value.bool (decide_eq_true c93)) ?_
                refine t 88 (.bool true) ?_
                refine tn 89 ?_
                refine tn 90 ?_
                refine tn 91 ?_
                refine tn 92 ?_
                refine tn 93 ?_
                refine t 94 (.bool true) ?_
                refine gl_nil ?_
                refine ge_then ?_
                refine gc_yes ?_
                refine gc_seq ?_
                refine gc_reg ?_
                refine t 95 (.agg #[.int .i64 0, .int .u64 0, .int .u64 0, .int .u64 0, .int .i64 0, .int .u64 0, .int .u64 0, .int .u64 0, .int .i64 0, .int .u64 0, .int .u64 0]) ?_
                refine ts Xg2 0 (.agg #[.int .i64 0, .int .u64 0, .int .u64 0, .int .u64 0, .int .i64 0, .int .u64 0, .int .u64 0, .int .u64 0, .int .i64 0, .int .u64 0, .int .u64 0]) [.int .i64 0, .int .u64 0, .int .u64 0, .int .u64 0, .int .i64 0, .int .u64 0, .int .u64 0, .int .u64 0, .int .i64 0, .int .u64 0, .int .u64 0] [.int .i64 0, .int .u64 0, .int .u64 0, .int .u64 0, .int .i64 0, .int .u64 0, .int .u64 0, .int .u64 0, .int .i64 0, .int .u64 0, .int .u64 0] ?_
                intro v94 Y C
                replace BB := belowC BB C (by omega)
                replace RD := RfA.offB RD Xg2 rfl (by omega) (chg_but C)
                replace Xg8 := Xg8.chg C (show g8 ≠ g2 by omega)
                clear C Xg2
                have Xg2 := Y
                clear Y
                refine t 3 (.int .i64 170) ?_
                refine gl_nil ?_
                refine ge_then ?_
                refine gc_fr [(2, pg g2), (3, .int .i64 170), (4, pg g6), (5, pg g8)] (by kernel_rfl) ?_
                refine gc_ret ?_
                refine ge_br ?_
                refine ge_tr ?_
                refine ge_ret (.tuple #[.agg #[.int .i64 0, .int .u64 0, .int .u64 0, .int .u64 0, .int .i64 0, .int .u64 0, .int .u64 0, .int .u64 0, .int .i64 0, .int .u64 0, .int .u64 0], .int .i64 170]) (rsct 2 3 (T := 30) (by kernel_rfl) (by kernel_rfl) (by kernel_rfl) (lr Xg2 0)) ?_
                have E := dI_2 (l := l) (by omega) (rI_t Ex9 c30 (rT_mk Ex32 Ex36 Ex40 (rM_mk Ex44 (rq_t c49 Ex50) (rq_f (Bool.eq_false_iff.2 c54)) (rq_f (Bool.eq_false_iff.2 c80))))) (fun q => nokK (.inl c93) (Ok.msg q.2 rfl))
                exact ⟨by rw [← E]; rfl, BB⟩
              · refine tq 87 (.bool (decide ((x44 : Int) < 1))) (.bool false) (congrArg Value.bool (decide_eq_false c93)) ?_
                refine t 88 (.bool false) ?_
                refine t 89 (pq g8 1) ?_
                refine t 90 (pq g8 4) ?_
                refine t 91 (pq g8 4) ?_
                refine tl 92 (.int .i64 x44) Xg8 4 ?_
                by_cases c95 : (10 : Int) < x44
                · refine tq 93 (.bool (decide ((10 : Int) < x44))) (.bool true) (congrArg Value.bool (decide_eq_true c95)) ?_
                  refine t 94 (.bool true) ?_
                  refine gl_nil ?_
                  refine ge_then ?_
                  refine gc_yes ?_
                  refine gc_seq ?_
                  refine gc_reg ?_
                  refine t 95 (.agg #[.int .i64 0, .int .u64 0, .int .u64 0, .int .u64 0, .int .i64 0, .int .u64 0, .int .u64 0, .int .u64 0, .int .i64 0, .int .u64 0, .int .u64 0]) ?_
                  refine ts Xg2 0 (.agg #[.int .i64 0, .int .u64 0, .int .u64 0, .int .u64 0, .int .i64 0, .int .u64 0, .int .u64 0, .int .u64 0, .int .i64 0, .int .u64 0, .int .u64 0]) [.int .i64 0, .int .u64 0, .int .u64 0, .int .u64 0, .int .i64 0, .int .u64 0, .int .u64 0, .int .u64 0, .int .i64 0, .int .u64 0, .int .u64 0] [.int .i64 0, .int .u64 0, .int .u64 0, .int .u64 0, .int .i64 0, .int .u64 0, .int .u64 0, .int .u64 0, .int .i64 0, .int .u64 0, .int .u64 0] ?_
                  intro v96 Y C
                  replace BB := belowC BB C (by omega)
                  replace RD := RfA.offB RD Xg2 rfl (by omega) (chg_but C)
                  replace Xg8 := Xg8.chg C (show g8 ≠ g2 by omega)
                  clear C Xg2
                  have Xg2 := Y
                  clear Y
                  refine t 3 (.int .i64 170) ?_
                  refine gl_nil ?_
                  refine ge_then ?_
                  refine gc_fr [(2, pg g2), (3, .int .i64 170), (4, pg g6), (5, pg g8)] (by kernel_rfl) ?_
                  refine gc_ret ?_
                  refine ge_br ?_
                  refine ge_tr ?_
                  refine ge_ret (.tuple #[.agg #[.int .i64 0, .int .u64 0, .int .u64 0, .int .u64 0, .int .i64 0, .int .u64 0, .int .u64 0, .int .u64 0, .int .i64 0, .int .u64 0, .int .u64 0], .int .i64 170]) (rsct 2 3 (T := 30) (by kernel_rfl) (by kernel_rfl) (by kernel_rfl) (lr Xg2 0)) ?_
                  have E := dI_2 (l := l) (by omega) (rI_t Ex9 c30 (rT_mk Ex32 Ex36 Ex40 (rM_mk Ex44 (rq_t c49 Ex50) (rq_f (Bool.eq_false_iff.2 c54)) (rq_f (Bool.eq_false_iff.2 c80))))) (fun q => nokK (.inr c95) (Ok.msg q.2 rfl))
                  exact ⟨by rw [← E]; rfl, BB⟩
                · refine tq 93 (.bool (decide ((10 : Int) < x44))) (.bool false) (congrArg Value.bool (decide_eq_false c95)) ?_
                  refine t 94 (.bool false) ?_
                  refine gl_nil ?_
                  refine ge_then ?_
                  refine gc_no ?_
                  refine gc_skip ?_
                  refine ge_bn ?_
                  refine ge_then ?_
                  refine gc_seq ?_
                  refine gc_seq ?_
                  refine gc_reg ?_
                  refine t 96 (pg g6) ?_
                  refine tc 97 25 #[pg g6] (rfEnd RD) ?_
                  rintro _ v97 ⟨rfl, RX, U⟩
                  refine ⟨_, rfl, ?_⟩
                  replace BB := But.below U BB (by omega) (Nat.le_refl _)
                  replace Xg2 := But.blk U Xg2 (show g2 ≠ g6 by omega)
                  replace Xg8 := But.blk U Xg8 (show g8 ≠ g6 by omega)
                  clear U
                  clear RD RX
                  by_cases c98 : (endE s51.1 s51.2 : Int) = 0
                  · refine tq 98 (.bool ((endE s51.1 s51.2 : Int) != 0)) (.bool false) (congrArg Value.bool (bne_eq_false_iff_eq.2 c98)) ?_
                    refine gl_nil ?_
                    refine ge_then ?_
                    refine gc_fr [(2, pg g2), (3, .int .i64 0), (5, pg g8), (98, .bool false)] (by kernel_rfl) ?_
                    refine gc_no ?_
                    refine gc_skip ?_
                    refine ge_then ?_
                    refine gc_seq ?_
                    refine gc_reg ?_
                    refine tlr 100 [.int .i64 1, .int .u64 x32, .int .u64 x36, .int .u64 x40, .int .i64 x44, .int .u64 x50, .int .u64 0, .int .u64 0, .int .i64 0, .int .u64 0, .int .u64 0] Xg8 0 ?_
                    refine ts Xg2 0 (.agg #[.int .i64 1, .int .u64 x32, .int .u64 x36, .int .u64 x40, .int .i64 x44, .int .u64 x50, .int .u64 0, .int .u64 0, .int .i64 0, .int .u64 0, .int .u64 0]) [.int .i64 1, .int .u64 x32, .int .u64 x36, .int .u64 x40, .int .i64 x44, .int .u64 x50, .int .u64 0, .int .u64 0, .int .i64 0, .int .u64 0, .int .u64 0] [.int .i64 1, .int .u64 x32, .int .u64 x36, .int .u64 x40, .int .i64 x44, .int .u64 x50, .int .u64 0, .int .u64 0, .int .i64 0, .int .u64 0, .int .u64 0] ?_
                    intro v99 Y C
                    replace BB := belowC BB C (by omega)
                    replace Xg8 := Xg8.chg C (show g8 ≠ g2 by omega)
                    clear C Xg2
                    have Xg2 := Y
                    clear Y
                    refine t 3 (.int .i64 0) ?_
                    refine gl_nil ?_
                    refine ge_then ?_
                    clear Xg8
                    refine gc_ret ?_
                    refine ge_ret (.tuple #[.agg #[.int .i64 1, .int .u64 x32, .int .u64 x36, .int .u64 x40, .int .i64 x44, .int .u64 x50, .int .u64 0, .int .u64 0, .int .i64 0, .int .u64 0, .int .u64 0], .int .i64 0]) (rsct 2 3 (T := 30) (by kernel_rfl) (by kernel_rfl) (by kernel_rfl) (lr Xg2 0)) ?_
                    have E := dI_3 (l := l) (by omega) (rI_t Ex9 c30 (rT_mk Ex32 Ex36 Ex40 (rM_mk Ex44 (rq_t c49 Ex50) (rq_f (Bool.eq_false_iff.2 c54)) (rq_f (Bool.eq_false_iff.2 c80))))) ⟨c98, .inl ⟨rfl, ⟨rfl, rfl, rfl⟩, okM_mk ⟨Int.not_lt.1 c93, Int.not_lt.1 c95⟩ (.inl c49) (.inr rfl) (.inr rfl)⟩⟩
                    exact ⟨by rw [← E]; rfl, BB⟩
                  · refine tq 98 (.bool ((endE s51.1 s51.2 : Int) != 0)) (.bool true) (congrArg Value.bool (bne_iff_ne.2 c98)) ?_
                    refine gl_nil ?_
                    refine ge_then ?_
                    refine gc_fr [(2, pg g2), (3, .int .i64 0), (5, pg g8), (98, .bool true)] (by kernel_rfl) ?_
                    refine gc_yes ?_
                    refine gc_seq ?_
                    refine gc_reg ?_
                    refine t 99 (.agg #[.int .i64 0, .int .u64 0, .int .u64 0, .int .u64 0, .int .i64 0, .int .u64 0, .int .u64 0, .int .u64 0, .int .i64 0, .int .u64 0, .int .u64 0]) ?_
                    refine ts Xg2 0 (.agg #[.int .i64 0, .int .u64 0, .int .u64 0, .int .u64 0, .int .i64 0, .int .u64 0, .int .u64 0, .int .u64 0, .int .i64 0, .int .u64 0, .int .u64 0]) [.int .i64 0, .int .u64 0, .int .u64 0, .int .u64 0, .int .i64 0, .int .u64 0, .int .u64 0, .int .u64 0, .int .i64 0, .int .u64 0, .int .u64 0] [.int .i64 0, .int .u64 0, .int .u64 0, .int .u64 0, .int .i64 0, .int .u64 0, .int .u64 0, .int .u64 0, .int .i64 0, .int .u64 0, .int .u64 0] ?_
                    intro v100 Y C
                    replace BB := belowC BB C (by omega)
                    replace Xg8 := Xg8.chg C (show g8 ≠ g2 by omega)
                    clear C Xg2
                    have Xg2 := Y
                    clear Y
                    refine t 3 (.int .i64 170) ?_
                    refine gl_nil ?_
                    refine ge_then ?_
                    refine gc_ret ?_
                    refine ge_tr ?_
                    refine ge_ret (.tuple #[.agg #[.int .i64 0, .int .u64 0, .int .u64 0, .int .u64 0, .int .i64 0, .int .u64 0, .int .u64 0, .int .u64 0, .int .i64 0, .int .u64 0, .int .u64 0], .int .i64 170]) (rsct 2 3 (T := 30) (by kernel_rfl) (by kernel_rfl) (by kernel_rfl) (lr Xg2 0)) ?_
                    have E := dI_2 (l := l) (by omega) (rI_t Ex9 c30 (rT_mk Ex32 Ex36 Ex40 (rM_mk Ex44 (rq_t c49 Ex50) (rq_f (Bool.eq_false_iff.2 c54)) (rq_f (Bool.eq_false_iff.2 c80))))) (fun q => c98 q.1)
                    exact ⟨by rw [← E]; rfl, BB⟩
        · refine tq 65 (.bool (uA x44)) (.bool false) (congrArg Value.bool (Bool.eq_false_iff.2 c49)) ?_
          refine gl_nil ?_
          refine ge_then ?_
          refine gc_no ?_
          refine gc_skip ?_
          refine ge_then ?_
          refine gc_seq ?_
          refine gc_seq ?_
          refine gc_reg ?_
          by_cases c101 : (uB x44) = true
          · refine tq 71 (.bool (uB x44)) (.bool true) (congrArg Value.bool c101) ?_
            refine gl_nil ?_
            refine ge_then ?_
            refine gc_yes ?_
            refine gc_reg ?_
            refine t 72 (pg g6) ?_
            refine tc 73 24 #[pg g6, .int .i64 8] (yU8 (s := s45) RD) ?_
            rintro _ v104 ⟨x102, s103, Ex102, rfl, RX, U⟩
            refine ⟨_, rfl, ?_⟩
            replace BB := But.below U BB (by omega) (Nat.le_refl _)
            replace Xg2 := But.blk U Xg2 (show g2 ≠ g6 by omega)
            replace Xg8 := But.blk U Xg8 (show g8 ≠ g6 by omega)
            clear U
            clear RD
            have RD := RX
            clear RX
            refine t 74 (pq g8 1) ?_
            refine t 75 (pq g8 4) ?_
            refine t 76 (pq g8 6) ?_
            refine ts Xg8 6 (.int .u64 x102) [.int .u64 x102] [.int .i64 1, .int .u64 x32, .int .u64 x36, .int .u64 x40, .int .i64 x44, .int .u64 0, .int .u64 x102, .int .u64 0, .int .i64 0, .int .u64 0, .int .u64 0] ?_
            intro v105 Y C
            replace BB := belowC BB C (by omega)
            replace Xg2 := Xg2.chg C (show g2 ≠ g8 by omega)
            replace RD := RfA.offB RD Xg8 rfl (by omega) (chg_but C)
            clear C Xg8
            have Xg8 := Y
            clear Y
            refine gl_nil ?_
            refine ge_then ?_
            refine gc_fr [(2, pg g2), (3, .int .i64 0), (4, pg g6), (5, pg g8), (8, .bool (uN x44))] (by kernel_rfl) ?_
            refine gc_seq ?_
            refine gc_seq ?_
            refine gc_reg ?_
            by_cases c106 : (uN x44) = true
            · refine tq 77 (.bool (uN x44)) (.bool true) (congrArg Value.bool c106) ?_
              refine gl_nil ?_
              refine ge_then ?_
              refine gc_yes ?_
              refine gc_reg ?_
              refine t 78 (pg g6) ?_
              refine tc 79 24 #[pg g6, .int .i64 8] (yU8 (s := s103) RD) ?_
              rintro _ v109 ⟨x107, s108, Ex107, rfl, RX, U⟩
              refine ⟨_, rfl, ?_⟩
              replace BB := But.below U BB (by omega) (Nat.le_refl _)
              replace Xg2 := But.blk U Xg2 (show g2 ≠ g6 by omega)
              replace Xg8 := But.blk U Xg8 (show g8 ≠ g6 by omega)
              clear U
              clear RD
              have RD := RX
              clear RX
              refine t 80 (pq g8 1) ?_
              refine t 81 (pq g8 4) ?_
              refine t 82 (pq g8 7) ?_
              refine ts Xg8 7 (.int .u64 x107) [.int .u64 x107] [.int .i64 1, .int .u64 x32, .int .u64 x36, .int .u64 x40, .int .i64 x44, .int .u64 0, .int .u64 x102, .int .u64 x107, .int .i64 0, .int .u64 0, .int .u64 0] ?_
              intro v110 Y C
              replace BB := belowC BB C (by omega)
              replace Xg2 := Xg2.chg C (show g2 ≠ g8 by omega)
              replace RD := RfA.offB RD Xg8 rfl (by omega) (chg_but C)
              clear C Xg8
              have Xg8 := Y
              clear Y
              refine gl_nil ?_
              refine ge_then ?_
              refine gc_seq ?_
              refine gc_reg ?_
              refine t 83 (pq g8 1) ?_
              refine t 84 (pq g8 4) ?_
              refine t 85 (pq g8 4) ?_
              refine tl 86 (.int .i64 x44) Xg8 4 ?_
              by_cases c111 : (x44 : Int) < 1
              · refine tq 87 (.bool (decide ((x44 : Int) < 1))) (.bool true) (congrArg Value.bool (decide_eq_true c111)) ?_
                refine t 88 (.bool true) ?_
                refine tn 89 ?_
                refine tn 90 ?_
                refine tn 91 ?_
                refine tn 92 ?_
                refine tn 93 ?_
                refine t 94 (.bool true) ?_
                refine gl_nil ?_
                refine ge_then ?_
                refine gc_fr [(2, pg g2), (3, .int .i64 0), (4, pg g6), (5, pg g8), (94, .bool true)] (by kernel_rfl) ?_
                refine gc_yes ?_
                refine gc_seq ?_
                refine gc_reg ?_
                refine t 95 (.agg #[.int .i64 0, .int .u64 0, .int .u64 0, .int .u64 0, .int .i64 0, .int .u64 0, .int .u64 0, .int .u64 0, .int .i64 0, .int .u64 0, .int .u64 0]) ?_
                refine ts Xg2 0 (.agg #[.int .i64 0, .int .u64 0, .int .u64 0, .int .u64 0, .int .i64 0, .int .u64 0, .int .u64 0, .int .u64 0, .int .i64 0, .int .u64 0, .int .u64 0]) [.int .i64 0, .int .u64 0, .int .u64 0, .int .u64 0, .int .i64 0, .int .u64 0, .int .u64 0, .int .u64 0, .int .i64 0, .int .u64 0, .int .u64 0] [.int .i64 0, .int .u64 0, .int .u64 0, .int .u64 0, .int .i64 0, .int .u64 0, .int .u64 0, .int .u64 0, .int .i64 0, .int .u64 0, .int .u64 0] ?_
                intro v112 Y C
                replace BB := belowC BB C (by omega)
                replace RD := RfA.offB RD Xg2 rfl (by omega) (chg_but C)
                replace Xg8 := Xg8.chg C (show g8 ≠ g2 by omega)
                clear C Xg2
                have Xg2 := Y
                clear Y
                refine t 3 (.int .i64 170) ?_
                refine gl_nil ?_
                refine ge_then ?_
                refine gc_ret ?_
                refine ge_br ?_
                refine ge_tr ?_
                refine ge_ret (.tuple #[.agg #[.int .i64 0, .int .u64 0, .int .u64 0, .int .u64 0, .int .i64 0, .int .u64 0, .int .u64 0, .int .u64 0, .int .i64 0, .int .u64 0, .int .u64 0], .int .i64 170]) (rsct 2 3 (T := 30) (by kernel_rfl) (by kernel_rfl) (by kernel_rfl) (lr Xg2 0)) ?_
                have E := dI_2 (l := l) (by omega) (rI_t Ex9 c30 (rT_mk Ex32 Ex36 Ex40 (rM_mk Ex44 (rq_f (Bool.eq_false_iff.2 c49)) (rq_t c101 Ex102) (rq_t c106 Ex107)))) (fun q => nokK (.inl c111) (Ok.msg q.2 rfl))
                exact ⟨by rw [← E]; rfl, BB⟩
              · refine tq 87 (.bool (decide ((x44 : Int) < 1))) (.bool false) (congrArg Value.bool (decide_eq_false c111)) ?_
                refine t 88 (.bool false) ?_
                refine t 89 (pq g8 1) ?_
                refine t 90 (pq g8 4) ?_
                refine t 91 (pq g8 4) ?_
                refine tl 92 (.int .i64 x44) Xg8 4 ?_
                by_cases c113 : (10 : Int) < x44
                · refine tq 93 (.bool (decide ((10 : Int) < x44))) (.bool true) (congrArg Value.bool (decide_eq_true c113)) ?_
                  refine t 94 (.bool true) ?_
                  refine gl_nil ?_
                  refine ge_then ?_
                  refine gc_fr [(2, pg g2), (3, .int .i64 0), (4, pg g6), (5, pg g8), (94, .bool true)] (by kernel_rfl) ?_
                  refine gc_yes ?_
                  refine gc_seq ?_
                  refine gc_reg ?_
                  refine t 95 (.agg #[.int .i64 0, .int .u64 0, .int .u64 0, .int .u64 0, .int .i64 0, .int .u64 0, .int .u64 0, .int .u64 0, .int .i64 0, .int .u64 0, .int .u64 0]) ?_
                  refine ts Xg2 0 (.agg #[.int .i64 0, .int .u64 0, .int .u64 0, .int .u64 0, .int .i64 0, .int .u64 0, .int .u64 0, .int .u64 0, .int .i64 0, .int .u64 0, .int .u64 0]) [.int .i64 0, .int .u64 0, .int .u64 0, .int .u64 0, .int .i64 0, .int .u64 0, .int .u64 0, .int .u64 0, .int .i64 0, .int .u64 0, .int .u64 0] [.int .i64 0, .int .u64 0, .int .u64 0, .int .u64 0, .int .i64 0, .int .u64 0, .int .u64 0, .int .u64 0, .int .i64 0, .int .u64 0, .int .u64 0] ?_
                  intro v114 Y C
                  replace BB := belowC BB C (by omega)
                  replace RD := RfA.offB RD Xg2 rfl (by omega) (chg_but C)
                  replace Xg8 := Xg8.chg C (show g8 ≠ g2 by omega)
                  clear C Xg2
                  have Xg2 := Y
                  clear Y
                  refine t 3 (.int .i64 170) ?_
                  refine gl_nil ?_
                  refine ge_then ?_
                  refine gc_ret ?_
                  refine ge_br ?_
                  refine ge_tr ?_
                  refine ge_ret (.tuple #[.agg #[.int .i64 0, .int .u64 0, .int .u64 0, .int .u64 0, .int .i64 0, .int .u64 0, .int .u64 0, .int .u64 0, .int .i64 0, .int .u64 0, .int .u64 0], .int .i64 170]) (rsct 2 3 (T := 30) (by kernel_rfl) (by kernel_rfl) (by kernel_rfl) (lr Xg2 0)) ?_
                  have E := dI_2 (l := l) (by omega) (rI_t Ex9 c30 (rT_mk Ex32 Ex36 Ex40 (rM_mk Ex44 (rq_f (Bool.eq_false_iff.2 c49)) (rq_t c101 Ex102) (rq_t c106 Ex107)))) (fun q => nokK (.inr c113) (Ok.msg q.2 rfl))
                  exact ⟨by rw [← E]; rfl, BB⟩
                · refine tq 93 (.bool (decide ((10 : Int) < x44))) (.bool false) (congrArg Value.bool (decide_eq_false c113)) ?_
                  refine t 94 (.bool false) ?_
                  refine gl_nil ?_
                  refine ge_then ?_
                  refine gc_fr [(2, pg g2), (3, .int .i64 0), (4, pg g6), (5, pg g8), (94, .bool false)] (by kernel_rfl) ?_
                  refine gc_no ?_
                  refine gc_skip ?_
                  refine ge_bn ?_
                  refine ge_then ?_
                  refine gc_seq ?_
                  refine gc_seq ?_
                  refine gc_reg ?_
                  refine t 96 (pg g6) ?_
                  refine tc 97 25 #[pg g6] (rfEnd RD) ?_
                  rintro _ v115 ⟨rfl, RX, U⟩
                  refine ⟨_, rfl, ?_⟩
                  replace BB := But.below U BB (by omega) (Nat.le_refl _)
                  replace Xg2 := But.blk U Xg2 (show g2 ≠ g6 by omega)
                  replace Xg8 := But.blk U Xg8 (show g8 ≠ g6 by omega)
                  clear U
                  clear RD RX
                  by_cases c116 : (endE s108.1 s108.2 : Int) = 0
                  · refine tq 98 (.bool ((endE s108.1 s108.2 : Int) != 0)) (.bool false) (congrArg Value.bool (bne_eq_false_iff_eq.2 c116)) ?_
                    refine gl_nil ?_
                    refine ge_then ?_
                    refine gc_no ?_
                    refine gc_skip ?_
                    refine ge_then ?_
                    refine gc_seq ?_
                    refine gc_reg ?_
                    refine tlr 100 [.int .i64 1, .int .u64 x32, .int .u64 x36, .int .u64 x40, .int .i64 x44, .int .u64 0, .int .u64 x102, .int .u64 x107, .int .i64 0, .int .u64 0, .int .u64 0] Xg8 0 ?_
                    refine ts Xg2 0 (.agg #[.int .i64 1, .int .u64 x32, .int .u64 x36, .int .u64 x40, .int .i64 x44, .int .u64 0, .int .u64 x102, .int .u64 x107, .int .i64 0, .int .u64 0, .int .u64 0]) [.int .i64 1, .int .u64 x32, .int .u64 x36, .int .u64 x40, .int .i64 x44, .int .u64 0, .int .u64 x102, .int .u64 x107, .int .i64 0, .int .u64 0, .int .u64 0] [.int .i64 1, .int .u64 x32, .int .u64 x36, .int .u64 x40, .int .i64 x44, .int .u64 0, .int .u64 x102, .int .u64 x107, .int .i64 0, .int .u64 0, .int .u64 0] ?_
                    intro v117 Y C
                    replace BB := belowC BB C (by omega)
                    replace Xg8 := Xg8.chg C (show g8 ≠ g2 by omega)
                    clear C Xg2
                    have Xg2 := Y
                    clear Y
                    refine t 3 (.int .i64 0) ?_
                    refine gl_nil ?_
                    refine ge_then ?_
                    clear Xg8
                    refine gc_ret ?_
                    refine ge_ret (.tuple #[.agg #[.int .i64 1, .int .u64 x32, .int .u64 x36, .int .u64 x40, .int .i64 x44, .int .u64 0, .int .u64 x102, .int .u64 x107, .int .i64 0, .int .u64 0, .int .u64 0], .int .i64 0]) (rsct 2 3 (T := 30) (by kernel_rfl) (by kernel_rfl) (by kernel_rfl) (lr Xg2 0)) ?_
                    have E := dI_3 (l := l) (by omega) (rI_t Ex9 c30 (rT_mk Ex32 Ex36 Ex40 (rM_mk Ex44 (rq_f (Bool.eq_false_iff.2 c49)) (rq_t c101 Ex102) (rq_t c106 Ex107)))) ⟨c116, .inl ⟨rfl, ⟨rfl, rfl, rfl⟩, okM_mk ⟨Int.not_lt.1 c111, Int.not_lt.1 c113⟩ (.inr rfl) (.inl c101) (.inl c106)⟩⟩
                    exact ⟨by rw [← E]; rfl, BB⟩
                  · refine tq 98 (.bool ((endE s108.1 s108.2 : Int) != 0)) (.bool true) (congrArg Value.bool (bne_iff_ne.2 c116)) ?_
                    refine gl_nil ?_
                    refine ge_then ?_
                    refine gc_yes ?_
                    refine gc_seq ?_
                    refine gc_reg ?_
                    refine t 99 (.agg #[.int .i64 0, .int .u64 0, .int .u64 0, .int .u64 0, .int .i64 0, .int .u64 0, .int .u64 0, .int .u64 0, .int .i64 0, .int .u64 0, .int .u64 0]) ?_
                    refine ts Xg2 0 (.agg #[.int .i64 0, .int .u64 0, .int .u64 0, .int .u64 0, .int .i64 0, .int .u64 0, .int .u64 0, .int .u64 0, .int .i64 0, .int .u64 0, .int .u64 0]) [.int .i64 0, .int .u64 0, .int .u64 0, .int .u64 0, .int .i64 0, .int .u64 0, .int .u64 0, .int .u64 0, .int .i64 0, .int .u64 0, .int .u64 0] [.int .i64 0, .int .u64 0, .int .u64 0, .int .u64 0, .int .i64 0, .int .u64 0, .int .u64 0, .int .u64 0, .int .i64 0, .int .u64 0, .int .u64 0] ?_
                    intro v118 Y C
                    replace BB := belowC BB C (by omega)
                    replace Xg8 := Xg8.chg C (show g8 ≠ g2 by omega)
                    clear C Xg2
                    have Xg2 := Y
                    clear Y
                    refine t 3 (.int .i64 170) ?_
                    refine gl_nil ?_
                    refine ge_then ?_
                    refine gc_ret ?_
                    refine ge_tr ?_
                    refine ge_ret (.tuple #[.agg #[.int .i64 0, .int .u64 0, .int .u64 0, .int .u64 0, .int .i64 0, .int .u64 0, .int .u64 0, .int .u64 0, .int .i64 0, .int .u64 0, .int .u64 0], .int .i64 170]) (rsct 2 3 (T := 30) (by kernel_rfl) (by kernel_rfl) (by kernel_rfl) (lr Xg2 0)) ?_
                    have E := dI_2 (l := l) (by omega) (rI_t Ex9 c30 (rT_mk Ex32 Ex36 Ex40 (rM_mk Ex44 (rq_f (Bool.eq_false_iff.2 c49)) (rq_t c101 Ex102) (rq_t c106 Ex107)))) (fun q => c116 q.1)
                    exact ⟨by rw [← E]; rfl, BB⟩
            · refine tq 77 (.bool (uN x44)) (.bool false) (congrArg Value.bool (Bool.eq_false_iff.2 c106)) ?_
              refine gl_nil ?_
              refine ge_then ?_
              refine gc_no ?_
              refine gc_skip ?_
              refine ge_then ?_
              refine gc_seq ?_
              refine gc_reg ?_
              refine t 83 (pq g8 1) ?_
              refine t 84 (pq g8 4) ?_
              refine t 85 (pq g8 4) ?_
              refine tl 86 (.int .i64 x44) Xg8 4 ?_
              by_cases c119 : (x44 : Int) < 1
              · refine tq 87 (.bool (decide ((x44 : Int) < 1))) (.bool true) (congrArg Value.bool (decide_eq_true c119)) ?_
                refine t 88 (.bool true) ?_
                refine tn 89 ?_
                refine tn 90 ?_
                refine tn 91 ?_
                refine tn 92 ?_
                refine tn 93 ?_
                refine t 94 (.bool true) ?_
                refine gl_nil ?_
                refine ge_then ?_
                refine gc_yes ?_
                refine gc_seq ?_
                refine gc_reg ?_
                refine t 95 (.agg #[.int .i64 0, .int .u64 0, .int .u64 0, .int .u64 0, .int .i64 0, .int .u64 0, .int .u64 0, .int .u64 0, .int .i64 0, .int .u64 0, .int .u64 0]) ?_
                refine ts Xg2 0 (.agg #[.int .i64 0, .int .u64 0, .int .u64 0, .int .u64 0, .int .i64 0, .int .u64 0, .int .u64 0, .int .u64 0, .int .i64 0, .int .u64 0, .int .u64 0]) [.int .i64 0, .int .u64 0, .int .u64 0, .int .u64 0, .int .i64 0, .int .u64 0, .int .u64 0, .int .u64 0, .int .i64 0, .int .u64 0, .int .u64 0] [.int .i64 0, .int .u64 0, .int .u64 0, .int .u64 0, .int .i64 0, .int .u64 0, .int .u64 0, .int .u64 0, .int .i64 0, .int .u64 0, .int .u64 0] ?_
                intro v120 Y C
                replace BB := belowC BB C (by omega)
                replace RD := RfA.offB RD Xg2 rfl (by omega) (chg_but C)
                replace Xg8 := Xg8.chg C (show g8 ≠ g2 by omega)
                clear C Xg2
                have Xg2 := Y
                clear Y
                refine t 3 (.int .i64 170) ?_
                refine gl_nil ?_
                refine ge_then ?_
                refine gc_ret ?_
                refine ge_br ?_
                refine ge_tr ?_
                refine ge_ret (.tuple #[.agg #[.int .i64 0, .int .u64 0, .int .u64 0, .int .u64 0, .int .i64 0, .int .u64 0, .int .u64 0, .int .u64 0, .int .i64 0, .int .u64 0, .int .u64 0], .int .i64 170]) (rsct 2 3 (T := 30) (by kernel_rfl) (by kernel_rfl) (by kernel_rfl) (lr Xg2 0)) ?_
                have E := dI_2 (l := l) (by omega) (rI_t Ex9 c30 (rT_mk Ex32 Ex36 Ex40 (rM_mk Ex44 (rq_f (Bool.eq_false_iff.2 c49)) (rq_t c101 Ex102) (rq_f (Bool.eq_false_iff.2 c106))))) (fun q => nokK (.inl c119) (Ok.msg q.2 rfl))
                exact ⟨by rw [← E]; rfl, BB⟩
              · refine tq 87 (.bool (decide ((x44 : Int) < 1))) (.bool false) (congrArg Value.bool (decide_eq_false c119)) ?_
                refine t 88 (.bool false) ?_
                refine t 89 (pq g8 1) ?_
                refine t 90 (pq g8 4) ?_
                refine t 91 (pq g8 4) ?_
                refine tl 92 (.int .i64 x44) Xg8 4 ?_
                by_cases c121 : (10 : Int) < x44
                · refine tq 93 (.bool (decide ((10 : Int) < x44))) (.bool true) (congrArg Value.bool (decide_eq_true c121)) ?_
                  refine t 94 (.bool true) ?_
                  refine gl_nil ?_
                  refine ge_then ?_
                  refine gc_yes ?_
                  refine gc_seq ?_
                  refine gc_reg ?_
                  refine t 95 (.agg #[.int .i64 0, .int .u64 0, .int .u64 0, .int .u64 0, .int .i64 0, .int .u64 0, .int .u64 0, .int .u64 0, .int .i64 0, .int .u64 0, .int .u64 0]) ?_
                  refine ts Xg2 0 (.agg #[.int .i64 0, .int .u64 0, .int .u64 0, .int .u64 0, .int .i64 0, .int .u64 0, .int .u64 0, .int .u64 0, .int .i64 0, .int .u64 0, .int .u64 0]) [.int .i64 0, .int .u64 0, .int .u64 0, .int .u64 0, .int .i64 0, .int .u64 0, .int .u64 0, .int .u64 0, .int .i64 0, .int .u64 0, .int .u64 0] [.int .i64 0, .int .u64 0, .int .u64 0, .int .u64 0, .int .i64 0, .int .u64 0, .int .u64 0, .int .u64 0, .int .i64 0, .int .u64 0, .int .u64 0] ?_
                  intro v122 Y C
                  replace BB := belowC BB C (by omega)
                  replace RD := RfA.offB RD Xg2 rfl (by omega) (chg_but C)
                  replace Xg8 := Xg8.chg C (show g8 ≠ g2 by omega)
                  clear C Xg2
                  have Xg2 := Y
                  clear Y
                  refine t 3 (.int .i64 170) ?_
                  refine gl_nil ?_
                  refine ge_then ?_
                  refine gc_ret ?_
                  refine ge_br ?_
                  refine ge_tr ?_
                  refine ge_ret (.tuple #[.agg #[.int .i64 0, .int .u64 0, .int .u64 0, .int .u64 0, .int .i64 0, .int .u64 0, .int .u64 0, .int .u64 0, .int .i64 0, .int .u64 0, .int .u64 0], .int .i64 170]) (rsct 2 3 (T := 30) (by kernel_rfl) (by kernel_rfl) (by kernel_rfl) (lr Xg2 0)) ?_
                  have E := dI_2 (l := l) (by omega) (rI_t Ex9 c30 (rT_mk Ex32 Ex36 Ex40 (rM_mk Ex44 (rq_f (Bool.eq_false_iff.2 c49)) (rq_t c101 Ex102) (rq_f (Bool.eq_false_iff.2 c106))))) (fun q => nokK (.inr c121) (Ok.msg q.2 rfl))
                  exact ⟨by rw [← E]; rfl, BB⟩
                · refine tq 93 (.bool (decide ((10 : Int) < x44))) (.bool false) (congrArg Value.bool (decide_eq_false c121)) ?_
                  refine t 94 (.bool false) ?_
                  refine gl_nil ?_
                  refine ge_then ?_
                  refine gc_no ?_
                  refine gc_skip ?_
                  refine ge_bn ?_
                  refine ge_then ?_
                  refine gc_seq ?_
                  refine gc_seq ?_
                  refine gc_reg ?_
                  refine t 96 (pg g6) ?_
                  refine tc 97 25 #[pg g6] (rfEnd RD) ?_
                  rintro _ v123 ⟨rfl, RX, U⟩
                  refine ⟨_, rfl, ?_⟩
                  replace BB := But.below U BB (by omega) (Nat.le_refl _)
                  replace Xg2 := But.blk U Xg2 (show g2 ≠ g6 by omega)
                  replace Xg8 := But.blk U Xg8 (show g8 ≠ g6 by omega)
                  clear U
                  clear RD RX
                  by_cases c124 : (endE s103.1 s103.2 : Int) = 0
                  · refine tq 98 (.bool ((endE s103.1 s103.2 : Int) != 0)) (.bool false) (congrArg Value.bool (bne_eq_false_iff_eq.2 c124)) ?_
                    refine gl_nil ?_
                    refine ge_then ?_
                    refine gc_fr [(2, pg g2), (3, .int .i64 0), (5, pg g8), (98, .bool false)] (by kernel_rfl) ?_
                    refine gc_no ?_
                    refine gc_skip ?_
                    refine ge_then ?_
                    refine gc_seq ?_
                    refine gc_reg ?_
                    refine tlr 100 [.int .i64 1, .int .u64 x32, .int .u64 x36, .int .u64 x40, .int .i64 x44, .int .u64 0, .int .u64 x102, .int .u64 0, .int .i64 0, .int .u64 0, .int .u64 0] Xg8 0 ?_
                    refine ts Xg2 0 (.agg #[.int .i64 1, .int .u64 x32, .int .u64 x36, .int .u64 x40, .int .i64 x44, .int .u64 0, .int .u64 x102, .int .u64 0, .int .i64 0, .int .u64 0, .int .u64 0]) [.int .i64 1, .int .u64 x32, .int .u64 x36, .int .u64 x40, .int .i64 x44, .int .u64 0, .int .u64 x102, .int .u64 0, .int .i64 0, .int .u64 0, .int .u64 0] [.int .i64 1, .int .u64 x32, .int .u64 x36, .int .u64 x40, .int .i64 x44, .int .u64 0, .int .u64 x102, .int .u64 0, .int .i64 0, .int .u64 0, .int .u64 0] ?_
                    intro v125 Y C
                    replace BB := belowC BB C (by omega)
                    replace Xg8 := Xg8.chg C (show g8 ≠ g2 by omega)
                    clear C Xg2
                    have Xg2 := Y
                    clear Y
                    refine t 3 (.int .i64 0) ?_
                    refine gl_nil ?_
                    refine ge_then ?_
                    clear Xg8
                    refine gc_ret ?_
                    refine ge_ret (.tuple #[.agg #[.int .i64 1, .int .u64 x32, .int .u64 x36, .int .u64 x40, .int .i64 x44, .int .u64 0, .int .u64 x102, .int .u64 0, .int .i64 0, .int .u64 0, .int .u64 0], .int .i64 0]) (rsct 2 3 (T := 30) (by kernel_rfl) (by kernel_rfl) (by kernel_rfl) (lr Xg2 0)) ?_
                    have E := dI_3 (l := l) (by omega) (rI_t Ex9 c30 (rT_mk Ex32 Ex36 Ex40 (rM_mk Ex44 (rq_f (Bool.eq_false_iff.2 c49)) (rq_t c101 Ex102) (rq_f (Bool.eq_false_iff.2 c106))))) ⟨c124, .inl ⟨rfl, ⟨rfl, rfl, rfl⟩, okM_mk ⟨Int.not_lt.1 c119, Int.not_lt.1 c121⟩ (.inr rfl) (.inl c101) (.inr rfl)⟩⟩
                    exact ⟨by rw [← E]; rfl, BB⟩
                  · refine tq 98 (.bool ((endE s103.1 s103.2 : Int) != 0)) (.bool true) (congrArg Value.bool (bne_iff_ne.2 c124)) ?_
                    refine gl_nil ?_
                    refine ge_then ?_
                    refine gc_fr [(2, pg g2), (3, .int .i64 0), (5, pg g8), (98, .bool true)] (by kernel_rfl) ?_
                    refine gc_yes ?_
                    refine gc_seq ?_
                    refine gc_reg ?_
                    refine t 99 (.agg #[.int .i64 0, .int .u64 0, .int .u64 0, .int .u64 0, .int .i64 0, .int .u64 0, .int .u64 0, .int .u64 0, .int .i64 0, .int .u64 0, .int .u64 0]) ?_
                    refine ts Xg2 0 (.agg #[.int .i64 0, .int .u64 0, .int .u64 0, .int .u64 0, .int .i64 0, .int .u64 0, .int .u64 0, .int .u64 0, .int .i64 0, .int .u64 0, .int .u64 0]) [.int .i64 0, .int .u64 0, .int .u64 0, .int .u64 0, .int .i64 0, .int .u64 0, .int .u64 0, .int .u64 0, .int .i64 0, .int .u64 0, .int .u64 0] [.int .i64 0, .int .u64 0, .int .u64 0, .int .u64 0, .int .i64 0, .int .u64 0, .int .u64 0, .int .u64 0, .int .i64 0, .int .u64 0, .int .u64 0] ?_
                    intro v126 Y C
                    replace BB := belowC BB C (by omega)
                    replace Xg8 := Xg8.chg C (show g8 ≠ g2 by omega)
                    clear C Xg2
                    have Xg2 := Y
                    clear Y
                    refine t 3 (.int .i64 170) ?_
                    refine gl_nil ?_
                    refine ge_then ?_
                    refine gc_ret ?_
                    refine ge_tr ?_
                    refine ge_ret (.tuple #[.agg #[.int .i64 0, .int .u64 0, .int .u64 0, .int .u64 0, .int .i64 0, .int .u64 0, .int .u64 0, .int .u64 0, .int .i64 0, .int .u64 0, .int .u64 0], .int .i64 170]) (rsct 2 3 (T := 30) (by kernel_rfl) (by kernel_rfl) (by kernel_rfl) (lr Xg2 0)) ?_
                    have E := dI_2 (l := l) (by omega) (rI_t Ex9 c30 (rT_mk Ex32 Ex36 Ex40 (rM_mk Ex44 (rq_f (Bool.eq_false_iff.2 c49)) (rq_t c101 Ex102) (rq_f (Bool.eq_false_iff.2 c106))))) (fun q => c124 q.1)
                    exact ⟨by rw [← E]; rfl, BB⟩
          · refine tq 71 (.bool (uB x44)) (.bool false) (congrArg Value.bool (Bool.eq_false_iff.2 c101)) ?_
            refine gl_nil ?_
            refine ge_then ?_
            refine gc_no ?_
            refine gc_skip ?_
            refine ge_then ?_
            refine gc_seq ?_
            refine gc_seq ?_
            refine gc_reg ?_
            by_cases c127 : (uN x44) = true
            · refine tq 77 (.bool (uN x44)) (.bool true) (congrArg Value.bool c127) ?_
              refine gl_nil ?_
              refine ge_then ?_
              refine gc_yes ?_
              refine gc_reg ?_
              refine t 78 (pg g6) ?_
              refine tc 79 24 #[pg g6, .int .i64 8] (yU8 (s := s45) RD) ?_
              rintro _ v130 ⟨x128, s129, Ex128, rfl, RX, U⟩
              refine ⟨_, rfl, ?_⟩
              replace BB := But.below U BB (by omega) (Nat.le_refl _)
              replace Xg2 := But.blk U Xg2 (show g2 ≠ g6 by omega)
              replace Xg8 := But.blk U Xg8 (show g8 ≠ g6 by omega)
              clear U
              clear RD
              have RD := RX
              clear RX
              refine t 80 (pq g8 1) ?_
              refine t 81 (pq g8 4) ?_
              refine t 82 (pq g8 7) ?_
              refine ts Xg8 7 (.int .u64 x128) [.int .u64 x128] [.int .i64 1, .int .u64 x32, .int .u64 x36, .int .u64 x40, .int .i64 x44, .int .u64 0, .int .u64 0, .int .u64 x128, .int .i64 0, .int .u64 0, .int .u64 0] ?_
              intro v131 Y C
              replace BB := belowC BB C (by omega)
              replace Xg2 := Xg2.chg C (show g2 ≠ g8 by omega)
              replace RD := RfA.offB RD Xg8 rfl (by omega) (chg_but C)
              clear C Xg8
              have Xg8 := Y
              clear Y
              refine gl_nil ?_
              refine ge_then ?_
              refine gc_fr [(2, pg g2), (3, .int .i64 0), (4, pg g6), (5, pg g8)] (by kernel_rfl) ?_
              refine gc_seq ?_
              refine gc_reg ?_
              refine t 83 (pq g8 1) ?_
              refine t 84 (pq g8 4) ?_
              refine t 85 (pq g8 4) ?_
              refine tl 86 (.int .i64 x44) Xg8 4 ?_
              by_cases c132 : (x44 : Int) < 1
              · refine tq 87 (.bool (decide ((x44 : Int) < 1))) (.bool true) (congrArg Value.bool (decide_eq_true c132)) ?_
                refine t 88 (.bool true) ?_
                refine tn 89 ?_
                refine tn 90 ?_
                refine tn 91 ?_
                refine tn 92 ?_
                refine tn 93 ?_
                refine t 94 (.bool true) ?_
                refine gl_nil ?_
                refine ge_then ?_
                refine gc_yes ?_
                refine gc_seq ?_
                refine gc_reg ?_
                refine t 95 (.agg #[.int .i64 0, .int .u64 0, .int .u64 0, .int .u64 0, .int .i64 0, .int .u64 0, .int .u64 0, .int .u64 0, .int .i64 0, .int .u64 0, .int .u64 0]) ?_
                refine ts Xg2 0 (.agg #[.int .i64 0, .int .u64 0, .int .u64 0, .int .u64 0, .int .i64 0, .int .u64 0, .int .u64 0, .int .u64 0, .int .i64 0, .int .u64 0, .int .u64 0]) [.int .i64 0, .int .u64 0, .int .u64 0, .int .u64 0, .int .i64 0, .int .u64 0, .int .u64 0, .int .u64 0, .int .i64 0, .int .u64 0, .int .u64 0] [.int .i64 0, .int .u64 0, .int .u64 0, .int .u64 0, .int .i64 0, .int .u64 0, .int .u64 0, .int .u64 0, .int .i64 0, .int .u64 0, .int .u64 0] ?_
                intro v133 Y C
                replace BB := belowC BB C (by omega)
                replace RD := RfA.offB RD Xg2 rfl (by omega) (chg_but C)
                replace Xg8 := Xg8.chg C (show g8 ≠ g2 by omega)
                clear C Xg2
                have Xg2 := Y
                clear Y
                refine t 3 (.int .i64 170) ?_
                refine gl_nil ?_
                refine ge_then ?_
                refine gc_ret ?_
                refine ge_br ?_
                refine ge_tr ?_
                refine ge_ret (.tuple #[.agg #[.int .i64 0, .int .u64 0, .int .u64 0, .int .u64 0, .int .i64 0, .int .u64 0, .int .u64 0, .int .u64 0, .int .i64 0, .int .u64 0, .int .u64 0], .int .i64 170]) (rsct 2 3 (T := 30) (by kernel_rfl) (by kernel_rfl) (by kernel_rfl) (lr Xg2 0)) ?_
                have E := dI_2 (l := l) (by omega) (rI_t Ex9 c30 (rT_mk Ex32 Ex36 Ex40 (rM_mk Ex44 (rq_f (Bool.eq_false_iff.2 c49)) (rq_f (Bool.eq_false_iff.2 c101)) (rq_t c127 Ex128)))) (fun q => nokK (.inl c132) (Ok.msg q.2 rfl))
                exact ⟨by rw [← E]; rfl, BB⟩
              · refine tq 87 (.bool (decide ((x44 : Int) < 1))) (.bool false) (congrArg Value.bool (decide_eq_false c132)) ?_
                refine t 88 (.bool false) ?_
                refine t 89 (pq g8 1) ?_
                refine t 90 (pq g8 4) ?_
                refine t 91 (pq g8 4) ?_
                refine tl 92 (.int .i64 x44) Xg8 4 ?_
                by_cases c134 : (10 : Int) < x44
                · refine tq 93 (.bool (decide ((10 : Int) < x44))) (.bool true) (congrArg Value.bool (decide_eq_true c134)) ?_
                  refine t 94 (.bool true) ?_
                  refine gl_nil ?_
                  refine ge_then ?_
                  refine gc_yes ?_
                  refine gc_seq ?_
                  refine gc_reg ?_
                  refine t 95 (.agg #[.int .i64 0, .int .u64 0, .int .u64 0, .int .u64 0, .int .i64 0, .int .u64 0, .int .u64 0, .int .u64 0, .int .i64 0, .int .u64 0, .int .u64 0]) ?_
                  refine ts Xg2 0 (.agg #[.int .i64 0, .int .u64 0, .int .u64 0, .int .u64 0, .int .i64 0, .int .u64 0, .int .u64 0, .int .u64 0, .int .i64 0, .int .u64 0, .int .u64 0]) [.int .i64 0, .int .u64 0, .int .u64 0, .int .u64 0, .int .i64 0, .int .u64 0, .int .u64 0, .int .u64 0, .int .i64 0, .int .u64 0, .int .u64 0] [.int .i64 0, .int .u64 0, .int .u64 0, .int .u64 0, .int .i64 0, .int .u64 0, .int .u64 0, .int .u64 0, .int .i64 0, .int .u64 0, .int .u64 0] ?_
                  intro v135 Y C
                  replace BB := belowC BB C (by omega)
                  replace RD := RfA.offB RD Xg2 rfl (by omega) (chg_but C)
                  replace Xg8 := Xg8.chg C (show g8 ≠ g2 by omega)
                  clear C Xg2
                  have Xg2 := Y
                  clear Y
                  refine t 3 (.int .i64 170) ?_
                  refine gl_nil ?_
                  refine ge_then ?_
                  refine gc_ret ?_
                  refine ge_br ?_
                  refine ge_tr ?_
                  refine ge_ret (.tuple #[.agg #[.int .i64 0, .int .u64 0, .int .u64 0, .int .u64 0, .int .i64 0, .int .u64 0, .int .u64 0, .int .u64 0, .int .i64 0, .int .u64 0, .int .u64 0], .int .i64 170]) (rsct 2 3 (T := 30) (by kernel_rfl) (by kernel_rfl) (by kernel_rfl) (lr Xg2 0)) ?_
                  have E := dI_2 (l := l) (by omega) (rI_t Ex9 c30 (rT_mk Ex32 Ex36 Ex40 (rM_mk Ex44 (rq_f (Bool.eq_false_iff.2 c49)) (rq_f (Bool.eq_false_iff.2 c101)) (rq_t c127 Ex128)))) (fun q => nokK (.inr c134) (Ok.msg q.2 rfl))
                  exact ⟨by rw [← E]; rfl, BB⟩
                · refine tq 93 (.bool (decide ((10 : Int) < x44))) (.bool false) (congrArg Value.bool (decide_eq_false c134)) ?_
                  refine t 94 (.bool false) ?_
                  refine gl_nil ?_
                  refine ge_then ?_
                  refine gc_no ?_
                  refine gc_skip ?_
                  refine ge_bn ?_
                  refine ge_then ?_
                  refine gc_seq ?_
                  refine gc_seq ?_
                  refine gc_reg ?_
                  refine t 96 (pg g6) ?_
                  refine tc 97 25 #[pg g6] (rfEnd RD) ?_
                  rintro _ v136 ⟨rfl, RX, U⟩
                  refine ⟨_, rfl, ?_⟩
                  replace BB := But.below U BB (by omega) (Nat.le_refl _)
                  replace Xg2 := But.blk U Xg2 (show g2 ≠ g6 by omega)
                  replace Xg8 := But.blk U Xg8 (show g8 ≠ g6 by omega)
                  clear U
                  clear RD RX
                  by_cases c137 : (endE s129.1 s129.2 : Int) = 0
                  · refine tq 98 (.bool ((endE s129.1 s129.2 : Int) != 0)) (.bool false) (congrArg Value.bool (bne_eq_false_iff_eq.2 c137)) ?_
                    refine gl_nil ?_
                    refine ge_then ?_
                    refine gc_no ?_
                    refine gc_skip ?_
                    refine ge_then ?_
                    refine gc_seq ?_
                    refine gc_reg ?_
                    refine tlr 100 [.int .i64 1, .int .u64 x32, .int .u64 x36, .int .u64 x40, .int .i64 x44, .int .u64 0, .int .u64 0, .int .u64 x128, .int .i64 0, .int .u64 0, .int .u64 0] Xg8 0 ?_
                    refine ts Xg2 0 (.agg #[.int .i64 1, .int .u64 x32, .int .u64 x36, .int .u64 x40, .int .i64 x44, .int .u64 0, .int .u64 0, .int .u64 x128, .int .i64 0, .int .u64 0, .int .u64 0]) [.int .i64 1, .int .u64 x32, .int .u64 x36, .int .u64 x40, .int .i64 x44, .int .u64 0, .int .u64 0, .int .u64 x128, .int .i64 0, .int .u64 0, .int .u64 0] [.int .i64 1, .int .u64 x32, .int .u64 x36, .int .u64 x40, .int .i64 x44, .int .u64 0, .int .u64 0, .int .u64 x128, .int .i64 0, .int .u64 0, .int .u64 0] ?_
                    intro v138 Y C
                    replace BB := belowC BB C (by omega)
                    replace Xg8 := Xg8.chg C (show g8 ≠ g2 by omega)
                    clear C Xg2
                    have Xg2 := Y
                    clear Y
                    refine t 3 (.int .i64 0) ?_
                    refine gl_nil ?_
                    refine ge_then ?_
                    clear Xg8
                    refine gc_fr [(2, pg g2), (3, .int .i64 0)] (by kernel_rfl) ?_
                    refine gc_ret ?_
                    refine ge_ret (.tuple #[.agg #[.int .i64 1, .int .u64 x32, .int .u64 x36, .int .u64 x40, .int .i64 x44, .int .u64 0, .int .u64 0, .int .u64 x128, .int .i64 0, .int .u64 0, .int .u64 0], .int .i64 0]) (rsct 2 3 (T := 30) (by kernel_rfl) (by kernel_rfl) (by kernel_rfl) (lr Xg2 0)) ?_
                    have E := dI_3 (l := l) (by omega) (rI_t Ex9 c30 (rT_mk Ex32 Ex36 Ex40 (rM_mk Ex44 (rq_f (Bool.eq_false_iff.2 c49)) (rq_f (Bool.eq_false_iff.2 c101)) (rq_t c127 Ex128)))) ⟨c137, .inl ⟨rfl, ⟨rfl, rfl, rfl⟩, okM_mk ⟨Int.not_lt.1 c132, Int.not_lt.1 c134⟩ (.inr rfl) (.inr rfl) (.inl c127)⟩⟩
                    exact ⟨by rw [← E]; rfl, BB⟩
                  · refine tq 98 (.bool ((endE s129.1 s129.2 : Int) != 0)) (.bool true) (congrArg Value.bool (bne_iff_ne.2 c137)) ?_
                    refine gl_nil ?_
                    refine ge_then ?_
                    refine gc_yes ?_
                    refine gc_seq ?_
                    refine gc_reg ?_
                    refine t 99 (.agg #[.int .i64 0, .int .u64 0, .int .u64 0, .int .u64 0, .int .i64 0, .int .u64 0, .int .u64 0, .int .u64 0, .int .i64 0, .int .u64 0, .int .u64 0]) ?_
                    refine ts Xg2 0 (.agg #[.int .i64 0, .int .u64 0, .int .u64 0, .int .u64 0, .int .i64 0, .int .u64 0, .int .u64 0, .int .u64 0, .int .i64 0, .int .u64 0, .int .u64 0]) [.int .i64 0, .int .u64 0, .int .u64 0, .int .u64 0, .int .i64 0, .int .u64 0, .int .u64 0, .int .u64 0, .int .i64 0, .int .u64 0, .int .u64 0] [.int .i64 0, .int .u64 0, .int .u64 0, .int .u64 0, .int .i64 0, .int .u64 0, .int .u64 0, .int .u64 0, .int .i64 0, .int .u64 0, .int .u64 0] ?_
                    intro v139 Y C
                    replace BB := belowC BB C (by omega)
                    replace Xg8 := Xg8.chg C (show g8 ≠ g2 by omega)
                    clear C Xg2
                    have Xg2 := Y
                    clear Y
                    refine t 3 (.int .i64 170) ?_
                    refine gl_nil ?_
                    refine ge_then ?_
                    refine gc_fr [(2, pg g2), (3, .int .i64 170), (5, pg g8)] (by kernel_rfl) ?_
                    refine gc_ret ?_
                    refine ge_tr ?_
                    refine ge_ret (.tuple #[.agg #[.int .i64 0, .int .u64 0, .int .u64 0, .int .u64 0, .int .i64 0, .int .u64 0, .int .u64 0, .int .u64 0, .int .i64 0, .int .u64 0, .int .u64 0], .int .i64 170]) (rsct 2 3 (T := 30) (by kernel_rfl) (by kernel_rfl) (by kernel_rfl) (lr Xg2 0)) ?_
                    have E := dI_2 (l := l) (by omega) (rI_t Ex9 c30 (rT_mk Ex32 Ex36 Ex40 (rM_mk Ex44 (rq_f (Bool.eq_false_iff.2 c49)) (rq_f (Bool.eq_false_iff.2 c101)) (rq_t c127 Ex128)))) (fun q => c137 q.1)
                    exact ⟨by rw [← E]; rfl, BB⟩
            · refine tq 77 (.bool (uN x44)) (.bool false) (congrArg Value.bool (Bool.eq_false_iff.2 c127)) ?_
              refine gl_nil ?_
              refine ge_then ?_
              refine gc_no ?_
              refine gc_skip ?_
              refine ge_then ?_
              refine gc_seq ?_
              refine gc_reg ?_
              refine t 83 (pq g8 1) ?_
              refine t 84 (pq g8 4) ?_
              refine t 85 (pq g8 4) ?_
              refine tl 86 (.int .i64 x44) Xg8 4 ?_
              by_cases c140 : (x44 : Int) < 1
              · refine tq 87 (.bool (decide ((x44 : Int) < 1))) (.bool true) (congrArg Value.bool (decide_eq_true c140)) ?_
                refine t 88 (.bool true) ?_
                refine tn 89 ?_
                refine tn 90 ?_
                refine tn 91 ?_
                refine tn 92 ?_
                refine tn 93 ?_
                refine t 94 (.bool true) ?_
                refine gl_nil ?_
                refine ge_then ?_
                refine gc_fr [(2, pg g2), (3, .int .i64 0), (4, pg g6), (5, pg g8), (94, .bool true)] (by kernel_rfl) ?_
                refine gc_yes ?_
                refine gc_seq ?_
                refine gc_reg ?_
                refine t 95 (.agg #[.int .i64 0, .int .u64 0, .int .u64 0, .int .u64 0, .int .i64 0, .int .u64 0, .int .u64 0, .int .u64 0, .int .i64 0, .int .u64 0, .int .u64 0]) ?_
                refine ts Xg2 0 (.agg #[.int .i64 0, .int .u64 0, .int .u64 0, .int .u64 0, .int .i64 0, .int .u64 0, .int .u64 0, .int .u64 0, .int .i64 0, .int .u64 0, .int .u64 0]) [.int .i64 0, .int .u64 0, .int .u64 0, .int .u64 0, .int .i64 0, .int .u64 0, .int .u64 0, .int .u64 0, .int .i64 0, .int .u64 0, .int .u64 0] [.int .i64 0, .int .u64 0, .int .u64 0, .int .u64 0, .int .i64 0, .int .u64 0, .int .u64 0, .int .u64 0, .int .i64 0, .int .u64 0, .int .u64 0] ?_
                intro v141 Y C
                replace BB := belowC BB C (by omega)
                replace RD := RfA.offB RD Xg2 rfl (by omega) (chg_but C)
                replace Xg8 := Xg8.chg C (show g8 ≠ g2 by omega)
                clear C Xg2
                have Xg2 := Y
                clear Y
                refine t 3 (.int .i64 170) ?_
                refine gl_nil ?_
                refine ge_then ?_
                refine gc_ret ?_
                refine ge_br ?_
                refine ge_tr ?_
                refine ge_ret (.tuple #[.agg #[.int .i64 0, .int .u64 0, .int .u64 0, .int .u64 0, .int .i64 0, .int .u64 0, .int .u64 0, .int .u64 0, .int .i64 0, .int .u64 0, .int .u64 0], .int .i64 170]) (rsct 2 3 (T := 30) (by kernel_rfl) (by kernel_rfl) (by kernel_rfl) (lr Xg2 0)) ?_
                have E := dI_2 (l := l) (by omega) (rI_t Ex9 c30 (rT_mk Ex32 Ex36 Ex40 (rM_mk Ex44 (rq_f (Bool.eq_false_iff.2 c49)) (rq_f (Bool.eq_false_iff.2 c101)) (rq_f (Bool.eq_false_iff.2 c127))))) (fun q => nokK (.inl c140) (Ok.msg q.2 rfl))
                exact ⟨by rw [← E]; rfl, BB⟩
              · refine tq 87 (.bool (decide ((x44 : Int) < 1))) (.bool false) (congrArg Value.bool (decide_eq_false c140)) ?_
                refine t 88 (.bool false) ?_
                refine t 89 (pq g8 1) ?_
                refine t 90 (pq g8 4) ?_
                refine t 91 (pq g8 4) ?_
                refine tl 92 (.int .i64 x44) Xg8 4 ?_
                by_cases c142 : (10 : Int) < x44
                · refine tq 93 (.bool (decide ((10 : Int) < x44))) (.bool true) (congrArg Value.bool (decide_eq_true c142)) ?_
                  refine t 94 (.bool true) ?_
                  refine gl_nil ?_
                  refine ge_then ?_
                  refine gc_fr [(2, pg g2), (3, .int .i64 0), (4, pg g6), (5, pg g8), (94, .bool true)] (by kernel_rfl) ?_
                  refine gc_yes ?_
                  refine gc_seq ?_
                  refine gc_reg ?_
                  refine t 95 (.agg #[.int .i64 0, .int .u64 0, .int .u64 0, .int .u64 0, .int .i64 0, .int .u64 0, .int .u64 0, .int .u64 0, .int .i64 0, .int .u64 0, .int .u64 0]) ?_
                  refine ts Xg2 0 (.agg #[.int .i64 0, .int .u64 0, .int .u64 0, .int .u64 0, .int .i64 0, .int .u64 0, .int .u64 0, .int .u64 0, .int .i64 0, .int .u64 0, .int .u64 0]) [.int .i64 0, .int .u64 0, .int .u64 0, .int .u64 0, .int .i64 0, .int .u64 0, .int .u64 0, .int .u64 0, .int .i64 0, .int .u64 0, .int .u64 0] [.int .i64 0, .int .u64 0, .int .u64 0, .int .u64 0, .int .i64 0, .int .u64 0, .int .u64 0, .int .u64 0, .int .i64 0, .int .u64 0, .int .u64 0] ?_
                  intro v143 Y C
                  replace BB := belowC BB C (by omega)
                  replace RD := RfA.offB RD Xg2 rfl (by omega) (chg_but C)
                  replace Xg8 := Xg8.chg C (show g8 ≠ g2 by omega)
                  clear C Xg2
                  have Xg2 := Y
                  clear Y
                  refine t 3 (.int .i64 170) ?_
                  refine gl_nil ?_
                  refine ge_then ?_
                  refine gc_ret ?_
                  refine ge_br ?_
                  refine ge_tr ?_
                  refine ge_ret (.tuple #[.agg #[.int .i64 0, .int .u64 0, .int .u64 0, .int .u64 0, .int .i64 0, .int .u64 0, .int .u64 0, .int .u64 0, .int .i64 0, .int .u64 0, .int .u64 0], .int .i64 170]) (rsct 2 3 (T := 30) (by kernel_rfl) (by kernel_rfl) (by kernel_rfl) (lr Xg2 0)) ?_
                  have E := dI_2 (l := l) (by omega) (rI_t Ex9 c30 (rT_mk Ex32 Ex36 Ex40 (rM_mk Ex44 (rq_f (Bool.eq_false_iff.2 c49)) (rq_f (Bool.eq_false_iff.2 c101)) (rq_f (Bool.eq_false_iff.2 c127))))) (fun q => nokK (.inr c142) (Ok.msg q.2 rfl))
                  exact ⟨by rw [← E]; rfl, BB⟩
                · refine tq 93 (.bool (decide ((10 : Int) < x44))) (.bool false) (congrArg Value.bool (decide_eq_false c142)) ?_
                  refine t 94 (.bool false) ?_
                  refine gl_nil ?_
                  refine ge_then ?_
                  refine gc_fr [(2, pg g2), (3, .int .i64 0), (4, pg g6), (5, pg g8), (94, .bool false)] (by kernel_rfl) ?_
                  refine gc_no ?_
                  refine gc_skip ?_
                  refine ge_bn ?_
                  refine ge_then ?_
                  refine gc_seq ?_
                  refine gc_seq ?_
                  refine gc_reg ?_
                  refine t 96 (pg g6) ?_
                  refine tc 97 25 #[pg g6] (rfEnd RD) ?_
                  rintro _ v144 ⟨rfl, RX, U⟩
                  refine ⟨_, rfl, ?_⟩
                  replace BB := But.below U BB (by omega) (Nat.le_refl _)
                  replace Xg2 := But.blk U Xg2 (show g2 ≠ g6 by omega)
                  replace Xg8 := But.blk U Xg8 (show g8 ≠ g6 by omega)
                  clear U
                  clear RD RX
                  by_cases c145 : (endE s45.1 s45.2 : Int) = 0
                  · refine tq 98 (.bool ((endE s45.1 s45.2 : Int) != 0)) (.bool false) (congrArg Value.bool (bne_eq_false_iff_eq.2 c145)) ?_
                    refine gl_nil ?_
                    refine ge_then ?_
                    refine gc_no ?_
                    refine gc_skip ?_
                    refine ge_then ?_
                    refine gc_seq ?_
                    refine gc_reg ?_
                    refine tlr 100 [.int .i64 1, .int .u64 x32, .int .u64 x36, .int .u64 x40, .int .i64 x44, .int .u64 0, .int .u64 0, .int .u64 0, .int .i64 0, .int .u64 0, .int .u64 0] Xg8 0 ?_
                    refine ts Xg2 0 (.agg #[.int .i64 1, .int .u64 x32, .int .u64 x36, .int .u64 x40, .int .i64 x44, .int .u64 0, .int .u64 0, .int .u64 0, .int .i64 0, .int .u64 0, .int .u64 0]) [.int .i64 1, .int .u64 x32, .int .u64 x36, .int .u64 x40, .int .i64 x44, .int .u64 0, .int .u64 0, .int .u64 0, .int .i64 0, .int .u64 0, .int .u64 0] [.int .i64 1, .int .u64 x32, .int .u64 x36, .int .u64 x40, .int .i64 x44, .int .u64 0, .int .u64 0, .int .u64 0, .int .i64 0, .int .u64 0, .int .u64 0] ?_
                    intro v146 Y C
                    replace BB := belowC BB C (by omega)
                    replace Xg8 := Xg8.chg C (show g8 ≠ g2 by omega)
                    clear C Xg2
                    have Xg2 := Y
                    clear Y
                    refine t 3 (.int .i64 0) ?_
                    refine gl_nil ?_
                    refine ge_then ?_
                    clear Xg8
                    refine gc_ret ?_
                    refine ge_ret (.tuple #[.agg #[.int .i64 1, .int .u64 x32, .int .u64 x36, .int .u64 x40, .int .i64 x44, .int .u64 0, .int .u64 0, .int .u64 0, .int .i64 0, .int .u64 0, .int .u64 0], .int .i64 0]) (rsct 2 3 (T := 30) (by kernel_rfl) (by kernel_rfl) (by kernel_rfl) (lr Xg2 0)) ?_
                    have E := dI_3 (l := l) (by omega) (rI_t Ex9 c30 (rT_mk Ex32 Ex36 Ex40 (rM_mk Ex44 (rq_f (Bool.eq_false_iff.2 c49)) (rq_f (Bool.eq_false_iff.2 c101)) (rq_f (Bool.eq_false_iff.2 c127))))) ⟨c145, .inl ⟨rfl, ⟨rfl, rfl, rfl⟩, okM_mk ⟨Int.not_lt.1 c140, Int.not_lt.1 c142⟩ (.inr rfl) (.inr rfl) (.inr rfl)⟩⟩
                    exact ⟨by rw [← E]; rfl, BB⟩
                  · refine tq 98 (.bool ((endE s45.1 s45.2 : Int) != 0)) (.bool true) (congrArg Value.bool (bne_iff_ne.2 c145)) ?_
                    refine gl_nil ?_
                    refine ge_then ?_
                    refine gc_yes ?_
                    refine gc_seq ?_
                    refine gc_reg ?_
                    refine t 99 (.agg #[.int .i64 0, .int .u64 0, .int .u64 0, .int .u64 0, .int .i64 0, .int .u64 0, .int .u64 0, .int .u64 0, .int .i64 0, .int .u64 0, .int .u64 0]) ?_
                    refine ts Xg2 0 (.agg #[.int .i64 0, .int .u64 0, .int .u64 0, .int .u64 0, .int .i64 0, .int .u64 0, .int .u64 0, .int .u64 0, .int .i64 0, .int .u64 0, .int .u64 0]) [.int .i64 0, .int .u64 0, .int .u64 0, .int .u64 0, .int .i64 0, .int .u64 0, .int .u64 0, .int .u64 0, .int .i64 0, .int .u64 0, .int .u64 0] [.int .i64 0, .int .u64 0, .int .u64 0, .int .u64 0, .int .i64 0, .int .u64 0, .int .u64 0, .int .u64 0, .int .i64 0, .int .u64 0, .int .u64 0] ?_
                    intro v147 Y C
                    replace BB := belowC BB C (by omega)
                    replace Xg8 := Xg8.chg C (show g8 ≠ g2 by omega)
                    clear C Xg2
                    have Xg2 := Y
                    clear Y
                    refine t 3 (.int .i64 170) ?_
                    refine gl_nil ?_
                    refine ge_then ?_
                    refine gc_ret ?_
                    refine ge_tr ?_
                    refine ge_ret (.tuple #[.agg #[.int .i64 0, .int .u64 0, .int .u64 0, .int .u64 0, .int .i64 0, .int .u64 0, .int .u64 0, .int .u64 0, .int .i64 0, .int .u64 0, .int .u64 0], .int .i64 170]) (rsct 2 3 (T := 30) (by kernel_rfl) (by kernel_rfl) (by kernel_rfl) (lr Xg2 0)) ?_
                    have E := dI_2 (l := l) (by omega) (rI_t Ex9 c30 (rT_mk Ex32 Ex36 Ex40 (rM_mk Ex44 (rq_f (Bool.eq_false_iff.2 c49)) (rq_f (Bool.eq_false_iff.2 c101)) (rq_f (Bool.eq_false_iff.2 c127))))) (fun q => c145 q.1)
                    exact ⟨by rw [← E]; rfl, BB⟩
      · refine tq 36 (.bool ((x9 : Int) == 84)) (.bool false) (congrArg Value.bool (beq_eq_false_iff_ne.2 c30)) ?_
        refine t 35 (.bool false) ?_
        refine gl_nil ?_
        refine ge_then ?_
        refine gc_fr [(2, pg g2), (3, .int .i64 0), (4, pg g6), (5, pg g8), (35, .bool false)] (by kernel_rfl) ?_
        refine gc_no ?_
        refine gc_seq ?_
        refine gc_reg ?_
        refine t 18 (.agg #[.int .i64 0, .int .u64 0, .int .u64 0, .int .u64 0, .int .i64 0, .int .u64 0, .int .u64 0, .int .u64 0, .int .i64 0, .int .u64 0, .int .u64 0]) ?_
        refine ts Xg2 0 (.agg #[.int .i64 0, .int .u64 0, .int .u64 0, .int .u64 0, .int .i64 0, .int .u64 0, .int .u64 0, .int .u64 0, .int .i64 0, .int .u64 0, .int .u64 0]) [.int .i64 0, .int .u64 0, .int .u64 0, .int .u64 0, .int .i64 0, .int .u64 0, .int .u64 0, .int .u64 0, .int .i64 0, .int .u64 0, .int .u64 0] [.int .i64 0, .int .u64 0, .int .u64 0, .int .u64 0, .int .i64 0, .int .u64 0, .int .u64 0, .int .u64 0, .int .i64 0, .int .u64 0, .int .u64 0] ?_
        intro v148 Y C
        replace BB := belowC BB C (by omega)
        replace RD := RfA.offB RD Xg2 rfl (by omega) (chg_but C)
        replace Xg8 := Xg8.chg C (show g8 ≠ g2 by omega)
        clear C Xg2
        have Xg2 := Y
        clear Y
        refine t 3 (.int .i64 170) ?_
        refine gl_nil ?_
        refine ge_then ?_
        refine gc_ret ?_
        refine ge_br ?_
        refine ge_tr ?_
        refine ge_ret (.tuple #[.agg #[.int .i64 0, .int .u64 0, .int .u64 0, .int .u64 0, .int .i64 0, .int .u64 0, .int .u64 0, .int .u64 0, .int .i64 0, .int .u64 0, .int .u64 0], .int .i64 170]) (rsct 2 3 (T := 30) (by kernel_rfl) (by kernel_rfl) (by kernel_rfl) (lr Xg2 0)) ?_
        have E := dI_2 (l := l) (by omega) (rI_o Ex9 c30 c12) (fun q => absurd q.2 (by decide))
        exact ⟨by rw [← E]; rfl, BB⟩
end Mg
end Go.Proofs.Ytgfglfpckjkcdaa
