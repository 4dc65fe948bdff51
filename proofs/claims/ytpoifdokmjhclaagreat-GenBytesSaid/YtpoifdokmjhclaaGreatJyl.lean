/- Several texts, joined: EncM, RcT, RcRd. -/
import Derived.Test.YtpoifdokmjhclaaGreatJyb
import Derived.Test.YtpoifdokmjhclaaGreatJyk
import Derived.Test.YtpoifdokmjhclaaGreatJyd
namespace Go.Proofs.YtpoifdokmjhclaaGreat
open Go.RowKit Lim

theorem atB_src {w : World} {x : Addr} {b o : Nat} {l : List Int} (h : AtB w (some x) b o l) : ∀ j u, (l.map (Value.int .u8))[j]? = some u → w.cell? (x.add j) = some u := by
  intro j u hu
  rw [List.getElem?_map] at hu
  rcases Nat.lt_or_ge j l.length with hj | hj
  · rw [List.getElem?_eq_getElem hj] at hu
    simp at hu
    subst hu
    have hx : x = ⟨b, o, none⟩ := by
      rcases h.loc with e | e
      · subst e; simp at hj
      · simpa using e
    subst hx
    have := h.cell j hj
    rw [nth_eq hj] at this
    rw [addr_add]
    exact this
  · rw [List.getElem?_eq_none hj] at hu; simp at hu
theorem mineB_app {w : World} {B n : Nat} {v : Value} {L l : List Int} (h : w.ownsRow B 5 1 v n (L.map (Value.int .u8) ++ l.map (Value.int .u8))) (hn : n = L.length + l.length) : MineB w B v (L ++ l) := by
  unfold MineB
  rw [List.length_append, List.map_append, ← hn]
  exact h
end Go.Proofs.YtpoifdokmjhclaaGreat

namespace Go.Proofs.YtpoifdokmjhclaaGreat
namespace Rc
open Go.RowKit Go.Lib Pg Lim
attribute [local go_sem] Oper.semAt_some
theorem Blk.byt {B : Nat} {w w' : World} {g : Nat} {cs : List Value} {t : TypeId} (h : Blk w g cs t) (b : Byt B w w') (ht : t ≠ 5) : Blk w' g cs t := ⟨by rw [b.typ g _ t _ h.blk ht]; exact h.blk⟩
set_option maxHeartbeats 2000000 in
set_option maxRecDepth 100000 in
theorem ru8 {w : World} {B lb : Nat} {v : Value} {L xs : List Int} (hM : MineB w B v L) (hB : B ≤ w.heap.size) (hX : Blk w lb (xs.map (Value.int .u64)) 22) (hL : L.length ≤ 1000000) (hx : xs.length ≤ 1000) :
    Calls Tryz.prog 55 #[v, .slice (some ⟨lb, 0, none⟩) xs.length xs.length] w fun e w' => ∃ v', e = .returned v' ∧ MineB w' B v' (L ++ xs.flatMap (be 8)) ∧ Byt B w w' := by
  have HM := hid3 hM
  have HB := hid3 hB
  have HX := hid3 hX
  have hlen : ∀ j, ((xs.take j).flatMap (be 8)).length ≤ 8 * xs.length := fun j => by
    rw [List.length_flatMap]
    have e : ∀ l : List Int, (l.map (fun a => (be 8 a).length)).sum = 8 * l.length := fun l => by
      induction l with
      | nil => rfl
      | cons a l ih => rw [List.map_cons, List.sum_cons, ih, be_length, List.length_cons]; omega
    rw [e, List.length_take]
    omega
  have HL := hid3 hlen
  obtain ⟨n, hn⟩ : ∃ n, xs.length = n := ⟨_, rfl⟩
  have HN := hid3 hn
  rw [hn]
  rw [hn] at hx
  clear hM hB hX hlen hn
  go_enter Tryz.func55, Tryz.ntmps55
  go_wp2_with fail
  go_loopw [0, 5] (fun tv ti wr => ∃ j : Nat, j ≤ n ∧ ti = .int .i64 j ∧ MineB wr B tv (L ++ (xs.take j).flatMap (be 8)) ∧ Byt B w wr) (fun _ ti _ => n - (intOf ti).toNat)
  case atStart => exact ⟨0, Nat.zero_le _, rfl, by rw [List.take_zero, List.flatMap_nil, List.append_nil]; exact HM.out, Byt.of (Below.refl _ _)⟩
  case round =>
    obtain ⟨j, hj, rfl, hMj, hBj⟩ := hrel
    by_cases hlt : j < n
    · have hlt' : (j : Int) < n := by omega
      obtain ⟨x, hxj⟩ : ∃ x, xs[j]? = some x := ⟨_, List.getElem?_eq_getElem (by rw [HN.out]; exact hlt)⟩
      have c1 := (Blk.byt HX.out hBj (by decide)).cell (i := j) (v := .int .u64 x) (by rw [List.getElem?_map, hxj]; rfl)
      have t := put_any (n := 8) (x := x) hMj (Nat.le_trans HB.out hBj.size) (by decide) (by
        have := HL.out j
        rw [List.length_append]
        rw [HN.out] at this
        omega)
      have HD : Hid ((L ++ (xs.take j).flatMap (be 8)) ++ be 8 x = L ++ (xs.take (j + 1)).flatMap (be 8)) := by
        show _ = _
        rw [List.take_add_one, hxj, List.flatMap_append, List.append_assoc]
        simp
      rw [HD.out] at t
      have HBj := hid3 hBj
      obtain ⟨M, hM⟩ : ∃ M, Hid (L ++ (xs.take (j + 1)).flatMap (be 8) = M) := ⟨_, rfl⟩
      rw [hM.out] at t
      clear hMj hBj hxj
      go_wp2_with fail
      refine t.mono ?_
      rintro e w2 ⟨v2, rfl, hm, hb⟩
      have FF := hid3 (show MineB w2 B v2 M ∧ Byt B w w2 from ⟨hm, HBj.out.trans hb⟩)
      clear hm hb t c1 HBj
      go_wp2
      refine ⟨⟨j + 1, by omega, by go_num, ?_, FF.out.2⟩, by simp [intOf]; omega⟩
      rw [hM.out]; exact FF.out.1
    · obtain rfl : j = n := by omega
      rw [← HN.out, List.take_length] at hMj
      have FF := hid3 (And.intro hMj hBj)
      clear hMj hBj
      go_wp2
      go_ret
      exact ⟨_, rfl, FF.out⟩
end Rc
end Go.Proofs.YtpoifdokmjhclaaGreat

namespace Go.Proofs.YtpoifdokmjhclaaGreat
namespace Rc
open Go.RowKit Go.Lib Pg Lim Gl
/-- what a record's reading gives -/
def outR (s : RSt) : Int := if endE s.1 s.2.1 = 0 then 0 else 80
def outX (s : RSt) : Nat → Int := if endE s.1 s.2.1 = 0 then s.2.2 else fun _ => 0
theorem outX_ok {s : RSt} (h : outR s = 0) : outX s = s.2.2 := by
  unfold outR at h
  unfold outX
  split at h
  · rename_i h'; rw [if_pos h']
  · cases h
theorem outX_no {s : RSt} (h : ¬ outR s = 0) : outX s = fun _ => 0 := by
  unfold outR at h
  unfold outX
  split at h
  · exact absurd rfl h
  · rename_i h'; rw [if_neg h']
theorem out_of {s : RSt} {xs : Nat → Int} {r : Int} (h1 : endE s.1 s.2.1 = 0 → r = 0 ∧ xs = s.2.2) (h2 : endE s.1 s.2.1 ≠ 0 → r = 80 ∧ xs = fun _ => 0) : xs = outX s ∧ r = outR s := by
  unfold outX outR
  by_cases h : endE s.1 s.2.1 = 0
  · rw [if_pos h, if_pos h]; exact ⟨(h1 h).2, (h1 h).1⟩
  · rw [if_neg h, if_neg h]; exact ⟨(h2 h).2, (h2 h).1⟩
theorem But.blk {w w' : World} {b g : Nat} {cs : List Value} {t : TypeId} (h : But b w w') (X : Blk w g cs t) (hn : g ≠ b) : Blk w' g cs t := X.same (h.block g X.lt hn)
theorem chg_but {g : Nat} {w w' : World} (h : Chg (· = g) w w') : But g w w' := ⟨h.os, h.tape, h.output, h.size, fun b hb hne => h.same b hb hne⟩
def u8V : Value → Bool
  | .int .u8 _ => true
  | _ => false
theorem RfA.offB {w w' : World} {g g' b : Nat} {err : Int} {l : List Int} {cs : List Value} {t : TypeId} (h : RfA w g b err l) (X : Blk w g' cs t) (hno : cs.any u8V = false) (hne : g ≠ g') (hB : But g' w w') : RfA w' g b err l := by
  obtain ⟨ao, n, c, Y, A⟩ := h.ex
  exact ⟨ao, n, c, ⟨by rw [hB.block g Y.lt hne]; exact Y.blk⟩, A.but ⟨X.blk⟩ (fun v hv x e => by
    have := List.any_eq_false.1 hno v hv
    rw [e] at this
    exact this rfl) hB⟩
theorem jU {w : World} {g b : Nat} {s : RSt} (o : Nat) (h : RfA w g b s.1 s.2.1) : Calls Tryz.prog 25 #[pg g, .int .i64 8] w fun e w' => ∃ s', s' = rnx 0 o s ∧ e = .returned (.int .u64 (s'.2.2 o)) ∧ RfA w' g b s'.1 s'.2.1 ∧ But g w w' := by
  refine (rfU (m := 8) h (by decide)).mono ?_
  rintro e w' ⟨rfl, R, U⟩
  refine ⟨_, rfl, ?_, R, U⟩
  simp [rnx, p1]
set_option maxRecDepth 100000 in
theorem jends {w : World} {g b : Nat} {s : RSt} (h : RfA w g b s.1 s.2.1) : Calls Tryz.prog 51 #[pg g] w fun e w' => e = .returned (.int .i64 (outR s)) ∧ But g w w' := by
  refine gc_enter (n := 6) Tryz.func51 rfl (by kernel_rfl) (by kernel_rfl) ?_
  refine gc_seq ?_
  refine gc_reg ?_
  refine t 2 (.int .i64 0) ?_
  refine gl_nil ?_
  refine ge_then ?_
  refine gc_seq ?_
  refine gc_seq ?_
  refine gc_reg ?_
  refine t 3 (pg g) ?_
  refine tc 4 27 #[pg g] (rfEnd h) ?_
  rintro _ v1 ⟨rfl, -, U⟩
  refine ⟨_, rfl, ?_⟩
  by_cases c2 : (endE s.1 s.2.1 : Int) = 0
  · refine tq 5 (.bool ((endE s.1 s.2.1 : Int) != 0)) (.bool false) (congrArg Value.bool (bne_eq_false_iff_eq.2 c2)) ?_
    refine gl_nil ?_
    refine ge_then ?_
    refine gc_no ?_
    refine gc_skip ?_
    refine ge_then ?_
    refine gc_seq ?_
    refine gc_reg ?_
    refine t 2 (.int .i64 0) ?_
    refine gl_nil ?_
    refine ge_then ?_
    refine gc_ret ?_
    refine ge_ret (.int .i64 0) (rs1 2 (by kernel_rfl) (by kernel_rfl)) ?_
    exact ⟨by unfold outR; rw [if_pos c2], U⟩
  · refine tq 5 (.bool ((endE s.1 s.2.1 : Int) != 0)) (.bool true) (congrArg Value.bool (bne_iff_ne.2 c2)) ?_
    refine gl_nil ?_
    refine ge_then ?_
    refine gc_yes ?_
    refine gc_seq ?_
    refine gc_reg ?_
    refine t 2 (.int .i64 80) ?_
    refine gl_nil ?_
    refine ge_then ?_
    refine gc_ret ?_
    refine ge_tr ?_
    refine ge_ret (.int .i64 80) (rs1 2 (by kernel_rfl) (by kernel_rfl)) ?_
    exact ⟨by unfold outR; rw [if_neg c2], U⟩
def stParams (l : List Int) : RSt := thr rnx [(0, 0), (0, 1), (0, 2), (0, 3), (0, 4), (0, 5), (0, 6), (0, 7), (0, 8), (0, 9)] (0, l, fun _ => 0)
theorem outParams {w w' : World} {s : RSt} {e : Ending} (h : FinR w kd_Params 10 mkA s e w') : e = .returned (.tuple #[.agg #[.int .u64 (outX s 0), .int .u64 (outX s 1), .int .u64 (outX s 2), .int .u64 (outX s 3), .int .u64 (outX s 4), .int .u64 (outX s 5), .int .u64 (outX s 6), .int .u64 (outX s 7), .int .u64 (outX s 8), .int .u64 (outX s 9)], .int .i64 (outR s)]) ∧ Below w.heap.size w w' := by
  obtain ⟨⟨cs, xs, r, rfl, h1, h2, h3, h4⟩, B⟩ := h
  obtain ⟨e1, e2⟩ := out_of h3 h4
  subst e1 e2
  have q0 := (h2 0).1 rfl
  have q1 := (h2 1).1 rfl
  have q2 := (h2 2).1 rfl
  have q3 := (h2 3).1 rfl
  have q4 := (h2 4).1 rfl
  have q5 := (h2 5).1 rfl
  have q6 := (h2 6).1 rfl
  have q7 := (h2 7).1 rfl
  have q8 := (h2 8).1 rfl
  have q9 := (h2 9).1 rfl
  have ecs : cs = [.int .u64 (outX s 0), .int .u64 (outX s 1), .int .u64 (outX s 2), .int .u64 (outX s 3), .int .u64 (outX s 4), .int .u64 (outX s 5), .int .u64 (outX s 6), .int .u64 (outX s 7), .int .u64 (outX s 8), .int .u64 (outX s 9)] := by
    refine List.ext_getElem? fun i => ?_
    rcases Nat.lt_or_ge i 10 with hi | hi
    · match i, hi with
      | 0, _ => exact q0
      | 1, _ => exact q1
      | 2, _ => exact q2
      | 3, _ => exact q3
      | 4, _ => exact q4
      | 5, _ => exact q5
      | 6, _ => exact q6
      | 7, _ => exact q7
      | 8, _ => exact q8
      | 9, _ => exact q9
      | n + 10, h => exact absurd h (by omega)
    · rw [List.getElem?_eq_none (by omega), List.getElem?_eq_none hi]
  subst ecs
  exact ⟨rfl, B⟩
theorem oParams {w : World} {bb n c : Nat} {ao : Option Addr} {l : List Int} (A : ByA w bb ao n c l) (hn : n ≤ 1000000000) : Calls Tryz.prog 145 #[.slice ao n c] w fun e w' => e = .returned (.tuple #[.agg #[.int .u64 (outX (stParams l) 0), .int .u64 (outX (stParams l) 1), .int .u64 (outX (stParams l) 2), .int .u64 (outX (stParams l) 3), .int .u64 (outX (stParams l) 4), .int .u64 (outX (stParams l) 5), .int .u64 (outX (stParams l) 6), .int .u64 (outX (stParams l) 7), .int .u64 (outX (stParams l) 8), .int .u64 (outX (stParams l) 9)], .int .i64 (outR (stParams l))]) ∧ Below w.heap.size w w' := by
  refine (Params_any A hn (by obtain ⟨o, h1, _⟩ := A.ex; exact h1)).mono ?_
  intro e w' h
  exact outParams h
set_option maxHeartbeats 2000000 in
set_option maxRecDepth 100000 in
theorem rParams {w : World} {bb n c : Nat} {ao : Option Addr} {l : List Int} (A : ByA w bb ao n c l) :
    Calls Tryz.prog 26 #[.slice ao n c] w fun e w' => e = .returned (.tuple #[.agg #[.int .u64 (outX (stParams l) 0), .int .u64 (outX (stParams l) 1), .int .u64 (outX (stParams l) 2), .int .u64 (outX (stParams l) 3), .int .u64 (outX (stParams l) 4), .int .u64 (outX (stParams l) 5), .int .u64 (outX (stParams l) 6), .int .u64 (outX (stParams l) 7), .int .u64 (outX (stParams l) 8), .int .u64 (outX (stParams l) 9)], .int .i64 (outR (stParams l))]) ∧ Below w.heap.size w w' := by
  have BB := Below.refl w.heap.size w
  obtain ⟨s0, hs0⟩ : ∃ s : RSt, (0, l, fun _ => 0) = s := ⟨_, rfl⟩
  refine gc_enter (n := 47) Tryz.func26 rfl (by kernel_rfl) (by kernel_rfl) ?_
  refine gc_seq ?_
  refine gc_reg ?_
  refine ta 2 [.int .u64 0, .int .u64 0, .int .u64 0, .int .u64 0, .int .u64 0, .int .u64 0, .int .u64 0, .int .u64 0, .int .u64 0, .int .u64 0] 24 (pg) ?_
  intro v1 g2 Xg2 hg2 B
  have zg2 := Nat.le_trans BB.size hg2
  replace BB := joinB BB B
  clear B
  refine t 3 (.int .i64 0) ?_
  refine gl_nil ?_
  refine ge_then ?_
  refine gc_seq ?_
  refine gc_reg ?_
  refine t 7 (.slice ao n c) ?_
  refine t 8 (.agg #[.slice ao n c, .int .i64 0]) ?_
  have lXg2 := Xg2.lt
  refine ta 9 [.slice ao n c, .int .i64 0] 70 (pg) ?_
  intro v3 g4 Xg4 hg4 B
  have zg4 := Nat.le_trans BB.size hg4
  replace BB := joinB BB B
  replace Xg2 := Xg2.keep B
  clear B
  have RF : RfA v3 g4 bb s0.1 s0.2.1 := by subst hs0; exact ⟨ao, n, c, ⟨Xg4.blk⟩, A.keep BB⟩
  clear Xg4
  have lRF := RF.lt
  refine t 4 (pg g4) ?_
  refine gl_nil ?_
  refine ge_then ?_
  refine gc_seq ?_
  refine gc_reg ?_
  have lXg2 := Xg2.lt
  have lRF := RF.lt
  refine ta 5 [.int .u64 0, .int .u64 0, .int .u64 0, .int .u64 0, .int .u64 0, .int .u64 0, .int .u64 0, .int .u64 0, .int .u64 0, .int .u64 0] 24 (pg) ?_
  intro v5 g6 Xg6 hg6 B
  have zg6 := Nat.le_trans BB.size hg6
  replace BB := joinB BB B
  replace Xg2 := Xg2.keep B
  replace RF := RF.keep B
  clear B
  refine gl_nil ?_
  refine ge_then ?_
  refine gc_seq ?_
  refine gc_reg ?_
  refine t 10 (pg g4) ?_
  refine tc 11 25 #[pg g4, .int .i64 8] (jU 0 (s := s0) RF) ?_
  rintro _ v7 ⟨s1, e1, rfl, RG, U⟩
  refine ⟨_, rfl, ?_⟩
  replace BB := But.below U BB (by omega) (Nat.le_refl _)
  replace Xg2 := But.blk U Xg2 (show g2 ≠ g4 by omega)
  replace Xg6 := But.blk U Xg6 (show g6 ≠ g4 by omega)
  clear U
  replace RF := RG
  clear RG
  refine t 12 (pg g6) ?_
  refine ts Xg6 0 (.int .u64 (s1.2.2 0)) [.int .u64 (s1.2.2 0)] [.int .u64 (s1.2.2 0), .int .u64 0, .int .u64 0, .int .u64 0, .int .u64 0, .int .u64 0, .int .u64 0, .int .u64 0, .int .u64 0, .int .u64 0] ?_
  intro v8 Y C
  replace BB := belowC BB C (by omega)
  replace Xg2 := Xg2.chg C (show g2 ≠ g6 by omega)
  replace RF := RfA.offB RF Xg6 rfl (by omega) (chg_but C)
  clear C Xg6
  have Xg6 := Y
  clear Y
  refine gl_nil ?_
  refine ge_then ?_
  refine gc_seq ?_
  refine gc_reg ?_
  refine t 13 (pg g4) ?_
  refine tc 14 25 #[pg g4, .int .i64 8] (jU 1 (s := s1) RF) ?_
  rintro _ v9 ⟨s2, e2, rfl, RG, U⟩
  refine ⟨_, rfl, ?_⟩
  replace BB := But.below U BB (by omega) (Nat.le_refl _)
  replace Xg2 := But.blk U Xg2 (show g2 ≠ g4 by omega)
  replace Xg6 := But.blk U Xg6 (show g6 ≠ g4 by omega)
  clear U
  replace RF := RG
  clear RG
  refine t 15 (pq g6 1) ?_
  refine ts Xg6 1 (.int .u64 (s2.2.2 1)) [.int .u64 (s2.2.2 1)] [.int .u64 (s1.2.2 0), .int .u64 (s2.2.2 1), .int .u64 0, .int .u64 0, .int .u64 0, .int .u64 0, .int .u64 0, .int .u64 0, .int .u64 0, .int .u64 0] ?_
  intro v10 Y C
  replace BB := belowC BB C (by omega)
  replace Xg2 := Xg2.chg C (show g2 ≠ g6 by omega)
  replace RF := RfA.offB RF Xg6 rfl (by omega) (chg_but C)
  clear C Xg6
  have Xg6 := Y
  clear Y
  refine gl_nil ?_
  refine ge_then ?_
  refine gc_seq ?_
  refine gc_reg ?_
  refine t 16 (pg g4) ?_
  refine tc 17 25 #[pg g4, .int .i64 8] (jU 2 (s := s2) RF) ?_
  rintro _ v11 ⟨s3, e3, rfl, RG, U⟩
  refine ⟨_, rfl, ?_⟩
  replace BB := But.below U BB (by omega) (Nat.le_refl _)
  replace Xg2 := But.blk U Xg2 (show g2 ≠ g4 by omega)
  replace Xg6 := But.blk U Xg6 (show g6 ≠ g4 by omega)
  clear U
  replace RF := RG
  clear RG
  refine t 18 (pq g6 2) ?_
  refine ts Xg6 2 (.int .u64 (s3.2.2 2)) [.int .u64 (s3.2.2 2)] [.int .u64 (s1.2.2 0), .int .u64 (s2.2.2 1), .int .u64 (s3.2.2 2), .int .u64 0, .int .u64 0, .int .u64 0, .int .u64 0, .int .u64 0, .int .u64 0, .int .u64 0] ?_
  intro v12 Y C
  replace BB := belowC BB C (by omega)
  replace Xg2 := Xg2.chg C (show g2 ≠ g6 by omega)
  replace RF := RfA.offB RF Xg6 rfl (by omega) (chg_but C)
  clear C Xg6
  have Xg6 := Y
  clear Y
  refine gl_nil ?_
  refine ge_then ?_
  refine gc_fr [(2, pg g2), (3, .int .i64 0), (4, pg g4), (5, pg g6)] (by kernel_rfl) ?_
  refine gc_seq ?_
  refine gc_reg ?_
  refine t 19 (pg g4) ?_
  refine tc 20 25 #[pg g4, .int .i64 8] (jU 3 (s := s3) RF) ?_
  rintro _ v13 ⟨s4, e4, rfl, RG, U⟩
  refine ⟨_, rfl, ?_⟩
  replace BB := But.below U BB (by omega) (Nat.le_refl _)
  replace Xg2 := But.blk U Xg2 (show g2 ≠ g4 by omega)
  replace Xg6 := But.blk U Xg6 (show g6 ≠ g4 by omega)
  clear U
  replace RF := RG
  clear RG
  refine t 21 (pq g6 3) ?_
  refine ts Xg6 3 (.int .u64 (s4.2.2 3)) [.int .u64 (s4.2.2 3)] [.int .u64 (s1.2.2 0), .int .u64 (s2.2.2 1), .int .u64 (s3.2.2 2), .int .u64 (s4.2.2 3), .int .u64 0, .int .u64 0, .int .u64 0, .int .u64 0, .int .u64 0, .int .u64 0] ?_
  intro v14 Y C
  replace BB := belowC BB C (by omega)
  replace Xg2 := Xg2.chg C (show g2 ≠ g6 by omega)
  replace RF := RfA.offB RF Xg6 rfl (by omega) (chg_but C)
  clear C Xg6
  have Xg6 := Y
  clear Y
  refine gl_nil ?_
  refine ge_then ?_
  refine gc_seq ?_
  refine gc_reg ?_
  refine t 22 (pg g4) ?_
  refine tc 23 25 #[pg g4, .int .i64 8] (jU 4 (s := s4) RF) ?_
  rintro _ v15 ⟨s5, e5, rfl, RG, U⟩
  refine ⟨_, rfl, ?_⟩
  replace BB := But.below U BB (by omega) (Nat.le_refl _)
  replace Xg2 := But.blk U Xg2 (show g2 ≠ g4 by omega)
  replace Xg6 := But.blk U Xg6 (show g6 ≠ g4 by omega)
  clear U
  replace RF := RG
  clear RG
  refine t 24 (pq g6 4) ?_
  refine ts Xg6 4 (.int .u64 (s5.2.2 4)) [.int .u64 (s5.2.2 4)] [.int .u64 (s1.2.2 0), .int .u64 (s2.2.2 1), .int .u64 (s3.2.2 2), .int .u64 (s4.2.2 3), .int .u64 (s5.2.2 4), .int .u64 0, .int .u64 0, .int .u64 0, .int .u64 0, .int .u64 0] ?_
  intro v16 Y C
  replace BB := belowC BB C (by omega)
  replace Xg2 := Xg2.chg C (show g2 ≠ g6 by omega)
  replace RF := RfA.offB RF Xg6 rfl (by omega) (chg_but C)
  clear C Xg6
  have Xg6 := Y
  clear Y
  refine gl_nil ?_
  refine ge_then ?_
  refine gc_seq ?_
  refine gc_reg ?_
  refine t 25 (pg g4) ?_
  refine tc 26 25 #[pg g4, .int .i64 8] (jU 5 (s := s5) RF) ?_
  rintro _ v17 ⟨s6, e6, rfl, RG, U⟩
  refine ⟨_, rfl, ?_⟩
  replace BB := But.below U BB (by omega) (Nat.le_refl _)
  replace Xg2 := But.blk U Xg2 (show g2 ≠ g4 by omega)
  replace Xg6 := But.blk U Xg6 (show g6 ≠ g4 by omega)
  clear U
  replace RF := RG
  clear RG
  refine t 27 (pq g6 5) ?_
  refine ts Xg6 5 (.int .u64 (s6.2.2 5)) [.int .u64 (s6.2.2 5)] [.int .u64 (s1.2.2 0), .int .u64 (s2.2.2 1), .int .u64 (s3.2.2 2), .int .u64 (s4.2.2 3), .int .u64 (s5.2.2 4), .int .u64 (s6.2.2 5), .int .u64 0, .int .u64 0, .int .u64 0, .int .u64 0] ?_
  intro v18 Y C
  replace BB := belowC BB C (by omega)
  replace Xg2 := Xg2.chg C (show g2 ≠ g6 by omega)
  replace RF := RfA.offB RF Xg6 rfl (by omega) (chg_but C)
  clear C Xg6
  have Xg6 := Y
  clear Y
  refine gl_nil ?_
  refine ge_then ?_
  refine gc_seq ?_
  refine gc_reg ?_
  refine t 28 (pg g4) ?_
  refine tc 29 25 #[pg g4, .int .i64 8] (jU 6 (s := s6) RF) ?_
  rintro _ v19 ⟨s7, e7, rfl, RG, U⟩
  refine ⟨_, rfl, ?_⟩
  replace BB := But.below U BB (by omega) (Nat.le_refl _)
  replace Xg2 := But.blk U Xg2 (show g2 ≠ g4 by omega)
  replace Xg6 := But.blk U Xg6 (show g6 ≠ g4 by omega)
  clear U
  replace RF := RG
  clear RG
  refine t 30 (pq g6 6) ?_
  refine ts Xg6 6 (.int .u64 (s7.2.2 6)) [.int .u64 (s7.2.2 6)] [.int .u64 (s1.2.2 0), .int .u64 (s2.2.2 1), .int .u64 (s3.2.2 2), .int .u64 (s4.2.2 3), .int .u64 (s5.2.2 4), .int .u64 (s6.2.2 5), .int .u64 (s7.2.2 6), .int .u64 0, .int .u64 0, .int .u64 0] ?_
  intro v20 Y C
  replace BB := belowC BB C (by omega)
  replace Xg2 := Xg2.chg C (show g2 ≠ g6 by omega)
  replace RF := RfA.offB RF Xg6 rfl (by omega) (chg_but C)
  clear C Xg6
  have Xg6 := Y
  clear Y
  refine gl_nil ?_
  refine ge_then ?_
  refine gc_seq ?_
  refine gc_reg ?_
  refine t 31 (pg g4) ?_
  refine tc 32 25 #[pg g4, .int .i64 8] (jU 7 (s := s7) RF) ?_
  rintro _ v21 ⟨s8, e8, rfl, RG, U⟩
  refine ⟨_, rfl, ?_⟩
  replace BB := But.below U BB (by omega) (Nat.le_refl _)
  replace Xg2 := But.blk U Xg2 (show g2 ≠ g4 by omega)
  replace Xg6 := But.blk U Xg6 (show g6 ≠ g4 by omega)
  clear U
  replace RF := RG
  clear RG
  refine t 33 (pq g6 7) ?_
  refine ts Xg6 7 (.int .u64 (s8.2.2 7)) [.int .u64 (s8.2.2 7)] [.int .u64 (s1.2.2 0), .int .u64 (s2.2.2 1), .int .u64 (s3.2.2 2), .int .u64 (s4.2.2 3), .int .u64 (s5.2.2 4), .int .u64 (s6.2.2 5), .int .u64 (s7.2.2 6), .int .u64 (s8.2.2 7), .int .u64 0, .int .u64 0] ?_
  intro v22 Y C
  replace BB := belowC BB C (by omega)
  replace Xg2 := Xg2.chg C (show g2 ≠ g6 by omega)
  replace RF := RfA.offB RF Xg6 rfl (by omega) (chg_but C)
  clear C Xg6
  have Xg6 := Y
  clear Y
  refine gl_nil ?_
  refine ge_then ?_
  refine gc_seq ?_
  refine gc_reg ?_
  refine t 34 (pg g4) ?_
  refine tc 35 25 #[pg g4, .int .i64 8] (jU 8 (s := s8) RF) ?_
  rintro _ v23 ⟨s9, e9, rfl, RG, U⟩
  refine ⟨_, rfl, ?_⟩
  replace BB := But.below U BB (by omega) (Nat.le_refl _)
  replace Xg2 := But.blk U Xg2 (show g2 ≠ g4 by omega)
  replace Xg6 := But.blk U Xg6 (show g6 ≠ g4 by omega)
  clear U
  replace RF := RG
  clear RG
  refine t 36 (pq g6 8) ?_
  refine ts Xg6 8 (.int .u64 (s9.2.2 8)) [.int .u64 (s9.2.2 8)] [.int .u64 (s1.2.2 0), .int .u64 (s2.2.2 1), .int .u64 (s3.2.2 2), .int .u64 (s4.2.2 3), .int .u64 (s5.2.2 4), .int .u64 (s6.2.2 5), .int .u64 (s7.2.2 6), .int .u64 (s8.2.2 7), .int .u64 (s9.2.2 8), .int .u64 0] ?_
  intro v24 Y C
  replace BB := belowC BB C (by omega)
  replace Xg2 := Xg2.chg C (show g2 ≠ g6 by omega)
  replace RF := RfA.offB RF Xg6 rfl (by omega) (chg_but C)
  clear C Xg6
  have Xg6 := Y
  clear Y
  refine gl_nil ?_
  refine ge_then ?_
  refine gc_fr [(2, pg g2), (3, .int .i64 0), (4, pg g4), (5, pg g6)] (by kernel_rfl) ?_
  refine gc_seq ?_
  refine gc_reg ?_
  refine t 37 (pg g4) ?_
  refine tc 38 25 #[pg g4, .int .i64 8] (jU 9 (s := s9) RF) ?_
  rintro _ v25 ⟨s10, e10, rfl, RG, U⟩
  refine ⟨_, rfl, ?_⟩
  replace BB := But.below U BB (by omega) (Nat.le_refl _)
  replace Xg2 := But.blk U Xg2 (show g2 ≠ g4 by omega)
  replace Xg6 := But.blk U Xg6 (show g6 ≠ g4 by omega)
  clear U
  replace RF := RG
  clear RG
  refine t 39 (pq g6 9) ?_
  refine ts Xg6 9 (.int .u64 (s10.2.2 9)) [.int .u64 (s10.2.2 9)] [.int .u64 (s1.2.2 0), .int .u64 (s2.2.2 1), .int .u64 (s3.2.2 2), .int .u64 (s4.2.2 3), .int .u64 (s5.2.2 4), .int .u64 (s6.2.2 5), .int .u64 (s7.2.2 6), .int .u64 (s8.2.2 7), .int .u64 (s9.2.2 8), .int .u64 (s10.2.2 9)] ?_
  intro v26 Y C
  replace BB := belowC BB C (by omega)
  replace Xg2 := Xg2.chg C (show g2 ≠ g6 by omega)
  replace RF := RfA.offB RF Xg6 rfl (by omega) (chg_but C)
  clear C Xg6
  have Xg6 := Y
  clear Y
  refine gl_nil ?_
  refine ge_then ?_
  refine gc_seq ?_
  refine gc_reg ?_
  refine t 40 (pg g4) ?_
  refine tc 41 51 #[pg g4] (jends RF) ?_
  rintro _ v27 ⟨rfl, U⟩
  refine ⟨_, rfl, ?_⟩
  replace BB := But.below U BB (by omega) (Nat.le_refl _)
  replace Xg2 := But.blk U Xg2 (show g2 ≠ g4 by omega)
  replace Xg6 := But.blk U Xg6 (show g6 ≠ g4 by omega)
  clear U
  clear RF
  refine t 6 (.int .i64 (outR s10)) ?_
  refine gl_nil ?_
  refine ge_then ?_
  refine gc_seq ?_
  refine gc_seq ?_
  refine gc_reg ?_
  refine t 42 (.int .i64 (outR s10)) ?_
  by_cases c28 : (outR s10 : Int) = 0
  · refine tq 43 (.bool ((outR s10 : Int) != 0)) (.bool false) (congrArg Value.bool (bne_eq_false_iff_eq.2 c28)) ?_
    refine gl_nil ?_
    refine ge_then ?_
    refine gc_no ?_
    refine gc_skip ?_
    refine ge_then ?_
    refine gc_seq ?_
    refine gc_reg ?_
    refine tlr 46 [.int .u64 (s1.2.2 0), .int .u64 (s2.2.2 1), .int .u64 (s3.2.2 2), .int .u64 (s4.2.2 3), .int .u64 (s5.2.2 4), .int .u64 (s6.2.2 5), .int .u64 (s7.2.2 6), .int .u64 (s8.2.2 7), .int .u64 (s9.2.2 8), .int .u64 (s10.2.2 9)] Xg6 0 ?_
    refine ts Xg2 0 (.agg #[.int .u64 (s1.2.2 0), .int .u64 (s2.2.2 1), .int .u64 (s3.2.2 2), .int .u64 (s4.2.2 3), .int .u64 (s5.2.2 4), .int .u64 (s6.2.2 5), .int .u64 (s7.2.2 6), .int .u64 (s8.2.2 7), .int .u64 (s9.2.2 8), .int .u64 (s10.2.2 9)]) [.int .u64 (s1.2.2 0), .int .u64 (s2.2.2 1), .int .u64 (s3.2.2 2), .int .u64 (s4.2.2 3), .int .u64 (s5.2.2 4), .int .u64 (s6.2.2 5), .int .u64 (s7.2.2 6), .int .u64 (s8.2.2 7), .int .u64 (s9.2.2 8), .int .u64 (s10.2.2 9)] [.int .u64 (s1.2.2 0), .int .u64 (s2.2.2 1), .int .u64 (s3.2.2 2), .int .u64 (s4.2.2 3), .int .u64 (s5.2.2 4), .int .u64 (s6.2.2 5), .int .u64 (s7.2.2 6), .int .u64 (s8.2.2 7), .int .u64 (s9.2.2 8), .int .u64 (s10.2.2 9)] ?_
    intro v29 Y C
    replace BB := belowC BB C (by omega)
    replace Xg6 := Xg6.chg C (show g6 ≠ g2 by omega)
    clear C Xg2
    have Xg2 := Y
    clear Y
    refine t 3 (.int .i64 0) ?_
    refine gl_nil ?_
    refine ge_then ?_
    refine gc_ret ?_
    refine ge_ret (.tuple #[.agg #[.int .u64 (s1.2.2 0), .int .u64 (s2.2.2 1), .int .u64 (s3.2.2 2), .int .u64 (s4.2.2 3), .int .u64 (s5.2.2 4), .int .u64 (s6.2.2 5), .int .u64 (s7.2.2 6), .int .u64 (s8.2.2 7), .int .u64 (s9.2.2 8), .int .u64 (s10.2.2 9)], .int .i64 0]) (rsct 2 3 (T := 24) (by kernel_rfl) (by kernel_rfl) (by kernel_rfl) (lr Xg2 0)) ?_
    have es : s10 = (stParams l) := by rw [e10, e9, e8, e7, e6, e5, e4, e3, e2, e1, ← hs0]; rfl
    have h0 : outR (stParams l) = 0 := by rw [← es]; exact c28
    have ex : outX (stParams l) = s10.2.2 := by rw [← es]; exact outX_ok c28
    clear es
    have x0 : s1.2.2 0 = outX (stParams l) 0 := by rw [ex, e10, e9, e8, e7, e6, e5, e4, e3, e2]; rfl
    have x1 : s2.2.2 1 = outX (stParams l) 1 := by rw [ex, e10, e9, e8, e7, e6, e5, e4, e3]; rfl
    have x2 : s3.2.2 2 = outX (stParams l) 2 := by rw [ex, e10, e9, e8, e7, e6, e5, e4]; rfl
    have x3 : s4.2.2 3 = outX (stParams l) 3 := by rw [ex, e10, e9, e8, e7, e6, e5]; rfl
    have x4 : s5.2.2 4 = outX (stParams l) 4 := by rw [ex, e10, e9, e8, e7, e6]; rfl
    have x5 : s6.2.2 5 = outX (stParams l) 5 := by rw [ex, e10, e9, e8, e7]; rfl
    have x6 : s7.2.2 6 = outX (stParams l) 6 := by rw [ex, e10, e9, e8]; rfl
    have x7 : s8.2.2 7 = outX (stParams l) 7 := by rw [ex, e10, e9]; rfl
    have x8 : s9.2.2 8 = outX (stParams l) 8 := by rw [ex, e10]; rfl
    have x9 : s10.2.2 9 = outX (stParams l) 9 := by rw [ex]
    exact ⟨by rw [h0, x0, x1, x2, x3, x4, x5, x6, x7, x8, x9], BB⟩
  · refine tq 43 (.bool ((outR s10 : Int) != 0)) (.bool true) (congrArg Value.bool (bne_iff_ne.2 c28)) ?_
    refine gl_nil ?_
    refine ge_then ?_
    refine gc_yes ?_
    refine gc_seq ?_
    refine gc_reg ?_
    refine t 44 (.agg #[.int .u64 0, .int .u64 0, .int .u64 0, .int .u64 0, .int .u64 0, .int .u64 0, .int .u64 0, .int .u64 0, .int .u64 0, .int .u64 0]) ?_
    refine t 45 (.int .i64 (outR s10)) ?_
    refine ts Xg2 0 (.agg #[.int .u64 0, .int .u64 0, .int .u64 0, .int .u64 0, .int .u64 0, .int .u64 0, .int .u64 0, .int .u64 0, .int .u64 0, .int .u64 0]) [.int .u64 0, .int .u64 0, .int .u64 0, .int .u64 0, .int .u64 0, .int .u64 0, .int .u64 0, .int .u64 0, .int .u64 0, .int .u64 0] [.int .u64 0, .int .u64 0, .int .u64 0, .int .u64 0, .int .u64 0, .int .u64 0, .int .u64 0, .int .u64 0, .int .u64 0, .int .u64 0] ?_
    intro v30 Y C
    replace BB := belowC BB C (by omega)
    replace Xg6 := Xg6.chg C (show g6 ≠ g2 by omega)
    clear C Xg2
    have Xg2 := Y
    clear Y
    refine t 3 (.int .i64 (outR s10)) ?_
    refine gl_nil ?_
    refine ge_then ?_
    refine gc_ret ?_
    refine ge_tr ?_
    refine ge_ret (.tuple #[.agg #[.int .u64 0, .int .u64 0, .int .u64 0, .int .u64 0, .int .u64 0, .int .u64 0, .int .u64 0, .int .u64 0, .int .u64 0, .int .u64 0], .int .i64 (outR s10)]) (rsct 2 3 (T := 24) (by kernel_rfl) (by kernel_rfl) (by kernel_rfl) (lr Xg2 0)) ?_
    have es : s10 = (stParams l) := by rw [e10, e9, e8, e7, e6, e5, e4, e3, e2, e1, ← hs0]; rfl
    have ex : outX (stParams l) = fun _ => 0 := by rw [← es]; exact outX_no c28
    rw [es]
    exact ⟨by rw [ex], BB⟩
theorem outChain {w w' : World} {s : RSt} {e : Ending} (h : FinR w kd_Chain 2 mkA s e w') : e = .returned (.tuple #[.agg #[.int .u64 (outX s 0), .int .u64 (outX s 1)], .int .i64 (outR s)]) ∧ Below w.heap.size w w' := by
  obtain ⟨⟨cs, xs, r, rfl, h1, h2, h3, h4⟩, B⟩ := h
  obtain ⟨e1, e2⟩ := out_of h3 h4
  subst e1 e2
  have q0 := (h2 0).1 rfl
  have q1 := (h2 1).1 rfl
  have ecs : cs = [.int .u64 (outX s 0), .int .u64 (outX s 1)] := by
    refine List.ext_getElem? fun i => ?_
    rcases Nat.lt_or_ge i 2 with hi | hi
    · match i, hi with
      | 0, _ => exact q0
      | 1, _ => exact q1
      | n + 2, h => exact absurd h (by omega)
    · rw [List.getElem?_eq_none (by omega), List.getElem?_eq_none hi]
  subst ecs
  exact ⟨rfl, B⟩
def stPool (l : List Int) : RSt := thr rnx [(2, 0)] (0, l, fun _ => 0)
theorem outPool {w w' : World} {s : RSt} {e : Ending} (h : FinR w kd_Pool 1 mkA s e w') : ∃ a0 n0 c0, e = .returned (.tuple #[.agg #[.slice a0 n0 c0], .int .i64 (outR s)]) ∧ (NatW w' w.heap.size a0 n0 c0 (outX s 0) ∧ n0 ≤ 510) ∧ Below w.heap.size w w' := by
  obtain ⟨⟨cs, xs, r, rfl, h1, h2, h3, h4⟩, B⟩ := h
  obtain ⟨e1, e2⟩ := out_of h3 h4
  subst e1 e2
  obtain ⟨a0, n0, c0, q0, y0, z0⟩ := (h2 0).2.2 rfl
  have ecs : cs = [.slice a0 n0 c0] := by
    refine List.ext_getElem? fun i => ?_
    rcases Nat.lt_or_ge i 1 with hi | hi
    · match i, hi with
      | 0, _ => exact q0
      | n + 1, h => exact absurd h (by omega)
    · rw [List.getElem?_eq_none (by omega), List.getElem?_eq_none hi]
  subst ecs
  exact ⟨a0, n0, c0, rfl, ⟨y0, by omega⟩, B⟩
theorem oPool {w : World} {bb n c : Nat} {ao : Option Addr} {l : List Int} (A : ByA w bb ao n c l) (hn : n ≤ 1000000000) : Calls Tryz.prog 339 #[.slice ao n c] w fun e w' => ∃ a0 n0 c0, e = .returned (.tuple #[.agg #[.slice a0 n0 c0], .int .i64 (outR (stPool l))]) ∧ (NatW w' w.heap.size a0 n0 c0 (outX (stPool l) 0) ∧ n0 ≤ 510) ∧ Below w.heap.size w w' := by
  refine (Pool_any A hn (by obtain ⟨o, h1, _⟩ := A.ex; exact h1)).mono ?_
  intro e w' h
  exact outPool h
def stAccount (l : List Int) : RSt := thr rnx [(0, 0), (0, 1)] (0, l, fun _ => 0)
theorem outAccount {w w' : World} {s : RSt} {e : Ending} (h : FinR w kd_Account 2 mkA s e w') : e = .returned (.tuple #[.agg #[.int .u64 (outX s 0), .int .u64 (outX s 1)], .int .i64 (outR s)]) ∧ Below w.heap.size w w' := by
  obtain ⟨⟨cs, xs, r, rfl, h1, h2, h3, h4⟩, B⟩ := h
  obtain ⟨e1, e2⟩ := out_of h3 h4
  subst e1 e2
  have q0 := (h2 0).1 rfl
  have q1 := (h2 1).1 rfl
  have ecs : cs = [.int .u64 (outX s 0), .int .u64 (outX s 1)] := by
    refine List.ext_getElem? fun i => ?_
    rcases Nat.lt_or_ge i 2 with hi | hi
    · match i, hi with
      | 0, _ => exact q0
      | 1, _ => exact q1
      | n + 2, h => exact absurd h (by omega)
    · rw [List.getElem?_eq_none (by omega), List.getElem?_eq_none hi]
  subst ecs
  exact ⟨rfl, B⟩
theorem oAccount {w : World} {bb n c : Nat} {ao : Option Addr} {l : List Int} (A : ByA w bb ao n c l) (hn : n ≤ 1000000000) : Calls Tryz.prog 41 #[.slice ao n c] w fun e w' => e = .returned (.tuple #[.agg #[.int .u64 (outX (stAccount l) 0), .int .u64 (outX (stAccount l) 1)], .int .i64 (outR (stAccount l))]) ∧ Below w.heap.size w w' := by
  refine (Account_any A hn (by obtain ⟨o, h1, _⟩ := A.ex; exact h1)).mono ?_
  intro e w' h
  exact outAccount h
def stVal (l : List Int) : RSt := thr rnx [(0, 0), (0, 1), (2, 2), (1, 3), (0, 4), (1, 5), (0, 6), (2, 7), (2, 8), (2, 9)] (0, l, fun _ => 0)
theorem outVal {w w' : World} {s : RSt} {e : Ending} (h : FinR w kd_Val 10 mkA s e w') : ∃ a2 n2 c2 a7 n7 c7 a8 n8 c8 a9 n9 c9, e = .returned (.tuple #[.agg #[.int .u64 (outX s 0), .int .u64 (outX s 1), .slice a2 n2 c2, .bool (outX s 3 == 1), .int .u64 (outX s 4), .bool (outX s 5 == 1), .int .u64 (outX s 6), .slice a7 n7 c7, .slice a8 n8 c8, .slice a9 n9 c9], .int .i64 (outR s)]) ∧ (NatW w' w.heap.size a2 n2 c2 (outX s 2) ∧ n2 ≤ 510) ∧ (NatW w' w.heap.size a7 n7 c7 (outX s 7) ∧ n7 ≤ 510) ∧ (NatW w' w.heap.size a8 n8 c8 (outX s 8) ∧ n8 ≤ 510) ∧ (NatW w' w.heap.size a9 n9 c9 (outX s 9) ∧ n9 ≤ 510) ∧ Below w.heap.size w w' := by
  obtain ⟨⟨cs, xs, r, rfl, h1, h2, h3, h4⟩, B⟩ := h
  obtain ⟨e1, e2⟩ := out_of h3 h4
  subst e1 e2
  have q0 := (h2 0).1 rfl
  have q1 := (h2 1).1 rfl
  obtain ⟨a2, n2, c2, q2, y2, z2⟩ := (h2 2).2.2 rfl
  obtain ⟨t3, q3, y3⟩ := (h2 3).2.1 rfl
  have y3 : (outX s 3 == 1) = t3 := by rw [y3]; cases t3 <;> rfl
  rw [← y3] at q3
  have q4 := (h2 4).1 rfl
  obtain ⟨t5, q5, y5⟩ := (h2 5).2.1 rfl
  have y5 : (outX s 5 == 1) = t5 := by rw [y5]; cases t5 <;> rfl
  rw [← y5] at q5
  have q6 := (h2 6).1 rfl
  obtain ⟨a7, n7, c7, q7, y7, z7⟩ := (h2 7).2.2 rfl
  obtain ⟨a8, n8, c8, q8, y8, z8⟩ := (h2 8).2.2 rfl
  obtain ⟨a9, n9, c9, q9, y9, z9⟩ := (h2 9).2.2 rfl
  have ecs : cs = [.int .u64 (outX s 0), .int .u64 (outX s 1), .slice a2 n2 c2, .bool (outX s 3 == 1), .int .u64 (outX s 4), .bool (outX s 5 == 1), .int .u64 (outX s 6), .slice a7 n7 c7, .slice a8 n8 c8, .slice a9 n9 c9] := by
    refine List.ext_getElem? fun i => ?_
    rcases Nat.lt_or_ge i 10 with hi | hi
    · match i, hi with
      | 0, _ => exact q0
      | 1, _ => exact q1
      | 2, _ => exact q2
      | 3, _ => exact q3
      | 4, _ => exact q4
      | 5, _ => exact q5
      | 6, _ => exact q6
      | 7, _ => exact q7
      | 8, _ => exact q8
      | 9, _ => exact q9
      | n + 10, h => exact absurd h (by omega)
    · rw [List.getElem?_eq_none (by omega), List.getElem?_eq_none hi]
  subst ecs
  exact ⟨a2, n2, c2, a7, n7, c7, a8, n8, c8, a9, n9, c9, rfl, ⟨y2, by omega⟩, ⟨y7, by omega⟩, ⟨y8, by omega⟩, ⟨y9, by omega⟩, B⟩
theorem oVal {w : World} {bb n c : Nat} {ao : Option Addr} {l : List Int} (A : ByA w bb ao n c l) (hn : n ≤ 1000000000) : Calls Tryz.prog 43 #[.slice ao n c] w fun e w' => ∃ a2 n2 c2 a7 n7 c7 a8 n8 c8 a9 n9 c9, e = .returned (.tuple #[.agg #[.int .u64 (outX (stVal l) 0), .int .u64 (outX (stVal l) 1), .slice a2 n2 c2, .bool (outX (stVal l) 3 == 1), .int .u64 (outX (stVal l) 4), .bool (outX (stVal l) 5 == 1), .int .u64 (outX (stVal l) 6), .slice a7 n7 c7, .slice a8 n8 c8, .slice a9 n9 c9], .int .i64 (outR (stVal l))]) ∧ (NatW w' w.heap.size a2 n2 c2 (outX (stVal l) 2) ∧ n2 ≤ 510) ∧ (NatW w' w.heap.size a7 n7 c7 (outX (stVal l) 7) ∧ n7 ≤ 510) ∧ (NatW w' w.heap.size a8 n8 c8 (outX (stVal l) 8) ∧ n8 ≤ 510) ∧ (NatW w' w.heap.size a9 n9 c9 (outX (stVal l) 9) ∧ n9 ≤ 510) ∧ Below w.heap.size w w' := by
  refine (Val_any A hn (by obtain ⟨o, h1, _⟩ := A.ex; exact h1)).mono ?_
  intro e w' h
  exact outVal h
def stHistory (l : List Int) : RSt := thr rnx [(2, 0), (0, 1)] (0, l, fun _ => 0)
theorem outHistory {w w' : World} {s : RSt} {e : Ending} (h : FinR w kd_History 2 mkA s e w') : ∃ a0 n0 c0, e = .returned (.tuple #[.agg #[.slice a0 n0 c0, .int .u64 (outX s 1)], .int .i64 (outR s)]) ∧ (NatW w' w.heap.size a0 n0 c0 (outX s 0) ∧ n0 ≤ 510) ∧ Below w.heap.size w w' := by
  obtain ⟨⟨cs, xs, r, rfl, h1, h2, h3, h4⟩, B⟩ := h
  obtain ⟨e1, e2⟩ := out_of h3 h4
  subst e1 e2
  obtain ⟨a0, n0, c0, q0, y0, z0⟩ := (h2 0).2.2 rfl
  have q1 := (h2 1).1 rfl
  have ecs : cs = [.slice a0 n0 c0, .int .u64 (outX s 1)] := by
    refine List.ext_getElem? fun i => ?_
    rcases Nat.lt_or_ge i 2 with hi | hi
    · match i, hi with
      | 0, _ => exact q0
      | 1, _ => exact q1
      | n + 2, h => exact absurd h (by omega)
    · rw [List.getElem?_eq_none (by omega), List.getElem?_eq_none hi]
  subst ecs
  exact ⟨a0, n0, c0, rfl, ⟨y0, by omega⟩, B⟩
theorem oHistory {w : World} {bb n c : Nat} {ao : Option Addr} {l : List Int} (A : ByA w bb ao n c l) (hn : n ≤ 1000000000) : Calls Tryz.prog 220 #[.slice ao n c] w fun e w' => ∃ a0 n0 c0, e = .returned (.tuple #[.agg #[.slice a0 n0 c0, .int .u64 (outX (stHistory l) 1)], .int .i64 (outR (stHistory l))]) ∧ (NatW w' w.heap.size a0 n0 c0 (outX (stHistory l) 0) ∧ n0 ≤ 510) ∧ Below w.heap.size w w' := by
  refine (History_any A hn (by obtain ⟨o, h1, _⟩ := A.ex; exact h1)).mono ?_
  intro e w' h
  exact outHistory h
end Rc
end Go.Proofs.YtpoifdokmjhclaaGreat
