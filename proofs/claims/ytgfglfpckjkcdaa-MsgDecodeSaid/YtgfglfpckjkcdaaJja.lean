/- Several texts, joined: MgF, MgR. -/
import Derived.Test.YtgfglfpckjkcdaaJia
import Derived.Test.YtgfglfpckjkcdaaJha
import Derived.Test.YtgfglfpckjkcdaaJba
import Derived.ChangeArms
import Derived.SizedLaws
namespace Go.Proofs.Ytgfglfpckjkcdaa
namespace Mg
open Go.RowKit Go.Lib Pg Lim Gl
set_option maxRecDepth 100000
set_option linter.unusedVariables false
set_option linter.unusedSimpArgs false
set_option maxHeartbeats 2000000
def bk1 : List Int := [84, 0, 0, 0, 0, 0, 0, 0, 17, 0, 0, 0, 0, 0, 0, 0, 2, 0, 0, 0, 0, 0, 0, 0, 5, 6, 0, 0, 0, 0, 0, 0, 0, 16]
def bk2 : List Int := [70, 1, 0, 0, 0, 0, 0, 0, 0, 2, 0, 0, 0, 0, 0, 0, 0, 3]
theorem in8 {x : Int} (h : decide (0 ≤ x ∧ x < 18446744073709551616) = true) : In8 x := show 0 ≤ x ∧ x < 18446744073709551616 from of_decide_eq_true h
theorem enc_is {w : World} {i : It} {l : List Int} {n : Nat} (h : Ok i) (hb : bs i = l) (hn : l.length = n) : Calls Try.prog 7 #[.agg #[.int .i64 i.k, .int .u64 i.s, .int .u64 i.q, .int .u64 i.f, .int .i64 i.m, .int .u64 i.a, .int .u64 i.b, .int .u64 i.n, .int .i64 i.z, .int .u64 i.v, .int .u64 i.h]] w fun e w' => ∃ g, e = .returned (.tuple #[.slice (some ⟨g, 0, none⟩) n n, .int .i64 0]) ∧ w.heap.size ≤ g ∧ Blk w' g (l.map (Value.int .u8)) 5 ∧ Below w.heap.size w w' := by
  subst hb hn
  refine (enc_ok h).mono ?_
  rintro e w' ⟨g, rfl, hg, X, B⟩
  exact ⟨g, rfl, hg, ⟨X.blk⟩, B⟩
theorem dec_is {w : World} {b n c : Nat} {ao : Option Addr} {l : List Int} {j : It} {x : Int} (A : ByA w b ao n c l) (hn : n ≤ 1000000000) (hd : dI l = (j, x)) : Calls Try.prog 13 #[.slice ao n c] w fun e w' => e = .returned (.tuple #[.agg #[.int .i64 j.k, .int .u64 j.s, .int .u64 j.q, .int .u64 j.f, .int .i64 j.m, .int .u64 j.a, .int .u64 j.b, .int .u64 j.n, .int .i64 j.z, .int .u64 j.v, .int .u64 j.h], .int .i64 x]) ∧ Below w.heap.size w w' := by
  have := dec_any A hn
  rw [hd] at this
  exact this
theorem rdec_is {w : World} {b n c : Nat} {ao : Option Addr} {l : List Int} {j : It} {x : Int} (A : ByA w b ao n c l) (hn : n ≤ 1000000000) (hd : dI l = (j, x)) : Calls Try.prog 14 #[.slice ao n c] w fun e w' => e = .returned (.tuple #[.agg #[.int .i64 j.k, .int .u64 j.s, .int .u64 j.q, .int .u64 j.f, .int .i64 j.m, .int .u64 j.a, .int .u64 j.b, .int .u64 j.n, .int .i64 j.z, .int .u64 j.v, .int .u64 j.h], .int .i64 x]) ∧ Below w.heap.size w w' := by
  have := rdec_any A hn
  rw [hd] at this
  exact this
theorem dec_blk {w : World} {g n : Nat} {l : List Int} {i : It} (X : Blk w g (l.map (Value.int .u8)) 5) (h : Ok i) (r : i.Rng) (hb : bs i = l) (hn : l.length = n) : Calls Try.prog 13 #[.slice (some ⟨g, 0, none⟩) n n] w fun e w' => e = .returned (.tuple #[.agg #[.int .i64 i.k, .int .u64 i.s, .int .u64 i.q, .int .u64 i.f, .int .i64 i.m, .int .u64 i.a, .int .u64 i.b, .int .u64 i.n, .int .i64 i.z, .int .u64 i.v, .int .u64 i.h], .int .i64 0]) ∧ Below w.heap.size w w' := by
  subst hb hn
  have := (bs_len i).2
  exact dec_is (blk_bya X (bs_oct i) (by omega)) (by omega) (dI_back h r)
theorem dec_app {w : World} {b c n : Nat} {ao : Option Addr} {l : List Int} {i : It} (A : ByA w b ao (l.length + 1) c (l ++ [0])) (h : Ok i) (r : i.Rng) (hb : bs i = l) (hn : n = l.length + 1) : Calls Try.prog 13 #[.slice ao n c] w fun e w' => e = .returned (.tuple #[.agg #[.int .i64 0, .int .u64 0, .int .u64 0, .int .u64 0, .int .i64 0, .int .u64 0, .int .u64 0, .int .u64 0, .int .i64 0, .int .u64 0, .int .u64 0], .int .i64 170]) ∧ Below w.heap.size w w' := by
  subst hb hn
  have := (bs_len i).2
  exact dec_is A (by omega) (dI_more h r)
theorem dec_cut {w : World} {g n : Nat} {l : List Int} {i : It} (X : Blk w g (l.map (Value.int .u8)) 5) (h : Ok i) (r : i.Rng) (hb : bs i = l) (hn : l.length = n) : Calls Try.prog 13 #[.slice (some ⟨g, 0, none⟩) (n - 1) n] w fun e w' => e = .returned (.tuple #[.agg #[.int .i64 0, .int .u64 0, .int .u64 0, .int .u64 0, .int .i64 0, .int .u64 0, .int .u64 0, .int .u64 0, .int .i64 0, .int .u64 0, .int .u64 0], .int .i64 170]) ∧ Below w.heap.size w w' := by
  subst hb hn
  have hl := (bs_len i).2
  obtain ⟨o, h1, h2, h3, h4, h5⟩ := (blk_bya X (bs_oct i) (by omega)).ex
  have A : ByA w g (some ⟨g, 0, none⟩) ((bs i).length - 1) (bs i).length ((bs i).take ((bs i).length - 1)) := ⟨0, by rw [List.length_take]; omega, by omega, h3, fun y hy => bs_oct i y (List.mem_of_mem_take hy), .inr rfl, fun k hk => by
    rw [List.length_take] at hk
    rw [Nat.zero_add]
    refine X.cell ?_
    have hk2 : k < (bs i).length := by omega
    have hk3 : k < ((bs i).take ((bs i).length - 1)).length := by rw [List.length_take]; omega
    rw [List.getElem?_map, List.getElem?_eq_getElem hk2, nth_eq hk3, List.getElem_take]
    rfl⟩
  exact dec_is A (by omega) (dI_less h r)
theorem dec_long {w : World} {g : Nat} (X : Blk w g ((List.replicate 1025 (0 : Int)).map (Value.int .u8)) 5) : Calls Try.prog 13 #[sg 1025 g] w fun e w' => e = .returned (.tuple #[.agg #[.int .i64 0, .int .u64 0, .int .u64 0, .int .u64 0, .int .i64 0, .int .u64 0, .int .u64 0, .int .u64 0, .int .i64 0, .int .u64 0, .int .u64 0], .int .i64 171]) ∧ Below w.heap.size w w' := by
  have A := blk_bya X (fun y hy => by rw [(List.mem_replicate.1 hy).2]; decide) (by rw [List.length_replicate]; decide)
  rw [List.length_replicate] at A
  exact dec_is A (by decide) (dI_1 (by rw [List.length_replicate]; decide)).symm
theorem mkN {ρ : Operand → Value} {w : World} {o : Oper} {N : Nat} (hN : N ≤ 17592186044416) (ho : ∃ x y, o.op = .makeSlice 32 x y ∧ ρ x = .int .i64 (N : Int) ∧ ρ y = .int .i64 (N : Int)) : (execOp ρ o).run Try.prog w = .ok (.value (.slice (some ⟨w.heap.size, 0, none⟩) N N)) (w.alloc (.cells ((List.replicate N (0 : Int)).map (Value.int .u8)).toArray 5)) := by
  obtain ⟨x, y, h, hx, hy⟩ := ho
  obtain ⟨i, hi, hz, hs, hb⟩ := info_parts info_u8
  have hrun := run_make (P := Try.prog) w 32 5 i (.int .u8 0) under_bytes hi hz .i64 .i64 (N : Int) (N : Int) (by omega) (by omega) (by rw [hb]; omega) (by omega)
  simp only [execOp, h, hx, hy]
  simp [hrun, Result.andThen, hs, made_u8]
theorem mkS {ρ : Operand → Value} {w : World} {o : Oper} (ho : ∃ x y, o.op = .makeSlice 32 x y ∧ ρ x = .int .i64 1025 ∧ ρ y = .int .i64 1025 := by exact ⟨_, _, rfl, by kernel_rfl, by kernel_rfl⟩) : (execOp ρ o).run Try.prog w = .ok (.value (sg 1025 w.heap.size)) (w.alloc (.cells ((List.replicate 1025 (0 : Int)).map (Value.int .u8)).toArray 5)) := mkN (N := 1025) (by decide) ho
theorem app_full2 {w : World} {g g1 n : Nat} {M : List Int} {x : Int} (h : Blk w g (M.map (Value.int .u8)) 5) (X : Blk w g1 [.int .u8 x] 5) (ho : Octets M) (hx : 0 ≤ x ∧ x < 256) (hn : M.length = n) (hl : n ≤ 100000) :
    ∃ b c w', (Builtin.append_ #[32, 32] 32 #[.slice (some ⟨g, 0, none⟩) n n, sg 1 g1]).run Try.prog w = .ok (.slice (some ⟨b, 0, none⟩) (n + 1) c) w' ∧ ByA w' b (some ⟨b, 0, none⟩) (M.length + 1) c (M ++ [x]) ∧ Below w.heap.size w w' := by
  subst hn
  exact app_full h X ho hx hl
theorem slL {ρ : Operand → Value} {w : World} {o : Oper} (g N : Nat) (h1 : 1 ≤ N) (ho : ∃ x y, o.op = .slice 32 x none (some y) none ∧ ρ x = .slice (some ⟨g, 0, none⟩) N N ∧ ρ y = .int .i64 (((N : Nat) : Int) - 1) := by exact ⟨_, _, rfl, by kernel_rfl, by kernel_rfl⟩) : (execOp ρ o).run Try.prog w = .ok (.value (.slice (some ⟨g, 0, none⟩) (N - 1) N)) w := by
  obtain ⟨x, y, h, hx, hy⟩ := ho
  have e : ((N : Nat) : Int) - 1 = ((N - 1 : Nat) : Int) := by omega
  rw [e] at hy
  obtain ⟨M, hM⟩ : ∃ M, N - 1 = M := ⟨_, rfl⟩
  rw [hM] at hy ⊢
  have : M ≤ N := by omega
  simp only [execOp, h, hx, hy, Option.map]
  go_simp
  all_goals (try omega)
theorem ByA.oct {w : World} {b n c : Nat} {ao : Option Addr} {l : List Int} (h : ByA w b ao n c l) : Octets l := by obtain ⟨o, h1, h2, h3, h4, h5⟩ := h.ex; exact h4
theorem dI_cases {l : List Int} (ho : Octets l) : (∃ j, dI l = (j, 0) ∧ Ok j ∧ j.Rng ∧ bs j = l) ∨ (∃ x, dI l = (It.zero, x) ∧ x ≠ 0) := by
  by_cases h : (dI l).2 = 0
  · have := dI_ok ho h
    exact .inl ⟨_, Prod.ext rfl h, this⟩
  · exact .inr ⟨_, Prod.ext (dI_bad h) rfl, h⟩
theorem known17 {w : World} : Calls Try.prog 6 #[] w fun e w' => e = .returned (.bool true) ∧ Below w.heap.size w w' := by
  have BB := Below.refl w.heap.size w
  refine gc_enter (n := 117) Try.func6 rfl (by kernel_rfl) (by kernel_rfl) ?_
  refine gc_seq ?_
  refine gc_reg ?_
  refine t 0 (.bool false) ?_
  refine gl_nil ?_
  refine ge_then ?_
  refine gc_seq ?_
  refine gc_reg ?_
  refine t 17 (.agg #[.int .i64 6, .int .u64 16, .int .u64 0, .int .u64 0]) ?_
  refine t 18 (.agg #[.int .u64 17, .int .u64 2, .int .u64 5, .int .i64 6, .int .u64 16, .int .u64 0, .int .u64 0]) ?_
  refine t 19 (.agg #[.int .i64 1, .int .u64 17, .int .u64 2, .int .u64 5, .int .i64 6, .int .u64 16, .int .u64 0, .int .u64 0, .int .i64 0, .int .u64 0, .int .u64 0]) ?_
  refine ta 1 [.int .i64 0, .int .u64 0, .int .u64 0, .int .u64 0, .int .i64 0, .int .u64 0, .int .u64 0, .int .u64 0, .int .i64 0, .int .u64 0, .int .u64 0] 30 (pg) ?_
  intro v1 g2 Xg2 hg2 B
  have zg2 := Nat.le_trans BB.size hg2
  replace BB := joinB BB B
  clear B
  refine ts Xg2 0 (.agg #[.int .i64 1, .int .u64 17, .int .u64 2, .int .u64 5, .int .i64 6, .int .u64 16, .int .u64 0, .int .u64 0, .int .i64 0, .int .u64 0, .int .u64 0]) [.int .i64 1, .int .u64 17, .int .u64 2, .int .u64 5, .int .i64 6, .int .u64 16, .int .u64 0, .int .u64 0, .int .i64 0, .int .u64 0, .int .u64 0] [.int .i64 1, .int .u64 17, .int .u64 2, .int .u64 5, .int .i64 6, .int .u64 16, .int .u64 0, .int .u64 0, .int .i64 0, .int .u64 0, .int .u64 0] ?_
  intro v3 Y C
  replace BB := belowC BB C (by omega)
  clear C Xg2
  have Xg2 := Y
  clear Y
  refine gl_nil ?_
  refine ge_then ?_
  refine gc_seq ?_
  refine gc_reg ?_
  refine tlr 21 [.int .i64 1, .int .u64 17, .int .u64 2, .int .u64 5, .int .i64 6, .int .u64 16, .int .u64 0, .int .u64 0, .int .i64 0, .int .u64 0, .int .u64 0] Xg2 0 ?_
  have lXg2 := Xg2.lt
  refine tc 22 7 #[.agg #[.int .i64 1, .int .u64 17, .int .u64 2, .int .u64 5, .int .i64 6, .int .u64 16, .int .u64 0, .int .u64 0, .int .i64 0, .int .u64 0, .int .u64 0]] (enc_is (i := (It.mk 1 17 2 5 6 16 0 0 0 0 0)) (l := bk1) (n := 34) (by decide) (by decide) rfl) ?_
  rintro _ v5 ⟨g4, rfl, hg4, Xg4, B⟩
  refine ⟨_, rfl, ?_⟩
  replace BB := joinB BB B
  replace Xg2 := Xg2.keep B
  clear B
  refine t 20 (.tuple #[.slice (some ⟨g4, 0, none⟩) 34 34, .int .i64 0]) ?_
  refine t 23 (.slice (some ⟨g4, 0, none⟩) 34 34) ?_
  refine t 24 (.int .i64 0) ?_
  refine t 2 (.slice (some ⟨g4, 0, none⟩) 34 34) ?_
  refine t 3 (.int .i64 0) ?_
  refine gl_nil ?_
  refine ge_then ?_
  refine gc_seq ?_
  refine gc_reg ?_
  refine t 26 (.slice (some ⟨g4, 0, none⟩) 34 34) ?_
  refine tc 27 13 #[.slice (some ⟨g4, 0, none⟩) 34 34] (dec_blk (l := bk1) (i := (It.mk 1 17 2 5 6 16 0 0 0 0 0)) Xg4 (by decide) ⟨in8 rfl, in8 rfl, in8 rfl, in8 rfl, in8 rfl, in8 rfl, in8 rfl, in8 rfl⟩ (by decide) rfl) ?_
  rintro _ v6 ⟨rfl, B⟩
  refine ⟨_, rfl, ?_⟩
  replace BB := joinB BB B
  replace Xg2 := Xg2.keep B
  replace Xg4 := Xg4.keep B
  clear B
  refine t 25 (.tuple #[.agg #[.int .i64 1, .int .u64 17, .int .u64 2, .int .u64 5, .int .i64 6, .int .u64 16, .int .u64 0, .int .u64 0, .int .i64 0, .int .u64 0, .int .u64 0], .int .i64 0]) ?_
  refine t 28 (.agg #[.int .i64 1, .int .u64 17, .int .u64 2, .int .u64 5, .int .i64 6, .int .u64 16, .int .u64 0, .int .u64 0, .int .i64 0, .int .u64 0, .int .u64 0]) ?_
  refine t 29 (.int .i64 0) ?_
  have lXg2 := Xg2.lt
  have lXg4 := Xg4.lt
  refine ta 4 [.int .i64 0, .int .u64 0, .int .u64 0, .int .u64 0, .int .i64 0, .int .u64 0, .int .u64 0, .int .u64 0, .int .i64 0, .int .u64 0, .int .u64 0] 30 (pg) ?_
  intro v7 g8 Xg8 hg8 B
  have zg8 := Nat.le_trans BB.size hg8
  replace BB := joinB BB B
  replace Xg2 := Xg2.keep B
  replace Xg4 := Xg4.keep B
  clear B
  refine ts Xg8 0 (.agg #[.int .i64 1, .int .u64 17, .int .u64 2, .int .u64 5, .int .i64 6, .int .u64 16, .int .u64 0, .int .u64 0, .int .i64 0, .int .u64 0, .int .u64 0]) [.int .i64 1, .int .u64 17, .int .u64 2, .int .u64 5, .int .i64 6, .int .u64 16, .int .u64 0, .int .u64 0, .int .i64 0, .int .u64 0, .int .u64 0] [.int .i64 1, .int .u64 17, .int .u64 2, .int .u64 5, .int .i64 6, .int .u64 16, .int .u64 0, .int .u64 0, .int .i64 0, .int .u64 0, .int .u64 0] ?_
  intro v9 Y C
  replace BB := belowC BB C (by omega)
  replace Xg2 := Xg2.chg C (show g2 ≠ g8 by omega)
  replace Xg4 := Xg4.chg C (show g4 ≠ g8 by omega)
  clear C Xg8
  have Xg8 := Y
  clear Y
  refine t 5 (.int .i64 0) ?_
  refine gl_nil ?_
  refine ge_then ?_
  refine gc_fr [(0, .bool false), (1, pg g2), (2, .slice (some ⟨g4, 0, none⟩) 34 34), (3, .int .i64 0), (4, pg g8), (5, .int .i64 0)] (by kernel_rfl) ?_
  refine gc_seq ?_
  refine gc_reg ?_
  refine t 31 (.agg #[.int .i64 1, .int .u64 2, .int .u64 3]) ?_
  refine t 32 (.agg #[.int .i64 2, .int .u64 0, .int .u64 0, .int .u64 0, .int .i64 0, .int .u64 0, .int .u64 0, .int .u64 0, .int .i64 1, .int .u64 2, .int .u64 3]) ?_
  have lXg2 := Xg2.lt
  have lXg4 := Xg4.lt
  have lXg8 := Xg8.lt
  refine tc 33 7 #[.agg #[.int .i64 2, .int .u64 0, .int .u64 0, .int .u64 0, .int .i64 0, .int .u64 0, .int .u64 0, .int .u64 0, .int .i64 1, .int .u64 2, .int .u64 3]] (enc_is (i := (It.mk 2 0 0 0 0 0 0 0 1 2 3)) (l := bk2) (n := 18) (by decide) (by decide) rfl) ?_
  rintro _ v11 ⟨g10, rfl, hg10, Xg10, B⟩
  refine ⟨_, rfl, ?_⟩
  replace BB := joinB BB B
  replace Xg2 := Xg2.keep B
  replace Xg4 := Xg4.keep B
  replace Xg8 := Xg8.keep B
  clear B
  refine t 30 (.tuple #[.slice (some ⟨g10, 0, none⟩) 18 18, .int .i64 0]) ?_
  refine t 34 (.slice (some ⟨g10, 0, none⟩) 18 18) ?_
  refine t 35 (.int .i64 0) ?_
  refine t 6 (.slice (some ⟨g10, 0, none⟩) 18 18) ?_
  refine t 7 (.int .i64 0) ?_
  refine gl_nil ?_
  refine ge_then ?_
  refine gc_seq ?_
  refine gc_seq ?_
  refine gc_reg ?_
  refine t 36 (.int .i64 0) ?_
  refine t 37 (.int .i64 0) ?_
  refine t 38 (.int .i64 0) ?_
  refine t 39 (.int .i64 0) ?_
  refine t 40 (.int .i64 0) ?_
  refine t 41 (.bool false) ?_
  refine t 42 (.bool false) ?_
  refine t 43 (.slice (some ⟨g4, 0, none⟩) 34 34) ?_
  refine t 44 (.int .i64 34) ?_
  refine t 45 (.bool false) ?_
  refine t 46 (.bool false) ?_
  refine t 47 (.bool false) ?_
  refine t 48 (.slice (some ⟨g4, 0, none⟩) 34 34) ?_
  refine t 49 (pg g4) ?_
  refine tl 50 (.int .u8 84) Xg4 0 ?_
  refine t 51 (.bool false) ?_
  refine t 52 (.bool false) ?_
  refine t 53 (.bool false) ?_
  refine t 54 (.slice (some ⟨g4, 0, none⟩) 34 34) ?_
  refine t 55 (pq g4 25) ?_
  refine tl 56 (.int .u8 6) Xg4 25 ?_
  refine t 57 (.bool false) ?_
  refine t 58 (.bool false) ?_
  refine t 59 (.bool false) ?_
  refine tlr 60 [.int .i64 1, .int .u64 17, .int .u64 2, .int .u64 5, .int .i64 6, .int .u64 16, .int .u64 0, .int .u64 0, .int .i64 0, .int .u64 0, .int .u64 0] Xg8 0 ?_
  refine tlr 61 [.int .i64 1, .int .u64 17, .int .u64 2, .int .u64 5, .int .i64 6, .int .u64 16, .int .u64 0, .int .u64 0, .int .i64 0, .int .u64 0, .int .u64 0] Xg2 0 ?_
  refine tr 62 (.bool false) (neI 1 17 2 5 6 16 0 0 0 0 0) ?_
  refine t 63 (.bool false) ?_
  refine t 64 (.bool false) ?_
  refine t 65 (.slice (some ⟨g10, 0, none⟩) 18 18) ?_
  refine t 66 (.int .i64 18) ?_
  refine t 67 (.bool false) ?_
  refine t 68 (.bool false) ?_
  refine t 69 (.bool false) ?_
  refine t 70 (.slice (some ⟨g10, 0, none⟩) 18 18) ?_
  refine t 71 (pg g10) ?_
  refine tl 72 (.int .u8 70) Xg10 0 ?_
  refine t 73 (.bool false) ?_
  refine t 74 (.bool false) ?_
  refine gl_nil ?_
  refine ge_then ?_
  clear Xg2
  clear Xg8
  refine gc_fr [(0, .bool false), (2, .slice (some ⟨g4, 0, none⟩) 34 34), (74, .bool false)] (by kernel_rfl) ?_
  refine gc_no ?_
  refine gc_skip ?_
  refine ge_then ?_
  refine gc_seq ?_
  refine gc_reg ?_
  refine t 76 (.slice (some ⟨g4, 0, none⟩) 34 34) ?_
  have lXg4 := Xg4.lt
  have lXg10 := Xg10.lt
  refine ta 77 [.int .u8 0] 5 (sg 1) ?_
  intro v12 g13 Xg13 hg13 B
  have zg13 := Nat.le_trans BB.size hg13
  replace BB := joinB BB B
  replace Xg4 := Xg4.keep B
  replace Xg10 := Xg10.keep B
  clear B
  obtain ⟨ba, ca, v14, hr, HA, B⟩ := app_full2 (M := bk1) (n := 34) Xg4 Xg13 (bs_oct (It.mk 1 17 2 5 6 16 0 0 0 0 0)) (by decide) rfl (by decide)
  refine tw 78 (.slice (some ⟨ba, 0, none⟩) (34 + 1) ca) _ (run_apB hr) ?_
  clear hr
  replace BB := joinB BB B
  replace Xg4 := Xg4.keep B
  replace Xg10 := Xg10.keep B
  replace Xg13 := Xg13.keep B
  clear B
  skip
  refine tc 79 13 #[.slice (some ⟨ba, 0, none⟩) (34 + 1) ca] (dec_app (l := bk1) (i := (It.mk 1 17 2 5 6 16 0 0 0 0 0)) HA (by decide) ⟨in8 rfl, in8 rfl, in8 rfl, in8 rfl, in8 rfl, in8 rfl, in8 rfl, in8 rfl⟩ (by decide) rfl) ?_
  rintro _ v15 ⟨rfl, B⟩
  refine ⟨_, rfl, ?_⟩
  replace BB := joinB BB B
  replace Xg4 := Xg4.keep B
  replace Xg10 := Xg10.keep B
  replace Xg13 := Xg13.keep B
  clear B
  clear HA
  refine t 75 (.tuple #[.agg #[.int .i64 0, .int .u64 0, .int .u64 0, .int .u64 0, .int .i64 0, .int .u64 0, .int .u64 0, .int .u64 0, .int .i64 0, .int .u64 0, .int .u64 0], .int .i64 170]) ?_
  refine t 80 (.agg #[.int .i64 0, .int .u64 0, .int .u64 0, .int .u64 0, .int .i64 0, .int .u64 0, .int .u64 0, .int .u64 0, .int .i64 0, .int .u64 0, .int .u64 0]) ?_
  refine t 81 (.int .i64 170) ?_
  have lXg4 := Xg4.lt
  have lXg10 := Xg10.lt
  have lXg13 := Xg13.lt
  refine ta 8 [.int .i64 0, .int .u64 0, .int .u64 0, .int .u64 0, .int .i64 0, .int .u64 0, .int .u64 0, .int .u64 0, .int .i64 0, .int .u64 0, .int .u64 0] 30 (pg) ?_
  intro v16 g17 Xg17 hg17 B
  have zg17 := Nat.le_trans BB.size hg17
  replace BB := joinB BB B
  replace Xg4 := Xg4.keep B
  replace Xg10 := Xg10.keep B
  replace Xg13 := Xg13.keep B
  clear B
  refine ts Xg17 0 (.agg #[.int .i64 0, .int .u64 0, .int .u64 0, .int .u64 0, .int .i64 0, .int .u64 0, .int .u64 0, .int .u64 0, .int .i64 0, .int .u64 0, .int .u64 0]) [.int .i64 0, .int .u64 0, .int .u64 0, .int .u64 0, .int .i64 0, .int .u64 0, .int .u64 0, .int .u64 0, .int .i64 0, .int .u64 0, .int .u64 0] [.int .i64 0, .int .u64 0, .int .u64 0, .int .u64 0, .int .i64 0, .int .u64 0, .int .u64 0, .int .u64 0, .int .i64 0, .int .u64 0, .int .u64 0] ?_
  intro v18 Y C
  replace BB := belowC BB C (by omega)
  replace Xg4 := Xg4.chg C (show g4 ≠ g17 by omega)
  replace Xg10 := Xg10.chg C (show g10 ≠ g17 by omega)
  replace Xg13 := Xg13.chg C (show g13 ≠ g17 by omega)
  clear C Xg17
  have Xg17 := Y
  clear Y
  refine t 9 (.int .i64 170) ?_
  refine gl_nil ?_
  refine ge_then ?_
  clear Xg13
  clear Xg17
  refine gc_seq ?_
  refine gc_reg ?_
  have lXg4 := Xg4.lt
  have lXg10 := Xg10.lt
  refine ta 83 ((List.replicate 1025 (0 : Int)).map (Value.int .u8)) 5 (sg 1025) ?_ (hrun := mkS)
  intro v19 g20 Xg20 hg20 B
  have zg20 := Nat.le_trans BB.size hg20
  replace BB := joinB BB B
  replace Xg4 := Xg4.keep B
  replace Xg10 := Xg10.keep B
  clear B
  refine tc 84 13 #[sg 1025 g20] (dec_long Xg20) ?_
  rintro _ v21 ⟨rfl, B⟩
  refine ⟨_, rfl, ?_⟩
  replace BB := joinB BB B
  replace Xg4 := Xg4.keep B
  replace Xg10 := Xg10.keep B
  replace Xg20 := Xg20.keep B
  clear B
  refine t 82 (.tuple #[.agg #[.int .i64 0, .int .u64 0, .int .u64 0, .int .u64 0, .int .i64 0, .int .u64 0, .int .u64 0, .int .u64 0, .int .i64 0, .int .u64 0, .int .u64 0], .int .i64 171]) ?_
  refine t 85 (.agg #[.int .i64 0, .int .u64 0, .int .u64 0, .int .u64 0, .int .i64 0, .int .u64 0, .int .u64 0, .int .u64 0, .int .i64 0, .int .u64 0, .int .u64 0]) ?_
  refine t 86 (.int .i64 171) ?_
  have lXg4 := Xg4.lt
  have lXg10 := Xg10.lt
  have lXg20 := Xg20.lt
  refine ta 10 [.int .i64 0, .int .u64 0, .int .u64 0, .int .u64 0, .int .i64 0, .int .u64 0, .int .u64 0, .int .u64 0, .int .i64 0, .int .u64 0, .int .u64 0] 30 (pg) ?_
  intro v22 g23 Xg23 hg23 B
  have zg23 := Nat.le_trans BB.size hg23
  replace BB := joinB BB B
  replace Xg4 := Xg4.keep B
  replace Xg10 := Xg10.keep B
  replace Xg20 := Xg20.keep B
  clear B
  refine ts Xg23 0 (.agg #[.int .i64 0, .int .u64 0, .int .u64 0, .int .u64 0, .int .i64 0, .int .u64 0, .int .u64 0, .int .u64 0, .int .i64 0, .int .u64 0, .int .u64 0]) [.int .i64 0, .int .u64 0, .int .u64 0, .int .u64 0, .int .i64 0, .int .u64 0, .int .u64 0, .int .u64 0, .int .i64 0, .int .u64 0, .int .u64 0] [.int .i64 0, .int .u64 0, .int .u64 0, .int .u64 0, .int .i64 0, .int .u64 0, .int .u64 0, .int .u64 0, .int .i64 0, .int .u64 0, .int .u64 0] ?_
  intro v24 Y C
  replace BB := belowC BB C (by omega)
  replace Xg4 := Xg4.chg C (show g4 ≠ g23 by omega)
  replace Xg10 := Xg10.chg C (show g10 ≠ g23 by omega)
  replace Xg20 := Xg20.chg C (show g20 ≠ g23 by omega)
  clear C Xg23
  have Xg23 := Y
  clear Y
  refine t 11 (.int .i64 171) ?_
  refine gl_nil ?_
  refine ge_then ?_
  clear Xg20
  clear Xg23
  refine gc_fr [(0, .bool false), (9, .int .i64 170), (11, .int .i64 171)] (by kernel_rfl) ?_
  refine gc_seq ?_
  refine gc_reg ?_
  refine t 88 (.agg #[.int .i64 0, .int .u64 0, .int .u64 0, .int .u64 0, .int .i64 0, .int .u64 0, .int .u64 0, .int .u64 0, .int .i64 0, .int .u64 0, .int .u64 0]) ?_
  refine tc 89 7 #[.agg #[.int .i64 0, .int .u64 0, .int .u64 0, .int .u64 0, .int .i64 0, .int .u64 0, .int .u64 0, .int .u64 0, .int .i64 0, .int .u64 0, .int .u64 0]] (enc_no (i := (It.mk 0 0 0 0 0 0 0 0 0 0 0)) (by decide)) ?_
  rintro _ v25 ⟨rfl, B⟩
  refine ⟨_, rfl, ?_⟩
  replace BB := joinB BB B
  replace Xg4 := Xg4.keep B
  replace Xg10 := Xg10.keep B
  clear B
  refine t 87 (.tuple #[.slice none 0 0, .int .i64 170]) ?_
  refine t 90 (.slice none 0 0) ?_
  refine t 91 (.int .i64 170) ?_
  refine t 12 (.slice none 0 0) ?_
  refine t 13 (.int .i64 170) ?_
  refine gl_nil ?_
  refine ge_then ?_
  refine gc_seq ?_
  refine gc_reg ?_
  refine tc 93 9 #[.int .i64 1] (Uses_any 1) ?_
  rintro _ v26 ⟨rfl, B⟩
  refine ⟨_, rfl, ?_⟩
  replace BB := joinB BB B
  replace Xg4 := Xg4.keep B
  replace Xg10 := Xg10.keep B
  clear B
  refine t 92 (.tuple #[.bool true, .bool false, .bool true]) ?_
  refine t 94 (.bool true) ?_
  refine t 95 (.bool false) ?_
  refine t 96 (.bool true) ?_
  refine t 14 (.bool true) ?_
  refine t 15 (.bool false) ?_
  refine t 16 (.bool true) ?_
  refine gl_nil ?_
  refine ge_then ?_
  refine gc_seq ?_
  refine gc_reg ?_
  refine t 97 (.int .i64 170) ?_
  refine t 98 (.bool true) ?_
  refine t 99 (.bool true) ?_
  refine t 100 (.int .i64 171) ?_
  refine t 101 (.bool true) ?_
  refine t 102 (.bool true) ?_
  refine t 103 (.bool true) ?_
  refine t 104 (.int .i64 170) ?_
  refine t 105 (.bool true) ?_
  refine t 106 (.bool true) ?_
  refine t 107 (.bool true) ?_
  refine t 108 (.bool true) ?_
  refine t 109 (.bool true) ?_
  refine t 110 (.bool true) ?_
  refine t 111 (.bool false) ?_
  refine t 112 (.bool true) ?_
  refine t 113 (.bool true) ?_
  refine t 114 (.bool true) ?_
  refine t 115 (.bool true) ?_
  refine t 116 (.bool true) ?_
  refine t 0 (.bool true) ?_
  refine gl_nil ?_
  refine ge_then ?_
  refine gc_fr [(0, .bool true)] (by kernel_rfl) ?_
  refine gc_ret ?_
  refine ge_ret (.bool true) (rs1 0 (by kernel_rfl) (by kernel_rfl)) ?_
  exact ⟨rfl, BB⟩
end Mg
end Go.Proofs.Ytgfglfpckjkcdaa

namespace Go.Proofs.Ytgfglfpckjkcdaa
namespace Mg
open Go.RowKit Go.Lib Pg Lim Go.ChangeShapes Go.WideShapes
variable {H : Type} {enc : TypeId × Value → H} {W : World} {base fuel : Nat} {spare : Nat → Bool} {held : Bool} {cs : List Value} {x : DataW H × List MemPlace}
/-- a field of a struct that was trodden -/
theorem open_field {t T : TypeId} {fs : Array Field} {f : Field} (i o n : Nat) (ht : Try.prog.underlying t = some (.struct fs)) (hf : fs[i]? = some f) (hT : f.type = T) (ho : f.offset = o) (hn : Try.prog.cellsOf T = n) (h : DataW.trod enc Try.prog W base spare held fuel t cs = some x) (hw : ∀ k ∈ x.1.weights Try.prog t, k ≤ reachBytes) :
    ∃ y m, DataW.trod enc Try.prog W base spare held m T ((cs.drop o).take n) = some y ∧ ∀ k ∈ y.1.weights Try.prog T, k ≤ reachBytes := by
  obtain ⟨xs, m, _, rfl, _, hxl, hx⟩ := DataW.trod_struct ht h
  have h1 := hx i f hf
  have hlt : i < xs.length := by
    have := (Array.getElem?_eq_some_iff.1 hf).1
    omega
  have h2 : xs[i]? = some xs[i] := List.getElem?_eq_getElem hlt
  rw [h2, hT, ho, hn] at h1
  refine ⟨xs[i], m, h1, fun k hk => hw k ?_⟩
  simp only [DataW.weights, ht]
  refine DataW.weights_mem_each (j := i) (t := T) (d := xs[i].1) ?_ ?_ k hk
  · rw [List.getElem?_map, Array.getElem?_toList, hf, ← hT]; rfl
  · rw [List.getElem?_map, h2]; rfl
theorem u64b {v : Int} (b : (Lit.int .u64 v).wf = true) : 0 ≤ v ∧ v < 18446744073709551616 := by
  have := bounds_u64 b
  omega
theorem get1 {o : Nat} {v : Value} (h : (cs.drop o).take 1 = [v]) : cs[o]? = some v := by
  have := congrArg (·[0]?) h
  simpa [List.getElem?_take, List.getElem?_drop] using this
theorem get2 {o m p : Nat} {v : Value} (h : (((cs.drop o).take m).drop p).take 1 = [v]) : cs[o + p]? = some v := by
  have h1 := get1 h
  rw [List.getElem?_take] at h1
  split at h1
  · rwa [List.getElem?_drop] at h1
  · cases h1
theorem getT {o m q : Nat} {v : Value} (h : ((cs.drop o).take m)[q]? = some v) : cs[o + q]? = some v := by
  rw [List.getElem?_take] at h
  split at h
  · rwa [List.getElem?_drop] at h
  · cases h
set_option maxRecDepth 100000 in
set_option maxHeartbeats 4000000 in
theorem item_in (hlen : cs.length = 11) (h : DataW.trod enc Try.prog W base spare held fuel 30 cs = some x) (hw : ∀ k ∈ x.1.weights Try.prog 30, k ≤ reachBytes) : ∃ i : It, i.Rng ∧ cs = [.int .i64 i.k, .int .u64 i.s, .int .u64 i.q, .int .u64 i.f, .int .i64 i.m, .int .u64 i.a, .int .u64 i.b, .int .u64 i.n, .int .i64 i.z, .int .u64 i.v, .int .u64 i.h] := by
  have cU : Try.prog.cellsOf 22 = 1 := by kernel_rfl
  have cI : Try.prog.cellsOf 3 = 1 := by kernel_rfl
  obtain ⟨y, m, g, -⟩ := open_field 0 0 1 Try.underlying30 rfl rfl rfl cI h hw
  obtain ⟨v0, e, _, b⟩ := DataW.trod_int Try.underlying3 g
  have q0 := get1 e
  clear g e b
  obtain ⟨yX, mX, gX, wX⟩ := open_field 1 1 7 Try.underlying30 rfl rfl rfl (by kernel_rfl) h hw
  obtain ⟨y, m, g, -⟩ := open_field 0 0 1 Try.underlying26 rfl rfl rfl cU gX wX
  obtain ⟨v1, e, _, b⟩ := DataW.trod_int Try.underlying22 g
  have q1 := get2 e
  have r1 := u64b b
  clear g e b
  obtain ⟨y, m, g, -⟩ := open_field 1 1 1 Try.underlying26 rfl rfl rfl cU gX wX
  obtain ⟨v2, e, _, b⟩ := DataW.trod_int Try.underlying22 g
  have q2 := get2 e
  have r2 := u64b b
  clear g e b
  obtain ⟨y, m, g, -⟩ := open_field 2 2 1 Try.underlying26 rfl rfl rfl cU gX wX
  obtain ⟨v3, e, _, b⟩ := DataW.trod_int Try.underlying22 g
  have q3 := get2 e
  have r3 := u64b b
  clear g e b
  obtain ⟨yM, mM, gM, wM⟩ := open_field 3 3 4 Try.underlying26 rfl rfl rfl (by kernel_rfl) gX wX
  obtain ⟨y, m, g, -⟩ := open_field 0 0 1 Try.underlying24 rfl rfl rfl cI gM wM
  obtain ⟨v4, e, _, b⟩ := DataW.trod_int Try.underlying3 g
  have q4 := getT <| get2 e
  clear g e b
  obtain ⟨y, m, g, -⟩ := open_field 1 1 1 Try.underlying24 rfl rfl rfl cU gM wM
  obtain ⟨v5, e, _, b⟩ := DataW.trod_int Try.underlying22 g
  have q5 := getT <| get2 e
  have r5 := u64b b
  clear g e b
  obtain ⟨y, m, g, -⟩ := open_field 2 2 1 Try.underlying24 rfl rfl rfl cU gM wM
  obtain ⟨v6, e, _, b⟩ := DataW.trod_int Try.underlying22 g
  have q6 := getT <| get2 e
  have r6 := u64b b
  clear g e b
  obtain ⟨y, m, g, -⟩ := open_field 3 3 1 Try.underlying24 rfl rfl rfl cU gM wM
  obtain ⟨v7, e, _, b⟩ := DataW.trod_int Try.underlying22 g
  have q7 := getT <| get2 e
  have r7 := u64b b
  clear g e b
  obtain ⟨yF, mF, gF, wF⟩ := open_field 2 8 3 Try.underlying30 rfl rfl rfl (by kernel_rfl) h hw
  obtain ⟨y, m, g, -⟩ := open_field 0 0 1 Try.underlying28 rfl rfl rfl cI gF wF
  obtain ⟨v8, e, _, b⟩ := DataW.trod_int Try.underlying3 g
  have q8 := get2 e
  clear g e b
  obtain ⟨y, m, g, -⟩ := open_field 1 1 1 Try.underlying28 rfl rfl rfl cU gF wF
  obtain ⟨v9, e, _, b⟩ := DataW.trod_int Try.underlying22 g
  have q9 := get2 e
  have r9 := u64b b
  clear g e b
  obtain ⟨y, m, g, -⟩ := open_field 2 2 1 Try.underlying28 rfl rfl rfl cU gF wF
  obtain ⟨v10, e, _, b⟩ := DataW.trod_int Try.underlying22 g
  have q10 := get2 e
  have r10 := u64b b
  clear g e b
  refine ⟨⟨v0, v1, v2, v3, v4, v5, v6, v7, v8, v9, v10⟩, ⟨r1, r2, r3, r5, r6, r7, r9, r10⟩, List.ext_getElem? fun k => ?_⟩
  match k with
  | 0 => exact q0
  | 1 => exact q1
  | 2 => exact q2
  | 3 => exact q3
  | 4 => exact q4
  | 5 => exact q5
  | 6 => exact q6
  | 7 => exact q7
  | 8 => exact q8
  | 9 => exact q9
  | 10 => exact q10
  | k + 11 => rw [List.getElem?_eq_none (by omega)]; rfl
end Mg
end Go.Proofs.Ytgfglfpckjkcdaa
